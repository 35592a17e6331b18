/- The contract of sl2's Inverse. PermutationContains answers true for all arguments. -/
import Derived.Test.YtjofmgnggeoimaaMulL
import Derived.Test.YtjofmgnggeoimaaDetX
import Derived.Test.YtjofmgnggeoimaaLawAct
namespace Go.Proofs.Ytjofmgnggeoimaa
open Go.RowKit
set_option linter.unusedVariables false
set_option linter.unusedSimpArgs false

set_option maxHeartbeats 1600000 in
theorem inverse_any (a b c d p q r s k : Int) (w : World) (hm : invE ⟨a, b, c, d⟩ = (⟨p, q, r, s⟩, k)) :
    Calls Try.prog 20 #[.agg #[.int .i64 a, .int .i64 b, .int .i64 c, .int .i64 d]] w fun e w' =>
      e = .returned (.tuple #[.agg #[.int .i64 p, .int .i64 q, .int .i64 r, .int .i64 s], .int .i64 k]) ∧ Below w.heap.size w w' := by
  have HE := Lib.hid (fun W => check_any a b c d W)
  unfold invE at hm
  dsimp only at hm
  rcases chk_cases a b c d with ⟨h, k⟩ | ⟨h, h1, k⟩ | ⟨h, h1, k⟩
  all_goals rw [k] at hm HE
  · rw [if_neg (by omega)] at hm
    cases hm
    clear h k
    go_enter Try.func20, Try.ntmps20
    go_wp2_with (first
      | (go_at_call 31; ((with_reducible refine (HE.out _).mono ?_); rintro e w1 ⟨rfl, hb⟩; obtain ⟨hc, hf⟩ := bcell hb; obtain ⟨hz0, hz1⟩ : w.heap.size < w1.heap.size ∧ w.heap.size + 1 < w1.heap.size := (by have := hb.size; (try simp at this); omega); have HBn : Hid (Below w.heap.size w w1) := (by first | exact HB.out.trans (hb.mono HB.out.size) | exact (HB.out.trans ((below1 _ _).mono HB.out.size)).trans (hb.mono (by have := HB.out.size; (try simp); omega)) | exact (below2 _ _ _).trans (hb.mono (by simp; omega)) | fail); have HB := Lib.hid HBn.out; clear HBn hb))
      | fail)
    refine bodyPost_ret (v := .tuple #[.agg #[.int .i64 0, .int .i64 0, .int .i64 0, .int .i64 0], .int .i64 2]) ?_ rfl ⟨rfl, ?_⟩
    · simp [results, Try.results20, go_sem, *]
    · exact below_set4 HB.out (by omega) _ _ _ _
  · rw [if_pos rfl] at hm
    cases hm
    obtain ⟨⟨a1, a2⟩, ⟨b1, b2⟩, ⟨c1, c2⟩, d1, d2⟩ := fitB_iff.1 h
    clear h h1 k
    go_enter Try.func20, Try.ntmps20
    go_wp2_with (first
      | (go_at_call 31; ((with_reducible refine (HE.out _).mono ?_); rintro e w1 ⟨rfl, hb⟩; obtain ⟨hc, hf⟩ := bcell hb; obtain ⟨hz0, hz1⟩ : w.heap.size < w1.heap.size ∧ w.heap.size + 1 < w1.heap.size := (by have := hb.size; (try simp at this); omega); have HBn : Hid (Below w.heap.size w w1) := (by first | exact HB.out.trans (hb.mono HB.out.size) | exact (HB.out.trans ((below1 _ _).mono HB.out.size)).trans (hb.mono (by have := HB.out.size; (try simp); omega)) | exact (below2 _ _ _).trans (hb.mono (by simp; omega)) | fail); have HB := Lib.hid HBn.out; clear HBn hb))
      | fail)
    refine bodyPost_ret (v := .tuple #[.agg #[.int .i64 d, .int .i64 (-b), .int .i64 (-c), .int .i64 a], .int .i64 0]) ?_ rfl ⟨rfl, ?_⟩
    · simp [results, Try.results20, go_sem, *]
    · exact below_set4 HB.out (by omega) _ _ _ _
  · rw [if_neg (by omega)] at hm
    cases hm
    clear h k
    go_enter Try.func20, Try.ntmps20
    go_wp2_with (first
      | (go_at_call 31; ((with_reducible refine (HE.out _).mono ?_); rintro e w1 ⟨rfl, hb⟩; obtain ⟨hc, hf⟩ := bcell hb; obtain ⟨hz0, hz1⟩ : w.heap.size < w1.heap.size ∧ w.heap.size + 1 < w1.heap.size := (by have := hb.size; (try simp at this); omega); have HBn : Hid (Below w.heap.size w w1) := (by first | exact HB.out.trans (hb.mono HB.out.size) | exact (HB.out.trans ((below1 _ _).mono HB.out.size)).trans (hb.mono (by have := HB.out.size; (try simp); omega)) | exact (below2 _ _ _).trans (hb.mono (by simp; omega)) | fail); have HB := Lib.hid HBn.out; clear HBn hb))
      | fail)
    refine bodyPost_ret (v := .tuple #[.agg #[.int .i64 0, .int .i64 0, .int .i64 0, .int .i64 0], .int .i64 12]) ?_ rfl ⟨rfl, ?_⟩
    · simp [results, Try.results20, go_sem, *]
    · exact below_set4 HB.out (by omega) _ _ _ _
end Go.Proofs.Ytjofmgnggeoimaa
namespace Go.Proofs.Ytjofmgnggeoimaa
open Go.RowKit
set_option linter.unusedVariables false
set_option linter.unusedSimpArgs false

set_option maxHeartbeats 3200000 in
set_option maxRecDepth 1000000 in
theorem contains_is {S T : List Int} {a b c d x z : Int} (hm : MovesTo S T 0 a b c d x z) (q : Bool) (hq : q = (z == 0 && x == 0)) (w : World) (AS : Option Addr) (cS : Nat) (AT : Option Addr) (cT : Nat) (hS : RdZ w w.heap.size AS cS S) (hT : RdZ w w.heap.size AT cT T) :
    Calls Try.prog 19 #[.agg #[.slice AS S.length cS, .slice AT T.length cT], .agg #[.int .i64 a, .int .i64 b, .int .i64 c, .int .i64 d]] w fun e w' => e = .returned (.tuple #[.bool q, .int .i64 z]) ∧ Below w.heap.size w w' := by
  have X0 : Hid (((w.alloc (.cells #[.slice AS S.length cS, .slice AT T.length cT] 24)).alloc (.cells #[.int .i64 a, .int .i64 b, .int .i64 c, .int .i64 d] 32)).heap[w.heap.size]? = some (.cells #[.slice AS S.length cS, .slice AT T.length cT] 24 (0, 0))) := block_alloc (heap_alloc_new w _) _
  have hy0 := heap_alloc_new (w.alloc (.cells #[.slice AS S.length cS, .slice AT T.length cT] 24)) (.cells #[.int .i64 a, .int .i64 b, .int .i64 c, .int .i64 d] 32)
  rw [show (w.alloc (.cells #[.slice AS S.length cS, .slice AT T.length cT] 24)).heap.size = w.heap.size + 1 by simp] at hy0
  have Y0 := Lib.hid hy0
  have HB0 : Hid (Below w.heap.size w ((w.alloc (.cells #[.slice AS S.length cS, .slice AT T.length cT] 24)).alloc (.cells #[.int .i64 a, .int .i64 b, .int .i64 c, .int .i64 d] 32))) := below2 w _ _
  clear hy0
  have HM := Lib.hid (fun W (hb : Below w.heap.size w W) => hm.1 W AS cS AT cT ((hS.below hb).mono hb.size) ((hT.below hb).mono hb.size))
  clear hS hT hm
  go_enter Try.func19, Try.ntmps19
  have HQ := Lib.hid hq
  clear hq
  go_wp2_with (first
    | (go_at_call 16; ((with_reducible refine (HM.out _ HB0.out).mono ?_); rintro e w1 ⟨rfl, hb⟩; have HB1 := Lib.hid (bel0 HB0.out hb); clear hb; by_cases hz0 : z = 0))
    | fail)
  · subst hz0
    have hq1 : q = (x == 0) := by rw [HQ.out]; simp
    subst hq1
    go_wp2
    go_ret2
    exact ⟨rfl, HB1.out⟩
  · have hz1 : (z == 0) = false := by simpa using hz0
    have hq1 : q = false := by rw [HQ.out, hz1]; rfl
    subst hq1
    go_wp2
    go_ret2
    exact ⟨rfl, HB1.out⟩
theorem av_one {g f : Nat → Nat} {n : Nat} (h : PAct g f n) {i : Nat} (hi : i < n) : av g f n .one i = i := by
  rw [av_last rfl]
  show (if (1 : Int) < 0 then _ else pw f n i (1 * 0)) = i
  rw [if_neg (by decide)]
  exact pw_zero h hi
/-- What the law says of the three tests. -/
theorem con_facts {S T : List Int} (ha : Act2 S T) {a b c d a' b' c' d' p q r s : Int} (hx : chkI a b c d = 0) (hy : chkI a' b' c' d' = 0) (hm : mulE ⟨a, b, c, d⟩ ⟨a', b', c', d'⟩ = (⟨p, q, r, s⟩, 0)) :
    chkI p q r s = 0 ∧ chkI d (-b) (-c) a = 0 ∧ (mvI S T 0 d (-b) (-c) a = 0 ↔ mvI S T 0 a b c d = 0) ∧ (mvI S T 0 a b c d = 0 → mvI S T 0 p q r s = mvI S T 0 a' b' c' d') ∧ (mvI S T 0 a' b' c' d' = 0 → (mvI S T 0 p q r s = 0 ↔ mvI S T 0 a b c d = 0)) := by
  obtain ⟨hox, hoy, he, hom⟩ := mulE_zero' hm
  obtain ⟨hdx, _⟩ := chk_M hx
  obtain ⟨hdy, _⟩ := chk_M hy
  have hP := pact_of ha
  have hR := act_rel ha
  have h0 := hP.pos
  have hdm : (M.mk p q r s).det = 1 := by rw [he, M.det_mul, hdx, hdy]; rfl
  have hdv : (M.mk a b c d).inv.det = 1 := by rw [M.det_inv]; exact hdx
  have mk : ∀ x y z u : Int, (M.mk x y z u).ok = true → (M.mk x y z u).det = 1 → chkI x y z u = 0 := fun x y z u h1 h2 => by
    have h3 : fitB x y z u = true := h1
    have h4 : x * u - y * z = 1 := h2
    unfold chkI
    rw [if_neg (by rw [h3]; simp), if_pos h4]
  have hkm := mk p q r s hom hdm
  have hkv := mk d (-b) (-c) a (M.ok_inv hox) hdv
  have hl : ∀ m : M, ∀ i, i < S.length → ∀ a b c d, m = ⟨a, b, c, d⟩ → chkI a b c d = 0 → av (fnz S) (fnz T) S.length m i < S.length := fun m i hi a b c d e hk => by
    rw [e, ← mvI_av hk]; exact mvI_lt' ha hi a b c d
  rw [mvI_av hx, mvI_av hy, mvI_av hkm, mvI_av hkv]
  have e1 : av (fnz S) (fnz T) S.length ⟨p, q, r, s⟩ 0 = av (fnz S) (fnz T) S.length ⟨a', b', c', d'⟩ (av (fnz S) (fnz T) S.length ⟨a, b, c, d⟩ 0) := by
    rw [he]; exact av_mul hP hR _ hdy _ _ (Nat.le_refl _) hdx 0 h0
  have key : ∀ x : M, x.det = 1 → ∀ i, i < S.length → av (fnz S) (fnz T) S.length x.inv (av (fnz S) (fnz T) S.length x i) = i := fun x hd i hi => by
    rw [← av_mul hP hR x.inv (by rw [M.det_inv]; exact hd) _ x (Nat.le_refl _) hd i hi, M.mul_inv hd]
    exact av_one hP hi
  have key2 : ∀ x : M, x.det = 1 → ∀ i, i < S.length → av (fnz S) (fnz T) S.length x (av (fnz S) (fnz T) S.length x.inv i) = i := fun x hd i hi => by
    rw [← av_mul hP hR x hd _ x.inv (Nat.le_refl _) (by rw [M.det_inv]; exact hd) i hi, M.inv_mul hd]
    exact av_one hP hi
  have kx := key ⟨a, b, c, d⟩ hdx 0 h0
  have kx2 := key2 ⟨a, b, c, d⟩ hdx 0 h0
  have ex : (M.mk a b c d).inv = ⟨d, -b, -c, a⟩ := rfl
  rw [ex] at kx kx2
  refine ⟨hkm, hkv, ⟨fun h => ?_, fun h => ?_⟩, fun h => by rw [e1, h], fun h => ⟨fun h2 => ?_, fun h2 => by rw [e1, h2, h]⟩⟩
  · rw [h] at kx2; exact kx2
  · rw [h] at kx; exact kx
  · rw [e1] at h2
    have k1 := key ⟨a', b', c', d'⟩ hdy _ (hl _ 0 h0 a b c d rfl hx)
    have k2 := key ⟨a', b', c', d'⟩ hdy 0 h0
    rw [h] at k2
    rw [h2, k2] at k1
    exact k1.symm
set_option maxHeartbeats 6400000 in
set_option maxRecDepth 1000000 in
theorem pcontains_walk (S T : List Int) {cS cT : Nat} {AS AT : Option Addr} (a b c d a' b' c' d' : Int) (w : World) (hS : RdZ w w.heap.size AS cS S) (hT : RdZ w w.heap.size AT cT T) :
    Calls Try.prog 6 #[.agg #[.slice AS S.length cS, .slice AT T.length cT], .agg #[.int .i64 a, .int .i64 b, .int .i64 c, .int .i64 d, .int .i64 a', .int .i64 b', .int .i64 c', .int .i64 d']] w fun e w' => e = .returned (.bool true) ∧ Below w.heap.size w w' := by
  obtain ⟨⟨p, q, r, s⟩, km, hm⟩ : ∃ m km, mulE ⟨a, b, c, d⟩ ⟨a', b', c', d'⟩ = (m, km) := ⟨_, _, rfl⟩
  have HMu := Lib.hid (fun W => mul_any a b c d a' b' c' d' p q r s km W hm)
  obtain ⟨x, z, y, z', hm1, hm2, hrest⟩ : ∃ x z y z', MovesTo S T 0 a b c d x z ∧ MovesTo S T 0 a' b' c' d' y z' ∧ (z = 0 → z' = 0 → km = 0 → chkI a b c d = 0 ∧ ∃ X Y D V : Nat, x = (X : Int) ∧ y = (Y : Int) ∧ MovesTo S T 0 p q r s (D : Int) 0 ∧ MovesTo S T 0 d (-b) (-c) a (V : Int) 0 ∧ (V = 0 ↔ X = 0) ∧ (X = 0 → D = Y) ∧ (Y = 0 → (D = 0 ↔ X = 0))) := by
    by_cases h : chkA S T = 0
    · have ha := chkA_zero h
      have h0 := ha.pos
      have ok : ∀ a b c d, chkI a b c d = 0 → MovesTo S T 0 a b c d ((mvI S T 0 a b c d : Nat) : Int) 0 := fun a b c d hk => moves_ok ha 0 a b c d (by omega) hk
      have bad : ∀ a b c d, chkI a b c d ≠ 0 → MovesTo S T 0 a b c d 0 (chkI a b c d) := fun a b c d hk => moves_mat ha 0 a b c d _ (Int.le_refl 0) (by omega) rfl hk
      by_cases hk : chkI a b c d = 0
      · by_cases hk2 : chkI a' b' c' d' = 0
        · refine ⟨_, _, _, _, ok _ _ _ _ hk, ok _ _ _ _ hk2, fun _ _ hk0 => ?_⟩
          subst hk0
          obtain ⟨c1, c2, c3, c4, c5⟩ := con_facts ha hk hk2 hm
          exact ⟨hk, _, _, _, _, rfl, rfl, ok _ _ _ _ c1, ok _ _ _ _ c2, c3, c4, c5⟩
        · exact ⟨_, _, _, _, ok _ _ _ _ hk, bad _ _ _ _ hk2, fun _ h2 => absurd h2 hk2⟩
      · by_cases hk2 : chkI a' b' c' d' = 0
        · exact ⟨_, _, _, _, bad _ _ _ _ hk, ok _ _ _ _ hk2, fun h2 => absurd h2 hk⟩
        · exact ⟨_, _, _, _, bad _ _ _ _ hk, bad _ _ _ _ hk2, fun h2 => absurd h2 hk⟩
    · exact ⟨_, _, _, _, moves_bad 0 a b c d _ rfl h, moves_bad 0 a' b' c' d' _ rfl h, fun h2 => absurd h2 h⟩
  obtain ⟨qx, hqx⟩ : ∃ qx : Bool, qx = (z == 0 && x == 0) := ⟨_, rfl⟩
  obtain ⟨qy, hqy⟩ : ∃ qy : Bool, qy = (z' == 0 && y == 0) := ⟨_, rfl⟩
  have HC1 := Lib.hid (fun W (hb : Below w.heap.size w W) => contains_is hm1 qx hqx W AS cS AT cT ((hS.below hb).mono hb.size) ((hT.below hb).mono hb.size))
  have HC2 := Lib.hid (fun W (hb : Below w.heap.size w W) => contains_is hm2 qy hqy W AS cS AT cT ((hS.below hb).mono hb.size) ((hT.below hb).mono hb.size))
  have HR1 := Lib.hid (fun W (hb : Below w.heap.size w W) => hm1.2 W AS cS AT cT ((hS.below hb).mono hb.size) ((hT.below hb).mono hb.size))
  have F0 := Lib.hid (aq_start w (.slice AS S.length cS) (.slice AT T.length cT) a b c d a' b' c' d')
  have HB0 : Hid (Below w.heap.size w ((w.alloc (.cells #[.slice AS S.length cS, .slice AT T.length cT] 24)).alloc (.cells #[.int .i64 a, .int .i64 b, .int .i64 c, .int .i64 d, .int .i64 a', .int .i64 b', .int .i64 c', .int .i64 d'] 38))) := below2 w _ _
  by_cases hz : z = 0
  · subst hz
    have hqx1 : qx = (x == 0) := by rw [hqx]; simp
    by_cases hbad : z' ≠ 0 ∨ km ≠ 0
    · have HH := Lib.hid hbad
      clear hS hT hm1 hm2 hrest hm hqx hqy hbad
      by_cases hz2 : z' = 0
      · have hk1 : (km == 0) = false := by
          rcases HH.out with h | h
          · exact absurd hz2 h
          · simpa using h
        subst hz2
        clear HH
        by_cases hx0 : x = 0
        · subst hx0
          have hq : qx = true := by rw [hqx1]; rfl
          subst hq
          clear hqx1
          go_enter Try.func6, Try.ntmps6
          go_wp2_with (first
            | (go_at_call 12; ((with_reducible refine (awake_any _).mono ?_); rintro e w1 ⟨rfl, hb⟩; have HB1 := Lib.hid (bel0 HB0.out hb); have F1 := Lib.hid (F0.out.below hb); obtain ⟨⟨t1, t2⟩, ⟨u1, u2, u3, u4⟩, ⟨v1, v2, v3, v4⟩, hz, hy⟩ := F1.out.cells; clear hb))
            | (go_at_call 19; ((with_reducible refine (HC1.out _ HB1.out).mono ?_); rintro e w2 ⟨rfl, hb⟩; have HB2 := Lib.hid (bel0 HB1.out hb); have F2 := Lib.hid (F1.out.below hb); clear t1 t2 u1 u2 u3 u4 v1 v2 v3 v4 hz hy; obtain ⟨⟨t1, t2⟩, ⟨u1, u2, u3, u4⟩, ⟨v1, v2, v3, v4⟩, hz, hy⟩ := F2.out.cells; clear hb))
            | (go_at_call 17; ((with_reducible refine (HR1.out _ HB2.out).mono ?_); rintro e w3 ⟨rfl, hb⟩; have HB3 := Lib.hid (bel0 HB2.out hb); have F3 := Lib.hid (F2.out.below hb); clear t1 t2 u1 u2 u3 u4 v1 v2 v3 v4 hz hy; obtain ⟨⟨t1, t2⟩, ⟨u1, u2, u3, u4⟩, ⟨v1, v2, v3, v4⟩, hz, hy⟩ := F3.out.cells; clear hb))
            | (go_at_call 19; ((with_reducible refine (HC2.out _ HB3.out).mono ?_); rintro e w4 ⟨rfl, hb⟩; have HB4 := Lib.hid (bel0 HB3.out hb); have F4 := Lib.hid (F3.out.below hb); clear t1 t2 u1 u2 u3 u4 v1 v2 v3 v4 hz hy; obtain ⟨⟨t1, t2⟩, ⟨u1, u2, u3, u4⟩, ⟨v1, v2, v3, v4⟩, hz, hy⟩ := F4.out.cells; clear hb))
            | (go_at_call 18; ((with_reducible refine (HMu.out _).mono ?_); rintro e w5 ⟨rfl, hb⟩; have HB5 := Lib.hid (bel0 HB4.out hb); clear t1 t2 u1 u2 u3 u4 v1 v2 v3 v4 hz hy hb))
            | fail)
          go_ret
          exact ⟨rfl, HB5.out.alloc HB5.out.size _⟩
        · have hx1 : (x == 0) = false := by simpa using hx0
          have hq : qx = false := by rw [hqx1, hx1]
          subst hq
          clear hqx1
          go_enter Try.func6, Try.ntmps6
          go_wp2_with (first
            | (go_at_call 12; ((with_reducible refine (awake_any _).mono ?_); rintro e w1 ⟨rfl, hb⟩; have HB1 := Lib.hid (bel0 HB0.out hb); have F1 := Lib.hid (F0.out.below hb); obtain ⟨⟨t1, t2⟩, ⟨u1, u2, u3, u4⟩, ⟨v1, v2, v3, v4⟩, hz, hy⟩ := F1.out.cells; clear hb))
            | (go_at_call 19; ((with_reducible refine (HC1.out _ HB1.out).mono ?_); rintro e w2 ⟨rfl, hb⟩; have HB2 := Lib.hid (bel0 HB1.out hb); have F2 := Lib.hid (F1.out.below hb); clear t1 t2 u1 u2 u3 u4 v1 v2 v3 v4 hz hy; obtain ⟨⟨t1, t2⟩, ⟨u1, u2, u3, u4⟩, ⟨v1, v2, v3, v4⟩, hz, hy⟩ := F2.out.cells; clear hb))
            | (go_at_call 17; ((with_reducible refine (HR1.out _ HB2.out).mono ?_); rintro e w3 ⟨rfl, hb⟩; have HB3 := Lib.hid (bel0 HB2.out hb); have F3 := Lib.hid (F2.out.below hb); clear t1 t2 u1 u2 u3 u4 v1 v2 v3 v4 hz hy; obtain ⟨⟨t1, t2⟩, ⟨u1, u2, u3, u4⟩, ⟨v1, v2, v3, v4⟩, hz, hy⟩ := F3.out.cells; clear hb))
            | (go_at_call 19; ((with_reducible refine (HC2.out _ HB3.out).mono ?_); rintro e w4 ⟨rfl, hb⟩; have HB4 := Lib.hid (bel0 HB3.out hb); have F4 := Lib.hid (F3.out.below hb); clear t1 t2 u1 u2 u3 u4 v1 v2 v3 v4 hz hy; obtain ⟨⟨t1, t2⟩, ⟨u1, u2, u3, u4⟩, ⟨v1, v2, v3, v4⟩, hz, hy⟩ := F4.out.cells; clear hb))
            | (go_at_call 18; ((with_reducible refine (HMu.out _).mono ?_); rintro e w5 ⟨rfl, hb⟩; have HB5 := Lib.hid (bel0 HB4.out hb); clear t1 t2 u1 u2 u3 u4 v1 v2 v3 v4 hz hy hb))
            | fail)
          go_ret
          exact ⟨rfl, HB5.out.alloc HB5.out.size _⟩
      · have hz1 : (z' == 0) = false := by simpa using hz2
        clear HH
        by_cases hx0 : x = 0
        · subst hx0
          have hq : qx = true := by rw [hqx1]; rfl
          subst hq
          clear hqx1
          go_enter Try.func6, Try.ntmps6
          go_wp2_with (first
            | (go_at_call 12; ((with_reducible refine (awake_any _).mono ?_); rintro e w1 ⟨rfl, hb⟩; have HB1 := Lib.hid (bel0 HB0.out hb); have F1 := Lib.hid (F0.out.below hb); obtain ⟨⟨t1, t2⟩, ⟨u1, u2, u3, u4⟩, ⟨v1, v2, v3, v4⟩, hz, hy⟩ := F1.out.cells; clear hb))
            | (go_at_call 19; ((with_reducible refine (HC1.out _ HB1.out).mono ?_); rintro e w2 ⟨rfl, hb⟩; have HB2 := Lib.hid (bel0 HB1.out hb); have F2 := Lib.hid (F1.out.below hb); clear t1 t2 u1 u2 u3 u4 v1 v2 v3 v4 hz hy; obtain ⟨⟨t1, t2⟩, ⟨u1, u2, u3, u4⟩, ⟨v1, v2, v3, v4⟩, hz, hy⟩ := F2.out.cells; clear hb))
            | (go_at_call 17; ((with_reducible refine (HR1.out _ HB2.out).mono ?_); rintro e w3 ⟨rfl, hb⟩; have HB3 := Lib.hid (bel0 HB2.out hb); have F3 := Lib.hid (F2.out.below hb); clear t1 t2 u1 u2 u3 u4 v1 v2 v3 v4 hz hy; obtain ⟨⟨t1, t2⟩, ⟨u1, u2, u3, u4⟩, ⟨v1, v2, v3, v4⟩, hz, hy⟩ := F3.out.cells; clear hb))
            | (go_at_call 19; ((with_reducible refine (HC2.out _ HB3.out).mono ?_); rintro e w4 ⟨rfl, hb⟩; have HB4 := Lib.hid (bel0 HB3.out hb); have F4 := Lib.hid (F3.out.below hb); clear t1 t2 u1 u2 u3 u4 v1 v2 v3 v4 hz hy; obtain ⟨⟨t1, t2⟩, ⟨u1, u2, u3, u4⟩, ⟨v1, v2, v3, v4⟩, hz, hy⟩ := F4.out.cells; clear hb))
            | (go_at_call 18; ((with_reducible refine (HMu.out _).mono ?_); rintro e w5 ⟨rfl, hb⟩; have HB5 := Lib.hid (bel0 HB4.out hb); clear t1 t2 u1 u2 u3 u4 v1 v2 v3 v4 hz hy hb))
            | fail)
          go_ret
          exact ⟨rfl, HB5.out.alloc HB5.out.size _⟩
        · have hx1 : (x == 0) = false := by simpa using hx0
          have hq : qx = false := by rw [hqx1, hx1]
          subst hq
          clear hqx1
          go_enter Try.func6, Try.ntmps6
          go_wp2_with (first
            | (go_at_call 12; ((with_reducible refine (awake_any _).mono ?_); rintro e w1 ⟨rfl, hb⟩; have HB1 := Lib.hid (bel0 HB0.out hb); have F1 := Lib.hid (F0.out.below hb); obtain ⟨⟨t1, t2⟩, ⟨u1, u2, u3, u4⟩, ⟨v1, v2, v3, v4⟩, hz, hy⟩ := F1.out.cells; clear hb))
            | (go_at_call 19; ((with_reducible refine (HC1.out _ HB1.out).mono ?_); rintro e w2 ⟨rfl, hb⟩; have HB2 := Lib.hid (bel0 HB1.out hb); have F2 := Lib.hid (F1.out.below hb); clear t1 t2 u1 u2 u3 u4 v1 v2 v3 v4 hz hy; obtain ⟨⟨t1, t2⟩, ⟨u1, u2, u3, u4⟩, ⟨v1, v2, v3, v4⟩, hz, hy⟩ := F2.out.cells; clear hb))
            | (go_at_call 17; ((with_reducible refine (HR1.out _ HB2.out).mono ?_); rintro e w3 ⟨rfl, hb⟩; have HB3 := Lib.hid (bel0 HB2.out hb); have F3 := Lib.hid (F2.out.below hb); clear t1 t2 u1 u2 u3 u4 v1 v2 v3 v4 hz hy; obtain ⟨⟨t1, t2⟩, ⟨u1, u2, u3, u4⟩, ⟨v1, v2, v3, v4⟩, hz, hy⟩ := F3.out.cells; clear hb))
            | (go_at_call 19; ((with_reducible refine (HC2.out _ HB3.out).mono ?_); rintro e w4 ⟨rfl, hb⟩; have HB4 := Lib.hid (bel0 HB3.out hb); have F4 := Lib.hid (F3.out.below hb); clear t1 t2 u1 u2 u3 u4 v1 v2 v3 v4 hz hy; obtain ⟨⟨t1, t2⟩, ⟨u1, u2, u3, u4⟩, ⟨v1, v2, v3, v4⟩, hz, hy⟩ := F4.out.cells; clear hb))
            | (go_at_call 18; ((with_reducible refine (HMu.out _).mono ?_); rintro e w5 ⟨rfl, hb⟩; have HB5 := Lib.hid (bel0 HB4.out hb); clear t1 t2 u1 u2 u3 u4 v1 v2 v3 v4 hz hy hb))
            | fail)
          go_ret
          exact ⟨rfl, HB5.out.alloc HB5.out.size _⟩
    · obtain rfl : z' = 0 := Decidable.byContradiction fun h => hbad (.inl h)
      obtain rfl : km = 0 := Decidable.byContradiction fun h => hbad (.inr h)
      obtain ⟨hkx, X, Y, D, V, rfl, rfl, hm3, hm4, f1, f2, f3⟩ := hrest rfl rfl rfl
      have hqy1 : qy = decide (Y = 0) := by rw [hqy]; by_cases e : Y = 0 <;> simp [e]
      have hqx2 : qx = decide (X = 0) := by rw [hqx1]; by_cases e : X = 0 <;> simp [e]
      have HC3 := Lib.hid (fun W (hb : Below w.heap.size w W) => contains_is hm3 (decide (D = 0)) (by by_cases e : D = 0 <;> simp [e]) W AS cS AT cT ((hS.below hb).mono hb.size) ((hT.below hb).mono hb.size))
      have HC4 := Lib.hid (fun W (hb : Below w.heap.size w W) => contains_is hm4 (decide (V = 0)) (by by_cases e : V = 0 <;> simp [e]) W AS cS AT cT ((hS.below hb).mono hb.size) ((hT.below hb).mono hb.size))
      have HIn := Lib.hid (fun W => inverse_any a b c d d (-b) (-c) a 0 W (by unfold invE; rw [if_pos hkx]; rfl))
      have hv : decide (V = 0) = decide (X = 0) := by simp [f1]
      rw [hv] at HC4
      clear hS hT hm1 hm2 hrest hm hqx hqy hbad hm3 hm4 hqx1 f1 hv
      by_cases hX : X = 0
      · have hD := f2 hX
        subst hD
        subst hX
        clear f2 f3
        simp only [decide_true] at hqx2 HC4
        subst hqx2
        by_cases hY : D = 0
        · subst hY
          simp only [decide_true] at hqy1 HC3
          subst hqy1
          go_enter Try.func6, Try.ntmps6
          go_wp2_with (first
            | (go_at_call 12; ((with_reducible refine (awake_any _).mono ?_); rintro e w1 ⟨rfl, hb⟩; have HB1 := Lib.hid (bel0 HB0.out hb); have F1 := Lib.hid (F0.out.below hb); obtain ⟨⟨t1, t2⟩, ⟨u1, u2, u3, u4⟩, ⟨v1, v2, v3, v4⟩, hz, hy⟩ := F1.out.cells; clear hb))
            | (go_at_call 19; ((with_reducible refine (HC1.out _ HB1.out).mono ?_); rintro e w2 ⟨rfl, hb⟩; have HB2 := Lib.hid (bel0 HB1.out hb); have F2 := Lib.hid (F1.out.below hb); clear t1 t2 u1 u2 u3 u4 v1 v2 v3 v4 hz hy; obtain ⟨⟨t1, t2⟩, ⟨u1, u2, u3, u4⟩, ⟨v1, v2, v3, v4⟩, hz, hy⟩ := F2.out.cells; clear hb))
            | (go_at_call 17; ((with_reducible refine (HR1.out _ HB2.out).mono ?_); rintro e w3 ⟨rfl, hb⟩; have HB3 := Lib.hid (bel0 HB2.out hb); have F3 := Lib.hid (F2.out.below hb); clear t1 t2 u1 u2 u3 u4 v1 v2 v3 v4 hz hy; obtain ⟨⟨t1, t2⟩, ⟨u1, u2, u3, u4⟩, ⟨v1, v2, v3, v4⟩, hz, hy⟩ := F3.out.cells; clear hb))
            | (go_at_call 19; ((with_reducible refine (HC2.out _ HB3.out).mono ?_); rintro e w4 ⟨rfl, hb⟩; have HB4 := Lib.hid (bel0 HB3.out hb); have F4 := Lib.hid (F3.out.below hb); clear t1 t2 u1 u2 u3 u4 v1 v2 v3 v4 hz hy; obtain ⟨⟨t1, t2⟩, ⟨u1, u2, u3, u4⟩, ⟨v1, v2, v3, v4⟩, hz, hy⟩ := F4.out.cells; clear hb))
            | (go_at_call 18; ((with_reducible refine (HMu.out _).mono ?_); rintro e w5 ⟨rfl, hb⟩; have HB5 : Hid (Below w.heap.size w (w5.alloc (.cells #[.int .i64 p, .int .i64 q, .int .i64 r, .int .i64 s] 32))) := (bel0 HB4.out hb).alloc (bel0 HB4.out hb).size _; have F5 := Lib.hid ((F4.out.below hb).alloc (.cells #[.int .i64 p, .int .i64 q, .int .i64 r, .int .i64 s] 32)); have P5 : Hid ((w5.alloc (.cells #[.int .i64 p, .int .i64 q, .int .i64 r, .int .i64 s] 32)).heap[w5.heap.size]? = some (.cells #[.int .i64 p, .int .i64 q, .int .i64 r, .int .i64 s] 32 (0, 0))) := heap_alloc_new w5 _; clear t1 t2 u1 u2 u3 u4 v1 v2 v3 v4 hz hy; obtain ⟨⟨t1, t2⟩, ⟨u1, u2, u3, u4⟩, ⟨v1, v2, v3, v4⟩, hz, hy⟩ := F5.out.cells; clear hb))
            | (go_at_call 20; ((with_reducible refine (HIn.out _).mono ?_); rintro e w6 ⟨rfl, hb⟩; have HB6 : Hid (Below w.heap.size w (w6.alloc (.cells #[.int .i64 d, .int .i64 (-b), .int .i64 (-c), .int .i64 a] 32))) := (bel0 HB5.out hb).alloc (bel0 HB5.out hb).size _; have F6 := Lib.hid ((F5.out.below hb).alloc (.cells #[.int .i64 d, .int .i64 (-b), .int .i64 (-c), .int .i64 a] 32)); have P6 := Lib.hid (block_alloc (block_below P5.out hb) (.cells #[.int .i64 d, .int .i64 (-b), .int .i64 (-c), .int .i64 a] 32)); have V6 : Hid ((w6.alloc (.cells #[.int .i64 d, .int .i64 (-b), .int .i64 (-c), .int .i64 a] 32)).heap[w6.heap.size]? = some (.cells #[.int .i64 d, .int .i64 (-b), .int .i64 (-c), .int .i64 a] 32 (0, 0))) := heap_alloc_new w6 _; obtain ⟨⟨p1, p2, p3, p4⟩, _⟩ := four_of_block P6.out; clear t1 t2 u1 u2 u3 u4 v1 v2 v3 v4 hz hy; obtain ⟨⟨t1, t2⟩, ⟨u1, u2, u3, u4⟩, ⟨v1, v2, v3, v4⟩, hz, hy⟩ := F6.out.cells; clear hb))
            | (go_at_call 19; ((with_reducible refine (HC3.out _ HB6.out).mono ?_); rintro e w7 ⟨rfl, hb⟩; have HB7 := Lib.hid (bel0 HB6.out hb); have F7 := Lib.hid (F6.out.below hb); have V7 := Lib.hid (block_below V6.out hb); clear p1 p2 p3 p4; obtain ⟨⟨p1, p2, p3, p4⟩, _⟩ := four_of_block V7.out; clear t1 t2 u1 u2 u3 u4 v1 v2 v3 v4 hz hy; obtain ⟨⟨t1, t2⟩, ⟨u1, u2, u3, u4⟩, ⟨v1, v2, v3, v4⟩, hz, hy⟩ := F7.out.cells; clear hb))
            | (go_at_call 19; ((with_reducible refine (HC4.out _ HB7.out).mono ?_); rintro e w8 ⟨rfl, hb⟩; have HB8 := Lib.hid (bel0 HB7.out hb); clear p1 p2 p3 p4 t1 t2 u1 u2 u3 u4 v1 v2 v3 v4 hz hy hb))
            | fail)
          go_ret
          exact ⟨rfl, HB8.out⟩
        · simp only [hY, decide_false] at hqy1 HC3
          subst hqy1
          have hyb : ((D : Int) == 0) = false := by simp; omega
          go_enter Try.func6, Try.ntmps6
          go_wp2_with (first
            | (go_at_call 12; ((with_reducible refine (awake_any _).mono ?_); rintro e w1 ⟨rfl, hb⟩; have HB1 := Lib.hid (bel0 HB0.out hb); have F1 := Lib.hid (F0.out.below hb); obtain ⟨⟨t1, t2⟩, ⟨u1, u2, u3, u4⟩, ⟨v1, v2, v3, v4⟩, hz, hy⟩ := F1.out.cells; clear hb))
            | (go_at_call 19; ((with_reducible refine (HC1.out _ HB1.out).mono ?_); rintro e w2 ⟨rfl, hb⟩; have HB2 := Lib.hid (bel0 HB1.out hb); have F2 := Lib.hid (F1.out.below hb); clear t1 t2 u1 u2 u3 u4 v1 v2 v3 v4 hz hy; obtain ⟨⟨t1, t2⟩, ⟨u1, u2, u3, u4⟩, ⟨v1, v2, v3, v4⟩, hz, hy⟩ := F2.out.cells; clear hb))
            | (go_at_call 17; ((with_reducible refine (HR1.out _ HB2.out).mono ?_); rintro e w3 ⟨rfl, hb⟩; have HB3 := Lib.hid (bel0 HB2.out hb); have F3 := Lib.hid (F2.out.below hb); clear t1 t2 u1 u2 u3 u4 v1 v2 v3 v4 hz hy; obtain ⟨⟨t1, t2⟩, ⟨u1, u2, u3, u4⟩, ⟨v1, v2, v3, v4⟩, hz, hy⟩ := F3.out.cells; clear hb))
            | (go_at_call 19; ((with_reducible refine (HC2.out _ HB3.out).mono ?_); rintro e w4 ⟨rfl, hb⟩; have HB4 := Lib.hid (bel0 HB3.out hb); have F4 := Lib.hid (F3.out.below hb); clear t1 t2 u1 u2 u3 u4 v1 v2 v3 v4 hz hy; obtain ⟨⟨t1, t2⟩, ⟨u1, u2, u3, u4⟩, ⟨v1, v2, v3, v4⟩, hz, hy⟩ := F4.out.cells; clear hb))
            | (go_at_call 18; ((with_reducible refine (HMu.out _).mono ?_); rintro e w5 ⟨rfl, hb⟩; have HB5 : Hid (Below w.heap.size w (w5.alloc (.cells #[.int .i64 p, .int .i64 q, .int .i64 r, .int .i64 s] 32))) := (bel0 HB4.out hb).alloc (bel0 HB4.out hb).size _; have F5 := Lib.hid ((F4.out.below hb).alloc (.cells #[.int .i64 p, .int .i64 q, .int .i64 r, .int .i64 s] 32)); have P5 : Hid ((w5.alloc (.cells #[.int .i64 p, .int .i64 q, .int .i64 r, .int .i64 s] 32)).heap[w5.heap.size]? = some (.cells #[.int .i64 p, .int .i64 q, .int .i64 r, .int .i64 s] 32 (0, 0))) := heap_alloc_new w5 _; clear t1 t2 u1 u2 u3 u4 v1 v2 v3 v4 hz hy; obtain ⟨⟨t1, t2⟩, ⟨u1, u2, u3, u4⟩, ⟨v1, v2, v3, v4⟩, hz, hy⟩ := F5.out.cells; clear hb))
            | (go_at_call 20; ((with_reducible refine (HIn.out _).mono ?_); rintro e w6 ⟨rfl, hb⟩; have HB6 : Hid (Below w.heap.size w (w6.alloc (.cells #[.int .i64 d, .int .i64 (-b), .int .i64 (-c), .int .i64 a] 32))) := (bel0 HB5.out hb).alloc (bel0 HB5.out hb).size _; have F6 := Lib.hid ((F5.out.below hb).alloc (.cells #[.int .i64 d, .int .i64 (-b), .int .i64 (-c), .int .i64 a] 32)); have P6 := Lib.hid (block_alloc (block_below P5.out hb) (.cells #[.int .i64 d, .int .i64 (-b), .int .i64 (-c), .int .i64 a] 32)); have V6 : Hid ((w6.alloc (.cells #[.int .i64 d, .int .i64 (-b), .int .i64 (-c), .int .i64 a] 32)).heap[w6.heap.size]? = some (.cells #[.int .i64 d, .int .i64 (-b), .int .i64 (-c), .int .i64 a] 32 (0, 0))) := heap_alloc_new w6 _; obtain ⟨⟨p1, p2, p3, p4⟩, _⟩ := four_of_block P6.out; clear t1 t2 u1 u2 u3 u4 v1 v2 v3 v4 hz hy; obtain ⟨⟨t1, t2⟩, ⟨u1, u2, u3, u4⟩, ⟨v1, v2, v3, v4⟩, hz, hy⟩ := F6.out.cells; clear hb))
            | (go_at_call 19; ((with_reducible refine (HC3.out _ HB6.out).mono ?_); rintro e w7 ⟨rfl, hb⟩; have HB7 := Lib.hid (bel0 HB6.out hb); have F7 := Lib.hid (F6.out.below hb); have V7 := Lib.hid (block_below V6.out hb); clear p1 p2 p3 p4; obtain ⟨⟨p1, p2, p3, p4⟩, _⟩ := four_of_block V7.out; clear t1 t2 u1 u2 u3 u4 v1 v2 v3 v4 hz hy; obtain ⟨⟨t1, t2⟩, ⟨u1, u2, u3, u4⟩, ⟨v1, v2, v3, v4⟩, hz, hy⟩ := F7.out.cells; clear hb))
            | (go_at_call 19; ((with_reducible refine (HC4.out _ HB7.out).mono ?_); rintro e w8 ⟨rfl, hb⟩; have HB8 := Lib.hid (bel0 HB7.out hb); clear p1 p2 p3 p4 t1 t2 u1 u2 u3 u4 v1 v2 v3 v4 hz hy hb))
            | fail)
          go_ret
          exact ⟨rfl, HB8.out⟩
      · have hxb : ((X : Int) == 0) = false := by simp; omega
        simp only [hX, decide_false] at hqx2 HC4
        subst hqx2
        by_cases hY : Y = 0
        · have hD := f3 hY
          subst hY
          simp only [decide_true] at hqy1
          subst hqy1
          have hD0 : ¬ D = 0 := fun e => hX (hD.1 e)
          simp only [hD0, decide_false] at HC3
          clear f2 f3 hD
          go_enter Try.func6, Try.ntmps6
          go_wp2_with (first
            | (go_at_call 12; ((with_reducible refine (awake_any _).mono ?_); rintro e w1 ⟨rfl, hb⟩; have HB1 := Lib.hid (bel0 HB0.out hb); have F1 := Lib.hid (F0.out.below hb); obtain ⟨⟨t1, t2⟩, ⟨u1, u2, u3, u4⟩, ⟨v1, v2, v3, v4⟩, hz, hy⟩ := F1.out.cells; clear hb))
            | (go_at_call 19; ((with_reducible refine (HC1.out _ HB1.out).mono ?_); rintro e w2 ⟨rfl, hb⟩; have HB2 := Lib.hid (bel0 HB1.out hb); have F2 := Lib.hid (F1.out.below hb); clear t1 t2 u1 u2 u3 u4 v1 v2 v3 v4 hz hy; obtain ⟨⟨t1, t2⟩, ⟨u1, u2, u3, u4⟩, ⟨v1, v2, v3, v4⟩, hz, hy⟩ := F2.out.cells; clear hb))
            | (go_at_call 17; ((with_reducible refine (HR1.out _ HB2.out).mono ?_); rintro e w3 ⟨rfl, hb⟩; have HB3 := Lib.hid (bel0 HB2.out hb); have F3 := Lib.hid (F2.out.below hb); clear t1 t2 u1 u2 u3 u4 v1 v2 v3 v4 hz hy; obtain ⟨⟨t1, t2⟩, ⟨u1, u2, u3, u4⟩, ⟨v1, v2, v3, v4⟩, hz, hy⟩ := F3.out.cells; clear hb))
            | (go_at_call 19; ((with_reducible refine (HC2.out _ HB3.out).mono ?_); rintro e w4 ⟨rfl, hb⟩; have HB4 := Lib.hid (bel0 HB3.out hb); have F4 := Lib.hid (F3.out.below hb); clear t1 t2 u1 u2 u3 u4 v1 v2 v3 v4 hz hy; obtain ⟨⟨t1, t2⟩, ⟨u1, u2, u3, u4⟩, ⟨v1, v2, v3, v4⟩, hz, hy⟩ := F4.out.cells; clear hb))
            | (go_at_call 18; ((with_reducible refine (HMu.out _).mono ?_); rintro e w5 ⟨rfl, hb⟩; have HB5 : Hid (Below w.heap.size w (w5.alloc (.cells #[.int .i64 p, .int .i64 q, .int .i64 r, .int .i64 s] 32))) := (bel0 HB4.out hb).alloc (bel0 HB4.out hb).size _; have F5 := Lib.hid ((F4.out.below hb).alloc (.cells #[.int .i64 p, .int .i64 q, .int .i64 r, .int .i64 s] 32)); have P5 : Hid ((w5.alloc (.cells #[.int .i64 p, .int .i64 q, .int .i64 r, .int .i64 s] 32)).heap[w5.heap.size]? = some (.cells #[.int .i64 p, .int .i64 q, .int .i64 r, .int .i64 s] 32 (0, 0))) := heap_alloc_new w5 _; clear t1 t2 u1 u2 u3 u4 v1 v2 v3 v4 hz hy; obtain ⟨⟨t1, t2⟩, ⟨u1, u2, u3, u4⟩, ⟨v1, v2, v3, v4⟩, hz, hy⟩ := F5.out.cells; clear hb))
            | (go_at_call 20; ((with_reducible refine (HIn.out _).mono ?_); rintro e w6 ⟨rfl, hb⟩; have HB6 : Hid (Below w.heap.size w (w6.alloc (.cells #[.int .i64 d, .int .i64 (-b), .int .i64 (-c), .int .i64 a] 32))) := (bel0 HB5.out hb).alloc (bel0 HB5.out hb).size _; have F6 := Lib.hid ((F5.out.below hb).alloc (.cells #[.int .i64 d, .int .i64 (-b), .int .i64 (-c), .int .i64 a] 32)); have P6 := Lib.hid (block_alloc (block_below P5.out hb) (.cells #[.int .i64 d, .int .i64 (-b), .int .i64 (-c), .int .i64 a] 32)); have V6 : Hid ((w6.alloc (.cells #[.int .i64 d, .int .i64 (-b), .int .i64 (-c), .int .i64 a] 32)).heap[w6.heap.size]? = some (.cells #[.int .i64 d, .int .i64 (-b), .int .i64 (-c), .int .i64 a] 32 (0, 0))) := heap_alloc_new w6 _; obtain ⟨⟨p1, p2, p3, p4⟩, _⟩ := four_of_block P6.out; clear t1 t2 u1 u2 u3 u4 v1 v2 v3 v4 hz hy; obtain ⟨⟨t1, t2⟩, ⟨u1, u2, u3, u4⟩, ⟨v1, v2, v3, v4⟩, hz, hy⟩ := F6.out.cells; clear hb))
            | (go_at_call 19; ((with_reducible refine (HC3.out _ HB6.out).mono ?_); rintro e w7 ⟨rfl, hb⟩; have HB7 := Lib.hid (bel0 HB6.out hb); have F7 := Lib.hid (F6.out.below hb); have V7 := Lib.hid (block_below V6.out hb); clear p1 p2 p3 p4; obtain ⟨⟨p1, p2, p3, p4⟩, _⟩ := four_of_block V7.out; clear t1 t2 u1 u2 u3 u4 v1 v2 v3 v4 hz hy; obtain ⟨⟨t1, t2⟩, ⟨u1, u2, u3, u4⟩, ⟨v1, v2, v3, v4⟩, hz, hy⟩ := F7.out.cells; clear hb))
            | (go_at_call 19; ((with_reducible refine (HC4.out _ HB7.out).mono ?_); rintro e w8 ⟨rfl, hb⟩; have HB8 := Lib.hid (bel0 HB7.out hb); clear p1 p2 p3 p4 t1 t2 u1 u2 u3 u4 v1 v2 v3 v4 hz hy hb))
            | fail)
          go_ret
          exact ⟨rfl, HB8.out⟩
        · simp only [hY, decide_false] at hqy1
          subst hqy1
          clear f2 f3
          by_cases hD : D = 0
          · simp only [hD, decide_true] at HC3
            go_enter Try.func6, Try.ntmps6
            go_wp2_with (first
              | (go_at_call 12; ((with_reducible refine (awake_any _).mono ?_); rintro e w1 ⟨rfl, hb⟩; have HB1 := Lib.hid (bel0 HB0.out hb); have F1 := Lib.hid (F0.out.below hb); obtain ⟨⟨t1, t2⟩, ⟨u1, u2, u3, u4⟩, ⟨v1, v2, v3, v4⟩, hz, hy⟩ := F1.out.cells; clear hb))
              | (go_at_call 19; ((with_reducible refine (HC1.out _ HB1.out).mono ?_); rintro e w2 ⟨rfl, hb⟩; have HB2 := Lib.hid (bel0 HB1.out hb); have F2 := Lib.hid (F1.out.below hb); clear t1 t2 u1 u2 u3 u4 v1 v2 v3 v4 hz hy; obtain ⟨⟨t1, t2⟩, ⟨u1, u2, u3, u4⟩, ⟨v1, v2, v3, v4⟩, hz, hy⟩ := F2.out.cells; clear hb))
              | (go_at_call 17; ((with_reducible refine (HR1.out _ HB2.out).mono ?_); rintro e w3 ⟨rfl, hb⟩; have HB3 := Lib.hid (bel0 HB2.out hb); have F3 := Lib.hid (F2.out.below hb); clear t1 t2 u1 u2 u3 u4 v1 v2 v3 v4 hz hy; obtain ⟨⟨t1, t2⟩, ⟨u1, u2, u3, u4⟩, ⟨v1, v2, v3, v4⟩, hz, hy⟩ := F3.out.cells; clear hb))
              | (go_at_call 19; ((with_reducible refine (HC2.out _ HB3.out).mono ?_); rintro e w4 ⟨rfl, hb⟩; have HB4 := Lib.hid (bel0 HB3.out hb); have F4 := Lib.hid (F3.out.below hb); clear t1 t2 u1 u2 u3 u4 v1 v2 v3 v4 hz hy; obtain ⟨⟨t1, t2⟩, ⟨u1, u2, u3, u4⟩, ⟨v1, v2, v3, v4⟩, hz, hy⟩ := F4.out.cells; clear hb))
              | (go_at_call 18; ((with_reducible refine (HMu.out _).mono ?_); rintro e w5 ⟨rfl, hb⟩; have HB5 : Hid (Below w.heap.size w (w5.alloc (.cells #[.int .i64 p, .int .i64 q, .int .i64 r, .int .i64 s] 32))) := (bel0 HB4.out hb).alloc (bel0 HB4.out hb).size _; have F5 := Lib.hid ((F4.out.below hb).alloc (.cells #[.int .i64 p, .int .i64 q, .int .i64 r, .int .i64 s] 32)); have P5 : Hid ((w5.alloc (.cells #[.int .i64 p, .int .i64 q, .int .i64 r, .int .i64 s] 32)).heap[w5.heap.size]? = some (.cells #[.int .i64 p, .int .i64 q, .int .i64 r, .int .i64 s] 32 (0, 0))) := heap_alloc_new w5 _; clear t1 t2 u1 u2 u3 u4 v1 v2 v3 v4 hz hy; obtain ⟨⟨t1, t2⟩, ⟨u1, u2, u3, u4⟩, ⟨v1, v2, v3, v4⟩, hz, hy⟩ := F5.out.cells; clear hb))
              | (go_at_call 20; ((with_reducible refine (HIn.out _).mono ?_); rintro e w6 ⟨rfl, hb⟩; have HB6 : Hid (Below w.heap.size w (w6.alloc (.cells #[.int .i64 d, .int .i64 (-b), .int .i64 (-c), .int .i64 a] 32))) := (bel0 HB5.out hb).alloc (bel0 HB5.out hb).size _; have F6 := Lib.hid ((F5.out.below hb).alloc (.cells #[.int .i64 d, .int .i64 (-b), .int .i64 (-c), .int .i64 a] 32)); have P6 := Lib.hid (block_alloc (block_below P5.out hb) (.cells #[.int .i64 d, .int .i64 (-b), .int .i64 (-c), .int .i64 a] 32)); have V6 : Hid ((w6.alloc (.cells #[.int .i64 d, .int .i64 (-b), .int .i64 (-c), .int .i64 a] 32)).heap[w6.heap.size]? = some (.cells #[.int .i64 d, .int .i64 (-b), .int .i64 (-c), .int .i64 a] 32 (0, 0))) := heap_alloc_new w6 _; obtain ⟨⟨p1, p2, p3, p4⟩, _⟩ := four_of_block P6.out; clear t1 t2 u1 u2 u3 u4 v1 v2 v3 v4 hz hy; obtain ⟨⟨t1, t2⟩, ⟨u1, u2, u3, u4⟩, ⟨v1, v2, v3, v4⟩, hz, hy⟩ := F6.out.cells; clear hb))
              | (go_at_call 19; ((with_reducible refine (HC3.out _ HB6.out).mono ?_); rintro e w7 ⟨rfl, hb⟩; have HB7 := Lib.hid (bel0 HB6.out hb); have F7 := Lib.hid (F6.out.below hb); have V7 := Lib.hid (block_below V6.out hb); clear p1 p2 p3 p4; obtain ⟨⟨p1, p2, p3, p4⟩, _⟩ := four_of_block V7.out; clear t1 t2 u1 u2 u3 u4 v1 v2 v3 v4 hz hy; obtain ⟨⟨t1, t2⟩, ⟨u1, u2, u3, u4⟩, ⟨v1, v2, v3, v4⟩, hz, hy⟩ := F7.out.cells; clear hb))
              | (go_at_call 19; ((with_reducible refine (HC4.out _ HB7.out).mono ?_); rintro e w8 ⟨rfl, hb⟩; have HB8 := Lib.hid (bel0 HB7.out hb); clear p1 p2 p3 p4 t1 t2 u1 u2 u3 u4 v1 v2 v3 v4 hz hy hb))
              | fail)
            go_ret
            exact ⟨rfl, HB8.out⟩
          · simp only [hD, decide_false] at HC3
            go_enter Try.func6, Try.ntmps6
            go_wp2_with (first
              | (go_at_call 12; ((with_reducible refine (awake_any _).mono ?_); rintro e w1 ⟨rfl, hb⟩; have HB1 := Lib.hid (bel0 HB0.out hb); have F1 := Lib.hid (F0.out.below hb); obtain ⟨⟨t1, t2⟩, ⟨u1, u2, u3, u4⟩, ⟨v1, v2, v3, v4⟩, hz, hy⟩ := F1.out.cells; clear hb))
              | (go_at_call 19; ((with_reducible refine (HC1.out _ HB1.out).mono ?_); rintro e w2 ⟨rfl, hb⟩; have HB2 := Lib.hid (bel0 HB1.out hb); have F2 := Lib.hid (F1.out.below hb); clear t1 t2 u1 u2 u3 u4 v1 v2 v3 v4 hz hy; obtain ⟨⟨t1, t2⟩, ⟨u1, u2, u3, u4⟩, ⟨v1, v2, v3, v4⟩, hz, hy⟩ := F2.out.cells; clear hb))
              | (go_at_call 17; ((with_reducible refine (HR1.out _ HB2.out).mono ?_); rintro e w3 ⟨rfl, hb⟩; have HB3 := Lib.hid (bel0 HB2.out hb); have F3 := Lib.hid (F2.out.below hb); clear t1 t2 u1 u2 u3 u4 v1 v2 v3 v4 hz hy; obtain ⟨⟨t1, t2⟩, ⟨u1, u2, u3, u4⟩, ⟨v1, v2, v3, v4⟩, hz, hy⟩ := F3.out.cells; clear hb))
              | (go_at_call 19; ((with_reducible refine (HC2.out _ HB3.out).mono ?_); rintro e w4 ⟨rfl, hb⟩; have HB4 := Lib.hid (bel0 HB3.out hb); have F4 := Lib.hid (F3.out.below hb); clear t1 t2 u1 u2 u3 u4 v1 v2 v3 v4 hz hy; obtain ⟨⟨t1, t2⟩, ⟨u1, u2, u3, u4⟩, ⟨v1, v2, v3, v4⟩, hz, hy⟩ := F4.out.cells; clear hb))
              | (go_at_call 18; ((with_reducible refine (HMu.out _).mono ?_); rintro e w5 ⟨rfl, hb⟩; have HB5 : Hid (Below w.heap.size w (w5.alloc (.cells #[.int .i64 p, .int .i64 q, .int .i64 r, .int .i64 s] 32))) := (bel0 HB4.out hb).alloc (bel0 HB4.out hb).size _; have F5 := Lib.hid ((F4.out.below hb).alloc (.cells #[.int .i64 p, .int .i64 q, .int .i64 r, .int .i64 s] 32)); have P5 : Hid ((w5.alloc (.cells #[.int .i64 p, .int .i64 q, .int .i64 r, .int .i64 s] 32)).heap[w5.heap.size]? = some (.cells #[.int .i64 p, .int .i64 q, .int .i64 r, .int .i64 s] 32 (0, 0))) := heap_alloc_new w5 _; clear t1 t2 u1 u2 u3 u4 v1 v2 v3 v4 hz hy; obtain ⟨⟨t1, t2⟩, ⟨u1, u2, u3, u4⟩, ⟨v1, v2, v3, v4⟩, hz, hy⟩ := F5.out.cells; clear hb))
              | (go_at_call 20; ((with_reducible refine (HIn.out _).mono ?_); rintro e w6 ⟨rfl, hb⟩; have HB6 : Hid (Below w.heap.size w (w6.alloc (.cells #[.int .i64 d, .int .i64 (-b), .int .i64 (-c), .int .i64 a] 32))) := (bel0 HB5.out hb).alloc (bel0 HB5.out hb).size _; have F6 := Lib.hid ((F5.out.below hb).alloc (.cells #[.int .i64 d, .int .i64 (-b), .int .i64 (-c), .int .i64 a] 32)); have P6 := Lib.hid (block_alloc (block_below P5.out hb) (.cells #[.int .i64 d, .int .i64 (-b), .int .i64 (-c), .int .i64 a] 32)); have V6 : Hid ((w6.alloc (.cells #[.int .i64 d, .int .i64 (-b), .int .i64 (-c), .int .i64 a] 32)).heap[w6.heap.size]? = some (.cells #[.int .i64 d, .int .i64 (-b), .int .i64 (-c), .int .i64 a] 32 (0, 0))) := heap_alloc_new w6 _; obtain ⟨⟨p1, p2, p3, p4⟩, _⟩ := four_of_block P6.out; clear t1 t2 u1 u2 u3 u4 v1 v2 v3 v4 hz hy; obtain ⟨⟨t1, t2⟩, ⟨u1, u2, u3, u4⟩, ⟨v1, v2, v3, v4⟩, hz, hy⟩ := F6.out.cells; clear hb))
              | (go_at_call 19; ((with_reducible refine (HC3.out _ HB6.out).mono ?_); rintro e w7 ⟨rfl, hb⟩; have HB7 := Lib.hid (bel0 HB6.out hb); have F7 := Lib.hid (F6.out.below hb); have V7 := Lib.hid (block_below V6.out hb); clear p1 p2 p3 p4; obtain ⟨⟨p1, p2, p3, p4⟩, _⟩ := four_of_block V7.out; clear t1 t2 u1 u2 u3 u4 v1 v2 v3 v4 hz hy; obtain ⟨⟨t1, t2⟩, ⟨u1, u2, u3, u4⟩, ⟨v1, v2, v3, v4⟩, hz, hy⟩ := F7.out.cells; clear hb))
              | (go_at_call 19; ((with_reducible refine (HC4.out _ HB7.out).mono ?_); rintro e w8 ⟨rfl, hb⟩; have HB8 := Lib.hid (bel0 HB7.out hb); clear p1 p2 p3 p4 t1 t2 u1 u2 u3 u4 v1 v2 v3 v4 hz hy hb))
              | fail)
            go_ret
            exact ⟨rfl, HB8.out⟩
  · have hz1 : (z == 0) = false := by simpa using hz
    have hq : qx = false := by rw [hqx, hz1]; rfl
    subst hq
    clear hS hT hm1 hm2 hrest hm hqx hqy
    by_cases hz2 : z' = 0
    · subst hz2
      by_cases hk0 : km = 0
      · subst hk0
        go_enter Try.func6, Try.ntmps6
        go_wp2_with (first
          | (go_at_call 12; ((with_reducible refine (awake_any _).mono ?_); rintro e w1 ⟨rfl, hb⟩; have HB1 := Lib.hid (bel0 HB0.out hb); have F1 := Lib.hid (F0.out.below hb); obtain ⟨⟨t1, t2⟩, ⟨u1, u2, u3, u4⟩, ⟨v1, v2, v3, v4⟩, hz, hy⟩ := F1.out.cells; clear hb))
          | (go_at_call 19; ((with_reducible refine (HC1.out _ HB1.out).mono ?_); rintro e w2 ⟨rfl, hb⟩; have HB2 := Lib.hid (bel0 HB1.out hb); have F2 := Lib.hid (F1.out.below hb); clear t1 t2 u1 u2 u3 u4 v1 v2 v3 v4 hz hy; obtain ⟨⟨t1, t2⟩, ⟨u1, u2, u3, u4⟩, ⟨v1, v2, v3, v4⟩, hz, hy⟩ := F2.out.cells; clear hb))
          | (go_at_call 17; ((with_reducible refine (HR1.out _ HB2.out).mono ?_); rintro e w3 ⟨rfl, hb⟩; have HB3 := Lib.hid (bel0 HB2.out hb); have F3 := Lib.hid (F2.out.below hb); clear t1 t2 u1 u2 u3 u4 v1 v2 v3 v4 hz hy; obtain ⟨⟨t1, t2⟩, ⟨u1, u2, u3, u4⟩, ⟨v1, v2, v3, v4⟩, hz, hy⟩ := F3.out.cells; clear hb))
          | (go_at_call 19; ((with_reducible refine (HC2.out _ HB3.out).mono ?_); rintro e w4 ⟨rfl, hb⟩; have HB4 := Lib.hid (bel0 HB3.out hb); have F4 := Lib.hid (F3.out.below hb); clear t1 t2 u1 u2 u3 u4 v1 v2 v3 v4 hz hy; obtain ⟨⟨t1, t2⟩, ⟨u1, u2, u3, u4⟩, ⟨v1, v2, v3, v4⟩, hz, hy⟩ := F4.out.cells; clear hb))
          | (go_at_call 18; ((with_reducible refine (HMu.out _).mono ?_); rintro e w5 ⟨rfl, hb⟩; have HB5 := Lib.hid (bel0 HB4.out hb); clear t1 t2 u1 u2 u3 u4 v1 v2 v3 v4 hz hy hb))
          | fail)
        go_ret
        exact ⟨rfl, HB5.out.alloc HB5.out.size _⟩
      · have hk1 : (km == 0) = false := by simpa using hk0
        go_enter Try.func6, Try.ntmps6
        go_wp2_with (first
          | (go_at_call 12; ((with_reducible refine (awake_any _).mono ?_); rintro e w1 ⟨rfl, hb⟩; have HB1 := Lib.hid (bel0 HB0.out hb); have F1 := Lib.hid (F0.out.below hb); obtain ⟨⟨t1, t2⟩, ⟨u1, u2, u3, u4⟩, ⟨v1, v2, v3, v4⟩, hz, hy⟩ := F1.out.cells; clear hb))
          | (go_at_call 19; ((with_reducible refine (HC1.out _ HB1.out).mono ?_); rintro e w2 ⟨rfl, hb⟩; have HB2 := Lib.hid (bel0 HB1.out hb); have F2 := Lib.hid (F1.out.below hb); clear t1 t2 u1 u2 u3 u4 v1 v2 v3 v4 hz hy; obtain ⟨⟨t1, t2⟩, ⟨u1, u2, u3, u4⟩, ⟨v1, v2, v3, v4⟩, hz, hy⟩ := F2.out.cells; clear hb))
          | (go_at_call 17; ((with_reducible refine (HR1.out _ HB2.out).mono ?_); rintro e w3 ⟨rfl, hb⟩; have HB3 := Lib.hid (bel0 HB2.out hb); have F3 := Lib.hid (F2.out.below hb); clear t1 t2 u1 u2 u3 u4 v1 v2 v3 v4 hz hy; obtain ⟨⟨t1, t2⟩, ⟨u1, u2, u3, u4⟩, ⟨v1, v2, v3, v4⟩, hz, hy⟩ := F3.out.cells; clear hb))
          | (go_at_call 19; ((with_reducible refine (HC2.out _ HB3.out).mono ?_); rintro e w4 ⟨rfl, hb⟩; have HB4 := Lib.hid (bel0 HB3.out hb); have F4 := Lib.hid (F3.out.below hb); clear t1 t2 u1 u2 u3 u4 v1 v2 v3 v4 hz hy; obtain ⟨⟨t1, t2⟩, ⟨u1, u2, u3, u4⟩, ⟨v1, v2, v3, v4⟩, hz, hy⟩ := F4.out.cells; clear hb))
          | (go_at_call 18; ((with_reducible refine (HMu.out _).mono ?_); rintro e w5 ⟨rfl, hb⟩; have HB5 := Lib.hid (bel0 HB4.out hb); clear t1 t2 u1 u2 u3 u4 v1 v2 v3 v4 hz hy hb))
          | fail)
        go_ret
        exact ⟨rfl, HB5.out.alloc HB5.out.size _⟩
    · have hz3 : (z' == 0) = false := by simpa using hz2
      go_enter Try.func6, Try.ntmps6
      go_wp2_with (first
        | (go_at_call 12; ((with_reducible refine (awake_any _).mono ?_); rintro e w1 ⟨rfl, hb⟩; have HB1 := Lib.hid (bel0 HB0.out hb); have F1 := Lib.hid (F0.out.below hb); obtain ⟨⟨t1, t2⟩, ⟨u1, u2, u3, u4⟩, ⟨v1, v2, v3, v4⟩, hz, hy⟩ := F1.out.cells; clear hb))
        | (go_at_call 19; ((with_reducible refine (HC1.out _ HB1.out).mono ?_); rintro e w2 ⟨rfl, hb⟩; have HB2 := Lib.hid (bel0 HB1.out hb); have F2 := Lib.hid (F1.out.below hb); clear t1 t2 u1 u2 u3 u4 v1 v2 v3 v4 hz hy; obtain ⟨⟨t1, t2⟩, ⟨u1, u2, u3, u4⟩, ⟨v1, v2, v3, v4⟩, hz, hy⟩ := F2.out.cells; clear hb))
        | (go_at_call 17; ((with_reducible refine (HR1.out _ HB2.out).mono ?_); rintro e w3 ⟨rfl, hb⟩; have HB3 := Lib.hid (bel0 HB2.out hb); have F3 := Lib.hid (F2.out.below hb); clear t1 t2 u1 u2 u3 u4 v1 v2 v3 v4 hz hy; obtain ⟨⟨t1, t2⟩, ⟨u1, u2, u3, u4⟩, ⟨v1, v2, v3, v4⟩, hz, hy⟩ := F3.out.cells; clear hb))
        | (go_at_call 19; ((with_reducible refine (HC2.out _ HB3.out).mono ?_); rintro e w4 ⟨rfl, hb⟩; have HB4 := Lib.hid (bel0 HB3.out hb); have F4 := Lib.hid (F3.out.below hb); clear t1 t2 u1 u2 u3 u4 v1 v2 v3 v4 hz hy; obtain ⟨⟨t1, t2⟩, ⟨u1, u2, u3, u4⟩, ⟨v1, v2, v3, v4⟩, hz, hy⟩ := F4.out.cells; clear hb))
        | (go_at_call 18; ((with_reducible refine (HMu.out _).mono ?_); rintro e w5 ⟨rfl, hb⟩; have HB5 := Lib.hid (bel0 HB4.out hb); clear t1 t2 u1 u2 u3 u4 v1 v2 v3 v4 hz hy hb))
        | fail)
      go_ret
      exact ⟨rfl, HB5.out.alloc HB5.out.size _⟩
end Go.Proofs.Ytjofmgnggeoimaa
