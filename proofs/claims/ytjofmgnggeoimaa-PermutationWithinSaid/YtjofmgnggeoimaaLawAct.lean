/- PermutationActs answers true for all arguments. -/
import Derived.Test.YtjofmgnggeoimaaAwkL
import Derived.Test.YtjofmgnggeoimaaMvF
import Derived.Test.YtjofmgnggeoimaaActW
import Derived.Test.YtjofmgnggeoimaaMulL
namespace Go.Proofs.Ytjofmgnggeoimaa
open Go.RowKit
set_option linter.unusedVariables false
set_option linter.unusedSimpArgs false

/-- The rest of a word. -/
def rst (g f : Nat → Nat) (n : Nat) : List Int → Nat → Nat
  | [], j => j
  | e :: l, j => rst g f n l (pw f n (g j) e)
theorem rst_append (g f : Nat → Nat) (n : Nat) (x : Int) : ∀ (l : List Int) (j : Nat), rst g f n (l ++ [x]) j = pw f n (g (rst g f n l j)) x
  | [], j => rfl
  | e :: l, j => rst_append g f n x l _
theorem mvP_rst (g f : Nat → Nat) (n : Nat) (e : Int) (l : List Int) (i : Nat) : ∀ k, k ≤ l.length → mvP g f n (e :: l) i (k + 1) = rst g f n (l.take k) (pw f n i e)
  | 0, _ => rfl
  | k + 1, hk => by
    show pw f n (if k + 1 = 0 then mvP g f n (e :: l) i (k + 1) else g (mvP g f n (e :: l) i (k + 1))) ((e :: l).getD (k + 1) 0) = _
    rw [if_neg (by omega), mvP_rst g f n e l i k (by omega), List.take_succ_eq_append_getElem (by omega), rst_append]
    congr 1
    simp [List.getD, show k < l.length by omega]
theorem aw_word {g f : Nat → Nat} {n : Nat} : ∀ (k : Nat) (m : M), Way k m → ∀ i, ∃ e l, wl k m = e :: l ∧ aw g f n k m i = if wn k m = true then zOf g (rst g f n l (pw f n i e)) else rst g f n l (pw f n i e)
  | 0, m, h, i => by have := h.few; have e : (2 : Nat) ^ 0 = 1 := rfl; omega
  | k + 1, m, h, i => by
    by_cases hc : m.c = 0
    · refine ⟨_, _, wl_last hc, ?_⟩
      rw [wn_last hc]
      show (if m.c = 0 then _ else _) = _
      rw [if_pos hc]
      by_cases ha : m.a < 0
      · rw [if_pos ha, if_pos (decide_eq_true ha)]; rfl
      · rw [if_neg ha, if_neg (by simpa using ha)]; rfl
    · obtain ⟨e, l, h1, h2⟩ := aw_word (g := g) (f := f) (n := n) k m.step (h.next hc) (g (pw f n i (nq m.a m.c)))
      refine ⟨_, _, wl_next hc, ?_⟩
      rw [wn_next hc, h1]
      show (if m.c = 0 then _ else aw g f n k m.step (g (pw f n i (nq m.a m.c)))) = _
      rw [if_neg hc, h2]
      rfl
theorem chk_M {a b c d : Int} (h : chkI a b c d = 0) : (M.mk a b c d).det = 1 ∧ (M.mk a b c d).ok = true := by
  rcases chk_cases a b c d with ⟨_, k⟩ | ⟨h1, h2, _⟩ | ⟨_, _, k⟩
  · omega
  · exact ⟨h2, h1⟩
  · omega
/-- Where Move leads is where the matrix leads. -/
theorem mvI_av {S T : List Int} {a b c d : Int} (hk : chkI a b c d = 0) (i : Nat) : mvI S T i a b c d = av (fnz S) (fnz T) S.length ⟨a, b, c, d⟩ i := by
  obtain ⟨hd, ho⟩ := chk_M hk
  have hw := Way.start hd ho
  obtain ⟨e, l, h1, h2⟩ := aw_word (g := fnz S) (f := fnz T) (n := S.length) 32 ⟨a, b, c, d⟩ hw i
  rw [← av_any (suf_way 32 _ hw), h2]
  unfold mvI
  rw [h1]
  have e2 := mvP_rst (fnz S) (fnz T) S.length e l i l.length (Nat.le_refl _)
  rw [List.take_length] at e2
  rw [List.length_cons, e2]
theorem mvI_lt' {S T : List Int} (ha : Act2 S T) {i : Nat} (hi : i < S.length) (a b c d : Int) : mvI S T i a b c d < S.length := by
  have hP := pact_of ha
  unfold mvI
  split
  · exact hP.zl _ (mvP_lt hP hi _ _)
  · exact mvP_lt hP hi _ _
theorem act_rel {S T : List Int} (ha : Act2 S T) : Rel (fnz S) (fnz T) S.length := fun i hi => (ha.rel i hi).2
theorem mulE_zero' {x y m : M} (h : mulE x y = (m, 0)) : x.ok = true ∧ y.ok = true ∧ m = x.mul y ∧ m.ok = true := by
  unfold mulE at h
  split at h
  · cases h
  · rename_i h1
    split at h
    · cases h
    · rename_i h2
      have e := (Prod.mk.inj h).1
      have hx : (x.ok && y.ok) = true := by simpa using h1
      rw [Bool.and_eq_true] at hx
      refine ⟨hx.1, hx.2, e.symm, ?_⟩
      rw [← e]; simpa using h2
/-- Behind a matrix and another one, and behind their product: the same. -/
theorem acts_is {S T : List Int} (ha : Act2 S T) {a b c d a' b' c' d' p q r s : Int} (hx : chkI a b c d = 0) (hm : mulE ⟨a, b, c, d⟩ ⟨a', b', c', d'⟩ = (⟨p, q, r, s⟩, 0)) {i : Nat} (hi : i < S.length) :
    ∃ v z, MovesTo S T ((mvI S T i a b c d : Nat) : Int) a' b' c' d' v z ∧ MovesTo S T (i : Nat) p q r s v z := by
  obtain ⟨hox, hoy, he, hom⟩ := mulE_zero' hm
  obtain ⟨hdx, _⟩ := chk_M hx
  have hk := mvI_lt' ha hi a b c d
  have hdm : (M.mk p q r s).det = (M.mk a' b' c' d').det := by rw [he, M.det_mul, hdx, Int.one_mul]
  have hfy : fitB a' b' c' d' = true := hoy
  have hfm : fitB p q r s = true := hom
  have hdm' : p * s - q * r = a' * d' - b' * c' := hdm
  by_cases hy : chkI a' b' c' d' = 0
  · have hy2 : chkI p q r s = 0 := by
      have h5 : a' * d' - b' * c' = 1 := (chk_M hy).1
      unfold chkI
      rw [if_neg (by rw [hfm]; simp), if_pos (by rw [hdm', h5])]
    have h1 := moves_ok ha (mvI S T i a b c d) a' b' c' d' hk hy
    have h2 := moves_ok ha i p q r s hi hy2
    have e : mvI S T i p q r s = mvI S T (mvI S T i a b c d) a' b' c' d' := by
      rw [mvI_av hy2, mvI_av hy, mvI_av hx, he]
      exact av_mul (pact_of ha) (act_rel ha) _ (chk_M hy).1 _ _ (Nat.le_refl _) hdx i hi
    rw [e] at h2
    exact ⟨_, _, h1, h2⟩
  · have e3 : chkI p q r s = chkI a' b' c' d' := by
      unfold chkI
      rw [hfy, hfm, hdm']
    have h1 := moves_mat ha ((mvI S T i a b c d : Nat) : Int) a' b' c' d' _ (by omega) (by omega) rfl hy
    have h2 := moves_mat ha (i : Nat) p q r s _ (by omega) (by omega) e3.symm hy
    exact ⟨_, _, h1, h2⟩
/-- The boxes of an action and of a pair of matrices. -/
structure AQ (W : World) (g : Nat) (u v : Value) (a b c d a' b' c' d' : Int) : Prop where
  t : W.heap[g]? = some (.cells #[u, v] 24 (0, 0))
  v : W.heap[g + 1]? = some (.cells #[.int .i64 a, .int .i64 b, .int .i64 c, .int .i64 d, .int .i64 a', .int .i64 b', .int .i64 c', .int .i64 d'] 38 (0, 0))
section
variable {W W' : World} {g : Nat} {u v : Value} {a b c d a' b' c' d' : Int}
theorem AQ.below (h : AQ W g u v a b c d a' b' c' d') (hb : Below W.heap.size W W') : AQ W' g u v a b c d a' b' c' d' := ⟨block_below h.t hb, block_below h.v hb⟩
theorem AQ.alloc (h : AQ W g u v a b c d a' b' c' d') (o : Obj) : AQ (W.alloc o) g u v a b c d a' b' c' d' := h.below (below1 _ _)
theorem AQ.cells (h : AQ W g u v a b c d a' b' c' d') : (W.cell? ⟨g, 0, none⟩ = some u ∧ W.cell? ⟨g, 1, none⟩ = some v) ∧
    (W.cell? ⟨g + 1, 0, none⟩ = some (.int .i64 a) ∧ W.cell? ⟨g + 1, 1, none⟩ = some (.int .i64 b) ∧ W.cell? ⟨g + 1, 2, none⟩ = some (.int .i64 c) ∧ W.cell? ⟨g + 1, 3, none⟩ = some (.int .i64 d)) ∧
    (W.cell? ⟨g + 1, 4, none⟩ = some (.int .i64 a') ∧ W.cell? ⟨g + 1, 5, none⟩ = some (.int .i64 b') ∧ W.cell? ⟨g + 1, 6, none⟩ = some (.int .i64 c') ∧ W.cell? ⟨g + 1, 7, none⟩ = some (.int .i64 d')) ∧ (g + 1 < W.heap.size ∧ g < W.heap.size) :=
  ⟨(two_of_block h.t).1, ⟨by rw [cell_of_row W (g + 1) 0 _ _ _ h.v]; rfl, by rw [cell_of_row W (g + 1) 1 _ _ _ h.v]; rfl, by rw [cell_of_row W (g + 1) 2 _ _ _ h.v]; rfl, by rw [cell_of_row W (g + 1) 3 _ _ _ h.v]; rfl⟩,
    ⟨by rw [cell_of_row W (g + 1) 4 _ _ _ h.v]; rfl, by rw [cell_of_row W (g + 1) 5 _ _ _ h.v]; rfl, by rw [cell_of_row W (g + 1) 6 _ _ _ h.v]; rfl, by rw [cell_of_row W (g + 1) 7 _ _ _ h.v]; rfl⟩, ⟨lt_of_block h.v, lt_of_block h.t⟩⟩
end
theorem aq_start (w : World) (u v : Value) (a b c d a' b' c' d' : Int) : AQ ((w.alloc (.cells #[u, v] 24)).alloc (.cells #[.int .i64 a, .int .i64 b, .int .i64 c, .int .i64 d, .int .i64 a', .int .i64 b', .int .i64 c', .int .i64 d'] 38)) w.heap.size u v a b c d a' b' c' d' := by
  have hy0 := heap_alloc_new (w.alloc (.cells #[u, v] 24)) (.cells #[.int .i64 a, .int .i64 b, .int .i64 c, .int .i64 d, .int .i64 a', .int .i64 b', .int .i64 c', .int .i64 d'] 38)
  rw [show (w.alloc (.cells #[u, v] 24)).heap.size = w.heap.size + 1 by simp] at hy0
  exact ⟨block_alloc (heap_alloc_new w _) _, hy0⟩
set_option maxHeartbeats 6400000 in
set_option maxRecDepth 1000000 in
theorem pacts_walk (S T : List Int) {cS cT : Nat} {AS AT : Option Addr} (i a b c d a' b' c' d' : Int) (w : World) (hS : RdZ w w.heap.size AS cS S) (hT : RdZ w w.heap.size AT cT T) :
    Calls Try.prog 5 #[.agg #[.slice AS S.length cS, .slice AT T.length cT], .int .i64 i, .agg #[.int .i64 a, .int .i64 b, .int .i64 c, .int .i64 d, .int .i64 a', .int .i64 b', .int .i64 c', .int .i64 d']] w fun e w' => e = .returned (.bool true) ∧ Below w.heap.size w w' := by
  obtain ⟨⟨p, q, r, s⟩, km, hm⟩ : ∃ m km, mulE ⟨a, b, c, d⟩ ⟨a', b', c', d'⟩ = (m, km) := ⟨_, _, rfl⟩
  have HMu := Lib.hid (fun W => mul_any a b c d a' b' c' d' p q r s km W hm)
  -- the first move, and where both ends lead
  obtain ⟨x, z, hm1, hrest⟩ : ∃ x z, MovesTo S T i a b c d x z ∧ (z = 0 → km = 0 → ∃ v z2, MovesTo S T x a' b' c' d' v z2 ∧ MovesTo S T i p q r s v z2) := by
    by_cases h : chkA S T = 0
    · have ha := chkA_zero h
      by_cases hi : i < 0 ∨ (S.length : Int) ≤ i
      · exact ⟨_, _, moves_out ha i a b c d hi, fun h2 => absurd h2 (by decide)⟩
      · by_cases hk : chkI a b c d = 0
        · obtain ⟨j, rfl⟩ : ∃ j : Nat, i = (j : Nat) := ⟨i.toNat, by omega⟩
          refine ⟨_, _, moves_ok ha j a b c d (by omega) hk, fun _ hk0 => ?_⟩
          subst hk0
          exact acts_is ha hk hm (by omega)
        · exact ⟨_, _, moves_mat ha i a b c d _ (by omega) (by omega) rfl hk, fun h2 => absurd h2 hk⟩
    · exact ⟨_, _, moves_bad i a b c d _ rfl h, fun h2 => absurd h2 h⟩
  have HM1 := Lib.hid (fun W (hb : Below w.heap.size w W) => hm1.1 W AS cS AT cT ((hS.below hb).mono hb.size) ((hT.below hb).mono hb.size))
  have F0 := Lib.hid (aq_start w (.slice AS S.length cS) (.slice AT T.length cT) a b c d a' b' c' d')
  have HB0 : Hid (Below w.heap.size w ((w.alloc (.cells #[.slice AS S.length cS, .slice AT T.length cT] 24)).alloc (.cells #[.int .i64 a, .int .i64 b, .int .i64 c, .int .i64 d, .int .i64 a', .int .i64 b', .int .i64 c', .int .i64 d'] 38))) := below2 w _ _
  by_cases hbad : z ≠ 0 ∨ km ≠ 0
  · clear hS hT hm1 hrest hm
    by_cases hz0 : z = 0
    · have hk1 : (km == 0) = false := by
        rcases hbad with h | h
        · exact absurd hz0 h
        · simpa using h
      subst hz0
      clear hbad
      go_enter Try.func5, Try.ntmps5
      go_wp2_with (first
        | (go_at_call 12; ((with_reducible refine (awake_any _).mono ?_); rintro e w1 ⟨rfl, hb⟩; have HB1 := Lib.hid (bel0 HB0.out hb); have F1 := Lib.hid (F0.out.below hb); obtain ⟨⟨t1, t2⟩, ⟨u1, u2, u3, u4⟩, ⟨v1, v2, v3, v4⟩, hz, hy⟩ := F1.out.cells; clear hb))
        | (go_at_call 16; ((with_reducible refine (HM1.out _ HB1.out).mono ?_); rintro e w2 ⟨rfl, hb⟩; have HB2 := Lib.hid (bel0 HB1.out hb); have F2 := Lib.hid (F1.out.below hb); clear t1 t2 u1 u2 u3 u4 v1 v2 v3 v4 hz hy; obtain ⟨⟨t1, t2⟩, ⟨u1, u2, u3, u4⟩, ⟨v1, v2, v3, v4⟩, hz, hy⟩ := F2.out.cells; clear hb))
        | (go_at_call 18; ((with_reducible refine (HMu.out _).mono ?_); rintro e w3 ⟨rfl, hb⟩; have HB3 := Lib.hid (bel0 HB2.out hb); clear t1 t2 u1 u2 u3 u4 v1 v2 v3 v4 hz hy hb))
        | fail)
      go_ret
      exact ⟨rfl, HB3.out.alloc HB3.out.size _⟩
    · have hz1 : (z == 0) = false := by simpa using hz0
      clear hbad
      go_enter Try.func5, Try.ntmps5
      go_wp2_with (first
        | (go_at_call 12; ((with_reducible refine (awake_any _).mono ?_); rintro e w1 ⟨rfl, hb⟩; have HB1 := Lib.hid (bel0 HB0.out hb); have F1 := Lib.hid (F0.out.below hb); obtain ⟨⟨t1, t2⟩, ⟨u1, u2, u3, u4⟩, ⟨v1, v2, v3, v4⟩, hz, hy⟩ := F1.out.cells; clear hb))
        | (go_at_call 16; ((with_reducible refine (HM1.out _ HB1.out).mono ?_); rintro e w2 ⟨rfl, hb⟩; have HB2 := Lib.hid (bel0 HB1.out hb); have F2 := Lib.hid (F1.out.below hb); clear t1 t2 u1 u2 u3 u4 v1 v2 v3 v4 hz hy; obtain ⟨⟨t1, t2⟩, ⟨u1, u2, u3, u4⟩, ⟨v1, v2, v3, v4⟩, hz, hy⟩ := F2.out.cells; clear hb))
        | (go_at_call 18; ((with_reducible refine (HMu.out _).mono ?_); rintro e w3 ⟨rfl, hb⟩; have HB3 := Lib.hid (bel0 HB2.out hb); clear t1 t2 u1 u2 u3 u4 v1 v2 v3 v4 hz hy hb))
        | fail)
      go_ret
      exact ⟨rfl, HB3.out.alloc HB3.out.size _⟩
  · obtain rfl : z = 0 := Decidable.byContradiction fun h => hbad (.inl h)
    obtain rfl : km = 0 := Decidable.byContradiction fun h => hbad (.inr h)
    obtain ⟨v, z2, hm2, hm3⟩ := hrest rfl rfl
    have HM2 := Lib.hid (fun W (hb : Below w.heap.size w W) => hm2.1 W AS cS AT cT ((hS.below hb).mono hb.size) ((hT.below hb).mono hb.size))
    have HM3 := Lib.hid (fun W (hb : Below w.heap.size w W) => hm3.1 W AS cS AT cT ((hS.below hb).mono hb.size) ((hT.below hb).mono hb.size))
    clear hS hT hm1 hrest hm hbad hm2 hm3
    go_enter Try.func5, Try.ntmps5
    go_wp2_with (first
      | (go_at_call 12; ((with_reducible refine (awake_any _).mono ?_); rintro e w1 ⟨rfl, hb⟩; have HB1 := Lib.hid (bel0 HB0.out hb); have F1 := Lib.hid (F0.out.below hb); obtain ⟨⟨t1, t2⟩, ⟨u1, u2, u3, u4⟩, ⟨v1, v2, v3, v4⟩, hz, hy⟩ := F1.out.cells; clear hb))
      | (go_at_call 16; ((with_reducible refine (HM1.out _ HB1.out).mono ?_); rintro e w2 ⟨rfl, hb⟩; have HB2 := Lib.hid (bel0 HB1.out hb); have F2 := Lib.hid (F1.out.below hb); clear t1 t2 u1 u2 u3 u4 v1 v2 v3 v4 hz hy; obtain ⟨⟨t1, t2⟩, ⟨u1, u2, u3, u4⟩, ⟨v1, v2, v3, v4⟩, hz, hy⟩ := F2.out.cells; clear hb))
      | (go_at_call 18; ((with_reducible refine (HMu.out _).mono ?_); rintro e w3 ⟨rfl, hb⟩; have HB3 : Hid (Below w.heap.size w (w3.alloc (.cells #[.int .i64 p, .int .i64 q, .int .i64 r, .int .i64 s] 32))) := (bel0 HB2.out hb).alloc (bel0 HB2.out hb).size _; have F3 := Lib.hid ((F2.out.below hb).alloc (.cells #[.int .i64 p, .int .i64 q, .int .i64 r, .int .i64 s] 32)); have P3 : Hid ((w3.alloc (.cells #[.int .i64 p, .int .i64 q, .int .i64 r, .int .i64 s] 32)).heap[w3.heap.size]? = some (.cells #[.int .i64 p, .int .i64 q, .int .i64 r, .int .i64 s] 32 (0, 0))) := heap_alloc_new w3 _; clear t1 t2 u1 u2 u3 u4 v1 v2 v3 v4 hz hy; obtain ⟨⟨t1, t2⟩, ⟨u1, u2, u3, u4⟩, ⟨v1, v2, v3, v4⟩, hz, hy⟩ := F3.out.cells; clear hb))
      | (go_at_call 16; ((with_reducible refine (HM2.out _ HB3.out).mono ?_); rintro e w4 ⟨rfl, hb⟩; have HB4 := Lib.hid (bel0 HB3.out hb); have F4 := Lib.hid (F3.out.below hb); have P4 := Lib.hid (block_below P3.out hb); clear t1 t2 u1 u2 u3 u4 v1 v2 v3 v4 hz hy; obtain ⟨⟨t1, t2⟩, ⟨u1, u2, u3, u4⟩, ⟨v1, v2, v3, v4⟩, hz, hy⟩ := F4.out.cells; obtain ⟨⟨p1, p2, p3, p4⟩, _⟩ := four_of_block P4.out; clear hb))
      | (go_at_call 16; ((with_reducible refine (HM3.out _ HB4.out).mono ?_); rintro e w5 ⟨rfl, hb⟩; have HB5 := Lib.hid (bel0 HB4.out hb); clear t1 t2 u1 u2 u3 u4 v1 v2 v3 v4 hz hy p1 p2 p3 p4 hb))
      | fail)
    go_ret
    exact ⟨rfl, HB5.out⟩
end Go.Proofs.Ytjofmgnggeoimaa
