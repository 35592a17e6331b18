/- PermutationBases answers true for all arguments. -/
import Derived.Test.YtpooncdaajcmkaaLawMov
import Derived.Test.YtpooncdaajcmkaaLawPrj
import Derived.Test.YtpooncdaajcmkaaBasL
import Derived.Test.YtpooncdaajcmkaaRSeaL
namespace Go.Proofs.Ytpooncdaajcmkaa
open Go.RowKit
set_option linter.unusedVariables false
set_option linter.unusedSimpArgs false

theorem itr_cj {f F p : Nat → Nat} {n : Nat} (hf : ∀ x, x < n → F (p x) = p (f x)) (hl : Prm f n) {x : Nat} (hx : x < n) : ∀ k, itr F k (p x) = p (itr f k x)
  | 0 => rfl
  | k + 1 => by show F (itr F k (p x)) = p (f (itr f k x)); rw [itr_cj hf hl hx k, hf _ (hl.itr_lt hx k)]
theorem pw_cj {f F p : Nat → Nat} {n : Nat} (hp : Prm p n) (hF : Prm F n) (hl : Prm f n) (hf : ∀ x, x < n → F (p x) = p (f x)) {x : Nat} (hx : x < n) (e : Int) : pw F n (p x) e = p (pw f n x e) := by
  have h1 := (perO_spec hl hx).1
  have h2 : IsPer F (p x) (perO f n x) := ⟨h1.pos, by rw [itr_cj hf hl hx, h1.back], fun j h3 h4 e => h1.least j h3 h4 (hp.inj _ _ (hl.itr_lt hx j) hx (by rw [← itr_cj hf hl hx]; exact e))⟩
  have h5 := (perO_spec hF (hp.lt x hx)).1.uniq h2
  unfold pw
  rw [h5, itr_cj hf hl hx]
theorem mvP_cj {g f G F p : Nat → Nat} {n : Nat} (h : PAct g f n) (h' : PAct G F n) (hp : Prm p n) (hg : ∀ x, x < n → G (p x) = p (g x)) (hf : ∀ x, x < n → F (p x) = p (f x)) (l : List Int) {x : Nat} (hx : x < n) : ∀ k, mvP G F n l (p x) k = p (mvP g f n l x k)
  | 0 => rfl
  | k + 1 => by
    have ih := mvP_cj h h' hp hg hf l hx k
    have hl := mvP_lt h hx l k
    show pw F n (if k = 0 then mvP G F n l (p x) k else G (mvP G F n l (p x) k)) _ = p (pw f n (if k = 0 then mvP g f n l x k else g (mvP g f n l x k)) _)
    rw [ih, hg _ hl]
    by_cases e : k = 0
    · rw [if_pos e, if_pos e]; exact pw_cj hp h'.fp h.fp hf hl _
    · rw [if_neg e, if_neg e]; exact pw_cj hp h'.fp h.fp hf (h.gp.lt _ hl) _
theorem mvI_lt {S T : List Int} (ha : Act2 S T) {i : Nat} (hi : i < S.length) (a b c d : Int) : mvI S T i a b c d < S.length := by
  have hP := pact_of ha
  unfold mvI
  split
  · exact hP.zl _ (mvP_lt hP hi _ _)
  · exact mvP_lt hP hi _ _
theorem mvI_base {S T : List Int} (ha : Act2 S T) {i : Nat} (hi : i < S.length) (a b c d : Int) : mvI (iz (bS (fnz S) (fnz T) S.length i)) (iz (bT (fnz S) (fnz T) S.length i)) 0 a b c d = plcO (fnz S) (fnz T) S.length i (mvI S T i a b c d) := by
  have hP := pact_of ha
  have hB := base_pact hP hi
  have hl : (iz (bS (fnz S) (fnz T) S.length i)).length = S.length := by rw [iz_len]; unfold bS; simp
  have h0 := plc_base hP hi
  have key := fun l k => mvP_cj hP hB (plc_prm hP hi) (bS_pl hP hi) (bT_pl hP hi) l hi k
  unfold mvI
  rw [hl, ← h0]
  by_cases e : wn 32 ⟨a, b, c, d⟩ = true
  · rw [if_pos e, if_pos e, key]
    have hx := mvP_lt hP hi (wl 32 ⟨a, b, c, d⟩) (wl 32 ⟨a, b, c, d⟩).length
    show fnz _ (fnz _ (plcO _ _ _ _ _)) = _
    rw [bS_pl hP hi _ hx, bS_pl hP hi _ (hP.gp.lt _ hx)]
    rfl
  · rw [if_neg e, if_neg e, key]
set_option maxHeartbeats 3200000 in
set_option maxRecDepth 1000000 in
theorem base_bad {S T : List Int} {B cS cT : Nat} {AS AT : Option Addr} (w : World) (hS : RdZ w B AS cS S) (hT : RdZ w B AT cT T) (hB : B ≤ w.heap.size) (i z : Int) (hz : chkA S T = z) (hz0 : z ≠ 0) :
    Calls Try.prog 26 #[.agg #[.slice AS S.length cS, .slice AT T.length cT], .int .i64 i] w fun e w' => e = .returned (.tuple #[.agg #[.slice none 0 0, .slice none 0 0], .int .i64 z]) ∧ Below w.heap.size w w' := by
  have HCk : Hid (∀ W, Below w.heap.size w W → Calls Try.prog 43 #[.agg #[.slice AS S.length cS, .slice AT T.length cT], .int .i64 i] W fun e w' => e = .returned (.int .i64 z) ∧ Below W.heap.size W w') := fun W hb => ckpoint_bad W (hS.below (hb.mono hB)) (hT.below (hb.mono hB)) (Nat.le_trans hB hb.size) i z hz hz0
  clear hS hT hz
  have hr0 := heap_alloc_new (w.alloc (.cells #[.slice AS S.length cS, .slice AT T.length cT] 24)) (.cells #[.slice none 0 0, .slice none 0 0] 24)
  rw [show (w.alloc (.cells #[.slice AS S.length cS, .slice AT T.length cT] 24)).heap.size = w.heap.size + 1 by simp] at hr0
  have R0 := Lib.hid hr0
  have HB0 : Hid (Below w.heap.size w ((w.alloc (.cells #[.slice AS S.length cS, .slice AT T.length cT] 24)).alloc (.cells #[.slice none 0 0, .slice none 0 0] 24))) := below2 w _ _
  have hzb : (z == 0) = false := by simpa using hz0
  clear hr0
  go_enter Try.func26, Try.ntmps26
  go_wp2_with (first
    | (go_at_call 43; ((with_reducible refine (HCk.out _ HB0.out).mono ?_); rintro e w1 ⟨rfl, hb⟩; have HB1 := Lib.hid (bel0 HB0.out hb); have R1 := Lib.hid (block_below R0.out hb); obtain ⟨⟨r1, r2⟩, rf⟩ := two_of_block R1.out; have hz2 := lt_of_block R1.out; clear hb))
    | fail)
  have hrl := two_set1 (two_set0 R1.out (.slice none 0 0)) (.slice none 0 0)
  obtain ⟨⟨s1, s2⟩, _⟩ := two_of_block hrl
  refine bodyPost_ret (v := .tuple #[.agg #[.slice none 0 0, .slice none 0 0], .int .i64 z]) ?_ rfl ⟨rfl, (HB1.out.setCell (by show _ ≤ w.heap.size + 1; omega) _).setCell (by show _ ≤ w.heap.size + 1; omega) _⟩
  simp [results, Try.results26, go_sem, s1, s2]
set_option maxHeartbeats 3200000 in
set_option maxRecDepth 1000000 in
theorem contains_of {S T : List Int} {a b c d x z : Int} (hm : MovesTo S T 0 a b c d x z) (q : Bool) (hq : q = (z == 0 && x == 0)) (w : World) (AS : Option Addr) (cS : Nat) (AT : Option Addr) (cT : Nat) (hS : RdZ w w.heap.size AS cS S) (hT : RdZ w w.heap.size AT cT T) :
    Calls Try.prog 19 #[.agg #[.slice AS S.length cS, .slice AT T.length cT], .agg #[.int .i64 a, .int .i64 b, .int .i64 c, .int .i64 d]] w fun e w' => e = .returned (.tuple #[.bool q, .int .i64 z]) ∧ Below w.heap.size w w' := by
  have X0 : Hid (((w.alloc (.cells #[.slice AS S.length cS, .slice AT T.length cT] 24)).alloc (.cells #[.int .i64 a, .int .i64 b, .int .i64 c, .int .i64 d] 32)).heap[w.heap.size]? = some (.cells #[.slice AS S.length cS, .slice AT T.length cT] 24 (0, 0))) := block_alloc (heap_alloc_new w _) _
  have hy0 := heap_alloc_new (w.alloc (.cells #[.slice AS S.length cS, .slice AT T.length cT] 24)) (.cells #[.int .i64 a, .int .i64 b, .int .i64 c, .int .i64 d] 32)
  rw [show (w.alloc (.cells #[.slice AS S.length cS, .slice AT T.length cT] 24)).heap.size = w.heap.size + 1 by simp] at hy0
  have Y0 := Lib.hid hy0
  have HB0 : Hid (Below w.heap.size w ((w.alloc (.cells #[.slice AS S.length cS, .slice AT T.length cT] 24)).alloc (.cells #[.int .i64 a, .int .i64 b, .int .i64 c, .int .i64 d] 32))) := below2 w _ _
  clear hy0
  have HM := Lib.hid (fun W (hb : Below w.heap.size w W) => hm.1 W AS cS AT cT ((hS.below hb).mono hb.size) ((hT.below hb).mono hb.size))
  clear hS hT hm
  go_enter Try.func19, Try.ntmps19
  have HQ := Lib.hid hq
  clear hq
  go_wp2_with (first
    | (go_at_call 16; ((with_reducible refine (HM.out _ HB0.out).mono ?_); rintro e w1 ⟨rfl, hb⟩; have HB1 := Lib.hid (bel0 HB0.out hb); clear hb; by_cases hz0 : z = 0))
    | fail)
  · subst hz0
    have hq1 : q = (x == 0) := by rw [HQ.out]; simp
    subst hq1
    go_wp2
    go_ret2
    exact ⟨rfl, HB1.out⟩
  · have hz1 : (z == 0) = false := by simpa using hz0
    have hq1 : q = false := by rw [HQ.out, hz1]; rfl
    subst hq1
    go_wp2
    go_ret2
    exact ⟨rfl, HB1.out⟩
set_option maxHeartbeats 6400000 in
set_option maxRecDepth 1000000 in
theorem pbases_bad (S T : List Int) {cS cT : Nat} {AS AT : Option Addr} (i a b c d : Int) (w : World) (hS : RdZ w w.heap.size AS cS S) (hT : RdZ w w.heap.size AT cT T) (hAS : AS = none → cS = 0) (hAT : AT = none → cT = 0) (hlS : S.length ≤ 17592186044416) (hlT : T.length ≤ 17592186044416) (z : Int) (hz : chkA S T = z) (hz0 : z ≠ 0) :
    Calls Try.prog 8 #[.agg #[.slice AS S.length cS, .slice AT T.length cT], .int .i64 i, .agg #[.int .i64 a, .int .i64 b, .int .i64 c, .int .i64 d]] w fun e w' => e = .returned (.bool true) ∧ Below w.heap.size w w' := by
  have HCo := Lib.hid (fun W (hb : Below w.heap.size w W) => copy_any W ((hS.below hb).mono hb.size) ((hT.below hb).mono hb.size) hAS hAT hlS hlT)
  have HBa : Hid (∀ (W : World) A c A' c', RdZ W W.heap.size A c S → RdZ W W.heap.size A' c' T → Calls Try.prog 26 #[.agg #[.slice A S.length c, .slice A' T.length c'], .int .i64 i] W fun e w' => e = .returned (.tuple #[.agg #[.slice none 0 0, .slice none 0 0], .int .i64 z]) ∧ Below W.heap.size W w') := fun W A c A' c' h h' => base_bad W h h' (Nat.le_refl _) i z hz hz0
  have HR : Hid (∀ (W : World), Below w.heap.size w W → Calls Try.prog 15 #[.agg #[.slice AS S.length cS, .slice AT T.length cT]] W fun e w' => e = .returned (.int .i64 z) ∧ Below W.heap.size W w') := fun W hb => by
    have := rcheckA_any W (hS.below hb) (hT.below hb) hb.size
    rwa [hz] at this
  have hzb : (z == 0) = false := by simpa using hz0
  clear hS hT hAS hAT hz
  have X0 : Hid (((w.alloc (.cells #[.slice AS S.length cS, .slice AT T.length cT] 24)).alloc (.cells #[.int .i64 a, .int .i64 b, .int .i64 c, .int .i64 d] 32)).heap[w.heap.size]? = some (.cells #[.slice AS S.length cS, .slice AT T.length cT] 24 (0, 0))) := block_alloc (heap_alloc_new w _) _
  have hy0 := heap_alloc_new (w.alloc (.cells #[.slice AS S.length cS, .slice AT T.length cT] 24)) (.cells #[.int .i64 a, .int .i64 b, .int .i64 c, .int .i64 d] 32)
  rw [show (w.alloc (.cells #[.slice AS S.length cS, .slice AT T.length cT] 24)).heap.size = w.heap.size + 1 by simp] at hy0
  have Y0 := Lib.hid hy0
  have HB0 : Hid (Below w.heap.size w ((w.alloc (.cells #[.slice AS S.length cS, .slice AT T.length cT] 24)).alloc (.cells #[.int .i64 a, .int .i64 b, .int .i64 c, .int .i64 d] 32))) := below2 w _ _
  clear hy0
  go_enter Try.func8, Try.ntmps8
  go_wp2_with (first
    | (go_at_call 12; ((with_reducible refine (awake_any _).mono ?_); rintro e w1 ⟨rfl, hb⟩; have HB1 := Lib.hid (bel0 HB0.out hb); have X1 := Lib.hid (block_below X0.out hb); have Y1 := Lib.hid (block_below Y0.out hb); obtain ⟨⟨x1, x2⟩, _⟩ := two_of_block X1.out; clear hb))
    | (go_at_call 14; ((with_reducible refine (HCo.out _ HB1.out).mono ?_); rintro e w2 ⟨A1, c1, A2, c2, rfl, h1, h2, hb⟩; have HB2 := Lib.hid (bel0 HB1.out hb); have X2 := Lib.hid (block_below X1.out hb); have Y2 := Lib.hid (block_below Y1.out hb); have H1 := Lib.hid h1; have H2 := Lib.hid h2; clear hb h1 h2 x1 x2))
    | (go_at_call 26; ((with_reducible refine (HBa.out _ _ _ _ _ H1.out H2.out).mono ?_); rintro e w3 ⟨rfl, hb⟩; have HB3 : Hid (Below w.heap.size w (w3.alloc (.cells #[.slice none 0 0, .slice none 0 0] 24))) := (bel0 HB2.out hb).alloc (bel0 HB2.out hb).size _; have X3 := Lib.hid (block_alloc (block_below X2.out hb) (.cells #[.slice none 0 0, .slice none 0 0] 24)); have Y3 := Lib.hid (block_alloc (block_below Y2.out hb) (.cells #[.slice none 0 0, .slice none 0 0] 24)); have P3 : Hid ((w3.alloc (.cells #[.slice none 0 0, .slice none 0 0] 24)).heap[w3.heap.size]? = some (.cells #[.slice none 0 0, .slice none 0 0] 24 (0, 0))) := heap_alloc_new w3 _; obtain ⟨⟨x1, x2⟩, _⟩ := two_of_block X3.out; clear hb))
    | (go_at_call 15; ((with_reducible refine (HR.out _ HB3.out).mono ?_); rintro e w4 ⟨rfl, hb⟩; have HB4 := Lib.hid (bel0 HB3.out hb); have P4 := Lib.hid (block_below P3.out hb); have X4 := Lib.hid (block_below X3.out hb); have Y4 := Lib.hid (block_below Y3.out hb);  clear x1 x2; obtain ⟨⟨x1, x2⟩, _⟩ := two_of_block X4.out; obtain ⟨⟨p1, p2⟩, _⟩ := two_of_block P4.out; clear hb))
    | (go_at_call 23; ((with_reducible refine (same22e _).mono ?_); rintro e w5 ⟨rfl, hb⟩; have HB5 := Lib.hid (bel0 HB4.out hb); clear hb))
    | fail)
  go_ret
  exact ⟨rfl, HB5.out⟩
set_option maxHeartbeats 6400000 in
set_option maxRecDepth 1000000 in
theorem pbases_out (S T : List Int) {cS cT : Nat} {AS AT : Option Addr} (i a b c d : Int) (w : World) (hS : RdZ w w.heap.size AS cS S) (hT : RdZ w w.heap.size AT cT T) (hAS : AS = none → cS = 0) (hAT : AT = none → cT = 0) (hlS : S.length ≤ 17592186044416) (hlT : T.length ≤ 17592186044416) (ha : Act2 S T) (hi : i < 0 ∨ (S.length : Int) ≤ i) :
    Calls Try.prog 8 #[.agg #[.slice AS S.length cS, .slice AT T.length cT], .int .i64 i, .agg #[.int .i64 a, .int .i64 b, .int .i64 c, .int .i64 d]] w fun e w' => e = .returned (.bool true) ∧ Below w.heap.size w w' := by
  have HCo := Lib.hid (fun W (hb : Below w.heap.size w W) => copy_any W ((hS.below hb).mono hb.size) ((hT.below hb).mono hb.size) hAS hAT hlS hlT)
  have HBa : Hid (∀ (W : World) A c A' c', RdZ W W.heap.size A c S → RdZ W W.heap.size A' c' T → Calls Try.prog 26 #[.agg #[.slice A S.length c, .slice A' T.length c'], .int .i64 i] W fun e w' => e = .returned (.tuple #[.agg #[.slice none 0 0, .slice none 0 0], .int .i64 2]) ∧ Below W.heap.size W w') := fun W A c A' c' h h' => by
    obtain ⟨b1, o1, b2, o2, rfl, rfl, hai⟩ := AI.mk' ha h h' (Nat.le_refl _)
    rw [ha.len]
    exact base_out W hai i hi
  have HR := Lib.hid (fun W hb => rck_ok ha w hS hT W hb)
  have HH := Lib.hid hi
  clear hS hT hAS hAT hi
  have X0 : Hid (((w.alloc (.cells #[.slice AS S.length cS, .slice AT T.length cT] 24)).alloc (.cells #[.int .i64 a, .int .i64 b, .int .i64 c, .int .i64 d] 32)).heap[w.heap.size]? = some (.cells #[.slice AS S.length cS, .slice AT T.length cT] 24 (0, 0))) := block_alloc (heap_alloc_new w _) _
  have hy0 := heap_alloc_new (w.alloc (.cells #[.slice AS S.length cS, .slice AT T.length cT] 24)) (.cells #[.int .i64 a, .int .i64 b, .int .i64 c, .int .i64 d] 32)
  rw [show (w.alloc (.cells #[.slice AS S.length cS, .slice AT T.length cT] 24)).heap.size = w.heap.size + 1 by simp] at hy0
  have Y0 := Lib.hid hy0
  have HB0 : Hid (Below w.heap.size w ((w.alloc (.cells #[.slice AS S.length cS, .slice AT T.length cT] 24)).alloc (.cells #[.int .i64 a, .int .i64 b, .int .i64 c, .int .i64 d] 32))) := below2 w _ _
  clear hy0
  go_enter Try.func8, Try.ntmps8
  go_wp2_with (first
    | (go_at_call 12; ((with_reducible refine (awake_any _).mono ?_); rintro e w1 ⟨rfl, hb⟩; have HB1 := Lib.hid (bel0 HB0.out hb); have X1 := Lib.hid (block_below X0.out hb); have Y1 := Lib.hid (block_below Y0.out hb); obtain ⟨⟨x1, x2⟩, _⟩ := two_of_block X1.out; clear hb))
    | (go_at_call 14; ((with_reducible refine (HCo.out _ HB1.out).mono ?_); rintro e w2 ⟨A1, c1, A2, c2, rfl, h1, h2, hb⟩; have HB2 := Lib.hid (bel0 HB1.out hb); have X2 := Lib.hid (block_below X1.out hb); have Y2 := Lib.hid (block_below Y1.out hb); have H1 := Lib.hid h1; have H2 := Lib.hid h2; clear hb h1 h2 x1 x2))
    | (go_at_call 26; ((with_reducible refine (HBa.out _ _ _ _ _ H1.out H2.out).mono ?_); rintro e w3 ⟨rfl, hb⟩; have HB3 : Hid (Below w.heap.size w (w3.alloc (.cells #[.slice none 0 0, .slice none 0 0] 24))) := (bel0 HB2.out hb).alloc (bel0 HB2.out hb).size _; have X3 := Lib.hid (block_alloc (block_below X2.out hb) (.cells #[.slice none 0 0, .slice none 0 0] 24)); have Y3 := Lib.hid (block_alloc (block_below Y2.out hb) (.cells #[.slice none 0 0, .slice none 0 0] 24)); have P3 : Hid ((w3.alloc (.cells #[.slice none 0 0, .slice none 0 0] 24)).heap[w3.heap.size]? = some (.cells #[.slice none 0 0, .slice none 0 0] 24 (0, 0))) := heap_alloc_new w3 _; obtain ⟨⟨x1, x2⟩, _⟩ := two_of_block X3.out; clear hb))
    | (go_at_call 15; ((with_reducible refine (HR.out _ HB3.out).mono ?_); rintro e w4 ⟨rfl, hb⟩; have HB4 := Lib.hid (bel0 HB3.out hb); have P4 := Lib.hid (block_below P3.out hb); have X4 := Lib.hid (block_below X3.out hb); have Y4 := Lib.hid (block_below Y3.out hb);  clear x1 x2; obtain ⟨⟨x1, x2⟩, _⟩ := two_of_block X4.out; obtain ⟨⟨p1, p2⟩, _⟩ := two_of_block P4.out; clear hb; rcases HH.out with h1 | h1))
    | (go_at_call 23; ((with_reducible refine (same22e _).mono ?_); rintro e w5 ⟨rfl, hb⟩; have HB5 := Lib.hid (bel0 HB4.out hb); clear hb))
    | fail)
  · go_ret
    exact ⟨rfl, HB5.out⟩
  · have n1 : ¬ i < 0 := by omega
    go_wp2_with (first
      | (go_at_call 23; ((with_reducible refine (same22e _).mono ?_); rintro e w5 ⟨rfl, hb⟩; have HB5 := Lib.hid (bel0 HB4.out hb); clear hb))
      | fail)
    go_ret
    exact ⟨rfl, HB5.out⟩
set_option maxHeartbeats 6400000 in
set_option maxRecDepth 1000000 in
theorem pbases_ok (S T : List Int) {cS cT : Nat} {AS AT : Option Addr} (j : Nat) (a b c d : Int) (w : World) (hS : RdZ w w.heap.size AS cS S) (hT : RdZ w w.heap.size AT cT T) (hAS : AS = none → cS = 0) (hAT : AT = none → cT = 0) (hlS : S.length ≤ 17592186044416) (hlT : T.length ≤ 17592186044416) (ha : Act2 S T) (hj : j < S.length) :
    Calls Try.prog 8 #[.agg #[.slice AS S.length cS, .slice AT T.length cT], .int .i64 (j : Nat), .agg #[.int .i64 a, .int .i64 b, .int .i64 c, .int .i64 d]] w fun e w' => e = .returned (.bool true) ∧ Below w.heap.size w w' := by
  have n1 : ¬ ((j : Int) < 0) := by omega
  have n2 : ¬ ((S.length : Int) ≤ (j : Int)) := by omega
  obtain ⟨QS, hQS⟩ : ∃ Q, Q = bS (fnz S) (fnz T) S.length j := ⟨_, rfl⟩
  obtain ⟨QT, hQT⟩ : ∃ Q, Q = bT (fnz S) (fnz T) S.length j := ⟨_, rfl⟩
  have hlQ : QS.length = S.length := by rw [hQS]; unfold bS; simp
  have hlR : QT.length = S.length := by rw [hQT]; unfold bT; simp
  obtain ⟨q, x, z, hq, hmB, hmA⟩ : ∃ (q : Bool) (x z : Int), q = (z == 0 && x == (j : Int)) ∧ (∃ y : Int, MovesTo (iz QS) (iz QT) 0 a b c d y z ∧ q = (z == 0 && y == 0)) ∧ MovesTo S T (j : Nat) a b c d x z := by
    have hba := base_act ha hj
    rw [← hQS, ← hQT] at hba
    by_cases hk : chkI a b c d = 0
    · have h1 := moves_ok ha j a b c d hj hk
      have h2 := moves_ok hba 0 a b c d hba.pos hk
      have e := mvI_base ha hj a b c d
      rw [← hQS, ← hQT] at e
      rw [e] at h2
      have hP := pact_of ha
      have h3 := plc_base hP hj
      have h4 := mvI_lt ha hj a b c d
      have hpi := (plc_prm hP hj).inj
      clear e
      generalize mvI S T j a b c d = mv at *
      generalize plcO (fnz S) (fnz T) S.length j = p at *
      have h2' : MovesTo (iz QS) (iz QT) 0 a b c d ((p mv : Nat) : Int) 0 := h2
      clear h2
      refine ⟨((0 : Int) == 0 && ((mv : Nat) : Int) == (j : Int)), ((mv : Nat) : Int), 0, rfl, ⟨((p mv : Nat) : Int), h2', ?_⟩, h1⟩
      by_cases e2 : mv = j
      · rw [e2, h3]; simp
      · have e3 : p mv ≠ 0 := fun e4 => e2 (hpi _ _ h4 hj (by rw [e4, h3]))
        have e5 : (((mv : Nat) : Int) == (j : Int)) = false := by simp; omega
        have e6 : (((p mv : Nat) : Int) == 0) = false := by simp; omega
        rw [e5, e6]
    · have h1 := moves_mat ha (j : Nat) a b c d _ (by omega) (by omega) rfl hk
      have h2 := moves_mat hba 0 a b c d _ (Int.le_refl 0) (by have := hba.pos; omega) rfl hk
      refine ⟨false, 0, _, ?_, ⟨0, h2, ?_⟩, h1⟩
      · have : (chkI a b c d == 0) = false := by simpa using hk
        rw [this]; rfl
      · have : (chkI a b c d == 0) = false := by simpa using hk
        rw [this]; rfl
  obtain ⟨y, hmB, hqy⟩ := hmB
  have HCo := Lib.hid (fun W (hb : Below w.heap.size w W) => copy_any W ((hS.below hb).mono hb.size) ((hT.below hb).mono hb.size) hAS hAT hlS hlT)
  have HBa : Hid (∀ (W : World) A c A' c', RdZ W W.heap.size A c S → RdZ W W.heap.size A' c' T → Calls Try.prog 26 #[.agg #[.slice A S.length c, .slice A' T.length c'], .int .i64 (j : Nat)] W fun e w' => ∃ A c A' c', e = .returned (.tuple #[.agg #[.slice A QS.length c, .slice A' QT.length c'], .int .i64 0]) ∧ RdZ w' w'.heap.size A c (iz QS) ∧ RdZ w' w'.heap.size A' c' (iz QT) ∧ Below W.heap.size W w') := fun W A c A' c' h h' => by
    obtain ⟨b1, o1, b2, o2, rfl, rfl, hai⟩ := AI.mk' ha h h' (Nat.le_refl _)
    rw [ha.len, hlQ, hlR, hQS, hQT]
    exact base_any W hai j hj
  have HR := Lib.hid (fun W hb => rck_ok ha w hS hT W hb)
  have HSe : Hid (∀ W, Below w.heap.size w W → Calls Try.prog 28 #[.agg #[.slice AS S.length cS, .slice AT T.length cT], .int .i64 (j : Nat)] W fun e w' => ∃ A c, e = .returned (.slice A S.length c) ∧ w'.ownsRow W.heap.size 3 1 (.slice A S.length c) S.length (zs (iz (bst (fnz S) (fnz T) j S.length))) ∧ Below W.heap.size W w') := fun W hb => by
    obtain ⟨b1, o1, b2, o2, rfl, rfl, hai⟩ := AI.mk' ha (hS.below hb) (hT.below hb) hb.size
    rw [ha.len]
    have := rsearch_any (cS := cS) (cT := cT) W (hai.s.mono hai.le) (hai.t.mono hai.le) ha.ps ha.pt hj ha.le
    rwa [bst_full (pact_of ha) hj] at this
  have HNu : Hid (∀ (W : World) (B : Nat) (A : Option Addr) (c : Nat), Below w.heap.size w W → W.ownsRow B 3 1 (.slice A S.length c) S.length (zs (iz (bst (fnz S) (fnz T) j S.length))) → Calls Try.prog 27 #[.agg #[.slice AS S.length cS, .slice AT T.length cT], .slice A S.length c] W fun e w' => ∃ A c A' c', e = .returned (.agg #[.slice A QS.length c, .slice A' QT.length c']) ∧ RdZ w' w'.heap.size A c (iz QS) ∧ RdZ w' w'.heap.size A' c' (iz QT) ∧ Below W.heap.size W w') := fun W B A c hb ho => by
    obtain ⟨b1, o1, b2, o2, rfl, rfl, hai⟩ := AI.mk' ha (hS.below hb) (hT.below hb) hb.size
    have hP := pact_of ha
    obtain ⟨gl, rfl, hr⟩ := own_rdn ho (bst_full hP hj) (by have := ha.pos; omega)
    rw [ha.len]
    refine (rnumber_any (cS := cS) (cT := cT) W (hai.s.mono hai.le) (hai.t.mono hai.le) hr ha.ps ha.pt (fun k hk => ord_lt hP hj k hk) ha.le).mono ?_
    rintro e w' ⟨A, c, A', c', rfl, h1, h2, hb'⟩
    obtain ⟨A3, c3, A4, c4, e3, r1, r2, r3⟩ := rp_fin (w := W) (QS := QS) (QT := QT) h1 h2 (by rw [hQS]; rfl) (by rw [hQT]; rfl) (by simp) (by simp) hb'
    exact ⟨A3, c3, A4, c4, e3, r1, r2, r3⟩
  have HCn : Hid (∀ (W : World) A u A' u', RdZ W W.heap.size A u (iz QS) → RdZ W W.heap.size A' u' (iz QT) → Calls Try.prog 19 #[.agg #[.slice A QS.length u, .slice A' QT.length u'], .agg #[.int .i64 a, .int .i64 b, .int .i64 c, .int .i64 d]] W fun e w' => e = .returned (.tuple #[.bool q, .int .i64 z]) ∧ Below W.heap.size W w') := fun W A u A' u' h h' => by
    have := contains_of hmB q hqy W A u A' u' h h'
    rwa [iz_len, iz_len] at this
  have HMv := Lib.hid (fun W (hb : Below w.heap.size w W) => hmA.1 W AS cS AT cT ((hS.below hb).mono hb.size) ((hT.below hb).mono hb.size))
  have HQ := Lib.hid hq
  clear hS hT hAS hAT hmA hmB hq hqy hQS hQT hlQ hlR
  have X0 : Hid (((w.alloc (.cells #[.slice AS S.length cS, .slice AT T.length cT] 24)).alloc (.cells #[.int .i64 a, .int .i64 b, .int .i64 c, .int .i64 d] 32)).heap[w.heap.size]? = some (.cells #[.slice AS S.length cS, .slice AT T.length cT] 24 (0, 0))) := block_alloc (heap_alloc_new w _) _
  have hy0 := heap_alloc_new (w.alloc (.cells #[.slice AS S.length cS, .slice AT T.length cT] 24)) (.cells #[.int .i64 a, .int .i64 b, .int .i64 c, .int .i64 d] 32)
  rw [show (w.alloc (.cells #[.slice AS S.length cS, .slice AT T.length cT] 24)).heap.size = w.heap.size + 1 by simp] at hy0
  have Y0 := Lib.hid hy0
  have HB0 : Hid (Below w.heap.size w ((w.alloc (.cells #[.slice AS S.length cS, .slice AT T.length cT] 24)).alloc (.cells #[.int .i64 a, .int .i64 b, .int .i64 c, .int .i64 d] 32))) := below2 w _ _
  clear hy0
  go_enter Try.func8, Try.ntmps8
  go_wp2_with (first
    | (go_at_call 12; ((with_reducible refine (awake_any _).mono ?_); rintro e w1 ⟨rfl, hb⟩; have HB1 := Lib.hid (bel0 HB0.out hb); have X1 := Lib.hid (block_below X0.out hb); have Y1 := Lib.hid (block_below Y0.out hb); obtain ⟨⟨x1, x2⟩, _⟩ := two_of_block X1.out; clear hb))
    | (go_at_call 14; ((with_reducible refine (HCo.out _ HB1.out).mono ?_); rintro e w2 ⟨A1, c1, A2, c2, rfl, h1, h2, hb⟩; have HB2 := Lib.hid (bel0 HB1.out hb); have X2 := Lib.hid (block_below X1.out hb); have Y2 := Lib.hid (block_below Y1.out hb); have H1 := Lib.hid h1; have H2 := Lib.hid h2; clear hb h1 h2 x1 x2))
    | (go_at_call 26; ((with_reducible refine (HBa.out _ _ _ _ _ H1.out H2.out).mono ?_); rintro e w3 ⟨A3, c3, A4, c4, rfl, k1, k2, hb⟩; have HB3 : Hid (Below w.heap.size w (w3.alloc (.cells #[.slice A3 QS.length c3, .slice A4 QT.length c4] 24))) := (bel0 HB2.out hb).alloc (bel0 HB2.out hb).size _; have X3 := Lib.hid (block_alloc (block_below X2.out hb) (.cells #[.slice A3 QS.length c3, .slice A4 QT.length c4] 24)); have Y3 := Lib.hid (block_alloc (block_below Y2.out hb) (.cells #[.slice A3 QS.length c3, .slice A4 QT.length c4] 24)); have P3 : Hid ((w3.alloc (.cells #[.slice A3 QS.length c3, .slice A4 QT.length c4] 24)).heap[w3.heap.size]? = some (.cells #[.slice A3 QS.length c3, .slice A4 QT.length c4] 24 (0, 0))) := heap_alloc_new w3 _; have hb3 := below1 w3 (.cells #[.slice A3 QS.length c3, .slice A4 QT.length c4] 24); have K13 := Lib.hid ((k1.below hb3).mono hb3.size); have K23 := Lib.hid ((k2.below hb3).mono hb3.size); clear k1 k2 hb3; obtain ⟨⟨x1, x2⟩, _⟩ := two_of_block X3.out; clear hb))
    | (go_at_call 15; ((with_reducible refine (HR.out _ HB3.out).mono ?_); rintro e w4 ⟨rfl, hb⟩; have HB4 := Lib.hid (bel0 HB3.out hb); have P4 := Lib.hid (block_below P3.out hb); have X4 := Lib.hid (block_below X3.out hb); have Y4 := Lib.hid (block_below Y3.out hb); have K14 := Lib.hid ((K13.out.below hb).mono hb.size); have K24 := Lib.hid ((K23.out.below hb).mono hb.size); clear x1 x2; obtain ⟨⟨x1, x2⟩, _⟩ := two_of_block X4.out; obtain ⟨⟨p1, p2⟩, _⟩ := two_of_block P4.out; clear hb))
    | fail)
  have D4 : Hid (Below w.heap.size w w4.drew) := HB4.out.drew
  have X5 : Hid (w4.drew.heap[w.heap.size]? = some (.cells #[.slice AS S.length cS, .slice AT T.length cT] 24 (0, 0))) := X4.out
  have P5 : Hid (w4.drew.heap[w3.heap.size]? = some (.cells #[.slice A3 QS.length c3, .slice A4 QT.length c4] 24 (0, 0))) := P4.out
  have Y5 : Hid (w4.drew.heap[w.heap.size + 1]? = some (.cells #[.int .i64 a, .int .i64 b, .int .i64 c, .int .i64 d] 32 (0, 0))) := Y4.out
  have K15 : Hid (RdZ w4.drew w4.drew.heap.size A3 c3 (iz QS)) := K14.out.below ((Below.refl _ w4).drew)
  have K25 : Hid (RdZ w4.drew w4.drew.heap.size A4 c4 (iz QT)) := K24.out.below ((Below.refl _ w4).drew)
  have HK : Hid (∀ {W : World}, W.heap[w.heap.size]? = some (.cells #[.slice AS S.length cS, .slice AT T.length cT] 24 (0, 0)) → W.heap[w3.heap.size]? = some (.cells #[.slice A3 QS.length c3, .slice A4 QT.length c4] 24 (0, 0)) → (W.cell? ⟨w.heap.size, 0, none⟩ = some (.slice AS S.length cS) ∧ W.cell? ⟨w.heap.size, 1, none⟩ = some (.slice AT T.length cT)) ∧ W.cell? ⟨w3.heap.size, 0, none⟩ = some (.slice A3 QS.length c3) ∧ W.cell? ⟨w3.heap.size, 1, none⟩ = some (.slice A4 QT.length c4)) := fun h h' => ⟨(two_of_block h).1, (two_of_block h').1⟩
  clear x1 x2 p1 p2
  go_region_held3 (fun w' => (w'.cell? ⟨w.heap.size, 0, none⟩ = some (.slice AS S.length cS) ∧ w'.cell? ⟨w.heap.size, 1, none⟩ = some (.slice AT T.length cT)) ∧ w'.cell? ⟨w3.heap.size, 0, none⟩ = some (.slice A3 QS.length c3) ∧ w'.cell? ⟨w3.heap.size, 1, none⟩ = some (.slice A4 QT.length c4))
    (with_reducible first | exact HK.out X8.out P8.out | exact HK.out X7.out P7.out | exact HK.out X6.out P6.out | exact HK.out X5.out P5.out | fail)
    (first
      | (go_at_call 28; ((with_reducible refine (HSe.out _ D4.out).mono ?_); rintro e w6 ⟨A6, c6, rfl, ho, hb⟩; have D6 := Lib.hid (bel0 D4.out hb); have X6 := Lib.hid (block_below X5.out hb); have P6 := Lib.hid (block_below P5.out hb); have Y6 := Lib.hid (block_below Y5.out hb); have O6 := Lib.hid ho; have K16 := Lib.hid ((K15.out.below hb).mono hb.size); have K26 := Lib.hid ((K25.out.below hb).mono hb.size); clear hb ho))
      | (go_at_call 27; ((with_reducible refine (HNu.out _ _ _ _ D6.out O6.out).mono ?_); rintro e w7 ⟨A7, c7, A8, c8, rfl, h7, h8, hb⟩; have D7 := Lib.hid (bel0 D6.out hb); have X7 := Lib.hid (block_below X6.out hb); have P7 := Lib.hid (block_below P6.out hb); have Y7 := Lib.hid (block_below Y6.out hb); have K17 := Lib.hid ((K16.out.below hb).mono hb.size); have K27 := Lib.hid ((K26.out.below hb).mono hb.size); have K37 := Lib.hid h7; have K47 := Lib.hid h8; clear hb h7 h8))
      | (go_at_call 23; ((with_reducible refine (same22n _ K17.out K27.out K37.out K47.out).mono ?_); rintro e w8 ⟨rfl, hb⟩; have D8 := Lib.hid (bel0 D7.out hb); have X8 := Lib.hid (block_below X7.out hb); have P8 := Lib.hid (block_below P7.out hb); have Y8 := Lib.hid (block_below Y7.out hb); have K18 := Lib.hid ((K17.out.below hb).mono hb.size); have K28 := Lib.hid ((K27.out.below hb).mono hb.size); clear hb))
      | fail)
  obtain ⟨⟨x1, x2⟩, _⟩ := two_of_block X8.out
  obtain ⟨⟨p1, p2⟩, _⟩ := two_of_block P8.out
  obtain ⟨⟨y1, y2, y3, y4⟩, _⟩ := four_of_block Y8.out
  go_wp2_with (first
    | (go_at_call 19; ((with_reducible refine (HCn.out _ _ _ _ _ K18.out K28.out).mono ?_); rintro e w9 ⟨rfl, hb⟩; have D9 := Lib.hid (bel0 D8.out hb); have X9 := Lib.hid (block_below X8.out hb); have Y9 := Lib.hid (block_below Y8.out hb); clear x1 x2 p1 p2 y1 y2 y3 y4; obtain ⟨⟨x1, x2⟩, _⟩ := two_of_block X9.out; obtain ⟨⟨y1, y2, y3, y4⟩, _⟩ := four_of_block Y9.out; clear hb))
    | (go_at_call 16; ((with_reducible refine (HMv.out _ D9.out).mono ?_); rintro e w10 ⟨rfl, hb⟩; have D10 := Lib.hid (bel0 D9.out hb); clear hb; by_cases hz0 : z = 0))
    | fail)
  · subst hz0
    have hq1 : q = (x == (j : Int)) := by rw [HQ.out]; simp
    cases q with
    | true =>
      have hxj : x = (j : Int) := by simpa using hq1.symm
      clear hq1
      subst hxj
      go_wp2
      go_ret
      refine ⟨?_, D10.out⟩
      show Ending.returned (.bool (true == ((j : Int) == (j : Int)))) = _
      simp
    | false =>
      have hxj : ¬ x = (j : Int) := by simpa using hq1.symm
      have hxk : (x == (j : Int)) = false := hq1.symm
      clear hq1
      go_wp2
      go_ret
      refine ⟨?_, D10.out⟩
      show Ending.returned (.bool (false == (x == (j : Int)))) = _
      rw [hxk]
      rfl
  · have hz1 : (z == 0) = false := by simpa using hz0
    have hq1 : q = false := by rw [HQ.out, hz1]; rfl
    subst hq1
    go_wp2
    go_ret
    exact ⟨rfl, D10.out⟩
theorem pbases_walk (S T : List Int) {cS cT : Nat} {AS AT : Option Addr} (i a b c d : Int) (w : World) (hS : RdZ w w.heap.size AS cS S) (hT : RdZ w w.heap.size AT cT T) (hAS : AS = none → cS = 0) (hAT : AT = none → cT = 0) (hlS : S.length ≤ 17592186044416) (hlT : T.length ≤ 17592186044416) :
    Calls Try.prog 8 #[.agg #[.slice AS S.length cS, .slice AT T.length cT], .int .i64 i, .agg #[.int .i64 a, .int .i64 b, .int .i64 c, .int .i64 d]] w fun e w' => e = .returned (.bool true) ∧ Below w.heap.size w w' := by
  by_cases h : chkA S T = 0
  · have ha := chkA_zero h
    by_cases hi : i < 0 ∨ (S.length : Int) ≤ i
    · exact pbases_out S T i a b c d w hS hT hAS hAT hlS hlT ha hi
    · obtain ⟨j, rfl⟩ : ∃ j : Nat, i = (j : Nat) := ⟨i.toNat, by omega⟩
      exact pbases_ok S T j a b c d w hS hT hAS hAT hlS hlT ha (by omega)
  · exact pbases_bad S T i a b c d w hS hT hAS hAT hlS hlT _ rfl h
end Go.Proofs.Ytpooncdaajcmkaa
