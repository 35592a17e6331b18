/- The contract of Inverse (out of wip/sl2). Plain mathematics: the groups are closed under products and inverses. Plain mathematics: the coset action moves the first coset as the matrices do. Plain mathematics: a matrix leaves the first coset alone if and only if it is in the group. -/
import Derived.Test.YtilfkppapimocaaMulL
import Derived.Test.YtilfkppapimocaaGrpL
import Derived.Test.YtilfkppapimocaaSgM
import Derived.Test.YtilfkppapimocaaMvP
import Derived.Test.YtilfkppapimocaaSgX
namespace Go.Proofs.Ytilfkppapimocaa
open Go.RowKit

set_option maxHeartbeats 1600000 in
theorem inverse_any (a b c d p q r s k : Int) (w : World) (hm : invE ⟨a, b, c, d⟩ = (⟨p, q, r, s⟩, k)) :
    Calls Try.prog 18 #[.agg #[.int .i64 a, .int .i64 b, .int .i64 c, .int .i64 d]] w fun e w' =>
      e = .returned (.tuple #[.agg #[.int .i64 p, .int .i64 q, .int .i64 r, .int .i64 s], .int .i64 k]) ∧ Below w.heap.size w w' := by
  have HE := Lib.hid (fun W => check_any a b c d W)
  unfold invE at hm
  dsimp only at hm
  rcases chk_cases a b c d with ⟨h, k⟩ | ⟨h, h1, k⟩ | ⟨h, h1, k⟩
  all_goals rw [k] at hm HE
  · rw [if_neg (by omega)] at hm
    cases hm
    clear h k
    go_enter Try.func18, Try.ntmps18
    go_wp2_with (first
      | (go_at_call 35; ((with_reducible refine (HE.out _).mono ?_); rintro e w1 ⟨rfl, hb⟩; obtain ⟨hc, hf⟩ := bcell hb; obtain ⟨hz0, hz1⟩ : w.heap.size < w1.heap.size ∧ w.heap.size + 1 < w1.heap.size := (by have := hb.size; (try simp at this); omega); have HBn : Hid (Below w.heap.size w w1) := (by first | exact HB.out.trans (hb.mono HB.out.size) | exact (HB.out.trans ((below1 _ _).mono HB.out.size)).trans (hb.mono (by have := HB.out.size; (try simp); omega)) | exact (below2 _ _ _).trans (hb.mono (by simp; omega)) | fail); have HB := Lib.hid HBn.out; clear HBn hb))
      | fail)
    refine bodyPost_ret (v := .tuple #[.agg #[.int .i64 0, .int .i64 0, .int .i64 0, .int .i64 0], .int .i64 2]) ?_ rfl ⟨rfl, ?_⟩
    · simp [results, Try.results18, go_sem, *]
    · exact below_set4 HB.out (by omega) _ _ _ _
  · rw [if_pos rfl] at hm
    cases hm
    obtain ⟨⟨a1, a2⟩, ⟨b1, b2⟩, ⟨c1, c2⟩, d1, d2⟩ := fitB_iff.1 h
    clear h h1 k
    go_enter Try.func18, Try.ntmps18
    go_wp2_with (first
      | (go_at_call 35; ((with_reducible refine (HE.out _).mono ?_); rintro e w1 ⟨rfl, hb⟩; obtain ⟨hc, hf⟩ := bcell hb; obtain ⟨hz0, hz1⟩ : w.heap.size < w1.heap.size ∧ w.heap.size + 1 < w1.heap.size := (by have := hb.size; (try simp at this); omega); have HBn : Hid (Below w.heap.size w w1) := (by first | exact HB.out.trans (hb.mono HB.out.size) | exact (HB.out.trans ((below1 _ _).mono HB.out.size)).trans (hb.mono (by have := HB.out.size; (try simp); omega)) | exact (below2 _ _ _).trans (hb.mono (by simp; omega)) | fail); have HB := Lib.hid HBn.out; clear HBn hb))
      | fail)
    refine bodyPost_ret (v := .tuple #[.agg #[.int .i64 d, .int .i64 (-b), .int .i64 (-c), .int .i64 a], .int .i64 0]) ?_ rfl ⟨rfl, ?_⟩
    · simp [results, Try.results18, go_sem, *]
    · exact below_set4 HB.out (by omega) _ _ _ _
  · rw [if_neg (by omega)] at hm
    cases hm
    clear h k
    go_enter Try.func18, Try.ntmps18
    go_wp2_with (first
      | (go_at_call 35; ((with_reducible refine (HE.out _).mono ?_); rintro e w1 ⟨rfl, hb⟩; obtain ⟨hc, hf⟩ := bcell hb; obtain ⟨hz0, hz1⟩ : w.heap.size < w1.heap.size ∧ w.heap.size + 1 < w1.heap.size := (by have := hb.size; (try simp at this); omega); have HBn : Hid (Below w.heap.size w w1) := (by first | exact HB.out.trans (hb.mono HB.out.size) | exact (HB.out.trans ((below1 _ _).mono HB.out.size)).trans (hb.mono (by have := HB.out.size; (try simp); omega)) | exact (below2 _ _ _).trans (hb.mono (by simp; omega)) | fail); have HB := Lib.hid HBn.out; clear HBn hb))
      | fail)
    refine bodyPost_ret (v := .tuple #[.agg #[.int .i64 0, .int .i64 0, .int .i64 0, .int .i64 0], .int .i64 12]) ?_ rfl ⟨rfl, ?_⟩
    · simp [results, Try.results18, go_sem, *]
    · exact below_set4 HB.out (by omega) _ _ _ _
theorem mulE_zero {x y m : M} (h : mulE x y = (m, 0)) : x.ok = true ∧ y.ok = true ∧ m = x.mul y ∧ m.ok = true := by
  unfold mulE at h
  by_cases h1 : (x.ok && y.ok) = false
  · rw [if_pos h1] at h
    exact absurd (show (2 : Int) = 0 from congrArg Prod.snd h) (by decide)
  · rw [if_neg h1] at h
    by_cases h2 : (x.mul y).ok = false
    · rw [if_pos h2] at h
      exact absurd (show (7 : Int) = 0 from congrArg Prod.snd h) (by decide)
    · rw [if_neg h2] at h
      have e : x.mul y = m := congrArg Prod.fst h
      subst e
      simp at h1 h2
      exact ⟨h1.1, h1.2, rfl, h2⟩
end Go.Proofs.Ytilfkppapimocaa
namespace Go.Proofs.Ytilfkppapimocaa
set_option linter.unusedVariables false

def PH (k n a b c d : Int) : Prop := if k = 1 then n ∣ c else if k = 2 then n ∣ c ∧ n ∣ a - 1 ∧ n ∣ d - 1 else if k = 3 then n ∣ c ∧ (n ∣ a - 1 ∧ n ∣ d - 1) ∧ n ∣ b else n ∣ b
theorem td_iff (x n : Int) : (x.tmod n == 0) = true ↔ n ∣ x := by
  rw [beq_iff_eq]
  exact ⟨Int.dvd_of_tmod_eq_zero, Int.tmod_eq_zero_of_dvd⟩
theorem hasV_iff (k n a b c d : Int) : hasV k n a b c d = true ↔ PH k n a b c d := by
  unfold hasV PH
  by_cases h1 : k = 1
  · rw [if_pos h1, if_pos h1]; exact td_iff _ _
  · rw [if_neg h1, if_neg h1]
    by_cases h2 : k = 2
    · rw [if_pos h2, if_pos h2, Bool.and_eq_true, Bool.and_eq_true, td_iff, td_iff, td_iff]
    · rw [if_neg h2, if_neg h2]
      by_cases h3 : k = 3
      · rw [if_pos h3, if_pos h3, Bool.and_eq_true, Bool.and_eq_true, Bool.and_eq_true, td_iff, td_iff, td_iff, td_iff, and_assoc]
      · rw [if_neg h3, if_neg h3]; exact td_iff _ _
theorem lin2 {n x y z : Int} (hx : n ∣ x) (hy : n ∣ y) (p q : Int) (h : z = p * x + q * y) : n ∣ z := by
  rw [h]; exact Int.dvd_add (Int.dvd_mul_of_dvd_right hx) (Int.dvd_mul_of_dvd_right hy)
theorem lin3 {n x y z u : Int} (hx : n ∣ x) (hy : n ∣ y) (hz : n ∣ z) (p q r : Int) (h : u = p * x + q * y + r * z) : n ∣ u := by
  rw [h]; exact Int.dvd_add (Int.dvd_add (Int.dvd_mul_of_dvd_right hx) (Int.dvd_mul_of_dvd_right hy)) (Int.dvd_mul_of_dvd_right hz)
theorem lin4 {n x y z t u : Int} (hx : n ∣ x) (hy : n ∣ y) (hz : n ∣ z) (ht : n ∣ t) (p q r s : Int) (h : u = p * x + q * y + r * z + s * t) : n ∣ u := by
  rw [h]; exact Int.dvd_add (Int.dvd_add (Int.dvd_add (Int.dvd_mul_of_dvd_right hx) (Int.dvd_mul_of_dvd_right hy)) (Int.dvd_mul_of_dvd_right hz)) (Int.dvd_mul_of_dvd_right ht)
theorem ph_left {k n a b c d a' b' c' d' : Int} (hk : 1 ≤ k ∧ k ≤ 4) (hd : a * d - b * c = 1) (h : PH k n a b c d) : PH k n (a * a' + b * c') (a * b' + b * d') (c * a' + d * c') (c * b' + d * d') ↔ PH k n a' b' c' d' := by
  rcases four_kinds hk with rfl | rfl | rfl | rfl
  all_goals clear hk
  all_goals simp only [PH, reduceIte, Int.reduceEq] at h ⊢
  · constructor
    · intro h2; exact lin2 h2 h a (-(a * a') - b * c') (by clear h h2; grind)
    · intro h2; exact lin2 h h2 a' d (by clear h h2; grind)
  · obtain ⟨h1, h2, h3⟩ := h
    constructor
    · rintro ⟨g1, g2, g3⟩
      have c1 : n ∣ c' := lin2 g1 h1 a (-(a * a') - b * c') (by clear h1 h2 h3 g1 g2 g3; grind)
      exact ⟨c1, lin3 g2 h2 c1 1 (-a') (-b) (by clear h1 h2 h3 g1 g2 g3 c1; grind), lin3 g3 h3 h1 1 (-d') (-b') (by clear h1 h2 h3 g1 g2 g3 c1; grind)⟩
    · rintro ⟨g1, g2, g3⟩
      exact ⟨lin2 h1 g1 a' d (by clear h1 h2 h3 g1 g2 g3; grind), lin3 g2 h2 g1 1 a' b (by clear h1 h2 h3 g1 g2 g3; grind), lin3 g3 h3 h1 1 d' b' (by clear h1 h2 h3 g1 g2 g3; grind)⟩
  · obtain ⟨h1, ⟨h2, h3⟩, h4⟩ := h
    constructor
    · rintro ⟨g1, ⟨g2, g3⟩, g4⟩
      exact ⟨lin3 g1 h1 h3 1 (-a') (-c') (by clear h1 h2 h3 h4 g1 g2 g3 g4; grind), ⟨lin3 g2 h2 h4 1 (-a') (-c') (by clear h1 h2 h3 h4 g1 g2 g3 g4; grind), lin3 g3 h3 h1 1 (-d') (-b') (by clear h1 h2 h3 h4 g1 g2 g3 g4; grind)⟩, lin3 g4 h2 h4 1 (-b') (-d') (by clear h1 h2 h3 h4 g1 g2 g3 g4; grind)⟩
    · rintro ⟨g1, ⟨g2, g3⟩, g4⟩
      exact ⟨lin3 g1 h1 h3 1 a' c' (by clear h1 h2 h3 h4 g1 g2 g3 g4; grind), ⟨lin3 g2 h2 h4 1 a' c' (by clear h1 h2 h3 h4 g1 g2 g3 g4; grind), lin3 g3 h3 h1 1 d' b' (by clear h1 h2 h3 h4 g1 g2 g3 g4; grind)⟩, lin3 g4 h2 h4 1 b' d' (by clear h1 h2 h3 h4 g1 g2 g3 g4; grind)⟩
  · constructor
    · intro h2; exact lin2 h2 h d (-(d * d') - b' * c) (by clear h h2; grind)
    · intro h2; exact lin2 h h2 d' a (by clear h h2; grind)
theorem ph_right {k n a b c d a' b' c' d' : Int} (hk : 1 ≤ k ∧ k ≤ 4) (hd : a' * d' - b' * c' = 1) (h : PH k n a' b' c' d') : PH k n (a * a' + b * c') (a * b' + b * d') (c * a' + d * c') (c * b' + d * d') ↔ PH k n a b c d := by
  rcases four_kinds hk with rfl | rfl | rfl | rfl
  all_goals clear hk
  all_goals simp only [PH, reduceIte, Int.reduceEq] at h ⊢
  · constructor
    · intro h2; exact lin2 h2 h d' (-(d * d') - b' * c) (by clear h h2; grind)
    · intro h2; exact lin2 h h2 d a' (by clear h h2; grind)
  · obtain ⟨h1, h2, h3⟩ := h
    constructor
    · rintro ⟨g1, g2, g3⟩
      have c1 : n ∣ c := lin3 g1 h2 h1 1 (-c) (-d) (by clear h1 h2 h3 g1 g2 g3; grind)
      exact ⟨c1, lin3 g2 h2 h1 1 (-a) (-b) (by clear h1 h2 h3 g1 g2 g3 c1; grind), lin3 g3 h3 c1 1 (-d) (-b') (by clear h1 h2 h3 g1 g2 g3 c1; grind)⟩
    · rintro ⟨g1, g2, g3⟩
      exact ⟨lin3 g1 h2 h1 1 c d (by clear h1 h2 h3 g1 g2 g3; grind), lin3 g2 h2 h1 1 a b (by clear h1 h2 h3 g1 g2 g3; grind), lin3 g3 h3 g1 1 d b' (by clear h1 h2 h3 g1 g2 g3; grind)⟩
  · obtain ⟨h1, ⟨h2, h3⟩, h4⟩ := h
    constructor
    · rintro ⟨g1, ⟨g2, g3⟩, g4⟩
      exact ⟨lin3 g1 h2 h1 1 (-c) (-d) (by clear h1 h2 h3 h4 g1 g2 g3 g4; grind), ⟨lin3 g2 h2 h1 1 (-a) (-b) (by clear h1 h2 h3 h4 g1 g2 g3 g4; grind), lin3 g3 h3 h4 1 (-d) (-c) (by clear h1 h2 h3 h4 g1 g2 g3 g4; grind)⟩, lin3 g4 h3 h4 1 (-b) (-a) (by clear h1 h2 h3 h4 g1 g2 g3 g4; grind)⟩
    · rintro ⟨g1, ⟨g2, g3⟩, g4⟩
      exact ⟨lin3 g1 h2 h1 1 c d (by clear h1 h2 h3 h4 g1 g2 g3 g4; grind), ⟨lin3 g2 h2 h1 1 a b (by clear h1 h2 h3 h4 g1 g2 g3 g4; grind), lin3 g3 h3 h4 1 d c (by clear h1 h2 h3 h4 g1 g2 g3 g4; grind)⟩, lin3 g4 h3 h4 1 b a (by clear h1 h2 h3 h4 g1 g2 g3 g4; grind)⟩
  · constructor
    · intro h2; exact lin2 h2 h a' (-(a * a') - b * c') (by clear h h2; grind)
    · intro h2; exact lin2 h h2 a d' (by clear h h2; grind)
theorem ph_inv {k n a b c d : Int} (hk : 1 ≤ k ∧ k ≤ 4) : PH k n d (-b) (-c) a ↔ PH k n a b c d := by
  rcases four_kinds hk with rfl | rfl | rfl | rfl
  all_goals simp only [PH, reduceIte, Int.reduceEq, Int.dvd_neg]
  · exact ⟨fun ⟨a, b, c⟩ => ⟨a, c, b⟩, fun ⟨a, b, c⟩ => ⟨a, c, b⟩⟩
  · exact ⟨fun ⟨a, ⟨b, c⟩, d⟩ => ⟨a, ⟨c, b⟩, d⟩, fun ⟨a, ⟨b, c⟩, d⟩ => ⟨a, ⟨c, b⟩, d⟩⟩
theorem bool_iff {a b : Bool} (h : a = true ↔ b = true) : a = b := by cases a <;> cases b <;> simp_all
theorem has_left {k n a b c d a' b' c' d' : Int} (hk : 1 ≤ k ∧ k ≤ 4) (hd : a * d - b * c = 1) (h : hasV k n a b c d = true) : hasV k n (a * a' + b * c') (a * b' + b * d') (c * a' + d * c') (c * b' + d * d') = hasV k n a' b' c' d' :=
  bool_iff (by rw [hasV_iff, hasV_iff]; exact ph_left hk hd ((hasV_iff ..).1 h))
theorem has_right {k n a b c d a' b' c' d' : Int} (hk : 1 ≤ k ∧ k ≤ 4) (hd : a' * d' - b' * c' = 1) (h : hasV k n a' b' c' d' = true) : hasV k n (a * a' + b * c') (a * b' + b * d') (c * a' + d * c') (c * b' + d * d') = hasV k n a b c d :=
  bool_iff (by rw [hasV_iff, hasV_iff]; exact ph_right hk hd ((hasV_iff ..).1 h))
theorem has_inv {k n a b c d : Int} (hk : 1 ≤ k ∧ k ≤ 4) : hasV k n d (-b) (-c) a = hasV k n a b c d := bool_iff (by rw [hasV_iff, hasV_iff]; exact ph_inv hk)
end Go.Proofs.Ytilfkppapimocaa
namespace Go.Proofs.Ytilfkppapimocaa
set_option linter.unusedVariables false

/-- A matrix as a structure. -/
def toM (x : M4) : M := ⟨x.1, x.2.1, x.2.2.1, x.2.2.2⟩
theorem toM_det {x : M4} (h : dtM x = 1) : (toM x).det = 1 := h
theorem av_unit {g f : Nat → Nat} {n : Nat} (h : PAct g f n) {i : Nat} (hi : i < n) : av g f n .one i = i := by
  rw [av_last rfl]
  show (if (1 : Int) < 0 then _ else pwA f n i (1 * 0)) = i
  rw [if_neg (by decide)]
  exact pwA_zero h hi
theorem det_one : M.one.det = 1 := rfl
section
variable {co : M4 → K4} {N : Nat}
/-- A matrix moves the first coset to its own. -/
theorem pl_av (hC : Cos co) (hF : SFin co N) (hr : Rel (fnz (iz (srun co N).S)) (fnz (iz (srun co N).T)) N) {x : M4} (hx : dtM x = 1) : av (fnz (iz (srun co N).S)) (fnz (iz (srun co N).T)) N (toM x) 0 = plC co N x := by
  have hP := hF.pact hC
  have h0 := hP.pos
  have hS : ∀ i, i < N → av (fnz (iz (srun co N).S)) (fnz (iz (srun co N).T)) N (sm .one) i = fnz (iz (srun co N).S) i := fun i hi => by
    rw [pp hP hr det_one i hi]; exact av_unit hP (hP.gp.lt i hi)
  have hT : ∀ (e : Int) i, i < N → av (fnz (iz (srun co N).S)) (fnz (iz (srun co N).T)) N (tm e .one) i = pwA (fnz (iz (srun co N).T)) N i e := fun e i hi => by
    rw [av_T hP det_one e hi]; exact av_unit hP (pwA_lt hP.fp hi e)
  have hp0 : plC co N (1, 0, 0, 1) = 0 := by
    have := hF.pl_L h0
    rwa [hF.ri.first] at this
  have mulS : ∀ y : M4, toM (mS y) = (toM y).mul (sm .one) := fun y => by
    obtain ⟨a, b, c, d⟩ := y
    simp [toM, mS, M.mul, sm, M.one]
  have mulT : ∀ y : M4, toM (mT y) = (toM y).mul (tm 1 .one) := fun y => by
    obtain ⟨a, b, c, d⟩ := y
    simp [toM, mT, M.mul, tm, M.one]
  have mulU : ∀ y : M4, toM (mU y) = (toM y).mul (tm (-1) .one) := fun y => by
    obtain ⟨a, b, c, d⟩ := y
    simp [toM, mU, M.mul, tm, M.one]
    omega
  refine sl_ind (P := fun x => av (fnz (iz (srun co N).S)) (fnz (iz (srun co N).T)) N (toM x) 0 = plC co N x) ?_ (fun y hy h => ?_) (fun y hy h => ?_) (fun y hy h => ?_) _ x (Nat.le_refl _) hx
  · rw [hp0]
    exact av_unit hP h0
  · have hm := hF.all hC hy
    rw [mulS, av_mul hP hr _ (sm_det det_one) _ _ (Nat.le_refl _) (toM_det hy) 0 h0, h, hS _ (hF.pl_lt hm), hF.atS hC hy hm]
  · have hm := hF.all hC hy
    rw [mulT, av_mul hP hr _ (tm_det det_one) _ _ (Nat.le_refl _) (toM_det hy) 0 h0, h, hT _ _ (hF.pl_lt hm), pwA_one hP (hF.pl_lt hm), hF.atT hC hy hm]
  · have hm := hF.all hC hy
    have hu : dtM (mU y) = 1 := by rw [dtM_U]; exact hy
    have hn := hF.all hC hu
    rw [mulU, av_mul hP hr _ (tm_det det_one) _ _ (Nat.le_refl _) (toM_det hy) 0 h0, h, hT _ _ (hF.pl_lt hm)]
    have e := hF.atT hC hu hn
    rw [mTU] at e
    rw [← e]
    exact pwA_forth hP (hF.pl_lt hn)
/-- It leaves the first coset alone if and only if its key is that of the unit matrix. -/
theorem pl_zero (hC : Cos co) (hF : SFin co N) {x : M4} (hx : dtM x = 1) : plC co N x = 0 ↔ co x = co (1, 0, 0, 1) := by
  have h0 := (hF.pact hC).pos
  have hp0 : plC co N (1, 0, 0, 1) = 0 := by
    have := hF.pl_L h0
    rwa [hF.ri.first] at this
  constructor
  · intro h
    exact hF.pl_inj (hF.all hC hx) (hF.all hC rfl) (by rw [h, hp0])
  · intro h
    have : plC co N x = plC co N (1, 0, 0, 1) := by unfold plC; rw [h]
    rw [this, hp0]
end
end Go.Proofs.Ytilfkppapimocaa
namespace Go.Proofs.Ytilfkppapimocaa
set_option linter.unusedVariables false

theorem nf_has {n c d : Int} (n1 : 1 ≤ n) (h : ∃ u v : Int, u * d - v * c = 1) : ((nfU n c d, nfV n c d, 0, 0) : K4) = (nfU n 0 1, nfV n 0 1, 0, 0) ↔ n ∣ c := by
  rw [nfk_iff n1]
  constructor
  · rintro ⟨s, hs, ⟨p, hp⟩, _⟩
    obtain ⟨r, ⟨q, hq⟩⟩ := unit_inv hs
    exact ⟨r * p - q * c, by grind⟩
  · rintro ⟨p, hp⟩
    obtain ⟨u, v, e⟩ := h
    refine ⟨u, unit_of (r := d) ⟨v * p, by grind⟩, ⟨u * p, by grind⟩, ⟨v * p, by grind⟩⟩
theorem nf_has0 {n a b : Int} (n1 : 1 ≤ n) (h : ∃ u v : Int, u * a - v * b = 1) : ((nfU n a b, nfV n a b, 0, 0) : K4) = (nfU n 1 0, nfV n 1 0, 0, 0) ↔ n ∣ b := by
  rw [nfk_iff n1]
  constructor
  · rintro ⟨s, hs, _, ⟨p, hp⟩⟩
    obtain ⟨r, ⟨q, hq⟩⟩ := unit_inv hs
    exact ⟨r * p - q * b, by grind⟩
  · rintro ⟨p, hp⟩
    obtain ⟨u, v, e⟩ := h
    refine ⟨u, unit_of (r := a) ⟨v * p, by grind⟩, ⟨v * p, by grind⟩, ⟨u * p, by grind⟩⟩
theorem k4_eq {a b c d a' b' c' d' : Int} : ((a, b, c, d) : K4) = (a', b', c', d') ↔ a = a' ∧ b = b' ∧ c = c' ∧ d = d' := by
  simp [Prod.mk.injEq]
theorem kc2_has {n a b c d : Int} (hd : a * d - b * c = 1) : kc2 n (a, b, c, d) = kc2 n (1, 0, 0, 1) ↔ n ∣ c ∧ n ∣ a - 1 ∧ n ∣ d - 1 := by
  unfold kc2
  rw [k4_eq]
  simp only [mod_iff, Int.sub_zero, and_true]
  constructor
  · rintro ⟨⟨p, hp⟩, ⟨q, hq⟩⟩
    exact ⟨⟨p, hp⟩, ⟨b * p - a * q, by grind⟩, ⟨q, hq⟩⟩
  · rintro ⟨h1, _, h3⟩
    exact ⟨h1, h3⟩
theorem kc3_has {n a b c d : Int} : kc3 n (a, b, c, d) = kc3 n (1, 0, 0, 1) ↔ n ∣ a - 1 ∧ n ∣ b ∧ n ∣ c ∧ n ∣ d - 1 := by
  unfold kc3
  rw [k4_eq]
  simp only [mod_iff, Int.sub_zero]
theorem kco_has {k n : Int} (hk : 1 ≤ k ∧ k ≤ 4) (n1 : 1 ≤ n) {a b c d : Int} (hd : a * d - b * c = 1) : kco k n (a, b, c, d) = kco k n (1, 0, 0, 1) ↔ hasV k n a b c d = true := by
  rw [hasV_iff]
  obtain rfl | rfl | rfl | rfl : k = 1 ∨ k = 2 ∨ k = 3 ∨ k = 4 := by omega
  · exact nf_has n1 ⟨a, b, hd⟩
  · exact kc2_has hd
  · show kc3 n (a, b, c, d) = kc3 n (1, 0, 0, 1) ↔ n ∣ c ∧ (n ∣ a - 1 ∧ n ∣ d - 1) ∧ n ∣ b
    rw [kc3_has]
    constructor
    · rintro ⟨h1, h2, h3, h4⟩; exact ⟨h3, ⟨h1, h4⟩, h2⟩
    · rintro ⟨h3, ⟨h1, h4⟩, h2⟩; exact ⟨h1, h2, h3, h4⟩
  · exact nf_has0 n1 ⟨d, c, by grind⟩
theorem ol_rel {k n : Int} (h : ckxI k n = 0) : Rel (fnz (olS k n)) (fnz (olT k n)) (idxN k n.toNat) := by
  have ha := ol_act h
  have := act_rel ha
  rwa [ol_len.1] at this
/-- A matrix moves point 0 to the number of its coset. -/
theorem mv_pl {k n : Int} (h : ckxI k n = 0) {a b c d : Int} (hk : chkI a b c d = 0) : mvI (olS k n) (olT k n) 0 a b c d = plC (kco k n) (idxN k n.toNat) (a, b, c, d) := by
  obtain ⟨hF, _, _⟩ := ckx_kf h
  obtain ⟨hd, _⟩ := chk_M hk
  rw [mvI_av hk, ol_len.1]
  exact pl_av hF.cos hF.fin (ol_rel h) (x := (a, b, c, d)) hd
theorem mv_has {k n : Int} (h : ckxI k n = 0) {a b c d : Int} (hk : chkI a b c d = 0) : mvI (olS k n) (olT k n) 0 a b c d = 0 ↔ hasV k n a b c d = true := by
  obtain ⟨hF, _, hg⟩ := ckx_kf h
  obtain ⟨hd, _⟩ := chk_M hk
  have hkn : (1 ≤ k ∧ k ≤ 4) ∧ 1 ≤ n := by
    rcases gck_cases k n with ⟨_, h2⟩ | ⟨_, _, h2⟩ | ⟨h1, h2, _⟩
    · rw [h2] at hg; exact absurd hg (by decide)
    · rw [h2] at hg; exact absurd hg (by decide)
    · exact ⟨h1, h2.1⟩
  rw [mv_pl h hk, pl_zero hF.cos hF.fin (x := (a, b, c, d)) hd]
  exact kco_has hkn.1 hkn.2 hd
end Go.Proofs.Ytilfkppapimocaa
