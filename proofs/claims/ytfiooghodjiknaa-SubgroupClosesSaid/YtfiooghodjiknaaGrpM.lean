/- Plain mathematics: the groups are closed under products and inverses. -/
import Derived.Test.YtfiooghodjiknaaGrpL
import Derived.Test.YtfiooghodjiknaaInvM
namespace Go.Proofs.Ytfiooghodjiknaa
set_option linter.unusedVariables false

def PH (k n a b c d : Int) : Prop := if k = 1 then n ∣ c else if k = 2 then n ∣ c ∧ n ∣ a - 1 ∧ n ∣ d - 1 else if k = 3 then n ∣ c ∧ (n ∣ a - 1 ∧ n ∣ d - 1) ∧ n ∣ b else n ∣ b
theorem td_iff (x n : Int) : (x.tmod n == 0) = true ↔ n ∣ x := by
  rw [beq_iff_eq]
  exact ⟨Int.dvd_of_tmod_eq_zero, Int.tmod_eq_zero_of_dvd⟩
theorem hasV_iff (k n a b c d : Int) : hasV k n a b c d = true ↔ PH k n a b c d := by
  unfold hasV PH
  by_cases h1 : k = 1
  · rw [if_pos h1, if_pos h1]; exact td_iff _ _
  · rw [if_neg h1, if_neg h1]
    by_cases h2 : k = 2
    · rw [if_pos h2, if_pos h2, Bool.and_eq_true, Bool.and_eq_true, td_iff, td_iff, td_iff]
    · rw [if_neg h2, if_neg h2]
      by_cases h3 : k = 3
      · rw [if_pos h3, if_pos h3, Bool.and_eq_true, Bool.and_eq_true, Bool.and_eq_true, td_iff, td_iff, td_iff, td_iff, and_assoc]
      · rw [if_neg h3, if_neg h3]; exact td_iff _ _
theorem lin2 {n x y z : Int} (hx : n ∣ x) (hy : n ∣ y) (p q : Int) (h : z = p * x + q * y) : n ∣ z := by
  rw [h]; exact Int.dvd_add (Int.dvd_mul_of_dvd_right hx) (Int.dvd_mul_of_dvd_right hy)
theorem lin3 {n x y z u : Int} (hx : n ∣ x) (hy : n ∣ y) (hz : n ∣ z) (p q r : Int) (h : u = p * x + q * y + r * z) : n ∣ u := by
  rw [h]; exact Int.dvd_add (Int.dvd_add (Int.dvd_mul_of_dvd_right hx) (Int.dvd_mul_of_dvd_right hy)) (Int.dvd_mul_of_dvd_right hz)
theorem lin4 {n x y z t u : Int} (hx : n ∣ x) (hy : n ∣ y) (hz : n ∣ z) (ht : n ∣ t) (p q r s : Int) (h : u = p * x + q * y + r * z + s * t) : n ∣ u := by
  rw [h]; exact Int.dvd_add (Int.dvd_add (Int.dvd_add (Int.dvd_mul_of_dvd_right hx) (Int.dvd_mul_of_dvd_right hy)) (Int.dvd_mul_of_dvd_right hz)) (Int.dvd_mul_of_dvd_right ht)
theorem ph_left {k n a b c d a' b' c' d' : Int} (hk : 1 ≤ k ∧ k ≤ 4) (hd : a * d - b * c = 1) (h : PH k n a b c d) : PH k n (a * a' + b * c') (a * b' + b * d') (c * a' + d * c') (c * b' + d * d') ↔ PH k n a' b' c' d' := by
  rcases four_kinds hk with rfl | rfl | rfl | rfl
  all_goals clear hk
  all_goals simp only [PH, reduceIte, Int.reduceEq] at h ⊢
  · constructor
    · intro h2; exact lin2 h2 h a (-(a * a') - b * c') (by clear h h2; grind)
    · intro h2; exact lin2 h h2 a' d (by clear h h2; grind)
  · obtain ⟨h1, h2, h3⟩ := h
    constructor
    · rintro ⟨g1, g2, g3⟩
      have c1 : n ∣ c' := lin2 g1 h1 a (-(a * a') - b * c') (by clear h1 h2 h3 g1 g2 g3; grind)
      exact ⟨c1, lin3 g2 h2 c1 1 (-a') (-b) (by clear h1 h2 h3 g1 g2 g3 c1; grind), lin3 g3 h3 h1 1 (-d') (-b') (by clear h1 h2 h3 g1 g2 g3 c1; grind)⟩
    · rintro ⟨g1, g2, g3⟩
      exact ⟨lin2 h1 g1 a' d (by clear h1 h2 h3 g1 g2 g3; grind), lin3 g2 h2 g1 1 a' b (by clear h1 h2 h3 g1 g2 g3; grind), lin3 g3 h3 h1 1 d' b' (by clear h1 h2 h3 g1 g2 g3; grind)⟩
  · obtain ⟨h1, ⟨h2, h3⟩, h4⟩ := h
    constructor
    · rintro ⟨g1, ⟨g2, g3⟩, g4⟩
      exact ⟨lin3 g1 h1 h3 1 (-a') (-c') (by clear h1 h2 h3 h4 g1 g2 g3 g4; grind), ⟨lin3 g2 h2 h4 1 (-a') (-c') (by clear h1 h2 h3 h4 g1 g2 g3 g4; grind), lin3 g3 h3 h1 1 (-d') (-b') (by clear h1 h2 h3 h4 g1 g2 g3 g4; grind)⟩, lin3 g4 h2 h4 1 (-b') (-d') (by clear h1 h2 h3 h4 g1 g2 g3 g4; grind)⟩
    · rintro ⟨g1, ⟨g2, g3⟩, g4⟩
      exact ⟨lin3 g1 h1 h3 1 a' c' (by clear h1 h2 h3 h4 g1 g2 g3 g4; grind), ⟨lin3 g2 h2 h4 1 a' c' (by clear h1 h2 h3 h4 g1 g2 g3 g4; grind), lin3 g3 h3 h1 1 d' b' (by clear h1 h2 h3 h4 g1 g2 g3 g4; grind)⟩, lin3 g4 h2 h4 1 b' d' (by clear h1 h2 h3 h4 g1 g2 g3 g4; grind)⟩
  · constructor
    · intro h2; exact lin2 h2 h d (-(d * d') - b' * c) (by clear h h2; grind)
    · intro h2; exact lin2 h h2 d' a (by clear h h2; grind)
theorem ph_right {k n a b c d a' b' c' d' : Int} (hk : 1 ≤ k ∧ k ≤ 4) (hd : a' * d' - b' * c' = 1) (h : PH k n a' b' c' d') : PH k n (a * a' + b * c') (a * b' + b * d') (c * a' + d * c') (c * b' + d * d') ↔ PH k n a b c d := by
  rcases four_kinds hk with rfl | rfl | rfl | rfl
  all_goals clear hk
  all_goals simp only [PH, reduceIte, Int.reduceEq] at h ⊢
  · constructor
    · intro h2; exact lin2 h2 h d' (-(d * d') - b' * c) (by clear h h2; grind)
    · intro h2; exact lin2 h h2 d a' (by clear h h2; grind)
  · obtain ⟨h1, h2, h3⟩ := h
    constructor
    · rintro ⟨g1, g2, g3⟩
      have c1 : n ∣ c := lin3 g1 h2 h1 1 (-c) (-d) (by clear h1 h2 h3 g1 g2 g3; grind)
      exact ⟨c1, lin3 g2 h2 h1 1 (-a) (-b) (by clear h1 h2 h3 g1 g2 g3 c1; grind), lin3 g3 h3 c1 1 (-d) (-b') (by clear h1 h2 h3 g1 g2 g3 c1; grind)⟩
    · rintro ⟨g1, g2, g3⟩
      exact ⟨lin3 g1 h2 h1 1 c d (by clear h1 h2 h3 g1 g2 g3; grind), lin3 g2 h2 h1 1 a b (by clear h1 h2 h3 g1 g2 g3; grind), lin3 g3 h3 g1 1 d b' (by clear h1 h2 h3 g1 g2 g3; grind)⟩
  · obtain ⟨h1, ⟨h2, h3⟩, h4⟩ := h
    constructor
    · rintro ⟨g1, ⟨g2, g3⟩, g4⟩
      exact ⟨lin3 g1 h2 h1 1 (-c) (-d) (by clear h1 h2 h3 h4 g1 g2 g3 g4; grind), ⟨lin3 g2 h2 h1 1 (-a) (-b) (by clear h1 h2 h3 h4 g1 g2 g3 g4; grind), lin3 g3 h3 h4 1 (-d) (-c) (by clear h1 h2 h3 h4 g1 g2 g3 g4; grind)⟩, lin3 g4 h3 h4 1 (-b) (-a) (by clear h1 h2 h3 h4 g1 g2 g3 g4; grind)⟩
    · rintro ⟨g1, ⟨g2, g3⟩, g4⟩
      exact ⟨lin3 g1 h2 h1 1 c d (by clear h1 h2 h3 h4 g1 g2 g3 g4; grind), ⟨lin3 g2 h2 h1 1 a b (by clear h1 h2 h3 h4 g1 g2 g3 g4; grind), lin3 g3 h3 h4 1 d c (by clear h1 h2 h3 h4 g1 g2 g3 g4; grind)⟩, lin3 g4 h3 h4 1 b a (by clear h1 h2 h3 h4 g1 g2 g3 g4; grind)⟩
  · constructor
    · intro h2; exact lin2 h2 h a' (-(a * a') - b * c') (by clear h h2; grind)
    · intro h2; exact lin2 h h2 a d' (by clear h h2; grind)
theorem ph_inv {k n a b c d : Int} (hk : 1 ≤ k ∧ k ≤ 4) : PH k n d (-b) (-c) a ↔ PH k n a b c d := by
  rcases four_kinds hk with rfl | rfl | rfl | rfl
  all_goals simp only [PH, reduceIte, Int.reduceEq, Int.dvd_neg]
  · exact ⟨fun ⟨a, b, c⟩ => ⟨a, c, b⟩, fun ⟨a, b, c⟩ => ⟨a, c, b⟩⟩
  · exact ⟨fun ⟨a, ⟨b, c⟩, d⟩ => ⟨a, ⟨c, b⟩, d⟩, fun ⟨a, ⟨b, c⟩, d⟩ => ⟨a, ⟨c, b⟩, d⟩⟩
theorem bool_iff {a b : Bool} (h : a = true ↔ b = true) : a = b := by cases a <;> cases b <;> simp_all
theorem has_left {k n a b c d a' b' c' d' : Int} (hk : 1 ≤ k ∧ k ≤ 4) (hd : a * d - b * c = 1) (h : hasV k n a b c d = true) : hasV k n (a * a' + b * c') (a * b' + b * d') (c * a' + d * c') (c * b' + d * d') = hasV k n a' b' c' d' :=
  bool_iff (by rw [hasV_iff, hasV_iff]; exact ph_left hk hd ((hasV_iff ..).1 h))
theorem has_right {k n a b c d a' b' c' d' : Int} (hk : 1 ≤ k ∧ k ≤ 4) (hd : a' * d' - b' * c' = 1) (h : hasV k n a' b' c' d' = true) : hasV k n (a * a' + b * c') (a * b' + b * d') (c * a' + d * c') (c * b' + d * d') = hasV k n a b c d :=
  bool_iff (by rw [hasV_iff, hasV_iff]; exact ph_right hk hd ((hasV_iff ..).1 h))
theorem has_inv {k n a b c d : Int} (hk : 1 ≤ k ∧ k ≤ 4) : hasV k n d (-b) (-c) a = hasV k n a b c d := bool_iff (by rw [hasV_iff, hasV_iff]; exact ph_inv hk)
end Go.Proofs.Ytfiooghodjiknaa
