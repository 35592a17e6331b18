/- Contract of Cmp. -/
import Derived.Test.YtbijjiadokgmoaaDoorSignI
import Derived.Deep.RegionHeld3
namespace Go.Proofs.YtbijjiadokgmoaaDoor
open Go.RowKit

/-- The order of two integers. -/
def cmpZ (x y : Int) : Int := if x < y then -1 else if y < x then 1 else 0
theorem cmpZ_lt {x y : Int} (h : x < y) : cmpZ x y = -1 := by unfold cmpZ; rw [if_pos h]
theorem cmpZ_gt {x y : Int} (h : y < x) : cmpZ x y = 1 := by unfold cmpZ; rw [if_neg (by omega), if_pos h]
theorem sgn_sign (n : Bool) (x : Nat) : (sgn n x).sign = if x = 0 then 0 else if n then -1 else 1 := by
  rcases Nat.eq_zero_or_pos x with h | h
  · rw [h, sgn_zero, if_pos rfl]; rfl
  · rw [if_neg (by omega)]
    cases n with
    | true => rw [if_pos rfl]; exact Int.sign_eq_neg_one_of_neg (by show -((x : Nat) : Int) < 0; omega)
    | false => rw [if_neg (by simp)]; exact Int.sign_eq_one_of_pos (by show 0 < ((x : Nat) : Int); omega)
theorem cmpZ_eq (x : Int) : cmpZ x x = 0 := by unfold cmpZ; simp
theorem cmpZ_nat (x y : Nat) : cmpZ x y = cmpV x y := by
  rcases Nat.lt_trichotomy x y with h | h | h
  · rw [cmpZ_lt (by omega), cmpV_lt h]
  · subst h; rw [cmpZ_eq, cmpV_eq]
  · rw [cmpZ_gt (by omega), cmpV_gt h]
theorem cmpZ_neg (x y : Nat) : cmpZ (-(x : Int)) (-(y : Int)) = -cmpV x y := by
  rcases Nat.lt_trichotomy x y with h | h | h
  · rw [cmpZ_gt (by omega), cmpV_lt h]; rfl
  · subst h; rw [cmpZ_eq, cmpV_eq]; rfl
  · rw [cmpZ_lt (by omega), cmpV_gt h]
/-- Where the signs are equal, the magnitudes decide. -/
theorem cmpZ_same {n1 n2 : Bool} {x y : Nat} (h : (sgn n1 x).sign = (sgn n2 y).sign) : cmpZ (sgn n1 x) (sgn n2 y) = (sgn n1 x).sign * cmpV x y := by
  rcases Nat.eq_zero_or_pos x with h1 | h1
  · subst h1
    rw [sgn_zero] at h ⊢
    have : sgn n2 y = 0 := Int.sign_eq_zero_iff_zero.1 h.symm
    rw [this, cmpZ_eq, Int.sign_zero, Int.zero_mul]
  · rw [sgn_sign, sgn_sign, if_neg (by omega)] at h
    have h2 : 0 < y := by
      rcases Nat.eq_zero_or_pos y with h2 | h2
      · rw [if_pos h2] at h; cases n1 <;> simp at h
      · exact h2
    rw [if_neg (show ¬ y = 0 by omega)] at h
    rw [sgn_sign, if_neg (by omega)]
    cases n1 <;> cases n2 <;> simp at h
    · show cmpZ (x : Int) (y : Int) = 1 * cmpV x y
      rw [cmpZ_nat, Int.one_mul]
    · show cmpZ (-(x : Int)) (-(y : Int)) = -1 * cmpV x y
      rw [cmpZ_neg, Int.neg_mul, Int.one_mul]
theorem sign_cases (x : Int) : (x.sign = -1 ∧ x < 0) ∨ (x.sign = 0 ∧ x = 0) ∨ (x.sign = 1 ∧ 0 < x) := by
  rcases Int.lt_trichotomy x 0 with h | h | h
  · exact .inl ⟨Int.sign_eq_neg_one_of_neg h, h⟩
  · exact .inr (.inl ⟨by rw [h]; rfl, h⟩)
  · exact .inr (.inr ⟨Int.sign_eq_one_of_pos h, h⟩)
theorem cmpZ_signs {x y : Int} : (x.sign < y.sign → cmpZ x y = -1) ∧ (y.sign < x.sign → cmpZ x y = 1) := by
  constructor
  · intro h
    apply cmpZ_lt
    rcases sign_cases x with ⟨a, b⟩ | ⟨a, b⟩ | ⟨a, b⟩ <;> rcases sign_cases y with ⟨c, d⟩ | ⟨c, d⟩ | ⟨c, d⟩ <;> rw [a, c] at h <;> first | omega | (exfalso; revert h; decide)
  · intro h
    apply cmpZ_gt
    rcases sign_cases x with ⟨a, b⟩ | ⟨a, b⟩ | ⟨a, b⟩ <;> rcases sign_cases y with ⟨c, d⟩ | ⟨c, d⟩ | ⟨c, d⟩ <;> rw [a, c] at h <;> first | omega | (exfalso; revert h; decide)
/-- Two boxes. -/
theorem boxesD (w : World) (a0 a1 b0 b1 : Value) (t : TypeId) : ∃ W : World, W = (w.alloc (.cells #[a0, a1] t)).alloc (.cells #[b0, b1] t) ∧
    W.cell? ⟨w.heap.size, 0, none⟩ = some a0 ∧ W.cell? ⟨w.heap.size, 1, none⟩ = some a1 ∧ W.cell? ⟨w.heap.size + 1, 0, none⟩ = some b0 ∧ W.cell? ⟨w.heap.size + 1, 1, none⟩ = some b1 ∧ W.heap.size = w.heap.size + 2 ∧ Below w.heap.size w W := by
  refine ⟨_, rfl, ?_⟩
  have ha : ((w.alloc (.cells #[a0, a1] t)).alloc (.cells #[b0, b1] t)).heap[w.heap.size]? = some (.cells #[a0, a1] t (0, 0)) :=
    (Below.heap_alloc _ _ _ (by simp)).trans (heap_alloc_new w _)
  have hr : ((w.alloc (.cells #[a0, a1] t)).alloc (.cells #[b0, b1] t)).heap[w.heap.size + 1]? = some (.cells #[b0, b1] t (0, 0)) := by
    have h2 := heap_alloc_new (w.alloc (.cells #[a0, a1] t)) (.cells #[b0, b1] t)
    rw [World.size_alloc] at h2
    exact h2
  obtain ⟨x1, x2, _, _⟩ := two_of_block ha
  obtain ⟨y1, y2, _, _⟩ := two_of_block hr
  exact ⟨x1, x2, y1, y2, by simp, ((Below.refl _ _).alloc (Nat.le_refl _) _).alloc (by simp) _⟩

set_option maxHeartbeats 1600000 in
set_option maxRecDepth 1000000 in
theorem cmp_any {B c1 c2 : Nat} {A1 A2 : Option Addr} {xs ys : List Nat} (n1 n2 : Bool) (w : World) (h1 : Rd w B A1 c1 xs) (h2 : Rd w B A2 c2 ys) (hB : B ≤ w.heap.size) (hx : xs.length ≤ 1000000) (hy : ys.length ≤ 1000000) :
    Calls Tryd.prog 36 #[.agg #[.bool n1, .slice A1 xs.length c1], .agg #[.bool n2, .slice A2 ys.length c2]] w fun e w' => e = .returned (.int .i64 (cmpZ (sgn n1 (val xs)) (sgn n2 (val ys)))) ∧ Below w.heap.size w w' := by
  have HT1 := Lib.hid (fun (W : World) (hb : Below w.heap.size w W) => trim_any W (h1.below (hb.mono hB)) hx)
  have HT2 := Lib.hid (fun (W : World) (hb : Below w.heap.size w W) => trim_any W (h2.below (hb.mono hB)) hy)
  have HS1 := Lib.hid (fun (W : World) (hb : Below w.heap.size w W) => sign_any n1 W (h1.below (hb.mono hB)) (by have := hb.size; omega) hx)
  have HS2 := Lib.hid (fun (W : World) (hb : Below w.heap.size w W) => sign_any n2 W (h2.below (hb.mono hB)) (by have := hb.size; omega) hy)
  have HC := Lib.hid (fun (W : World) (hb : Below w.heap.size w W) => compare_any W (h1.digs.below (hb.mono hB)) (h2.digs.below (hb.mono hB)) (by have := digs_le_len h1.dgs; omega))
  have HV : Hid ((sgn n1 (val xs)).sign = (sgn n2 (val ys)).sign → cmpZ (sgn n1 (val xs)) (sgn n2 (val ys)) = (sgn n1 (val xs)).sign * cmpV (val xs) (val ys)) := cmpZ_same
  have HL := Lib.hid (@cmpZ_signs (sgn n1 (val xs)) (sgn n2 (val ys)))
  have g1 : -1 ≤ (sgn n1 (val xs)).sign ∧ (sgn n1 (val xs)).sign ≤ 1 := by rcases sign_cases (sgn n1 (val xs)) with h | h | h <;> omega
  have g2 : -1 ≤ (sgn n2 (val ys)).sign ∧ (sgn n2 (val ys)).sign ≤ 1 := by rcases sign_cases (sgn n2 (val ys)) with h | h | h <;> omega
  have g3 : -1 ≤ cmpV (val xs) (val ys) ∧ cmpV (val xs) (val ys) ≤ 1 := by unfold cmpV; split <;> (try split) <;> omega
  clear h1 h2
  generalize cmpZ (sgn n1 (val xs)) (sgn n2 (val ys)) = r at *
  generalize (sgn n1 (val xs)).sign = s at *
  generalize (sgn n2 (val ys)).sign = t at *
  generalize cmpV (val xs) (val ys) = c at *
  obtain ⟨W, HWE, x1, x2, y1, y2, hsz, hb0⟩ := boxesD w (.bool n1) (.slice A1 xs.length c1) (.bool n2) (.slice A2 ys.length c2) 24
  have HB0 := Lib.hid hb0
  have HLT : Hid (w.heap.size < W.drew.heap.size ∧ w.heap.size + 1 < W.drew.heap.size ∧ w.heap.size ≤ W.drew.heap.size ∧ w.heap.size + 2 ≤ W.drew.heap.size) := by
    have e : W.drew.heap.size = w.heap.size + 2 := hsz
    rw [e]; exact ⟨by omega, by omega, by omega, by omega⟩
  clear hsz hb0
  subst HWE
  rcases Int.lt_trichotomy s t with hst | hst | hst
  · have HR : Hid (r = -1) := HL.out.1 hst
    have hbb : decide (s < t) = true := decide_eq_true hst
    clear hst g1 g2 g3
    go_enter Tryd.func36, Tryd.ntmps36
    go_wp2_with fail
    go_region_held3 (fun w' => w'.cell? ⟨w.heap.size, 0, none⟩ = some (.bool n1) ∧ w'.cell? ⟨w.heap.size, 1, none⟩ = some (.slice A1 xs.length c1) ∧ w'.cell? ⟨w.heap.size + 1, 0, none⟩ = some (.bool n2) ∧ w'.cell? ⟨w.heap.size + 1, 1, none⟩ = some (.slice A2 ys.length c2))
      (first | exact ⟨x1, x2, y1, y2⟩ | exact ⟨p1, p2, p3, p4⟩ | exact ⟨q1, q2, q3, q4⟩ | fail)
      (first
        | (go_at_call 22; ((with_reducible refine (HS1.out _ HB0.out.drew).mono ?_); rintro e w1 ⟨rfl, hb1⟩; obtain ⟨hbc, _⟩ := bcell hb1; have p1 := (hbc _ _ HLT.out.1).trans x1; have p2 := (hbc _ _ HLT.out.1).trans x2; have p3 := (hbc _ _ HLT.out.2.1).trans y1; have p4 := (hbc _ _ HLT.out.2.1).trans y2; have HB1 : Hid (Below w.heap.size w w1) := HB0.out.drew.trans (hb1.mono HLT.out.2.2.1); have hz1 : w.heap.size + 2 ≤ w1.heap.size := Nat.le_trans HLT.out.2.2.2 hb1.size; clear hb1 hbc))
        | (go_at_call 22; ((with_reducible refine (HS2.out _ HB1.out).mono ?_); rintro e w2 ⟨rfl, hb2⟩; obtain ⟨hbc, _⟩ := bcell hb2; have q1 := (hbc _ _ (by omega)).trans p1; have q2 := (hbc _ _ (by omega)).trans p2; have q3 := (hbc _ _ (by omega)).trans p3; have q4 := (hbc _ _ (by omega)).trans p4; have HB2 : Hid (Below w.heap.size w w2) := HB1.out.trans (hb2.mono HB1.out.size); clear hb2 hbc))
        | fail)
    go_wp2
    go_ret
    exact ⟨by rw [HR.out]; rfl, HB2.out⟩
  · subst hst
    have HR : Hid (r = s * c) := HV.out rfl
    have hbb : decide (s < s) = false := decide_eq_false (by omega)
    have HWR : Hid (IntKind.i64.wrap (s * c) = s * c) := IntWalk.i64_in _ (by rcases (show s = -1 ∨ s = 0 ∨ s = 1 by omega) with h | h | h <;> subst h <;> omega)
    clear g1 g2 g3
    go_enter Tryd.func36, Tryd.ntmps36
    go_wp2_with fail
    go_region_held3 (fun w' => w'.cell? ⟨w.heap.size, 0, none⟩ = some (.bool n1) ∧ w'.cell? ⟨w.heap.size, 1, none⟩ = some (.slice A1 xs.length c1) ∧ w'.cell? ⟨w.heap.size + 1, 0, none⟩ = some (.bool n2) ∧ w'.cell? ⟨w.heap.size + 1, 1, none⟩ = some (.slice A2 ys.length c2))
      (first | exact ⟨x1, x2, y1, y2⟩ | exact ⟨p1, p2, p3, p4⟩ | exact ⟨q1, q2, q3, q4⟩ | fail)
      (first
        | (go_at_call 22; ((with_reducible refine (HS1.out _ HB0.out.drew).mono ?_); rintro e w1 ⟨rfl, hb1⟩; obtain ⟨hbc, _⟩ := bcell hb1; have p1 := (hbc _ _ HLT.out.1).trans x1; have p2 := (hbc _ _ HLT.out.1).trans x2; have p3 := (hbc _ _ HLT.out.2.1).trans y1; have p4 := (hbc _ _ HLT.out.2.1).trans y2; have HB1 : Hid (Below w.heap.size w w1) := HB0.out.drew.trans (hb1.mono HLT.out.2.2.1); have hz1 : w.heap.size + 2 ≤ w1.heap.size := Nat.le_trans HLT.out.2.2.2 hb1.size; clear hb1 hbc))
        | (go_at_call 22; ((with_reducible refine (HS2.out _ HB1.out).mono ?_); rintro e w2 ⟨rfl, hb2⟩; obtain ⟨hbc, _⟩ := bcell hb2; have q1 := (hbc _ _ (by omega)).trans p1; have q2 := (hbc _ _ (by omega)).trans p2; have q3 := (hbc _ _ (by omega)).trans p3; have q4 := (hbc _ _ (by omega)).trans p4; have HB2 : Hid (Below w.heap.size w w2) := HB1.out.trans (hb2.mono HB1.out.size); clear hb2 hbc))
        | fail)
    go_wp2_with fail
    have hwr := HWR.out
    go_region_held3 (fun w' => w'.cell? ⟨w.heap.size, 0, none⟩ = some (.bool n1) ∧ w'.cell? ⟨w.heap.size, 1, none⟩ = some (.slice A1 xs.length c1) ∧ w'.cell? ⟨w.heap.size + 1, 0, none⟩ = some (.bool n2) ∧ w'.cell? ⟨w.heap.size + 1, 1, none⟩ = some (.slice A2 ys.length c2))
      (first | exact ⟨q1, q2, q3, q4⟩ | fail)
      (first
        | (go_at_call 55; ((with_reducible refine (HT1.out _ HB2.out.drew).mono ?_); rintro e w' ⟨rfl, rfl⟩))
        | (go_at_call 55; ((with_reducible refine (HT2.out _ HB2.out.drew).mono ?_); rintro e w' ⟨rfl, rfl⟩))
        | (go_at_call 69; ((with_reducible refine (HC.out _ HB2.out.drew).mono ?_); rintro e w' ⟨rfl, q, rfl⟩))
        | fail)
    go_wp2
    go_ret
    exact ⟨by rw [HR.out]; rfl, below_drewN HB2.out _⟩
  · have HR : Hid (r = 1) := HL.out.2 hst
    have hbb : decide (s < t) = false := decide_eq_false (by omega)
    have hbc2 : decide (t < s) = true := decide_eq_true hst
    clear hst g1 g2 g3
    go_enter Tryd.func36, Tryd.ntmps36
    go_wp2_with fail
    go_region_held3 (fun w' => w'.cell? ⟨w.heap.size, 0, none⟩ = some (.bool n1) ∧ w'.cell? ⟨w.heap.size, 1, none⟩ = some (.slice A1 xs.length c1) ∧ w'.cell? ⟨w.heap.size + 1, 0, none⟩ = some (.bool n2) ∧ w'.cell? ⟨w.heap.size + 1, 1, none⟩ = some (.slice A2 ys.length c2))
      (first | exact ⟨x1, x2, y1, y2⟩ | exact ⟨p1, p2, p3, p4⟩ | exact ⟨q1, q2, q3, q4⟩ | fail)
      (first
        | (go_at_call 22; ((with_reducible refine (HS1.out _ HB0.out.drew).mono ?_); rintro e w1 ⟨rfl, hb1⟩; obtain ⟨hbc, _⟩ := bcell hb1; have p1 := (hbc _ _ HLT.out.1).trans x1; have p2 := (hbc _ _ HLT.out.1).trans x2; have p3 := (hbc _ _ HLT.out.2.1).trans y1; have p4 := (hbc _ _ HLT.out.2.1).trans y2; have HB1 : Hid (Below w.heap.size w w1) := HB0.out.drew.trans (hb1.mono HLT.out.2.2.1); have hz1 : w.heap.size + 2 ≤ w1.heap.size := Nat.le_trans HLT.out.2.2.2 hb1.size; clear hb1 hbc))
        | (go_at_call 22; ((with_reducible refine (HS2.out _ HB1.out).mono ?_); rintro e w2 ⟨rfl, hb2⟩; obtain ⟨hbc, _⟩ := bcell hb2; have q1 := (hbc _ _ (by omega)).trans p1; have q2 := (hbc _ _ (by omega)).trans p2; have q3 := (hbc _ _ (by omega)).trans p3; have q4 := (hbc _ _ (by omega)).trans p4; have HB2 : Hid (Below w.heap.size w w2) := HB1.out.trans (hb2.mono HB1.out.size); clear hb2 hbc))
        | fail)
    go_wp2
    go_ret
    exact ⟨by rw [HR.out]; rfl, HB2.out⟩
end Go.Proofs.YtbijjiadokgmoaaDoor
