/- Contracts of Small and Bits. -/
import Derived.Test.YtbijjiadokgmoaaDoorRaw
import Derived.Test.YtbijjiadokgmoaaDoorLongB
namespace Go.Proofs.YtbijjiadokgmoaaDoor
open Go.RowKit

/-- What Small answers. -/
def smallB (a : Int) : Bool := decide (-9223372036854775808 ≤ a ∧ a ≤ 9223372036854775807)
def smallZ (a : Int) : Int := if -9223372036854775808 ≤ a ∧ a ≤ 9223372036854775807 then a else 0
theorem small_no {a : Int} (h : a < -9223372036854775808 ∨ 9223372036854775807 < a) : smallZ a = 0 ∧ smallB a = false := by
  have : ¬ (-9223372036854775808 ≤ a ∧ a ≤ 9223372036854775807) := by omega
  exact ⟨if_neg this, decide_eq_false this⟩
theorem small_yes {a : Int} (h : -9223372036854775808 ≤ a ∧ a ≤ 9223372036854775807) : smallZ a = a ∧ smallB a = true := ⟨if_pos h, decide_eq_true h⟩
theorem long_big {n : Nat} (h : 2 < (digs n).length) : 18446744073709551616 ≤ n := by
  rcases Nat.lt_or_ge n 18446744073709551616 with h1 | h1
  · have := digs_len (n := n) (k := 2) h1
    omega
  · exact h1

/-- What a function leaves that returns a machine integer and a bool. -/
def SmallRet (w : World) (a : Int) (e : Ending) (w' : World) : Prop := e = .returned (.tuple #[.int .i64 (smallZ a), .bool (smallB a)]) ∧ Below w.heap.size w w'

set_option maxHeartbeats 1600000 in
set_option maxRecDepth 1000000 in
theorem small_long {B c1 : Nat} {A1 : Option Addr} {xs : List Nat} (n1 : Bool) (w : World) (h1 : Rd w B A1 c1 xs) (hB : B ≤ w.heap.size) (hx : xs.length ≤ 1000000) (hl : 2 < (digs (val xs)).length) :
    Calls Tryd.prog 15 #[.agg #[.bool n1, .slice A1 xs.length c1]] w (SmallRet w (sgn n1 (val xs))) := by
  have HT1 := Lib.hid (fun (W : World) (hb : Below w.heap.size w W) => trim_any W (h1.below (hb.mono hB)) hx)
  have hbig := long_big hl
  obtain ⟨e1, e2⟩ := small_no (a := sgn n1 (val xs)) (by unfold sgn; cases n1 <;> simp <;> omega)
  have HR : Hid (∀ w', Below w.heap.size w w' → SmallRet w (sgn n1 (val xs)) (.returned (.tuple #[.int .i64 0, .bool false])) w') := fun w' hb => ⟨by rw [e1, e2], hb⟩
  have hb2 : decide ((2 : Int) < ((digs (val xs)).length : Int)) = true := decide_eq_true (by omega)
  clear h1 hbig hl e1 e2
  generalize sgn n1 (val xs) = z at *
  generalize (digs (val xs)).length = l at *
  go_enter Tryd.func15, Tryd.ntmps15
  go_wp2_with (go_at_call 55; ((with_reducible refine (HT1.out _ ((Below.refl _ _).alloc (Nat.le_refl _) _)).mono ?_); rintro e w' ⟨rfl, rfl⟩))
  go_ret2
  exact HR.out _ ((Below.refl _ _).alloc (Nat.le_refl _) _)

set_option maxHeartbeats 1600000 in
set_option maxRecDepth 1000000 in
theorem small_neg_no {m l c1 l1 : Nat} {A1 : Option Addr} {z : Int} (w : World) (HT1 : Hid (∀ W : World, Below w.heap.size w W → Calls Tryd.prog 55 #[.slice A1 l1 c1] W fun e w' => e = .returned (.slice A1 l c1) ∧ W = w')) (HW : Hid (∀ W : World, Below w.heap.size w W → Calls Tryd.prog 56 #[.slice A1 l c1] W fun e w' => e = .returned (.int .u64 (m : Int)) ∧ ∃ q, w' = W.drewN q)) (hl : (l : Int) ≤ 2) (hb : decide ((9223372036854775808 : Int) < (m : Int)) = true)
    (HR : Hid (∀ w', Below w.heap.size w w' → SmallRet w z (.returned (.tuple #[.int .i64 0, .bool false])) w')) :
    Calls Tryd.prog 15 #[.agg #[.bool true, .slice A1 l1 c1]] w (SmallRet w z) := by
  go_enter Tryd.func15, Tryd.ntmps15
  go_wp2_with (go_at_call 55; ((with_reducible refine (HT1.out _ ((Below.refl _ _).alloc (Nat.le_refl _) _)).mono ?_); rintro e w' ⟨rfl, rfl⟩))
  refine (HW.out _ ((Below.refl _ _).alloc (Nat.le_refl _) _)).mono ?_
  rintro e w' ⟨rfl, q, rfl⟩
  go_wp2
  go_ret2
  exact HR.out _ (below_drewN ((Below.refl _ _).alloc (Nat.le_refl _) _) _)
set_option maxHeartbeats 1600000 in
set_option maxRecDepth 1000000 in
theorem small_neg_yes {m l c1 l1 : Nat} {A1 : Option Addr} {z : Int} (w : World) (HT1 : Hid (∀ W : World, Below w.heap.size w W → Calls Tryd.prog 55 #[.slice A1 l1 c1] W fun e w' => e = .returned (.slice A1 l c1) ∧ W = w')) (HW : Hid (∀ W : World, Below w.heap.size w W → Calls Tryd.prog 56 #[.slice A1 l c1] W fun e w' => e = .returned (.int .u64 (m : Int)) ∧ ∃ q, w' = W.drewN q)) (hl : (l : Int) ≤ 2) (hb : decide ((9223372036854775808 : Int) < (m : Int)) = false) {p : Int} (e1 : IntKind.u64.wrap (-(m : Int)) = p) (e2 : IntKind.i64.wrap p = z)
    (HR : Hid (∀ w', Below w.heap.size w w' → SmallRet w z (.returned (.tuple #[.int .i64 z, .bool true])) w')) :
    Calls Tryd.prog 15 #[.agg #[.bool true, .slice A1 l1 c1]] w (SmallRet w z) := by
  go_enter Tryd.func15, Tryd.ntmps15
  go_wp2_with (go_at_call 55; ((with_reducible refine (HT1.out _ ((Below.refl _ _).alloc (Nat.le_refl _) _)).mono ?_); rintro e w' ⟨rfl, rfl⟩))
  refine (HW.out _ ((Below.refl _ _).alloc (Nat.le_refl _) _)).mono ?_
  rintro e w' ⟨rfl, q, rfl⟩
  go_wp2
  go_ret2
  exact HR.out _ (below_drewN ((Below.refl _ _).alloc (Nat.le_refl _) _) _)
set_option maxHeartbeats 1600000 in
set_option maxRecDepth 1000000 in
theorem small_pos_no {m l c1 l1 : Nat} {A1 : Option Addr} {z : Int} (w : World) (HT1 : Hid (∀ W : World, Below w.heap.size w W → Calls Tryd.prog 55 #[.slice A1 l1 c1] W fun e w' => e = .returned (.slice A1 l c1) ∧ W = w')) (HW : Hid (∀ W : World, Below w.heap.size w W → Calls Tryd.prog 56 #[.slice A1 l c1] W fun e w' => e = .returned (.int .u64 (m : Int)) ∧ ∃ q, w' = W.drewN q)) (hl : (l : Int) ≤ 2) (hb : decide ((9223372036854775808 : Int) ≤ (m : Int)) = true)
    (HR : Hid (∀ w', Below w.heap.size w w' → SmallRet w z (.returned (.tuple #[.int .i64 0, .bool false])) w')) :
    Calls Tryd.prog 15 #[.agg #[.bool false, .slice A1 l1 c1]] w (SmallRet w z) := by
  go_enter Tryd.func15, Tryd.ntmps15
  go_wp2_with (go_at_call 55; ((with_reducible refine (HT1.out _ ((Below.refl _ _).alloc (Nat.le_refl _) _)).mono ?_); rintro e w' ⟨rfl, rfl⟩))
  refine (HW.out _ ((Below.refl _ _).alloc (Nat.le_refl _) _)).mono ?_
  rintro e w' ⟨rfl, q, rfl⟩
  go_wp2
  go_ret2
  exact HR.out _ (below_drewN ((Below.refl _ _).alloc (Nat.le_refl _) _) _)
set_option maxHeartbeats 1600000 in
set_option maxRecDepth 1000000 in
theorem small_pos_yes {m l c1 l1 : Nat} {A1 : Option Addr} {z : Int} (w : World) (HT1 : Hid (∀ W : World, Below w.heap.size w W → Calls Tryd.prog 55 #[.slice A1 l1 c1] W fun e w' => e = .returned (.slice A1 l c1) ∧ W = w')) (HW : Hid (∀ W : World, Below w.heap.size w W → Calls Tryd.prog 56 #[.slice A1 l c1] W fun e w' => e = .returned (.int .u64 (m : Int)) ∧ ∃ q, w' = W.drewN q)) (hl : (l : Int) ≤ 2) (hb : decide ((9223372036854775808 : Int) ≤ (m : Int)) = false) (e2 : IntKind.i64.wrap (m : Int) = z)
    (HR : Hid (∀ w', Below w.heap.size w w' → SmallRet w z (.returned (.tuple #[.int .i64 z, .bool true])) w')) :
    Calls Tryd.prog 15 #[.agg #[.bool false, .slice A1 l1 c1]] w (SmallRet w z) := by
  go_enter Tryd.func15, Tryd.ntmps15
  go_wp2_with (go_at_call 55; ((with_reducible refine (HT1.out _ ((Below.refl _ _).alloc (Nat.le_refl _) _)).mono ?_); rintro e w' ⟨rfl, rfl⟩))
  refine (HW.out _ ((Below.refl _ _).alloc (Nat.le_refl _) _)).mono ?_
  rintro e w' ⟨rfl, q, rfl⟩
  go_wp2
  go_ret2
  exact HR.out _ (below_drewN ((Below.refl _ _).alloc (Nat.le_refl _) _) _)

theorem small_any {B c1 : Nat} {A1 : Option Addr} {xs : List Nat} (n1 : Bool) (w : World) (h1 : Rd w B A1 c1 xs) (hB : B ≤ w.heap.size) (hx : xs.length ≤ 1000000) :
    Calls Tryd.prog 15 #[.agg #[.bool n1, .slice A1 xs.length c1]] w (SmallRet w (sgn n1 (val xs))) := by
  rcases Nat.lt_or_ge 2 (digs (val xs)).length with hl | hl
  · exact small_long n1 w h1 hB hx hl
  · have HT1 : Hid (∀ W : World, Below w.heap.size w W → Calls Tryd.prog 55 #[.slice A1 xs.length c1] W fun e w' => e = .returned (.slice A1 (digs (val xs)).length c1) ∧ W = w') := fun W hb => trim_any W (h1.below (hb.mono hB)) hx
    have HW : Hid (∀ W : World, Below w.heap.size w W → Calls Tryd.prog 56 #[.slice A1 (digs (val xs)).length c1] W fun e w' => e = .returned (.int .u64 ((val xs : Nat) : Int)) ∧ ∃ q, w' = W.drewN q) := fun W hb => toWord_any W (h1.digs.below (hb.mono hB)) hl
    have hm : val xs < 4294967296 ^ 2 := Nat.lt_of_lt_of_le (lt_digs _) (Nat.pow_le_pow_right (by omega) hl)
    have hli : ((digs (val xs)).length : Int) ≤ 2 := by omega
    cases n1 with
    | true =>
      rcases Nat.lt_or_ge 9223372036854775808 (val xs) with h | h
      · obtain ⟨e1, e2⟩ := small_no (a := sgn true (val xs)) (by unfold sgn; simp; omega)
        exact small_neg_no w HT1 HW hli (decide_eq_true (by omega)) (fun w' hb => ⟨by rw [e1, e2], hb⟩)
      · obtain ⟨e1, e2⟩ := small_yes (a := sgn true (val xs)) (by unfold sgn; simp; omega)
        exact small_neg_yes w HT1 HW hli (decide_eq_false (by omega)) rfl (by rw [IntKind.wrap_u64, IntKind.wrap_i64]; unfold sgn; simp; omega) (fun w' hb => ⟨by rw [e1, e2], hb⟩)
    | false =>
      rcases Nat.lt_or_ge (val xs) 9223372036854775808 with h | h
      · obtain ⟨e1, e2⟩ := small_yes (a := sgn false (val xs)) (by unfold sgn; simp; omega)
        exact small_pos_yes w HT1 HW hli (decide_eq_false (by omega)) (by rw [IntKind.wrap_i64]; unfold sgn; simp; omega) (fun w' hb => ⟨by rw [e1, e2], hb⟩)
      · obtain ⟨e1, e2⟩ := small_no (a := sgn false (val xs)) (by unfold sgn; simp; omega)
        exact small_pos_no w HT1 HW hli (decide_eq_true (by omega)) (fun w' hb => ⟨by rw [e1, e2], hb⟩)
theorem small_raw {w : World} {B l1 : Nat} {v1 : Value} {a : Int} (h1 : Raw w B v1 a l1) (hB : B ≤ w.heap.size) (b1 : l1 ≤ 1000000) : Calls Tryd.prog 15 #[v1] w (SmallRet w a) := by
  obtain ⟨n, A, c, xs, rfl, r1, rfl, k1⟩ := h1
  exact small_any n w r1 hB (by omega)
end Go.Proofs.YtbijjiadokgmoaaDoor
