/- Contracts of Sign, and of Normal, Neg and Abs. -/
import Derived.Test.YtbijjiadokgmoaaDoorSigned
import Derived.Deep.RegionWith
namespace Go.Proofs.YtbijjiadokgmoaaDoor
open Go.RowKit

theorem Rd.digs {w : World} {B c : Nat} {A : Option Addr} {ds : List Nat} (h : Rd w B A c ds) : Rd w B A c (digs (val ds)) := by
  rw [digs_take h.dgs]; exact h.take _
theorem digs_le_len {ds : List Nat} (h : Dgs ds) : (digs (val ds)).length ≤ ds.length := digs_len (val_lt h)
theorem sgn_zero (neg : Bool) : sgn neg 0 = 0 := by unfold sgn; split <;> rfl
theorem digs_pos_len {r : Nat} (h : 0 < r) : 0 < (digs r).length := by
  rcases Nat.eq_zero_or_pos (digs r).length with h1 | h1
  · have := digs_eq_nil.1 (List.eq_nil_of_length_eq_zero h1); omega
  · exact h1

set_option maxHeartbeats 800000 in
set_option maxRecDepth 1000000 in
theorem sign_any {B c1 : Nat} {A1 : Option Addr} {xs : List Nat} (n1 : Bool) (w : World) (h1 : Rd w B A1 c1 xs) (hB : B ≤ w.heap.size) (hx : xs.length ≤ 1000000) :
    Calls Tryd.prog 22 #[.agg #[.bool n1, .slice A1 xs.length c1]] w fun e w' => e = .returned (.int .i64 (sgn n1 (val xs)).sign) ∧ Below w.heap.size w w' := by
  have HT1 := Lib.hid (fun (W : World) (hb : Below w.heap.size w W) => trim_any W (h1.below (hb.mono hB)) hx)
  clear h1
  rcases Nat.eq_zero_or_pos (val xs) with h0 | h0
  · rw [h0, digs_zero] at HT1
    have HV : Hid ((sgn n1 (val xs)).sign = 0) := by show _ = _; rw [h0, sgn_zero]; rfl
    clear h0
    go_enter Tryd.func22, Tryd.ntmps22
    go_wp2_with (go_at_call 55; ((with_reducible refine (HT1.out _ ((Below.refl _ _).alloc (Nat.le_refl _) _)).mono ?_); rintro e w' ⟨rfl, rfl⟩))
    go_ret
    exact ⟨by rw [HV.out]; rfl, (Below.refl _ _).alloc (Nat.le_refl _) _⟩
  · have hl := digs_pos_len h0
    have hb0 : (((digs (val xs)).length : Int) == 0) = false := by rw [beq_eq_false_iff_ne]; omega
    have HV : Hid ((n1 = true → (sgn n1 (val xs)).sign = -1) ∧ (n1 = false → (sgn n1 (val xs)).sign = 1)) := by
      constructor
      · rintro rfl
        exact Int.sign_eq_neg_one_of_neg (by show -((val xs : Nat) : Int) < 0; omega)
      · rintro rfl
        exact Int.sign_eq_one_of_pos (by show 0 < ((val xs : Nat) : Int); omega)
    clear h0 hl
    generalize (digs (val xs)).length = dl at *
    generalize (sgn n1 (val xs)).sign = sv at *
    cases n1 with
    | true =>
      have HW := Lib.hid (HV.out.1 rfl)
      go_enter Tryd.func22, Tryd.ntmps22
      go_wp2_with (go_at_call 55; ((with_reducible refine (HT1.out _ ((Below.refl _ _).alloc (Nat.le_refl _) _)).mono ?_); rintro e w' ⟨rfl, rfl⟩))
      go_ret
      exact ⟨by rw [HW.out]; rfl, (Below.refl _ _).alloc (Nat.le_refl _) _⟩
    | false =>
      have HW := Lib.hid (HV.out.2 rfl)
      go_enter Tryd.func22, Tryd.ntmps22
      go_wp2_with (go_at_call 55; ((with_reducible refine (HT1.out _ ((Below.refl _ _).alloc (Nat.le_refl _) _)).mono ?_); rintro e w' ⟨rfl, rfl⟩))
      go_ret
      exact ⟨by rw [HW.out]; rfl, (Below.refl _ _).alloc (Nat.le_refl _) _⟩
end Go.Proofs.YtbijjiadokgmoaaDoor
