/- The contract of nearest. -/
import Derived.Test.YtjofmgnggeoimaaGcdL
import Derived.Test.YtjofmgnggeoimaaWordM
namespace Go.Proofs.Ytjofmgnggeoimaa
open Go.RowKit

theorem tdiv_le (a c : Int) : (a.tdiv c).natAbs ≤ a.natAbs := by rw [Int.natAbs_tdiv]; exact Nat.div_le_self _ _
theorem tdiv_bd {a : Int} (c : Int) (h1 : -1073741824 ≤ a) (h2 : a ≤ 1073741824) : -1073741824 ≤ a.tdiv c ∧ a.tdiv c ≤ 1073741824 := by
  have := tdiv_le a c; omega
set_option maxHeartbeats 1600000 in
theorem nearest_pos (a c : Int) (w : World) (a1 : -1073741824 ≤ a) (a2 : a ≤ 1073741824) (c1 : 0 < c) (c2 : c ≤ 1073741824) :
    Calls Try.prog 74 #[.int .i64 a, .int .i64 c] w fun e w' => e = .returned (.int .i64 (nq a c)) ∧ w = w' := by
  have HU := Lib.hid (@nq_up a c c1)
  have HD := Lib.hid (@nq_down a c c1)
  have HM := Lib.hid (@nq_mid a c (by omega))
  obtain ⟨q1, q2⟩ := tdiv_bd c a1 a2
  obtain ⟨m1, m2⟩ := prod_le q1 q2 (show -1073741824 ≤ c by omega) c2
  have hn := Int.natAbs_of_nonneg (show 0 ≤ c by omega)
  have t1 := tmod_bd a (c := c) (by omega)
  have t2 := tdiv_parts a c
  have r1 : -1073741824 ≤ a - a.tdiv c * c := by omega
  have r2 : a - a.tdiv c * c ≤ 1073741824 := by omega
  have hs : c.tdiv c = 1 := Int.tdiv_self (by omega)
  have HS := Lib.hid hs
  rw [hn] at HM
  have hc0 : (c == 0) = false := by rw [beq_eq_false_iff_ne]; omega
  clear t1 t2 hn hs
  generalize nq a c = z at *
  go_enter Try.func74, Try.ntmps74
  go_wp2
  · have h : c < 2 * (a - a.tdiv c * c) := by assumption
    go_ret
    exact ⟨ret_int (by rw [Int.ediv_self (by omega), IntWalk.wrap64_in _ (by omega)]; exact HU.out h), rfl⟩
  · have h : 2 * (a - a.tdiv c * c) ≤ -c := by assumption
    go_ret
    exact ⟨ret_int (by rw [Int.ediv_self (by omega), IntWalk.wrap64_in _ (by omega)]; exact HD.out h), rfl⟩
  · have h : 2 * (a - a.tdiv c * c) ≤ c := by assumption
    have k : -c < 2 * (a - a.tdiv c * c) := by assumption
    go_ret
    exact ⟨ret_int (HM.out k h), rfl⟩
set_option maxHeartbeats 1600000 in
theorem nearest_neg (a c : Int) (w : World) (a1 : -1073741824 ≤ a) (a2 : a ≤ 1073741824) (c1 : -1073741824 ≤ c) (c2 : c < 0) :
    Calls Try.prog 74 #[.int .i64 a, .int .i64 c] w fun e w' => e = .returned (.int .i64 (nq a c)) ∧ w = w' := by
  have HU := Lib.hid (@nq_up' a c c2)
  have HD := Lib.hid (@nq_down' a c c2)
  have HM := Lib.hid (@nq_mid a c (by omega))
  obtain ⟨q1, q2⟩ := tdiv_bd c a1 a2
  obtain ⟨m1, m2⟩ := prod_le q1 q2 c1 (show c ≤ 1073741824 by omega)
  have hn : (c.natAbs : Int) = -c := by omega
  have t1 := tmod_bd a (c := c) (by omega)
  have t2 := tdiv_parts a c
  have r1 : -1073741824 ≤ a - a.tdiv c * c := by omega
  have r2 : a - a.tdiv c * c ≤ 1073741824 := by omega
  rw [hn] at HM
  have hc0 : (c == 0) = false := by rw [beq_eq_false_iff_ne]; omega
  clear t1 t2 hn
  generalize nq a c = z at *
  go_enter Try.func74, Try.ntmps74
  go_wp2
  · have h : -c < 2 * (a - a.tdiv c * c) := by assumption
    go_ret
    exact ⟨ret_int (by rw [Int.tdiv_self (by omega), show wrap64 (-1) = -1 from IntWalk.wrap64_in _ (by omega), IntWalk.wrap64_in _ (by omega)]; exact HU.out h), rfl⟩
  · have h : 2 * (a - a.tdiv c * c) ≤ c := by assumption
    go_ret
    exact ⟨ret_int (by rw [Int.tdiv_self (by omega), show wrap64 (-1) = -1 from IntWalk.wrap64_in _ (by omega), IntWalk.wrap64_in _ (by omega)]; exact HD.out h), rfl⟩
  · have h : 2 * (a - a.tdiv c * c) ≤ -c := by assumption
    have k : c < 2 * (a - a.tdiv c * c) := by assumption
    go_ret
    exact ⟨ret_int (HM.out (by omega) h), rfl⟩
theorem nearest_any (a c : Int) (w : World) (a1 : -1073741824 ≤ a) (a2 : a ≤ 1073741824) (c1 : -1073741824 ≤ c) (c2 : c ≤ 1073741824) (hc : c ≠ 0) :
    Calls Try.prog 74 #[.int .i64 a, .int .i64 c] w fun e w' => e = .returned (.int .i64 (nq a c)) ∧ w = w' := by
  rcases Int.lt_or_gt_of_ne hc with h | h
  · exact nearest_neg a c w a1 a2 c1 h
  · exact nearest_pos a c w a1 a2 h c2
end Go.Proofs.Ytjofmgnggeoimaa
