/- The contract of divide, where the dividend is less than the divisor or has at most two digits. -/
import Derived.Test.YtbijjiadokgmoaaDoorOfI
import Derived.Deep.RegionWith
namespace Go.Proofs.YtbijjiadokgmoaaDoor
open Go.RowKit

/-- What divide leaves. -/
def DivRet (w : World) (q r : Nat) (e : Ending) (w' : World) : Prop :=
  ∃ (A A2 : Option Addr) (c c2 : Nat), e = .returned (.tuple #[.slice A (digs q).length c, .slice A2 (digs r).length c2]) ∧ Rd w' w'.heap.size A c (digs q) ∧ Rd w' w'.heap.size A2 c2 (digs r) ∧ (∀ a, A = some a → w.heap.size ≤ a.block) ∧ (∀ a, A2 = some a → w.heap.size ≤ a.block) ∧ Below w.heap.size w w'

set_option maxHeartbeats 1600000 in
set_option maxRecDepth 1000000 in
theorem divide_lt {B m n c1 c2 : Nat} {A1 A2 : Option Addr} (w : World) (h1 : Rd w B A1 c1 (digs m)) (h2 : Rd w B A2 c2 (digs n)) (hm : (digs m).length ≤ 1000000) (hlt : m < n) :
    Calls Tryd.prog 70 #[.slice A1 (digs m).length c1, .slice A2 (digs n).length c2] w (DivRet w (m / n) (m % n)) := by
  have HC : Hid (Calls Tryd.prog 69 #[.slice A1 (digs m).length c1, .slice A2 (digs n).length c2] w fun e w' => e = .returned (.int .i64 (-1)) ∧ ∃ q, w' = w.drewN q) := (compare_any w h1 h2 hm).mono fun e w' ⟨he, hq⟩ => ⟨by rw [he, cmpV_lt hlt], hq⟩
  have HCL := Lib.hid (fun q => clone_any (w.drewN q) (h1.drewN q) hm)
  have hq0 : m / n = 0 := Nat.div_eq_of_lt hlt
  have hr0 : m % n = m := Nat.mod_eq_of_lt hlt
  have HRET : Hid (∀ (w1 : World) (A : Option Addr) (c q : Nat), NewD (w.drewN q) w1 A c (digs m) → Below (w.drewN q).heap.size (w.drewN q) w1 → DivRet w (m / n) (m % n) (.returned (.tuple #[.slice none 0 0, .slice A (digs m).length c])) w1) := fun w1 A c q hn hb => by
    unfold DivRet
    rw [hq0, hr0, digs_zero]
    exact ⟨none, A, 0, c, rfl, Rd.nil _ _, hn.rd, (fun a ha => by cases ha), hn.fresh, ⟨hb.os, hb.tape, hb.output, hb.size, hb.block⟩⟩
  clear h1 h2 hq0 hr0 hlt
  generalize (digs m).length = a at *
  generalize (digs n).length = b at *
  go_enter Tryd.func70, Tryd.ntmps70
  go_wp2_with (go_at_call 69; fail)
  refine HC.out.mono ?_
  rintro e w' ⟨rfl, q, rfl⟩
  go_wp2_with (go_at_call 61; fail)
  refine (HCL.out q).mono ?_
  rintro e w1 ⟨A, c, rfl, hn, hb⟩
  have HR := Lib.hid (HRET.out w1 A c q hn hb)
  clear hn hb
  go_wp2
  go_ret2
  exact HR.out

set_option maxHeartbeats 1600000 in
set_option maxRecDepth 1000000 in
theorem divide_two {B m n c1 c2 : Nat} {A1 A2 : Option Addr} (w : World) (h1 : Rd w B A1 c1 (digs m)) (h2 : Rd w B A2 c2 (digs n)) (hm : (digs m).length ≤ 2) (hn : 0 < n) (hle : n ≤ m) :
    Calls Tryd.prog 70 #[.slice A1 (digs m).length c1, .slice A2 (digs n).length c2] w (DivRet w (m / n) (m % n)) := by
  have hnl := digs_len_mono hle
  have hm2 : m < 4294967296 ^ 2 := Nat.lt_of_lt_of_le (lt_digs m) (Nat.pow_le_pow_right (by omega) hm)
  have HC : Hid (Calls Tryd.prog 69 #[.slice A1 (digs m).length c1, .slice A2 (digs n).length c2] w fun e w' => ∃ k : Int, e = .returned (.int .i64 k) ∧ 0 ≤ k ∧ ∃ q, w' = w.drewN q) := (compare_any w h1 h2 (by omega)).mono fun e w' ⟨he, hq⟩ => ⟨cmpV m n, he, by unfold cmpV; split <;> (try split) <;> omega, hq⟩
  have HT1 := Lib.hid (fun q => toWord_any (w.drewN q) (h1.drewN q) hm)
  have HT2 := Lib.hid (fun q => toWord_any (w.drewN q) (h2.drewN q) (by omega))
  have hdl : m / n ≤ m := Nat.div_le_self _ _
  have hml : m % n < n := Nat.mod_lt _ hn
  have HF1 := Lib.hid (fun W => fromWord_any (x := m / n) W (by omega))
  have HF2 := Lib.hid (fun W => fromWord_any (x := m % n) W (by omega))
  have e1 : (m : Int) / (n : Int) = ((m / n : Nat) : Int) := by omega
  have e2 : (m : Int) % (n : Int) = ((m % n : Nat) : Int) := by omega
  have HDV : Hid ((m : Int) / (n : Int) = ((m / n : Nat) : Int) ∧ (m : Int) % (n : Int) = ((m % n : Nat) : Int) ∧ (m : Int).tdiv (n : Int) = ((m / n : Nat) : Int) ∧ (m : Int).tmod (n : Int) = ((m % n : Nat) : Int) ∧ IntKind.u64.wrap ((m / n : Nat) : Int) = ((m / n : Nat) : Int) ∧ IntKind.u64.wrap ((m % n : Nat) : Int) = ((m % n : Nat) : Int)) := ⟨e1, e2, rfl, rfl, IntWalk.u64_in _ ⟨Int.natCast_nonneg _, by omega⟩, IntWalk.u64_in _ ⟨Int.natCast_nonneg _, by omega⟩⟩
  clear e1 e2
  have hb2 : ((digs m).length : Int) ≤ 2 := by omega
  have hn0 : ((n : Int) == 0) = false := by rw [beq_eq_false_iff_ne]; omega
  have hn1 : (0 : Int) < (n : Int) := by omega
  have HML := Lib.hid hm2
  clear h1 h2 hm2 hdl hml hnl hle hn hm
  generalize m / n = Q at *
  generalize m % n = R at *
  generalize (digs m).length = a at *
  generalize (digs n).length = b at *
  go_enter Tryd.func70, Tryd.ntmps70
  go_wp2_with (go_at_call 69; fail)
  refine HC.out.mono ?_
  rintro e w' ⟨k, rfl, hk, q, rfl⟩
  have hk2 : decide (k < 0) = false := decide_eq_false (by omega)
  clear hk
  go_wp2_with (go_at_call 56; fail)
  refine (HT1.out q).mono ?_
  rintro e w' ⟨rfl, q1, rfl⟩
  go_wp2_with (go_at_call 56; fail)
  refine (HT2.out _).mono ?_
  rintro e w' ⟨rfl, q2, rfl⟩
  go_wp2_with fail
  obtain ⟨hdv1, hdv2, hdv3, hdv4, hdv5, hdv6⟩ := HDV.out
  go_region_with ((first
      | (go_at_call 58; ((with_reducible refine (HF1.out _).mono ?_); rintro e w1 ⟨A, c, rfl, hr1, hf1, hb1⟩; have HR1 := Lib.hid hr1; have HFR1 : Hid (∀ a, A = some a → w.heap.size ≤ a.block) := hf1; have HB1 : Hid (Below w.heap.size w w1) := ⟨hb1.os, hb1.tape, hb1.output, hb1.size, hb1.block⟩; clear hr1 hf1 hb1))
      | (go_at_call 58; ((with_reducible refine (HF2.out _).mono ?_); rintro e w2 ⟨A2, c2, rfl, hr2, hf2, hb2⟩; have HR2 := Lib.hid hr2; have HFR2 := Lib.hid hf2; have HB2 := Lib.hid hb2; clear hr2 hf2 hb2))
      | fail))
  all_goals
    go_wp2
    go_ret2
    exact ⟨A, A2, c, c2, rfl, (HR1.out.below HB2.out).mono HB2.out.size, HR2.out, HFR1.out, fun a ha => Nat.le_trans HB1.out.size (HFR2.out a ha), HB1.out.trans (HB2.out.mono HB1.out.size)⟩

/-- divide, where the dividend has at most two digits. -/
theorem divide_small {B m n c1 c2 : Nat} {A1 A2 : Option Addr} (w : World) (h1 : Rd w B A1 c1 (digs m)) (h2 : Rd w B A2 c2 (digs n)) (hm : (digs m).length ≤ 2) (hn : 0 < n) :
    Calls Tryd.prog 70 #[.slice A1 (digs m).length c1, .slice A2 (digs n).length c2] w (DivRet w (m / n) (m % n)) := by
  rcases Nat.lt_or_ge m n with h | h
  · exact divide_lt w h1 h2 (by omega) h
  · exact divide_two w h1 h2 hm hn h
end Go.Proofs.YtbijjiadokgmoaaDoor
