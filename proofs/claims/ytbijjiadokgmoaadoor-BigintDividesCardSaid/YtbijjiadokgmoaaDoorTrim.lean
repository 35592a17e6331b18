/- Contracts of trim and compare. -/
import Derived.Test.YtbijjiadokgmoaaDoorMem
import Derived.Deep.QuietTactic
import Derived.BigQuiet
import Derived.Lib.Hide
import Derived.IntWalk
namespace Go.Proofs.YtbijjiadokgmoaaDoor
open Go.RowKit

set_option maxHeartbeats 800000 in
set_option maxRecDepth 1000000 in
theorem trim_any {B c : Nat} {A : Option Addr} {ds : List Nat} (w : World) (h : Rd w B A c ds) (hn : ds.length ≤ 1000000) :
    Calls Tryd.prog 55 #[.slice A ds.length c] w fun e w' => e = .returned (.slice A (digs (val ds)).length c) ∧ w = w' := by
  have hlc := h.2.1
  have hcm := h.2.2.1
  unfold maxLen at hcm
  have hni : (ds.length : Int) ≤ 1000000 := by omega
  have HR := Lib.hid h
  clear h
  go_enter Tryd.func55, Tryd.ntmps55
  go_wp2
  go_loop [3] (fun I => ∃ k : Nat, I = .int .i64 k ∧ k ≤ ds.length ∧ Hid (∀ j (_ : j < ds.length), k ≤ j → ds[j] = 0)) (fun I => (intOf I).toNat)
  case atStart => exact ⟨ds.length, rfl, Nat.le_refl _, fun j hj hk => absurd hj (by omega)⟩
  case round =>
    obtain ⟨k, rfl, hk, HZ⟩ := hrel
    cases k with
    | zero =>
      have HE : Hid ((digs (val ds)).length = 0) := by
        have := take_trim HR.out.dgs (Nat.zero_le _) (fun j hj _ => HZ.out j hj (Nat.zero_le _)) (fun j _ hj => absurd hj (by omega))
        rw [List.take_zero] at this
        show _ = _
        rw [← this]; rfl
      go_wp2
      go_ret
      exact ⟨by rw [HE.out]; rfl, rfl⟩
    | succ k =>
      obtain ⟨b, o, rfl, hb, hc⟩ := HR.out.at_ (k := k) (by omega)
      by_cases hz : ds[k] = 0
      · have hz2 : ((ds[k] : Int) == 0) = true := by rw [hz]; rfl
        have HZ2 : Hid (∀ j (_ : j < ds.length), k ≤ j → ds[j] = 0) := fun j hj hkj => by
          rcases Nat.eq_or_lt_of_le hkj with e | e
          · subst e; exact hz
          · exact HZ.out j hj (by omega)
        clear hz
        generalize ds[k] = d at *
        go_wp2
        go_round
        case rel => exact ⟨k, by go_num, by omega, HZ2⟩
        case measure => simp [intOf]
      · have hz2 : ((ds[k] : Int) == 0) = false := by rw [beq_eq_false_iff_ne]; omega
        have HE : Hid ((digs (val ds)).length = k + 1) := by
          have hz3 : ∀ j (hj : j < ds.length), j + 1 = k + 1 → ds[j] ≠ 0 := by
            intro j hj hjk
            obtain rfl : j = k := by omega
            exact hz
          have := take_trim HR.out.dgs hk (fun j hj hkj => HZ.out j hj hkj) hz3
          show _ = _
          rw [← this, List.length_take]; omega
        clear hz
        generalize ds[k] = d at *
        go_wp2
        go_ret
        exact ⟨by rw [HE.out]; rfl, rfl⟩

/-- The order of two numbers. -/
def cmpV (x y : Nat) : Int := if x < y then -1 else if y < x then 1 else 0
theorem cmpV_lt {x y : Nat} (h : x < y) : cmpV x y = -1 := by unfold cmpV; rw [if_pos h]
theorem cmpV_gt {x y : Nat} (h : y < x) : cmpV x y = 1 := by unfold cmpV; rw [if_neg (by omega), if_pos h]
theorem cmpV_eq (x : Nat) : cmpV x x = 0 := by unfold cmpV; simp

set_option maxHeartbeats 1600000 in
set_option maxRecDepth 1000000 in
theorem compare_len {m n c1 c2 : Nat} {A1 A2 : Option Addr} (w : World) (hne : (digs m).length ≠ (digs n).length) :
    Calls Tryd.prog 69 #[.slice A1 (digs m).length c1, .slice A2 (digs n).length c2] w fun e w' => e = .returned (.int .i64 (cmpV m n)) ∧ w = w' := by
  rcases Nat.lt_or_ge (digs m).length (digs n).length with h | h
  · have HE := Lib.hid (cmpV_lt (digs_len_lt h))
    generalize (digs m).length = a at *
    generalize (digs n).length = b at *
    go_enter Tryd.func69, Tryd.ntmps69
    go_wp2
    go_ret
    exact ⟨by rw [HE.out]; rfl, rfl⟩
  · have h2 : (digs n).length < (digs m).length := by omega
    have HE := Lib.hid (cmpV_gt (digs_len_lt h2))
    generalize (digs m).length = a at *
    generalize (digs n).length = b at *
    have h3 : ¬ (a : Int) < (b : Int) := by omega
    go_enter Tryd.func69, Tryd.ntmps69
    go_wp2
    go_ret
    exact ⟨by rw [HE.out]; rfl, rfl⟩
set_option maxHeartbeats 1600000 in
set_option maxRecDepth 1000000 in
theorem compare_same {B m n c1 c2 : Nat} {A1 A2 : Option Addr} (w : World) (h1 : Rd w B A1 c1 (digs m)) (h2 : Rd w B A2 c2 (digs n)) (hm : (digs m).length ≤ 1000000) (he : (digs m).length = (digs n).length) :
    Calls Tryd.prog 69 #[.slice A1 (digs m).length c1, .slice A2 (digs n).length c2] w fun e w' => e = .returned (.int .i64 (cmpV m n)) ∧ ∃ q, w' = w.drewN q := by
  have hl1 := h1.2.1
  have hl2 := h2.2.1
  have HV : Hid (∀ k (_ : k < (digs m).length) (_ : k < (digs n).length), (digs m).drop (k + 1) = (digs n).drop (k + 1) → ((digs m)[k] < (digs n)[k] → cmpV m n = -1) ∧ ((digs n)[k] < (digs m)[k] → cmpV m n = 1)) := fun k hk1 hk2 hd => by
    constructor
    · intro hlt
      have := val_lt_of (dgs_digs m) he hk1 hk2 hlt hd
      rw [val_digs, val_digs] at this
      exact cmpV_lt this
    · intro hlt
      have := val_lt_of (dgs_digs n) he.symm hk2 hk1 hlt hd.symm
      rw [val_digs, val_digs] at this
      exact cmpV_gt this
  have HQ : Hid ((digs m).drop 0 = (digs n).drop 0 → cmpV m n = 0) := fun h => by
    rw [List.drop_zero, List.drop_zero] at h
    rw [digs_inj h]; exact cmpV_eq n
  have HR1 := Lib.hid h1
  have HR2 := Lib.hid h2
  clear h1 h2
  generalize digs m = X at *
  generalize digs n = Y at *
  have HE := Lib.hid he
  rw [← he] at hl2 ⊢
  have hb1 : ¬ (X.length : Int) < (X.length : Int) := by omega
  clear he
  go_enter Tryd.func69, Tryd.ntmps69
  go_wp2
  go_loopw [5, 25, 35] (fun I _ _ wr => ∃ (k q : Nat) (z : Int), I = .int .i64 z ∧ z = (k : Int) - 1 ∧ k ≤ X.length ∧ Hid (X.drop k = Y.drop k) ∧ wr = w.drewN q) (fun I _ _ _ => (intOf I + 1).toNat)
  case atStart => exact ⟨X.length, 0, _, rfl, rfl, Nat.le_refl _, by show _ = _; rw [List.drop_length, HE.out, List.drop_length], rfl⟩
  case round =>
    obtain ⟨k, q, z, rfl, hz, hk, HDR, rfl⟩ := hrel
    cases k with
    | zero =>
      obtain rfl : z = -1 := by omega
      have HR := Lib.hid (HQ.out HDR.out)
      clear hz
      go_wp2
      go_ret
      exact ⟨by rw [HR.out]; rfl, q, rfl⟩
    | succ k =>
      obtain rfl : z = (k : Int) := by omega
      have hkx : k < X.length := by omega
      have hky : k < Y.length := by have := HE.out; omega
      have hkxi : (k : Int) < (X.length : Int) := by omega
      obtain ⟨b1, o1, rfl, _, hc1⟩ := HR1.out.at_ hkx
      obtain ⟨b2, o2, rfl, _, hc2⟩ := HR2.out.at_ hky
      have c1 := fun N => (show (w.drewN N).cell? ⟨b1, o1 + k, none⟩ = _ from hc1)
      have c2 := fun N => (show (w.drewN N).cell? ⟨b2, o2 + k, none⟩ = _ from hc2)
      have HVK := Lib.hid (HV.out k hkx hky HDR.out)
      have HDN : Hid (X[k] = Y[k] → X.drop k = Y.drop k) := fun he => by
        rw [← List.getElem_cons_drop hkx, ← List.getElem_cons_drop hky, he, HDR.out]
      have hd1 := (HR1.out.dgs).get hkx
      have hd2 := (HR2.out.dgs).get hky
      clear hz hc1 hc2
      generalize X[k] = x at *
      generalize Y[k] = y at *
      rcases Nat.lt_trichotomy x y with hlt | heq | hgt
      · have HR := Lib.hid (HVK.out.1 hlt)
        have hb2 : decide (x < y) = true := decide_eq_true (by omega)
        clear hlt
        go_wp2
        go_quiet (fail)
        go_wp2
        go_ret
        exact ⟨by rw [HR.out]; rfl, _, by first | exact World.drewN_drewN _ _ _ | (rw [World.drewN_drewN, World.drewN_drewN])⟩
      · have HR := Lib.hid (HDN.out heq)
        subst heq
        have hb2 : decide (x < x) = false := decide_eq_false (by omega)
        go_wp2
        go_quiet (fail)
        go_wp2
        go_quiet (fail)
        go_wp2
        go_roundw
        case rel => exact ⟨k, _, _, rfl, by omega, by omega, HR.out, by first | rfl | exact World.drewN_drewN _ _ _⟩
        case measure => simp [intOf]
      · have HR := Lib.hid (HVK.out.2 hgt)
        have hb2 : decide (x < y) = false := decide_eq_false (by omega)
        have hb3 : decide (y < x) = true := decide_eq_true (by omega)
        clear hgt
        go_wp2
        go_quiet (fail)
        go_wp2
        go_quiet (fail)
        go_wp2
        go_ret
        exact ⟨by rw [HR.out]; rfl, _, by first | exact World.drewN_drewN _ _ _ | (rw [World.drewN_drewN, World.drewN_drewN])⟩
theorem compare_any {B m n c1 c2 : Nat} {A1 A2 : Option Addr} (w : World) (h1 : Rd w B A1 c1 (digs m)) (h2 : Rd w B A2 c2 (digs n)) (hm : (digs m).length ≤ 1000000) :
    Calls Tryd.prog 69 #[.slice A1 (digs m).length c1, .slice A2 (digs n).length c2] w fun e w' => e = .returned (.int .i64 (cmpV m n)) ∧ ∃ q, w' = w.drewN q := by
  by_cases he : (digs m).length = (digs n).length
  · exact compare_same w h1 h2 hm he
  · exact (compare_len w he).mono fun e w' ⟨h, hw⟩ => ⟨h, 0, hw.symm⟩
end Go.Proofs.YtbijjiadokgmoaaDoor
