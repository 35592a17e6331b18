/- The contract of divideByDigit. -/
import Derived.Test.YtbijjiadokgmoaaDoorWords
namespace Go.Proofs.YtbijjiadokgmoaaDoor
open Go.RowKit

/-- Division by a digit, from the highest digit down: those from k on are done, r remains. -/
structure Divd (z : List Nat) (d : Nat) (zi : List Nat) (k r : Nat) : Prop where
  len : zi.length = z.length
  dgs : Dgs zi
  low : zi.take k = z.take k
  small : r < d
  eq : val (z.drop k) = d * val (zi.drop k) + r
theorem Divd.start {z : List Nat} {d : Nat} (h : Dgs z) (hd : 0 < d) : Divd z d z z.length 0 := ⟨rfl, h, rfl, hd, by simp [val]⟩
theorem Divd.get {z zi : List Nat} {d k r : Nat} (h : Divd z d zi (k + 1) r) (hk : k < z.length) : zi[k]'(by rw [h.len]; exact hk) = z[k] := by
  have h1 := congrArg (fun l => l[k]?) h.low
  simp only [List.getElem?_take] at h1
  rw [if_pos (by omega), if_pos (by omega), List.getElem?_eq_getElem hk, List.getElem?_eq_getElem (by rw [h.len]; exact hk)] at h1
  injection h1
theorem Divd.lt {z zi : List Nat} {d k r x : Nat} (h : Divd z d zi (k + 1) r) (hx : x < 4294967296) : 4294967296 * r + x < d * 4294967296 := by
  have := h.small
  omega
theorem div_digit_eq {zd zi d r x q r' : Nat} (h : zd = d * zi + r) (hw : 4294967296 * r + x = d * q + r') : x + 4294967296 * zd = d * (q + 4294967296 * zi) + r' := by
  subst h
  rw [Nat.mul_add, Nat.mul_add d, Nat.mul_left_comm d]
  omega
theorem Divd.step {z zi : List Nat} {d k r q r' : Nat} (h : Divd z d zi (k + 1) r) (hk : k < z.length) (hq : q < 4294967296) (hr : r' < d) (hw : 4294967296 * r + z[k] = d * q + r') : Divd z d (zi.set k q) k r' := by
  have hk2 : k < zi.length := by rw [h.len]; exact hk
  refine ⟨by rw [List.length_set, h.len], fun x hx => ?_, ?_, hr, ?_⟩
  · rcases List.mem_or_eq_of_mem_set hx with h1 | h1
    · exact h.dgs x h1
    · rw [h1]; exact hq
  · rw [List.take_set_of_le (by omega)]
    have := congrArg (List.take k) h.low
    rwa [List.take_take, List.take_take, Nat.min_eq_left (by omega)] at this
  · rw [val_drop hk, val_drop (l := zi.set k q) (by rw [List.length_set]; exact hk2), List.getElem_set_self, List.drop_set_of_lt (by omega)]
    exact div_digit_eq h.eq hw
theorem Divd.done {z zi : List Nat} {d r : Nat} (h : Divd z d zi 0 r) : val zi = val z / d ∧ r = val z % d := by
  have e := h.eq
  rw [List.drop_zero, List.drop_zero] at e
  have hd := h.small
  rw [e]
  constructor
  · rw [Nat.mul_add_div (by omega), Nat.div_eq_of_lt hd, Nat.add_zero]
  · rw [Nat.mul_add_mod, Nat.mod_eq_of_lt hd]
/-- What divideByDigit leaves. -/
def DigRet (w : World) (g o d : Nat) (zs : List Nat) (e : Ending) (w' : World) : Prop :=
  ∃ zi : List Nat, e = .returned (.int .u32 ((val zs % d : Nat) : Int)) ∧ zi.length = zs.length ∧ val zi = val zs / d ∧ Own w' g o zi ∧ Wrote w w' g o (o + zs.length)

set_option maxHeartbeats 1600000 in
set_option maxRecDepth 1000000 in
theorem divDig_any {g o d c1 : Nat} {zs : List Nat} (w : World) (hz : Own w g o zs) (hn : zs.length ≤ 1000000) (hd0 : 0 < d) (hd : d < 4294967296) :
    Calls Tryd.prog 92 #[.slice (some ⟨g, o, none⟩) zs.length c1, .int .u32 d] w (DigRet w g o d zs) := by
  have hni : (zs.length : Int) ≤ 1000000 := by omega
  have hdb : ((d : Int) == 0) = false := by rw [beq_eq_false_iff_ne]; omega
  have hdi : (0 : Int) < (d : Int) := by omega
  have HZ := Lib.hid hz
  clear hz
  go_enter Tryd.func92, Tryd.ntmps92
  go_wp2
  go_loopw [5, 6, 7] (fun R I _ wr => ∃ (k r : Nat) (z : Int) (zi : List Nat), I = .int .i64 z ∧ z = (k : Int) - 1 ∧ R = .int .u64 r ∧ k ≤ zs.length ∧ r < d ∧ Hid (Divd zs d zi k r) ∧ Hid (Own wr g o zi) ∧ Hid (Wrote w wr g o (o + zs.length))) (fun _ I _ _ => (intOf I + 1).toNat)
  case atStart => exact ⟨zs.length, 0, _, zs, rfl, rfl, rfl, Nat.le_refl _, hd0, Divd.start HZ.out.dgs hd0, HZ.out, Wrote.refl _ _ _ _⟩
  case round =>
    obtain ⟨k, r, z, zi, rfl, hz, rfl, hk, hr, HA, HO, HW⟩ := hrel
    cases k with
    | zero =>
      obtain rfl : z = -1 := by omega
      have HV : Hid (val zi = val zs / d ∧ r = val zs % d) := HA.out.done
      have HL := Lib.hid HA.out.len
      have hr2 : IntKind.u32.wrap (r : Int) = (r : Int) := by rw [IntKind.wrap_u32]; omega
      clear hz
      go_wp2
      go_ret
      exact ⟨zi, by rw [← HV.out.2]; rfl, HL.out, HV.out.1, HO.out, HW.out⟩
    | succ k =>
      obtain rfl : z = (k : Int) := by omega
      have hkl : k < zs.length := by omega
      have hki : (k : Int) < (zs.length : Int) := by omega
      have hzl := HA.out.len
      have hkz : k < zi.length := by omega
      have hcz := HO.out.cell hkz
      have hfz := HO.out.free (o + k)
      have hd1 := HO.out.dgs.get hkz
      have HG := Lib.hid (HA.out.get hkl)
      have hlt := HA.out.lt hd1
      have HST : Hid (∀ q r' : Nat, q < 4294967296 → r' < d → 4294967296 * r + zi[k] = d * q + r' → Divd zs d (zi.set k q) k r') := fun q r' hq hr' hw =>
        HA.out.step hkl hq hr' (by rw [← HG.out]; exact hw)
      have HOS : Hid (∀ s : Nat, s < 4294967296 → Own (wr.setCell ⟨g, o + k, none⟩ (.int .u32 (s : Int))) g o (zi.set k s)) := fun s hs => HO.out.setCell hkz hs
      have HWS : Hid (∀ u : Value, Wrote w (wr.setCell ⟨g, o + k, none⟩ u) g o (o + zs.length)) := fun u => HW.out.setCell (by omega) (by omega) u
      clear HG hz
      generalize zi[k] = x at *
      have hor : bits BinOp.or IntKind.u64 ((r : Int) * 4294967296) (x : Int) = ((4294967296 * r + x : Nat) : Int) := by
        rw [show ((r : Int) * 4294967296) = ((r * 4294967296 : Nat) : Int) by omega, u64_or_nat _ _ (by omega) (by omega), show (4294967296 : Nat) = 2 ^ 32 by rfl, ← Nat.shiftLeft_eq, ← Nat.shiftLeft_add_eq_or_of_lt (by omega), Nat.shiftLeft_eq, Nat.mul_comm]
      have hq : (4294967296 * r + x) / d < 4294967296 := Nat.div_lt_of_lt_mul hlt
      have hrm : (4294967296 * r + x) % d < d := Nat.mod_lt _ hd0
      have hdm := (Nat.div_add_mod (4294967296 * r + x) d).symm
      have HF := Lib.hid (HST.out _ _ hq hrm hdm)
      have e1 : ((4294967296 * r + x : Nat) : Int) / (d : Int) = (((4294967296 * r + x) / d : Nat) : Int) := by omega
      have e2 : ((4294967296 * r + x : Nat) : Int) % (d : Int) = (((4294967296 * r + x) % d : Nat) : Int) := by omega
      have HOS2 := Lib.hid (HOS.out _ hq)
      have e4 : ((4294967296 * r + x : Nat) : Int).tdiv (d : Int) = (((4294967296 * r + x) / d : Nat) : Int) := rfl
      have e5 : ((4294967296 * r + x : Nat) : Int).tmod (d : Int) = (((4294967296 * r + x) % d : Nat) : Int) := rfl
      clear hdm hlt HST HOS
      generalize (4294967296 * r + x) / d = q at *
      generalize (4294967296 * r + x) % d = r' at *
      generalize 4294967296 * r + x = W at *
      have e3 : IntKind.u32.wrap (q : Int) = (q : Int) := by rw [IntKind.wrap_u32]; omega
      go_wp2
      go_roundw
      case rel => exact ⟨k, r', _, zi.set k q, rfl, rfl, rfl, by omega, hrm, HF.out, HOS2.out, HWS.out _⟩
      case measure => simp [intOf]
end Go.Proofs.YtbijjiadokgmoaaDoor
