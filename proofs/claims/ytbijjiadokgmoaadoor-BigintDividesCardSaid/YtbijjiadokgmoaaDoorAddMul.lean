/- The contract of addMultiple. -/
import Derived.Test.YtbijjiadokgmoaaDoorTrim
namespace Go.Proofs.YtbijjiadokgmoaaDoor
open Go.RowKit

/-- What addMultiple leaves. -/
def MultRet (w : World) (g o d : Nat) (zs xs : List Nat) (e : Ending) (w' : World) : Prop :=
  ∃ (c : Nat) (zi : List Nat), e = .returned (.int .u32 (c : Int)) ∧ c < 4294967296 ∧ zi.length = zs.length ∧ val zi + 4294967296 ^ zs.length * c = val zs + d * val xs ∧ Own w' g o zi ∧ Wrote w w' g o (o + zs.length)

theorem u64_mul {x d : Nat} (hx : x < 4294967296) (hd : d < 4294967296) : IntKind.u64.wrap ((x : Int) * (d : Int)) = ((x * d : Nat) : Int) := by
  have h : x * d ≤ 4294967295 * 4294967295 := Nat.mul_le_mul (by omega) (by omega)
  rw [← Int.natCast_mul]
  exact IntWalk.u64_in _ (by omega)

set_option maxHeartbeats 1600000 in
set_option maxRecDepth 1000000 in
theorem addMul_any {B g o d c1 c2 : Nat} {A2 : Option Addr} {zs xs : List Nat} (w : World) (hz : Own w g o zs) (hx : Rd w B A2 c2 xs) (hB : B ≤ g) (hlen : xs.length = zs.length) (hn : zs.length ≤ 1000000) (hd : d < 4294967296) :
    Calls Tryd.prog 111 #[.slice (some ⟨g, o, none⟩) zs.length c1, .slice A2 xs.length c2, .int .u32 d] w (MultRet w g o d zs xs) := by
  have hgw := hz.lt
  have hl2 := hx.2.1
  have HZ := Lib.hid hz
  have HX := Lib.hid hx
  have HL := Lib.hid hlen
  have hlen2 : xs.length ≤ zs.length := by omega
  clear hz hx hlen
  go_enter Tryd.func111, Tryd.ntmps111
  go_wp2
  go_loopw [7, 8, 9, 10, 13] (fun C _ _ _ I wr => ∃ (k c : Nat) (zi : List Nat), I = .int .i64 k ∧ C = .int .u64 c ∧ k ≤ xs.length ∧ c < 4294967296 ∧ Hid (Mults zs xs d zi k c) ∧ Hid (Own wr g o zi) ∧ Hid (Wrote w wr g o (o + zs.length))) (fun _ _ _ _ I _ => xs.length - (intOf I).toNat)
  case atStart => exact ⟨0, 0, zs, rfl, rfl, Nat.zero_le _, by omega, Mults.start xs d HZ.out.dgs, HZ.out, Wrote.refl _ _ _ _⟩
  case round =>
    obtain ⟨k, c, zi, rfl, rfl, hk, hc, HA, HO, HW⟩ := hrel
    by_cases hlt : k < xs.length
    · have hlti : (k : Int) < (xs.length : Int) := by omega
      have hzl := HA.out.up.len
      have hkz : k < zi.length := by omega
      have hkzi : (k : Int) < (zs.length : Int) := by omega
      have HX2 := Lib.hid (HX.out.wrote HW.out hB (by omega))
      obtain ⟨b, p, rfl, _, hcy⟩ := HX2.out.at_ hlt
      have hcz := HO.out.cell hkz
      have hfz := HO.out.free (o + k)
      have hd1 := HO.out.dgs.get hkz
      have hd2 := HX2.out.dgs.get hlt
      have HG := Lib.hid (HA.out.up.get (i := k) (by omega))
      have HGY : Hid (xs.getD k 0 = xs[k]) := by show _ = _; rw [List.getD_eq_getElem?_getD, List.getElem?_eq_getElem hlt]; rfl
      have HST : Hid (∀ s e : Nat, s < 4294967296 → e < 4294967296 → xs[k] * d + zi[k] + c = s + 4294967296 * e → Mults zs xs d (zi.set k s) (k + 1) e) := fun s e hs he hq =>
        HA.out.step (by omega) hs he (by rw [← HG.out, HGY.out, Nat.mul_comm]; exact hq)
      have HOS : Hid (∀ s : Nat, s < 4294967296 → Own (wr.setCell ⟨g, o + k, none⟩ (.int .u32 (s : Int))) g o (zi.set k s)) := fun s hs => HO.out.setCell hkz hs
      have HWS : Hid (∀ u : Value, Wrote w (wr.setCell ⟨g, o + k, none⟩ u) g o (o + zs.length)) := fun u => HW.out.setCell (by omega) (by omega) u
      have hlt1 : xs[k] * d ≤ 4294967295 * 4294967295 := Nat.mul_le_mul (by omega) (by omega)
      clear HG HGY
      generalize zi[k] = z at *
      generalize xs[k] = x at *
      have e1 : IntKind.u64.wrap ((x : Int) * (d : Int)) = ((x * d : Nat) : Int) := u64_mul hd2 hd
      have e2 : IntKind.u64.wrap (((x * d : Nat) : Int) + (z : Int)) = ((x * d + z : Nat) : Int) := by rw [← Int.natCast_add]; exact IntWalk.u64_in _ (by omega)
      have e3 : IntKind.u64.wrap (((x * d + z : Nat) : Int) + (c : Int)) = ((x * d + z + c : Nat) : Int) := by rw [← Int.natCast_add]; exact IntWalk.u64_in _ (by omega)
      have hq : x * d + z + c = (x * d + z + c) % 4294967296 + 4294967296 * ((x * d + z + c) / 4294967296) := (Nat.mod_add_div _ _).symm
      have hs : (x * d + z + c) % 4294967296 < 4294967296 := Nat.mod_lt _ (by omega)
      have hdv : (x * d + z + c) / 4294967296 < 4294967296 := by omega
      have HF := Lib.hid (HST.out _ _ hs hdv hq)
      generalize x * d = p at *
      go_wp2
      go_roundw
      case rel => exact ⟨k + 1, (p + z + c) / 4294967296, zi.set k ((p + z + c) % 4294967296), by go_num, rfl, hlt, hdv, HF.out, HOS.out _ hs, HWS.out _⟩
      case measure => simp [intOf]; omega
    · have hn1 : ¬ (k : Int) < (xs.length : Int) := by omega
      have hkx : k = xs.length := by omega
      have HV : Hid (val zi + 4294967296 ^ zs.length * c = val zs + d * val xs) := by
        have := HA.out
        rw [hkx, HL.out] at this
        exact this.done hlen2
      have HLN := Lib.hid HA.out.up.len
      clear hkx
      go_wp2
      go_ret
      exact ⟨c, zi, rfl, hc, HLN.out, HV.out, HO.out, HW.out⟩
end Go.Proofs.YtbijjiadokgmoaaDoor
