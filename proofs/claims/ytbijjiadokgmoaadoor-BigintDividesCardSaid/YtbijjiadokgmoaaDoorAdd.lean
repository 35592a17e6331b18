/- Contracts of sums in place. -/
import Derived.Test.YtbijjiadokgmoaaDoorTrim
namespace Go.Proofs.YtbijjiadokgmoaaDoor
open Go.RowKit

theorem ret2_u32 {a b c d : Int} (h : a = c) (k : b = d) : Ending.returned (.tuple #[.int .u32 a, .int .u32 b]) = .returned (.tuple #[.int .u32 c, .int .u32 d]) := by rw [h, k]
set_option maxHeartbeats 400000 in
theorem add32_any (x y c : Nat) (w : World) (hx : x < 4294967296) (hy : y < 4294967296) (hc : c ≤ 1) :
    Calls Tryd.prog 112 #[.int .u32 x, .int .u32 y, .int .u32 c] w fun e w' => e = .returned (.tuple #[.int .u32 (((x + y + c) % 4294967296 : Nat) : Int), .int .u32 (((x + y + c) / 4294967296 : Nat) : Int)]) ∧ w = w' := by
  have h1 : (x : Int) ≤ 4294967295 := by omega
  have h2 : (y : Int) ≤ 4294967295 := by omega
  have h3 : (c : Int) ≤ 1 := by omega
  go_enter Tryd.func112, Tryd.ntmps112
  go_wp2
  go_ret2
  refine ⟨ret2_u32 ?_ ?_, rfl⟩
  · omega
  · omega

/-- What addTo leaves. -/
def AddRet (w : World) (g o : Nat) (zs ys : List Nat) (e : Ending) (w' : World) : Prop :=
  ∃ (c : Nat) (zi : List Nat), e = .returned (.int .u32 (c : Int)) ∧ c ≤ 1 ∧ zi.length = zs.length ∧ val zi + 4294967296 ^ zs.length * c = val zs + val ys ∧ Own w' g o zi ∧ Wrote w w' g o (o + zs.length)

set_option maxHeartbeats 1600000 in
set_option maxRecDepth 1000000 in
theorem addTo_any {B g o c1 c2 : Nat} {A2 : Option Addr} {zs ys : List Nat} (w : World) (hz : Own w g o zs) (hy : Rd w B A2 c2 ys) (hB : B ≤ g) (hlen : ys.length ≤ zs.length) (hn : zs.length ≤ 1000000) :
    Calls Tryd.prog 90 #[.slice (some ⟨g, o, none⟩) zs.length c1, .slice A2 ys.length c2] w (AddRet w g o zs ys) := by
  have hgw := hz.lt
  have hl2 := hy.2.1
  have HZ := Lib.hid hz
  have HY := Lib.hid hy
  clear hz hy
  go_enter Tryd.func90, Tryd.ntmps90
  go_wp2
  go_loopw [5, 6, 7, 11] (fun C _ _ I wr => ∃ (k c : Nat) (zi : List Nat), I = .int .i64 k ∧ C = .int .u32 c ∧ k ≤ ys.length ∧ c ≤ 1 ∧ Hid (Adds zs ys zi k c) ∧ Hid (Own wr g o zi) ∧ Hid (Wrote w wr g o (o + zs.length))) (fun _ _ _ I _ => ys.length - (intOf I).toNat)
  case atStart => exact ⟨0, 0, zs, rfl, rfl, Nat.zero_le _, by omega, Adds.start ys HZ.out.dgs, HZ.out, Wrote.refl _ _ _ _⟩
  case round =>
    obtain ⟨k, c, zi, rfl, rfl, hk, hc, HA, HO, HW⟩ := hrel
    by_cases hlt : k < ys.length
    · have hlti : (k : Int) < (ys.length : Int) := by omega
      have hzl := HA.out.up.len
      have hkz : k < zi.length := by omega
      have hkzi : (k : Int) < (zs.length : Int) := by omega
      have HY2 := Lib.hid (HY.out.wrote HW.out hB (by omega))
      obtain ⟨b, p, rfl, _, hcy⟩ := HY2.out.at_ hlt
      have hcz := HO.out.cell hkz
      have hfz := HO.out.free (o + k)
      have hd1 := HO.out.dgs.get hkz
      have hd2 := HY2.out.dgs.get hlt
      have HG := Lib.hid (HA.out.up.get (i := k) (by omega))
      have HGY : Hid (ys.getD k 0 = ys[k]) := by show _ = _; rw [List.getD_eq_getElem?_getD, List.getElem?_eq_getElem hlt]; rfl
      have HST : Hid (∀ s e : Nat, s < 4294967296 → e ≤ 1 → zi[k] + ys[k] + c = s + 4294967296 * e → Adds zs ys (zi.set k s) (k + 1) e) := fun s e hs he hq =>
        HA.out.step (by omega) hs he (by rw [← HG.out, HGY.out]; exact hq)
      have HOS : Hid (∀ s : Nat, s < 4294967296 → Own (wr.setCell ⟨g, o + k, none⟩ (.int .u32 (s : Int))) g o (zi.set k s)) := fun s hs => HO.out.setCell hkz hs
      have HWS : Hid (∀ u : Value, Wrote w (wr.setCell ⟨g, o + k, none⟩ u) g o (o + zs.length)) := fun u => HW.out.setCell (by omega) (by omega) u
      clear HG HGY
      generalize zi[k] = x at *
      generalize ys[k] = y at *
      have HC := Lib.hid (fun W => add32_any x y c W hd1 hd2 hc)
      go_wp2_with (go_at_call 112; ((with_reducible refine (HC.out _).mono ?_); rintro e w' ⟨rfl, rfl⟩))
      go_roundw
      case rel => exact ⟨k + 1, (x + y + c) / 4294967296, zi.set k ((x + y + c) % 4294967296), by go_num, rfl, hlt, by omega, HST.out _ _ (Nat.mod_lt _ (by omega)) (by omega) (by omega), HOS.out ((x + y + c) % 4294967296) (Nat.mod_lt _ (by omega)), HWS.out _⟩
      case measure => simp [intOf]; omega
    · have hn1 : ¬ (k : Int) < (ys.length : Int) := by omega
      have hky : ys.length ≤ k := by omega
      have HW0 := Lib.hid HW.out
      have HA0 := Lib.hid HA.out
      have HO0 := Lib.hid HO.out
      obtain ⟨wm, hwm⟩ : ∃ wm : World, wm = wr := ⟨_, rfl⟩
      subst hwm
      go_wp2
      go_loopw [5, 8] (fun C I wi => ∃ (j c' : Nat) (zj : List Nat), I = .int .i64 j ∧ C = .int .u32 c' ∧ ys.length ≤ j ∧ j ≤ zs.length ∧ c' ≤ 1 ∧ Hid (Adds zs ys zj j c') ∧ Hid (Own wi g o zj) ∧ Hid (Wrote w wi g o (o + zs.length))) (fun _ I _ => zs.length - (intOf I).toNat)
      case atStart =>
        obtain rfl : k = ys.length := by omega
        exact ⟨ys.length, c, zi, rfl, rfl, Nat.le_refl _, hlen, hc, HA0.out, HO0.out, HW0.out⟩
      case round =>
        clear HA HO HW HA0 HO0 HW0
        obtain ⟨j, c', zj, rfl, rfl, hj1, hj2, hc', HA, HO, HW⟩ := hrel
        have HFIN : Hid (c' = 0 ∨ j = zs.length → val zj + 4294967296 ^ zs.length * c' = val zs + val ys) := fun h => HA.out.done hj2 hj1 h
        by_cases hlt : j < zs.length
        · have hlti : (j : Int) < (zs.length : Int) := by omega
          by_cases h0 : c' = 0
          · subst h0
            have HV := Lib.hid (HFIN.out (.inl rfl))
            go_wp2
            go_ret
            exact ⟨0, zj, rfl, by omega, HA.out.up.len, HV.out, HO.out, HW.out⟩
          · have hcb : ((c' : Int) != 0) = true := by rw [bne_iff_ne]; omega
            have hzl := HA.out.up.len
            have hkz : j < zj.length := by omega
            have hcz := HO.out.cell hkz
            have hfz := HO.out.free (o + j)
            have hd1 := HO.out.dgs.get hkz
            have HG := Lib.hid (HA.out.up.get (i := j) hlt)
            have HGY : Hid (ys.getD j 0 = 0) := by show _ = _; rw [List.getD_eq_getElem?_getD, List.getElem?_eq_none hj1]; rfl
            have HST : Hid (∀ s e : Nat, s < 4294967296 → e ≤ 1 → zj[j] + c' = s + 4294967296 * e → Adds zs ys (zj.set j s) (j + 1) e) := fun s e hs he hq =>
              HA.out.step hlt hs he (by rw [← HG.out, HGY.out]; omega)
            have HOS : Hid (∀ s : Nat, s < 4294967296 → Own (wr.setCell ⟨g, o + j, none⟩ (.int .u32 (s : Int))) g o (zj.set j s)) := fun s hs => HO.out.setCell hkz hs
            have HWS : Hid (∀ u : Value, Wrote w (wr.setCell ⟨g, o + j, none⟩ u) g o (o + zs.length)) := fun u => HW.out.setCell (by omega) (by omega) u
            clear HG HGY
            generalize zj[j] = x at *
            have HC : Hid (∀ W : World, Calls Tryd.prog 112 #[.int .u32 x, .int .u32 0, .int .u32 c'] W fun e w' => e = .returned (.tuple #[.int .u32 (((x + c') % 4294967296 : Nat) : Int), .int .u32 (((x + c') / 4294967296 : Nat) : Int)]) ∧ W = w') := fun W => add32_any x 0 c' W hd1 (by omega) hc'
            go_wp2_with (go_at_call 112; ((with_reducible refine (HC.out _).mono ?_); rintro e w' ⟨rfl, rfl⟩))
            go_roundw
            case rel => exact ⟨j + 1, (x + c') / 4294967296, zj.set j ((x + c') % 4294967296), by go_num, rfl, by omega, hlt, by omega, HST.out _ _ (Nat.mod_lt _ (by omega)) (by omega) (by omega), HOS.out ((x + c') % 4294967296) (Nat.mod_lt _ (by omega)), HWS.out _⟩
            case measure => simp [intOf]; omega
        · have hn2 : ¬ (j : Int) < (zs.length : Int) := by omega
          have hd : decide ((j : Int) < (zs.length : Int)) = false := decide_eq_false hn2
          have HV := Lib.hid (HFIN.out (.inr (by omega)))
          go_wp2
          go_ret
          exact ⟨c', zj, rfl, hc', HA.out.up.len, HV.out, HO.out, HW.out⟩
end Go.Proofs.YtbijjiadokgmoaaDoor
