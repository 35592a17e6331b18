/- Contracts of differences in place. -/
import Derived.Test.YtbijjiadokgmoaaDoorAdd
import Derived.Laws.BitsAllLaws
namespace Go.Proofs.YtbijjiadokgmoaaDoor
open Go.RowKit

theorem top_bit {x : Nat} (h : x < 4294967296) : x.testBit 31 = decide (2147483648 ≤ x) := by
  rw [Nat.testBit_eq_decide_div_mod_eq, decide_eq_decide]
  omega
theorem div_top {x : Nat} (h : x < 4294967296) : x / 2147483648 = if x.testBit 31 then 1 else 0 := by
  rw [top_bit h]
  by_cases h2 : 2147483648 ≤ x
  · simp [h2]; omega
  · simp [h2]; omega
def sbr (x y c : Nat) : Nat := if x < y + c then 1 else 0
theorem borrow_eq {x y c d : Nat} (hx : x < 4294967296) (hy : y < 4294967296) (hc : c ≤ 1) (hd : d = (x + 8589934592 - y - c) % 4294967296) :
    (((4294967295 ^^^ x) &&& y) ||| ((4294967295 ^^^ (x ^^^ y)) &&& d)) / 2147483648 = sbr x y c := by
  have hd2 : d < 4294967296 := by omega
  have h1 : ((4294967295 ^^^ x) &&& y) ||| ((4294967295 ^^^ (x ^^^ y)) &&& d) < 2 ^ 32 :=
    Nat.or_lt_two_pow (Nat.and_lt_two_pow _ (by omega)) (Nat.and_lt_two_pow _ (by omega))
  rw [div_top h1, Nat.testBit_or, Nat.testBit_and, Nat.testBit_and, Nat.testBit_xor, Nat.testBit_xor, Nat.testBit_xor, top_bit hx, top_bit hy, top_bit hd2]
  have h2 : Nat.testBit 4294967295 31 = true := by decide
  rw [h2]
  have e1 : sbr x y c = if ((!decide (2147483648 ≤ x)) && decide (2147483648 ≤ y)) || ((decide (2147483648 ≤ x) == decide (2147483648 ≤ y)) && decide (2147483648 ≤ d)) then 1 else 0 := by
    unfold sbr
    by_cases hx2 : 2147483648 ≤ x <;> by_cases hy2 : 2147483648 ≤ y <;> by_cases hd3 : 2147483648 ≤ d <;> simp [hx2, hy2, hd3] <;> omega
  rw [e1]
  generalize decide (2147483648 ≤ x) = X
  generalize decide (2147483648 ≤ y) = Y
  generalize decide (2147483648 ≤ d) = D
  cases X <;> cases Y <;> cases D <;> rfl

theorem borrow_int {x y c : Nat} (hx : x < 4294967296) (hy : y < 4294967296) (hc : c ≤ 1) :
    bits .or .u32 (bits .and .u32 (bits .xor .u32 4294967295 (x : Int)) (y : Int)) (bits .and .u32 (bits .xor .u32 4294967295 (bits .xor .u32 (x : Int) (y : Int))) (((x : Int) - (y : Int) - (c : Int)) % 4294967296)) / 2147483648 = (sbr x y c : Int) := by
  have hd : ((x : Int) - (y : Int) - (c : Int)) % 4294967296 = (((x + 8589934592 - y - c) % 4294967296 : Nat) : Int) := by omega
  have h5 : 4294967295 ^^^ x < 2 ^ 32 := Nat.xor_lt_two_pow (by omega) (by omega)
  have h6 : x ^^^ y < 2 ^ 32 := Nat.xor_lt_two_pow (by omega) (by omega)
  have h7 : 4294967295 ^^^ (x ^^^ y) < 2 ^ 32 := Nat.xor_lt_two_pow (by omega) h6
  have hd2 : (x + 8589934592 - y - c) % 4294967296 < 4294967296 := Nat.mod_lt _ (by omega)
  have h8 : (4294967295 ^^^ x) &&& y < 2 ^ 32 := Nat.and_lt_two_pow _ (by omega)
  have h9 : (4294967295 ^^^ (x ^^^ y)) &&& ((x + 8589934592 - y - c) % 4294967296) < 2 ^ 32 := Nat.and_lt_two_pow _ (by omega)
  rw [hd, show (4294967295 : Int) = ((4294967295 : Nat) : Int) from rfl, u32_xor_nat _ _ (by omega) hx, u32_and_nat _ _ h5 hy, u32_xor_nat _ _ hx hy, u32_xor_nat _ _ (by omega) h6, u32_and_nat _ _ h7 hd2,
    u32_or_nat _ _ h8 h9]
  rw [show (2147483648 : Int) = ((2147483648 : Nat) : Int) from rfl, ← Int.natCast_ediv, borrow_eq hx hy hc rfl]

/-- The digit of a difference. -/
def sdf (x y c : Nat) : Nat := (x + 8589934592 - y - c) % 4294967296
theorem sdf_lt (x y c : Nat) : sdf x y c < 4294967296 := Nat.mod_lt _ (by omega)
theorem sdf_int {x y c : Nat} (hx : x < 4294967296) (hy : y < 4294967296) (hc : c ≤ 1) : ((x : Int) - (y : Int) - (c : Int)) % 4294967296 = (sdf x y c : Int) := by unfold sdf; omega

set_option maxHeartbeats 400000 in
theorem sub32_any (x y c : Nat) (w : World) (hx : x < 4294967296) (hy : y < 4294967296) (hc : c ≤ 1) :
    Calls Tryd.prog 115 #[.int .u32 x, .int .u32 y, .int .u32 c] w fun e w' => e = .returned (.tuple #[.int .u32 (sdf x y c : Int), .int .u32 (sbr x y c : Int)]) ∧ w = w' := by
  have HBI := Lib.hid (borrow_int hx hy hc)
  have HSI := Lib.hid (sdf_int hx hy hc)
  have h1 : (x : Int) ≤ 4294967295 := by omega
  have h2 : (y : Int) ≤ 4294967295 := by omega
  have h3 : (c : Int) ≤ 1 := by omega
  go_enter Tryd.func115, Tryd.ntmps115
  go_wp2
  go_ret2
  refine ⟨ret2_u32 ?_ ?_, rfl⟩
  · exact HSI.out
  · exact HBI.out
theorem sbr_le (x y c : Nat) : sbr x y c ≤ 1 := by unfold sbr; split <;> omega
theorem sbr_eq {x y c : Nat} (hx : x < 4294967296) (hy : y < 4294967296) (hc : c ≤ 1) : sdf x y c + y + c = x + 4294967296 * sbr x y c := by
  unfold sbr sdf
  split <;> omega

theorem sbr_eq0 {x c : Nat} (hx : x < 4294967296) (hc : c ≤ 1) : sdf x 0 c + c = x + 4294967296 * sbr x 0 c := by
  have h := sbr_eq hx (show 0 < 4294967296 by omega) hc
  rw [Nat.add_zero] at h
  exact h
/-- What subtractFrom leaves. -/
def SubRet (w : World) (g o : Nat) (zs ys : List Nat) (e : Ending) (w' : World) : Prop :=
  ∃ (c : Nat) (zi : List Nat), e = .returned (.int .u32 (c : Int)) ∧ c ≤ 1 ∧ zi.length = zs.length ∧ val zi + val ys = val zs + 4294967296 ^ zs.length * c ∧ Own w' g o zi ∧ Wrote w w' g o (o + zs.length)

set_option maxHeartbeats 1600000 in
set_option maxRecDepth 1000000 in
theorem subFrom_any {B g o c1 c2 : Nat} {A2 : Option Addr} {zs ys : List Nat} (w : World) (hz : Own w g o zs) (hy : Rd w B A2 c2 ys) (hB : B ≤ g) (hlen : ys.length ≤ zs.length) (hn : zs.length ≤ 1000000) :
    Calls Tryd.prog 94 #[.slice (some ⟨g, o, none⟩) zs.length c1, .slice A2 ys.length c2] w (SubRet w g o zs ys) := by
  have hgw := hz.lt
  have hl2 := hy.2.1
  have HZ := Lib.hid hz
  have HY := Lib.hid hy
  clear hz hy
  go_enter Tryd.func94, Tryd.ntmps94
  go_wp2
  go_loopw [5, 6, 7, 11] (fun C _ _ I wr => ∃ (k c : Nat) (zi : List Nat), I = .int .i64 k ∧ C = .int .u32 c ∧ k ≤ ys.length ∧ c ≤ 1 ∧ Hid (Subs zs ys zi k c) ∧ Hid (Own wr g o zi) ∧ Hid (Wrote w wr g o (o + zs.length))) (fun _ _ _ I _ => ys.length - (intOf I).toNat)
  case atStart => exact ⟨0, 0, zs, rfl, rfl, Nat.zero_le _, by omega, Subs.start ys HZ.out.dgs, HZ.out, Wrote.refl _ _ _ _⟩
  case round =>
    obtain ⟨k, c, zi, rfl, rfl, hk, hc, HA, HO, HW⟩ := hrel
    by_cases hlt : k < ys.length
    · have hlti : (k : Int) < (ys.length : Int) := by omega
      have hzl := HA.out.up.len
      have hkz : k < zi.length := by omega
      have hkzi : (k : Int) < (zs.length : Int) := by omega
      have HY2 := Lib.hid (HY.out.wrote HW.out hB (by omega))
      obtain ⟨b, p, rfl, _, hcy⟩ := HY2.out.at_ hlt
      have hcz := HO.out.cell hkz
      have hfz := HO.out.free (o + k)
      have hd1 := HO.out.dgs.get hkz
      have hd2 := HY2.out.dgs.get hlt
      have HG := Lib.hid (HA.out.up.get (i := k) (by omega))
      have HGY : Hid (ys.getD k 0 = ys[k]) := by show _ = _; rw [List.getD_eq_getElem?_getD, List.getElem?_eq_getElem hlt]; rfl
      have HST : Hid (∀ s e : Nat, s < 4294967296 → e ≤ 1 → s + ys[k] + c = zi[k] + 4294967296 * e → Subs zs ys (zi.set k s) (k + 1) e) := fun s e hs he hq =>
        HA.out.step (by omega) hs he (by rw [← HG.out, HGY.out]; exact hq)
      have HOS : Hid (∀ s : Nat, s < 4294967296 → Own (wr.setCell ⟨g, o + k, none⟩ (.int .u32 (s : Int))) g o (zi.set k s)) := fun s hs => HO.out.setCell hkz hs
      have HWS : Hid (∀ u : Value, Wrote w (wr.setCell ⟨g, o + k, none⟩ u) g o (o + zs.length)) := fun u => HW.out.setCell (by omega) (by omega) u
      clear HG HGY
      generalize zi[k] = x at *
      generalize ys[k] = y at *
      have HC := Lib.hid (fun W => sub32_any x y c W hd1 hd2 hc)
      go_wp2_with (go_at_call 115; ((with_reducible refine (HC.out _).mono ?_); rintro e w' ⟨rfl, rfl⟩))
      go_roundw
      case rel => exact ⟨k + 1, sbr x y c, zi.set k (sdf x y c), by go_num, rfl, hlt, sbr_le _ _ _, HST.out _ _ (sdf_lt _ _ _) (sbr_le _ _ _) (sbr_eq hd1 hd2 hc), HOS.out (sdf x y c) (sdf_lt _ _ _), HWS.out _⟩
      case measure => simp [intOf]; omega
    · have hn1 : ¬ (k : Int) < (ys.length : Int) := by omega
      have hky : ys.length ≤ k := by omega
      have HW0 := Lib.hid HW.out
      have HA0 := Lib.hid HA.out
      have HO0 := Lib.hid HO.out
      obtain ⟨wm, hwm⟩ : ∃ wm : World, wm = wr := ⟨_, rfl⟩
      subst hwm
      go_wp2
      go_loopw [5, 8] (fun C I wi => ∃ (j c' : Nat) (zj : List Nat), I = .int .i64 j ∧ C = .int .u32 c' ∧ ys.length ≤ j ∧ j ≤ zs.length ∧ c' ≤ 1 ∧ Hid (Subs zs ys zj j c') ∧ Hid (Own wi g o zj) ∧ Hid (Wrote w wi g o (o + zs.length))) (fun _ I _ => zs.length - (intOf I).toNat)
      case atStart =>
        obtain rfl : k = ys.length := by omega
        exact ⟨ys.length, c, zi, rfl, rfl, Nat.le_refl _, hlen, hc, HA0.out, HO0.out, HW0.out⟩
      case round =>
        clear HA HO HW HA0 HO0 HW0
        obtain ⟨j, c', zj, rfl, rfl, hj1, hj2, hc', HA, HO, HW⟩ := hrel
        have HFIN : Hid (c' = 0 ∨ j = zs.length → val zj + val ys = val zs + 4294967296 ^ zs.length * c') := fun h => HA.out.done hj2 hj1 h
        by_cases hlt : j < zs.length
        · have hlti : (j : Int) < (zs.length : Int) := by omega
          by_cases h0 : c' = 0
          · subst h0
            have HV := Lib.hid (HFIN.out (.inl rfl))
            go_wp2
            go_ret
            exact ⟨0, zj, rfl, by omega, HA.out.up.len, HV.out, HO.out, HW.out⟩
          · have hcb : ((c' : Int) != 0) = true := by rw [bne_iff_ne]; omega
            have hzl := HA.out.up.len
            have hkz : j < zj.length := by omega
            have hcz := HO.out.cell hkz
            have hfz := HO.out.free (o + j)
            have hd1 := HO.out.dgs.get hkz
            have HG := Lib.hid (HA.out.up.get (i := j) hlt)
            have HGY : Hid (ys.getD j 0 = 0) := by show _ = _; rw [List.getD_eq_getElem?_getD, List.getElem?_eq_none hj1]; rfl
            have HST : Hid (∀ s e : Nat, s < 4294967296 → e ≤ 1 → s + c' = zj[j] + 4294967296 * e → Subs zs ys (zj.set j s) (j + 1) e) := fun s e hs he hq =>
              HA.out.step hlt hs he (by rw [← HG.out, HGY.out]; omega)
            have HOS : Hid (∀ s : Nat, s < 4294967296 → Own (wr.setCell ⟨g, o + j, none⟩ (.int .u32 (s : Int))) g o (zj.set j s)) := fun s hs => HO.out.setCell hkz hs
            have HWS : Hid (∀ u : Value, Wrote w (wr.setCell ⟨g, o + j, none⟩ u) g o (o + zs.length)) := fun u => HW.out.setCell (by omega) (by omega) u
            clear HG HGY
            generalize zj[j] = x at *
            have HC : Hid (∀ W : World, Calls Tryd.prog 115 #[.int .u32 x, .int .u32 0, .int .u32 c'] W fun e w' => e = .returned (.tuple #[.int .u32 (sdf x 0 c' : Int), .int .u32 (sbr x 0 c' : Int)]) ∧ W = w') := fun W => sub32_any x 0 c' W hd1 (by omega) hc'
            go_wp2_with (go_at_call 115; ((with_reducible refine (HC.out _).mono ?_); rintro e w' ⟨rfl, rfl⟩))
            go_roundw
            case rel => exact ⟨j + 1, sbr x 0 c', zj.set j (sdf x 0 c'), by go_num, rfl, by omega, hlt, sbr_le _ _ _, HST.out _ _ (sdf_lt _ _ _) (sbr_le _ _ _) (sbr_eq0 hd1 hc'), HOS.out (sdf x 0 c') (sdf_lt _ _ _), HWS.out _⟩
            case measure => simp [intOf]; omega
        · have hn2 : ¬ (j : Int) < (zs.length : Int) := by omega
          have hd : decide ((j : Int) < (zs.length : Int)) = false := decide_eq_false hn2
          have HV := Lib.hid (HFIN.out (.inr (by omega)))
          go_wp2
          go_ret
          exact ⟨c', zj, rfl, hc', HA.out.up.len, HV.out, HO.out, HW.out⟩
end Go.Proofs.YtbijjiadokgmoaaDoor
