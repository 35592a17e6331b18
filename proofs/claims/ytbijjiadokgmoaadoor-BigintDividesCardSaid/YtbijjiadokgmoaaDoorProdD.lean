/- The contract of productByDigits. -/
import Derived.Test.YtbijjiadokgmoaaDoorAddMul
import Derived.Test.YtbijjiadokgmoaaDoorMulMath
import Derived.Test.YtbijjiadokgmoaaDoorDiff
namespace Go.Proofs.YtbijjiadokgmoaaDoor
open Go.RowKit

set_option maxRecDepth 1000000 in
theorem make_zeros {n : Nat} (l : Int) (W : World) (hl : l = (n : Int)) (hn : n ≤ 2000000) :
    (Instr.makeSlice 22 (.int .i64 l) (.int .i64 l)).run Tryd.prog W = .ok (.slice (some ⟨W.heap.size, 0, none⟩) n n) (W.alloc (.cells (Array.replicate n (.int .u32 0)) 64)) := by
  subst hl
  obtain ⟨i0, hi, hz0, hz1, hz2⟩ := info_parts Tryd.infoU
  have h := run_make (P := Tryd.prog) W 22 64 i0 (.int .u32 0) Tryd.underlying22 hi hz0 .i64 .i64 (n : Int) (n : Int) (by omega) (by omega) (by rw [hz2]; omega) (by omega)
  rw [h, hz1]
  have e : madeCells (Value.cells (.int .u32 0)) ((n : Int).toNat * 1) = Array.replicate n (.int .u32 0) := by
    apply Array.ext'
    rw [Array.toList_replicate, show Value.cells (.int .u32 0) = #[.int .u32 0] from rfl, toList_madeCells_one]
    congr 1
    omega
  rw [e, Int.toNat_natCast]
theorem own_zeros (w : World) (n : Nat) : Own (w.alloc (.cells (Array.replicate n (.int .u32 0)) 64)) w.heap.size 0 (List.replicate n 0) := by
  refine ⟨dgs_zeros n, _, heap_alloc_new _ _, by simp, fun k hk => ?_⟩
  simp only [List.length_replicate] at hk
  simp [hk]
/-- A part has been written: the whole row. -/
theorem Own.mid {w w' : World} {g i : Nat} {z part : List Nat} (h : Own w g 0 z) (hp : Own w' g i part) (hw : Wrote w w' g i (i + part.length)) (hl : i + part.length ≤ z.length) :
    Own w' g 0 (z.take i ++ (part ++ z.drop (i + part.length))) := by
  have h1 : Own w' g 0 (z.take i) := by
    have := (h.part (n := 0) (by omega) i).apart hw (.inl (by simp; omega))
    simpa using this
  have h3 : Own w' g (i + part.length) (z.drop (i + part.length)) := by
    have := (h.part (n := i + part.length) (by omega) z.length).apart hw (.inr (by omega))
    rw [Nat.zero_add, List.take_of_length_le (by simp)] at this
    exact this
  refine Own.join h1 ?_
  rw [List.length_take, Nat.min_eq_left (by omega), Nat.zero_add]
  exact Own.join hp h3
theorem Own.put {w' : World} {g i c : Nat} {z part : List Nat} (h : Own w' g 0 (z.take i ++ (part ++ z.drop (i + part.length)))) (hl : i + part.length < z.length) (hc : c < 4294967296) :
    Own (w'.setCell ⟨g, i + part.length, none⟩ (.int .u32 (c : Int))) g 0 (putRow z part i c) := by
  have h5 := h.setCell (k := i + part.length) (by simp; omega) hc
  rw [Nat.zero_add] at h5
  exact h5

set_option maxHeartbeats 1600000 in
set_option maxRecDepth 1000000 in
theorem prodD_any {B m n c1 c2 : Nat} {A1 A2 : Option Addr} (w : World) (h1 : Rd w B A1 c1 (digs m)) (h2 : Rd w B A2 c2 (digs n)) (hB : B ≤ w.heap.size) (hm : (digs m).length ≤ 500000) (hn : (digs n).length ≤ 500000) :
    Calls Tryd.prog 89 #[.slice A1 (digs m).length c1, .slice A2 (digs n).length c2] w (MagRet w (m * n)) := by
  have hlc1 := h1.2.1
  have hlc2 := h2.2.1
  have HX := Lib.hid h1
  have HY := Lib.hid h2
  have HMK := Lib.hid (fun W => make_zeros (n := (digs m).length + (digs n).length) (((digs m).length : Int) + ((digs n).length : Int)) W (by omega) (by omega))
  have HV := Lib.hid (show val (digs m) * val (digs n) = m * n by rw [val_digs, val_digs])
  clear h1 h2
  generalize digs m = X at *
  generalize digs n = Y at *
  have hmk := HMK.out
  have HO0 := Lib.hid (own_zeros w (X.length + Y.length))
  go_enter Tryd.func89, Tryd.ntmps89
  go_wp2
  go_loopw [6, 7, 16] (fun _ _ I wr => ∃ (k : Nat) (z : List Nat), I = .int .i64 k ∧ k ≤ Y.length ∧ Hid (Prods X Y z k) ∧ Hid (Own wr w.heap.size 0 z) ∧ Hid (Below w.heap.size w wr)) (fun _ _ I _ => Y.length - (intOf I).toNat)
  case atStart => exact ⟨0, List.replicate (X.length + Y.length) 0, rfl, Nat.zero_le _, Prods.start X Y, HO0.out, (Below.refl _ _).alloc (Nat.le_refl _) _⟩
  case round =>
    obtain ⟨k, z, rfl, hk, HP, HO, HB⟩ := hrel
    by_cases hlt : k < Y.length
    · have hlti : (k : Int) < (Y.length : Int) := by omega
      have hcap : ¬ X.length + Y.length = k := by omega
      have HY2 := Lib.hid (HY.out.below (HB.out.mono hB))
      obtain ⟨b, p, rfl, _, hcy⟩ := HY2.out.at_ hlt
      have hd2 := HY2.out.dgs.get hlt
      have HST : Hid (∀ (part : List Nat) (c : Nat), part.length = X.length → Dgs part → c < 4294967296 → val part + 4294967296 ^ X.length * c = val ((z.drop k).take X.length) + Y[k] * val X → Prods X Y (putRow z part k c) (k + 1)) := fun part c hl hd hc hv => HP.out.step hlt hl hd hc hv
      have HZL := Lib.hid HP.out.len
      have HX2 := Lib.hid (HX.out.below (HB.out.mono hB))
      generalize Y[k] = y at *
      have HAM : Hid (Calls Tryd.prog 111 #[.slice (some ⟨w.heap.size, k, none⟩) X.length (X.length + Y.length - k), .slice A1 X.length c1, .int .u32 y] wr fun e w' => ∃ (c : Nat) (part : List Nat), e = .returned (.int .u32 (c : Int)) ∧ c < 4294967296 ∧ part.length = X.length ∧ val part + 4294967296 ^ X.length * c = val ((z.drop k).take X.length) + y * val X ∧ Own w' w.heap.size k part ∧ Wrote wr w' w.heap.size k (k + X.length)) := by
        have hzs : ((z.drop k).take X.length).length = X.length := by have := HZL.out; simp; omega
        have hp := HO.out.part (n := k) (by have := HZL.out; omega) X.length
        rw [Nat.zero_add] at hp
        have := addMul_any (c1 := X.length + Y.length - k) wr hp HX2.out hB hzs.symm (by omega) hd2
        unfold MultRet at this
        rw [hzs] at this
        exact this
      go_wp2_with (go_at_call 111; fail)
      refine HAM.out.mono ?_
      rintro e w1 ⟨c, part, rfl, hc, hpl, hv, hown, hwr⟩
      have hmid := HO.out.mid hown (by rw [hpl]; exact hwr) (by have := HZL.out; omega)
      have hcell := hmid.cell (k := k + X.length) (by have := HZL.out; simp; omega)
      have hfree := hmid.free (k + X.length)
      rw [Nat.zero_add] at hcell
      have HN := Lib.hid (HST.out part c hpl hown.dgs hc hv)
      have HPUT : Hid (Own (w1.setCell ⟨w.heap.size, k + X.length, none⟩ (.int .u32 (c : Int))) w.heap.size 0 (putRow z part k c)) := by
        have := hmid.put (c := c) (by have := HZL.out; omega) hc
        rw [hpl] at this
        exact this
      have HB2 : Hid (Below w.heap.size w (w1.setCell ⟨w.heap.size, k + X.length, none⟩ (.int .u32 (c : Int)))) := (HB.out.trans (hwr.below (B := w.heap.size) (Nat.le_refl _) HB.out.size)).setCell (Nat.le_refl _) _
      clear hv hown hwr hmid HAM
      go_wp2
      go_roundw
      case rel => exact ⟨k + 1, putRow z part k c, by go_num, hlt, HN.out, HPUT.out, HB2.out⟩
      case measure => simp [intOf]; omega
    · have hn1 : ¬ (k : Int) < (Y.length : Int) := by omega
      have hky : k = Y.length := by omega
      have HZ : Hid (val z = m * n ∧ z.length = X.length + Y.length) := by
        have := HP.out
        rw [hky] at this
        exact ⟨this.done.trans HV.out, this.len⟩
      have HT : Hid (Calls Tryd.prog 55 #[.slice (some ⟨w.heap.size, 0, none⟩) (X.length + Y.length) (X.length + Y.length)] wr fun e w' => e = .returned (.slice (some ⟨w.heap.size, 0, none⟩) (digs (m * n)).length (X.length + Y.length)) ∧ wr = w') := by
        have := trim_any wr (HO.out.rd (c := X.length + Y.length) (B := wr.heap.size) (by rw [HZ.out.2]; exact Nat.le_refl _) (by unfold maxLen; omega) HO.out.lt) (by rw [HZ.out.2]; omega)
        rwa [HZ.out.1, HZ.out.2] at this
      have HRES : Hid (Rd wr wr.heap.size (some ⟨w.heap.size, 0, none⟩) (X.length + Y.length) (digs (m * n))) := by
        have h5 := HO.out.rd (c := X.length + Y.length) (B := wr.heap.size) (by rw [HZ.out.2]; exact Nat.le_refl _) (by unfold maxLen; omega) HO.out.lt
        have h6 := digs_take HO.out.dgs
        rw [HZ.out.1] at h6
        rw [h6]; exact h5.take _
      clear hky
      go_wp2_with (go_at_call 55; ((with_reducible refine HT.out.mono ?_); rintro e w' ⟨rfl, rfl⟩))
      go_ret
      exact ⟨_, _, rfl, HRES.out, fun a ha => by injection ha with ha; rw [← ha]; exact Nat.le_refl _, HB.out⟩
end Go.Proofs.YtbijjiadokgmoaaDoor
