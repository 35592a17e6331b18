/- Format at -4 (what awake asks). -/
import Derived.Test.YtbijjiadokgmoaaDoorDivDig
import Derived.Test.YtbijjiadokgmoaaDoorProdD
import Derived.Test.YtbijjiadokgmoaaDoorSigned
import Derived.Deep.RegionHeld3
import Derived.Laws.IdiomStrings
import Derived.Test.YtbijjiadokgmoaaDoorShelf
namespace Go.Proofs.YtbijjiadokgmoaaDoor
open Go.RowKit

set_option maxHeartbeats 800000 in
set_option maxRecDepth 1000000 in
theorem bitlen_1 {b o c x : Nat} (w : World) (hx : x < 4294967296) (hbl : Lib.bitLen x ≤ 32) (hc : w.cell? ⟨b, o, none⟩ = some (.int .u32 (x : Int))) :
    Calls Tryd.prog 63 #[.slice (some ⟨b, o, none⟩) 1 c] w fun e w' => e = .returned (.int .i64 (Lib.bitLen x)) ∧ w = w' := by
  have hc0 : w.cell? ⟨b, o + 0, none⟩ = some (.int .u32 (x : Int)) := hc
  have HL : Hid (∀ W : World, Calls Tryd.prog 87 #[.int .u32 x] W fun e w' => e = .returned (.int .i64 (Lib.bitLen x)) ∧ W = w') := fun W => (Tryd.bits_Len32 (x : Int) W (by omega) (by omega)).mono fun e w' ⟨h1, h2⟩ => ⟨by rw [h1]; rfl, h2.symm⟩
  have hbi : (Lib.bitLen x : Int) ≤ 32 := by omega
  clear hbl
  generalize Lib.bitLen x = l at *
  go_enter Tryd.func63, Tryd.ntmps63
  go_wp2_with (go_at_call 87; ((with_reducible refine (HL.out _).mono ?_); rintro e w' ⟨rfl, rfl⟩))
  go_ret
  exact ⟨rfl, rfl⟩

set_option maxHeartbeats 800000 in
set_option maxRecDepth 1000000 in
theorem dp_1 (w : World) :
    Calls Tryd.prog 81 #[.int .i64 1] w fun e w' => e = .returned (.slice (some ⟨w.heap.size + 1, 0, none⟩) 1 1) ∧ Below w.heap.size w w' := by
  go_enter Tryd.func81, Tryd.ntmps81
  go_wp2
  refine wp_loop_rounds 1 ?_
  rw [rounds_succ]
  go_wp2
  go_ret
  exact ⟨rfl, ((Below.refl _ _).alloc (Nat.le_refl _) _).alloc (by simp) _⟩

set_option maxHeartbeats 800000 in
set_option maxRecDepth 1000000 in
theorem td_1 {B c n g : Nat} {A P : Option Addr} (w : World) (h : Rd w B A c [n]) (hn : n < 1000000000) (ho : Own w g 0 [0]) (hgw : g < w.heap.size) :
    Calls Tryd.prog 80 #[.slice A 1 c, .slice (some ⟨g, 0, none⟩) 1 1, .slice P 1 1] w fun e w' => e = .returned (.tuple #[]) ∧ Own w' g 0 [n] ∧ Wrote w w' g 0 1 := by
  have HC := Lib.hid (clone_any w h (by simp))
  go_enter Tryd.func80, Tryd.ntmps80
  go_wp2_with (go_at_call 61; fail)
  refine HC.out.mono ?_
  rintro e w1 ⟨A', c', rfl, hnd, hb⟩
  have HB := Lib.hid hb
  have HO := Lib.hid (ho.below hb hgw)
  obtain ⟨⟨_, _, hds⟩ | ⟨g', rfl, hg', ho'⟩, hc, hcm⟩ := hnd
  · cases hds
  simp only [List.length_cons, List.length_nil, Nat.zero_add]
  have HD := Lib.hid (divDig_any (c1 := c') w1 ho' (by simp) (show 0 < 1000000000 by omega) (by omega))
  clear ho ho' hb HC
  go_wp2
  refine wp_loop_rounds 2 ?_
  rw [rounds_succ]
  go_wp2_with (go_at_call 92; fail)
  refine HD.out.mono ?_
  rintro e w2 ⟨zi, rfl, hzl, hzv, hown, hwr⟩
  have hv : val [n] % 1000000000 = n := by simp only [val]; omega
  rw [hv]
  have HO2 := Lib.hid (HO.out.far hwr (by omega))
  have hcell := HO2.out.cell (k := 0) (by simp)
  have hfree := HO2.out.free 0
  have HO3 : Hid (Own (w2.setCell ⟨g, 0, none⟩ (.int .u32 (n : Int))) g 0 [n]) := HO2.out.setCell (k := 0) (by simp) (show n < 4294967296 by omega)
  have HBW : Hid (Wrote w (w2.setCell ⟨g, 0, none⟩ (.int .u32 (n : Int))) g 0 1) := (Wrote.of_below hgw (HB.out.trans (hwr.below (B := w.heap.size) hg' HB.out.size))).setCell (Nat.le_refl _) (by omega) _
  clear hv hown hwr HD hzv
  go_wp2
  rw [rounds_succ]
  go_wp2
  refine bodyPost_ret (v := .tuple #[]) (by simp [results, Tryd.results80, go_sem]) rfl ⟨rfl, HO3.out, HBW.out⟩

theorem Tryd.infoB : (Tryd.prog.info? 5).map (fun i => (i.zero, i.size, i.bytes)) = some (some (.int .u8 0), 1, 1) := by kernel_rfl
theorem make_9 (W : World) : (Instr.makeSlice 88 (.int .i64 9) (.int .i64 9)).run Tryd.prog W = .ok (.slice (some ⟨W.heap.size, 0, none⟩) 9 9) (W.alloc (.cells #[.int .u8 0, .int .u8 0, .int .u8 0, .int .u8 0, .int .u8 0, .int .u8 0, .int .u8 0, .int .u8 0, .int .u8 0] 5)) := by
  obtain ⟨i0, hi, hz0, hz1, hz2⟩ := info_parts Tryd.infoB
  have h := run_make (P := Tryd.prog) W 88 5 i0 (.int .u8 0) Tryd.underlying88 hi hz0 .i64 .i64 9 9 (by omega) (by omega) (by rw [hz2]; omega) (by omega)
  have e : madeCells (Value.cells (.int .u8 0)) ((9 : Int).toNat * 1) = #[.int .u8 0, .int .u8 0, .int .u8 0, .int .u8 0, .int .u8 0, .int .u8 0, .int .u8 0, .int .u8 0, .int .u8 0] := by
    apply Array.ext'
    rw [show Value.cells (.int .u8 0) = #[.int .u8 0] from rfl, toList_madeCells_one]
    rfl
  rw [h, hz1, e]
  rfl
/-- The text of 4, before its zeros are trimmed. -/
theorem conv_4 (W : World) : (convert 88 9 (.slice (some ⟨W.heap.size, 0, none⟩) 9 9)).run Tryd.prog (W.alloc (.cells #[.int .u8 48, .int .u8 48, .int .u8 48, .int .u8 48, .int .u8 48, .int .u8 48, .int .u8 48, .int .u8 48, .int .u8 52] 5)) = .ok (.string ⟨#[48, 48, 48, 48, 48, 48, 48, 48, 52]⟩) (W.alloc (.cells #[.int .u8 48, .int .u8 48, .int .u8 48, .int .u8 48, .int .u8 48, .int .u8 48, .int .u8 48, .int .u8 48, .int .u8 52] 5)) := by
  refine run_convert_bytes_back _ 88 9 5 ⟨W.heap.size, 0, none⟩ 9 [48, 48, 48, 48, 48, 48, 48, 48, 52] Tryd.underlying88 Tryd.underlying5 Tryd.underlying9 fun j hj => ?_
  rw [show (⟨W.heap.size, 0, none⟩ : Addr).add j = ⟨W.heap.size, j, none⟩ by unfold Addr.add; split <;> simp_all, World.cell?_alloc_mark]
  have hj : j < 9 := hj
  rcases (show j = 0 ∨ j = 1 ∨ j = 2 ∨ j = 3 ∨ j = 4 ∨ j = 5 ∨ j = 6 ∨ j = 7 ∨ j = 8 by omega) with h | h | h | h | h | h | h | h | h <;> subst h <;> rfl
theorem make_1 (W : World) : (Instr.makeSlice 22 (.int .i64 1) (.int .i64 1)).run Tryd.prog W = .ok (.slice (some ⟨W.heap.size, 0, none⟩) 1 1) (W.alloc (.cells (Array.replicate 1 (.int .u32 0)) 64)) := make_zeros (n := 1) 1 W rfl (by omega)

set_option maxHeartbeats 3200000 in
set_option maxRecDepth 1000000 in
theorem format_neg4 {B c : Nat} {A : Option Addr} (w : World) (h : Rd w B A c [4]) (hB : B ≤ w.heap.size) :
    Calls Tryd.prog 50 #[.agg #[.bool true, .slice A 1 c]] w fun e w' => e = .returned (.string ⟨#[45, 52]⟩) ∧ Below w.heap.size w w' := by
  have HT : Hid (∀ W : World, Below w.heap.size w W → Calls Tryd.prog 55 #[.slice A 1 c] W fun e w' => e = .returned (.slice A 1 c) ∧ W = w') := fun W hb => by
    have := trim_any W (h.below (hb.mono hB)) (by simp)
    rw [show val [4] = 4 by simp [val], digs_one (by omega) (by omega)] at this
    exact this
  obtain ⟨b, o, rfl, hb, hc⟩ := h.at_ (k := 0) (by simp)
  have HBL : Hid (∀ W : World, Below w.heap.size w W → Calls Tryd.prog 63 #[.slice (some ⟨b, o, none⟩) 1 c] W fun e w' => e = .returned (.int .i64 3) ∧ W = w') := fun W hbw => by
    have := bitlen_1 (c := c) (x := 4) W (by omega) (by decide) ((hbw.cell (p := ⟨b, o, none⟩) (by show b < _; omega)).trans hc)
    exact this
  have HTD := Lib.hid (fun (W : World) (P : Option Addr) (g : Nat) (hb : Below w.heap.size w W) (ho : Own W g 0 [0]) (hg : g < W.heap.size) => td_1 (P := P) W (h.below (hb.mono hB)) (show 4 < 1000000000 by omega) ho hg)
  have hmk := make_1
  have hmk9 := make_9
  have hcv := conv_4
  have HTL : Hid (∀ W : World, Calls Tryd.prog 82 #[.string ⟨#[48, 48, 48, 48, 48, 48, 48, 48, 52]⟩, .string ⟨#[48]⟩] W fun e w' => e = .returned (.string ⟨#[52]⟩) ∧ W = w') := fun W => (Tryd.strings_TrimLeft_one ⟨#[48, 48, 48, 48, 48, 48, 48, 48, 52]⟩ 48 (by decide) W).mono fun e w' ⟨h1, h2⟩ => ⟨h1, h2.symm⟩
  clear h hc
  go_enter Tryd.func50, Tryd.ntmps50
  go_wp2_with (first
    | (go_at_call 55; ((with_reducible refine (HT.out _ ((Below.refl _ _).alloc (Nat.le_refl _) _)).mono ?_); rintro e w' ⟨rfl, rfl⟩))
    | (go_at_call 63; ((with_reducible refine (HBL.out _ ((Below.refl _ _).alloc (Nat.le_refl _) _)).mono ?_); rintro e w' ⟨rfl, rfl⟩))
    | (go_at_call 81; fail))
  refine (dp_1 _).mono ?_
  rintro e w1 ⟨rfl, hb1⟩
  have hs1 := hb1.size
  simp only [World.size_alloc] at hs1
  have HBX1 : Hid (w1.heap[w.heap.size]? = some (.cells #[.bool true, .slice (some ⟨b, o, none⟩) 1 c] 24 (0, 0))) := (hb1.block _ (by simp; omega)).trans ((Below.heap_alloc _ _ _ (by simp)).trans (heap_alloc_new w _))
  have HO1 : Hid (Own w1 (w.heap.size + 1) 0 [0]) := by
    have h0 := own_new (w.alloc (.cells #[.bool true, .slice (some ⟨b, o, none⟩) 1 c] 24)) (ds := [0]) (cs := #[.int .u32 0]) (dgs_cons (by omega) dgs_nil) rfl
    rw [World.size_alloc] at h0
    exact h0.below hb1 (by simp)
  have HB1 : Hid (Below w.heap.size w w1) := (((Below.refl _ _).alloc (Nat.le_refl _) _).alloc (by simp) _).trans (hb1.mono (by simp; omega))
  clear hb1
  go_wp2_with (go_at_call 80; fail)
  refine (HTD.out w1 _ _ HB1.out HO1.out (by omega)).mono ?_
  rintro e w2 ⟨rfl, ho2, hw2⟩
  have hd2 : w2.cell? ⟨w.heap.size + 1, 0, none⟩ = some (.int .u32 4) := ho2.cell (k := 0) (by simp)
  have HBX2 : Hid (w2.heap[w.heap.size]? = some (.cells #[.bool true, .slice (some ⟨b, o, none⟩) 1 c] 24 (0, 0))) := (hw2.block _ (by omega) (by omega)).trans HBX1.out
  obtain ⟨x1, x2, _, _⟩ := two_of_block HBX2.out
  have HB2 : Hid (Below w.heap.size w w2) := HB1.out.trans (hw2.below (by omega) (by omega))
  have hs2 := hw2.size
  have nd := fun ob => (World.cell?_alloc_lt w2 ob ⟨w.heap.size + 1, 0, none⟩ (by show w.heap.size + 1 < _; omega)).trans hd2
  have nx := fun ob => (World.cell?_alloc_lt w2 ob ⟨w.heap.size, 0, none⟩ (by show w.heap.size < _; omega)).trans x1
  clear ho2 hw2
  go_wp2
  refine wp_loop_rounds 2 ?_
  rw [rounds_succ]
  go_wp2
  refine wp_loop_rounds 10 ?_
  rw [rounds_succ]
  go_wp2
  rw [rounds_succ]
  go_wp2
  rw [rounds_succ]
  go_wp2
  rw [rounds_succ]
  go_wp2
  rw [rounds_succ]
  go_wp2
  rw [rounds_succ]
  go_wp2
  rw [rounds_succ]
  go_wp2
  rw [rounds_succ]
  go_wp2
  rw [rounds_succ]
  go_wp2
  rw [rounds_succ]
  go_wp2
  rw [rounds_succ]
  go_wp2_with (go_at_call 82; ((with_reducible refine (HTL.out _).mono ?_); rintro e w' ⟨rfl, rfl⟩))
  go_ret
  exact ⟨rfl, HB2.out.alloc (by omega) _⟩
end Go.Proofs.YtbijjiadokgmoaaDoor
