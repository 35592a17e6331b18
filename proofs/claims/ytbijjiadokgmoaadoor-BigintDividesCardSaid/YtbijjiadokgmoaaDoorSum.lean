/- The contract of sum. -/
import Derived.Test.YtbijjiadokgmoaaDoorDiff
import Derived.Laws.CopyOwn
import Derived.Maps.AppendAt
import Derived.Deep.AppendLies
namespace Go.Proofs.YtbijjiadokgmoaaDoor
open Go.RowKit

set_option maxRecDepth 1000000 in
theorem make_one (n : Nat) (W : World) (hn : n ≤ 1000000) :
    (Instr.makeSlice 22 (.int .i64 (n : Int)) (.int .i64 ((n : Int) + 1))).run Tryd.prog W = .ok (.slice (some ⟨W.heap.size, 0, none⟩) n (n + 1)) (W.alloc (.cells (Array.replicate (n + 1) (.int .u32 0)) 64)) := by
  obtain ⟨i0, hi, hz0, hz1, hz2⟩ := info_parts Tryd.infoU
  have h := run_make (P := Tryd.prog) W 22 64 i0 (.int .u32 0) Tryd.underlying22 hi hz0 .i64 .i64 (n : Int) ((n : Int) + 1) (by omega) (by omega) (by rw [hz2]; omega) (by omega)
  rw [h, hz1]
  have e : madeCells (Value.cells (.int .u32 0)) (((n : Int) + 1).toNat * 1) = Array.replicate (n + 1) (.int .u32 0) := by
    apply Array.ext'
    rw [Array.toList_replicate, show Value.cells (.int .u32 0) = #[.int .u32 0] from rfl, toList_madeCells_one]
    congr 1
    omega
  rw [e, Int.toNat_natCast, show ((n : Int) + 1).toNat = n + 1 by omega]
theorem splice_start (X : List Nat) : splice (List.replicate (X.length + 1) (.int .u32 0)) 0 (dval X) = dval X ++ [.int .u32 0] := by
  simp [splice, dval, List.drop_replicate]
theorem copy_src {w : World} {B c : Nat} {A : Option Addr} {X : List Nat} (h : Rd w B A c X) (hB : B ≤ w.heap.size) (ob : Obj) : 0 < (dval X).length → ∃ ad, A = some ad ∧ ∀ j v, (dval X)[j]? = some v → (w.alloc ob).cell? (ad.add j) = some v := by
  intro h0
  have h0 : 0 < X.length := by simpa [dval] using h0
  obtain ⟨b, o, rfl, hb, _⟩ := h.at_ h0
  refine ⟨⟨b, o, none⟩, rfl, fun j v hv => ?_⟩
  rw [dval, List.getElem?_map] at hv
  rcases Nat.lt_or_ge j X.length with hj | hj
  · obtain ⟨b', o', e, _, hc⟩ := h.at_ hj
    injection e with e
    injection e with e1 e2
    subst e1; subst e2
    rw [List.getElem?_eq_getElem hj] at hv
    simp at hv
    have e3 : (⟨b, o, none⟩ : Addr).add j = ⟨b, o + j, none⟩ := by unfold Addr.add; split <;> simp_all
    rw [e3, World.cell?_alloc_lt w ob _ (by show b < _; omega), hc, hv]
  · rw [List.getElem?_eq_none hj] at hv; cases hv
theorem own_start {w : World} {g : Nat} {X : List Nat} (hd : Dgs X) (h : w.heap[g]? = some (.cells (dval X ++ [Value.int .u32 0]).toArray 64 (0, 0))) : Own w g 0 X := by
  refine ⟨hd, _, h, by simp [dval], fun k hk => ?_⟩
  rw [Nat.zero_add, List.getElem?_toArray, List.getElem?_append_left (by simpa [dval] using hk), dval, List.getElem?_map, List.getElem?_eq_getElem hk]
  rfl
theorem row_of {w2 w3 : World} {g B n : Nat} {cur : Array Value} {zi : List Nat} {lo hi : Nat} (hB : B ≤ g) (h : w2.heap[g]? = some (.cells cur 64 (0, 0))) (hs : cur.size = n + 1) (hw : Wrote w2 w3 g lo hi) (ho : Own w3 g 0 zi) (hl : zi.length = n) (hn : n + 1 ≤ maxLen) :
    w3.ownsRow B 64 1 (.slice (some ⟨g, 0, none⟩) n (n + 1)) n (dval zi) := by
  obtain ⟨cs', h1, h2, _⟩ := hw.row cur _ h
  obtain ⟨_, cs, k1, k2, k3⟩ := ho
  rw [h1] at k1
  injection k1 with k1
  injection k1 with k1
  subst k1
  refine ⟨by simp [dval, hl], .inr ⟨g, n + 1, cs', rfl, hB, h1, by omega, hn, by omega, ?_⟩⟩
  refine List.ext_getElem? fun k => ?_
  rw [List.getElem?_take, dval, List.getElem?_map]
  by_cases hk : k < n * 1
  · have h5 := k3 k (by omega)
    rw [Nat.zero_add] at h5
    rw [if_pos hk, Array.getElem?_toList, h5, List.getElem?_eq_getElem (l := zi) (by omega)]
    rfl
  · rw [if_neg hk, List.getElem?_eq_none (l := zi) (by omega)]; rfl
/-- The digits of a sum, as addTo leaves them. -/
theorem sum_digits {zi : List Nat} {c m s : Nat} (hz : Dgs zi) (hc : c ≤ 1) (hzl : zi.length = (digs m).length) (hv : val zi + 4294967296 ^ (digs m).length * c = s) (hm : m ≤ s) :
    (c = 0 → digs s = zi) ∧ (c = 1 → digs s = zi ++ [1]) := by
  constructor
  · rintro rfl
    rw [Nat.mul_zero, Nat.add_zero] at hv
    have h1 := digs_take hz
    rw [hv] at h1
    have h2 := digs_len_mono hm
    rw [h1, List.take_of_length_le (by omega)]
  · rintro rfl
    have h1 : val (zi ++ [1]) = s := by rw [val_append, hzl, ← hv]; simp [val]
    have := digs_val (l := zi ++ [1]) (dgs_append hz (dgs_cons (by omega) dgs_nil)) (fun _ => by simp)
    rw [h1] at this
    exact this

set_option maxHeartbeats 1600000 in
set_option maxRecDepth 1000000 in
theorem sum_ge {B m n c1 c2 : Nat} {A1 A2 : Option Addr} (w : World) (h1 : Rd w B A1 c1 (digs m)) (h2 : Rd w B A2 c2 (digs n)) (hB : B ≤ w.heap.size) (hl : (digs m).length ≤ 1000000) (hle : (digs n).length ≤ (digs m).length) :
    Calls Tryd.prog 71 #[.slice A1 (digs m).length c1, .slice A2 (digs n).length c2] w (MagRet w (m + n)) := by
  have hlc := h1.2.1
  have HE := Lib.hid (fun (zi : List Nat) (c : Nat) (hz : Dgs zi) (hc : c ≤ 1) (hzl : zi.length = (digs m).length) (hv : val zi + 4294967296 ^ (digs m).length * c = val (digs m) + val (digs n)) => sum_digits hz hc hzl (by rw [val_digs, val_digs] at hv; rw [hv]) (show m ≤ m + n by omega))
  have HX := Lib.hid h1
  have HY := Lib.hid h2
  have HMK := Lib.hid (fun W => make_one (digs m).length W hl)
  have HSP : Hid (splice (List.replicate ((digs m).length + 1) (.int .u32 0)) 0 (dval (digs m)) = dval (digs m) ++ [.int .u32 0]) := splice_start _
  clear h1 h2
  generalize digs m = X at *
  generalize digs n = Y at *
  have hmk := HMK.out
  have hsz : (Tryd.prog.info? 64).map (·.size) = some 1 := by kernel_rfl
  have HSZ := Lib.hid hsz
  clear hsz HMK
  have HSRC := Lib.hid (copy_src HX.out hB)
  have hli : ((X).length : Int) ≤ 1000000 := by omega
  have hb1 : ¬ (X.length : Int) < (Y.length : Int) := by omega
  go_enter Tryd.func71, Tryd.ntmps71
  go_wp2_with (first
    | (refine wpList_copy_splice rfl (.tmp 20) (.tmp 21) 22 22 rfl 64 Tryd.underlying22 HSZ.out (some ⟨w.heap.size, 0, none⟩) A1 X.length (X.length + 1) X.length c1 rfl rfl w.heap.size 0 (List.replicate (X.length + 1) (.int .u32 0)) 64 (by rw [List.toArray_replicate]; exact heap_alloc_new _ _) (dval X) (by simp [dval]) (fun h0 => ⟨rfl, HSRC.out _ h0⟩) (by simp [dval]) (fun v hv => by obtain ⟨d, _, rfl⟩ := List.mem_map.1 hv; rfl) w.heap.size w ((Below.refl _ _).alloc (Nat.le_refl _) _) (Nat.le_refl _) ?_; intro w2 HCOP hb2; have HB2 := Lib.hid hb2; clear hb2)
    | (go_at_call 90; fail))
  have hcop := HCOP.out
  rw [HSP.out] at hcop
  have HROW := Lib.hid hcop
  have hs2 := HB2.out.size
  have HAD := Lib.hid (addTo_any (c1 := X.length + 1) w2 (own_start HX.out.dgs HROW.out) (HY.out.below (HB2.out.mono hB)) hB (by omega) hl)
  clear hcop HCOP HSP HSRC hmk
  refine HAD.out.mono ?_
  rintro e w3 ⟨c, zi, rfl, hc, hzl, hv, hown, hwr⟩
  obtain ⟨hz0, hz1⟩ := HE.out zi c hown.dgs hc hzl hv
  have HB3 := Lib.hid (HB2.out.trans (hwr.below (B := w.heap.size) (Nat.le_refl _) (by omega)))
  have HOWN := Lib.hid hown
  have HWR := Lib.hid hwr
  clear hv HAD HE hown hwr
  by_cases h0 : c = 0
  · subst h0
    have HZ : Hid (digs (m + n) = zi) := hz0 rfl
    clear hz0 hz1
    go_wp2
    go_ret
    refine ⟨some ⟨w.heap.size, 0, none⟩, X.length + 1, by rw [HZ.out, hzl]; rfl, by rw [HZ.out]; exact HOWN.out.rd (by omega) (by unfold maxLen; omega) HOWN.out.lt, fun a ha => by injection ha with ha; rw [← ha]; exact Nat.le_refl _, HB3.out⟩
  · obtain rfl : c = 1 := by omega
    have HZ : Hid (digs (m + n) = zi ++ [1]) := hz1 rfl
    clear hz0 hz1 h0
    have HRW := Lib.hid (row_of (B := w.heap.size) (Nat.le_refl _) HROW.out (by simp [dval]) HWR.out HOWN.out hzl (by unfold maxLen; omega))
    obtain ⟨i0, hi, hz0, hz1, hz2⟩ := info_parts Tryd.infoU
    have hxl : X.length + 1 ≤ maxLen := by unfold maxLen; omega
    go_wp2_with (at_builtin; (refine wpList_append_own_at _ rfl _ _ 22 rfl w.heap.size 64 i0 (.int .u32 0) 1 4 Tryd.underlying22 hi hz0 hz1 hz2 rfl (by decide) _ _ _ rfl (HRW.out.alloc _) ⟨w3.heap.size, 0, none⟩ 1 1 [.int .u32 1] rfl rfl (World.news_of_block (cs := #[.int .u32 1]) (t := 64) (fr := (0, 0)) (heap_alloc_new w3 _)) (fun x hx => by simp at hx; rw [hx]; rfl) hxl (by omega) (by have := HB3.out.size; simp; omega) ?_); intro v' w4 hown' hgrow' hnil' hblk; have HO4 := Lib.hid hown'; have HG4 := Lib.hid hgrow'; clear hown' hgrow' hnil' hblk)
    obtain ⟨_, hnil | ⟨g, cap, cur, hv', hbg, hg, hnc, hcm, hs, ht⟩⟩ := HO4.out
    · exact absurd hnil.2 (by omega)
    · subst hv'
      have HOW : Hid (Own w4 g 0 (zi ++ [1])) := own_of_row hbg (dgs_append HOWN.out.dgs (dgs_cons (by omega) dgs_nil)) hg (by simp [hzl]) hnc hs (by rw [ht]; simp [dval])
      have HB4 : Hid (Below w.heap.size w w4) := (HB3.out.alloc (by have := HB3.out.size; omega) _).grown HG4.out (by have := HB3.out.size; simp; omega) (fun k hk => by have h9 : some w.heap.size = some k := hk; injection h9 with h9; omega)
      clear HO4 HG4 hg hs ht
      go_ret
      refine ⟨some ⟨g, 0, none⟩, cap, by rw [HZ.out, List.length_append, hzl]; rfl, by rw [HZ.out]; exact HOW.out.rd (by rw [List.length_append, hzl]; exact hnc) hcm HOW.out.lt, fun a ha => by injection ha with ha; rw [← ha]; exact hbg, HB4.out⟩

set_option maxHeartbeats 1600000 in
set_option maxRecDepth 1000000 in
theorem sum_lt {B m n c1 c2 : Nat} {A1 A2 : Option Addr} (w : World) (h1 : Rd w B A1 c1 (digs m)) (h2 : Rd w B A2 c2 (digs n)) (hB : B ≤ w.heap.size) (hl : (digs n).length ≤ 1000000) (hle : (digs m).length < (digs n).length) :
    Calls Tryd.prog 71 #[.slice A1 (digs m).length c1, .slice A2 (digs n).length c2] w (MagRet w (m + n)) := by
  have hlc := h2.2.1
  have HE := Lib.hid (fun (zi : List Nat) (c : Nat) (hz : Dgs zi) (hc : c ≤ 1) (hzl : zi.length = (digs n).length) (hv : val zi + 4294967296 ^ (digs n).length * c = val (digs n) + val (digs m)) => sum_digits hz hc hzl (by rw [val_digs, val_digs] at hv; rw [hv, Nat.add_comm]) (show n ≤ m + n by omega))
  have HX := Lib.hid h2
  have HY := Lib.hid h1
  have HMK := Lib.hid (fun W => make_one (digs n).length W hl)
  have HSP : Hid (splice (List.replicate ((digs n).length + 1) (.int .u32 0)) 0 (dval (digs n)) = dval (digs n) ++ [.int .u32 0]) := splice_start _
  clear h1 h2
  generalize digs m = X at *
  generalize digs n = Y at *
  have hmk := HMK.out
  have hsz : (Tryd.prog.info? 64).map (·.size) = some 1 := by kernel_rfl
  have HSZ := Lib.hid hsz
  clear hsz HMK
  have HSRC := Lib.hid (copy_src HX.out hB)
  have hli : ((Y).length : Int) ≤ 1000000 := by omega
  have hb1 : (X.length : Int) < (Y.length : Int) := by omega
  go_enter Tryd.func71, Tryd.ntmps71
  go_wp2_with (first
    | (refine wpList_copy_splice rfl (.tmp 20) (.tmp 21) 22 22 rfl 64 Tryd.underlying22 HSZ.out (some ⟨w.heap.size, 0, none⟩) A2 Y.length (Y.length + 1) Y.length c2 rfl rfl w.heap.size 0 (List.replicate (Y.length + 1) (.int .u32 0)) 64 (by rw [List.toArray_replicate]; exact heap_alloc_new _ _) (dval Y) (by simp [dval]) (fun h0 => ⟨rfl, HSRC.out _ h0⟩) (by simp [dval]) (fun v hv => by obtain ⟨d, _, rfl⟩ := List.mem_map.1 hv; rfl) w.heap.size w ((Below.refl _ _).alloc (Nat.le_refl _) _) (Nat.le_refl _) ?_; intro w2 HCOP hb2; have HB2 := Lib.hid hb2; clear hb2)
    | (go_at_call 90; fail))
  have hcop := HCOP.out
  rw [HSP.out] at hcop
  have HROW := Lib.hid hcop
  have hs2 := HB2.out.size
  have HAD := Lib.hid (addTo_any (c1 := Y.length + 1) w2 (own_start HX.out.dgs HROW.out) (HY.out.below (HB2.out.mono hB)) hB (by omega) hl)
  clear hcop HCOP HSP HSRC hmk
  refine HAD.out.mono ?_
  rintro e w3 ⟨c, zi, rfl, hc, hzl, hv, hown, hwr⟩
  obtain ⟨hz0, hz1⟩ := HE.out zi c hown.dgs hc hzl hv
  have HB3 := Lib.hid (HB2.out.trans (hwr.below (B := w.heap.size) (Nat.le_refl _) (by omega)))
  have HOWN := Lib.hid hown
  have HWR := Lib.hid hwr
  clear hv HAD HE hown hwr
  by_cases h0 : c = 0
  · subst h0
    have HZ : Hid (digs (m + n) = zi) := hz0 rfl
    clear hz0 hz1
    go_wp2
    go_ret
    refine ⟨some ⟨w.heap.size, 0, none⟩, Y.length + 1, by rw [HZ.out, hzl]; rfl, by rw [HZ.out]; exact HOWN.out.rd (by omega) (by unfold maxLen; omega) HOWN.out.lt, fun a ha => by injection ha with ha; rw [← ha]; exact Nat.le_refl _, HB3.out⟩
  · obtain rfl : c = 1 := by omega
    have HZ : Hid (digs (m + n) = zi ++ [1]) := hz1 rfl
    clear hz0 hz1 h0
    have HRW := Lib.hid (row_of (B := w.heap.size) (Nat.le_refl _) HROW.out (by simp [dval]) HWR.out HOWN.out hzl (by unfold maxLen; omega))
    obtain ⟨i0, hi, hz0, hz1, hz2⟩ := info_parts Tryd.infoU
    have hxl : Y.length + 1 ≤ maxLen := by unfold maxLen; omega
    go_wp2_with (at_builtin; (refine wpList_append_own_at _ rfl _ _ 22 rfl w.heap.size 64 i0 (.int .u32 0) 1 4 Tryd.underlying22 hi hz0 hz1 hz2 rfl (by decide) _ _ _ rfl (HRW.out.alloc _) ⟨w3.heap.size, 0, none⟩ 1 1 [.int .u32 1] rfl rfl (World.news_of_block (cs := #[.int .u32 1]) (t := 64) (fr := (0, 0)) (heap_alloc_new w3 _)) (fun x hx => by simp at hx; rw [hx]; rfl) hxl (by omega) (by have := HB3.out.size; simp; omega) ?_); intro v' w4 hown' hgrow' hnil' hblk; have HO4 := Lib.hid hown'; have HG4 := Lib.hid hgrow'; clear hown' hgrow' hnil' hblk)
    obtain ⟨_, hnil | ⟨g, cap, cur, hv', hbg, hg, hnc, hcm, hs, ht⟩⟩ := HO4.out
    · exact absurd hnil.2 (by omega)
    · subst hv'
      have HOW : Hid (Own w4 g 0 (zi ++ [1])) := own_of_row hbg (dgs_append HOWN.out.dgs (dgs_cons (by omega) dgs_nil)) hg (by simp [hzl]) hnc hs (by rw [ht]; simp [dval])
      have HB4 : Hid (Below w.heap.size w w4) := (HB3.out.alloc (by have := HB3.out.size; omega) _).grown HG4.out (by have := HB3.out.size; simp; omega) (fun k hk => by have h9 : some w.heap.size = some k := hk; injection h9 with h9; omega)
      clear HO4 HG4 hg hs ht
      go_ret
      refine ⟨some ⟨g, 0, none⟩, cap, by rw [HZ.out, List.length_append, hzl]; rfl, by rw [HZ.out]; exact HOW.out.rd (by rw [List.length_append, hzl]; exact hnc) hcm HOW.out.lt, fun a ha => by injection ha with ha; rw [← ha]; exact hbg, HB4.out⟩

theorem sum_any {B m n c1 c2 : Nat} {A1 A2 : Option Addr} (w : World) (h1 : Rd w B A1 c1 (digs m)) (h2 : Rd w B A2 c2 (digs n)) (hB : B ≤ w.heap.size) (hm : (digs m).length ≤ 1000000) (hn : (digs n).length ≤ 1000000) :
    Calls Tryd.prog 71 #[.slice A1 (digs m).length c1, .slice A2 (digs n).length c2] w (MagRet w (m + n)) := by
  rcases Nat.lt_or_ge (digs m).length (digs n).length with h | h
  · exact sum_lt w h1 h2 hB hn h
  · exact sum_ge w h1 h2 hB hm h
end Go.Proofs.YtbijjiadokgmoaaDoor
