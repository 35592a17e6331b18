/- Contracts of the reference's plus. -/
import Derived.Test.YtbijjiadokgmoaaDoorRNegI
namespace Go.Proofs.YtbijjiadokgmoaaDoor
open Go.RowKit

theorem cell_one32 (w : World) (a : Value) (t : TypeId) : ∀ j u, [a][j]? = some u → (w.alloc (.cells #[a] t)).cell? ((⟨w.heap.size, 0, none⟩ : Addr).add j) = some u := by
  intro j u hj
  match j, hj with
  | 0, hj => simp at hj; subst hj; simp [Addr.add]
theorem val_i {k : IntKind} {a b : Int} (h : a = b) : Value.int k a = Value.int k b := by rw [h]
/-- A row of digits that lies above the start. -/
def Rows (w wr : World) (v : Value) (zs : List Nat) : Prop := wr.ownsRow w.heap.size 64 1 v zs.length (dval zs) ∧ Below w.heap.size w wr
theorem Rows.below {w wr : World} {v : Value} {zs : List Nat} (h : Rows w wr v zs) : Below w.heap.size w wr := h.2
theorem Rows.start (w : World) : Rows w w (.slice none 0 0) [] := ⟨World.ownsRow_nil _ _ _ _, Below.refl _ _⟩
theorem Rows.next {w wr w3 : World} {v v' : Value} {zs : List Nat} {d : Nat} {y : Int} {o : Obj} (hy : y = (d : Int)) (h : Rows w wr v zs)
    (hown' : w3.ownsRow w.heap.size 64 1 v' (zs.length + 1) (dval zs ++ [.int .u32 y])) (hg : (wr.alloc o).grownBy w3 v.ownBlock) : Rows w w3 v' (zs ++ [d]) := by
  subst hy
  have hs := h.2.size
  refine ⟨?_, (h.2.alloc hs o).grown hg (by simp; omega) (fun j hj => (h.1.lt j hj).1)⟩
  rw [List.length_append, show dval (zs ++ [d]) = dval zs ++ [.int .u32 (d : Int)] by simp [dval]]
  exact hown'
theorem Rows.rd {w wr : World} {v : Value} {zs : List Nat} (h : Rows w wr v zs) (hd : Dgs zs) : ∃ A c, v = .slice A zs.length c ∧ Rd wr wr.heap.size A c zs := by
  obtain ⟨⟨_, ⟨h1, h2⟩ | ⟨g, cap, cur, hv, hbg, hg, hnc, hcm, hs, ht⟩⟩, _⟩ := h
  · have h3 : zs = [] := List.eq_nil_of_length_eq_zero (by simpa using h2)
    exact ⟨none, 0, by rw [h1, h3]; rfl, by rw [h3]; exact Rd.nil _ _⟩
  · have ho := own_of_row hbg hd hg rfl hnc hs ht
    exact ⟨some ⟨g, 0, none⟩, cap, hv, ho.rd hnc hcm ho.lt⟩
/-- The state of a sum behind k digits. -/
structure PAdd (X Y zs : List Nat) (k c : Nat) : Prop where
  len : zs.length = k
  dgs : Dgs zs
  eq : val zs + 4294967296 ^ k * c = val (X.take k) + val (Y.take k)
theorem PAdd.start (X Y : List Nat) : PAdd X Y [] 0 0 := ⟨rfl, dgs_nil, by simp [val]⟩
theorem PAdd.step {X Y zs : List Nat} {k c s e : Nat} (h : PAdd X Y zs k c) (hs : s < 4294967296) (_ : e ≤ 1) (hq : X.getD k 0 + Y.getD k 0 + c = s + 4294967296 * e) : PAdd X Y (zs ++ [s]) (k + 1) e := by
  refine ⟨by rw [List.length_append, h.len]; rfl, dgs_append h.dgs (dgs_cons hs dgs_nil), ?_⟩
  rw [val_append, h.len, val_take_get, val_take_get, Nat.pow_succ]
  have h1 := mul4 (P := 4294967296 ^ k) hq
  have h2 := h.eq
  have h3 : val [s] = s := by simp [val]
  rw [h3]
  omega
theorem PAdd.done {X Y zs : List Nat} {k c : Nat} (h : PAdd X Y zs k c) (hx : X.length ≤ k) (hy : Y.length ≤ k) : val (zs ++ [c]) = val X + val Y := by
  have h2 := h.eq
  rw [List.take_of_length_le hx, List.take_of_length_le hy] at h2
  rw [val_append, h.len, ← h2]; simp [val]

set_option maxHeartbeats 1600000 in
set_option maxRecDepth 1000000 in
theorem rplus_any {B c1 c2 : Nat} {A1 A2 : Option Addr} {xs ys : List Nat} (w : World) (h1 : Rd w B A1 c1 xs) (h2 : Rd w B A2 c2 ys) (hB : B ≤ w.heap.size) (hx : xs.length ≤ 400000) (hy : ys.length ≤ 400000) :
    Calls Tryd.prog 65 #[.slice A1 xs.length c1, .slice A2 ys.length c2] w (fun e w' => ∃ A c zs, e = .returned (.slice A (List.length zs) c) ∧ Rd w' w'.heap.size A c zs ∧ val zs = val xs + val ys ∧ zs.length ≤ xs.length + ys.length + 1 ∧ Below w.heap.size w w') := by
  obtain ⟨i0, hi, hz0, hz1, hz2⟩ := info_parts Tryd.infoU
  have hlc1 := h1.2.1
  have hlc2 := h2.2.1
  have HX := Lib.hid h1
  have HY := Lib.hid h2
  clear h1 h2
  go_enter Tryd.func65, Tryd.ntmps65
  go_wp2
  go_loopw [5, 6, 7, 8] (fun v C I _ wr => ∃ (k c : Nat) (zs : List Nat), I = .int .i64 k ∧ C = .int .u64 c ∧ c ≤ 1 ∧ k ≤ xs.length + ys.length ∧ Hid (PAdd xs ys zs k c) ∧ Hid (Rows w wr v zs)) (fun _ _ I _ _ => xs.length + ys.length - (intOf I).toNat)
  case atStart => exact ⟨0, 0, [], rfl, rfl, by omega, by omega, PAdd.start _ _, Rows.start _⟩
  case round =>
    obtain ⟨k, c, zs, rfl, rfl, hc, hk, HP, HR⟩ := hrel
    have hsz := HR.out.below.size
    have hzl := HP.out.len
    have hci : (c : Int) ≤ 1 := by omega
    by_cases hl1 : k < xs.length
    · by_cases hl2 : k < ys.length
      · have hli1 : (k : Int) < (xs.length : Int) := by omega
        have HX2 := Lib.hid (HX.out.below (HR.out.below.mono hB))
        obtain ⟨b1, o1, rfl, _, hc1⟩ := HX2.out.at_ hl1
        have hd1 := HX2.out.dgs.get hl1
        have GX : Hid (xs.getD k 0 = xs[k]) := by show _ = _; rw [List.getD_eq_getElem?_getD, List.getElem?_eq_getElem hl1]; rfl
        have hli2 : (k : Int) < (ys.length : Int) := by omega
        have HY2 := Lib.hid (HY.out.below (HR.out.below.mono hB))
        obtain ⟨b2, o2, rfl, _, hc2⟩ := HY2.out.at_ hl2
        have hd2 := HY2.out.dgs.get hl2
        have GY : Hid (ys.getD k 0 = ys[k]) := by show _ = _; rw [List.getD_eq_getElem?_getD, List.getElem?_eq_getElem hl2]; rfl
        have HST : Hid (∀ s e : Nat, s < 4294967296 → e ≤ 1 → xs[k] + ys[k] + c = s + 4294967296 * e → PAdd xs ys (zs ++ [s]) (k + 1) e) := fun s e hs he hq => HP.out.step hs he (by rw [GX.out, GY.out]; exact hq)
        clear GX GY
        generalize xs[k] = x at *
        generalize ys[k] = y at *
        have hx1 : (x : Int) ≤ 4294967295 := by omega
        have hy1 : (y : Int) ≤ 4294967295 := by omega
        have hown := HR.out.1
        go_wp2_with (at_builtin; (refine wpList_append_own_at _ rfl _ _ 22 rfl w.heap.size 64 i0 (.int .u32 0) 1 4 Tryd.underlying22 hi hz0 hz1 hz2 rfl (by decide) _ _ _ rfl (hown.alloc _) ⟨wr.heap.size, 0, none⟩ 1 1 [.int .u32 _] rfl rfl (cell_one32 _ _ _) (fun x hx => by simp at hx; rw [hx]; rfl) (by unfold maxLen; omega) (by omega) (by simp; omega) ?_); intro v' w3 hown' hgrow' hnil' hblk; have HF := Lib.hid (Rows.next (d := (c + x + y) % 4294967296) (by omega) HR.out hown' hgrow'); clear hown' hgrow' hnil' hblk hown)
        go_roundw
        case rel => exact ⟨k + 1, (c + x + y) / 4294967296, zs ++ [(c + x + y) % 4294967296], val_i (by omega), val_i (by omega), by omega, by omega, HST.out _ _ (Nat.mod_lt _ (by omega)) (by omega) (by omega), HF.out⟩
        case measure => simp [intOf]; omega
      · have hli1 : (k : Int) < (xs.length : Int) := by omega
        have HX2 := Lib.hid (HX.out.below (HR.out.below.mono hB))
        obtain ⟨b1, o1, rfl, _, hc1⟩ := HX2.out.at_ hl1
        have hd1 := HX2.out.dgs.get hl1
        have GX : Hid (xs.getD k 0 = xs[k]) := by show _ = _; rw [List.getD_eq_getElem?_getD, List.getElem?_eq_getElem hl1]; rfl
        have hli2 : ¬ (k : Int) < (ys.length : Int) := by omega
        have GY : Hid (ys.getD k 0 = 0) := by show _ = _; rw [List.getD_eq_getElem?_getD, List.getElem?_eq_none (by omega)]; rfl
        have HST : Hid (∀ s e : Nat, s < 4294967296 → e ≤ 1 → xs[k] + 0 + c = s + 4294967296 * e → PAdd xs ys (zs ++ [s]) (k + 1) e) := fun s e hs he hq => HP.out.step hs he (by rw [GX.out, GY.out]; exact hq)
        clear GX GY
        generalize xs[k] = x at *
        have hx1 : (x : Int) ≤ 4294967295 := by omega
        have hown := HR.out.1
        go_wp2_with (at_builtin; (refine wpList_append_own_at _ rfl _ _ 22 rfl w.heap.size 64 i0 (.int .u32 0) 1 4 Tryd.underlying22 hi hz0 hz1 hz2 rfl (by decide) _ _ _ rfl (hown.alloc _) ⟨wr.heap.size, 0, none⟩ 1 1 [.int .u32 _] rfl rfl (cell_one32 _ _ _) (fun x hx => by simp at hx; rw [hx]; rfl) (by unfold maxLen; omega) (by omega) (by simp; omega) ?_); intro v' w3 hown' hgrow' hnil' hblk; have HF := Lib.hid (Rows.next (d := (c + x) % 4294967296) (by omega) HR.out hown' hgrow'); clear hown' hgrow' hnil' hblk hown)
        go_roundw
        case rel => exact ⟨k + 1, (c + x) / 4294967296, zs ++ [(c + x) % 4294967296], val_i (by omega), val_i (by omega), by omega, by omega, HST.out _ _ (Nat.mod_lt _ (by omega)) (by omega) (by omega), HF.out⟩
        case measure => simp [intOf]; omega
    · by_cases hl2 : k < ys.length
      · have hli1 : ¬ (k : Int) < (xs.length : Int) := by omega
        have GX : Hid (xs.getD k 0 = 0) := by show _ = _; rw [List.getD_eq_getElem?_getD, List.getElem?_eq_none (by omega)]; rfl
        have hli2 : (k : Int) < (ys.length : Int) := by omega
        have HY2 := Lib.hid (HY.out.below (HR.out.below.mono hB))
        obtain ⟨b2, o2, rfl, _, hc2⟩ := HY2.out.at_ hl2
        have hd2 := HY2.out.dgs.get hl2
        have GY : Hid (ys.getD k 0 = ys[k]) := by show _ = _; rw [List.getD_eq_getElem?_getD, List.getElem?_eq_getElem hl2]; rfl
        have HST : Hid (∀ s e : Nat, s < 4294967296 → e ≤ 1 → 0 + ys[k] + c = s + 4294967296 * e → PAdd xs ys (zs ++ [s]) (k + 1) e) := fun s e hs he hq => HP.out.step hs he (by rw [GX.out, GY.out]; exact hq)
        clear GX GY
        generalize ys[k] = y at *
        have hy1 : (y : Int) ≤ 4294967295 := by omega
        have hown := HR.out.1
        go_wp2_with (at_builtin; (refine wpList_append_own_at _ rfl _ _ 22 rfl w.heap.size 64 i0 (.int .u32 0) 1 4 Tryd.underlying22 hi hz0 hz1 hz2 rfl (by decide) _ _ _ rfl (hown.alloc _) ⟨wr.heap.size, 0, none⟩ 1 1 [.int .u32 _] rfl rfl (cell_one32 _ _ _) (fun x hx => by simp at hx; rw [hx]; rfl) (by unfold maxLen; omega) (by omega) (by simp; omega) ?_); intro v' w3 hown' hgrow' hnil' hblk; have HF := Lib.hid (Rows.next (d := (c + y) % 4294967296) (by omega) HR.out hown' hgrow'); clear hown' hgrow' hnil' hblk hown)
        go_roundw
        case rel => exact ⟨k + 1, (c + y) / 4294967296, zs ++ [(c + y) % 4294967296], val_i (by omega), val_i (by omega), by omega, by omega, HST.out _ _ (Nat.mod_lt _ (by omega)) (by omega) (by omega), HF.out⟩
        case measure => simp [intOf]; omega
      · have hli1 : ¬ (k : Int) < (xs.length : Int) := by omega
        have hli2 : ¬ (k : Int) < (ys.length : Int) := by omega
        have HD := Lib.hid (HP.out.done (by omega) (by omega))
        have hown := HR.out.1
        go_wp2_with (at_builtin; (refine wpList_append_own_at _ rfl _ _ 22 rfl w.heap.size 64 i0 (.int .u32 0) 1 4 Tryd.underlying22 hi hz0 hz1 hz2 rfl (by decide) _ _ _ rfl (hown.alloc _) ⟨wr.heap.size, 0, none⟩ 1 1 [.int .u32 _] rfl rfl (cell_one32 _ _ _) (fun x hx => by simp at hx; rw [hx]; rfl) (by unfold maxLen; omega) (by omega) (by simp; omega) ?_); intro v' w3 hown' hgrow' hnil' hblk; have HF := Lib.hid (Rows.next (d := c) (by omega) HR.out hown' hgrow'); clear hown' hgrow' hnil' hblk hown)
        obtain ⟨A, cc, rfl, hr⟩ := HF.out.rd (dgs_append HP.out.dgs (dgs_cons (by omega) dgs_nil))
        go_ret
        exact ⟨A, cc, zs ++ [c], rfl, hr, HD.out, by rw [List.length_append, hzl]; simp; omega, HF.out.below⟩
end Go.Proofs.YtbijjiadokgmoaaDoor
