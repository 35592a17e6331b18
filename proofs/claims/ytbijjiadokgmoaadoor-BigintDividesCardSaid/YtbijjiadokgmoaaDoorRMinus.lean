/- Contracts of the reference's minus. -/
import Derived.Test.YtbijjiadokgmoaaDoorRPlus
namespace Go.Proofs.YtbijjiadokgmoaaDoor
open Go.RowKit

/-- The state of a difference behind k digits. -/
structure PSub (X Y zs : List Nat) (k c : Nat) : Prop where
  len : zs.length = k
  dgs : Dgs zs
  eq : val zs + val (Y.take k) = val (X.take k) + 4294967296 ^ k * c
theorem PSub.start (X Y : List Nat) : PSub X Y [] 0 0 := ⟨rfl, dgs_nil, by simp [val]⟩
theorem PSub.step {X Y zs : List Nat} {k c s e : Nat} (h : PSub X Y zs k c) (hk : k < X.length) (hs : s < 4294967296) (_ : e ≤ 1) (hq : s + Y.getD k 0 + c = X[k] + 4294967296 * e) : PSub X Y (zs ++ [s]) (k + 1) e := by
  refine ⟨by rw [List.length_append, h.len]; rfl, dgs_append h.dgs (dgs_cons hs dgs_nil), ?_⟩
  rw [val_append, h.len, val_take_get, val_take_succ hk, Nat.pow_succ]
  have h1 := mul4 (P := 4294967296 ^ k) hq
  have h2 := h.eq
  have h3 : val [s] = s := by simp [val]
  rw [h3]
  omega
theorem PSub.done {X Y zs : List Nat} {c : Nat} (h : PSub X Y zs X.length c) (hc : c ≤ 1) (hl : Y.length ≤ X.length) (hle : val Y ≤ val X) : val zs = val X - val Y := by
  have h2 := h.eq
  rw [List.take_length, List.take_of_length_le hl] at h2
  exact (Subs.exact h.dgs h.len hc h2 hle).2

set_option maxHeartbeats 1600000 in
set_option maxRecDepth 1000000 in
theorem rminus_any {B c1 c2 : Nat} {A1 A2 : Option Addr} {xs ys : List Nat} (w : World) (h1 : Rd w B A1 c1 xs) (h2 : Rd w B A2 c2 ys) (hB : B ≤ w.heap.size) (hx : xs.length ≤ 400000) (hy : ys.length ≤ xs.length) (hle : val ys ≤ val xs) :
    Calls Tryd.prog 67 #[.slice A1 xs.length c1, .slice A2 ys.length c2] w (fun e w' => ∃ A c zs, e = .returned (.slice A (List.length zs) c) ∧ Rd w' w'.heap.size A c zs ∧ val zs = val xs - val ys ∧ zs.length = xs.length ∧ Below w.heap.size w w') := by
  obtain ⟨i0, hi, hz0, hz1, hz2⟩ := info_parts Tryd.infoU
  have hlc1 := h1.2.1
  have hlc2 := h2.2.1
  have HX := Lib.hid h1
  have HY := Lib.hid h2
  have HLE := Lib.hid hle
  clear h1 h2 hle
  go_enter Tryd.func67, Tryd.ntmps67
  go_wp2
  go_loopw [5, 6, 7, 8, 9] (fun v C I _ _ wr => ∃ (k c : Nat) (zs : List Nat), I = .int .i64 k ∧ C = .int .u64 c ∧ c ≤ 1 ∧ k ≤ xs.length ∧ Hid (PSub xs ys zs k c) ∧ Hid (Rows w wr v zs)) (fun _ _ I _ _ _ => xs.length - (intOf I).toNat)
  case atStart => exact ⟨0, 0, [], rfl, rfl, by omega, by omega, PSub.start _ _, Rows.start _⟩
  case round =>
    obtain ⟨k, c, zs, rfl, rfl, hc, hk, HP, HR⟩ := hrel
    have hsz := HR.out.below.size
    have hzl := HP.out.len
    have hci : (c : Int) ≤ 1 := by omega
    by_cases hl1 : k < xs.length
    · by_cases hl2 : k < ys.length
      · have hli1 : (k : Int) < (xs.length : Int) := by omega
        have HX2 := Lib.hid (HX.out.below (HR.out.below.mono hB))
        obtain ⟨b1, o1, rfl, _, hc1⟩ := HX2.out.at_ hl1
        have hd1 := HX2.out.dgs.get hl1
        have hli2 : (k : Int) < (ys.length : Int) := by omega
        have HY2 := Lib.hid (HY.out.below (HR.out.below.mono hB))
        obtain ⟨b2, o2, rfl, _, hc2⟩ := HY2.out.at_ hl2
        have hd2 := HY2.out.dgs.get hl2
        have GY : Hid (ys.getD k 0 = ys[k]) := by show _ = _; rw [List.getD_eq_getElem?_getD, List.getElem?_eq_getElem hl2]; rfl
        have HST : Hid (∀ s e : Nat, s < 4294967296 → e ≤ 1 → s + ys[k] + c = xs[k] + 4294967296 * e → PSub xs ys (zs ++ [s]) (k + 1) e) := fun s e hs he hq => HP.out.step hl1 hs he (by rw [GY.out]; exact hq)
        clear GY
        generalize xs[k] = x at *
        generalize ys[k] = y at *
        have hx1 : (x : Int) ≤ 4294967295 := by omega
        have hy1 : (y : Int) ≤ 4294967295 := by omega
        have hown := HR.out.1
        by_cases hlt : x < c + y
        · have hlti : (x : Int) < (c : Int) + (y : Int) := by omega
          clear hlt
          go_wp2_with (at_builtin; (refine wpList_append_own_at _ rfl _ _ 22 rfl w.heap.size 64 i0 (.int .u32 0) 1 4 Tryd.underlying22 hi hz0 hz1 hz2 rfl (by decide) _ _ _ rfl (hown.alloc _) ⟨wr.heap.size, 0, none⟩ 1 1 [.int .u32 _] rfl rfl (cell_one32 _ _ _) (fun x hx => by simp at hx; rw [hx]; rfl) (by unfold maxLen; omega) (by omega) (by simp; omega) ?_); intro v' w3 hown' hgrow' hnil' hblk; have HF := Lib.hid (Rows.next (d := x + 4294967296 - (c + y)) (by omega) HR.out hown' hgrow'); clear hown' hgrow' hnil' hblk hown)
          go_roundw
          case rel => exact ⟨k + 1, 1, zs ++ [x + 4294967296 - (c + y)], val_i (by omega), rfl, by omega, by omega, HST.out _ _ (by omega) (by omega) (by omega), HF.out⟩
          case measure => simp [intOf]; omega
        · have hlti : ¬ (x : Int) < (c : Int) + (y : Int) := by omega
          clear hlt
          go_wp2_with (at_builtin; (refine wpList_append_own_at _ rfl _ _ 22 rfl w.heap.size 64 i0 (.int .u32 0) 1 4 Tryd.underlying22 hi hz0 hz1 hz2 rfl (by decide) _ _ _ rfl (hown.alloc _) ⟨wr.heap.size, 0, none⟩ 1 1 [.int .u32 _] rfl rfl (cell_one32 _ _ _) (fun x hx => by simp at hx; rw [hx]; rfl) (by unfold maxLen; omega) (by omega) (by simp; omega) ?_); intro v' w3 hown' hgrow' hnil' hblk; have HF := Lib.hid (Rows.next (d := x - (c + y)) (by omega) HR.out hown' hgrow'); clear hown' hgrow' hnil' hblk hown)
          go_roundw
          case rel => exact ⟨k + 1, 0, zs ++ [x - (c + y)], val_i (by omega), rfl, by omega, by omega, HST.out _ _ (by omega) (by omega) (by omega), HF.out⟩
          case measure => simp [intOf]; omega
      · have hli1 : (k : Int) < (xs.length : Int) := by omega
        have HX2 := Lib.hid (HX.out.below (HR.out.below.mono hB))
        obtain ⟨b1, o1, rfl, _, hc1⟩ := HX2.out.at_ hl1
        have hd1 := HX2.out.dgs.get hl1
        have hli2 : ¬ (k : Int) < (ys.length : Int) := by omega
        have GY : Hid (ys.getD k 0 = 0) := by show _ = _; rw [List.getD_eq_getElem?_getD, List.getElem?_eq_none (by omega)]; rfl
        have HST : Hid (∀ s e : Nat, s < 4294967296 → e ≤ 1 → s + 0 + c = xs[k] + 4294967296 * e → PSub xs ys (zs ++ [s]) (k + 1) e) := fun s e hs he hq => HP.out.step hl1 hs he (by rw [GY.out]; exact hq)
        clear GY
        generalize xs[k] = x at *
        have hx1 : (x : Int) ≤ 4294967295 := by omega
        have hown := HR.out.1
        by_cases hlt : x < c
        · have hlti : (x : Int) < (c : Int) := by omega
          clear hlt
          go_wp2_with (at_builtin; (refine wpList_append_own_at _ rfl _ _ 22 rfl w.heap.size 64 i0 (.int .u32 0) 1 4 Tryd.underlying22 hi hz0 hz1 hz2 rfl (by decide) _ _ _ rfl (hown.alloc _) ⟨wr.heap.size, 0, none⟩ 1 1 [.int .u32 _] rfl rfl (cell_one32 _ _ _) (fun x hx => by simp at hx; rw [hx]; rfl) (by unfold maxLen; omega) (by omega) (by simp; omega) ?_); intro v' w3 hown' hgrow' hnil' hblk; have HF := Lib.hid (Rows.next (d := x + 4294967296 - (c)) (by omega) HR.out hown' hgrow'); clear hown' hgrow' hnil' hblk hown)
          go_roundw
          case rel => exact ⟨k + 1, 1, zs ++ [x + 4294967296 - (c)], val_i (by omega), rfl, by omega, by omega, HST.out _ _ (by omega) (by omega) (by omega), HF.out⟩
          case measure => simp [intOf]; omega
        · have hlti : ¬ (x : Int) < (c : Int) := by omega
          clear hlt
          go_wp2_with (at_builtin; (refine wpList_append_own_at _ rfl _ _ 22 rfl w.heap.size 64 i0 (.int .u32 0) 1 4 Tryd.underlying22 hi hz0 hz1 hz2 rfl (by decide) _ _ _ rfl (hown.alloc _) ⟨wr.heap.size, 0, none⟩ 1 1 [.int .u32 _] rfl rfl (cell_one32 _ _ _) (fun x hx => by simp at hx; rw [hx]; rfl) (by unfold maxLen; omega) (by omega) (by simp; omega) ?_); intro v' w3 hown' hgrow' hnil' hblk; have HF := Lib.hid (Rows.next (d := x - (c)) (by omega) HR.out hown' hgrow'); clear hown' hgrow' hnil' hblk hown)
          go_roundw
          case rel => exact ⟨k + 1, 0, zs ++ [x - (c)], val_i (by omega), rfl, by omega, by omega, HST.out _ _ (by omega) (by omega) (by omega), HF.out⟩
          case measure => simp [intOf]; omega
    · have hli1 : ¬ (k : Int) < (xs.length : Int) := by omega
      obtain rfl : k = xs.length := by omega
      clear hl1
      have HD := Lib.hid (HP.out.done (by omega) hy HLE.out)
      obtain ⟨A, cc, rfl, hr⟩ := HR.out.rd HP.out.dgs
      have HRD := Lib.hid hr
      clear hr
      go_wp2
      go_ret
      exact ⟨A, cc, zs, by rw [hzl]; rfl, HRD.out, HD.out, hzl, HR.out.below⟩
end Go.Proofs.YtbijjiadokgmoaaDoor
