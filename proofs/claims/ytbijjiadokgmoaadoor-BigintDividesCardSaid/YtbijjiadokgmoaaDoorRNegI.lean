/- Contracts of the reference's Neg, Abs and below. -/
import Derived.Test.YtbijjiadokgmoaaDoorRNorm
import Derived.Test.YtbijjiadokgmoaaDoorRaw
namespace Go.Proofs.YtbijjiadokgmoaaDoor
open Go.RowKit

set_option maxHeartbeats 1600000 in
set_option maxRecDepth 1000000 in
theorem rneg_any {B c1 : Nat} {A1 : Option Addr} {xs : List Nat} (n1 : Bool) (w : World) (h1 : Rd w B A1 c1 xs) (hB : B ≤ w.heap.size) (hx : xs.length ≤ 1000000) :
    Calls Tryd.prog 27 #[.agg #[.bool n1, .slice A1 xs.length c1]] w (IntRet w (sgn (!n1) (val xs))) := by
  have HS := Lib.hid (fun (W : World) (hb : Below w.heap.size w W) => rsigned_any (!n1) W (h1.below (hb.mono hB)) (by have := hb.size; omega) hx)
  clear h1 hB hx
  generalize sgn (!n1) (val xs) = z at *
  generalize xs.length = l at *
  obtain ⟨W, HWE, x1, x2, hr, hsz, hb0⟩ := boxes2 w (.bool n1) (.slice A1 l c1) (.bool false) (.slice none 0 0) 24
  have HR := Lib.hid hr
  have HSZ := Lib.hid hsz
  have HB0 := Lib.hid hb0
  clear hr hsz hb0
  subst HWE
  go_enter Tryd.func27, Tryd.ntmps27
  go_wp2_with (go_at_call 60; fail)
  refine (HS.out _ HB0.out).mono ?_
  rintro e w2 ⟨v, rfl, hi, hb2⟩
  have HX0 : Hid (w2.heap[w.heap.size + 1]? = some (.cells #[.bool false, .slice none 0 0] 24 (0, 0))) := (hb2.block _ (by rw [HSZ.out]; omega)).trans HR.out
  obtain ⟨z1, z2, z3, z4⟩ := two_of_block HX0.out
  have HI := Lib.hid hi
  obtain ⟨A', c', rfl, _, _⟩ := hi
  have HB2 : Hid (Below w.heap.size w w2) := HB0.out.trans (hb2.mono (by rw [HSZ.out]; omega))
  clear hb2
  go_wp2
  refine bodyPost_ret (v := .agg #[.bool (decide (z < 0)), .slice A' (digs z.natAbs).length c']) ?_ rfl ⟨_, rfl, HI.out.stored2 (by have := HSZ.out; omega) (by have := HSZ.out; omega) _ _, ?_⟩
  · simp [results, Tryd.results27, go_sem, z1, z2]
  exact (HB2.out.setCell (by simp) _).setCell (by simp) _
set_option maxHeartbeats 1600000 in
set_option maxRecDepth 1000000 in
theorem rabs_any {B c1 : Nat} {A1 : Option Addr} {xs : List Nat} (n1 : Bool) (w : World) (h1 : Rd w B A1 c1 xs) (hB : B ≤ w.heap.size) (hx : xs.length ≤ 1000000) :
    Calls Tryd.prog 29 #[.agg #[.bool n1, .slice A1 xs.length c1]] w (IntRet w (sgn false (val xs))) := by
  have HS := Lib.hid (fun (W : World) (hb : Below w.heap.size w W) => rsigned_any false W (h1.below (hb.mono hB)) (by have := hb.size; omega) hx)
  clear h1 hB hx
  generalize sgn false (val xs) = z at *
  generalize xs.length = l at *
  obtain ⟨W, HWE, x1, x2, hr, hsz, hb0⟩ := boxes2 w (.bool n1) (.slice A1 l c1) (.bool false) (.slice none 0 0) 24
  have HR := Lib.hid hr
  have HSZ := Lib.hid hsz
  have HB0 := Lib.hid hb0
  clear hr hsz hb0
  subst HWE
  go_enter Tryd.func29, Tryd.ntmps29
  go_wp2_with (go_at_call 60; fail)
  refine (HS.out _ HB0.out).mono ?_
  rintro e w2 ⟨v, rfl, hi, hb2⟩
  have HX0 : Hid (w2.heap[w.heap.size + 1]? = some (.cells #[.bool false, .slice none 0 0] 24 (0, 0))) := (hb2.block _ (by rw [HSZ.out]; omega)).trans HR.out
  obtain ⟨z1, z2, z3, z4⟩ := two_of_block HX0.out
  have HI := Lib.hid hi
  obtain ⟨A', c', rfl, _, _⟩ := hi
  have HB2 : Hid (Below w.heap.size w w2) := HB0.out.trans (hb2.mono (by rw [HSZ.out]; omega))
  clear hb2
  go_wp2
  refine bodyPost_ret (v := .agg #[.bool (decide (z < 0)), .slice A' (digs z.natAbs).length c']) ?_ rfl ⟨_, rfl, HI.out.stored2 (by have := HSZ.out; omega) (by have := HSZ.out; omega) _ _, ?_⟩
  · simp [results, Tryd.results29, go_sem, z1, z2]
  exact (HB2.out.setCell (by simp) _).setCell (by simp) _
section
variable {w : World} {B l1 : Nat} {v1 : Value} {a : Int}
theorem rneg_raw (h1 : Raw w B v1 a l1) (hB : B ≤ w.heap.size) (b1 : l1 ≤ 1000000) : Calls Tryd.prog 27 #[v1] w (IntRet w (-a)) := by
  obtain ⟨n, A, c, xs, rfl, r1, rfl, k1⟩ := h1
  rw [show -sgn n (val xs) = sgn (!n) (val xs) by cases n <;> simp [sgn]]
  exact rneg_any n w r1 hB (by omega)
theorem rabs_raw (h1 : Raw w B v1 a l1) (hB : B ≤ w.heap.size) (b1 : l1 ≤ 1000000) : Calls Tryd.prog 29 #[v1] w (IntRet w (a.natAbs : Int)) := by
  obtain ⟨n, A, c, xs, rfl, r1, rfl, k1⟩ := h1
  rw [sgn_abs]
  exact rabs_any n w r1 hB (by omega)
end

set_option maxHeartbeats 1600000 in
set_option maxRecDepth 1000000 in
theorem rbelow_len {m n c1 c2 : Nat} {A1 A2 : Option Addr} (w : World) (hne : (digs m).length ≠ (digs n).length) :
    Calls Tryd.prog 66 #[.slice A1 (digs m).length c1, .slice A2 (digs n).length c2] w fun e w' => e = .returned (.bool (decide (m < n))) ∧ w = w' := by
  have HE : Hid (decide ((digs m).length < (digs n).length) = decide (m < n)) := by
    rcases Nat.lt_or_ge (digs m).length (digs n).length with h | h
    · rw [Hid, decide_eq_true h, decide_eq_true (digs_len_lt h)]
    · have : n < m := digs_len_lt (by omega)
      rw [Hid, decide_eq_false (by omega), decide_eq_false (by omega)]
  have hb : (((digs m).length : Int) != ((digs n).length : Int)) = true := by rw [bne_iff_ne]; omega
  clear hne
  generalize (digs m).length = a at *
  generalize (digs n).length = b at *
  go_enter Tryd.func66, Tryd.ntmps66
  go_wp2
  go_ret
  exact ⟨by rw [← HE.out]; rfl, rfl⟩
set_option maxHeartbeats 1600000 in
set_option maxRecDepth 1000000 in
theorem rbelow_same {B m n c1 c2 : Nat} {A1 A2 : Option Addr} (w : World) (h1 : Rd w B A1 c1 (digs m)) (h2 : Rd w B A2 c2 (digs n)) (hm : (digs m).length ≤ 1000000) (he : (digs m).length = (digs n).length) :
    Calls Tryd.prog 66 #[.slice A1 (digs m).length c1, .slice A2 (digs n).length c2] w fun e w' => e = .returned (.bool (decide (m < n))) ∧ ∃ q, w' = w.drewN q := by
  have hl1 := h1.2.1
  have hl2 := h2.2.1
  have HV : Hid (∀ k (_ : k < (digs m).length) (_ : k < (digs n).length), (digs m).drop (k + 1) = (digs n).drop (k + 1) → ((digs m)[k] < (digs n)[k] → decide (m < n) = true) ∧ ((digs n)[k] < (digs m)[k] → decide (m < n) = false)) := fun k hk1 hk2 hd => by
    constructor
    · intro hlt
      have := val_lt_of (dgs_digs m) he hk1 hk2 hlt hd
      rw [val_digs, val_digs] at this
      exact decide_eq_true this
    · intro hlt
      have := val_lt_of (dgs_digs n) he.symm hk2 hk1 hlt hd.symm
      rw [val_digs, val_digs] at this
      exact decide_eq_false (by omega)
  have HQ : Hid ((digs m).drop 0 = (digs n).drop 0 → decide (m < n) = false) := fun h => by
    rw [List.drop_zero, List.drop_zero] at h
    rw [digs_inj h]; exact decide_eq_false (by omega)
  have HR1 := Lib.hid h1
  have HR2 := Lib.hid h2
  clear h1 h2
  generalize decide (m < n) = res at *
  generalize digs m = X at *
  generalize digs n = Y at *
  have HE := Lib.hid he
  rw [← he] at hl2 ⊢
  clear he
  go_enter Tryd.func66, Tryd.ntmps66
  go_wp2
  go_loopw [5] (fun I wr => ∃ (k q : Nat) (z : Int), I = .int .i64 z ∧ z = (k : Int) - 1 ∧ k ≤ X.length ∧ Hid (X.drop k = Y.drop k) ∧ wr = w.drewN q) (fun I _ => (intOf I + 1).toNat)
  case atStart => exact ⟨X.length, 0, _, rfl, rfl, Nat.le_refl _, by show _ = _; rw [List.drop_length, HE.out, List.drop_length], rfl⟩
  case round =>
    obtain ⟨k, q, z, rfl, hz, hk, HDR, rfl⟩ := hrel
    cases k with
    | zero =>
      obtain rfl : z = -1 := by omega
      have HR := Lib.hid (HQ.out HDR.out)
      clear hz
      go_wp2
      go_ret
      exact ⟨by rw [HR.out]; rfl, q, rfl⟩
    | succ k =>
      obtain rfl : z = (k : Int) := by omega
      have hkx : k < X.length := by omega
      have hky : k < Y.length := by have := HE.out; omega
      have hkxi : (k : Int) < (X.length : Int) := by omega
      obtain ⟨b1, o1, rfl, _, hc1⟩ := HR1.out.at_ hkx
      obtain ⟨b2, o2, rfl, _, hc2⟩ := HR2.out.at_ hky
      have c1 := fun N => (show (w.drewN N).cell? ⟨b1, o1 + k, none⟩ = _ from hc1)
      have c2 := fun N => (show (w.drewN N).cell? ⟨b2, o2 + k, none⟩ = _ from hc2)
      have HVK := Lib.hid (HV.out k hkx hky HDR.out)
      have HDN : Hid (X[k] = Y[k] → X.drop k = Y.drop k) := fun he => by
        rw [← List.getElem_cons_drop hkx, ← List.getElem_cons_drop hky, he, HDR.out]
      have hd1 := (HR1.out.dgs).get hkx
      have hd2 := (HR2.out.dgs).get hky
      clear hz hc1 hc2
      generalize X[k] = x at *
      generalize Y[k] = y at *
      rcases Nat.lt_trichotomy x y with hlt | heq | hgt
      · have HR := Lib.hid (HVK.out.1 hlt)
        have hb1 : ((x : Int) != (y : Int)) = true := by rw [bne_iff_ne]; omega
        have hb2 : decide (x < y) = true := decide_eq_true (by omega)
        clear hlt
        go_wp2
        go_quiet (fail)
        go_wp2
        go_quiet (fail)
        go_wp2
        go_ret
        exact ⟨by rw [HR.out]; rfl, _, by first | rfl | exact World.drewN_drewN _ _ _ | (rw [World.drewN_drewN, World.drewN_drewN])⟩
      · have HR := Lib.hid (HDN.out heq)
        subst heq
        have hb1 : ((x : Int) != (x : Int)) = false := by simp
        go_wp2
        go_quiet (fail)
        go_wp2
        go_roundw
        case rel => exact ⟨k, _, _, rfl, by omega, by omega, HR.out, by first | rfl | exact World.drewN_drewN _ _ _⟩
        case measure => simp [intOf]
      · have HR := Lib.hid (HVK.out.2 hgt)
        have hb1 : ((x : Int) != (y : Int)) = true := by rw [bne_iff_ne]; omega
        have hb2 : decide (x < y) = false := decide_eq_false (by omega)
        clear hgt
        go_wp2
        go_quiet (fail)
        go_wp2
        go_quiet (fail)
        go_wp2
        go_ret
        exact ⟨by rw [HR.out]; rfl, _, by first | rfl | exact World.drewN_drewN _ _ _ | (rw [World.drewN_drewN, World.drewN_drewN])⟩
theorem rbelow_any {B m n c1 c2 : Nat} {A1 A2 : Option Addr} (w : World) (h1 : Rd w B A1 c1 (digs m)) (h2 : Rd w B A2 c2 (digs n)) (hm : (digs m).length ≤ 1000000) :
    Calls Tryd.prog 66 #[.slice A1 (digs m).length c1, .slice A2 (digs n).length c2] w fun e w' => e = .returned (.bool (decide (m < n))) ∧ ∃ q, w' = w.drewN q := by
  by_cases he : (digs m).length = (digs n).length
  · exact rbelow_same w h1 h2 hm he
  · exact (rbelow_len w he).mono fun e w' ⟨h, hw⟩ => ⟨h, 0, hw.symm⟩
end Go.Proofs.YtbijjiadokgmoaaDoor
