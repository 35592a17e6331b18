/- The contract of the reference's Same. -/
import Derived.Test.YtbijjiadokgmoaaDoorCmpI
namespace Go.Proofs.YtbijjiadokgmoaaDoor
open Go.RowKit

/-- Two integers in memory have the same fields. -/
def sameB (n1 n2 : Bool) (xs ys : List Nat) : Bool := n1 == n2 && decide (xs = ys)

set_option maxHeartbeats 1600000 in
set_option maxRecDepth 1000000 in
theorem same_neg {c1 c2 l1 l2 : Nat} {A1 A2 : Option Addr} (n1 n2 : Bool) (w : World) (hn : (n1 == n2) = false) :
    Calls Tryd.prog 18 #[.agg #[.bool n1, .slice A1 l1 c1], .agg #[.bool n2, .slice A2 l2 c2]] w fun e w' => e = .returned (.bool false) ∧ Below w.heap.size w w' := by
  go_enter Tryd.func18, Tryd.ntmps18
  go_wp2
  go_ret
  exact ⟨rfl, ((Below.refl _ _).alloc (Nat.le_refl _) _).alloc (by simp) _⟩
set_option maxHeartbeats 1600000 in
set_option maxRecDepth 1000000 in
theorem same_len {c1 c2 l1 l2 : Nat} {A1 A2 : Option Addr} (n : Bool) (w : World) (hn : l1 ≠ l2) :
    Calls Tryd.prog 18 #[.agg #[.bool n, .slice A1 l1 c1], .agg #[.bool n, .slice A2 l2 c2]] w fun e w' => e = .returned (.bool false) ∧ Below w.heap.size w w' := by
  have hb : ((l1 : Int) != (l2 : Int)) = true := by rw [bne_iff_ne]; omega
  go_enter Tryd.func18, Tryd.ntmps18
  go_wp2
  go_ret
  exact ⟨rfl, ((Below.refl _ _).alloc (Nat.le_refl _) _).alloc (by simp) _⟩

theorem take_succ_eq {xs ys : List Nat} {k : Nat} (h : xs.take k = ys.take k) (h1 : k < xs.length) (h2 : k < ys.length) (he : xs[k] = ys[k]) : xs.take (k + 1) = ys.take (k + 1) := by
  rw [List.take_succ_eq_append_getElem h1, List.take_succ_eq_append_getElem h2, h, he]
set_option maxHeartbeats 1600000 in
set_option maxRecDepth 1000000 in
theorem same_eq {B c1 c2 : Nat} {A1 A2 : Option Addr} {xs ys : List Nat} (n : Bool) (w : World) (h1 : Rd w B A1 c1 xs) (h2 : Rd w B A2 c2 ys) (hB : B ≤ w.heap.size) (hx : xs.length ≤ 1000000) (hl : xs.length = ys.length) :
    Calls Tryd.prog 18 #[.agg #[.bool n, .slice A1 xs.length c1], .agg #[.bool n, .slice A2 ys.length c2]] w fun e w' => e = .returned (.bool (decide (xs = ys))) ∧ Below w.heap.size w w' := by
  have hlc1 := h1.2.1
  have hlc2 := h2.2.1
  have HL := Lib.hid hl
  rw [← hl] at hlc2 ⊢
  clear hl
  obtain ⟨W, HWE, x1, x2, y1, y2, hsz, hb0⟩ := boxesD w (.bool n) (.slice A1 xs.length c1) (.bool n) (.slice A2 xs.length c2) 24
  have HB0 := Lib.hid hb0
  have HR1 := Lib.hid (h1.below (hb0.mono hB))
  have HR2 := Lib.hid (h2.below (hb0.mono hB))
  clear h1 h2 hsz hb0
  subst HWE
  go_enter Tryd.func18, Tryd.ntmps18
  go_wp2
  generalize (w.alloc (.cells #[.bool n, .slice A1 xs.length c1] 24)).alloc (.cells #[.bool n, .slice A2 xs.length c2] 24) = W at *
  have d1 := fun N => (show (W.drewN N).cell? ⟨w.heap.size, 0, none⟩ = _ from x1)
  have d2 := fun N => (show (W.drewN N).cell? ⟨w.heap.size, 1, none⟩ = _ from x2)
  have d3 := fun N => (show (W.drewN N).cell? ⟨w.heap.size + 1, 0, none⟩ = _ from y1)
  have d4 := fun N => (show (W.drewN N).cell? ⟨w.heap.size + 1, 1, none⟩ = _ from y2)
  clear x1 x2 y1 y2
  go_loopw [5] (fun I wr => ∃ k q : Nat, I = .int .i64 k ∧ k ≤ xs.length ∧ Hid (xs.take k = ys.take k) ∧ wr = W.drewN q) (fun I _ => xs.length - (intOf I).toNat)
  case atStart => exact ⟨0, 0, rfl, Nat.zero_le _, (by show _ = _; simp), rfl⟩
  case round =>
    obtain ⟨k, q, rfl, hk, HT, rfl⟩ := hrel
    by_cases hlt : k < xs.length
    · have hlti : (k : Int) < (xs.length : Int) := by omega
      have hlty : k < ys.length := by have := HL.out; omega
      obtain ⟨b1, o1, rfl, _, hc1⟩ := HR1.out.at_ hlt
      obtain ⟨b2, o2, rfl, _, hc2⟩ := HR2.out.at_ hlty
      have e1 := fun N => (show (W.drewN N).cell? ⟨b1, o1 + k, none⟩ = _ from hc1)
      have e2 := fun N => (show (W.drewN N).cell? ⟨b2, o2 + k, none⟩ = _ from hc2)
      have HS : Hid (xs[k] = ys[k] → xs.take (k + 1) = ys.take (k + 1)) := take_succ_eq HT.out hlt hlty
      have HN : Hid (xs[k] ≠ ys[k] → xs ≠ ys) := fun hne e => hne (by subst e; rfl)
      clear hc1 hc2
      generalize xs[k] = x at *
      generalize ys[k] = y at *
      by_cases he : x = y
      · have HT2 := Lib.hid (HS.out he)
        subst he
        have hbb : ((x : Int) != (x : Int)) = false := by simp
        go_wp2
        go_quiet (fail)
        go_wp2
        go_roundw
        case rel => exact ⟨k + 1, _, by go_num, hlt, HT2.out, by first | rfl | exact World.drewN_drewN _ _ _⟩
        case measure => simp [intOf]; omega
      · have HN2 := Lib.hid (HN.out he)
        have hbb : ((x : Int) != (y : Int)) = true := by rw [bne_iff_ne]; omega
        clear he
        go_wp2
        go_quiet (fail)
        go_wp2
        go_ret
        exact ⟨by rw [decide_eq_false HN2.out]; rfl, by first | exact below_drewN HB0.out _ | exact below_drewN (below_drewN HB0.out _) _⟩
    · have hn1 : ¬ (k : Int) < (xs.length : Int) := by omega
      have HE : Hid (xs = ys) := by
        have := HT.out
        rwa [List.take_of_length_le (by omega), List.take_of_length_le (by have := HL.out; omega)] at this
      go_wp2
      go_ret
      exact ⟨by rw [decide_eq_true HE.out]; rfl, below_drewN HB0.out _⟩

theorem same_any {B c1 c2 : Nat} {A1 A2 : Option Addr} {xs ys : List Nat} (n1 n2 : Bool) (w : World) (h1 : Rd w B A1 c1 xs) (h2 : Rd w B A2 c2 ys) (hB : B ≤ w.heap.size) (hx : xs.length ≤ 1000000) :
    Calls Tryd.prog 18 #[.agg #[.bool n1, .slice A1 xs.length c1], .agg #[.bool n2, .slice A2 ys.length c2]] w fun e w' => e = .returned (.bool (sameB n1 n2 xs ys)) ∧ Below w.heap.size w w' := by
  unfold sameB
  by_cases hn : n1 = n2
  · subst hn
    by_cases hl : xs.length = ys.length
    · rw [beq_self_eq_true, Bool.true_and]
      exact same_eq n1 w h1 h2 hB hx hl
    · rw [decide_eq_false (fun e => hl (by rw [e])), Bool.and_false]
      exact same_len n1 w hl
  · have hb : (n1 == n2) = false := by rw [beq_eq_false_iff_ne]; exact hn
    rw [hb, Bool.false_and]
    exact same_neg n1 n2 w hb

/-- Two normalized integers in memory have the same fields when they are equal. -/
theorem same_int {w1 w2 w : World} {v1 v2 : Value} {z1 z2 : Int} (h1 : IntIn w1 w v1 z1) (h2 : IntIn w2 w v2 z2) (hl : (digs z1.natAbs).length ≤ 1000000) :
    Calls Tryd.prog 18 #[v1, v2] w fun e w' => e = .returned (.bool (decide (z1 = z2))) ∧ Below w.heap.size w w' := by
  obtain ⟨A1, c1, rfl, r1, _⟩ := h1
  obtain ⟨A2, c2, rfl, r2, _⟩ := h2
  have := same_any (decide (z1 < 0)) (decide (z2 < 0)) w r1 r2 (Nat.le_refl _) hl
  have e : sameB (decide (z1 < 0)) (decide (z2 < 0)) (digs z1.natAbs) (digs z2.natAbs) = decide (z1 = z2) := by
    unfold sameB
    by_cases hz : z1 = z2
    · subst hz; simp
    · rw [decide_eq_false hz]
      by_cases hn : (decide (z1 < 0)) = decide (z2 < 0)
      · have hd : decide (digs z1.natAbs = digs z2.natAbs) = false := by
          refine decide_eq_false (fun e => hz ?_)
          have h3 := digs_inj e
          have h4 : z1 < 0 ↔ z2 < 0 := by simpa using hn
          by_cases h5 : z1 < 0
          · have := h4.1 h5; omega
          · have : ¬ z2 < 0 := fun h => h5 (h4.2 h)
            omega
        rw [hd, Bool.and_false]
      · have hb : (decide (z1 < 0) == decide (z2 < 0)) = false := by rw [beq_eq_false_iff_ne]; exact hn
        rw [hb, Bool.false_and]
  rwa [e] at this
end Go.Proofs.YtbijjiadokgmoaaDoor
