/- The comparison of two lists of classes that are equal. -/
import Derived.Test.YtoledgfclmddmaaCl2L
namespace Go.Proofs.Ytoledgfclmddmaa
open Go.RowKit
set_option linter.unusedVariables false
set_option linter.unusedSimpArgs false

theorem ccs_append (W : Nat → Nat) (R : Nat → Bool) (P Q : List Nat) : ccs W R (P ++ Q) = ccs W R P ++ ccs W R Q := by simp [ccs]
theorem ccs_len (W : Nat → Nat) (R : Nat → Bool) : ∀ P : List Nat, (ccs W R P).length = P.length * 3
  | [] => rfl
  | p :: P => by
    have h : ccs W R (p :: P) = [.int .i64 (p : Nat), .int .i64 (W p : Nat), .bool (R p)] ++ ccs W R P := ccs_append W R [p] P
    rw [h, List.length_append, ccs_len W R P]; simp; omega
theorem ccs_get (W : Nat → Nat) (R : Nat → Bool) (P : List Nat) (k : Nat) (hk : k < P.length) :
    (ccs W R P)[k * 3]? = some (.int .i64 (P[k] : Nat)) ∧ (ccs W R P)[k * 3 + 1]? = some (.int .i64 (W P[k] : Nat)) ∧ (ccs W R P)[k * 3 + 2]? = some (.bool (R P[k])) := by
  have e : P = P.take k ++ ([P[k]] ++ P.drop (k + 1)) := by
    have h1 := List.take_append_drop k P
    rw [List.drop_eq_getElem_cons hk] at h1
    exact h1.symm
  have h : ccs W R P = ccs W R (P.take k) ++ ([.int .i64 (P[k] : Nat), .int .i64 (W P[k] : Nat), .bool (R P[k])] ++ ccs W R (P.drop (k + 1))) := by
    conv => lhs; rw [e]
    rw [ccs_append, ccs_append]
    rfl
  have hl : (ccs W R (P.take k)).length = k * 3 := by rw [ccs_len, List.length_take, Nat.min_eq_left (by omega)]
  rw [h]
  refine ⟨?_, ?_, ?_⟩
  · rw [List.getElem?_append_right (by omega), hl]; simp
  · rw [List.getElem?_append_right (by omega), hl, show k * 3 + 1 - k * 3 = 1 by omega]; simp
  · rw [List.getElem?_append_right (by omega), hl, show k * 3 + 2 - k * 3 = 2 by omega]; simp
/-- An own row of classes, read. -/
theorem cls_read {w : World} {B c : Nat} {A : Option Addr} {W : Nat → Nat} {R : Nat → Bool} {P : List Nat} (h : w.ownsRow B 46 3 (.slice A P.length c) P.length (ccs W R P)) {k : Nat} (hk : k < P.length) :
    ∃ g, A = some ⟨g, 0, none⟩ ∧ w.cell? ⟨g, k * 3, none⟩ = some (.int .i64 (P[k] : Nat)) ∧ w.cell? ⟨g, k * 3 + 1, none⟩ = some (.int .i64 (W P[k] : Nat)) ∧ w.cell? ⟨g, k * 3 + 2, none⟩ = some (.bool (R P[k])) := by
  obtain ⟨g, rfl⟩ : ∃ g, A = some ⟨g, 0, none⟩ := by
    rcases h.2 with ⟨_, h⟩ | ⟨g, _, _, h, _⟩
    · omega
    · cases h; exact ⟨g, rfl⟩
  obtain ⟨e0, e1, e2⟩ := ccs_get W R P k hk
  have c0 := h.cells (g := g) rfl _ _ e0
  have c1 := h.cells (g := g) rfl _ _ e1
  have c2 := h.cells (g := g) rfl _ _ e2
  rw [addr_add2, Nat.zero_add] at c0 c1 c2
  exact ⟨g, rfl, c0, c1, c2⟩
set_option maxHeartbeats 3200000 in
set_option maxRecDepth 1000000 in
theorem same24 {B1 B2 c1 c2 : Nat} {A1 A2 : Option Addr} {W : Nat → Nat} {R : Nat → Bool} {P : List Nat} (w : World) (h1 : w.ownsRow B1 46 3 (.slice A1 P.length c1) P.length (ccs W R P)) (h2 : w.ownsRow B2 46 3 (.slice A2 P.length c2) P.length (ccs W R P)) (hP : P.length ≤ 1152) :
    Calls Try.prog 11 #[.slice A1 P.length c1, .slice A2 P.length c2] w fun e w' => e = .returned (.bool true) ∧ Below w.heap.size w w' := by
  have H1 := Lib.hid h1
  have H2 := Lib.hid h2
  clear h1 h2
  go_enter Try.func11, Try.ntmps11
  go_wp2
  go_loopw [5] (fun i wr => ∃ (k n : Nat), k ≤ P.length ∧ i = .int .i64 k ∧ wr = w.drewN n) (fun i _ => P.length - (intOf i).toNat)
  case atStart => exact ⟨0, 0, Nat.zero_le _, rfl, rfl⟩
  case round =>
    obtain ⟨k, n, hk, rfl, rfl⟩ := hrel
    by_cases hlt : k < P.length
    · obtain ⟨g1, rfl, x0, x1, x2⟩ := cls_read H1.out hlt
      obtain ⟨g2, rfl, y0, y1, y2⟩ := cls_read H2.out hlt
      have hlt2 : (k : Int) < (P.length : Int) := by omega
      have a0 := fun N => (show (w.drewN N).cell? ⟨g1, k * 3, none⟩ = _ from x0)
      have a1 := fun N => (show (w.drewN N).cell? ⟨g1, k * 3 + 1, none⟩ = _ from x1)
      have a2 := fun N => (show (w.drewN N).cell? ⟨g1, k * 3 + 2, none⟩ = _ from x2)
      have b0 := fun N => (show (w.drewN N).cell? ⟨g2, k * 3, none⟩ = _ from y0)
      have b1 := fun N => (show (w.drewN N).cell? ⟨g2, k * 3 + 1, none⟩ = _ from y1)
      have b2 := fun N => (show (w.drewN N).cell? ⟨g2, k * 3 + 2, none⟩ = _ from y2)
      clear x0 x1 x2 y0 y1 y2
      generalize P[k] = q at *
      generalize W q = v at *
      generalize R q = r at *
      go_wp2
      go_quiet (fail)
      go_wp2
      go_roundw
      case rel => exact ⟨k + 1, _, hlt, by go_num, rfl⟩
      case measure => simp [intOf]; omega
    · have hkl : k = P.length := by omega
      subst hkl
      have hk3 : ¬ (P.length : Int) < (P.length : Int) := by omega
      go_wp2
      go_ret
      exact ⟨rfl, below_drewN (Below.refl _ _) _⟩
end Go.Proofs.Ytoledgfclmddmaa
