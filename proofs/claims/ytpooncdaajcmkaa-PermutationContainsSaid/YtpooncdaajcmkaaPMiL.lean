/- The contracts of Minus and of the code's classes. -/
import Derived.Test.YtpooncdaajcmkaaChkL
import Derived.Deep.DeepCutAuto
import Derived.Deep.CutBlock
import Derived.Deep.RegionHeld3
namespace Go.Proofs.Ytpooncdaajcmkaa
open Go.RowKit
set_option linter.unusedVariables false
set_option linter.unusedSimpArgs false

/-- An action that comes in: its lists are readable. -/
structure AI (w : World) (B bS oS bT oT : Nat) (S T : List Int) (cS cT : Nat) : Prop where
  act : Act2 S T
  zs : RdZ w B (some ⟨bS, oS, none⟩) cS S
  zt : RdZ w B (some ⟨bT, oT, none⟩) cT T
  s : RdN w B bS oS S.length (fnz S)
  t : RdN w B bT oT S.length (fnz T)
  le : B ≤ w.heap.size
theorem AI.below {w w' : World} {B bS oS bT oT : Nat} {S T : List Int} {cS cT : Nat} (h : AI w B bS oS bT oT S T cS cT) (hb : Below w.heap.size w w') : AI w' B bS oS bT oT S T cS cT :=
  ⟨h.act, h.zs.below (hb.mono h.le), h.zt.below (hb.mono h.le), h.s.below (hb.mono h.le), h.t.below (hb.mono h.le), Nat.le_trans h.le hb.size⟩
set_option maxHeartbeats 3200000 in
set_option maxRecDepth 1000000 in
theorem pminus_any {S T : List Int} {B bS oS bT oT cS cT : Nat} (w : World) (h : AI w B bS oS bT oT S T cS cT) :
    Calls Try.prog 21 #[.agg #[.slice (some ⟨bS, oS, none⟩) S.length cS, .slice (some ⟨bT, oT, none⟩) S.length cT]] w fun e w' => e = .returned (.tuple #[.bool (decide (fnz S (fnz S 0) = 0)), .int .i64 0]) ∧ Below w.heap.size w w' := by
  have HCk : Hid (∀ W, Below w.heap.size w W → Calls Try.prog 13 #[.agg #[.slice (some ⟨bS, oS, none⟩) S.length cS, .slice (some ⟨bT, oT, none⟩) S.length cT]] W fun e w' => e = .returned (.int .i64 0) ∧ Below W.heap.size W w') := fun W hb => by
    have := pcheck_any W (h.below hb).zs (h.below hb).zt (h.below hb).le
    rwa [chkA_ok h.act, h.act.len] at this
  have H := Lib.hid h
  have T0 : Hid ((w.alloc (.cells #[.slice (some ⟨bS, oS, none⟩) S.length cS, .slice (some ⟨bT, oT, none⟩) S.length cT] 24)).heap[w.heap.size]? = some (.cells #[.slice (some ⟨bS, oS, none⟩) S.length cS, .slice (some ⟨bT, oT, none⟩) S.length cT] 24 (0, 0))) := heap_alloc_new w _
  have HB0 : Hid (Below w.heap.size w (w.alloc (.cells #[.slice (some ⟨bS, oS, none⟩) S.length cS, .slice (some ⟨bT, oT, none⟩) S.length cT] 24))) := below1 w _
  have hpos := h.act.pos
  have h1 := h.act.ps.lt 0 (by omega)
  have h2 := h.act.ps.lt _ h1
  clear h
  have HV : Hid (∀ a b : Nat, (((a : Int) == (b : Int)) : Bool) = decide (a = b)) := fun a b => by rw [Bool.eq_iff_iff]; simp; omega
  obtain ⟨b, hb⟩ : ∃ b, b = decide (fnz S (fnz S 0) = 0) := ⟨_, rfl⟩
  rw [← hb]
  have HBb : Hid (b = decide (fnz S (fnz S 0) = 0)) := hb
  clear hb
  go_enter Try.func21, Try.ntmps21
  go_wp2_with (first
    | (go_at_call 13; ((with_reducible refine (HCk.out _ HB0.out).mono ?_); rintro e w1 ⟨rfl, hb⟩; have HB1 := Lib.hid (bel0 HB0.out hb); have T1 := Lib.hid (block_below T0.out hb); have HI1 := Lib.hid (H.out.below HB1.out); clear hb))
    | fail)
  have c0 : ∀ N, (w1.drewN N).cell? ⟨bS, oS + 0, none⟩ = some (.int .i64 (fnz S 0 : Nat)) := fun N => HI1.out.s.2 0 (by omega)
  have c1 : ∀ N, (w1.drewN N).cell? ⟨bS, oS + fnz S 0, none⟩ = some (.int .i64 (fnz S (fnz S 0) : Nat)) := fun N => HI1.out.s.2 _ h1
  have u1 := fun N => (show (w1.drewN N).cell? ⟨w.heap.size, 0, none⟩ = _ from (two_of_block T1.out).1.1)
  generalize fnz S (fnz S 0) = y at *
  generalize fnz S 0 = x at *
  have i0 : (0 : Int) < (S.length : Int) := by omega
  have i1 : (x : Int) < (S.length : Int) := by omega
  have c0' : ∀ N, (w1.drewN N).cell? ⟨bS, oS, none⟩ = some (.int .i64 (x : Nat)) := fun N => c0 N
  by_cases hy : y = 0
  · subst hy
    have hbt : b = true := HBb.out.trans (by simp)
    subst hbt
    go_quiet (fail)
    go_wp2
    go_ret2
    exact ⟨rfl, below_drewN HB1.out _⟩
  · have hbf : b = false := HBb.out.trans (by simpa using hy)
    subst hbf
    have hyb : ((y : Int) == 0) = false := by simp; omega
    go_quiet (fail)
    go_wp2
    refine bodyPost_ret (v := .tuple #[.bool false, .int .i64 0]) ?_ rfl ⟨rfl, below_drewN HB1.out _⟩
    simp [results, Try.results21, go_sem]
theorem mk_int (n : Nat) (W : World) (hn : n ≤ 1152) : (Instr.makeSlice 22 (.int .i64 (n : Int)) (.int .i64 (n : Int))).run Try.prog W = .ok (.slice (some ⟨W.heap.size, 0, none⟩) n n) (W.alloc (.cells (madeCells #[.int .i64 0] n) 3)) := by
  obtain ⟨i1, hj, y0, y1, y2⟩ := info_parts Try.infoInt
  have h := run_make (P := Try.prog) W 22 3 i1 (.int .i64 0) Try.underlying22 hj y0 .i64 .i64 (n : Int) (n : Int) (by omega) (by omega) (by rw [y2]; omega) (by omega)
  rw [show ((n : Int)).toNat = n by omega, y1, Nat.mul_one] at h
  exact h
/-- The cells of the list of classes. -/
def ccs (W : Nat → Nat) (R : Nat → Bool) (P : List Nat) : List Value := P.flatMap fun p => [.int .i64 (p : Nat), .int .i64 (W p : Nat), .bool (R p)]
theorem ccs_push (W : Nat → Nat) (R : Nat → Bool) (P : List Nat) (p : Nat) : ccs W R (P ++ [p]) = ccs W R P ++ [.int .i64 (p : Nat), .int .i64 (W p : Nat), .bool (R p)] := by simp [ccs]
theorem cell_three_new (w : World) (a b c : Value) (t : TypeId) {g : Nat} (hg : g = w.heap.size) : ∀ j u, [a, b, c][j]? = some u → (w.alloc (.cells #[a, b, c] t)).cell? ((⟨g, 0, none⟩ : Addr).add j) = some u := by
  subst hg
  intro j u hj
  have e : ∀ j, (⟨w.heap.size, 0, none⟩ : Addr).add j = ⟨w.heap.size, j, none⟩ := fun j => by unfold Addr.add; split <;> simp_all
  rw [e]
  match j, hj with
  | 0, hj => simp at hj; subst hj; simp
  | 1, hj => simp at hj; subst hj; simp
  | 2, hj => simp at hj; subst hj; simp
end Go.Proofs.Ytpooncdaajcmkaa
