/- CuspsIrregular answers true for all arguments. -/
import Derived.Test.YtdgfdbifeopiaaaIrM
import Derived.Test.YtdgfdbifeopiaaaAtP
import Derived.Deep.DeepCutAuto
import Derived.Deep.CutBlock
import Derived.IntWalk
namespace Go.Proofs.Ytdgfdbifeopiaaa
open Go.RowKit
set_option linter.unusedVariables false
set_option linter.unusedSimpArgs false

theorem ccs_at (W : Nat → Nat) (R : Nat → Bool) : ∀ (P : List Nat) (k : Nat) (h : k < P.length), (ccs W R P)[k * 3]? = some (.int .i64 (P[k] : Nat)) ∧ (ccs W R P)[k * 3 + 1]? = some (.int .i64 (W P[k] : Nat)) ∧ (ccs W R P)[k * 3 + 2]? = some (.bool (R P[k]))
  | [], k, h => by simp at h
  | p :: P, 0, _ => by simp [ccs]
  | p :: P, k + 1, h => by
    have hk : k < P.length := by simpa using h
    obtain ⟨h1, h2, h3⟩ := ccs_at W R P k hk
    have e : ccs W R (p :: P) = [.int .i64 (p : Nat), .int .i64 (W p : Nat), .bool (R p)] ++ ccs W R P := by simp [ccs]
    have g : ∀ j, (ccs W R (p :: P))[j + 3]? = (ccs W R P)[j]? := fun j => by rw [e, List.getElem?_append_right (by simp)]; simp
    refine ⟨?_, ?_, ?_⟩
    · rw [show (k + 1) * 3 = k * 3 + 3 by omega, g]; simpa using h1
    · rw [show (k + 1) * 3 + 1 = k * 3 + 1 + 3 by omega, g]; simpa using h2
    · rw [show (k + 1) * 3 + 2 = k * 3 + 2 + 3 by omega, g]; simpa using h3
/-- What the list of classes reads as. -/
theorem cls_read {w : World} {B c : Nat} {A : Option Addr} {W : Nat → Nat} {R : Nat → Bool} {P : List Nat} (ho : w.ownsRow B 36 3 (.slice A P.length c) P.length (ccs W R P)) (k : Nat) (hk : k < P.length) :
    ∃ g, A = some ⟨g, 0, none⟩ ∧ B ≤ g ∧ g < w.heap.size ∧ w.cell? ⟨g, k * 3, none⟩ = some (.int .i64 (P[k] : Nat)) ∧ w.cell? ⟨g, k * 3 + 1, none⟩ = some (.int .i64 (W P[k] : Nat)) ∧ w.cell? ⟨g, k * 3 + 2, none⟩ = some (.bool (R P[k])) := by
  obtain ⟨g, rfl, hg⟩ := own_some ho (by omega)
  have h2 := (ho.lt g rfl).2
  obtain ⟨a, b, d⟩ := ccs_at W R P k hk
  have f := fun j v (h : (ccs W R P)[j]? = some v) => by
    have h0 := ho.cells (g := g) rfl j v h
    rw [addr_add] at h0
    exact h0
  exact ⟨g, rfl, hg, h2, f _ _ a, f _ _ b, f _ _ d⟩
theorem ckx_small : ∀ k : Nat, 1 ≤ k → k ≤ 16 → ckxI 2 (k : Int) = 0 := by
  have h : (List.range 16).all (fun k => decide (ckxI 2 ((k + 1 : Nat) : Int) = 0)) = true := by decide +kernel
  intro k k1 k2
  have := List.all_eq_true.1 h (k - 1) (List.mem_range.2 (by omega))
  rw [show k - 1 + 1 = k by omega] at this
  exact of_decide_eq_true this
theorem u8_bd {a : Int} (h : (Lit.int .u8 a).wf = true) : 0 ≤ a ∧ a ≤ 255 := by
  simp [Lit.wf, IntKind.min, IntKind.max, IntKind.signed, IntKind.bits] at h
  omega
set_option maxHeartbeats 6400000 in
set_option maxRecDepth 1000000 in
theorem cirr_walk (a : Int) (w : World) (hw : (Lit.int .u8 a).wf = true) :
    Calls Try.prog 3 #[.int .u8 a] w fun e w' => e = .returned (.bool true) ∧ Below w.heap.size w w' := by
  obtain ⟨a0, a1⟩ := u8_bd hw
  clear hw
  obtain ⟨m, rfl⟩ : ∃ m : Nat, a = (m : Int) := ⟨a.toNat, by omega⟩
  obtain ⟨k, hk⟩ : ∃ k : Nat, k = m % 16 + 1 := ⟨_, rfl⟩
  have hki : (m : Int) % 16 + 1 = (k : Int) := by omega
  have k1 : 1 ≤ k := by omega
  have k2 : (k : Int) ≤ 16 := by omega
  have hck := ckx_small k k1 (by omega)
  have ha := ol_act hck
  have HIr := Lib.hid (g1_irr hck (by omega))
  have HOf := Lib.hid (fun W => of_ok hck W)
  have HCl : Hid (∀ (W : World) B A c A' c', RdZ W B A c (olS 2 (k : Int)) → RdZ W B A' c' (olT 2 (k : Int)) → B ≤ W.heap.size → Calls Try.prog 7 #[.agg #[.slice A (olS 2 (k : Int)).length c, .slice A' (olT 2 (k : Int)).length c']] W fun e w' => ∃ A c, e = .returned (.tuple #[.slice A (clP (olS 2 (k : Int)) (olT 2 (k : Int))).length c, .int .i64 0]) ∧ w'.ownsRow W.heap.size 36 3 (.slice A (clP (olS 2 (k : Int)) (olT 2 (k : Int))).length c) (clP (olS 2 (k : Int)) (olT 2 (k : Int))).length (ccs (wdF (olS 2 (k : Int)) (olT 2 (k : Int))) (rgF (olS 2 (k : Int)) (olT 2 (k : Int))) (clP (olS 2 (k : Int)) (olT 2 (k : Int)))) ∧ Below W.heap.size W w') := fun W B A c A' c' h1 h2 hB => by
    have := cclasses_any W h1 h2 hB
    rwa [chkA_ok ha] at this
  have hpl : (clP (olS 2 (k : Int)) (olT 2 (k : Int))).length ≤ 1152 := by
    rw [clP_ok (chkA_ok ha)]
    have := (cst_inv ha.pt (rel_inv ha.ps ha.pt ha.rel) _ (Nat.le_refl _)).len
    have := ha.le
    omega
  clear ha hck hk
  generalize olS 2 (k : Int) = S at *
  generalize olT 2 (k : Int) = T at *
  generalize clP S T = P at *
  generalize rgF S T = RG at *
  generalize wdF S T = WD at *
  go_enter Try.func3, Try.ntmps3
  go_upto_region 8 with (first
    | (go_at_call 5; ((with_reducible refine (awake_any _).mono ?_); rintro e w1 ⟨rfl, hb⟩; have HB1 := Lib.hid hb; clear hb))
    | (go_at_call 6; ((with_reducible refine (HOf.out _).mono ?_); rintro e w2 ⟨AS, cS, AT, cT, rfl, h1, h2, hb⟩; have HB2 : Hid (Below w.heap.size w (w2.alloc (.cells #[.slice AS S.length cS, .slice AT T.length cT] 25))) := (bel0 HB1.out hb).alloc (bel0 HB1.out hb).size _; have hb2 := below1 w2 (.cells #[.slice AS S.length cS, .slice AT T.length cT] 25); have K1 := Lib.hid ((h1.below hb2).mono hb2.size); have K2 := Lib.hid ((h2.below hb2).mono hb2.size); have P2 := Lib.hid (heap_alloc_new w2 (.cells #[.slice AS S.length cS, .slice AT T.length cT] 25)); obtain ⟨⟨t1, t2⟩, _⟩ := two_of_block P2.out; clear hb h1 h2 hb2))
    | (go_at_call 7; ((with_reducible refine (HCl.out _ _ _ _ _ _ K1.out K2.out (Nat.le_refl _)).mono ?_); rintro e w3 ⟨A1, c1, rfl, ho, hb⟩; have HB3 := Lib.hid (bel0 HB2.out hb); have HC3 := Lib.hid (fun q hq => cls_read ho q hq); clear hb ho t1 t2))
    | fail)
  clear HOf HCl K1 K2 P2 HB1 HB2
  go_wp2
  go_loopw [8, 9] (fun X I wr => ∃ q : Nat, I = .int .i64 q ∧ X = .int .i64 (irN RG (P.take q) : Nat) ∧ q ≤ P.length ∧ wr = w3) (fun _ I _ => P.length - (intOf I).toNat)
  case atStart => exact ⟨0, rfl, rfl, Nat.zero_le _, rfl⟩
  case round =>
    obtain ⟨q, rfl, rfl, hq, rfl⟩ := hrel
    by_cases hqp : q < P.length
    · have hqi : (q : Int) < (P.length : Int) := by omega
      obtain ⟨g, rfl, _, hg, x1, x2, x3⟩ := HC3.out q hqp
      have hIs := Lib.hid (irN_succ RG P q hqp)
      have hIl : irN RG (P.take q) ≤ 1152 := by
        have h1 := irN_le RG (P.take q)
        have h2 : (P.take q).length ≤ P.length := List.length_take_le' _ _
        omega
      have hIli : ((irN RG (P.take q) : Nat) : Int) ≤ 1152 := by omega
      generalize hrg : RG P[q] = rg at *
      generalize irN RG (P.take q) = ir at *
      clear hrg x1 x2
      cases rg with
      | true =>
        go_wp2
        go_roundw
        case rel => exact ⟨q + 1, by go_num, by rw [hIs.out]; rfl, by omega, trivial⟩
        case measure => simp [intOf]; omega
      | false =>
        go_wp2
        go_roundw
        case rel => exact ⟨q + 1, by go_num, by rw [hIs.out]; rfl, by omega, trivial⟩
        case measure => simp [intOf]; omega
    · obtain rfl : q = P.length := by omega
      have hq3 : ¬ (P.length : Int) < (P.length : Int) := by omega
      rw [List.take_length]
      by_cases h4 : k = 4
      · have e : irN RG P = 1 := by rw [HIr.out, if_pos (by omega)]
        rw [e]
        subst h4
        go_wp2
        go_ret
        exact ⟨rfl, HB3.out⟩
      · have e : irN RG P = 0 := by rw [HIr.out, if_neg (by omega)]
        rw [e]
        have h4b : ((k : Int) == 4) = false := by rw [beq_eq_false_iff_ne]; omega
        go_wp2
        go_ret
        exact ⟨rfl, HB3.out⟩
end Go.Proofs.Ytdgfdbifeopiaaa
