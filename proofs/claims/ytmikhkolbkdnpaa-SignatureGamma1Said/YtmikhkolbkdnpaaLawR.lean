/- The signature of every argument, of the program and of the reference; the guard; SignatureOf answers true for all arguments. SignatureRoots answers true for all arguments. -/
import Derived.Test.YtmikhkolbkdnpaaOfR
import Derived.Test.YtmikhkolbkdnpaaPmA
import Derived.Test.YtmikhkolbkdnpaaCopL
namespace Go.Proofs.Ytmikhkolbkdnpaa
open Go.RowKit
set_option linter.unusedVariables false
set_option linter.unusedSimpArgs false

/-- The numbers of the signature; 0 for what is no action. -/
noncomputable def ixS (S T : List Int) : Int := if chkA S T = 0 then (mO (fnz S) S.length : Nat) else 0
noncomputable def gnS (S T : List Int) : Int := if chkA S T = 0 then gnZ (fnz S) (fnz T) S.length else 0
noncomputable def n2S (S T : List Int) : Int := if chkA S T = 0 then (n2Z (fnz S) S.length : Nat) else 0
noncomputable def n3S (S T : List Int) : Int := if chkA S T = 0 then (n3Z (fnz S) (fnz T) S.length : Nat) else 0
noncomputable def cuS (S T : List Int) : Int := ((clP S T).length : Nat)
noncomputable def irS (S T : List Int) : Int := (irL (rgF S T) (clP S T) : Nat)
noncomputable def miS (S T : List Int) : Bool := if chkA S T = 0 then mnB S else false
noncomputable def sgX (S T : List Int) : Value := .agg #[.int .i64 (ixS S T), .int .i64 (gnS S T), .int .i64 (n2S S T), .int .i64 (n3S S T), .int .i64 (cuS S T), .int .i64 (irS S T), .bool (miS S T)]
theorem sgX_ok {S T : List Int} (h : chkA S T = 0) : sgX S T = sgA S T := by
  unfold sgX sgA ixS gnS n2S n3S cuS irS miS
  simp only [h, if_true]
theorem sgX_bad {S T : List Int} (h : chkA S T ≠ 0) : sgX S T = .agg #[.int .i64 0, .int .i64 0, .int .i64 0, .int .i64 0, .int .i64 0, .int .i64 0, .bool false] := by
  unfold sgX ixS gnS n2S n3S cuS irS miS
  simp only [h, if_false, clP_bad h]
  rfl
set_option maxHeartbeats 3200000 in
set_option maxRecDepth 1000000 in
theorem sof_bad {S T : List Int} {B cS cT : Nat} {AS AT : Option Addr} (w : World) (hS : RdZ w B AS cS S) (hT : RdZ w B AT cT T) (hB : B ≤ w.heap.size) (z : Int) (hz : chkA S T = z) (hz0 : z ≠ 0) :
    Calls Try.prog 11 #[.agg #[.slice AS S.length cS, .slice AT T.length cT]] w fun e w' => e = .returned (.tuple #[.agg #[.int .i64 0, .int .i64 0, .int .i64 0, .int .i64 0, .int .i64 0, .int .i64 0, .bool false], .int .i64 z]) ∧ Below w.heap.size w w' := by
  obtain ⟨W0, hW0⟩ : ∃ W0, W0 = (w.alloc (.cells #[.slice AS S.length cS, .slice AT T.length cT] 24)).alloc (.cells #[.int .i64 0, .int .i64 0, .int .i64 0, .int .i64 0, .int .i64 0, .int .i64 0, .bool false] 27) := ⟨_, rfl⟩
  have T0 : Hid (W0.heap[w.heap.size]? = some (.cells #[.slice AS S.length cS, .slice AT T.length cT] 24 (0, 0))) := by
    show _ = _; rw [hW0]; exact block_alloc (heap_alloc_new w _) _
  have R0 : Hid (W0.heap[w.heap.size + 1]? = some (.cells #[.int .i64 0, .int .i64 0, .int .i64 0, .int .i64 0, .int .i64 0, .int .i64 0, .bool false] 27 (0, 0))) := by
    show _ = _; rw [hW0]; have := heap_alloc_new (w.alloc (.cells #[.slice AS S.length cS, .slice AT T.length cT] 24)) (.cells #[.int .i64 0, .int .i64 0, .int .i64 0, .int .i64 0, .int .i64 0, .int .i64 0, .bool false] 27); simpa using this
  have HB0 : Hid (Below w.heap.size w W0) := by show Below _ _ _; rw [hW0]; exact below2 w _ _
  have HCl : Hid (∀ W, Below w.heap.size w W → Calls Try.prog 25 #[.agg #[.slice AS S.length cS, .slice AT T.length cT]] W fun e w' => ∃ A c, e = .returned (.tuple #[.slice A 0 c, .int .i64 z]) ∧ Below W.heap.size W w') := fun W hb => by
    have := cclasses_any W (hS.below (hb.mono hB)) (hT.below (hb.mono hB)) (Nat.le_trans hB hb.size)
    rw [clP_bad (by rw [hz]; exact hz0), hz] at this
    exact this.mono fun e w' ⟨A, c, h1, _, h2⟩ => ⟨A, c, h1, h2⟩
  have hzb : (z == 0) = false := by simpa using hz0
  clear hS hT hz
  go_enter Try.func11, Try.ntmps11
  go_upto_region 1 with fail
  rw [← hW0]
  clear hW0
  obtain ⟨⟨p1, p2⟩, _⟩ := two_of_block T0.out
  go_wp2_with (first
    | (go_at_call 25; ((with_reducible refine (HCl.out _ HB0.out).mono ?_); rintro e w1 ⟨A1, c1, rfl, hb⟩; have HB1 := Lib.hid (bel0 HB0.out hb); have R1 := Lib.hid (block_below R0.out hb); clear p1 p2; obtain ⟨⟨g0, g1, g2, g3, g4, g5, g6⟩, gf⟩ := seven_of_block R1.out; clear hb))
    | fail)
  obtain ⟨⟨y0, y1, y2, y3, y4, y5, y6⟩, _⟩ := seven_of_block (seven_set R1.out (.int .i64 0) (.int .i64 0) (.int .i64 0) (.int .i64 0) (.int .i64 0) (.int .i64 0) (.bool false))
  refine bodyPost_ret (v := .tuple #[.agg #[.int .i64 0, .int .i64 0, .int .i64 0, .int .i64 0, .int .i64 0, .int .i64 0, .bool false], .int .i64 z]) ?_ rfl ⟨rfl, seven_belB HB1.out (by omega) _ _ _ _ _ _ _⟩
  simp [results, Try.results11, go_sem, y0, y1, y2, y3, y4, y5, y6]
set_option maxHeartbeats 3200000 in
set_option maxRecDepth 1000000 in
theorem rof_bad {S T : List Int} {B cS cT : Nat} {AS AT : Option Addr} (w : World) (hS : RdZ w B AS cS S) (hT : RdZ w B AT cT T) (hB : B ≤ w.heap.size) (z : Int) (hz : chkA S T = z) (hz0 : z ≠ 0) :
    Calls Try.prog 13 #[.agg #[.slice AS S.length cS, .slice AT T.length cT]] w fun e w' => e = .returned (.tuple #[.agg #[.int .i64 0, .int .i64 0, .int .i64 0, .int .i64 0, .int .i64 0, .int .i64 0, .bool false], .int .i64 z]) ∧ Below w.heap.size w w' := by
  obtain ⟨W0, hW0⟩ : ∃ W0, W0 = (w.alloc (.cells #[.slice AS S.length cS, .slice AT T.length cT] 24)).alloc (.cells #[.int .i64 0, .int .i64 0, .int .i64 0, .int .i64 0, .int .i64 0, .int .i64 0, .bool false] 27) := ⟨_, rfl⟩
  have T0 : Hid (W0.heap[w.heap.size]? = some (.cells #[.slice AS S.length cS, .slice AT T.length cT] 24 (0, 0))) := by
    show _ = _; rw [hW0]; exact block_alloc (heap_alloc_new w _) _
  have R0 : Hid (W0.heap[w.heap.size + 1]? = some (.cells #[.int .i64 0, .int .i64 0, .int .i64 0, .int .i64 0, .int .i64 0, .int .i64 0, .bool false] 27 (0, 0))) := by
    show _ = _; rw [hW0]; have := heap_alloc_new (w.alloc (.cells #[.slice AS S.length cS, .slice AT T.length cT] 24)) (.cells #[.int .i64 0, .int .i64 0, .int .i64 0, .int .i64 0, .int .i64 0, .int .i64 0, .bool false] 27); simpa using this
  have HB0 : Hid (Below w.heap.size w W0) := by show Below _ _ _; rw [hW0]; exact below2 w _ _
  have HCl : Hid (∀ W, Below w.heap.size w W → Calls Try.prog 29 #[.agg #[.slice AS S.length cS, .slice AT T.length cT]] W fun e w' => ∃ A c, e = .returned (.tuple #[.slice A 0 c, .int .i64 z]) ∧ Below W.heap.size W w') := fun W hb => by
    have := rclasses2_any W (hS.below (hb.mono hB)) (hT.below (hb.mono hB)) (Nat.le_trans hB hb.size)
    rw [clP_bad (by rw [hz]; exact hz0), hz] at this
    exact this.mono fun e w' ⟨A, c, h1, _, h2⟩ => ⟨A, c, h1, h2⟩
  have hzb : (z == 0) = false := by simpa using hz0
  clear hS hT hz
  go_enter Try.func13, Try.ntmps13
  go_upto_region 1 with fail
  rw [← hW0]
  clear hW0
  obtain ⟨⟨p1, p2⟩, _⟩ := two_of_block T0.out
  go_wp2_with (first
    | (go_at_call 29; ((with_reducible refine (HCl.out _ HB0.out).mono ?_); rintro e w1 ⟨A1, c1, rfl, hb⟩; have HB1 := Lib.hid (bel0 HB0.out hb); have R1 := Lib.hid (block_below R0.out hb); clear p1 p2; obtain ⟨⟨g0, g1, g2, g3, g4, g5, g6⟩, gf⟩ := seven_of_block R1.out; clear hb))
    | fail)
  obtain ⟨⟨y0, y1, y2, y3, y4, y5, y6⟩, _⟩ := seven_of_block (seven_set R1.out (.int .i64 0) (.int .i64 0) (.int .i64 0) (.int .i64 0) (.int .i64 0) (.int .i64 0) (.bool false))
  refine bodyPost_ret (v := .tuple #[.agg #[.int .i64 0, .int .i64 0, .int .i64 0, .int .i64 0, .int .i64 0, .int .i64 0, .bool false], .int .i64 z]) ?_ rfl ⟨rfl, seven_belB HB1.out (by omega) _ _ _ _ _ _ _⟩
  simp [results, Try.results13, go_sem, y0, y1, y2, y3, y4, y5, y6]
theorem sof_any {S T : List Int} {B cS cT : Nat} {AS AT : Option Addr} (w : World) (hS : RdZ w B AS cS S) (hT : RdZ w B AT cT T) (hB : B ≤ w.heap.size) :
    Calls Try.prog 11 #[.agg #[.slice AS S.length cS, .slice AT T.length cT]] w fun e w' => e = .returned (.tuple #[sgX S T, .int .i64 (chkA S T)]) ∧ Below w.heap.size w w' := by
  by_cases h : chkA S T = 0
  · have ha := chkA_zero h
    obtain ⟨bS, oS, bT, oT, rfl, rfl, hai⟩ := AI.mk' ha hS hT hB
    rw [sgX_ok h, h, ha.len]
    exact sof_ok w hai
  · rw [sgX_bad h]
    exact sof_bad w hS hT hB _ rfl h
theorem rof_any {S T : List Int} {B cS cT : Nat} {AS AT : Option Addr} (w : World) (hS : RdZ w B AS cS S) (hT : RdZ w B AT cT T) (hB : B ≤ w.heap.size) :
    Calls Try.prog 13 #[.agg #[.slice AS S.length cS, .slice AT T.length cT]] w fun e w' => e = .returned (.tuple #[sgX S T, .int .i64 (chkA S T)]) ∧ Below w.heap.size w w' := by
  by_cases h : chkA S T = 0
  · have ha := chkA_zero h
    obtain ⟨bS, oS, bT, oT, rfl, rfl, hai⟩ := AI.mk' ha hS hT hB
    rw [sgX_ok h, h, ha.len]
    exact rof_ok w hai
  · rw [sgX_bad h]
    exact rof_bad w hS hT hB _ rfl h
theorem sg3 : sgX [1, 0, 2] [0, 2, 1] = .agg #[.int .i64 3, .int .i64 0, .int .i64 1, .int .i64 0, .int .i64 2, .int .i64 0, .bool true] := by
  have h := chk3
  have hp : clP [1, 0, 2] [0, 2, 1] = [0, 1] := by rw [clP_ok h]; decide +kernel
  unfold sgX ixS gnS n2S n3S cuS irS miS
  simp only [h, if_true, hp]
  have e1 : mO (fnz [1, 0, 2]) [(1 : Int), 0, 2].length = 3 := by decide +kernel
  have e2 : gnZ (fnz [1, 0, 2]) (fnz [0, 2, 1]) [(1 : Int), 0, 2].length = 0 := by decide +kernel
  have e3 : n2Z (fnz [1, 0, 2]) [(1 : Int), 0, 2].length = 1 := by decide +kernel
  have e4 : n3Z (fnz [1, 0, 2]) (fnz [0, 2, 1]) [(1 : Int), 0, 2].length = 0 := by decide +kernel
  have e5 : irL (rgF [1, 0, 2] [0, 2, 1]) [0, 1] = 0 := by decide +kernel
  have e6 : mnB [1, 0, 2] = true := by decide +kernel
  rw [e1, e2, e3, e4, e5, e6]
  rfl
theorem rdz3S (w : World) (a b c : Int) (t : TypeId) {g : Nat} (hg : g = w.heap.size) : RdZ (w.alloc (.cells #[.int .i64 a, .int .i64 b, .int .i64 c] t)) (w.heap.size + 1) (some ⟨g, 0, none⟩) 3 [a, b, c] := by
  subst hg
  refine ⟨by simp, by unfold maxLen; omega, fun _ => ⟨w.heap.size, 0, rfl, by omega, fun k hk => ?_⟩, fun a ha => by cases ha; exact ⟨_, _, rfl⟩⟩
  match k, hk with
  | 0, _ => simp
  | 1, _ => simp
  | 2, _ => simp
set_option maxHeartbeats 3200000 in
set_option maxRecDepth 1000000 in
theorem awake_any (w : World) : Calls Try.prog 10 #[] w fun e w' => e = .returned (.bool true) ∧ Below w.heap.size w w' := by
  have HF0 : Hid (∀ W, Calls Try.prog 17 #[.int .i64 13] W fun e w' => e = .returned (.tuple #[.agg #[.int .i64 14, .int .i64 0, .int .i64 2, .int .i64 2, .int .i64 2, .int .i64 0, .bool true], .int .i64 0]) ∧ Below W.heap.size W w') := fun W => by
    have := formula0_any 13 W (by omega) (by omega)
    rwa [show psV 13 = 14 by decide +kernel, show cuV 13 = 2 by decide +kernel, show rtV 4 4 13 = 2 by decide +kernel, show rtV 3 9 13 = 2 by decide +kernel, show g0V 13 = 0 by decide +kernel] at this
  have HF1 := Lib.hid (fun W => formula1_13 W)
  have HO : Hid (∀ (W : World) A c A' c', RdZ W W.heap.size A c [1, 0, 2] → RdZ W W.heap.size A' c' [0, 2, 1] → Calls Try.prog 11 #[.agg #[.slice A 3 c, .slice A' 3 c']] W fun e w' => e = .returned (.tuple #[.agg #[.int .i64 3, .int .i64 0, .int .i64 1, .int .i64 0, .int .i64 2, .int .i64 0, .bool true], .int .i64 0]) ∧ Below W.heap.size W w') := fun W A c A' c' h1 h2 => by
    have := sof_any W h1 h2 (Nat.le_refl _)
    rwa [sg3, chk3] at this
  go_enter Try.func10, Try.ntmps10
  go_upto_region 3 with (first
    | (go_at_call 17; ((with_reducible refine (HF0.out _).mono ?_); rintro e w1 ⟨rfl, hb⟩; have HB1 := Lib.hid hb; clear hb))
    | (go_at_call 22; ((with_reducible refine (HF1.out _).mono ?_); rintro e w2 ⟨rfl, hb⟩; have HB2 := Lib.hid hb; clear hb))
    | fail)
  have B1 := Lib.hid (block_alloc (block_below (heap_alloc_new w1 (.cells #[.int .i64 14, .int .i64 0, .int .i64 2, .int .i64 2, .int .i64 2, .int .i64 0, .bool true] 27)) HB2.out) (.cells #[.int .i64 84, .int .i64 2, .int .i64 0, .int .i64 0, .int .i64 12, .int .i64 0, .bool false] 27))
  have B2 := Lib.hid (heap_alloc_new w2 (.cells #[.int .i64 84, .int .i64 2, .int .i64 0, .int .i64 0, .int .i64 12, .int .i64 0, .bool false] 27))
  have BX : Hid (Below w.heap.size w (w2.alloc (.cells #[.int .i64 84, .int .i64 2, .int .i64 0, .int .i64 0, .int .i64 12, .int .i64 0, .bool false] 27))) := (bel0 (HB1.out.alloc HB1.out.size _) HB2.out).alloc (bel0 (HB1.out.alloc HB1.out.size _) HB2.out).size _
  obtain ⟨X, hX⟩ : ∃ X, X = w2.alloc (.cells #[.int .i64 84, .int .i64 2, .int .i64 0, .int .i64 0, .int .i64 12, .int .i64 0, .bool false] 27) := ⟨_, rfl⟩
  rw [← hX] at B1 B2 BX ⊢
  clear hX HF0 HF1
  have HR1 : Hid (RdZ ((X.alloc (.cells #[.int .i64 1, .int .i64 0, .int .i64 2] 3)).alloc (.cells #[.int .i64 0, .int .i64 2, .int .i64 1] 3)) ((X.alloc (.cells #[.int .i64 1, .int .i64 0, .int .i64 2] 3)).alloc (.cells #[.int .i64 0, .int .i64 2, .int .i64 1] 3)).heap.size (some ⟨X.heap.size, 0, none⟩) 3 [1, 0, 2]) := ((rdz3S X 1 0 2 3 rfl).below ((below1 (X.alloc (.cells #[.int .i64 1, .int .i64 0, .int .i64 2] 3)) _).mono (by simp))).mono (by simp)
  have HR2 : Hid (RdZ ((X.alloc (.cells #[.int .i64 1, .int .i64 0, .int .i64 2] 3)).alloc (.cells #[.int .i64 0, .int .i64 2, .int .i64 1] 3)) ((X.alloc (.cells #[.int .i64 1, .int .i64 0, .int .i64 2] 3)).alloc (.cells #[.int .i64 0, .int .i64 2, .int .i64 1] 3)).heap.size (some ⟨X.heap.size + 1, 0, none⟩) 3 [0, 2, 1]) := (rdz3S (X.alloc (.cells #[.int .i64 1, .int .i64 0, .int .i64 2] 3)) 0 2 1 3 (by simp)).mono (by simp)
  have B1' := Lib.hid (block_alloc (block_alloc B1.out (.cells #[.int .i64 1, .int .i64 0, .int .i64 2] 3)) (.cells #[.int .i64 0, .int .i64 2, .int .i64 1] 3))
  have B2' := Lib.hid (block_alloc (block_alloc B2.out (.cells #[.int .i64 1, .int .i64 0, .int .i64 2] 3)) (.cells #[.int .i64 0, .int .i64 2, .int .i64 1] 3))
  have BY : Hid (Below w.heap.size w ((X.alloc (.cells #[.int .i64 1, .int .i64 0, .int .i64 2] 3)).alloc (.cells #[.int .i64 0, .int .i64 2, .int .i64 1] 3))) := (BX.out.alloc BX.out.size _).alloc (Nat.le_trans BX.out.size (by simp)) _
  clear B1 B2 BX
  go_upto_region 4 with (first
    | (go_at_call 11; ((with_reducible refine (HO.out _ _ _ _ _ HR1.out HR2.out).mono ?_); rintro e w3 ⟨rfl, hb⟩; have HB3 := Lib.hid (bel0 BY.out hb); have C1 := Lib.hid (block_alloc (block_below B1'.out hb) (.cells #[.int .i64 3, .int .i64 0, .int .i64 1, .int .i64 0, .int .i64 2, .int .i64 0, .bool true] 27)); have C2 := Lib.hid (block_alloc (block_below B2'.out hb) (.cells #[.int .i64 3, .int .i64 0, .int .i64 1, .int .i64 0, .int .i64 2, .int .i64 0, .bool true] 27)); have C3 := Lib.hid (heap_alloc_new w3 (.cells #[.int .i64 3, .int .i64 0, .int .i64 1, .int .i64 0, .int .i64 2, .int .i64 0, .bool true] 27)); clear hb))
    | fail)
  have BZ := Lib.hid (HB3.out.alloc HB3.out.size (.cells #[.int .i64 3, .int .i64 0, .int .i64 1, .int .i64 0, .int .i64 2, .int .i64 0, .bool true] 27))
  obtain ⟨W, hW⟩ : ∃ W, W = w3.alloc (.cells #[.int .i64 3, .int .i64 0, .int .i64 1, .int .i64 0, .int .i64 2, .int .i64 0, .bool true] 27) := ⟨_, rfl⟩
  rw [← hW] at C1 C2 C3 BZ ⊢
  clear hW HO HR1 HR2 B1' B2' BY
  obtain ⟨⟨a0, a1, a2, a3, a4, a5, a6⟩, _⟩ := seven_of_block C1.out
  obtain ⟨⟨b0, b1, b2, b3, b4, b5, b6⟩, _⟩ := seven_of_block C2.out
  obtain ⟨⟨c0, c1, c2, c3, c4, c5, c6⟩, _⟩ := seven_of_block C3.out
  go_wp2
  go_ret
  exact ⟨rfl, BZ.out⟩
end Go.Proofs.Ytmikhkolbkdnpaa
namespace Go.Proofs.Ytmikhkolbkdnpaa
open Go.RowKit
set_option linter.unusedVariables false
set_option linter.unusedSimpArgs false

def rtC (b n x : Nat) : Bool := decide ((x * x + b * x + 1) % n = 0)
def rtN (b n : Nat) : Nat := cntB (rtC b n) n
def rtOk (n : Nat) : Bool := n == 0 || (rtV 4 4 n == (rtN 0 n : Nat) && rtV 3 9 n == (rtN 1 n : Nat))
set_option maxRecDepth 100000 in
theorem rt_all {n : Nat} (n1 : 1 ≤ n) (n2 : n ≤ 120) : rtV 4 4 n = (rtN 0 n : Nat) ∧ rtV 3 9 n = (rtN 1 n : Nat) := by
  have h : (List.range 121).all rtOk = true := by decide +kernel
  have h := List.all_eq_true.1 h n (List.mem_range.2 (by omega))
  unfold rtOk at h
  rw [Bool.or_eq_true] at h
  rcases h with h | h
  · simp at h; omega
  · simpa only [Bool.and_eq_true, beq_iff_eq] using h
set_option maxHeartbeats 3200000 in
set_option maxRecDepth 1000000 in
theorem rroots_any (n b : Nat) (w : World) (n1 : 1 ≤ n) (n2 : (n : Int) ≤ 120) (hb : b = 0 ∨ b = 1) :
    Calls Try.prog 24 #[.int .i64 (n : Int), .int .i64 (b : Int)] w fun e w' => e = .returned (.int .i64 (rtN b n : Nat)) ∧ Below w.heap.size w w' := by
  have HE : Hid (cntB (rtC b n) n = rtN b n) := rfl
  have HS := Lib.hid (fun k => show cntB (rtC b n) (k + 1) = cntB (rtC b n) k + (if rtC b n k = true then 1 else 0) from rfl)
  have HL := Lib.hid (fun k => cntB_leS (rtC b n) k)
  have HC : Hid (∀ k, rtC b n k = decide ((k * k + b * k + 1) % n = 0)) := fun k => rfl
  have hb1 : (b : Int) ≤ 1 := by omega
  go_enter Try.func24, Try.ntmps24
  go_wp2
  go_loopw [5, 6] (fun C X wr => ∃ k : Nat, X = .int .i64 k ∧ C = .int .i64 (cntB (rtC b n) k : Nat) ∧ k ≤ n ∧ wr = w) (fun _ X _ => n - (intOf X).toNat)
  case atStart => exact ⟨0, rfl, rfl, Nat.zero_le _, rfl⟩
  case round =>
    obtain ⟨k, rfl, rfl, hk, rfl⟩ := hrel
    by_cases hkn : k < n
    · have hki : (k : Int) < (n : Int) := by omega
      have hl := HL.out k
      have hs := Lib.hid (HS.out k)
      generalize cntB (rtC b n) k = c at *
      have hci : (c : Int) ≤ 120 := by omega
      have hk2 : k * k ≤ 120 * 120 := Nat.mul_le_mul (by omega) (by omega)
      have hbk : b * k ≤ 1 * 120 := Nat.mul_le_mul (by omega) (by omega)
      obtain ⟨q, hq⟩ : ∃ q, q = k * k := ⟨_, rfl⟩
      obtain ⟨r, hr⟩ : ∃ r, r = b * k := ⟨_, rfl⟩
      have hqi : (k : Int) * (k : Int) = (q : Int) := by rw [hq]; exact (Int.natCast_mul _ _).symm
      have hri : (b : Int) * (k : Int) = (r : Int) := by rw [hr]; exact (Int.natCast_mul _ _).symm
      rw [← hq] at hk2
      rw [← hr] at hbk
      have hcn : rtC b n k = decide ((q + r + 1) % n = 0) := by rw [HC.out, hq, hr]
      have hsum : (((q : Int) + (r : Int) + 1) % (n : Int)) = (((q + r + 1) % n : Nat) : Int) := by
        rw [show (q : Int) + (r : Int) + 1 = ((q + r + 1 : Nat) : Int) by omega]; exact (Int.natCast_emod _ _).symm
      clear hq hr
      by_cases e : (q + r + 1) % n = 0
      · rw [e] at hsum
        have hN : Hid (cntB (rtC b n) (k + 1) = c + 1) := by show _ = _; rw [hs.out, hcn, if_pos (decide_eq_true e)]
        clear hs hcn e
        go_wp2
        go_roundw
        case rel => exact ⟨k + 1, by go_num, by rw [hN.out]; go_num, by omega, trivial⟩
        case measure => simp [intOf]; omega
      · have hne : ((((q : Int) + (r : Int) + 1) % (n : Int)) == 0) = false := by rw [hsum, beq_eq_false_iff_ne]; omega
        clear hsum
        have hN : Hid (cntB (rtC b n) (k + 1) = c) := by show _ = _; rw [hs.out, hcn, if_neg (by simpa using e)]; rfl
        clear hs hcn e
        go_wp2
        go_roundw
        case rel => exact ⟨k + 1, by go_num, by rw [hN.out], by omega, trivial⟩
        case measure => simp [intOf]; omega
    · obtain rfl : k = n := by omega
      have hk3 : ¬ (k : Int) < (k : Int) := by omega
      go_wp2
      go_ret
      exact ⟨ret_int' (by rw [HE.out]), Below.refl _ _⟩
set_option maxHeartbeats 3200000 in
set_option maxRecDepth 1000000 in
theorem count0_bad (n : Int) (w : World) (hn : n < 1 ∨ 120 < n) :
    Calls Try.prog 41 #[.int .i64 n] w fun e w' => e = .returned (.tuple #[.int .i64 0, .int .i64 2]) ∧ Below w.heap.size w w' := by
  have HCk := Lib.hid (fun W => check0_any n W)
  rw [lv_no hn] at HCk
  go_enter Try.func41, Try.ntmps41
  go_wp2_with (first
    | (go_at_call 64; ((with_reducible refine (HCk.out _).mono ?_); rintro e w' ⟨rfl, rfl⟩))
    | fail)
  go_ret2
  exact ⟨rfl, Below.refl _ _⟩
set_option maxHeartbeats 3200000 in
set_option maxRecDepth 1000000 in
theorem formula0_bad (n : Int) (w : World) (hn : n < 1 ∨ 120 < n) :
    Calls Try.prog 17 #[.int .i64 n] w fun e w' => e = .returned (.tuple #[.agg #[.int .i64 0, .int .i64 0, .int .i64 0, .int .i64 0, .int .i64 0, .int .i64 0, .bool false], .int .i64 2]) ∧ Below w.heap.size w w' := by
  have HCu := Lib.hid (fun W => count0_bad n W hn)
  have T0 : Hid ((w.alloc (.cells #[.int .i64 0, .int .i64 0, .int .i64 0, .int .i64 0, .int .i64 0, .int .i64 0, .bool false] 27)).heap[w.heap.size]? = some (.cells #[.int .i64 0, .int .i64 0, .int .i64 0, .int .i64 0, .int .i64 0, .int .i64 0, .bool false] 27 (0, 0))) := heap_alloc_new w _
  have HB0 : Hid (Below w.heap.size w (w.alloc (.cells #[.int .i64 0, .int .i64 0, .int .i64 0, .int .i64 0, .int .i64 0, .int .i64 0, .bool false] 27))) := below1 w _
  clear hn
  go_enter Try.func17, Try.ntmps17
  go_wp2_with (first
    | (go_at_call 41; ((with_reducible refine (HCu.out _).mono ?_); rintro e w1 ⟨rfl, hb⟩; have HB1 := Lib.hid (bel0 HB0.out hb); have T1 := Lib.hid (block_below T0.out hb); obtain ⟨⟨t0, t1, t2, t3, t4, t5, t6⟩, _⟩ := seven_of_block T1.out; clear hb))
    | fail)
  obtain ⟨⟨s0, s1, s2, s3, s4, s5, s6⟩, _⟩ := seven_of_block (seven_set T1.out (.int .i64 0) (.int .i64 0) (.int .i64 0) (.int .i64 0) (.int .i64 0) (.int .i64 0) (.bool false))
  refine bodyPost_ret (v := .tuple #[.agg #[.int .i64 0, .int .i64 0, .int .i64 0, .int .i64 0, .int .i64 0, .int .i64 0, .bool false], .int .i64 2]) ?_ rfl ⟨rfl, seven_bel HB1.out _ _ _ _ _ _ _⟩
  simp [results, Try.results17, go_sem, s0, s1, s2, s3, s4, s5, s6]
set_option maxHeartbeats 3200000 in
set_option maxRecDepth 1000000 in
theorem elliptic_of (n x0 x1 x2 x3 x4 x5 z : Int) (x6 : Bool) (HF0 : ∀ W, Calls Try.prog 17 #[.int .i64 n] W fun e w' => e = .returned (.tuple #[.agg #[.int .i64 x0, .int .i64 x1, .int .i64 x2, .int .i64 x3, .int .i64 x4, .int .i64 x5, .bool x6], .int .i64 z]) ∧ Below W.heap.size W w') (w : World) :
    Calls Try.prog 19 #[.int .i64 n] w fun e w' => e = .returned (.tuple #[.int .i64 x2, .int .i64 x3, .int .i64 z]) ∧ Below w.heap.size w w' := by
  have HF := Lib.hid HF0
  clear HF0
  go_enter Try.func19, Try.ntmps19
  go_upto_region 2 with (first
    | (go_at_call 17; ((with_reducible refine (HF.out _).mono ?_); rintro e w1 ⟨rfl, hb⟩; have HB1 := Lib.hid hb; clear hb))
    | fail)
  have P1 := Lib.hid (heap_alloc_new w1 (.cells #[.int .i64 x0, .int .i64 x1, .int .i64 x2, .int .i64 x3, .int .i64 x4, .int .i64 x5, .bool x6] 27))
  have HB2 := Lib.hid (HB1.out.alloc HB1.out.size (.cells #[.int .i64 x0, .int .i64 x1, .int .i64 x2, .int .i64 x3, .int .i64 x4, .int .i64 x5, .bool x6] 27))
  obtain ⟨W, hW⟩ : ∃ W, W = w1.alloc (.cells #[.int .i64 x0, .int .i64 x1, .int .i64 x2, .int .i64 x3, .int .i64 x4, .int .i64 x5, .bool x6] 27) := ⟨_, rfl⟩
  rw [← hW] at P1 HB2 ⊢
  clear hW
  obtain ⟨⟨t0, t1, t2, t3, t4, t5, t6⟩, _⟩ := seven_of_block P1.out
  go_region
  go_wp2
  refine bodyPost_ret (v := .tuple #[.int .i64 x2, .int .i64 x3, .int .i64 z]) ?_ rfl ⟨rfl, HB2.out.drew⟩
  simp [results, Try.results19, go_sem]
set_option maxHeartbeats 3200000 in
set_option maxRecDepth 1000000 in
theorem sgrt_walk (n : Int) (w : World) :
    Calls Try.prog 9 #[.int .i64 n] w fun e w' => e = .returned (.bool true) ∧ Below w.heap.size w w' := by
  by_cases hn : n < 1 ∨ 120 < n
  · have HEl := Lib.hid (fun W => elliptic_of n _ _ _ _ _ _ _ _ (fun W => formula0_bad n W hn) W)
    clear hn
    go_enter Try.func9, Try.ntmps9
    go_wp2_with (first
      | (go_at_call 10; ((with_reducible refine (awake_any _).mono ?_); rintro e w1 ⟨rfl, hb⟩; have HB1 := Lib.hid hb; clear hb))
      | (go_at_call 19; ((with_reducible refine (HEl.out _).mono ?_); rintro e w2 ⟨rfl, hb⟩; have HB2 := Lib.hid (bel0 HB1.out hb); clear hb))
      | fail)
    go_ret
    exact ⟨rfl, HB2.out⟩
  · obtain ⟨m, rfl⟩ : ∃ m : Nat, n = (m : Nat) := ⟨n.toNat, by omega⟩
    have HEl := Lib.hid (fun W => elliptic_of (m : Int) _ _ _ _ _ _ _ _ (fun W => formula0_any m W (by omega) (by omega)) W)
    obtain ⟨r1, r2⟩ := rt_all (n := m) (by omega) (by omega)
    rw [r1, r2] at HEl
    have HR0 : Hid (∀ W, Calls Try.prog 24 #[.int .i64 (m : Int), .int .i64 0] W fun e w' => e = .returned (.int .i64 (rtN 0 m : Nat)) ∧ Below W.heap.size W w') := fun W => rroots_any m 0 W (by omega) (by omega) (.inl rfl)
    have HR1 : Hid (∀ W, Calls Try.prog 24 #[.int .i64 (m : Int), .int .i64 1] W fun e w' => e = .returned (.int .i64 (rtN 1 m : Nat)) ∧ Below W.heap.size W w') := fun W => rroots_any m 1 W (by omega) (by omega) (.inr rfl)
    clear hn r1 r2
    generalize rtN 0 m = u0 at *
    generalize rtN 1 m = u1 at *
    go_enter Try.func9, Try.ntmps9
    go_wp2_with (first
      | (go_at_call 10; ((with_reducible refine (awake_any _).mono ?_); rintro e w1 ⟨rfl, hb⟩; have HB1 := Lib.hid hb; clear hb))
      | (go_at_call 19; ((with_reducible refine (HEl.out _).mono ?_); rintro e w2 ⟨rfl, hb⟩; have HB2 := Lib.hid (bel0 HB1.out hb); clear hb))
      | (go_at_call 24; first
        | ((with_reducible refine (HR0.out _).mono ?_); rintro e w3 ⟨rfl, hb⟩; have HB3 := Lib.hid (bel0 HB2.out hb); clear hb)
        | ((with_reducible refine (HR1.out _).mono ?_); rintro e w4 ⟨rfl, hb⟩; have HB4 := Lib.hid (bel0 HB3.out hb); clear hb))
      | fail)
    go_ret
    exact ⟨rfl, HB4.out⟩
end Go.Proofs.Ytmikhkolbkdnpaa
