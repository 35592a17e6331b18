/- The contract of the reference's Factor whole, and of its Abelian. Move, of the code and of the reference: one answer for both. -/
import Derived.Test.YtjofmgnggeoimaaRWordL
import Derived.Test.YtjofmgnggeoimaaMoG
import Derived.Test.YtjofmgnggeoimaaBasL
import Derived.Test.YtjofmgnggeoimaaWordL
import Derived.Test.YtjofmgnggeoimaaChkL
namespace Go.Proofs.Ytjofmgnggeoimaa
open Go.RowKit

set_option maxHeartbeats 1600000 in
set_option maxRecDepth 1000000 in
theorem rfactor_no (a b c d : Int) (w : World) (h : ¬ chkI a b c d = 0) : Calls Try.prog 46 #[.agg #[.int .i64 a, .int .i64 b, .int .i64 c, .int .i64 d]] w fun e w' => ∃ k, FacRet w ⟨a, b, c, d⟩ k e w' := by
  have HC := Lib.hid (fun W => rcheck_any a b c d W)
  have HK : Hid (¬ chkI a b c d = 0) := h
  have hk1 : (chkI a b c d != 0) = true := by simpa using h
  obtain ⟨kk, hkk⟩ : ∃ kk, kk = chkI a b c d := ⟨_, rfl⟩
  rw [← hkk] at HC HK hk1
  have HKK := Lib.hid hkk
  clear h hkk
  go_enter Try.func46, Try.ntmps46
  go_wp2_with (first
    | (go_at_call 64; ((with_reducible refine (HC.out _).mono ?_); rintro e w1 ⟨rfl, hb⟩; obtain ⟨hc, hf⟩ := bcell hb; obtain ⟨hz0, hz1⟩ : w.heap.size < w1.heap.size ∧ w.heap.size + 1 < w1.heap.size := (by have := hb.size; (try simp at this); omega); have HBn : Hid (Below w.heap.size w w1) := (by first | exact HB.out.trans (hb.mono HB.out.size) | exact (HB.out.trans ((below1 _ _).mono HB.out.size)).trans (hb.mono (by have := HB.out.size; (try simp); omega)) | exact (below2 _ _ _).trans (hb.mono (by simp; omega)) | fail); have HB := Lib.hid HBn.out; clear HBn hb))
    | fail)
  refine bodyPost_ret (v := .tuple #[.agg #[.bool false, .slice none 0 0], .int .i64 kk]) ?_ rfl ⟨kk, false, none, 0, [], rfl, ?_, by simp, ⟨HKK.out, ?_, ?_⟩, below_set2 HB.out (by omega) _ _⟩
  · simp [results, Try.results46, go_sem, *]
  · exact ⟨by simp, by unfold maxLen; omega, fun h0 => by simp at h0, fun _ h0 => by cases h0⟩
  · rw [if_neg HK.out]
  · rw [if_neg HK.out]
theorem rfactor_any (a b c d : Int) (w : World) : Calls Try.prog 46 #[.agg #[.int .i64 a, .int .i64 b, .int .i64 c, .int .i64 d]] w fun e w' => ∃ k, FacRet w ⟨a, b, c, d⟩ k e w' := by
  by_cases h : chkI a b c d = 0
  · rcases chk_cases a b c d with ⟨_, k⟩ | ⟨h1, h2, _⟩ | ⟨_, _, k⟩
    · omega
    · exact rfactor_yes a b c d w h1 h2 h
    · omega
  · exact rfactor_no a b c d w h
end Go.Proofs.Ytjofmgnggeoimaa
namespace Go.Proofs.Ytjofmgnggeoimaa
open Go.RowKit
set_option linter.unusedVariables false
set_option linter.unusedSimpArgs false

theorem factorM (a b c d k : Int) (n : Bool) (l : List Int) (hk : k = chkI a b c d) (hn : n = if k = 0 then wn 32 ⟨a, b, c, d⟩ else false) (hl : l = if k = 0 then wl 32 ⟨a, b, c, d⟩ else []) (W : World) :
    Calls Try.prog 44 #[.agg #[.int .i64 a, .int .i64 b, .int .i64 c, .int .i64 d]] W fun e w' => ∃ (A : Option Addr) (cc : Nat), e = .returned (.tuple #[.agg #[.bool n, .slice A l.length cc], .int .i64 k]) ∧ RdZ w' w'.heap.size A cc l ∧ Below W.heap.size W w' := by
  refine (factor_any a b c d W).mono ?_
  rintro e w' ⟨k', n', A, cc, l', he, hr, _, ⟨h1, h2, h3⟩, hb⟩
  have e1 : k' = k := h1.trans hk.symm
  subst e1
  have e2 : n' = n := h2.trans hn.symm
  have e3 : l' = l := h3.trans hl.symm
  subst e2 e3
  exact ⟨A, cc, he, hr, hb⟩
theorem rfactorM (a b c d k : Int) (n : Bool) (l : List Int) (hk : k = chkI a b c d) (hn : n = if k = 0 then wn 32 ⟨a, b, c, d⟩ else false) (hl : l = if k = 0 then wl 32 ⟨a, b, c, d⟩ else []) (W : World) :
    Calls Try.prog 46 #[.agg #[.int .i64 a, .int .i64 b, .int .i64 c, .int .i64 d]] W fun e w' => ∃ (A : Option Addr) (cc : Nat), e = .returned (.tuple #[.agg #[.bool n, .slice A l.length cc], .int .i64 k]) ∧ RdZ w' w'.heap.size A cc l ∧ Below W.heap.size W w' := by
  refine (rfactor_any a b c d W).mono ?_
  rintro e w' ⟨k', n', A, cc, l', he, hr, _, ⟨h1, h2, h3⟩, hb⟩
  have e1 : k' = k := h1.trans hk.symm
  subst e1
  have e2 : n' = n := h2.trans hn.symm
  have e3 : l' = l := h3.trans hl.symm
  subst e2 e3
  exact ⟨A, cc, he, hr, hb⟩
set_option maxHeartbeats 3200000 in
set_option maxRecDepth 1000000 in
theorem cmove_err (w : World) (vS vT : Value) (i a b c d : Int) (cp : Int) (HC0 : ∀ W, Below w.heap.size w W → Calls Try.prog 43 #[.agg #[vS, vT], .int .i64 i] W fun e w' => e = .returned (.int .i64 cp) ∧ Below W.heap.size W w') (hc : cp ≠ 0) :
    Calls Try.prog 16 #[.agg #[vS, vT], .int .i64 i, .agg #[.int .i64 a, .int .i64 b, .int .i64 c, .int .i64 d]] w fun e w' => e = .returned (.tuple #[.int .i64 0, .int .i64 cp]) ∧ Below w.heap.size w w' := by
  have X0 : Hid ((((w.alloc (.cells #[vS, vT] 24)).alloc (.cells #[.int .i64 a, .int .i64 b, .int .i64 c, .int .i64 d] 32))).heap[w.heap.size]? = some (.cells #[vS, vT] 24 (0, 0))) := block_alloc (heap_alloc_new w _) _
  have hy0 := heap_alloc_new (w.alloc (.cells #[vS, vT] 24)) (.cells #[.int .i64 a, .int .i64 b, .int .i64 c, .int .i64 d] 32)
  rw [show (w.alloc (.cells #[vS, vT] 24)).heap.size = w.heap.size + 1 by simp] at hy0
  have Y0 := Lib.hid hy0
  have HB0 : Hid (Below w.heap.size w (((w.alloc (.cells #[vS, vT] 24)).alloc (.cells #[.int .i64 a, .int .i64 b, .int .i64 c, .int .i64 d] 32)))) := below2 w _ _
  clear hy0
  have HC := Lib.hid HC0
  have hcb : (cp == 0) = false := by simpa using hc
  clear HC0
  go_enter Try.func16, Try.ntmps16
  go_wp2_with (first
    | (go_at_call 43; ((with_reducible refine (HC.out _ HB0.out).mono ?_); rintro e w1 ⟨rfl, hb⟩; have HB1 := Lib.hid (bel0 HB0.out hb); have X1 := Lib.hid (block_below X0.out hb); have Y1 := Lib.hid (block_below Y0.out hb); obtain ⟨⟨x1, x2⟩, _⟩ := two_of_block X1.out; obtain ⟨⟨y1, y2, y3, y4⟩, _⟩ := four_of_block Y1.out; clear hb))
    | fail)
  go_ret2
  exact ⟨rfl, HB1.out⟩
set_option maxHeartbeats 3200000 in
set_option maxRecDepth 1000000 in
theorem cmove_mat (w : World) (vS vT : Value) (i a b c d : Int) (HC0 : ∀ W, Below w.heap.size w W → Calls Try.prog 43 #[.agg #[vS, vT], .int .i64 i] W fun e w' => e = .returned (.int .i64 0) ∧ Below W.heap.size W w') (k : Int) (ng : Bool) (l : List Int) (HF0 : ∀ W, Calls Try.prog 44 #[.agg #[.int .i64 a, .int .i64 b, .int .i64 c, .int .i64 d]] W fun e w' => ∃ (A : Option Addr) (cc : Nat), e = .returned (.tuple #[.agg #[.bool ng, .slice A l.length cc], .int .i64 k]) ∧ RdZ w' w'.heap.size A cc l ∧ Below W.heap.size W w') (hk : k ≠ 0) :
    Calls Try.prog 16 #[.agg #[vS, vT], .int .i64 i, .agg #[.int .i64 a, .int .i64 b, .int .i64 c, .int .i64 d]] w fun e w' => e = .returned (.tuple #[.int .i64 0, .int .i64 k]) ∧ Below w.heap.size w w' := by
  have X0 : Hid ((((w.alloc (.cells #[vS, vT] 24)).alloc (.cells #[.int .i64 a, .int .i64 b, .int .i64 c, .int .i64 d] 32))).heap[w.heap.size]? = some (.cells #[vS, vT] 24 (0, 0))) := block_alloc (heap_alloc_new w _) _
  have hy0 := heap_alloc_new (w.alloc (.cells #[vS, vT] 24)) (.cells #[.int .i64 a, .int .i64 b, .int .i64 c, .int .i64 d] 32)
  rw [show (w.alloc (.cells #[vS, vT] 24)).heap.size = w.heap.size + 1 by simp] at hy0
  have Y0 := Lib.hid hy0
  have HB0 : Hid (Below w.heap.size w (((w.alloc (.cells #[vS, vT] 24)).alloc (.cells #[.int .i64 a, .int .i64 b, .int .i64 c, .int .i64 d] 32)))) := below2 w _ _
  clear hy0
  have HC := Lib.hid HC0
  have HF := Lib.hid HF0
  have hkb : (k == 0) = false := by simpa using hk
  clear HC0 HF0
  go_enter Try.func16, Try.ntmps16
  go_wp2_with (first
    | (go_at_call 43; ((with_reducible refine (HC.out _ HB0.out).mono ?_); rintro e w1 ⟨rfl, hb⟩; have HB1 := Lib.hid (bel0 HB0.out hb); have X1 := Lib.hid (block_below X0.out hb); have Y1 := Lib.hid (block_below Y0.out hb); obtain ⟨⟨x1, x2⟩, _⟩ := two_of_block X1.out; obtain ⟨⟨y1, y2, y3, y4⟩, _⟩ := four_of_block Y1.out; clear hb))
    | (go_at_call 44; ((with_reducible refine (HF.out _).mono ?_); rintro e w2 ⟨AL, cL, rfl, hr, hb⟩; have HB2 := Lib.hid (bel0 HB1.out hb); have HB2' : Hid (Below w.heap.size w (w2.alloc (.cells #[.bool ng, .slice AL l.length cL] 65))) := HB2.out.alloc HB2.out.size _; have X2 := Lib.hid (block_alloc (block_below X1.out hb) (.cells #[.bool ng, .slice AL l.length cL] 65)); have P2 : Hid ((w2.alloc (.cells #[.bool ng, .slice AL l.length cL] 65)).heap[w2.heap.size]? = some (.cells #[.bool ng, .slice AL l.length cL] 65 (0, 0))) := heap_alloc_new w2 _; have hb2 := below1 w2 (.cells #[.bool ng, .slice AL l.length cL] 65); have K2 := Lib.hid ((hr.below hb2).mono hb2.size); obtain ⟨⟨p1, p2⟩, _⟩ := two_of_block P2.out; clear x1 x2 y1 y2 y3 y4; obtain ⟨⟨x1, x2⟩, _⟩ := two_of_block X2.out; clear hr hb hb2))
    | fail)
  go_ret2
  exact ⟨rfl, HB2'.out⟩
set_option maxHeartbeats 3200000 in
set_option maxRecDepth 1000000 in
theorem cmove_ok (w : World) (vS vT : Value) (i a b c d : Int) (HC0 : ∀ W, Below w.heap.size w W → Calls Try.prog 43 #[.agg #[vS, vT], .int .i64 i] W fun e w' => e = .returned (.int .i64 0) ∧ Below W.heap.size W w') (ng : Bool) (l : List Int) (HF0 : ∀ W, Calls Try.prog 44 #[.agg #[.int .i64 a, .int .i64 b, .int .i64 c, .int .i64 d]] W fun e w' => ∃ (A : Option Addr) (cc : Nat), e = .returned (.tuple #[.agg #[.bool ng, .slice A l.length cc], .int .i64 0]) ∧ RdZ w' w'.heap.size A cc l ∧ Below W.heap.size W w') (x : Int) (HM0 : ∀ W AL cL, Below w.heap.size w W → RdZ W W.heap.size AL cL l → Calls Try.prog 45 #[.agg #[vS, vT], .int .i64 i, .agg #[.bool ng, .slice AL l.length cL]] W fun e w' => e = .returned (.int .i64 x) ∧ Below W.heap.size W w') :
    Calls Try.prog 16 #[.agg #[vS, vT], .int .i64 i, .agg #[.int .i64 a, .int .i64 b, .int .i64 c, .int .i64 d]] w fun e w' => e = .returned (.tuple #[.int .i64 x, .int .i64 0]) ∧ Below w.heap.size w w' := by
  have X0 : Hid ((((w.alloc (.cells #[vS, vT] 24)).alloc (.cells #[.int .i64 a, .int .i64 b, .int .i64 c, .int .i64 d] 32))).heap[w.heap.size]? = some (.cells #[vS, vT] 24 (0, 0))) := block_alloc (heap_alloc_new w _) _
  have hy0 := heap_alloc_new (w.alloc (.cells #[vS, vT] 24)) (.cells #[.int .i64 a, .int .i64 b, .int .i64 c, .int .i64 d] 32)
  rw [show (w.alloc (.cells #[vS, vT] 24)).heap.size = w.heap.size + 1 by simp] at hy0
  have Y0 := Lib.hid hy0
  have HB0 : Hid (Below w.heap.size w (((w.alloc (.cells #[vS, vT] 24)).alloc (.cells #[.int .i64 a, .int .i64 b, .int .i64 c, .int .i64 d] 32)))) := below2 w _ _
  clear hy0
  have HC := Lib.hid HC0
  have HF := Lib.hid HF0
  have HM := Lib.hid HM0
  clear HC0 HF0 HM0
  go_enter Try.func16, Try.ntmps16
  go_wp2_with (first
    | (go_at_call 43; ((with_reducible refine (HC.out _ HB0.out).mono ?_); rintro e w1 ⟨rfl, hb⟩; have HB1 := Lib.hid (bel0 HB0.out hb); have X1 := Lib.hid (block_below X0.out hb); have Y1 := Lib.hid (block_below Y0.out hb); obtain ⟨⟨x1, x2⟩, _⟩ := two_of_block X1.out; obtain ⟨⟨y1, y2, y3, y4⟩, _⟩ := four_of_block Y1.out; clear hb))
    | (go_at_call 44; ((with_reducible refine (HF.out _).mono ?_); rintro e w2 ⟨AL, cL, rfl, hr, hb⟩; have HB2 := Lib.hid (bel0 HB1.out hb); have HB2' : Hid (Below w.heap.size w (w2.alloc (.cells #[.bool ng, .slice AL l.length cL] 65))) := HB2.out.alloc HB2.out.size _; have X2 := Lib.hid (block_alloc (block_below X1.out hb) (.cells #[.bool ng, .slice AL l.length cL] 65)); have P2 : Hid ((w2.alloc (.cells #[.bool ng, .slice AL l.length cL] 65)).heap[w2.heap.size]? = some (.cells #[.bool ng, .slice AL l.length cL] 65 (0, 0))) := heap_alloc_new w2 _; have hb2 := below1 w2 (.cells #[.bool ng, .slice AL l.length cL] 65); have K2 := Lib.hid ((hr.below hb2).mono hb2.size); obtain ⟨⟨p1, p2⟩, _⟩ := two_of_block P2.out; clear x1 x2 y1 y2 y3 y4; obtain ⟨⟨x1, x2⟩, _⟩ := two_of_block X2.out; clear hr hb hb2))
    | (go_at_call 45; ((with_reducible refine (HM.out _ _ _ HB2'.out K2.out).mono ?_); rintro e w3 ⟨rfl, hb⟩; have HB3 := Lib.hid (bel0 HB2'.out hb); clear hb))
    | fail)
  go_ret2
  exact ⟨rfl, HB3.out⟩
set_option maxHeartbeats 3200000 in
set_option maxRecDepth 1000000 in
theorem rmove_err (w : World) (vS vT : Value) (i a b c d : Int) (z : Int) (HC0 : ∀ W, Below w.heap.size w W → Calls Try.prog 15 #[.agg #[vS, vT]] W fun e w' => e = .returned (.int .i64 z) ∧ Below W.heap.size W w') (hc : z ≠ 0) :
    Calls Try.prog 17 #[.agg #[vS, vT], .int .i64 i, .agg #[.int .i64 a, .int .i64 b, .int .i64 c, .int .i64 d]] w fun e w' => e = .returned (.tuple #[.int .i64 0, .int .i64 z]) ∧ Below w.heap.size w w' := by
  have X0 : Hid ((((w.alloc (.cells #[vS, vT] 24)).alloc (.cells #[.int .i64 a, .int .i64 b, .int .i64 c, .int .i64 d] 32))).heap[w.heap.size]? = some (.cells #[vS, vT] 24 (0, 0))) := block_alloc (heap_alloc_new w _) _
  have hy0 := heap_alloc_new (w.alloc (.cells #[vS, vT] 24)) (.cells #[.int .i64 a, .int .i64 b, .int .i64 c, .int .i64 d] 32)
  rw [show (w.alloc (.cells #[vS, vT] 24)).heap.size = w.heap.size + 1 by simp] at hy0
  have Y0 := Lib.hid hy0
  have HB0 : Hid (Below w.heap.size w (((w.alloc (.cells #[vS, vT] 24)).alloc (.cells #[.int .i64 a, .int .i64 b, .int .i64 c, .int .i64 d] 32)))) := below2 w _ _
  clear hy0
  have HC := Lib.hid HC0
  have hcb : (z == 0) = false := by simpa using hc
  clear HC0
  go_enter Try.func17, Try.ntmps17
  go_wp2_with (first
    | (go_at_call 15; ((with_reducible refine (HC.out _ HB0.out).mono ?_); rintro e w1 ⟨rfl, hb⟩; have HB1 := Lib.hid (bel0 HB0.out hb); have X1 := Lib.hid (block_below X0.out hb); have Y1 := Lib.hid (block_below Y0.out hb); obtain ⟨⟨x1, x2⟩, _⟩ := two_of_block X1.out; obtain ⟨⟨y1, y2, y3, y4⟩, _⟩ := four_of_block Y1.out; clear hb))
    | fail)
  go_ret2
  exact ⟨rfl, HB1.out⟩
set_option maxHeartbeats 3200000 in
set_option maxRecDepth 1000000 in
theorem rmove_out (w : World) (vS vT : Value) (i a b c d : Int) (HC0 : ∀ W, Below w.heap.size w W → Calls Try.prog 15 #[.agg #[vS, vT]] W fun e w' => e = .returned (.int .i64 0) ∧ Below W.heap.size W w') (AS : Option Addr) (n cS : Nat) (hvS : vS = .slice AS n cS) (hi : i < 0 ∨ (n : Int) ≤ i) :
    Calls Try.prog 17 #[.agg #[vS, vT], .int .i64 i, .agg #[.int .i64 a, .int .i64 b, .int .i64 c, .int .i64 d]] w fun e w' => e = .returned (.tuple #[.int .i64 0, .int .i64 2]) ∧ Below w.heap.size w w' := by
  subst hvS
  have X0 : Hid ((((w.alloc (.cells #[.slice AS n cS, vT] 24)).alloc (.cells #[.int .i64 a, .int .i64 b, .int .i64 c, .int .i64 d] 32))).heap[w.heap.size]? = some (.cells #[.slice AS n cS, vT] 24 (0, 0))) := block_alloc (heap_alloc_new w _) _
  have hy0 := heap_alloc_new (w.alloc (.cells #[.slice AS n cS, vT] 24)) (.cells #[.int .i64 a, .int .i64 b, .int .i64 c, .int .i64 d] 32)
  rw [show (w.alloc (.cells #[.slice AS n cS, vT] 24)).heap.size = w.heap.size + 1 by simp] at hy0
  have Y0 := Lib.hid hy0
  have HB0 : Hid (Below w.heap.size w (((w.alloc (.cells #[.slice AS n cS, vT] 24)).alloc (.cells #[.int .i64 a, .int .i64 b, .int .i64 c, .int .i64 d] 32)))) := below2 w _ _
  clear hy0
  have HC := Lib.hid HC0
  have HH := Lib.hid hi
  clear HC0 hi
  go_enter Try.func17, Try.ntmps17
  go_wp2_with (first
    | (go_at_call 15; ((with_reducible refine (HC.out _ HB0.out).mono ?_); rintro e w1 ⟨rfl, hb⟩; have HB1 := Lib.hid (bel0 HB0.out hb); have X1 := Lib.hid (block_below X0.out hb); have Y1 := Lib.hid (block_below Y0.out hb); obtain ⟨⟨x1, x2⟩, _⟩ := two_of_block X1.out; obtain ⟨⟨y1, y2, y3, y4⟩, _⟩ := four_of_block Y1.out; clear hb; rcases HH.out with h1 | h1))
    | fail)
  · go_ret2
    exact ⟨rfl, HB1.out⟩
  · have n1 : ¬ i < 0 := by omega
    have n2 : (n : Int) ≤ i := by omega
    go_wp2
    go_ret2
    exact ⟨rfl, HB1.out⟩
set_option maxHeartbeats 3200000 in
set_option maxRecDepth 1000000 in
theorem rmove_mat (w : World) (vS vT : Value) (i a b c d : Int) (HC0 : ∀ W, Below w.heap.size w W → Calls Try.prog 15 #[.agg #[vS, vT]] W fun e w' => e = .returned (.int .i64 0) ∧ Below W.heap.size W w') (AS : Option Addr) (n cS : Nat) (hvS : vS = .slice AS n cS) (hi : 0 ≤ i) (hin : i < n) (k : Int) (ng : Bool) (l : List Int) (HF0 : ∀ W, Calls Try.prog 46 #[.agg #[.int .i64 a, .int .i64 b, .int .i64 c, .int .i64 d]] W fun e w' => ∃ (A : Option Addr) (cc : Nat), e = .returned (.tuple #[.agg #[.bool ng, .slice A l.length cc], .int .i64 k]) ∧ RdZ w' w'.heap.size A cc l ∧ Below W.heap.size W w') (hk : k ≠ 0) :
    Calls Try.prog 17 #[.agg #[vS, vT], .int .i64 i, .agg #[.int .i64 a, .int .i64 b, .int .i64 c, .int .i64 d]] w fun e w' => e = .returned (.tuple #[.int .i64 0, .int .i64 k]) ∧ Below w.heap.size w w' := by
  subst hvS
  have X0 : Hid ((((w.alloc (.cells #[.slice AS n cS, vT] 24)).alloc (.cells #[.int .i64 a, .int .i64 b, .int .i64 c, .int .i64 d] 32))).heap[w.heap.size]? = some (.cells #[.slice AS n cS, vT] 24 (0, 0))) := block_alloc (heap_alloc_new w _) _
  have hy0 := heap_alloc_new (w.alloc (.cells #[.slice AS n cS, vT] 24)) (.cells #[.int .i64 a, .int .i64 b, .int .i64 c, .int .i64 d] 32)
  rw [show (w.alloc (.cells #[.slice AS n cS, vT] 24)).heap.size = w.heap.size + 1 by simp] at hy0
  have Y0 := Lib.hid hy0
  have HB0 : Hid (Below w.heap.size w (((w.alloc (.cells #[.slice AS n cS, vT] 24)).alloc (.cells #[.int .i64 a, .int .i64 b, .int .i64 c, .int .i64 d] 32)))) := below2 w _ _
  clear hy0
  have HC := Lib.hid HC0
  have HF := Lib.hid HF0
  have n1 : ¬ i < 0 := by omega
  have n2 : ¬ (n : Int) ≤ i := by omega
  have hkb : (k == 0) = false := by simpa using hk
  clear HC0 HF0
  go_enter Try.func17, Try.ntmps17
  go_wp2_with (first
    | (go_at_call 15; ((with_reducible refine (HC.out _ HB0.out).mono ?_); rintro e w1 ⟨rfl, hb⟩; have HB1 := Lib.hid (bel0 HB0.out hb); have X1 := Lib.hid (block_below X0.out hb); have Y1 := Lib.hid (block_below Y0.out hb); obtain ⟨⟨x1, x2⟩, _⟩ := two_of_block X1.out; obtain ⟨⟨y1, y2, y3, y4⟩, _⟩ := four_of_block Y1.out; clear hb))
    | (go_at_call 46; ((with_reducible refine (HF.out _).mono ?_); rintro e w2 ⟨AL, cL, rfl, hr, hb⟩; have HB2 := Lib.hid (bel0 HB1.out hb); have HB2' : Hid (Below w.heap.size w (w2.alloc (.cells #[.bool ng, .slice AL l.length cL] 65))) := HB2.out.alloc HB2.out.size _; have X2 := Lib.hid (block_alloc (block_below X1.out hb) (.cells #[.bool ng, .slice AL l.length cL] 65)); have P2 : Hid ((w2.alloc (.cells #[.bool ng, .slice AL l.length cL] 65)).heap[w2.heap.size]? = some (.cells #[.bool ng, .slice AL l.length cL] 65 (0, 0))) := heap_alloc_new w2 _; have hb2 := below1 w2 (.cells #[.bool ng, .slice AL l.length cL] 65); have K2 := Lib.hid ((hr.below hb2).mono hb2.size); obtain ⟨⟨p1, p2⟩, _⟩ := two_of_block P2.out; clear x1 x2 y1 y2 y3 y4; obtain ⟨⟨x1, x2⟩, _⟩ := two_of_block X2.out; clear hr hb hb2))
    | fail)
  go_ret2
  exact ⟨rfl, HB2'.out⟩
set_option maxHeartbeats 3200000 in
set_option maxRecDepth 1000000 in
theorem rmove_ok (w : World) (vS vT : Value) (i a b c d : Int) (HC0 : ∀ W, Below w.heap.size w W → Calls Try.prog 15 #[.agg #[vS, vT]] W fun e w' => e = .returned (.int .i64 0) ∧ Below W.heap.size W w') (AS : Option Addr) (n cS : Nat) (hvS : vS = .slice AS n cS) (hi : 0 ≤ i) (hin : i < n) (ng : Bool) (l : List Int) (HF0 : ∀ W, Calls Try.prog 46 #[.agg #[.int .i64 a, .int .i64 b, .int .i64 c, .int .i64 d]] W fun e w' => ∃ (A : Option Addr) (cc : Nat), e = .returned (.tuple #[.agg #[.bool ng, .slice A l.length cc], .int .i64 0]) ∧ RdZ w' w'.heap.size A cc l ∧ Below W.heap.size W w') (x : Int) (HM0 : ∀ W AL cL, Below w.heap.size w W → RdZ W W.heap.size AL cL l → Calls Try.prog 47 #[.agg #[vS, vT], .int .i64 i, .agg #[.bool ng, .slice AL l.length cL]] W fun e w' => e = .returned (.int .i64 x) ∧ Below W.heap.size W w') :
    Calls Try.prog 17 #[.agg #[vS, vT], .int .i64 i, .agg #[.int .i64 a, .int .i64 b, .int .i64 c, .int .i64 d]] w fun e w' => e = .returned (.tuple #[.int .i64 x, .int .i64 0]) ∧ Below w.heap.size w w' := by
  subst hvS
  have X0 : Hid ((((w.alloc (.cells #[.slice AS n cS, vT] 24)).alloc (.cells #[.int .i64 a, .int .i64 b, .int .i64 c, .int .i64 d] 32))).heap[w.heap.size]? = some (.cells #[.slice AS n cS, vT] 24 (0, 0))) := block_alloc (heap_alloc_new w _) _
  have hy0 := heap_alloc_new (w.alloc (.cells #[.slice AS n cS, vT] 24)) (.cells #[.int .i64 a, .int .i64 b, .int .i64 c, .int .i64 d] 32)
  rw [show (w.alloc (.cells #[.slice AS n cS, vT] 24)).heap.size = w.heap.size + 1 by simp] at hy0
  have Y0 := Lib.hid hy0
  have HB0 : Hid (Below w.heap.size w (((w.alloc (.cells #[.slice AS n cS, vT] 24)).alloc (.cells #[.int .i64 a, .int .i64 b, .int .i64 c, .int .i64 d] 32)))) := below2 w _ _
  clear hy0
  have HC := Lib.hid HC0
  have HF := Lib.hid HF0
  have n1 : ¬ i < 0 := by omega
  have n2 : ¬ (n : Int) ≤ i := by omega
  have HM := Lib.hid HM0
  clear HC0 HF0 HM0
  go_enter Try.func17, Try.ntmps17
  go_wp2_with (first
    | (go_at_call 15; ((with_reducible refine (HC.out _ HB0.out).mono ?_); rintro e w1 ⟨rfl, hb⟩; have HB1 := Lib.hid (bel0 HB0.out hb); have X1 := Lib.hid (block_below X0.out hb); have Y1 := Lib.hid (block_below Y0.out hb); obtain ⟨⟨x1, x2⟩, _⟩ := two_of_block X1.out; obtain ⟨⟨y1, y2, y3, y4⟩, _⟩ := four_of_block Y1.out; clear hb))
    | (go_at_call 46; ((with_reducible refine (HF.out _).mono ?_); rintro e w2 ⟨AL, cL, rfl, hr, hb⟩; have HB2 := Lib.hid (bel0 HB1.out hb); have HB2' : Hid (Below w.heap.size w (w2.alloc (.cells #[.bool ng, .slice AL l.length cL] 65))) := HB2.out.alloc HB2.out.size _; have X2 := Lib.hid (block_alloc (block_below X1.out hb) (.cells #[.bool ng, .slice AL l.length cL] 65)); have P2 : Hid ((w2.alloc (.cells #[.bool ng, .slice AL l.length cL] 65)).heap[w2.heap.size]? = some (.cells #[.bool ng, .slice AL l.length cL] 65 (0, 0))) := heap_alloc_new w2 _; have hb2 := below1 w2 (.cells #[.bool ng, .slice AL l.length cL] 65); have K2 := Lib.hid ((hr.below hb2).mono hb2.size); obtain ⟨⟨p1, p2⟩, _⟩ := two_of_block P2.out; clear x1 x2 y1 y2 y3 y4; obtain ⟨⟨x1, x2⟩, _⟩ := two_of_block X2.out; clear hr hb hb2))
    | (go_at_call 47; ((with_reducible refine (HM.out _ _ _ HB2'.out K2.out).mono ?_); rintro e w3 ⟨rfl, hb⟩; have HB3 := Lib.hid (bel0 HB2'.out hb); clear hb))
    | fail)
  go_ret2
  exact ⟨rfl, HB3.out⟩
set_option maxHeartbeats 3200000 in
set_option maxRecDepth 1000000 in
theorem ckpoint_bad {S T : List Int} {B cS cT : Nat} {AS AT : Option Addr} (w : World) (hS : RdZ w B AS cS S) (hT : RdZ w B AT cT T) (hB : B ≤ w.heap.size) (i z : Int) (hz : chkA S T = z) (hz0 : z ≠ 0) :
    Calls Try.prog 43 #[.agg #[.slice AS S.length cS, .slice AT T.length cT], .int .i64 i] w fun e w' => e = .returned (.int .i64 z) ∧ Below w.heap.size w w' := by
  have HCk : Hid (∀ W, Below w.heap.size w W → Calls Try.prog 13 #[.agg #[.slice AS S.length cS, .slice AT T.length cT]] W fun e w' => e = .returned (.int .i64 z) ∧ Below W.heap.size W w') := fun W hb => by
    have := pcheck_any W (hS.below (hb.mono hB)) (hT.below (hb.mono hB)) (Nat.le_trans hB hb.size)
    rwa [hz] at this
  clear hS hT hz
  have HB0 : Hid (Below w.heap.size w (w.alloc (.cells #[.slice AS S.length cS, .slice AT T.length cT] 24))) := below1 w _
  have hzb : (z == 0) = false := by simpa using hz0
  go_enter Try.func43, Try.ntmps43
  go_wp2_with (first
    | (go_at_call 13; ((with_reducible refine (HCk.out _ HB0.out).mono ?_); rintro e w1 ⟨rfl, hb⟩; have HB1 := Lib.hid (bel0 HB0.out hb); clear hb))
    | fail)
  go_ret
  exact ⟨rfl, HB1.out⟩
/-- What Move answers. -/
def MovesTo (S T : List Int) (i a b c d x z : Int) : Prop :=
  (∀ (w : World) (AS : Option Addr) (cS : Nat) (AT : Option Addr) (cT : Nat), RdZ w w.heap.size AS cS S → RdZ w w.heap.size AT cT T → Calls Try.prog 16 #[.agg #[.slice AS S.length cS, .slice AT T.length cT], .int .i64 i, .agg #[.int .i64 a, .int .i64 b, .int .i64 c, .int .i64 d]] w fun e w' => e = .returned (.tuple #[.int .i64 x, .int .i64 z]) ∧ Below w.heap.size w w') ∧
  (∀ (w : World) (AS : Option Addr) (cS : Nat) (AT : Option Addr) (cT : Nat), RdZ w w.heap.size AS cS S → RdZ w w.heap.size AT cT T → Calls Try.prog 17 #[.agg #[.slice AS S.length cS, .slice AT T.length cT], .int .i64 i, .agg #[.int .i64 a, .int .i64 b, .int .i64 c, .int .i64 d]] w fun e w' => e = .returned (.tuple #[.int .i64 x, .int .i64 z]) ∧ Below w.heap.size w w')
theorem moves_bad {S T : List Int} (i a b c d z : Int) (hz : chkA S T = z) (hz0 : z ≠ 0) : MovesTo S T i a b c d 0 z := by
  refine ⟨fun w AS cS AT cT hS hT => ?_, fun w AS cS AT cT hS hT => ?_⟩
  · exact cmove_err w _ _ i a b c d z (fun W hb => ckpoint_bad W (hS.below hb) (hT.below hb) hb.size i z hz hz0) hz0
  · refine rmove_err w _ _ i a b c d z (fun W hb => ?_) hz0
    have := rcheckA_any W (hS.below hb) (hT.below hb) hb.size
    rwa [hz] at this
theorem rck_ok {S T : List Int} {cS cT : Nat} {AS AT : Option Addr} (ha : Act2 S T) (w : World) (hS : RdZ w w.heap.size AS cS S) (hT : RdZ w w.heap.size AT cT T) (W : World) (hb : Below w.heap.size w W) :
    Calls Try.prog 15 #[.agg #[.slice AS S.length cS, .slice AT T.length cT]] W fun e w' => e = .returned (.int .i64 0) ∧ Below W.heap.size W w' := by
  have := rcheckA_any W (hS.below hb) (hT.below hb) hb.size
  rwa [chkA_ok ha] at this
theorem ckp_is {S T : List Int} {cS cT : Nat} {AS AT : Option Addr} (ha : Act2 S T) (w : World) (hS : RdZ w w.heap.size AS cS S) (hT : RdZ w w.heap.size AT cT T) (i z : Int) (hi : (0 ≤ i ∧ i < S.length ∧ z = 0) ∨ ((i < 0 ∨ (S.length : Int) ≤ i) ∧ z = 2)) (W : World) (hb : Below w.heap.size w W) :
    Calls Try.prog 43 #[.agg #[.slice AS S.length cS, .slice AT T.length cT], .int .i64 i] W fun e w' => e = .returned (.int .i64 z) ∧ Below W.heap.size W w' := by
  obtain ⟨bS, oS, bT, oT, rfl, rfl, hai⟩ := AI.mk' ha (hS.below hb) (hT.below hb) hb.size
  rw [ha.len]
  exact ckpoint_any W hai i z hi
theorem moves_out {S T : List Int} (ha : Act2 S T) (i a b c d : Int) (hi : i < 0 ∨ (S.length : Int) ≤ i) : MovesTo S T i a b c d 0 2 := by
  refine ⟨fun w AS cS AT cT hS hT => ?_, fun w AS cS AT cT hS hT => ?_⟩
  · exact cmove_err w _ _ i a b c d 2 (ckp_is ha w hS hT i 2 (.inr ⟨hi, rfl⟩)) (by decide)
  · exact rmove_out w _ _ i a b c d (rck_ok ha w hS hT) AS S.length cS rfl hi
theorem moves_mat {S T : List Int} (ha : Act2 S T) (i a b c d k : Int) (hi : 0 ≤ i) (hin : i < S.length) (hk : k = chkI a b c d) (hk0 : k ≠ 0) : MovesTo S T i a b c d 0 k := by
  refine ⟨fun w AS cS AT cT hS hT => ?_, fun w AS cS AT cT hS hT => ?_⟩
  · exact cmove_mat w _ _ i a b c d (ckp_is ha w hS hT i 0 (.inl ⟨hi, hin, rfl⟩)) k _ _ (factorM a b c d k _ _ hk rfl rfl) hk0
  · exact rmove_mat w _ _ i a b c d (rck_ok ha w hS hT) AS S.length cS rfl hi hin k _ _ (rfactorM a b c d k _ _ hk rfl rfl) hk0
/-- The point to which a matrix moves a point. -/
def mvI (S T : List Int) (i : Nat) (a b c d : Int) : Nat := if wn 32 ⟨a, b, c, d⟩ then zOf (fnz S) (mvP (fnz S) (fnz T) S.length (wl 32 ⟨a, b, c, d⟩) i (wl 32 ⟨a, b, c, d⟩).length) else mvP (fnz S) (fnz T) S.length (wl 32 ⟨a, b, c, d⟩) i (wl 32 ⟨a, b, c, d⟩).length
theorem moves_ok {S T : List Int} (ha : Act2 S T) (i : Nat) (a b c d : Int) (hin : i < S.length) (hk : chkI a b c d = 0) : MovesTo S T (i : Nat) a b c d (mvI S T i a b c d : Nat) 0 := by
  refine ⟨fun w AS cS AT cT hS hT => ?_, fun w AS cS AT cT hS hT => ?_⟩
  · refine cmove_ok w _ _ (i : Nat) a b c d (ckp_is ha w hS hT (i : Nat) 0 (.inl ⟨by omega, by omega, rfl⟩)) (wn 32 ⟨a, b, c, d⟩) (wl 32 ⟨a, b, c, d⟩) (factorM a b c d 0 _ _ hk.symm rfl rfl) _ (fun W AL cL hb hr => ?_)
    obtain ⟨bS, oS, bT, oT, rfl, rfl, hai⟩ := AI.mk' ha (hS.below hb) (hT.below hb) hb.size
    rw [ha.len]
    exact move_any W hai hin _ hr
  · refine rmove_ok w _ _ (i : Nat) a b c d (rck_ok ha w hS hT) AS S.length cS rfl (by omega) (by omega) (wn 32 ⟨a, b, c, d⟩) (wl 32 ⟨a, b, c, d⟩) (rfactorM a b c d 0 _ _ hk.symm rfl rfl) _ (fun W AL cL hb hr => ?_)
    obtain ⟨bS, oS, bT, oT, e1, rfl, hai⟩ := AI.mk' ha (hS.below hb) (hT.below hb) hb.size
    subst e1
    rw [ha.len]
    exact rgo_any W hai hin _ hr
theorem moves_is (S T : List Int) (i a b c d : Int) : ∃ x z, MovesTo S T i a b c d x z := by
  by_cases h : chkA S T = 0
  · have ha := chkA_zero h
    by_cases hi : i < 0 ∨ (S.length : Int) ≤ i
    · exact ⟨_, _, moves_out ha i a b c d hi⟩
    · by_cases hk : chkI a b c d = 0
      · obtain ⟨j, rfl⟩ : ∃ j : Nat, i = (j : Nat) := ⟨i.toNat, by omega⟩
        exact ⟨_, _, moves_ok ha j a b c d (by omega) hk⟩
      · exact ⟨_, _, moves_mat ha i a b c d _ (by omega) (by omega) rfl hk⟩
  · exact ⟨_, _, moves_bad i a b c d _ rfl h⟩
end Go.Proofs.Ytjofmgnggeoimaa
