/- The guard of layer 22: Congruence at the three points, awake. -/
import Derived.Test.YtjofmgnggeoimaaCngL
namespace Go.Proofs.Ytjofmgnggeoimaa
open Go.RowKit
set_option linter.unusedVariables false
set_option linter.unusedSimpArgs false

set_option maxHeartbeats 3200000 in
set_option maxRecDepth 1000000 in
theorem congruence3 {cS cT : Nat} {AS AT : Option Addr} (w : World) (hS : RdZ w w.heap.size AS cS [1, 0, 2]) (hT : RdZ w w.heap.size AT cT [0, 2, 1]) :
    Calls Try.prog 38 #[.agg #[.slice AS 3 cS, .slice AT 3 cT]] w fun e w' => e = .returned (.tuple #[.bool true, .int .i64 0]) ∧ Below w.heap.size w w' := by
  have T0 : Hid ((w.alloc (.cells #[.slice AS 3 cS, .slice AT 3 cT] 24)).heap[w.heap.size]? = some (.cells #[.slice AS 3 cS, .slice AT 3 cT] 24 (0, 0))) := heap_alloc_new w _
  have HB0 : Hid (Below w.heap.size w (w.alloc (.cells #[.slice AS 3 cS, .slice AT 3 cT] 24))) := below1 w _
  have HLv := Lib.hid (fun W (hb : Below w.heap.size w W) => level3 W ((hS.below hb).mono hb.size) ((hT.below hb).mono hb.size))
  have HPr := Lib.hid (fun W (hb : Below w.heap.size w W) => projective3 W ((hS.below hb).mono hb.size) ((hT.below hb).mono hb.size))
  have HCn : Hid (∀ (W : World) A c A' c', RdZ W W.heap.size A c [1, 0, 2] → RdZ W W.heap.size A' c' [0, 2, 1] → Calls Try.prog 60 #[.agg #[.slice A 3 c, .slice A' 3 c'], .int .i64 2] W fun e w' => e = .returned (.bool true) ∧ Below W.heap.size W w') := fun W A c A' c' h h' => by
    obtain ⟨b, o, rfl, r⟩ := rdn3 h act3.s rfl
    obtain ⟨b', o', rfl, r'⟩ := rdn3 h' act3.t rfl
    exact contains3 W r r'
  clear hS hT
  go_enter Try.func38, Try.ntmps38
  go_wp2_with (first
    | (go_at_call 37; ((with_reducible refine (HLv.out _ HB0.out).mono ?_); rintro e w1 ⟨rfl, hb⟩; have HB1 := Lib.hid (bel0 HB0.out hb); have T1 := Lib.hid (block_below T0.out hb); obtain ⟨⟨t1, t2⟩, _⟩ := two_of_block T1.out; clear hb))
    | (go_at_call 50; ((with_reducible refine (HPr.out _ HB1.out).mono ?_); rintro e w2 ⟨A1, c1, A2, c2, rfl, h1, h2, hb⟩; have HB2 := Lib.hid (bel0 HB1.out hb); have H1 := Lib.hid h1; have H2 := Lib.hid h2; clear hb h1 h2))
    | (go_at_call 60; ((with_reducible refine (HCn.out _ _ _ _ _ H1.out H2.out).mono ?_); rintro e w3 ⟨rfl, hb⟩; have HB3 := Lib.hid (bel0 HB2.out hb); clear hb))
    | fail)
  go_ret2
  exact ⟨rfl, HB3.out⟩
theorem rdz3 (w : World) (a b c : Int) (t : TypeId) {g : Nat} (hg : g = w.heap.size) : RdZ (w.alloc (.cells #[.int .i64 a, .int .i64 b, .int .i64 c] t)) (w.heap.size + 1) (some ⟨g, 0, none⟩) 3 [a, b, c] := by
  subst hg
  refine ⟨by simp, by unfold maxLen; omega, fun _ => ⟨w.heap.size, 0, rfl, by omega, fun k hk => ?_⟩, fun a ha => by cases ha; exact ⟨_, _, rfl⟩⟩
  match k, hk with
  | 0, _ => simp
  | 1, _ => simp
  | 2, _ => simp
set_option maxHeartbeats 3200000 in
set_option maxRecDepth 1000000 in
theorem awake_any (w : World) : Calls Try.prog 12 #[] w fun e w' => e = .returned (.bool true) ∧ Below w.heap.size w w' := by
  go_enter Try.func12, Try.ntmps12
  go_upto_region 2 with fail
  have HS0 : Hid (RdZ (((w.alloc (.cells #[.int .i64 1, .int .i64 0, .int .i64 2] 3)).alloc (.cells #[.int .i64 0, .int .i64 2, .int .i64 1] 3)).alloc (.cells #[.slice (some ⟨w.heap.size, 0, none⟩) 3 3, .slice (some ⟨w.heap.size + 1, 0, none⟩) 3 3] 24)) (w.heap.size + 2) (some ⟨w.heap.size, 0, none⟩) 3 [1, 0, 2]) := ((rdz3 w 1 0 2 3 rfl).below ((below2 (w.alloc (.cells #[.int .i64 1, .int .i64 0, .int .i64 2] 3)) _ _).mono (by simp))).mono (by omega)
  have HT0 : Hid (RdZ (((w.alloc (.cells #[.int .i64 1, .int .i64 0, .int .i64 2] 3)).alloc (.cells #[.int .i64 0, .int .i64 2, .int .i64 1] 3)).alloc (.cells #[.slice (some ⟨w.heap.size, 0, none⟩) 3 3, .slice (some ⟨w.heap.size + 1, 0, none⟩) 3 3] 24)) (w.heap.size + 2) (some ⟨w.heap.size + 1, 0, none⟩) 3 [0, 2, 1]) := ((rdz3 (w.alloc (.cells #[.int .i64 1, .int .i64 0, .int .i64 2] 3)) 0 2 1 3 (by simp)).below ((below1 ((w.alloc (.cells #[.int .i64 1, .int .i64 0, .int .i64 2] 3)).alloc (.cells #[.int .i64 0, .int .i64 2, .int .i64 1] 3)) _).mono (by simp))).mono (by simp)
  have hx0 := heap_alloc_new ((w.alloc (.cells #[.int .i64 1, .int .i64 0, .int .i64 2] 3)).alloc (.cells #[.int .i64 0, .int .i64 2, .int .i64 1] 3)) (.cells #[.slice (some ⟨w.heap.size, 0, none⟩) 3 3, .slice (some ⟨w.heap.size + 1, 0, none⟩) 3 3] 24)
  rw [show ((w.alloc (.cells #[.int .i64 1, .int .i64 0, .int .i64 2] 3)).alloc (.cells #[.int .i64 0, .int .i64 2, .int .i64 1] 3)).heap.size = w.heap.size + 1 + 1 by simp] at hx0
  have X0 := Lib.hid hx0
  have HB0 : Hid (Below w.heap.size w (((w.alloc (.cells #[.int .i64 1, .int .i64 0, .int .i64 2] 3)).alloc (.cells #[.int .i64 0, .int .i64 2, .int .i64 1] 3)).alloc (.cells #[.slice (some ⟨w.heap.size, 0, none⟩) 3 3, .slice (some ⟨w.heap.size + 1, 0, none⟩) 3 3] 24))) := (below2 w _ _).trans ((below1 ((w.alloc (.cells #[.int .i64 1, .int .i64 0, .int .i64 2] 3)).alloc (.cells #[.int .i64 0, .int .i64 2, .int .i64 1] 3)) _).mono (by simp; omega))
  have HZ0 : Hid ((((w.alloc (.cells #[.int .i64 1, .int .i64 0, .int .i64 2] 3)).alloc (.cells #[.int .i64 0, .int .i64 2, .int .i64 1] 3)).alloc (.cells #[.slice (some ⟨w.heap.size, 0, none⟩) 3 3, .slice (some ⟨w.heap.size + 1, 0, none⟩) 3 3] 24)).heap.size = w.heap.size + 3) := by show _ = _; simp
  obtain ⟨W0, hW0⟩ : ∃ W0, W0 = (((w.alloc (.cells #[.int .i64 1, .int .i64 0, .int .i64 2] 3)).alloc (.cells #[.int .i64 0, .int .i64 2, .int .i64 1] 3)).alloc (.cells #[.slice (some ⟨w.heap.size, 0, none⟩) 3 3, .slice (some ⟨w.heap.size + 1, 0, none⟩) 3 3] 24)) := ⟨_, rfl⟩
  rw [← hW0] at HS0 HT0 X0 HB0 HZ0 ⊢
  clear hW0 hx0
  have hz0 := HZ0.out
  have HR := Lib.hid (fun (W : World) (hb : Below W0.heap.size W0 W) => (⟨((HS0.out.mono (by have := hz0; omega)).below hb).mono hb.size, ((HT0.out.mono (by have := hz0; omega)).below hb).mono hb.size⟩ : RdZ W W.heap.size (some ⟨w.heap.size, 0, none⟩) 3 [1, 0, 2] ∧ RdZ W W.heap.size (some ⟨w.heap.size + 1, 0, none⟩) 3 [0, 2, 1]))
  have HE := Lib.hid (fun (W : World) (hb : Below W0.heap.size W0 W) => euler3 W (HR.out W hb).1 (HR.out W hb).2)
  have HL := Lib.hid (fun (W : World) (hb : Below W0.heap.size W0 W) => level3 W (HR.out W hb).1 (HR.out W hb).2)
  have HC := Lib.hid (fun (W : World) (hb : Below W0.heap.size W0 W) => congruence3 W (HR.out W hb).1 (HR.out W hb).2)
  have HK := Lib.hid (fun (W : World) (hb : Below W0.heap.size W0 W) => pcheck3 W (HR.out W hb).1 (HR.out W hb).2 (Nat.le_refl _))
  have B0 := Lib.hid (Below.refl W0.heap.size W0)
  obtain ⟨⟨t1, t2⟩, _⟩ := two_of_block X0.out
  go_wp2_with (first
    | (go_at_call 35; ((with_reducible refine (HE.out _ B0.out).mono ?_); rintro e w1 ⟨rfl, hb⟩; have B1 := Lib.hid (bel0 B0.out hb); have X1 := Lib.hid (block_below X0.out hb); clear t1 t2; obtain ⟨⟨t1, t2⟩, _⟩ := two_of_block X1.out; clear hb))
    | (go_at_call 37; ((with_reducible refine (HL.out _ B1.out).mono ?_); rintro e w2 ⟨rfl, hb⟩; have B2 := Lib.hid (bel0 B1.out hb); have X2 := Lib.hid (block_below X1.out hb); clear t1 t2; obtain ⟨⟨t1, t2⟩, _⟩ := two_of_block X2.out; clear hb))
    | (go_at_call 38; ((with_reducible refine (HC.out _ B2.out).mono ?_); rintro e w3 ⟨rfl, hb⟩; have B3 := Lib.hid (bel0 B2.out hb); have X3 := Lib.hid (block_below X2.out hb); clear t1 t2; obtain ⟨⟨t1, t2⟩, _⟩ := two_of_block X3.out; clear hb))
    | (go_at_call 13; ((with_reducible refine (HK.out _ B3.out).mono ?_); rintro e w4 ⟨rfl, hb⟩; have B4 := Lib.hid (bel0 B3.out hb); clear hb t1 t2))
    | fail)
  go_ret
  exact ⟨rfl, HB0.out.trans (B4.out.mono HB0.out.size)⟩
end Go.Proofs.Ytjofmgnggeoimaa
