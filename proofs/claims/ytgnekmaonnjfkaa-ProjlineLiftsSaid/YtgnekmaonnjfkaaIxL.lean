/- The contracts of index and Index. -/
import Derived.Test.YtgnekmaonnjfkaaPubL
import Derived.Test.YtgnekmaonnjfkaaIxM
namespace Go.Proofs.Ytgnekmaonnjfkaa
open Go.RowKit
set_option linter.unusedVariables false

set_option maxHeartbeats 1600000 in
set_option maxRecDepth 1000000 in
theorem same_pt {g : Nat} (U V T x y z : Int) (w : World) (h : Tri w g U V T) :
    Calls Try.prog 52 #[.agg #[.int .i64 x, .int .i64 y, .int .i64 z], .pointer (some ⟨g, 0, none⟩)] w fun e w' => e = .returned (.bool (decide (U = x) && decide (V = y))) ∧ Below w.heap.size w w' := by
  obtain ⟨k1, k2, k3⟩ := h.cells
  have hz := h.lt
  clear h
  by_cases h1 : U = x
  · subst h1
    by_cases h2 : V = y
    · subst h2
      go_enter Try.func52, Try.ntmps52
      go_wp2
      go_ret
      exact ⟨by simp, below1 _ _⟩
    · have hb : (V == y) = false := by rw [beq_eq_false_iff_ne]; exact h2
      have hd : decide (V = y) = false := decide_eq_false h2
      rw [hd]
      clear h2
      go_enter Try.func52, Try.ntmps52
      go_wp2
      go_ret
      exact ⟨by simp, below1 _ _⟩
  · have hb : (U == x) = false := by rw [beq_eq_false_iff_ne]; exact h1
    have hd : decide (U = x) = false := decide_eq_false h1
    rw [hd]
    clear h1
    go_enter Try.func52, Try.ntmps52
    go_wp2
    go_ret
    exact ⟨by simp, below1 _ _⟩
set_option maxHeartbeats 3200000 in
set_option maxRecDepth 1000000 in
theorem idxf_any {g B c : Nat} {A : Option Addr} {C : List (Nat × Nat)} {u v : Nat} (T : Int) (w : World) (h : Tri w g u v T) (hr : RdP w B A c C) (hB : B ≤ w.heap.size) (hm : (u, v) ∈ C) (hl : C.length ≤ 14400) :
    Calls Try.prog 51 #[.slice A C.length c, .func (.func 52) #[] #[.pointer (some ⟨g, 0, none⟩)]] w fun e w' => e = .returned (.int .i64 (ix C u v)) ∧ Below w.heap.size w w' := by
  obtain ⟨hlt, hget⟩ := ix_get hm
  have HF : Hid (∀ (j : Nat) (hj : j < C.length), j < ix C u v → (decide ((u : Int) = (C[j].1 : Int)) && decide ((v : Int) = (C[j].2 : Int))) = false) := fun j hj h1 => by
    have := ix_first (u := u) (v := v) hj h1
    rw [Bool.and_eq_false_iff, decide_eq_false_iff_not, decide_eq_false_iff_not]
    omega
  have HG : Hid (∀ (hj : ix C u v < C.length), (decide ((u : Int) = (C[ix C u v].1 : Int)) && decide ((v : Int) = (C[ix C u v].2 : Int))) = true) := fun hj => by rw [hget]; simp
  have HT := Lib.hid h
  have HR := Lib.hid hr
  clear h hr hget hm
  obtain ⟨K, hK⟩ : ∃ K, K = ix C u v := ⟨_, rfl⟩
  rw [← hK] at HF HG hlt ⊢
  clear hK
  go_enter Try.func51, Try.ntmps51
  go_wp2
  go_loopw [5, 8] (fun _ I wr => ∃ i : Nat, I = .int .i64 i ∧ i ≤ K ∧ Hid (Below w.heap.size w wr)) (fun _ I _ => C.length - (intOf I).toNat)
  case atStart => exact ⟨0, rfl, Nat.zero_le _, Below.refl _ _⟩
  case round =>
    obtain ⟨i, rfl, hi, HBw⟩ := hrel
    have hil : i < C.length := by omega
    have hili : (i : Int) < (C.length : Int) := by omega
    obtain ⟨b, o, rfl, hb, x1, x2, x3⟩ := (HR.out.below (HBw.out.mono hB)).at_ hil
    have HTw := Lib.hid (HT.out.below HBw.out)
    have HS := Lib.hid (fun (W : World) (hW : Tri W g u v T) => same_pt (u : Int) v T C[i].1 C[i].2 1 W hW)
    by_cases hK : i < K
    · rw [HF.out i hil hK] at HS
      clear HF HG
      generalize C[i].1 = x at *
      generalize C[i].2 = y at *
      go_wp2_with (first
        | (go_at_call 52; ((with_reducible refine (HS.out _ HTw.out).mono ?_); rintro e w2 ⟨rfl, hb2⟩; have HB2 := Lib.hid (bel0 HBw.out hb2); clear hb2 x1 x2 x3))
        | fail)
      go_roundw
      case rel => exact ⟨i + 1, by go_num, by omega, HB2.out⟩
      case measure => simp [intOf]; omega
    · obtain rfl : i = K := by omega
      rw [HG.out hil] at HS
      clear HF HG
      generalize C[i].1 = x at *
      generalize C[i].2 = y at *
      go_wp2_with (first
        | (go_at_call 52; ((with_reducible refine (HS.out _ HTw.out).mono ?_); rintro e w2 ⟨rfl, hb2⟩; have HB2 := Lib.hid (bel0 HBw.out hb2); clear hb2 x1 x2 x3))
        | fail)
      go_ret
      exact ⟨rfl, HB2.out⟩
set_option maxHeartbeats 1600000 in
set_option maxRecDepth 1000000 in
theorem index_any {B c : Nat} {A : Option Addr} {C : List (Nat × Nat)} {u v : Nat} (T : Int) (w : World) (hr : RdP w B A c C) (hB : B ≤ w.heap.size) (hm : (u, v) ∈ C) (hl : C.length ≤ 14400) :
    Calls Try.prog 39 #[.slice A C.length c, .agg #[.int .i64 (u : Int), .int .i64 (v : Int), .int .i64 T]] w fun e w' => e = .returned (.int .i64 (ix C u v)) ∧ Below w.heap.size w w' := by
  have HI := Lib.hid (fun (W : World) (h : Tri W w.heap.size u v T) (hb : Below w.heap.size w W) => idxf_any T W h (hr.below (hb.mono hB)) (Nat.le_trans hB hb.size) hm hl)
  clear hr hm
  go_enter Try.func39, Try.ntmps39
  go_wp2_with (first
    | (go_at_call 51; ((with_reducible refine (HI.out _ (Tri.at w rfl u v T) (below1 _ _)).mono ?_); rintro e w2 ⟨rfl, hb2⟩; have HB2 := Lib.hid (bel1 (Below.refl _ _) hb2); clear hb2))
    | fail)
  go_ret
  exact ⟨rfl, HB2.out⟩
end Go.Proofs.Ytgnekmaonnjfkaa
