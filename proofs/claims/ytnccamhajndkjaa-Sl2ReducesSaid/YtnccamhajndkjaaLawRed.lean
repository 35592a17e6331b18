/- Sl2Reduces answers true for all integers: what it does to the world. -/
import Derived.Test.YtnccamhajndkjaaLawK
namespace Go.Proofs.Ytnccamhajndkjaa
open Go.RowKit

set_option maxHeartbeats 3200000 in
set_option maxRecDepth 1000000 in
theorem reduces_walk (p q : Int) (w : World) :
    Calls Try.prog 8 #[.int .i64 p, .int .i64 q] w fun e w' => e = .returned (.bool true) ∧ Below w.heap.size w w' := by
  obtain ⟨u, v, k, hr⟩ : ∃ u v k, redE p q = (u, v, k) := ⟨_, _, _, rfl⟩
  have HA := Lib.hid (fun W => reduce_any p q u v k W hr)
  have HR := Lib.hid (fun W => rreduce_any p q u v k W hr)
  have HC := Lib.hid (fun W => checkCusp_any u v W)
  by_cases h1 : inE p = true ∧ inE q = true ∧ ¬ (p = 0 ∧ q = 0)
  · obtain ⟨hp, hq, h0⟩ := h1
    obtain ⟨x, y, hl⟩ : ∃ x y, low p q = (x, y) := ⟨_, _, rfl⟩
    rw [redE_yes hp hq h0 hl] at hr
    cases hr
    obtain ⟨l1, l2, l3⟩ := low_le h0 hl
    obtain ⟨s, hs, _, e1, e2, hlow⟩ := low_spec h0 hl
    obtain ⟨p1, p2⟩ := inE_iff.1 hp
    obtain ⟨q1, q2⟩ := inE_iff.1 hq
    have u1 : -1073741824 ≤ u := by omega
    have u2 : u ≤ 1073741824 := by omega
    have v1 : -1073741824 ≤ v := by omega
    have v2 : v ≤ 1073741824 := by omega
    have hc : cuspI u v = 0 := cuspI_zero.2 ⟨inE_yes u1 u2, v2, hlow⟩
    rw [hc] at HC
    obtain ⟨r1, r2⟩ := prod_le u1 u2 q1 q2
    obtain ⟨r3, r4⟩ := prod_le v1 v2 p1 p2
    have hb : (u * q == v * p) = true := by rw [beq_iff_eq]; exact l3
    clear hl l1 l2 l3 hs e1 e2 hlow hc hp hq h0
    go_enter Try.func8, Try.ntmps8
    go_wp2_with (first
      | (go_at_call 12; ((with_reducible refine (awake_any _).mono ?_); rintro e w1 ⟨rfl, hb⟩; have HB_w1 : Hid (Below w.heap.size w w1) := bel0 (Below.refl _ _) hb; clear hb))
      | (go_at_call 27; ((with_reducible refine (HA.out _).mono ?_); rintro e w2 ⟨rfl, hb⟩; have HB_w2 : Hid (Below w.heap.size w w2) := bel0 HB_w1.out hb; clear hb))
      | (go_at_call 28; ((with_reducible refine (HR.out _).mono ?_); rintro e w3 ⟨rfl, hb⟩; have A_w3 := Lib.hid (((Two.at w2 (g := w2.heap.size) rfl u v)).below hb); have HB_w3 : Hid (Below w.heap.size w w3) := bel1 HB_w2.out hb; obtain ⟨aw30, aw31⟩ := A_w3.out.cells; have ltA_w3 := A_w3.out.lt; clear hb))
      | (go_at_call 25; ((with_reducible refine (HC.out _).mono ?_); rintro e w4 ⟨rfl, hb⟩; have A_w4 := Lib.hid (((A_w3.out).alloc _).below hb); have B_w4 := Lib.hid (((Two.at w3 (g := w3.heap.size) rfl u v)).below hb); have HB_w4 : Hid (Below w.heap.size w w4) := bel1 HB_w3.out hb; obtain ⟨aw40, aw41⟩ := A_w4.out.cells; have ltA_w4 := A_w4.out.lt; obtain ⟨bw40, bw41⟩ := B_w4.out.cells; have ltB_w4 := B_w4.out.lt; clear hb))
      | fail)
    go_ret
    exact ⟨rfl, bel0 HB_w4.out (Below.refl _ _)⟩
  · have hk : ¬ k = 0 ∧ u = 0 ∧ v = 0 := by
      unfold redE at hr
      split at hr
      · cases hr; exact ⟨by decide, rfl, rfl⟩
      · rename_i h2
        split at hr
        · cases hr; exact ⟨by decide, rfl, rfl⟩
        · rename_i h3
          refine absurd ⟨?_, ?_, h3⟩ h1
          · cases e : inE p with
            | true => rfl
            | false => exact absurd (.inl e) h2
          · cases e : inE q with
            | true => rfl
            | false => exact absurd (.inr e) h2
    obtain ⟨hk, rfl, rfl⟩ := hk
    have hk1 : (k != 0) = true := by simpa using hk
    clear hr h1 hk
    go_enter Try.func8, Try.ntmps8
    go_wp2_with (first
      | (go_at_call 12; ((with_reducible refine (awake_any _).mono ?_); rintro e w1 ⟨rfl, hb⟩; have HB_w1 : Hid (Below w.heap.size w w1) := bel0 (Below.refl _ _) hb; clear hb))
      | (go_at_call 27; ((with_reducible refine (HA.out _).mono ?_); rintro e w2 ⟨rfl, hb⟩; have HB_w2 : Hid (Below w.heap.size w w2) := bel0 HB_w1.out hb; clear hb))
      | (go_at_call 28; ((with_reducible refine (HR.out _).mono ?_); rintro e w3 ⟨rfl, hb⟩; have A_w3 := Lib.hid (((Two.at w2 (g := w2.heap.size) rfl 0 0)).below hb); have HB_w3 : Hid (Below w.heap.size w w3) := bel1 HB_w2.out hb; obtain ⟨aw30, aw31⟩ := A_w3.out.cells; have ltA_w3 := A_w3.out.lt; clear hb))
      | (go_at_call 25; ((with_reducible refine (HC.out _).mono ?_); rintro e w4 ⟨rfl, hb⟩; have A_w4 := Lib.hid (((A_w3.out).alloc _).below hb); have B_w4 := Lib.hid (((Two.at w3 (g := w3.heap.size) rfl 0 0)).below hb); have HB_w4 : Hid (Below w.heap.size w w4) := bel1 HB_w3.out hb; obtain ⟨aw40, aw41⟩ := A_w4.out.cells; have ltA_w4 := A_w4.out.lt; obtain ⟨bw40, bw41⟩ := B_w4.out.cells; have ltB_w4 := B_w4.out.lt; clear hb))
      | fail)
    go_ret
    exact ⟨rfl, (HB_w3.out.trans ((below1 _ _).mono HB_w3.out.size))⟩
end Go.Proofs.Ytnccamhajndkjaa
