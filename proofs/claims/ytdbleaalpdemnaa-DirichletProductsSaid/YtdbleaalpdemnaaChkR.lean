/- The reference's check of a character. -/
import Derived.Test.YtdbleaalpdemnaaRgX
import Derived.Test.YtdbleaalpdemnaaChkV
import Derived.Test.YtdbleaalpdemnaaLawGe
namespace Go.Proofs.Ytdbleaalpdemnaa
open Go.RowKit
set_option linter.unusedVariables false
set_option linter.unusedSimpArgs false

set_option maxHeartbeats 3200000 in
set_option maxRecDepth 1000000 in
theorem rchk_any (n : Int) (E : List Int) (A : Option Addr) (c : Nat) (w : World) (hE : RdZ w w.heap.size A c E) :
    Calls Try.prog 23 #[.agg #[.int .i64 n, .slice A E.length c]] w fun e w' => e = .returned (.int .i64 (chkV n E)) ∧ Below w.heap.size w w' := by
  have X0 : Hid ((w.alloc (.cells #[.int .i64 n, .slice A E.length c] 33)).heap[w.heap.size]? = some (.cells #[.int .i64 n, .slice A E.length c] 33 (0, 0))) := heap_alloc_new w _
  have B0 : Hid (Below w.heap.size w (w.alloc (.cells #[.int .i64 n, .slice A E.length c] 33))) := below1 w _
  obtain ⟨x0, x1, _⟩ := cells_two X0.out
  have HMo := Lib.hid (fun W => rmodu_any n W)
  have hel := hE.len
  by_cases h : 1 ≤ n ∧ n ≤ 60
  · rw [if_pos h] at HMo
    obtain ⟨N, rfl⟩ : ∃ N : Nat, n = (N : Int) := ⟨n.toNat, by omega⟩
    have N1 : 1 ≤ N := by omega
    have hcv : chkV (N : Int) E = ckX N E := by unfold chkV; rw [if_pos h, Int.toNat_natCast]
    have HCk : Hid (ckX N E = if E.length = (gensV N).length then exL E (gensV N) else 4) := rfl
    rw [hcv]
    have HRg : Hid (∀ W : World, Calls Try.prog 16 #[.int .i64 (N : Int)] W fun e w' => ∃ A1 c1 A2 c2, e = .returned (.tuple #[.slice A1 (gensV N).length c1, .slice A2 (gensV N).length c2]) ∧ RdZ w' w'.heap.size A2 c2 (m2 (gensV N)) ∧ Below W.heap.size W w') := fun W => by
      refine (rgenr_any N W N1 h.2).mono fun e w' ⟨v1, v2, he, h1, h2, hb⟩ => ?_
      obtain ⟨A1, c1, rfl, hr1⟩ := own_rdz h1
      obtain ⟨A2, c2, rfl, hr2⟩ := own_rdz h2
      rw [List.length_map, List.length_map] at he
      exact ⟨A1, c1, A2, c2, he, hr2, hb⟩
    have HLl : Hid ((m2 (gensV N)).length = (gensV N).length) := List.length_map ..
    have HMg : Hid (∀ k (h : k < (gensV N).length) (h2 : k < (m2 (gensV N)).length), (m2 (gensV N))[k] = (((gensV N)[k].2 : Nat) : Int)) := fun k h h2 => by simp [m2]
    have hgl := (gens_facts N1 (show N ≤ 60 by omega)).len
    have HGb := Lib.hid (gens_facts N1 (show N ≤ 60 by omega))
    have HE0 := Lib.hid hE
    clear hE hcv
    generalize ckX N E = r at *
    generalize gensV N = G at *
    go_enter Try.func23, Try.ntmps23
    go_upto_region 5 with (first
      | (go_at_call 15; ((with_reducible refine (HMo.out _).mono ?_); rintro e w1 ⟨rfl, rfl⟩))
      | (go_at_call 16; ((with_reducible refine (HRg.out _).mono ?_); rintro e w2 ⟨A1, c1, A2, c2, rfl, hr, hb⟩; have B2 := Lib.hid (B0.out.trans (hb.mono B0.out.size)); have X2 := Lib.hid (block_below X0.out hb); have HR := Lib.hid hr; clear x0 x1 hb hr))
      | fail)
    obtain ⟨x0, x1, _⟩ := cells_two X2.out
    by_cases hl : E.length = G.length
    · rw [if_pos hl] at HCk
      have hl2 : ((E.length : Int) != (G.length : Int)) = false := by rw [bne_eq_false_iff_eq]; omega
      have HL := Lib.hid hl
      clear hl
      go_wp2
      go_loopw [6] (fun I wr => ∃ k : Nat, I = .int .i64 (k : Int) ∧ k ≤ G.length ∧ Hid (exL (E.drop k) (G.drop k) = r) ∧ Hid (Below w2.heap.size w2 wr)) (fun I _ => G.length - (intOf I).toNat)
      case atStart => exact ⟨0, rfl, Nat.zero_le _, by show _ = _; rw [HCk.out]; rfl, Below.refl _ _⟩
      case round =>
        clear x0 x1
        obtain ⟨k, rfl, hk, HX, HW⟩ := hrel
        by_cases hkl : k < G.length
        · have hkli : (k : Int) < (G.length : Int) := by omega
          have hke : k < E.length := by have := HL.out; omega
          have hkle : (k : Int) < (E.length : Int) := by omega
          obtain ⟨b, o, rfl, hb, y1⟩ := (((HE0.out.below B2.out).mono B2.out.size).below HW.out).at_ hke
          obtain ⟨b2, o2, rfl, hb2, y2⟩ := (HR.out.below HW.out).at_ (k := k) (by rw [HLl.out]; exact hkl)
          rw [HMg.out k hkl] at y2
          have HX2 := Lib.hid ((exL_at hke hkl).symm.trans HX.out)
          have g2 := HGb.out.o2 _ (List.getElem_mem hkl)
          have z2 := (cells_two (block_below X2.out HW.out)).2.1
          clear HX
          generalize E[k] = x at *
          generalize G[k] = f at *
          obtain ⟨p, q⟩ := f
          simp only at y2 g2 HX2
          have HWd : Hid (Below w2.heap.size w2 wr.drew) := HW.out.drew
          by_cases hx : 0 ≤ x
          · by_cases hxq : x < (q : Int)
            · rw [if_pos ⟨hx, hxq⟩] at HX2
              have i1 : ¬ x < 0 := by omega
              have i2 : ¬ (q : Int) ≤ x := by omega
              go_upto_region 10 with fail
              go_region
              go_wp2
              go_roundw
              case rel => exact ⟨k + 1, by go_num, by omega, HX2.out, HWd.out⟩
              case measure => simp [intOf]; omega
            · rw [if_neg (by omega)] at HX2
              have HR3 : Hid (r = 3) := HX2.out.symm
              have i1 : ¬ x < 0 := by omega
              have i2 : (q : Int) ≤ x := by omega
              clear HX2
              go_upto_region 10 with fail
              go_region
              go_wp2
              go_ret
              exact ⟨by rw [HR3.out]; rfl, B2.out.trans (HWd.out.mono B2.out.size)⟩
          · rw [if_neg (by omega)] at HX2
            have HR3 : Hid (r = 3) := HX2.out.symm
            have i1 : x < 0 := by omega
            clear HX2
            go_upto_region 10 with fail
            go_region
            go_wp2
            go_ret
            exact ⟨by rw [HR3.out]; rfl, B2.out.trans (HWd.out.mono B2.out.size)⟩
        · obtain rfl : k = G.length := by omega
          have hk3 : ¬ (G.length : Int) < (G.length : Int) := by omega
          have HR0 : Hid (r = 0) := by show _ = _; rw [← HX.out, List.drop_eq_nil_of_le (Nat.le_refl _), List.drop_eq_nil_of_le (by have := HL.out; omega)]; rfl
          go_wp2
          go_ret
          exact ⟨by rw [HR0.out]; rfl, B2.out.trans (HW.out.mono B2.out.size)⟩
    · rw [if_neg hl] at HCk
      have hl2 : ((E.length : Int) != (G.length : Int)) = true := by rw [bne_iff_ne]; omega
      go_wp2
      go_ret
      exact ⟨by rw [HCk.out]; rfl, B2.out⟩
  · rw [if_neg h] at HMo
    have hcv : chkV n E = 2 := by unfold chkV; rw [if_neg h]
    rw [hcv]
    clear h hcv
    go_enter Try.func23, Try.ntmps23
    go_wp2_with (first
      | (go_at_call 15; ((with_reducible refine (HMo.out _).mono ?_); rintro e w1 ⟨rfl, rfl⟩))
      | fail)
    go_ret
    exact ⟨rfl, B0.out⟩
end Go.Proofs.Ytdbleaalpdemnaa
