/- The contract of the reference's Factor. -/
import Derived.Test.YtjofmgnggeoimaaWordL
import Derived.Test.YtjofmgnggeoimaaRGenL
import Derived.Deep.RegionHeld3
import Derived.Deep.LoopGhost
import Derived.Deep.RegionWith
namespace Go.Proofs.Ytjofmgnggeoimaa
open Go.RowKit

theorem WS.below {B g : Nat} {w0 wr w' : World} {m : M} {n : Bool} {v : Value} {L : List Int} (h : WS B g w0 wr m n v L) (hb : Below wr.heap.size wr w') : WS B g w0 w' m n v L :=
  ⟨block_below h.mat hb, block_below h.res hb, block_below h.var hb, own_below h.own hb, h.bel.trans (hb.mono (by have := h.size; have := h.hg; omega)), h.hg⟩
theorem WS.drew {B g : Nat} {w0 wr : World} {m : M} {n : Bool} {v : Value} {L : List Int} (h : WS B g w0 wr m n v L) : WS B g w0 wr.drew m n v L := ⟨h.mat, h.res, h.var, h.own, h.bel.drew, h.hg⟩
theorem WS.start2 {w w1 : World} {m : M} (hb : Below ((w.alloc (.cells #[.int .i64 m.a, .int .i64 m.b, .int .i64 m.c, .int .i64 m.d] 32)).alloc (.cells #[.bool false, .slice none 0 0] 65)).heap.size
    ((w.alloc (.cells #[.int .i64 m.a, .int .i64 m.b, .int .i64 m.c, .int .i64 m.d] 32)).alloc (.cells #[.bool false, .slice none 0 0] 65)) w1) :
    WS w.heap.size w1.heap.size w (w1.alloc (.cells #[.bool false, .slice none 0 0] 65)) m false (.slice none 0 0) [] := by
  have e1 : (w.alloc (.cells #[.int .i64 m.a, .int .i64 m.b, .int .i64 m.c, .int .i64 m.d] 32)).heap.size = w.heap.size + 1 := by simp
  refine ⟨block_alloc (block_below (block_alloc (heap_alloc_new w _) _) hb) _, block_alloc (block_below ?_ hb) _, heap_alloc_new w1 _, World.ownsRow_nil _ _ _ _, ?_, by have := hb.size; simp at this; omega⟩
  · have := heap_alloc_new (w.alloc (.cells #[.int .i64 m.a, .int .i64 m.b, .int .i64 m.c, .int .i64 m.d] 32)) (.cells #[.bool false, .slice none 0 0] 65)
    rwa [e1] at this
  · refine ((below2 w _ _).trans (hb.mono (by simp; omega))).alloc ?_ _
    have := hb.size; simp at this; omega
/-- What the code finds as the remainder. -/
theorem rem_mid {a c : Int} (hc : c ≠ 0) (h1 : -(c.natAbs : Int) < 2 * a.tmod c) (h2 : 2 * a.tmod c ≤ (c.natAbs : Int)) : (a - a.tmod c).tdiv c = nq a c := by
  have e := tdiv_parts a c
  have k := nq_of (q := a.tdiv c) hc e h1 h2
  rw [show a - a.tmod c = c * a.tdiv c by rw [Int.mul_comm]; omega, Int.mul_tdiv_cancel_left _ hc, k]
theorem rem_up {a c : Int} (hc : c ≠ 0) (h : (c.natAbs : Int) < 2 * a.tmod c) : (a - (a.tmod c - (c.natAbs : Int))).tdiv c = nq a c := by
  have e := tdiv_parts a c
  have hb := tmod_bd a hc
  rcases Int.lt_or_gt_of_ne hc with k | k
  · have k2 := nq_of (a := a) (q := a.tdiv c - 1) (r := a.tmod c + c) hc (by rw [Int.sub_mul]; omega) (by omega) (by omega)
    rw [show a - (a.tmod c - (c.natAbs : Int)) = c * (a.tdiv c - 1) by rw [Int.mul_comm, Int.sub_mul]; omega, Int.mul_tdiv_cancel_left _ hc, k2]
  · have k2 := nq_of (a := a) (q := a.tdiv c + 1) (r := a.tmod c - c) hc (by rw [Int.add_mul]; omega) (by omega) (by omega)
    rw [show a - (a.tmod c - (c.natAbs : Int)) = c * (a.tdiv c + 1) by rw [Int.mul_comm, Int.add_mul]; omega, Int.mul_tdiv_cancel_left _ hc, k2]
theorem rem_down {a c : Int} (hc : c ≠ 0) (h : 2 * a.tmod c ≤ -(c.natAbs : Int)) : (a - (a.tmod c + (c.natAbs : Int))).tdiv c = nq a c := by
  have e := tdiv_parts a c
  have hb := tmod_bd a hc
  rcases Int.lt_or_gt_of_ne hc with k | k
  · have k2 := nq_of (a := a) (q := a.tdiv c + 1) (r := a.tmod c - c) hc (by rw [Int.add_mul]; omega) (by omega) (by omega)
    rw [show a - (a.tmod c + (c.natAbs : Int)) = c * (a.tdiv c + 1) by rw [Int.mul_comm, Int.add_mul]; omega, Int.mul_tdiv_cancel_left _ hc, k2]
  · have k2 := nq_of (a := a) (q := a.tdiv c - 1) (r := a.tmod c + c) hc (by rw [Int.sub_mul]; omega) (by omega) (by omega)
    rw [show a - (a.tmod c + (c.natAbs : Int)) = c * (a.tdiv c - 1) by rw [Int.mul_comm, Int.sub_mul]; omega, Int.mul_tdiv_cancel_left _ hc, k2]

set_option maxHeartbeats 6400000 in
set_option maxRecDepth 1000000 in
theorem rfactor_yes (a b c d : Int) (w : World) (h : fitB a b c d = true) (h1 : a * d - b * c = 1) (hk : chkI a b c d = 0) :
    Calls Try.prog 46 #[.agg #[.int .i64 a, .int .i64 b, .int .i64 c, .int .i64 d]] w fun e w' => ∃ k, FacRet w ⟨a, b, c, d⟩ k e w' := by
  have HC := Lib.hid (fun W => rcheck_any a b c d W)
  have HK : Hid ((0 : Int) = chkI a b c d) := hk.symm
  obtain ⟨i0, hi, hz0', hz1', hz2'⟩ := info_parts Try.infoInt
  have HW := Lib.hid (Way.start (m := ⟨a, b, c, d⟩) h1 h)
  rw [hk] at HC
  clear h h1 hk
  go_enter Try.func46, Try.ntmps46
  go_upto_region 5 with (go_at_call 64; ((with_reducible refine (HC.out _).mono ?_); rintro e w1 ⟨rfl, hb⟩; have HWS := Lib.hid (WS.start2 (m := ⟨a, b, c, d⟩) hb); clear hb))
  go_loopw [6, 7, 8] (fun _ _ _ wr => ∃ (f : Nat) (m : M) (v : Value) (L : List Int), Hid (WS w.heap.size w1.heap.size w wr m false v L) ∧ Hid (Way f m) ∧ Hid (L ++ wl f m = wl 32 ⟨a, b, c, d⟩) ∧ Hid (wn f m = wn 32 ⟨a, b, c, d⟩) ∧ Hid (L.length + f = 32)) (fun _ _ _ wr => match wr.cell? ⟨w.heap.size, 2, none⟩ with | some (.int _ n) => n.natAbs | _ => 0)
  case atStart => exact ⟨32, ⟨a, b, c, d⟩, _, [], HWS.out, HW.out, rfl, rfl, rfl⟩
  case round =>
    clear HW HWS
    obtain ⟨f, m, v, L, HS, HF, HL, HN, HE⟩ := hrel
    obtain ⟨f, rfl⟩ := HF.out.pos
    obtain ⟨⟨x0, x1, x2, x3⟩, xf⟩ := four_of_block HS.out.mat
    obtain ⟨⟨y0, y1⟩, yf⟩ := two_of_block HS.out.var
    obtain ⟨⟨r0, r1⟩, rf⟩ := two_of_block HS.out.res
    obtain ⟨⟨a1, a2⟩, ⟨b1, b2⟩, ⟨c1, c2⟩, d1, d2⟩ := M.ok_iff.1 HF.out.ok
    have hown := HS.out.own
    have hsz := HS.out.size
    have hg2 := HS.out.hg
    have hll : L.length ≤ 31 := by have := HE.out; omega
    by_cases hc : m.c = 0
    · have HLL := Lib.hid HL.out
      rw [wl_last hc] at HLL
      have HNN := Lib.hid HN.out
      rw [wn_last hc] at HNN
      obtain ⟨p1, p2⟩ := prod_le a1 a2 b1 b2
      rw [hc] at x2
      have HS2 := Lib.hid (HS.out.neg (decide (m.a < 0)))
      go_upto_region 16 with fail
      generalize decide (m.a < 0) = bo at *
      clear x0 x1 x2 x3 xf y0 y1 yf r0 r1 rf hown hsz HS
      obtain ⟨W2, hW2⟩ : ∃ W2, W2 = wr.setCell ⟨w1.heap.size, 0, none⟩ (.bool bo) := ⟨_, rfl⟩
      rw [← hW2] at HS2 ⊢
      clear hW2
      obtain ⟨⟨x0, x1, x2, x3⟩, xf⟩ := four_of_block HS2.out.mat
      obtain ⟨⟨y0, y1⟩, yf⟩ := two_of_block HS2.out.var
      have hown := HS2.out.own
      have hsz := HS2.out.size
      go_wp2_with (first
        | (at_builtin; (refine wpList_append_own _ rfl _ _ 22 rfl (w1.heap.size + 1) 3 i0 (.int .i64 0) 1 8 Try.underlying22 hi hz0' hz1' hz2' rfl (by decide) _ _ _ rfl (hown.alloc _) ⟨W2.heap.size, 0, none⟩ 1 1 [.int .i64 (m.a * m.b)] rfl rfl (cell_one_new' _ _ _) (fun x hx => by simp at hx; rw [hx]; rfl) (by unfold maxLen; omega) (by omega) (by simp; omega) ?_); intro v' w3 hown' hgrow3 hnil3; obtain ⟨A', c', rfl⟩ := own_len hown'; obtain ⟨⟨u0, u1⟩, uf⟩ := two_of_block (block_grown HS2.out.res hown (by omega) hgrow3); obtain ⟨⟨z0, z1⟩, zf⟩ := two_of_block (block_grown HS2.out.var hown (by omega) hgrow3); have HR := Lib.hid (HS2.out.app hown' hgrow3); clear hown' hgrow3 hnil3)
        | fail)
      refine bodyPost_ret (v := .tuple #[.agg #[.bool bo, .slice A' (L.length + 1) c'], .int .i64 0]) ?_ rfl ?_
      · simp [results, Try.results46, go_sem, *]
      · obtain ⟨A2, c2, he, hr⟩ := own_rdz (own_set (j := 1) (g := w.heap.size + 1) (own_set (j := 0) (g := w.heap.size + 1) HR.out.own (by omega) (.bool bo)) (by omega) (.slice A' (L.length + 1) c'))
        have hl : (L ++ [m.a * m.b]).length = L.length + 1 := by simp
        rw [hl] at he
        cases he
        refine ⟨0, bo, A', c', L ++ [m.a * m.b], by rw [hl], hr, ?_, ⟨HK.out, ?_, ?_⟩, ?_⟩
        · intro x hx
          have hO := HR.out.own
          rw [hl] at hO
          have := own_high hO x hx
          omega
        · rw [if_pos rfl]; exact HNN.out
        · rw [if_pos rfl]; exact HLL.out
        · exact (HR.out.bel.setCell (by show w.heap.size ≤ w.heap.size + 1; omega) _).setCell (by show w.heap.size ≤ w.heap.size + 1; omega) _
    · have hc0 : (m.c == 0) = false := by simpa using hc
      have HLL := Lib.hid HL.out
      rw [wl_next hc] at HLL
      have HNN := Lib.hid HN.out
      rw [wn_next hc] at HNN
      have HF2 := Lib.hid (HF.out.next hc)
      have HC2 := Lib.hid (M.step_c hc)
      obtain ⟨q1, q2⟩ := nq_bd hc a1 a2
      obtain ⟨p1, p2⟩ := prod_le q1 q2 c1 c2
      obtain ⟨p3, p4⟩ := prod_le q1 q2 d1 d2
      have HST : Hid (m.step = ⟨m.c, m.d, nq m.a m.c * m.c - m.a, nq m.a m.c * m.d - m.b⟩) := rfl
      have hbd := tmod_bd m.a hc
      have HFT : Hid (fitB m.a m.b m.c m.d = true) := HF.out.ok
      have HFU : Hid (fitB (m.a - nq m.a m.c * m.c) (m.b - nq m.a m.c * m.d) m.c m.d = true) := by
        obtain ⟨_, _, k3, k4⟩ := M.ok_iff.1 HF2.out.ok
        have k3' : -1073741824 ≤ nq m.a m.c * m.c - m.a ∧ nq m.a m.c * m.c - m.a ≤ 1073741824 := k3
        have k4' : -1073741824 ≤ nq m.a m.c * m.d - m.b ∧ nq m.a m.c * m.d - m.b ≤ 1073741824 := k4
        exact fitB_iff.2 ⟨by omega, by omega, ⟨c1, c2⟩, d1, d2⟩
      rcases Int.lt_or_gt_of_ne hc with hs | hs
      · have hn : (m.c.natAbs : Int) = -m.c := by omega
        rcases Int.lt_or_le (-m.c) (2 * m.a.tmod m.c) with h | h
        · have HQ := Lib.hid (rem_up (a := m.a) hc (by rw [hn]; exact h))
          rw [hn, Int.sub_neg] at HQ
          go_wp2
          refine wp_loop_rounds 2 ?_
          rw [rounds_succ]
          go_wp2
          rw [rounds_succ]
          go_wp2
          refine wp_loop_rounds 1 ?_
          rw [rounds_succ]
          go_upto_region 13 with fail
          rw [HQ.out]
          try rw [IntWalk.wrap64_in (nq m.a m.c) (by omega)]
          go_upto_region 14 with (first | (at_builtin; (refine wpList_append_own _ rfl _ _ 22 rfl (w1.heap.size + 1) 3 i0 (.int .i64 0) 1 8 Try.underlying22 hi hz0' hz1' hz2' rfl (by decide) _ _ _ rfl (hown.alloc _) ⟨wr.heap.size, 0, none⟩ 1 1 [.int .i64 (nq m.a m.c)] rfl rfl (cell_one_new' _ _ _) (fun x hx => by simp at hx; rw [hx]; rfl) (by unfold maxLen; omega) (by omega) (by simp; omega) ?_); intro v' w3 hown' hgrow3 hnil3; obtain ⟨A', c', rfl⟩ := own_len hown'; obtain ⟨⟨u0, u1, u2, u3⟩, uf⟩ := four_of_block (block_grown HS.out.mat hown (by omega) hgrow3); obtain ⟨⟨z0, z1⟩, zf⟩ := two_of_block (block_grown HS.out.var hown (by omega) hgrow3); have HR := Lib.hid (HS.out.app hown' hgrow3); clear hown' hgrow3 hnil3) | fail)
          obtain ⟨W2, hW2⟩ : ∃ W2, W2 = w3.setCell ⟨w1.heap.size, 1, none⟩ (.slice A' (L.length + 1) c') := ⟨_, rfl⟩
          rw [← hW2] at HR ⊢
          clear hW2 u0 u1 u2 u3 uf z0 z1 zf x0 x1 x3 xf y0 y1 yf r0 r1 rf hown HQ
          have S0 := Lib.hid HR.out.drew
          clear HR
          obtain ⟨v0, v1, v2, v3⟩ := (four_of_block S0.out.mat).1
          have HX : Hid (nq m.a m.c * m.c - m.a = -(m.a - nq m.a m.c * m.c)) := (by omega : nq m.a m.c * m.c - m.a = -(m.a - nq m.a m.c * m.c))
          have HY : Hid (nq m.a m.c * m.d - m.b = -(m.b - nq m.a m.c * m.d)) := (by omega : nq m.a m.c * m.d - m.b = -(m.b - nq m.a m.c * m.d))
          have hwn : IntKind.i64.wrap (-nq m.a m.c) = -nq m.a m.c := IntWalk.i64_in _ (by omega)
          go_region_with
            (first
              | (go_at_call 67; ((with_reducible refine (rS_any _).mono ?_); rintro e f1 ⟨rfl, hb⟩; have S1 := Lib.hid (S0.out.below hb); clear hb; obtain ⟨v0, v1, v2, v3⟩ := (four_of_block S1.out.mat).1))
              | (go_at_call 66; ((with_reducible refine (backS_any _).mono ?_); rintro e f2 ⟨rfl, hb⟩; have S2 := Lib.hid (S1.out.below hb); clear hb; obtain ⟨v0, v1, v2, v3⟩ := (four_of_block S2.out.mat).1))
              | (go_at_call 68; ((with_reducible refine (rT_any _ _).mono ?_); rintro e f3 ⟨rfl, hb⟩; have S3 := Lib.hid (S2.out.below hb); clear hb; obtain ⟨v0, v1, v2, v3⟩ := (four_of_block S3.out.mat).1))
              | (go_at_call 65; ((with_reducible refine (timesT_any (nq m.a m.c) m.a m.b m.c m.d _ q1 q2 HFT.out).mono ?_); rintro e f4 ⟨rfl, hb⟩; have S4 := Lib.hid (S3.out.below hb); clear hb; obtain ⟨v0, v1, v2, v3⟩ := (four_of_block S4.out.mat).1))
              | (go_at_call 65; ((with_reducible refine (timesB_any (m.a - nq m.a m.c * m.c) (m.b - nq m.a m.c * m.d) m.c m.d (nq m.a m.c * m.c - m.a) (nq m.a m.c * m.d - m.b) _ HFU.out HX.out HY.out).mono ?_); rintro e f5 ⟨rfl, hb⟩; have S5 := Lib.hid (S4.out.below hb); clear hb; obtain ⟨⟨t0, t1, t2, t3⟩, tf⟩ := four_of_block S5.out.mat))
              | fail)
          all_goals
            go_wp2
            go_roundw
            case rel => exact ⟨f, m.step, _, L ++ [nq m.a m.c], by rw [HST.out]; exact S5.out.mat4 _ _ _ _, HF2.out, by have := HLL.out; show _ = _; rw [List.append_assoc]; exact this, HNN.out, by have := HE.out; show _ = _; simp; omega⟩
            case measure =>
              have e := (four_of_block (S5.out.mat4 m.c m.d (nq m.a m.c * m.c - m.a) (nq m.a m.c * m.d - m.b)).mat).1.2.2.1
              rw [e, x2]
              have := HC2.out
              rw [HST.out] at this
              show (nq m.a m.c * m.c - m.a).natAbs < m.c.natAbs
              dsimp only at this
              omega
          
        · rcases Int.lt_or_le m.c (2 * m.a.tmod m.c) with k | k
          · have HQ := Lib.hid (rem_mid (a := m.a) hc (by rw [hn]; omega) (by rw [hn]; exact h))
            go_wp2
            refine wp_loop_rounds 1 ?_
            rw [rounds_succ]
            go_wp2
            refine wp_loop_rounds 1 ?_
            rw [rounds_succ]
            go_upto_region 13 with fail
            rw [HQ.out]
            try rw [IntWalk.wrap64_in (nq m.a m.c) (by omega)]
            go_upto_region 14 with (first | (at_builtin; (refine wpList_append_own _ rfl _ _ 22 rfl (w1.heap.size + 1) 3 i0 (.int .i64 0) 1 8 Try.underlying22 hi hz0' hz1' hz2' rfl (by decide) _ _ _ rfl (hown.alloc _) ⟨wr.heap.size, 0, none⟩ 1 1 [.int .i64 (nq m.a m.c)] rfl rfl (cell_one_new' _ _ _) (fun x hx => by simp at hx; rw [hx]; rfl) (by unfold maxLen; omega) (by omega) (by simp; omega) ?_); intro v' w3 hown' hgrow3 hnil3; obtain ⟨A', c', rfl⟩ := own_len hown'; obtain ⟨⟨u0, u1, u2, u3⟩, uf⟩ := four_of_block (block_grown HS.out.mat hown (by omega) hgrow3); obtain ⟨⟨z0, z1⟩, zf⟩ := two_of_block (block_grown HS.out.var hown (by omega) hgrow3); have HR := Lib.hid (HS.out.app hown' hgrow3); clear hown' hgrow3 hnil3) | fail)
            obtain ⟨W2, hW2⟩ : ∃ W2, W2 = w3.setCell ⟨w1.heap.size, 1, none⟩ (.slice A' (L.length + 1) c') := ⟨_, rfl⟩
            rw [← hW2] at HR ⊢
            clear hW2 u0 u1 u2 u3 uf z0 z1 zf x0 x1 x3 xf y0 y1 yf r0 r1 rf hown HQ
            have S0 := Lib.hid HR.out.drew
            clear HR
            obtain ⟨v0, v1, v2, v3⟩ := (four_of_block S0.out.mat).1
            have HX : Hid (nq m.a m.c * m.c - m.a = -(m.a - nq m.a m.c * m.c)) := (by omega : nq m.a m.c * m.c - m.a = -(m.a - nq m.a m.c * m.c))
            have HY : Hid (nq m.a m.c * m.d - m.b = -(m.b - nq m.a m.c * m.d)) := (by omega : nq m.a m.c * m.d - m.b = -(m.b - nq m.a m.c * m.d))
            have hwn : IntKind.i64.wrap (-nq m.a m.c) = -nq m.a m.c := IntWalk.i64_in _ (by omega)
            go_region_with
              (first
                | (go_at_call 67; ((with_reducible refine (rS_any _).mono ?_); rintro e f1 ⟨rfl, hb⟩; have S1 := Lib.hid (S0.out.below hb); clear hb; obtain ⟨v0, v1, v2, v3⟩ := (four_of_block S1.out.mat).1))
                | (go_at_call 66; ((with_reducible refine (backS_any _).mono ?_); rintro e f2 ⟨rfl, hb⟩; have S2 := Lib.hid (S1.out.below hb); clear hb; obtain ⟨v0, v1, v2, v3⟩ := (four_of_block S2.out.mat).1))
                | (go_at_call 68; ((with_reducible refine (rT_any _ _).mono ?_); rintro e f3 ⟨rfl, hb⟩; have S3 := Lib.hid (S2.out.below hb); clear hb; obtain ⟨v0, v1, v2, v3⟩ := (four_of_block S3.out.mat).1))
                | (go_at_call 65; ((with_reducible refine (timesT_any (nq m.a m.c) m.a m.b m.c m.d _ q1 q2 HFT.out).mono ?_); rintro e f4 ⟨rfl, hb⟩; have S4 := Lib.hid (S3.out.below hb); clear hb; obtain ⟨v0, v1, v2, v3⟩ := (four_of_block S4.out.mat).1))
                | (go_at_call 65; ((with_reducible refine (timesB_any (m.a - nq m.a m.c * m.c) (m.b - nq m.a m.c * m.d) m.c m.d (nq m.a m.c * m.c - m.a) (nq m.a m.c * m.d - m.b) _ HFU.out HX.out HY.out).mono ?_); rintro e f5 ⟨rfl, hb⟩; have S5 := Lib.hid (S4.out.below hb); clear hb; obtain ⟨⟨t0, t1, t2, t3⟩, tf⟩ := four_of_block S5.out.mat))
                | fail)
            all_goals
              go_wp2
              go_roundw
              case rel => exact ⟨f, m.step, _, L ++ [nq m.a m.c], by rw [HST.out]; exact S5.out.mat4 _ _ _ _, HF2.out, by have := HLL.out; show _ = _; rw [List.append_assoc]; exact this, HNN.out, by have := HE.out; show _ = _; simp; omega⟩
              case measure =>
                have e := (four_of_block (S5.out.mat4 m.c m.d (nq m.a m.c * m.c - m.a) (nq m.a m.c * m.d - m.b)).mat).1.2.2.1
                rw [e, x2]
                have := HC2.out
                rw [HST.out] at this
                show (nq m.a m.c * m.c - m.a).natAbs < m.c.natAbs
                dsimp only at this
                omega
            
          · have HQ := Lib.hid (rem_down (a := m.a) hc (by rw [hn]; omega))
            rw [hn] at HQ
            go_wp2
            refine wp_loop_rounds 1 ?_
            rw [rounds_succ]
            go_wp2
            refine wp_loop_rounds 2 ?_
            rw [rounds_succ]
            go_wp2
            rw [rounds_succ]
            go_upto_region 13 with fail
            rw [HQ.out]
            try rw [IntWalk.wrap64_in (nq m.a m.c) (by omega)]
            go_upto_region 14 with (first | (at_builtin; (refine wpList_append_own _ rfl _ _ 22 rfl (w1.heap.size + 1) 3 i0 (.int .i64 0) 1 8 Try.underlying22 hi hz0' hz1' hz2' rfl (by decide) _ _ _ rfl (hown.alloc _) ⟨wr.heap.size, 0, none⟩ 1 1 [.int .i64 (nq m.a m.c)] rfl rfl (cell_one_new' _ _ _) (fun x hx => by simp at hx; rw [hx]; rfl) (by unfold maxLen; omega) (by omega) (by simp; omega) ?_); intro v' w3 hown' hgrow3 hnil3; obtain ⟨A', c', rfl⟩ := own_len hown'; obtain ⟨⟨u0, u1, u2, u3⟩, uf⟩ := four_of_block (block_grown HS.out.mat hown (by omega) hgrow3); obtain ⟨⟨z0, z1⟩, zf⟩ := two_of_block (block_grown HS.out.var hown (by omega) hgrow3); have HR := Lib.hid (HS.out.app hown' hgrow3); clear hown' hgrow3 hnil3) | fail)
            obtain ⟨W2, hW2⟩ : ∃ W2, W2 = w3.setCell ⟨w1.heap.size, 1, none⟩ (.slice A' (L.length + 1) c') := ⟨_, rfl⟩
            rw [← hW2] at HR ⊢
            clear hW2 u0 u1 u2 u3 uf z0 z1 zf x0 x1 x3 xf y0 y1 yf r0 r1 rf hown HQ
            have S0 := Lib.hid HR.out.drew
            clear HR
            obtain ⟨v0, v1, v2, v3⟩ := (four_of_block S0.out.mat).1
            have HX : Hid (nq m.a m.c * m.c - m.a = -(m.a - nq m.a m.c * m.c)) := (by omega : nq m.a m.c * m.c - m.a = -(m.a - nq m.a m.c * m.c))
            have HY : Hid (nq m.a m.c * m.d - m.b = -(m.b - nq m.a m.c * m.d)) := (by omega : nq m.a m.c * m.d - m.b = -(m.b - nq m.a m.c * m.d))
            have hwn : IntKind.i64.wrap (-nq m.a m.c) = -nq m.a m.c := IntWalk.i64_in _ (by omega)
            go_region_with
              (first
                | (go_at_call 67; ((with_reducible refine (rS_any _).mono ?_); rintro e f1 ⟨rfl, hb⟩; have S1 := Lib.hid (S0.out.below hb); clear hb; obtain ⟨v0, v1, v2, v3⟩ := (four_of_block S1.out.mat).1))
                | (go_at_call 66; ((with_reducible refine (backS_any _).mono ?_); rintro e f2 ⟨rfl, hb⟩; have S2 := Lib.hid (S1.out.below hb); clear hb; obtain ⟨v0, v1, v2, v3⟩ := (four_of_block S2.out.mat).1))
                | (go_at_call 68; ((with_reducible refine (rT_any _ _).mono ?_); rintro e f3 ⟨rfl, hb⟩; have S3 := Lib.hid (S2.out.below hb); clear hb; obtain ⟨v0, v1, v2, v3⟩ := (four_of_block S3.out.mat).1))
                | (go_at_call 65; ((with_reducible refine (timesT_any (nq m.a m.c) m.a m.b m.c m.d _ q1 q2 HFT.out).mono ?_); rintro e f4 ⟨rfl, hb⟩; have S4 := Lib.hid (S3.out.below hb); clear hb; obtain ⟨v0, v1, v2, v3⟩ := (four_of_block S4.out.mat).1))
                | (go_at_call 65; ((with_reducible refine (timesB_any (m.a - nq m.a m.c * m.c) (m.b - nq m.a m.c * m.d) m.c m.d (nq m.a m.c * m.c - m.a) (nq m.a m.c * m.d - m.b) _ HFU.out HX.out HY.out).mono ?_); rintro e f5 ⟨rfl, hb⟩; have S5 := Lib.hid (S4.out.below hb); clear hb; obtain ⟨⟨t0, t1, t2, t3⟩, tf⟩ := four_of_block S5.out.mat))
                | fail)
            all_goals
              go_wp2
              go_roundw
              case rel => exact ⟨f, m.step, _, L ++ [nq m.a m.c], by rw [HST.out]; exact S5.out.mat4 _ _ _ _, HF2.out, by have := HLL.out; show _ = _; rw [List.append_assoc]; exact this, HNN.out, by have := HE.out; show _ = _; simp; omega⟩
              case measure =>
                have e := (four_of_block (S5.out.mat4 m.c m.d (nq m.a m.c * m.c - m.a) (nq m.a m.c * m.d - m.b)).mat).1.2.2.1
                rw [e, x2]
                have := HC2.out
                rw [HST.out] at this
                show (nq m.a m.c * m.c - m.a).natAbs < m.c.natAbs
                dsimp only at this
                omega
            
      · have hn : (m.c.natAbs : Int) = m.c := by omega
        rcases Int.lt_or_le m.c (2 * m.a.tmod m.c) with h | h
        · have HQ := Lib.hid (rem_up (a := m.a) hc (by rw [hn]; exact h))
          rw [hn] at HQ
          go_wp2
          refine wp_loop_rounds 2 ?_
          rw [rounds_succ]
          go_wp2
          rw [rounds_succ]
          go_wp2
          refine wp_loop_rounds 1 ?_
          rw [rounds_succ]
          go_upto_region 13 with fail
          rw [HQ.out]
          try rw [IntWalk.wrap64_in (nq m.a m.c) (by omega)]
          go_upto_region 14 with (first | (at_builtin; (refine wpList_append_own _ rfl _ _ 22 rfl (w1.heap.size + 1) 3 i0 (.int .i64 0) 1 8 Try.underlying22 hi hz0' hz1' hz2' rfl (by decide) _ _ _ rfl (hown.alloc _) ⟨wr.heap.size, 0, none⟩ 1 1 [.int .i64 (nq m.a m.c)] rfl rfl (cell_one_new' _ _ _) (fun x hx => by simp at hx; rw [hx]; rfl) (by unfold maxLen; omega) (by omega) (by simp; omega) ?_); intro v' w3 hown' hgrow3 hnil3; obtain ⟨A', c', rfl⟩ := own_len hown'; obtain ⟨⟨u0, u1, u2, u3⟩, uf⟩ := four_of_block (block_grown HS.out.mat hown (by omega) hgrow3); obtain ⟨⟨z0, z1⟩, zf⟩ := two_of_block (block_grown HS.out.var hown (by omega) hgrow3); have HR := Lib.hid (HS.out.app hown' hgrow3); clear hown' hgrow3 hnil3) | fail)
          obtain ⟨W2, hW2⟩ : ∃ W2, W2 = w3.setCell ⟨w1.heap.size, 1, none⟩ (.slice A' (L.length + 1) c') := ⟨_, rfl⟩
          rw [← hW2] at HR ⊢
          clear hW2 u0 u1 u2 u3 uf z0 z1 zf x0 x1 x3 xf y0 y1 yf r0 r1 rf hown HQ
          have S0 := Lib.hid HR.out.drew
          clear HR
          obtain ⟨v0, v1, v2, v3⟩ := (four_of_block S0.out.mat).1
          have HX : Hid (nq m.a m.c * m.c - m.a = -(m.a - nq m.a m.c * m.c)) := (by omega : nq m.a m.c * m.c - m.a = -(m.a - nq m.a m.c * m.c))
          have HY : Hid (nq m.a m.c * m.d - m.b = -(m.b - nq m.a m.c * m.d)) := (by omega : nq m.a m.c * m.d - m.b = -(m.b - nq m.a m.c * m.d))
          have hwn : IntKind.i64.wrap (-nq m.a m.c) = -nq m.a m.c := IntWalk.i64_in _ (by omega)
          go_region_with
            (first
              | (go_at_call 67; ((with_reducible refine (rS_any _).mono ?_); rintro e f1 ⟨rfl, hb⟩; have S1 := Lib.hid (S0.out.below hb); clear hb; obtain ⟨v0, v1, v2, v3⟩ := (four_of_block S1.out.mat).1))
              | (go_at_call 66; ((with_reducible refine (backS_any _).mono ?_); rintro e f2 ⟨rfl, hb⟩; have S2 := Lib.hid (S1.out.below hb); clear hb; obtain ⟨v0, v1, v2, v3⟩ := (four_of_block S2.out.mat).1))
              | (go_at_call 68; ((with_reducible refine (rT_any _ _).mono ?_); rintro e f3 ⟨rfl, hb⟩; have S3 := Lib.hid (S2.out.below hb); clear hb; obtain ⟨v0, v1, v2, v3⟩ := (four_of_block S3.out.mat).1))
              | (go_at_call 65; ((with_reducible refine (timesT_any (nq m.a m.c) m.a m.b m.c m.d _ q1 q2 HFT.out).mono ?_); rintro e f4 ⟨rfl, hb⟩; have S4 := Lib.hid (S3.out.below hb); clear hb; obtain ⟨v0, v1, v2, v3⟩ := (four_of_block S4.out.mat).1))
              | (go_at_call 65; ((with_reducible refine (timesB_any (m.a - nq m.a m.c * m.c) (m.b - nq m.a m.c * m.d) m.c m.d (nq m.a m.c * m.c - m.a) (nq m.a m.c * m.d - m.b) _ HFU.out HX.out HY.out).mono ?_); rintro e f5 ⟨rfl, hb⟩; have S5 := Lib.hid (S4.out.below hb); clear hb; obtain ⟨⟨t0, t1, t2, t3⟩, tf⟩ := four_of_block S5.out.mat))
              | fail)
          all_goals
            go_wp2
            go_roundw
            case rel => exact ⟨f, m.step, _, L ++ [nq m.a m.c], by rw [HST.out]; exact S5.out.mat4 _ _ _ _, HF2.out, by have := HLL.out; show _ = _; rw [List.append_assoc]; exact this, HNN.out, by have := HE.out; show _ = _; simp; omega⟩
            case measure =>
              have e := (four_of_block (S5.out.mat4 m.c m.d (nq m.a m.c * m.c - m.a) (nq m.a m.c * m.d - m.b)).mat).1.2.2.1
              rw [e, x2]
              have := HC2.out
              rw [HST.out] at this
              show (nq m.a m.c * m.c - m.a).natAbs < m.c.natAbs
              dsimp only at this
              omega
          
        · rcases Int.lt_or_le (-m.c) (2 * m.a.tmod m.c) with k | k
          · have HQ := Lib.hid (rem_mid (a := m.a) hc (by rw [hn]; omega) (by rw [hn]; exact h))
            go_wp2
            refine wp_loop_rounds 1 ?_
            rw [rounds_succ]
            go_wp2
            refine wp_loop_rounds 1 ?_
            rw [rounds_succ]
            go_upto_region 13 with fail
            rw [HQ.out]
            try rw [IntWalk.wrap64_in (nq m.a m.c) (by omega)]
            go_upto_region 14 with (first | (at_builtin; (refine wpList_append_own _ rfl _ _ 22 rfl (w1.heap.size + 1) 3 i0 (.int .i64 0) 1 8 Try.underlying22 hi hz0' hz1' hz2' rfl (by decide) _ _ _ rfl (hown.alloc _) ⟨wr.heap.size, 0, none⟩ 1 1 [.int .i64 (nq m.a m.c)] rfl rfl (cell_one_new' _ _ _) (fun x hx => by simp at hx; rw [hx]; rfl) (by unfold maxLen; omega) (by omega) (by simp; omega) ?_); intro v' w3 hown' hgrow3 hnil3; obtain ⟨A', c', rfl⟩ := own_len hown'; obtain ⟨⟨u0, u1, u2, u3⟩, uf⟩ := four_of_block (block_grown HS.out.mat hown (by omega) hgrow3); obtain ⟨⟨z0, z1⟩, zf⟩ := two_of_block (block_grown HS.out.var hown (by omega) hgrow3); have HR := Lib.hid (HS.out.app hown' hgrow3); clear hown' hgrow3 hnil3) | fail)
            obtain ⟨W2, hW2⟩ : ∃ W2, W2 = w3.setCell ⟨w1.heap.size, 1, none⟩ (.slice A' (L.length + 1) c') := ⟨_, rfl⟩
            rw [← hW2] at HR ⊢
            clear hW2 u0 u1 u2 u3 uf z0 z1 zf x0 x1 x3 xf y0 y1 yf r0 r1 rf hown HQ
            have S0 := Lib.hid HR.out.drew
            clear HR
            obtain ⟨v0, v1, v2, v3⟩ := (four_of_block S0.out.mat).1
            have HX : Hid (nq m.a m.c * m.c - m.a = -(m.a - nq m.a m.c * m.c)) := (by omega : nq m.a m.c * m.c - m.a = -(m.a - nq m.a m.c * m.c))
            have HY : Hid (nq m.a m.c * m.d - m.b = -(m.b - nq m.a m.c * m.d)) := (by omega : nq m.a m.c * m.d - m.b = -(m.b - nq m.a m.c * m.d))
            have hwn : IntKind.i64.wrap (-nq m.a m.c) = -nq m.a m.c := IntWalk.i64_in _ (by omega)
            go_region_with
              (first
                | (go_at_call 67; ((with_reducible refine (rS_any _).mono ?_); rintro e f1 ⟨rfl, hb⟩; have S1 := Lib.hid (S0.out.below hb); clear hb; obtain ⟨v0, v1, v2, v3⟩ := (four_of_block S1.out.mat).1))
                | (go_at_call 66; ((with_reducible refine (backS_any _).mono ?_); rintro e f2 ⟨rfl, hb⟩; have S2 := Lib.hid (S1.out.below hb); clear hb; obtain ⟨v0, v1, v2, v3⟩ := (four_of_block S2.out.mat).1))
                | (go_at_call 68; ((with_reducible refine (rT_any _ _).mono ?_); rintro e f3 ⟨rfl, hb⟩; have S3 := Lib.hid (S2.out.below hb); clear hb; obtain ⟨v0, v1, v2, v3⟩ := (four_of_block S3.out.mat).1))
                | (go_at_call 65; ((with_reducible refine (timesT_any (nq m.a m.c) m.a m.b m.c m.d _ q1 q2 HFT.out).mono ?_); rintro e f4 ⟨rfl, hb⟩; have S4 := Lib.hid (S3.out.below hb); clear hb; obtain ⟨v0, v1, v2, v3⟩ := (four_of_block S4.out.mat).1))
                | (go_at_call 65; ((with_reducible refine (timesB_any (m.a - nq m.a m.c * m.c) (m.b - nq m.a m.c * m.d) m.c m.d (nq m.a m.c * m.c - m.a) (nq m.a m.c * m.d - m.b) _ HFU.out HX.out HY.out).mono ?_); rintro e f5 ⟨rfl, hb⟩; have S5 := Lib.hid (S4.out.below hb); clear hb; obtain ⟨⟨t0, t1, t2, t3⟩, tf⟩ := four_of_block S5.out.mat))
                | fail)
            all_goals
              go_wp2
              go_roundw
              case rel => exact ⟨f, m.step, _, L ++ [nq m.a m.c], by rw [HST.out]; exact S5.out.mat4 _ _ _ _, HF2.out, by have := HLL.out; show _ = _; rw [List.append_assoc]; exact this, HNN.out, by have := HE.out; show _ = _; simp; omega⟩
              case measure =>
                have e := (four_of_block (S5.out.mat4 m.c m.d (nq m.a m.c * m.c - m.a) (nq m.a m.c * m.d - m.b)).mat).1.2.2.1
                rw [e, x2]
                have := HC2.out
                rw [HST.out] at this
                show (nq m.a m.c * m.c - m.a).natAbs < m.c.natAbs
                dsimp only at this
                omega
            
          · have HQ := Lib.hid (rem_down (a := m.a) hc (by rw [hn]; omega))
            rw [hn] at HQ
            go_wp2
            refine wp_loop_rounds 1 ?_
            rw [rounds_succ]
            go_wp2
            refine wp_loop_rounds 2 ?_
            rw [rounds_succ]
            go_wp2
            rw [rounds_succ]
            go_upto_region 13 with fail
            rw [HQ.out]
            try rw [IntWalk.wrap64_in (nq m.a m.c) (by omega)]
            go_upto_region 14 with (first | (at_builtin; (refine wpList_append_own _ rfl _ _ 22 rfl (w1.heap.size + 1) 3 i0 (.int .i64 0) 1 8 Try.underlying22 hi hz0' hz1' hz2' rfl (by decide) _ _ _ rfl (hown.alloc _) ⟨wr.heap.size, 0, none⟩ 1 1 [.int .i64 (nq m.a m.c)] rfl rfl (cell_one_new' _ _ _) (fun x hx => by simp at hx; rw [hx]; rfl) (by unfold maxLen; omega) (by omega) (by simp; omega) ?_); intro v' w3 hown' hgrow3 hnil3; obtain ⟨A', c', rfl⟩ := own_len hown'; obtain ⟨⟨u0, u1, u2, u3⟩, uf⟩ := four_of_block (block_grown HS.out.mat hown (by omega) hgrow3); obtain ⟨⟨z0, z1⟩, zf⟩ := two_of_block (block_grown HS.out.var hown (by omega) hgrow3); have HR := Lib.hid (HS.out.app hown' hgrow3); clear hown' hgrow3 hnil3) | fail)
            obtain ⟨W2, hW2⟩ : ∃ W2, W2 = w3.setCell ⟨w1.heap.size, 1, none⟩ (.slice A' (L.length + 1) c') := ⟨_, rfl⟩
            rw [← hW2] at HR ⊢
            clear hW2 u0 u1 u2 u3 uf z0 z1 zf x0 x1 x3 xf y0 y1 yf r0 r1 rf hown HQ
            have S0 := Lib.hid HR.out.drew
            clear HR
            obtain ⟨v0, v1, v2, v3⟩ := (four_of_block S0.out.mat).1
            have HX : Hid (nq m.a m.c * m.c - m.a = -(m.a - nq m.a m.c * m.c)) := (by omega : nq m.a m.c * m.c - m.a = -(m.a - nq m.a m.c * m.c))
            have HY : Hid (nq m.a m.c * m.d - m.b = -(m.b - nq m.a m.c * m.d)) := (by omega : nq m.a m.c * m.d - m.b = -(m.b - nq m.a m.c * m.d))
            have hwn : IntKind.i64.wrap (-nq m.a m.c) = -nq m.a m.c := IntWalk.i64_in _ (by omega)
            go_region_with
              (first
                | (go_at_call 67; ((with_reducible refine (rS_any _).mono ?_); rintro e f1 ⟨rfl, hb⟩; have S1 := Lib.hid (S0.out.below hb); clear hb; obtain ⟨v0, v1, v2, v3⟩ := (four_of_block S1.out.mat).1))
                | (go_at_call 66; ((with_reducible refine (backS_any _).mono ?_); rintro e f2 ⟨rfl, hb⟩; have S2 := Lib.hid (S1.out.below hb); clear hb; obtain ⟨v0, v1, v2, v3⟩ := (four_of_block S2.out.mat).1))
                | (go_at_call 68; ((with_reducible refine (rT_any _ _).mono ?_); rintro e f3 ⟨rfl, hb⟩; have S3 := Lib.hid (S2.out.below hb); clear hb; obtain ⟨v0, v1, v2, v3⟩ := (four_of_block S3.out.mat).1))
                | (go_at_call 65; ((with_reducible refine (timesT_any (nq m.a m.c) m.a m.b m.c m.d _ q1 q2 HFT.out).mono ?_); rintro e f4 ⟨rfl, hb⟩; have S4 := Lib.hid (S3.out.below hb); clear hb; obtain ⟨v0, v1, v2, v3⟩ := (four_of_block S4.out.mat).1))
                | (go_at_call 65; ((with_reducible refine (timesB_any (m.a - nq m.a m.c * m.c) (m.b - nq m.a m.c * m.d) m.c m.d (nq m.a m.c * m.c - m.a) (nq m.a m.c * m.d - m.b) _ HFU.out HX.out HY.out).mono ?_); rintro e f5 ⟨rfl, hb⟩; have S5 := Lib.hid (S4.out.below hb); clear hb; obtain ⟨⟨t0, t1, t2, t3⟩, tf⟩ := four_of_block S5.out.mat))
                | fail)
            all_goals
              go_wp2
              go_roundw
              case rel => exact ⟨f, m.step, _, L ++ [nq m.a m.c], by rw [HST.out]; exact S5.out.mat4 _ _ _ _, HF2.out, by have := HLL.out; show _ = _; rw [List.append_assoc]; exact this, HNN.out, by have := HE.out; show _ = _; simp; omega⟩
              case measure =>
                have e := (four_of_block (S5.out.mat4 m.c m.d (nq m.a m.c * m.c - m.a) (nq m.a m.c * m.d - m.b)).mat).1.2.2.1
                rw [e, x2]
                have := HC2.out
                rw [HST.out] at this
                show (nq m.a m.c * m.c - m.a).natAbs < m.c.natAbs
                dsimp only at this
                omega
            
end Go.Proofs.Ytjofmgnggeoimaa
