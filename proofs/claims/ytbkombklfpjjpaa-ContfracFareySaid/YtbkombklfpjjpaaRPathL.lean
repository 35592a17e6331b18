/- The contract of the reference's Path. -/
import Derived.Test.YtbkombklfpjjpaaPathL
import Derived.Test.YtbkombklfpjjpaaRConvL
import Derived.Test.YtbkombklfpjjpaaRExpL
namespace Go.Proofs.Ytbkombklfpjjpaa
open Go.RowKit

set_option maxHeartbeats 3200000 in
set_option maxRecDepth 1000000 in
theorem rPath_any (p q : Int) (w : World) : Calls Try.prog 23 #[.agg #[.int .i64 p, .int .i64 q]] w (CusTup w (cuspI p q) (pthL p q)) := by
  have HX := Lib.hid (fun W => rexpand_any p q W)
  by_cases h : cuspI p q = 0
  · rw [pthL_yes h]
    by_cases hq : q = 0
    · have e1 : expI p q = 5 := by unfold expI; rw [if_neg (by simpa using h), if_pos hq]
      have e2 : exl p q = [] := by unfold exl; rw [if_neg (by simpa using h), if_pos hq]
      rw [e1, e2] at HX
      rw [h]
      subst hq
      rw [pthl_zero]
      clear h e1 e2
      go_enter Try.func23, Try.ntmps23
      go_wp2_with (first
        | (go_at_call 15; ((with_reducible refine (HX.out _).mono ?_); rintro e w1 ⟨A1, n1, rfl, hr, _, hb⟩; have HL := Lib.hid (own_below (lit_row w _) hb); have HB := Lib.hid ((below2 w _ _).trans (hb.mono (by simp; omega))); clear hr hb))
        | fail)
      refine bodyPost_ret (v := .tuple #[.slice (some ⟨w.heap.size + 1, 0, none⟩) 1 1, .int .i64 0]) ?_ rfl ⟨_, _, rfl, own_base (by omega) HL.out, HB.out⟩
      simp [results, Try.results23, go_sem, *]
    · obtain ⟨i0, hi, z0, z1, z2⟩ := info_parts Try.infoCusp
      have k0 := (cuspI_zero.1 h).2.2.pos
      obtain ⟨C, c1, c2, c3⟩ := cvg_cfe h (show 0 < q by omega)
      have hlen := cfe_len64 h (show 0 < q by omega)
      have hel := elB_cfe h (show 0 < q by omega)
      have hne := cfe_ne (P := p) (show 0 < q by omega)
      have hpos : 0 < (cfe p q).length := List.length_pos_iff.2 hne
      obtain ⟨v1, v2⟩ := cvI_ok hne hel c1
      have e1 : expI p q = 0 := by unfold expI; rw [if_neg (by simpa using h), if_neg hq]
      have e2 : exl p q = cfe p q := by unfold exl; rw [if_neg (by simpa using h), if_neg hq]
      rw [e1, e2] at HX
      rw [pthl_pos hq c1, h]
      have HC := Lib.hid (fun (W : World) A c (hr : RdZ W W.heap.size A c (cfe p q)) => rconv_any W hr)
      rw [v1, v2] at HC
      clear v1 v2 e1 e2 h c1 c3 hel hne hq k0
      generalize cfe p q = l at *
      have hC1 : 0 < C.length := by omega
      have hC2 : C.length ≤ 64 := by omega
      clear c2 hlen hpos
      go_enter Try.func23, Try.ntmps23
      go_wp2_with (first
        | (go_at_call 15; ((with_reducible refine (HX.out _).mono ?_); rintro e w1 ⟨A1, n1, rfl, hr, _, hb⟩; have HR := Lib.hid hr; have HL1 := Lib.hid (own_below (lit_row w _) hb); have HB := Lib.hid ((below2 w _ _).trans (hb.mono (by simp; omega))); have hz1 : w.heap.size + 1 < w1.heap.size := (by have := hb.size; simp at this; omega); clear hr hb))
        | (go_at_call 19; ((with_reducible refine (HC.out _ _ _ HR.out).mono ?_); rintro e w2 ⟨A2, n2, rfl, hown, hb⟩; obtain ⟨g, rfl, hg⟩ := own_some hown hC1; have hz2 : w.heap.size + 1 < w2.heap.size := (by have := hb.size; omega); have HO := Lib.hid hown; have HL := Lib.hid (own_below HL1.out hb); have HB2 := Lib.hid (HB.out.trans (hb.mono HB.out.size)); clear hown hb))
        | (at_builtin; (refine wpList_append_own _ rfl _ _ 35 rfl (w.heap.size + 1) 23 i0 (.agg #[.int .i64 0, .int .i64 0]) 2 16 Try.underlying35 hi z0 z1 z2 rfl (by decide) _ 1 [.int .i64 1, .int .i64 0] rfl HL.out ⟨g, 0, none⟩ C.length n2 (cs C) rfl (by rw [cs_length]; omega) (HO.out.cells rfl) (cs_one C) (by unfold maxLen; omega) (by omega) (by omega) ?_); intro v' w3 hown' hgrow3 hnil3; have HR3 := Lib.hid hown'; have HG3 := Lib.hid hgrow3; clear hown' hgrow3 hnil3)
        | fail)
      have hr := HR3.out
      have hg3 := HG3.out
      clear HR3 HG3
      rw [Nat.add_comm 1] at hr
      obtain ⟨A3, c3, rfl⟩ := own_len hr
      refine bodyPost_ret (v := .tuple #[.slice A3 (C.length + 1) c3, .int .i64 0]) ?_ rfl ⟨A3, c3, rfl, own_base (by omega) hr, ?_⟩
      · simp [results, Try.results23, go_sem, *]
      · refine HB2.out.grown hg3 HB2.out.size (fun j hj => ?_)
        have hj' : some (w.heap.size + 1) = some j := hj
        cases hj'
        omega
  · have e1 : expI p q = cuspI p q := by unfold expI; rw [if_pos h]
    have e2 : exl p q = [] := by unfold exl; rw [if_pos h]
    rw [e1, e2] at HX
    rw [pthL_no h]
    clear e1 e2
    rcases cusp_vals p q with h0 | h0 | h0
    · exact absurd h0 h
    all_goals
      rw [h0] at HX ⊢
      clear h h0
      go_enter Try.func23, Try.ntmps23
      go_wp2_with (first
        | (go_at_call 15; ((with_reducible refine (HX.out _).mono ?_); rintro e w1 ⟨A1, n1, rfl, hr, _, hb⟩; have HB := Lib.hid ((below2 w _ _).trans (hb.mono (by simp; omega))); clear hr hb))
        | fail)
      first
        | (refine bodyPost_ret (v := .tuple #[.slice none 0 0, .int .i64 2]) ?_ rfl ⟨none, 0, rfl, World.ownsRow_nil _ _ _ _, HB.out⟩; simp [results, Try.results23, go_sem, *])
        | (refine bodyPost_ret (v := .tuple #[.slice none 0 0, .int .i64 3]) ?_ rfl ⟨none, 0, rfl, World.ownsRow_nil _ _ _ _, HB.out⟩; simp [results, Try.results23, go_sem, *])
end Go.Proofs.Ytbkombklfpjjpaa
