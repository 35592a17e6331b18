/- The contract of path. -/
import Derived.Test.YtbkombklfpjjpaaListC
namespace Go.Proofs.Ytbkombklfpjjpaa
open Go.RowKit

/-- What both paths leave. -/
def CusRet (w : World) (C : List (Int × Int)) (e : Ending) (w' : World) : Prop :=
  ∃ A c, e = .returned (.slice A C.length c) ∧ w'.ownsRow w.heap.size 23 2 (.slice A C.length c) C.length (cs C) ∧ Below w.heap.size w w'
theorem lit_row (w : World) (o : Obj) : ((w.alloc o).alloc (.cells #[.int .i64 1, .int .i64 0] 23)).ownsRow (w.heap.size + 1) 23 2 (.slice (some ⟨w.heap.size + 1, 0, none⟩) 1 1) 1 [.int .i64 1, .int .i64 0] := by
  have := World.ownsRow_lit (e := 23) (base := w.heap.size + 1) (size := 2) (w.alloc o) #[.int .i64 1, .int .i64 0] 1 (by simp) (by unfold maxLen; omega) rfl
  rw [World.size_alloc] at this
  exact this
set_option maxHeartbeats 3200000 in
set_option maxRecDepth 1000000 in
theorem path_any (p q : Int) (w : World) (h : cuspI p q = 0) :
    Calls Try.prog 44 #[.agg #[.int .i64 p, .int .i64 q]] w (CusRet w (pthl p q)) := by
  obtain ⟨i0, hi, z0, z1, z2⟩ := info_parts Try.infoCusp
  obtain ⟨e0, e1, k⟩ := cuspI_zero.1 h
  obtain ⟨p1, p2⟩ := inE_iff.1 e0
  by_cases hq : q = 0
  · have hp := k.inf hq
    subst hq hp
    rw [pthl_zero]
    clear h e0 e1 k
    go_enter Try.func44, Try.ntmps44
    go_wp2
    refine bodyPost_ret (v := .slice (some ⟨w.heap.size + 1, 0, none⟩) 1 1) ?_ rfl ⟨_, _, rfl, ?_, below2 _ _ _⟩
    · simp [results, Try.results44, go_sem, *]
    · exact own_base (by omega) (lit_row w _)
  · have k0 := k.pos
    obtain ⟨C, c1, c2, c3⟩ := cvg_cfe h (show 0 < q by omega)
    have hlen := cfe_len64 h (show 0 < q by omega)
    have hel := cfe_el h (show 0 < q by omega)
    have hne := cfe_ne (P := p) (show 0 < q by omega)
    have hpos : 0 < (cfe p q).length := List.length_pos_iff.2 hne
    rw [pthl_pos hq c1]
    have HX := Lib.hid (fun W => expansion_any p q W p1 p2 k0 e1)
    have HC := Lib.hid (fun (W : World) A c (hr : RdZ W W.heap.size A c (cfe p q)) => convergents_any W hr hel (by omega))
    have HS : Hid (∀ (D : List (Int × Int)) (k : Int), Hid ((cvg 0 1 1 0 (cfe p q) = some D ∧ k = 0) ∨ (cvg 0 1 1 0 (cfe p q) = none ∧ D = [] ∧ k = 7)) → D = C ∧ k = 0) := by
      intro D k hd
      rcases hd.out with ⟨d1, d2⟩ | ⟨d1, _⟩
      · rw [c1] at d1; cases d1; exact ⟨rfl, d2⟩
      · rw [c1] at d1; cases d1
    have hq0 : (q == 0) = false := by simpa using hq
    clear h c1 c3 hel hne k hq e0
    generalize cfe p q = l at *
    have hC1 : 0 < C.length := by omega
    have hC2 : C.length ≤ 64 := by omega
    clear c2 hlen hpos
    go_enter Try.func44, Try.ntmps44
    go_wp2_with (first
      | (go_at_call 37; ((with_reducible refine (HX.out _).mono ?_); rintro e w1 ⟨A1, n1, rfl, hown, hb⟩; obtain ⟨hc, hf⟩ := bcell hb; obtain ⟨hz0, hz1⟩ : w.heap.size < w1.heap.size ∧ w.heap.size + 1 < w1.heap.size := (by have := hb.size; simp at this; omega); have HB1 := Lib.hid hb; have HR := Lib.hid (own_rdz2 hown); clear hown hb))
      | (go_at_call 40; ((with_reducible refine (HC.out _ _ _ HR.out).mono ?_); rintro e w2 ⟨A2, n2, D, k, rfl, hd, hown, hb⟩; obtain ⟨rfl, rfl⟩ := HS.out _ _ hd; clear hd; obtain ⟨g, rfl, hg⟩ := own_some hown hC1; have HO := Lib.hid hown; have HB2 := Lib.hid hb; have HL := Lib.hid (own_below (own_below (lit_row w _) HB1.out) hb); clear hown hb))
      | (at_builtin; (refine wpList_append_own _ rfl _ _ 35 rfl (w.heap.size + 1) 23 i0 (.agg #[.int .i64 0, .int .i64 0]) 2 16 Try.underlying35 hi z0 z1 z2 rfl (by decide) _ 1 [.int .i64 1, .int .i64 0] rfl HL.out ⟨g, 0, none⟩ D.length n2 (cs D) rfl (by rw [cs_length]; omega) (HO.out.cells rfl) (cs_one D) (by unfold maxLen; omega) (by omega) (by have := HB2.out.size; simp; omega) ?_); intro v' w3 hown' hgrow3 hnil3; have HR3 := Lib.hid hown'; have HG3 := Lib.hid hgrow3; clear hown' hgrow3 hnil3)
      | fail)
    have hr := HR3.out
    have hg3 := HG3.out
    clear HR3 HG3
    rw [Nat.add_comm 1] at hr
    obtain ⟨A3, c3, rfl⟩ := own_len hr
    refine bodyPost_ret (v := .slice A3 (D.length + 1) c3) ?_ rfl ⟨A3, c3, rfl, own_base (by omega) hr, ?_⟩
    · simp [results, Try.results44, go_sem, *]
    · have hb2 := HB2.out.size
      refine (((below2 w _ _).trans (HB1.out.mono (by simp; omega))).trans (HB2.out.mono (by omega))).grown hg3 (by omega) (fun j hj => ?_)
      have hj' : some (w.heap.size + 1) = some j := hj
      cases hj'
      omega
/-- What both Paths leave: a list and an error. -/
def CusTup (w : World) (k : Int) (C : List (Int × Int)) (e : Ending) (w' : World) : Prop :=
  ∃ A c, e = .returned (.tuple #[.slice A C.length c, .int .i64 k]) ∧ w'.ownsRow w.heap.size 23 2 (.slice A C.length c) C.length (cs C) ∧ Below w.heap.size w w'
def pthL (p q : Int) : List (Int × Int) := if cuspI p q = 0 then pthl p q else []
theorem pthL_yes {p q : Int} (h : cuspI p q = 0) : pthL p q = pthl p q := if_pos h
theorem pthL_no {p q : Int} (h : ¬ cuspI p q = 0) : pthL p q = [] := if_neg h
set_option maxHeartbeats 1600000 in
set_option maxRecDepth 1000000 in
theorem Path_any (p q : Int) (w : World) : Calls Try.prog 22 #[.agg #[.int .i64 p, .int .i64 q]] w (CusTup w (cuspI p q) (pthL p q)) := by
  have HC := Lib.hid (fun W => checkCusp_any p q W)
  by_cases h : cuspI p q = 0
  · have HP := Lib.hid (fun W => path_any p q W h)
    rw [pthL_yes h]
    rw [h] at HC ⊢
    clear h
    generalize pthl p q = C at *
    go_enter Try.func22, Try.ntmps22
    go_wp2_with (first
      | (go_at_call 21; ((with_reducible refine (HC.out _).mono ?_); rintro e w1 ⟨rfl, hb⟩; obtain ⟨hc, hf⟩ := bcell hb; obtain hz0 : w.heap.size < w1.heap.size := (by have := hb.size; simp at this; omega); have HB := Lib.hid ((below1 w _).trans (hb.mono (by simp))); clear hb))
      | (go_at_call 44; ((with_reducible refine (HP.out _).mono ?_); rintro e w2 ⟨A, k, rfl, hown, hb⟩; have HO := Lib.hid (own_base (by have := HB.out.size; omega : w.heap.size ≤ _) hown); have HB2 := Lib.hid (HB.out.trans (hb.mono HB.out.size)); clear hown hb))
      | fail)
    refine bodyPost_ret (v := .tuple #[.slice A C.length k, .int .i64 0]) ?_ rfl ⟨A, k, rfl, HO.out, HB2.out⟩
    simp [results, Try.results22, go_sem, *]
  · rw [pthL_no h]
    rcases cusp_vals p q with h0 | h0 | h0
    · exact absurd h0 h
    all_goals
      rw [h0] at HC ⊢
      clear h h0
      go_enter Try.func22, Try.ntmps22
      go_wp2_with (first
        | (go_at_call 21; ((with_reducible refine (HC.out _).mono ?_); rintro e w1 ⟨rfl, hb⟩; have HB := Lib.hid ((below1 w _).trans (hb.mono (by simp))); clear hb))
        | fail)
      first
        | (refine bodyPost_ret (v := .tuple #[.slice none 0 0, .int .i64 2]) ?_ rfl ⟨none, 0, rfl, World.ownsRow_nil _ _ _ _, HB.out⟩; simp [results, Try.results22, go_sem, *])
        | (refine bodyPost_ret (v := .tuple #[.slice none 0 0, .int .i64 3]) ?_ rfl ⟨none, 0, rfl, World.ownsRow_nil _ _ _ _, HB.out⟩; simp [results, Try.results22, go_sem, *])
end Go.Proofs.Ytbkombklfpjjpaa
