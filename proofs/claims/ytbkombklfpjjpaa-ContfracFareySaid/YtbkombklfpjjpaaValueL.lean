/- The contract of Value. -/
import Derived.Test.YtbkombklfpjjpaaListC
namespace Go.Proofs.Ytbkombklfpjjpaa
open Go.RowKit

theorem RdC.get2 {w : World} {B c b o k : Nat} {C : List (Int × Int)} {x : Int × Int} (h : RdC w B (some ⟨b, o, none⟩) c C) (hk : C[k]? = some x) :
    w.cell? ⟨b, o + k * 2, none⟩ = some (.int .i64 x.1) ∧ w.cell? ⟨b, o + k * 2 + 1, none⟩ = some (.int .i64 x.2) := by
  obtain ⟨hlt, e⟩ := List.getElem?_eq_some_iff.1 hk
  obtain ⟨b', o', e', _, c1, c2⟩ := h.at_ hlt
  cases e'
  rw [e] at c1 c2
  exact ⟨c1, c2⟩
theorem cv_cases (l : List Int) : (cvI l = 0 ∧ l ≠ [] ∧ elB l = true ∧ cvg 0 1 1 0 l = some (cvl l)) ∨ ((cvI l = 2 ∨ cvI l = 3 ∨ cvI l = 7) ∧ cvl l = []) := by
  by_cases h0 : l = []
  · subst h0; exact .inr ⟨.inr (.inl cvI_nil), cvl_nil⟩
  · cases h1 : elB l with
    | false => obtain ⟨e1, e2⟩ := cvI_form h0 h1; exact .inr ⟨.inl e1, e2⟩
    | true =>
      cases h2 : cvg 0 1 1 0 l with
      | none => obtain ⟨e1, e2⟩ := cvI_large h0 h1 h2; exact .inr ⟨.inr (.inr e1), e2⟩
      | some C => obtain ⟨e1, e2⟩ := cvI_ok h0 h1 h2; exact .inl ⟨e1, h0, rfl, by rw [e2]⟩
/-- What Value answers. -/
noncomputable def vaE (l : List Int) : Int × Int × Int := if cvI l = 0 then (((cvl l).getLast?.getD (0, 0)).1, ((cvl l).getLast?.getD (0, 0)).2, 0) else (0, 0, cvI l)
theorem vaE_ok {l : List Int} {x : Int × Int} (h : cvI l = 0) (hx : (cvl l).getLast? = some x) : vaE l = (x.1, x.2, 0) := by
  unfold vaE; rw [if_pos h, hx]; rfl
theorem vaE_no {l : List Int} (h : ¬ cvI l = 0) : vaE l = (0, 0, cvI l) := if_neg h
set_option maxHeartbeats 1600000 in
set_option maxRecDepth 1000000 in
theorem value_any {l : List Int} {c B : Nat} {A : Option Addr} (x y k : Int) (w : World) (h1 : RdZ w B A c l) (hB : B ≤ w.heap.size) (hv : vaE l = (x, y, k)) :
    Calls Try.prog 17 #[.slice A l.length c] w fun e w' => e = .returned (.tuple #[.agg #[.int .i64 x, .int .i64 y], .int .i64 k]) ∧ Below w.heap.size w w' := by
  have H1 := Lib.hid (fun o => (h1.below ((below1 w o).mono hB)).mono (show B ≤ (w.alloc o).heap.size by simp; omega))
  have HC := Lib.hid (fun W (h : RdZ W W.heap.size A c l) => convX_any W h)
  have hl := h1.len
  clear h1 hB
  rcases cv_cases l with ⟨h0, hne, hel, hcv⟩ | ⟨h0, hnil⟩
  · have hlen : (cvl l).length = l.length := cvg_len _ _ _ _ _ _ hcv
    have hpos : 0 < l.length := List.length_pos_iff.2 hne
    obtain ⟨L, hL⟩ : ∃ L, (cvl l).length = L + 1 := ⟨l.length - 1, by omega⟩
    obtain ⟨z, hz⟩ : ∃ z, (cvl l)[L]? = some z := ⟨_, List.getElem?_eq_getElem (by omega)⟩
    have hz2 : (cvl l).getLast? = some z := by rw [List.getLast?_eq_getElem?, hL]; exact hz
    rw [vaE_ok h0 hz2] at hv
    cases hv
    have HO : Hid (∀ (W : World) A c, W.ownsRow w.heap.size 23 2 (.slice A (L + 1) c) (L + 1) (cs (cvl l)) → RdC W W.heap.size A c (cvl l)) := fun W A c h => own_rdc (by rw [hL]; exact h)
    have HO2 : Hid (∀ (W : World) A c b, W.ownsRow b 23 2 (.slice A (L + 1) c) (L + 1) (cs (cvl l)) → RdC W W.heap.size A c (cvl l)) := fun W A c b h => own_rdc (by rw [hL]; exact h)
    have HZ := Lib.hid hz
    rw [h0, hL] at HC
    have hLL : (L : Int) + 1 ≤ 9223372036854775807 := by omega
    clear h0 hne hel hcv hpos hz hz2 hlen hL HO
    generalize cvl l = C at *
    go_enter Try.func17, Try.ntmps17
    go_wp2_with fail
    (with_reducible refine (HC.out _ (H1.out _)).mono ?_)
    rintro e w1 ⟨A1, c1, rfl, hown, hb⟩
    obtain ⟨g, rfl, hg⟩ := own_some hown (by omega)
    have R1 := Lib.hid (HO2.out _ _ _ _ hown)
    obtain ⟨x0, x1⟩ := R1.out.get2 HZ.out
    obtain ⟨hc, hf⟩ := bcell hb
    have hz1 : w.heap.size < w1.heap.size := (by have := hb.size; simp at this; omega)
    have HB := Lib.hid ((below1 w _).trans (hb.mono (by simp)))
    rw [Nat.zero_add] at x0 x1
    clear hown hb
    go_wp2
    refine bodyPost_ret (v := .tuple #[.agg #[.int .i64 z.1, .int .i64 z.2], .int .i64 0]) ?_ rfl ⟨rfl, below_set2 HB.out (by omega) _ _⟩
    simp [results, Try.results17, go_sem, *]
  · have hk : ¬ cvI l = 0 := by omega
    rw [vaE_no hk] at hv
    cases hv
    rw [hnil] at HC
    have hk1 : (cvI l != 0) = true := by simpa using hk
    clear h0 hk hnil
    generalize cvI l = j at *
    go_enter Try.func17, Try.ntmps17
    go_wp2_with (first
      | (go_at_call 18; ((with_reducible refine (HC.out _ (H1.out _)).mono ?_); rintro e w1 ⟨A1, c1, rfl, hown, hb⟩; obtain ⟨hc, hf⟩ := bcell hb; have hz1 : w.heap.size < w1.heap.size := (by have := hb.size; simp at this; omega); have HB := Lib.hid ((below1 w _).trans (hb.mono (by simp))); clear hown hb))
      | fail)
    refine bodyPost_ret (v := .tuple #[.agg #[.int .i64 0, .int .i64 0], .int .i64 j]) ?_ rfl ⟨rfl, below_set2 HB.out (by omega) _ _⟩
    simp [results, Try.results17, go_sem, *]
end Go.Proofs.Ytbkombklfpjjpaa
