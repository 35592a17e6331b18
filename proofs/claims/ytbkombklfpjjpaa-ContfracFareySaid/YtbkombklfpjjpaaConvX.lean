/- The contract of Convergents. -/
import Derived.Test.YtbkombklfpjjpaaConvL
namespace Go.Proofs.Ytbkombklfpjjpaa
open Go.RowKit

/-- The error of Convergents, and its list. -/
noncomputable def cvI (l : List Int) : Int := if l = [] then 3 else if elB l = false then 2 else match cvg 0 1 1 0 l with | none => 7 | some _ => 0
noncomputable def cvl (l : List Int) : List (Int × Int) := if l = [] then [] else if elB l = false then [] else (cvg 0 1 1 0 l).getD []
theorem cvI_nil : cvI [] = 3 := if_pos rfl
theorem cvl_nil : cvl [] = [] := if_pos rfl
theorem cvI_form {l : List Int} (h : l ≠ []) (h1 : elB l = false) : cvI l = 2 ∧ cvl l = [] := by
  unfold cvI cvl
  rw [if_neg h, if_neg h, if_pos h1, if_pos h1]; exact ⟨rfl, rfl⟩
theorem cvI_large {l : List Int} (h : l ≠ []) (h1 : elB l = true) (h2 : cvg 0 1 1 0 l = none) : cvI l = 7 ∧ cvl l = [] := by
  unfold cvI cvl
  rw [if_neg h, if_neg h, if_neg (by rw [h1]; decide), if_neg (by rw [h1]; decide), h2]; exact ⟨rfl, rfl⟩
theorem cvI_ok {l : List Int} {C : List (Int × Int)} (h : l ≠ []) (h1 : elB l = true) (h2 : cvg 0 1 1 0 l = some C) : cvI l = 0 ∧ cvl l = C := by
  unfold cvI cvl
  rw [if_neg h, if_neg h, if_neg (by rw [h1]; decide), if_neg (by rw [h1]; decide), h2]; exact ⟨rfl, rfl⟩
theorem RdZ.drew {w : World} {B c : Nat} {A : Option Addr} {l : List Int} (h : RdZ w B A c l) (n : Nat) : RdZ (w.drewN n) B A c l := h

set_option maxHeartbeats 1600000 in
set_option maxRecDepth 1000000 in
theorem convX_any {l : List Int} {c : Nat} {A : Option Addr} (w : World) (h1 : RdZ w w.heap.size A c l) :
    Calls Try.prog 18 #[.slice A l.length c] w fun e w' => ∃ A' c', e = .returned (.tuple #[.slice A' (cvl l).length c', .int .i64 (cvI l)]) ∧
      w'.ownsRow w.heap.size 23 2 (.slice A' (cvl l).length c') (cvl l).length (cs (cvl l)) ∧ Below w.heap.size w w' := by
  have hl := h1.len
  have H1 := Lib.hid h1
  clear h1
  by_cases h0 : l = []
  · subst h0
    rw [cvI_nil, cvl_nil]
    go_enter Try.func18, Try.ntmps18
    go_wp2
    refine bodyPost_ret (v := .tuple #[.slice none 0 0, .int .i64 3]) ?_ rfl ⟨none, 0, rfl, World.ownsRow_nil _ _ _ _, Below.refl _ _⟩
    simp [results, Try.results18, go_sem, *]
  have hln : 0 < l.length := List.length_pos_iff.2 h0
  have hlz : ((l.length : Int) == 0) = false := by rw [beq_eq_false_iff_ne]; omega
  have HE := Lib.hid (fun W (h : RdZ W W.heap.size A c l) => areElements_any W h)
  cases hb : elB l with
  | false =>
    obtain ⟨e1, e2⟩ := cvI_form h0 hb
    rw [e1, e2]
    rw [hb] at HE
    clear hb e1 e2 h0
    go_enter Try.func18, Try.ntmps18
    go_wp2_with (first
      | (go_at_call 39; ((with_reducible refine (HE.out _ H1.out).mono ?_); rintro e w1 ⟨rfl, n, rfl⟩))
      | fail)
    refine bodyPost_ret (v := .tuple #[.slice none 0 0, .int .i64 2]) ?_ rfl ⟨none, 0, rfl, World.ownsRow_nil _ _ _ _, below_drewN (Below.refl _ _) n⟩
    simp [results, Try.results18, go_sem, *]
  | true =>
    obtain ⟨g1, g2⟩ := elB_of hb
    have HC := Lib.hid (fun W (h : RdZ W W.heap.size A c l) => convergents_any W h g2 (by omega))
    have HK : Hid (∀ C, cvg 0 1 1 0 l = some C → cvI l = 0 ∧ cvl l = C) := fun C h => cvI_ok h0 hb h
    have HL : Hid (cvg 0 1 1 0 l = none → cvI l = 7 ∧ cvl l = []) := fun h => cvI_large h0 hb h
    rw [hb] at HE
    clear hb h0 g1 g2
    obtain ⟨I, hI⟩ : ∃ I, I = cvI l := ⟨_, rfl⟩
    obtain ⟨L, hL⟩ : ∃ L, L = cvl l := ⟨_, rfl⟩
    rw [← hI, ← hL] at HK HL ⊢
    clear hI hL
    go_enter Try.func18, Try.ntmps18
    go_wp2_with (first
      | (go_at_call 39; ((with_reducible refine (HE.out _ H1.out).mono ?_); rintro e w1 ⟨rfl, n, rfl⟩))
      | (go_at_call 40; ((with_reducible refine (HC.out _ (H1.out.drew n)).mono ?_); rintro e w1 ⟨A', c', C, k, rfl, hc, hown, hb⟩; have HI := Lib.hid hc.out; have HO := Lib.hid hown; have HB := Lib.hid hb; clear hc hown hb))
      | fail)
    have e2 : I = k ∧ L = C := by
      rcases HI.out with ⟨h1, h2⟩ | ⟨h1, h2, h3⟩
      · obtain ⟨e1, e2⟩ := HK.out C h1
        exact ⟨by omega, e2⟩
      · obtain ⟨e1, e2⟩ := HL.out h1
        exact ⟨by omega, e2.trans h2.symm⟩
    obtain ⟨rfl, rfl⟩ := e2
    refine bodyPost_ret (v := .tuple #[.slice A' L.length c', .int .i64 I]) ?_ rfl ⟨A', c', rfl, HO.out, (below_drewN (Below.refl _ w) n).trans HB.out⟩
    simp [results, Try.results18, go_sem, *]
end Go.Proofs.Ytbkombklfpjjpaa
