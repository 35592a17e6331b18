/- The guard of every law: awake() is true. -/
import Derived.Test.YtnccamhajndkjaaAbelL
import Derived.Test.YtnccamhajndkjaaApplyL
namespace Go.Proofs.Ytnccamhajndkjaa
open Go.RowKit

theorem wl_5 : wl 32 ⟨5, 2, 2, 1⟩ = [2, -2, 0] := by decide
theorem wn_5 : wn 32 ⟨5, 2, 2, 1⟩ = true := by decide
theorem chk_5 : chkI 5 2 2 1 = 0 := by decide
theorem abl_5 : ablE ⟨0, -1, 1, 1⟩ = (10, 0) := by decide
theorem app_5 : appE 2 1 1 1 1 0 = (2, 1, 0) := by decide
theorem factor_5 (w : World) : Calls Try.prog 29 #[.agg #[.int .i64 5, .int .i64 2, .int .i64 2, .int .i64 1]] w fun e w' => ∃ (A : Option Addr) (c : Nat), e = .returned (.tuple #[.agg #[.bool true, .slice A 3 c], .int .i64 0]) ∧ RdZ w' w'.heap.size A c [2, -2, 0] ∧ Below w.heap.size w w' := by
  refine (factor_any 5 2 2 1 w).mono ?_
  rintro e w' ⟨k, n, A, c, l, he, hr, _, ⟨h1, h2, h3⟩, hb⟩
  obtain rfl : k = 0 := h1.trans chk_5
  rw [if_pos rfl] at h2 h3
  rw [wl_5] at h3
  rw [wn_5] at h2
  subst h2 h3
  exact ⟨A, c, he, hr, hb⟩
theorem rdz3 (w : World) (x y z : Int) (t : TypeId) {g : Nat} (hg : g = w.heap.size) : RdZ (w.alloc (.cells #[.int .i64 x, .int .i64 y, .int .i64 z] t)) (w.heap.size + 1) (some ⟨g, 0, none⟩) 3 [x, y, z] := by
  subst hg
  refine ⟨by simp, by unfold maxLen; omega, fun _ => ⟨w.heap.size, 0, rfl, by omega, fun k hk => ?_⟩, fun a ha => by cases ha; exact ⟨_, _, rfl⟩⟩
  match k, hk with
  | 0, _ => simp
  | 1, _ => simp
  | 2, _ => simp
theorem ints_len {l : List Int} {B1 B2 c1 c2 k : Nat} {A1 A2 : Option Addr} (w : World) (h1 : RdZ w B1 A1 c1 l) (h2 : RdZ w B2 A2 c2 l) (hk : k = l.length) :
    Calls Try.prog 31 #[.slice A1 k c1, .slice A2 k c2] w fun e w' => e = .returned (.bool true) ∧ ∃ n, w' = w.drewN n := by
  subst hk; exact ints_same w h1 h2
theorem ints3 {x y z : Int} {B1 B2 c1 c2 : Nat} {A1 A2 : Option Addr} (w : World) (h1 : RdZ w B1 A1 c1 [x, y, z]) (h2 : RdZ w B2 A2 c2 [x, y, z]) :
    Calls Try.prog 31 #[.slice A1 3 c1, .slice A2 3 c2] w fun e w' => e = .returned (.bool true) ∧ ∃ n, w' = w.drewN n := ints_len (l := [x, y, z]) w h1 h2 rfl
set_option maxHeartbeats 1600000 in
set_option maxRecDepth 1000000 in
theorem awake_any (w : World) : Calls Try.prog 12 #[] w fun e w' => e = .returned (.bool true) ∧ Below w.heap.size w w' := by
  have HA := Lib.hid (fun W => abelian_any 0 (-1) 1 1 10 0 W abl_5)
  have HP := Lib.hid (fun W => apply_any 2 1 1 1 1 0 2 1 0 W app_5)
  go_enter Try.func12, Try.ntmps12
  go_wp2_with (first
    | (go_at_call 29; ((with_reducible refine (factor_5 _).mono ?_); rintro e w1 ⟨A, c, rfl, hr, hb⟩; have HR := Lib.hid hr; clear hr; obtain ⟨hc, hf⟩ := bcell hb; have HB1 := Lib.hid hb; clear hb))
    | (go_at_call 34; ((with_reducible refine (HA.out _).mono ?_); rintro e w2 ⟨rfl, hb⟩; obtain ⟨hc, hf⟩ := bcell hb; have hz2 : w1.heap.size < w2.heap.size := (by have := hb.size; simp at this; omega); have HK2 : Hid (Below w1.heap.size w1 w2) := ((below1 _ _).trans (hb.mono (by simp))); clear hb))
    | (go_at_call 23; ((with_reducible refine (HP.out _).mono ?_); rintro e w3 ⟨rfl, hb⟩; obtain ⟨hc, hf⟩ := bcell hb; have hz3 : w1.heap.size < w3.heap.size := (by have := hb.size; omega); have HK3 : Hid (Below w1.heap.size w1 w3) := HK2.out.trans (hb.mono HK2.out.size); clear hb))
    | (go_at_call 31; ((with_reducible refine (ints3 _ (HR.out.below (HK3.out.trans ((below2 _ _ _).mono HK3.out.size))) (rdz3 _ 2 (-2) 0 _ (by simp))).mono ?_); rintro e w' ⟨rfl, n, rfl⟩))
    | fail)
  go_ret
  exact ⟨rfl, below_drewN (HB1.out.trans ((HK3.out.trans ((below2 _ _ _).mono HK3.out.size)).mono HB1.out.size)) _⟩
end Go.Proofs.Ytnccamhajndkjaa
