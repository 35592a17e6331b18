/- Sl2Factors answers true for all matrices: what it does to the world. -/
import Derived.Test.YtnccamhajndkjaaRAbelL
import Derived.Test.YtnccamhajndkjaaValL
namespace Go.Proofs.Ytnccamhajndkjaa
open Go.RowKit

theorem RdZ.drewN {w : World} {B c : Nat} {A : Option Addr} {l : List Int} (h : RdZ w B A c l) (n : Nat) : RdZ (w.drewN n) B A c l := h
theorem WBox.drewN {w : World} {g l c : Nat} {n : Bool} {A : Option Addr} (h : WBox w g n A l c) (q : Nat) : WBox (w.drewN q) g n A l c := h
theorem factor_is (a b c d k : Int) (n : Bool) (l : List Int) (hk : k = chkI a b c d) (hn : n = if k = 0 then wn 32 ⟨a, b, c, d⟩ else false) (hl : l = if k = 0 then wl 32 ⟨a, b, c, d⟩ else []) (W : World) :
    Calls Try.prog 29 #[.agg #[.int .i64 a, .int .i64 b, .int .i64 c, .int .i64 d]] W fun e w' => ∃ (A : Option Addr) (cc : Nat), e = .returned (.tuple #[.agg #[.bool n, .slice A l.length cc], .int .i64 k]) ∧ RdZ w' w'.heap.size A cc l ∧ Below W.heap.size W w' := by
  refine (factor_any a b c d W).mono ?_
  rintro e w' ⟨k', n', A, cc, l', he, hr, _, ⟨h1, h2, h3⟩, hb⟩
  have e1 : k' = k := h1.trans hk.symm
  subst e1
  have e2 : n' = n := h2.trans hn.symm
  have e3 : l' = l := h3.trans hl.symm
  subst e2 e3
  exact ⟨A, cc, he, hr, hb⟩
theorem rfactor_is (a b c d k : Int) (n : Bool) (l : List Int) (hk : k = chkI a b c d) (hn : n = if k = 0 then wn 32 ⟨a, b, c, d⟩ else false) (hl : l = if k = 0 then wl 32 ⟨a, b, c, d⟩ else []) (W : World) :
    Calls Try.prog 30 #[.agg #[.int .i64 a, .int .i64 b, .int .i64 c, .int .i64 d]] W fun e w' => ∃ (A : Option Addr) (cc : Nat), e = .returned (.tuple #[.agg #[.bool n, .slice A l.length cc], .int .i64 k]) ∧ RdZ w' w'.heap.size A cc l ∧ Below W.heap.size W w' := by
  refine (rfactor_any a b c d W).mono ?_
  rintro e w' ⟨k', n', A, cc, l', he, hr, _, ⟨h1, h2, h3⟩, hb⟩
  have e1 : k' = k := h1.trans hk.symm
  subst e1
  have e2 : n' = n := h2.trans hn.symm
  have e3 : l' = l := h3.trans hl.symm
  subst e2 e3
  exact ⟨A, cc, he, hr, hb⟩

set_option maxHeartbeats 3200000 in
set_option maxRecDepth 1000000 in
theorem factors_walk (a b c d : Int) (w : World) :
    Calls Try.prog 9 #[.agg #[.int .i64 a, .int .i64 b, .int .i64 c, .int .i64 d]] w fun e w' => e = .returned (.bool true) ∧ Below w.heap.size w w' := by
  obtain ⟨k, hk⟩ : ∃ k, k = chkI a b c d := ⟨_, rfl⟩
  obtain ⟨n, hn⟩ : ∃ n, n = if k = 0 then wn 32 ⟨a, b, c, d⟩ else false := ⟨_, rfl⟩
  obtain ⟨l, hl⟩ : ∃ l, l = if k = 0 then wl 32 ⟨a, b, c, d⟩ else [] := ⟨_, rfl⟩
  have HF := Lib.hid (factor_is a b c d k n l hk hn hl)
  have HG := Lib.hid (rfactor_is a b c d k n l hk hn hl)
  by_cases h0 : k = 0
  · subst h0
    rw [if_pos rfl] at hn hl
    have hll : (l.length : Int) ≤ 33 := by have := wl_len 32 ⟨a, b, c, d⟩; rw [← hl] at this; omega
    have HV : Hid (valE n l = (⟨a, b, c, d⟩, 0)) := by
      rcases chk_cases a b c d with ⟨_, h⟩ | ⟨h1, h2, _⟩ | ⟨_, _, h⟩
      · omega
      · show _ = _; rw [hn, hl]; exact value_word (m := ⟨a, b, c, d⟩) h2 h1
      · omega
    clear hn hl hk
    go_enter Try.func9, Try.ntmps9
    go_wp2_with (first
      | (go_at_call 12; ((with_reducible refine (awake_any _).mono ?_); rintro e w1 ⟨rfl, hb⟩; have P0 := Lib.hid ((Four.at w rfl a b c d).below hb); have HB1 : Hid (Below w.heap.size w w1) := bel1 (Below.refl _ _) hb; obtain ⟨x0, x1, x2, x3⟩ := P0.out.cells; have xl := P0.out.lt; clear hb))
      | (go_at_call 29; ((with_reducible refine (HF.out _).mono ?_); rintro e w2 ⟨A, cc, rfl, hr, hb⟩; have HR1 := Lib.hid hr; have P0 := Lib.hid (P0.out.below hb); have HB2 : Hid (Below w.heap.size w w2) := bel0 HB1.out hb; obtain ⟨x0, x1, x2, x3⟩ := P0.out.cells; have xl := P0.out.lt; clear hb hr))
      | (go_at_call 30; ((with_reducible refine (HG.out _).mono ?_); rintro e w3 ⟨A2, cc2, rfl, hr, hb⟩; have HR2 := Lib.hid hr; have HR1 := Lib.hid ((HR1.out.alloc (Nat.le_refl _) _).below (hb.mono (by simp))); have P0 := Lib.hid ((P0.out.alloc _).below hb); have T0 := Lib.hid ((WBox.at w2 rfl n A l.length cc).below hb); have HB3 : Hid (Below w.heap.size w w3) := bel1 HB2.out hb; obtain ⟨x0, x1, x2, x3⟩ := P0.out.cells; have xl := P0.out.lt; obtain ⟨t0, t1⟩ := T0.out.cells; have tl := T0.out.lt; clear hb hr))
      | (go_at_call 31; ((with_reducible refine (ints_same _ (HR1.out.alloc (Nat.le_of_lt tl) _) (HR2.out.alloc (Nat.le_refl _) _)).mono ?_); rintro e w' ⟨rfl, q, rfl⟩))
      | (go_at_call 32; ((with_reducible refine (value_any n a b c d 0 _ ((HR1.out.alloc (Nat.le_of_lt tl) _).drewN q) (by simp; omega) HV.out).mono ?_); rintro e w5 ⟨rfl, hb⟩; have P0 := Lib.hid (((P0.out.alloc _).drewN q).below hb); have T0 := Lib.hid (((T0.out.alloc _).drewN q).below hb); have HB5 : Hid (Below w.heap.size w w5) := bel0 (below_drewN (bel0 HB3.out (below1 _ _)) q) hb; obtain ⟨x0, x1, x2, x3⟩ := P0.out.cells; have xl := P0.out.lt; obtain ⟨t0, t1⟩ := T0.out.cells; have tl := T0.out.lt; clear hb))
      | fail)
    go_ret
    exact ⟨rfl, bel0 HB5.out (below1 _ _)⟩
  · have hk1 : (k != 0) = true := by simpa using h0
    clear hn hl hk h0
    go_enter Try.func9, Try.ntmps9
    go_wp2_with (first
      | (go_at_call 12; ((with_reducible refine (awake_any _).mono ?_); rintro e w1 ⟨rfl, hb⟩; have P0 := Lib.hid ((Four.at w rfl a b c d).below hb); have HB1 : Hid (Below w.heap.size w w1) := bel1 (Below.refl _ _) hb; obtain ⟨x0, x1, x2, x3⟩ := P0.out.cells; have xl := P0.out.lt; clear hb))
      | (go_at_call 29; ((with_reducible refine (HF.out _).mono ?_); rintro e w2 ⟨A, cc, rfl, hr, hb⟩; have HR1 := Lib.hid hr; have P0 := Lib.hid (P0.out.below hb); have HB2 : Hid (Below w.heap.size w w2) := bel0 HB1.out hb; obtain ⟨x0, x1, x2, x3⟩ := P0.out.cells; have xl := P0.out.lt; clear hb hr))
      | (go_at_call 30; ((with_reducible refine (HG.out _).mono ?_); rintro e w3 ⟨A2, cc2, rfl, hr, hb⟩; have HR2 := Lib.hid hr; have HR1 := Lib.hid ((HR1.out.alloc (Nat.le_refl _) _).below (hb.mono (by simp))); have P0 := Lib.hid ((P0.out.alloc _).below hb); have T0 := Lib.hid ((WBox.at w2 rfl n A l.length cc).below hb); have HB3 : Hid (Below w.heap.size w w3) := bel1 HB2.out hb; obtain ⟨x0, x1, x2, x3⟩ := P0.out.cells; have xl := P0.out.lt; obtain ⟨t0, t1⟩ := T0.out.cells; have tl := T0.out.lt; clear hb hr))
      | (go_at_call 31; ((with_reducible refine (ints_same _ (HR1.out.alloc (Nat.le_of_lt tl) _) (HR2.out.alloc (Nat.le_refl _) _)).mono ?_); rintro e w' ⟨rfl, q, rfl⟩))
      | fail)
    go_ret
    exact ⟨rfl, below_drewN (bel0 HB3.out (below1 _ _)) _⟩
end Go.Proofs.Ytnccamhajndkjaa
