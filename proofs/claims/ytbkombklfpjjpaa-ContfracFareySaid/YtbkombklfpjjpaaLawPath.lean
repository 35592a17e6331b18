/- ContfracPaths answers true for all cusps: what it does to the world. -/
import Derived.Test.YtbkombklfpjjpaaLawK
import Derived.Test.YtbkombklfpjjpaaRPathL
import Derived.Test.YtbkombklfpjjpaaPathN
import Derived.Test.YtbkombklfpjjpaaNbL
import Derived.Test.YtbkombklfpjjpaaSameL
import Derived.Deep.QuietTactic
import Derived.BigQuiet
namespace Go.Proofs.Ytbkombklfpjjpaa
open Go.RowKit

theorem nbs_pthl {p q : Int} (h : cuspI p q = 0) : Nbs (pthl p q) := by
  by_cases hq : q = 0
  · subst hq
    rw [pthl_zero]
    refine ⟨fun i hi => ?_, fun x hx => ?_⟩
    · simp at hi
    · simp at hx; subst hx; decide
  · have k0 := (cuspI_zero.1 h).2.2.pos
    obtain ⟨C, c1, c2, c3⟩ := cvg_cfe h (show 0 < q by omega)
    rw [pthl_pos hq c1]
    obtain ⟨hd, hr⟩ := dets_path h (show 0 < q by omega) c1
    exact ⟨fun i hi => dets_pm hd (.inl rfl) i hi, hr⟩
theorem pthl_ends {p q : Int} (h : cuspI p q = 0) : ∃ L, (pthl p q).length = L + 1 ∧ (pthl p q)[0]? = some (1, 0) ∧ (pthl p q)[L]? = some (p, q) := by
  by_cases hq : q = 0
  · have hp := (cuspI_zero.1 h).2.2.inf hq
    subst hq hp
    rw [pthl_zero]
    exact ⟨0, rfl, rfl, rfl⟩
  · have k0 := (cuspI_zero.1 h).2.2.pos
    obtain ⟨C, c1, c2, c3⟩ := cvg_cfe h (show 0 < q by omega)
    rw [pthl_pos hq c1]
    refine ⟨C.length, rfl, rfl, ?_⟩
    have hne := cfe_ne (P := p) (show 0 < q by omega)
    have hpos : 0 < (cfe p q).length := List.length_pos_iff.2 hne
    rw [List.getLast?_eq_getElem?] at c3
    obtain ⟨n, hn⟩ : ∃ n, C.length = n + 1 := ⟨C.length - 1, by omega⟩
    rw [hn] at c3 ⊢
    simpa using c3
theorem RdC.get {w : World} {B c b o k : Nat} {C : List (Int × Int)} {x : Int × Int} (h : RdC w B (some ⟨b, o, none⟩) c C) (hk : C[k]? = some x) :
    w.cell? ⟨b, o + k * 2, none⟩ = some (.int .i64 x.1) ∧ w.cell? ⟨b, o + k * 2 + 1, none⟩ = some (.int .i64 x.2) := by
  obtain ⟨hlt, e⟩ := List.getElem?_eq_some_iff.1 hk
  obtain ⟨b', o', e', _, c1, c2⟩ := h.at_ hlt
  cases e'
  rw [e] at c1 c2
  exact ⟨c1, c2⟩
theorem RdC.some_ {w : World} {B c : Nat} {A : Option Addr} {C : List (Int × Int)} (h : RdC w B A c C) (hn : 0 < C.length) : ∃ b o, A = some ⟨b, o, none⟩ ∧ b < B := by
  obtain ⟨b, o, e, hb, _⟩ := h.2.2.1 hn
  exact ⟨b, o, e, hb⟩
def TupN (w : World) (n : Nat) (k : Int) (C : List (Int × Int)) (e : Ending) (w' : World) : Prop :=
  ∃ A c, e = .returned (.tuple #[.slice A n c, .int .i64 k]) ∧ RdC w' w'.heap.size A c C ∧ Below w.heap.size w w'
theorem CusTup.n {w : World} {k : Int} {C : List (Int × Int)} {n : Nat} (hn : C.length = n) {e : Ending} {w' : World} (h : CusTup w k C e w') : TupN w n k C e w' := by
  subst hn
  obtain ⟨A, c, he, ho, hb⟩ := h
  exact ⟨A, c, he, own_rdc ho, hb⟩
theorem same_n {l : List (Int × Int)} {B1 B2 c1 c2 n : Nat} {A1 A2 : Option Addr} (w : World) (hn : l.length = n) (h1 : RdC w B1 A1 c1 l) (h2 : RdC w B2 A2 c2 l) :
    Calls Try.prog 20 #[.slice A1 n c1, .slice A2 n c2] w fun e w' => e = .returned (.bool true) ∧ ∃ n, w' = w.drewN n := by
  subst hn; exact same_any w h1 h2
theorem nbs_n {C : List (Int × Int)} {B c n : Nat} {A : Option Addr} (w : World) (hl : C.length = n) (h1 : RdC w B A c C) (hn : Nbs C) :
    Calls Try.prog 24 #[.slice A n c] w fun e w' => e = .returned (.bool true) ∧ ∃ n, w' = w.drewN n := by
  subst hl; exact nbs_any w h1 hn
set_option maxHeartbeats 3200000 in
set_option maxRecDepth 1000000 in
theorem paths_walk (p q : Int) (w : World) :
    Calls Try.prog 7 #[.agg #[.int .i64 p, .int .i64 q]] w fun e w' => e = .returned (.bool true) ∧ Below w.heap.size w w' := by
  by_cases h : cuspI p q = 0
  · obtain ⟨L, hL, h0, hl⟩ := pthl_ends h
    have HN := Lib.hid (nbs_pthl h)
    have HA := Lib.hid (fun W => (Path_any p q W).mono fun e w' hh => CusTup.n (n := L + 1) (by rw [pthL_yes h]; exact hL) hh)
    have HR := Lib.hid (fun W => (rPath_any p q W).mono fun e w' hh => CusTup.n (n := L + 1) (by rw [pthL_yes h]; exact hL) hh)
    rw [h, pthL_yes h] at HA HR
    clear h
    generalize pthl p q = C at *
    have HL := Lib.hid hL
    have H0 := Lib.hid h0
    have H1 := Lib.hid hl
    have hpos : 0 < C.length := by omega
    have HP := Lib.hid hpos
    clear hL h0 hl hpos
    go_enter Try.func7, Try.ntmps7
    go_wp2_with (first
      | (go_at_call 13; ((with_reducible refine (awake_any _).mono ?_); rintro e w1 ⟨rfl, hb⟩; have P_w1 := Lib.hid ((Two.at w (g := w.heap.size) rfl p q).below hb); have HB_w1 : Hid (Below w.heap.size w w1) := bel1 (Below.refl _ _) hb; obtain ⟨p0, p1⟩ := P_w1.out.cells; have lt1 := P_w1.out.lt; clear hb))
      | (go_at_call 22; ((with_reducible refine (HA.out _).mono ?_); rintro e w2 ⟨A1, c1, rfl, hr, hb⟩; have R1 := Lib.hid hr; have P_w2 := Lib.hid (P_w1.out.below hb); have HB_w2 : Hid (Below w.heap.size w w2) := bel0 HB_w1.out hb; obtain ⟨q0, q1⟩ := P_w2.out.cells; have lt2 := P_w2.out.lt; clear hr hb))
      | (go_at_call 23; ((with_reducible refine (HR.out _).mono ?_); rintro e w3 ⟨A2, c2, rfl, hr, hb⟩; have R2 := Lib.hid hr; have R3 := Lib.hid (R1.out.below hb); have P_w3 := Lib.hid (P_w2.out.below hb); have HB_w3 : Hid (Below w.heap.size w w3) := bel0 HB_w2.out hb; clear hr hb))
      | (go_at_call 20; ((with_reducible refine (same_n _ HL.out R3.out R2.out).mono ?_); rintro e w4 ⟨rfl, n4, hw⟩; have R4 : Hid (RdC w4 w2.heap.size A1 c1 C) := (by rw [hw]; exact R3.out); have P_w4 : Hid (Two w4 w.heap.size p q) := (by rw [hw]; exact P_w3.out); have HB_w4 : Hid (Below w.heap.size w w4) := (by rw [hw]; exact below_drewN HB_w3.out _); clear hw))
      | fail)
    obtain ⟨b, o, rfl, hb⟩ := R4.out.some_ HP.out
    obtain ⟨x0, x1⟩ := R4.out.get H0.out
    obtain ⟨x2, x3⟩ := R4.out.get H1.out
    obtain ⟨r0, r1⟩ := P_w4.out.cells
    have y0 := fun N => (show (w4.drewN N).cell? ⟨b, o, none⟩ = some (.int .i64 1) from by simpa using x0)
    have y1 := fun N => (show (w4.drewN N).cell? ⟨b, o + 1, none⟩ = some (.int .i64 0) from by simpa using x1)
    have y2 := fun N => (show (w4.drewN N).cell? ⟨b, o + L * 2, none⟩ = some (.int .i64 p) from x2)
    have y3 := fun N => (show (w4.drewN N).cell? ⟨b, o + L * 2 + 1, none⟩ = some (.int .i64 q) from x3)
    have z0 := fun N => (show (w4.drewN N).cell? ⟨w.heap.size, 0, none⟩ = some (.int .i64 p) from r0)
    have z1 := fun N => (show (w4.drewN N).cell? ⟨w.heap.size, 1, none⟩ = some (.int .i64 q) from r1)
    have HNB := Lib.hid (fun W (h : RdC W w2.heap.size (some ⟨b, o, none⟩) c1 C) => nbs_n W HL.out h HN.out)
    have HLL : (L : Int) + 1 ≤ 9223372036854775807 := by have := R4.out.len; have := HL.out; omega
    clear x0 x1 x2 x3 r0 r1
    go_quiet ((go_at_call 24; exact Calls.quiet_of (HNB.out _ R4.out)))
    go_wp2
    go_ret
    exact ⟨rfl, below_drewN HB_w4.out _⟩
  · have HA := Lib.hid (fun W => (Path_any p q W).mono fun e w' hh => CusTup.n (n := 0) (by rw [pthL_no h]; rfl) hh)
    have HR := Lib.hid (fun W => (rPath_any p q W).mono fun e w' hh => CusTup.n (n := 0) (by rw [pthL_no h]; rfl) hh)
    rw [pthL_no h] at HA HR
    have hk1 : (cuspI p q != 0) = true := by simpa using h
    clear h
    generalize cuspI p q = k at *
    go_enter Try.func7, Try.ntmps7
    go_wp2_with (first
      | (go_at_call 13; ((with_reducible refine (awake_any _).mono ?_); rintro e w1 ⟨rfl, hb⟩; have P_w1 := Lib.hid ((Two.at w (g := w.heap.size) rfl p q).below hb); have HB_w1 : Hid (Below w.heap.size w w1) := bel1 (Below.refl _ _) hb; obtain ⟨p0, p1⟩ := P_w1.out.cells; have lt1 := P_w1.out.lt; clear hb))
      | (go_at_call 22; ((with_reducible refine (HA.out _).mono ?_); rintro e w2 ⟨A1, c1, rfl, hr, hb⟩; have R1 := Lib.hid hr; have P_w2 := Lib.hid (P_w1.out.below hb); have HB_w2 : Hid (Below w.heap.size w w2) := bel0 HB_w1.out hb; obtain ⟨q0, q1⟩ := P_w2.out.cells; have lt2 := P_w2.out.lt; clear hr hb))
      | (go_at_call 23; ((with_reducible refine (HR.out _).mono ?_); rintro e w3 ⟨A2, c2, rfl, hr, hb⟩; have R2 := Lib.hid hr; have R3 := Lib.hid (R1.out.below hb); have HB_w3 : Hid (Below w.heap.size w w3) := bel0 HB_w2.out hb; clear hr hb))
      | (go_at_call 20; ((with_reducible refine (same_n _ List.length_nil R3.out R2.out).mono ?_); rintro e w4 ⟨rfl, n4, hw⟩; have HB_w4 : Hid (Below w.heap.size w w4) := (by rw [hw]; exact below_drewN HB_w3.out _); clear hw))
      | fail)
    go_quiet (fail)
    go_wp2
    go_ret
    exact ⟨rfl, below_drewN HB_w4.out _⟩
end Go.Proofs.Ytbkombklfpjjpaa
