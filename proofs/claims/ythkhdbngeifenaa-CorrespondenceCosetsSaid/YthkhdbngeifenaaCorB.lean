/- correspondence.Cosets: its errors, equality of lists of matrices, the guard of layer 46. -/
import Derived.Test.YthkhdbngeifenaaCorL
namespace Go.Proofs.Ythkhdbngeifenaa
open Go.RowKit
set_option linter.unusedVariables false
set_option linter.unusedSimpArgs false

set_option maxHeartbeats 800000 in
set_option maxRecDepth 1000000 in
theorem cosets_bad (N W D n k : Int) (w : World) (h : ckV N W D = k) (hk : k ≠ 0) :
    Calls Try.prog 6 #[.agg #[.int .i64 N, .int .i64 W, .int .i64 D], .int .i64 n] w fun e w' => e = .returned (.tuple #[.slice none 0 0, .slice none 0 0, .int .i64 k]) ∧ Below w.heap.size w w' := by
  have T0 : Hid ((w.alloc (.cells #[.int .i64 N, .int .i64 W, .int .i64 D] 23)).heap[w.heap.size]? = some (.cells #[.int .i64 N, .int .i64 W, .int .i64 D] 23 (0, 0))) := heap_alloc_new w _
  have HB0 : Hid (Below w.heap.size w (w.alloc (.cells #[.int .i64 N, .int .i64 W, .int .i64 D] 23))) := below1 w _
  obtain ⟨⟨c0, c1, c2⟩, _⟩ := three_of_blockD T0.out
  have HCk := Lib.hid (fun V => check_any N W D V)
  rw [h] at HCk
  have hk1 : (k != 0) = true := by rw [bne_iff_ne]; exact hk
  clear h
  go_enter Try.func6, Try.ntmps6
  go_wp2_with (first
    | (go_at_call 12; ((with_reducible refine (HCk.out _).mono ?_); rintro e v1 ⟨rfl, hb⟩; have HB1 := Lib.hid (bel0 HB0.out hb); clear hb c0 c1 c2))
    | fail)
  refine bodyPost_ret (v := .tuple #[.slice none 0 0, .slice none 0 0, .int .i64 k]) ?_ rfl ⟨rfl, HB1.out⟩
  simp [results, Try.results6, go_sem]
set_option maxHeartbeats 800000 in
set_option maxRecDepth 1000000 in
theorem cosets_far (N W D n : Int) (w : World) (h : ckV N W D = 0) (hn : n < 1 ∨ 128 < n) :
    Calls Try.prog 6 #[.agg #[.int .i64 N, .int .i64 W, .int .i64 D], .int .i64 n] w fun e w' => e = .returned (.tuple #[.slice none 0 0, .slice none 0 0, .int .i64 2]) ∧ Below w.heap.size w w' := by
  have T0 : Hid ((w.alloc (.cells #[.int .i64 N, .int .i64 W, .int .i64 D] 23)).heap[w.heap.size]? = some (.cells #[.int .i64 N, .int .i64 W, .int .i64 D] 23 (0, 0))) := heap_alloc_new w _
  have HB0 : Hid (Below w.heap.size w (w.alloc (.cells #[.int .i64 N, .int .i64 W, .int .i64 D] 23))) := below1 w _
  obtain ⟨⟨c0, c1, c2⟩, _⟩ := three_of_blockD T0.out
  have HCk := Lib.hid (fun V => check_any N W D V)
  rw [h] at HCk
  clear h
  by_cases h1 : n < 1
  · clear hn
    go_enter Try.func6, Try.ntmps6
    go_wp2_with (first
      | (go_at_call 12; ((with_reducible refine (HCk.out _).mono ?_); rintro e v1 ⟨rfl, hb⟩; have HB1 := Lib.hid (bel0 HB0.out hb); clear hb c0 c1 c2))
      | fail)
    refine bodyPost_ret (v := .tuple #[.slice none 0 0, .slice none 0 0, .int .i64 2]) ?_ rfl ⟨rfl, HB1.out⟩
    simp [results, Try.results6, go_sem]
  · have h2 : 128 < n := by omega
    have h3 : 1 ≤ n := by omega
    clear hn h1
    go_enter Try.func6, Try.ntmps6
    go_wp2_with (first
      | (go_at_call 12; ((with_reducible refine (HCk.out _).mono ?_); rintro e v1 ⟨rfl, hb⟩; have HB1 := Lib.hid (bel0 HB0.out hb); clear hb c0 c1 c2))
      | fail)
    refine bodyPost_ret (v := .tuple #[.slice none 0 0, .slice none 0 0, .int .i64 2]) ?_ rfl ⟨rfl, HB1.out⟩
    simp [results, Try.results6, go_sem]
/-- A list of matrices that can be read. -/
def RdK (w : World) (A : Option Addr) (L : List (Nat × Nat × Nat)) : Prop :=
  ∀ k (hk : k < L.length), ∃ g, A = some ⟨g, 0, none⟩ ∧ g < w.heap.size ∧ w.cell? ⟨g, k * 4, none⟩ = some (.int .i64 (L[k].1 : Int)) ∧ w.cell? ⟨g, k * 4 + 1, none⟩ = some (.int .i64 (L[k].2.1 : Int)) ∧ w.cell? ⟨g, k * 4 + 2, none⟩ = some (.int .i64 0) ∧ w.cell? ⟨g, k * 4 + 3, none⟩ = some (.int .i64 (L[k].2.2 : Int))
theorem RdK.of {w : World} {B c : Nat} {A : Option Addr} {L : List (Nat × Nat × Nat)} (h : w.ownsRow B 40 4 (.slice A L.length c) L.length (m4s L)) : RdK w A L := fun k hk => by
  obtain ⟨g, rfl, hg⟩ := own_some h (by omega)
  obtain ⟨q0, q1, q2, q3⟩ := m4s_get L k hk
  have h2 := (h.lt g rfl).2
  have e0 := h.cells (g := g) rfl _ _ q0
  have e1 := h.cells (g := g) rfl _ _ q1
  have e2 := h.cells (g := g) rfl _ _ q2
  have e3 := h.cells (g := g) rfl _ _ q3
  rw [addr_add] at e0 e1 e2 e3
  exact ⟨g, rfl, h2, e0, e1, e2, e3⟩
theorem RdK.on {w w' : World} {A : Option Addr} {L : List (Nat × Nat × Nat)} (h : RdK w A L) (hb : Below w.heap.size w w') : RdK w' A L := fun k hk => by
  obtain ⟨g, e, hg, c0, c1, c2, c3⟩ := h k hk
  exact ⟨g, e, Nat.lt_of_lt_of_le hg hb.size, (hb.cell (p := ⟨g, _, none⟩) hg).trans c0, (hb.cell (p := ⟨g, _, none⟩) hg).trans c1, (hb.cell (p := ⟨g, _, none⟩) hg).trans c2, (hb.cell (p := ⟨g, _, none⟩) hg).trans c3⟩
set_option maxHeartbeats 1600000 in
set_option maxRecDepth 1000000 in
theorem msame_any {L : List (Nat × Nat × Nat)} {c1 c2 : Nat} {A1 A2 : Option Addr} (w : World) (h1 : RdK w A1 L) (h2 : RdK w A2 L) (hl : L.length ≤ 100000) :
    Calls Try.prog 8 #[.slice A1 L.length c1, .slice A2 L.length c2] w fun e w' => e = .returned (.bool true) ∧ ∃ n, w' = w.drewN n := by
  have H1 := Lib.hid h1
  have H2 := Lib.hid h2
  clear h1 h2
  go_enter Try.func8, Try.ntmps8
  go_wp2
  go_loopw [5] (fun i wr => ∃ (k n : Nat), k ≤ L.length ∧ i = .int .i64 k ∧ wr = w.drewN n) (fun i _ => L.length - (intOf i).toNat)
  case atStart => exact ⟨0, 0, Nat.zero_le _, rfl, rfl⟩
  case round =>
    obtain ⟨k, n, hk, rfl, rfl⟩ := hrel
    by_cases hlt : k < L.length
    · obtain ⟨g1, rfl, f1, a0, a1, a2, a3⟩ := H1.out k hlt
      obtain ⟨g2, rfl, f2, b0, b1, b2, b3⟩ := H2.out k hlt
      have hlt2 : (k : Int) < (L.length : Int) := by omega
      have p0 := fun N => (show (w.drewN N).cell? ⟨g1, k * 4, none⟩ = _ from a0)
      have p1 := fun N => (show (w.drewN N).cell? ⟨g1, k * 4 + 1, none⟩ = _ from a1)
      have p2 := fun N => (show (w.drewN N).cell? ⟨g1, k * 4 + 2, none⟩ = _ from a2)
      have p3 := fun N => (show (w.drewN N).cell? ⟨g1, k * 4 + 3, none⟩ = _ from a3)
      have q0 := fun N => (show (w.drewN N).cell? ⟨g2, k * 4, none⟩ = _ from b0)
      have q1 := fun N => (show (w.drewN N).cell? ⟨g2, k * 4 + 1, none⟩ = _ from b1)
      have q2 := fun N => (show (w.drewN N).cell? ⟨g2, k * 4 + 2, none⟩ = _ from b2)
      have q3 := fun N => (show (w.drewN N).cell? ⟨g2, k * 4 + 3, none⟩ = _ from b3)
      clear a0 a1 a2 a3 b0 b1 b2 b3
      generalize L[k] = q at *
      obtain ⟨x, y, z⟩ := q
      simp only at p0 p1 p2 p3 q0 q1 q2 q3
      go_wp2
      go_quiet (fail)
      go_wp2
      go_roundw
      case rel => exact ⟨k + 1, _, hlt, by go_num, rfl⟩
      case measure => simp [intOf]; omega
    · obtain rfl : k = L.length := by omega
      go_wp2
      go_ret
      exact ⟨rfl, n, rfl⟩
set_option maxHeartbeats 800000 in
set_option maxRecDepth 1000000 in
theorem ints_same {l : List Int} {B1 B2 c1 c2 : Nat} {A1 A2 : Option Addr} (w : World) (h1 : RdZ w B1 A1 c1 l) (h2 : RdZ w B2 A2 c2 l) :
    Calls Try.prog 9 #[.slice A1 l.length c1, .slice A2 l.length c2] w fun e w' => e = .returned (.bool true) ∧ ∃ n, w' = w.drewN n := by
  have hl := h1.len
  have H1 := Lib.hid h1
  have H2 := Lib.hid h2
  clear h1 h2
  go_enter Try.func9, Try.ntmps9
  go_wp2
  go_loopw [5] (fun i wr => ∃ (k n : Nat), k ≤ l.length ∧ i = .int .i64 k ∧ wr = w.drewN n) (fun i _ => l.length - (intOf i).toNat)
  case atStart => exact ⟨0, 0, Nat.zero_le _, rfl, rfl⟩
  case round =>
    obtain ⟨k, n, hk, rfl, rfl⟩ := hrel
    by_cases hlt : k < l.length
    · obtain ⟨b1, o1, rfl, _, x1⟩ := H1.out.at_ hlt
      obtain ⟨b2, o2, rfl, _, x2⟩ := H2.out.at_ hlt
      have hlt2 : (k : Int) < (l.length : Int) := by omega
      have y1 := fun N => (show (w.drewN N).cell? ⟨b1, o1 + k, none⟩ = _ from x1)
      have y2 := fun N => (show (w.drewN N).cell? ⟨b2, o2 + k, none⟩ = _ from x2)
      clear x1 x2
      generalize l[k] = q at *
      go_wp2
      go_quiet (fail)
      go_wp2
      go_roundw
      case rel => exact ⟨k + 1, _, hlt, by go_num, rfl⟩
      case measure => simp [intOf]; omega
    · have hkl : k = l.length := by omega
      subst hkl
      go_wp2
      go_ret
      exact ⟨rfl, n, rfl⟩

theorem rdk_lit {w : World} {g : Nat} (h : w.heap[g]? = some (.cells #[.int .i64 1, .int .i64 0, .int .i64 0, .int .i64 2, .int .i64 1, .int .i64 1, .int .i64 0, .int .i64 2, .int .i64 2, .int .i64 0, .int .i64 0, .int .i64 1] 40 (0, 0))) : RdK w (some ⟨g, 0, none⟩) [(1, 0, 2), (1, 1, 2), (2, 0, 1)] := by
  have hlt := lt_of_block h
  have c := fun j => cell_of_row w g j _ _ _ h
  intro k hk
  have : k = 0 ∨ k = 1 ∨ k = 2 := by simp at hk; omega
  rcases this with rfl | rfl | rfl <;> exact ⟨g, rfl, hlt, by rw [c]; rfl, by rw [c]; rfl, by rw [c]; rfl, by rw [c]; rfl⟩
theorem rdz_lit3 {w : World} {g : Nat} {x y z : Int} (h : w.heap[g]? = some (.cells #[.int .i64 x, .int .i64 y, .int .i64 z] 3 (0, 0))) : RdZ w (g + 1) (some ⟨g, 0, none⟩) 3 [x, y, z] := by
  have c := fun j => cell_of_row w g j _ _ _ h
  refine ⟨by simp, by unfold maxLen; omega, fun _ => ⟨g, 0, rfl, by omega, fun k hk => ?_⟩, fun a ha => by cases ha; exact ⟨_, _, rfl⟩⟩
  have : k = 0 ∨ k = 1 ∨ k = 2 := by simp at hk; omega
  rcases this with rfl | rfl | rfl
  · rw [c]; rfl
  · rw [c]; rfl
  · rw [c]; rfl
theorem aw46_m : coM 3 2 (dvN 2) = [(1, 0, 2), (1, 1, 2), (2, 0, 1)] := by decide +kernel
theorem aw46_f : coF 3 2 (-3) (dvN 2) = [1, 1, -1] := by decide +kernel
theorem aw46_c : ckV ((3 : Nat) : Int) 3 (-3) = 0 := by decide +kernel
set_option maxHeartbeats 3200000 in
set_option maxRecDepth 1000000 in
theorem awake46_any (w : World) : Calls Try.prog 5 #[] w fun e w' => e = .returned (.bool true) ∧ Below w.heap.size w w' := by
  have HC : Hid (∀ W : World, Calls Try.prog 6 #[.agg #[.int .i64 3, .int .i64 3, .int .i64 (-3)], .int .i64 2] W fun e w' => ∃ A1 c1 A2 c2, e = .returned (.tuple #[.slice A1 3 c1, .slice A2 3 c2, .int .i64 0]) ∧ RdK w' A1 [(1, 0, 2), (1, 1, 2), (2, 0, 1)] ∧ RdZ w' w'.heap.size A2 c2 [1, 1, -1] ∧ Below W.heap.size W w') := fun W => by
    have h := cosets_ok 3 2 3 (-3) W aw46_c (by omega) (by omega)
    rw [aw46_m, aw46_f] at h
    refine h.mono fun e w' ⟨A1, c1, A2, c2, he, hq⟩ => ?_
    obtain ⟨A9, c9, e9, hr⟩ := own_rdz hq.r2
    have e8 : Value.slice A2 3 c2 = .slice A9 3 c9 := e9
    injection e8 with e8 _ e7
    subst e8
    subst e7
    exact ⟨A1, c1, A2, c2, he, RdK.of hq.r1, hr, hq.bel⟩
  have HS : Hid (∀ (A1 A2 : Option Addr) (c1 c2 : Nat) (W : World), RdK W A1 [(1, 0, 2), (1, 1, 2), (2, 0, 1)] → RdK W A2 [(1, 0, 2), (1, 1, 2), (2, 0, 1)] → Calls Try.prog 8 #[.slice A1 3 c1, .slice A2 3 c2] W fun e w' => e = .returned (.bool true) ∧ Below W.heap.size W w') := fun A1 A2 c1 c2 W h1 h2 =>
    (msame_any (L := [(1, 0, 2), (1, 1, 2), (2, 0, 1)]) W h1 h2 (by simp)).mono fun e w' ⟨he, n, hd⟩ => ⟨he, by rw [hd]; exact below_drewN (Below.refl _ _) n⟩
  have HI : Hid (∀ (A1 A2 : Option Addr) (c1 c2 B1 B2 : Nat) (W : World), RdZ W B1 A1 c1 [1, 1, -1] → RdZ W B2 A2 c2 [1, 1, -1] → Calls Try.prog 9 #[.slice A1 3 c1, .slice A2 3 c2] W fun e w' => e = .returned (.bool true) ∧ Below W.heap.size W w') := fun A1 A2 c1 c2 B1 B2 W h1 h2 =>
    (ints_same (l := [1, 1, -1]) W h1 h2).mono fun e w' ⟨he, n, hd⟩ => ⟨he, by rw [hd]; exact below_drewN (Below.refl _ _) n⟩
  go_enter Try.func5, Try.ntmps5
  go_wp2_with (first
    | (go_at_call 6; ((with_reducible refine (HC.out _).mono ?_); rintro e w1 ⟨A1, c1, A2, c2, rfl, hk, hz, hb⟩; have K1 := Lib.hid hk; have Z1 := Lib.hid hz; have D1 := Lib.hid hb; clear hk hz hb))
    | (go_at_call 8; ((with_reducible refine (HS.out _ _ _ _ _ (K1.out.on (below1 w1 _)) (rdk_lit (heap_alloc_new w1 _))).mono ?_); rintro e w2 ⟨rfl, hb⟩; have D2 := Lib.hid ((below1 w1 _).trans (hb.mono (below1 w1 _).size)); clear hb))
    | (go_at_call 9; ((with_reducible refine (HI.out _ _ _ _ _ _ _ (Z1.out.below (D2.out.alloc D2.out.size _)) (rdz_lit3 (heap_alloc_new w2 _))).mono ?_); rintro e w3 ⟨rfl, hb⟩; have D3 := Lib.hid ((D2.out.alloc D2.out.size _).trans (hb.mono (D2.out.alloc D2.out.size _).size)); clear hb))
    | fail)
  go_ret
  exact ⟨by first | rfl | simp, D1.out.trans (D3.out.mono D1.out.size)⟩
end Go.Proofs.Ythkhdbngeifenaa
