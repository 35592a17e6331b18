/- The contracts of the reference's Same, find, Index, Act. -/
import Derived.Test.YtgnekmaonnjfkaaRLstL
namespace Go.Proofs.Ytgnekmaonnjfkaa
open Go.RowKit
set_option linter.unusedVariables false

set_option maxHeartbeats 1600000 in
set_option maxRecDepth 1000000 in
theorem psame_any {l : List (Nat × Nat)} {B1 B2 c1 c2 : Nat} {A1 A2 : Option Addr} (w : World) (h1 : RdP w B1 A1 c1 l) (h2 : RdP w B2 A2 c2 l) :
    Calls Try.prog 18 #[.slice A1 l.length c1, .slice A2 l.length c2] w fun e w' => e = .returned (.bool true) ∧ ∃ n, w' = w.drewN n := by
  have hl := h1.len
  have H1 := Lib.hid h1
  have H2 := Lib.hid h2
  clear h1 h2
  go_enter Try.func18, Try.ntmps18
  go_wp2
  go_loopw [5] (fun i wr => ∃ (k n : Nat), k ≤ l.length ∧ i = .int .i64 k ∧ wr = w.drewN n) (fun i _ => l.length - (intOf i).toNat)
  case atStart => exact ⟨0, 0, Nat.zero_le _, rfl, rfl⟩
  case round =>
    obtain ⟨k, n, hk, rfl, rfl⟩ := hrel
    by_cases hlt : k < l.length
    · obtain ⟨b1, o1, rfl, _, x1, x3, x5⟩ := H1.out.at_ hlt
      obtain ⟨b2, o2, rfl, _, x2, x4, x6⟩ := H2.out.at_ hlt
      have hlt2 : (k : Int) < (l.length : Int) := by omega
      have y1 := fun N => (show (w.drewN N).cell? ⟨b1, o1 + k * 3, none⟩ = _ from x1)
      have y2 := fun N => (show (w.drewN N).cell? ⟨b2, o2 + k * 3, none⟩ = _ from x2)
      have y3 := fun N => (show (w.drewN N).cell? ⟨b1, o1 + k * 3 + 1, none⟩ = _ from x3)
      have y4 := fun N => (show (w.drewN N).cell? ⟨b2, o2 + k * 3 + 1, none⟩ = _ from x4)
      have y5 := fun N => (show (w.drewN N).cell? ⟨b1, o1 + k * 3 + 2, none⟩ = _ from x5)
      have y6 := fun N => (show (w.drewN N).cell? ⟨b2, o2 + k * 3 + 2, none⟩ = _ from x6)
      clear x1 x2 x3 x4 x5 x6
      generalize l[k].1 = q at *
      generalize l[k].2 = r at *
      go_wp2
      go_region
      go_wp2
      go_roundw
      case rel => exact ⟨k + 1, _, hlt, by go_num, rfl⟩
      case measure => simp [intOf]; omega
    · have hkl : k = l.length := by omega
      subst hkl
      go_wp2
      go_ret
      exact ⟨rfl, n, rfl⟩
set_option maxHeartbeats 3200000 in
set_option maxRecDepth 1000000 in
theorem rfind_any {B c : Nat} {A : Option Addr} {C : List (Nat × Nat)} {u v : Nat} (T : Int) (w : World) (hr : RdP w B A c C) (hB : B ≤ w.heap.size) (hm : (u, v) ∈ C) (hl : C.length ≤ 14400) :
    Calls Try.prog 41 #[.slice A C.length c, .agg #[.int .i64 (u : Int), .int .i64 (v : Int), .int .i64 T]] w fun e w' => e = .returned (.int .i64 (ix C u v)) ∧ Below w.heap.size w w' := by
  obtain ⟨hlt, hget⟩ := ix_get hm
  have HF : Hid (∀ (j : Nat) (hj : j < C.length), j < ix C u v → ¬ (C[j].1 = u ∧ C[j].2 = v)) := fun j hj h1 => ix_first hj h1
  have HG : Hid (∀ (hj : ix C u v < C.length), C[ix C u v].1 = u ∧ C[ix C u v].2 = v) := fun hj => by rw [hget]; exact ⟨rfl, rfl⟩
  have HT : Hid (Tri (w.alloc (.cells #[.int .i64 (u : Int), .int .i64 (v : Int), .int .i64 T] 24)) w.heap.size u v T) := Tri.at w rfl u v T
  have HR : Hid (RdP (w.alloc (.cells #[.int .i64 (u : Int), .int .i64 (v : Int), .int .i64 T] 24)) B A c C) := hr.below ((below1 w _).mono hB)
  have HB1 := Lib.hid (below1 w (.cells #[.int .i64 (u : Int), .int .i64 (v : Int), .int .i64 T] 24))
  clear hr hget hm
  obtain ⟨K, hK⟩ : ∃ K, K = ix C u v := ⟨_, rfl⟩
  rw [← hK] at HF HG hlt ⊢
  clear hK
  go_enter Try.func41, Try.ntmps41
  go_upto_region 2 with fail
  generalize w.alloc (.cells #[.int .i64 (u : Int), .int .i64 (v : Int), .int .i64 T] 24) = W0 at *
  go_loopw [5] (fun I wr => ∃ i q : Nat, I = .int .i64 i ∧ i ≤ K ∧ wr = W0.drewN q) (fun I _ => C.length - (intOf I).toNat)
  case atStart => exact ⟨0, 0, rfl, Nat.zero_le _, rfl⟩
  case round =>
    obtain ⟨i, q, rfl, hi, rfl⟩ := hrel
    have hil : i < C.length := by omega
    have hili : (i : Int) < (C.length : Int) := by omega
    obtain ⟨b, o, rfl, hb, x1, x2, _⟩ := HR.out.at_ hil
    obtain ⟨k1, k2, _⟩ := HT.out.cells
    have y1 := fun N => (show (W0.drewN N).cell? ⟨b, o + i * 3, none⟩ = _ from x1)
    have y2 := fun N => (show (W0.drewN N).cell? ⟨b, o + i * 3 + 1, none⟩ = _ from x2)
    have y3 := fun N => (show (W0.drewN N).cell? ⟨w.heap.size, 0, none⟩ = _ from k1)
    have y4 := fun N => (show (W0.drewN N).cell? ⟨w.heap.size, 1, none⟩ = _ from k2)
    clear x1 x2 k1 k2
    by_cases hiK : i < K
    · have hne := HF.out i hil hiK
      clear HF HG
      generalize C[i].1 = x at *
      generalize C[i].2 = y at *
      by_cases h1 : x = u
      · subst h1
        have hb1 : ((y : Int) == (v : Int)) = false := by rw [beq_eq_false_iff_ne]; intro e; exact hne ⟨rfl, by omega⟩
        clear hne
        go_wp2
        go_region
        go_wp2
        go_roundw
        case rel => exact ⟨i + 1, _, by go_num, by omega, rfl⟩
        case measure => simp [intOf]; omega
      · have hb1 : ((x : Int) == (u : Int)) = false := by rw [beq_eq_false_iff_ne]; omega
        clear hne h1
        go_wp2
        go_region
        go_wp2
        go_roundw
        case rel => exact ⟨i + 1, _, by go_num, by omega, rfl⟩
        case measure => simp [intOf]; omega
    · obtain rfl : i = K := by omega
      obtain ⟨e1, e2⟩ := HG.out hil
      clear HF HG
      generalize C[i].1 = x at *
      generalize C[i].2 = y at *
      subst e1 e2
      go_wp2
      go_region
      go_wp2
      go_ret
      exact ⟨rfl, below_drewN HB1.out _⟩
set_option maxHeartbeats 3200000 in
set_option maxRecDepth 1000000 in
theorem rindex_any (n c d : Int) (w : World) : Calls Try.prog 22 #[.int .i64 n, .int .i64 c, .int .i64 d] w (IdxRet n c d w) := by
  go_enter Try.func22, Try.ntmps22
  go_upto_region 2 with (first
    | (go_at_call 14; ((with_reducible refine (rnormal_any n c d _).mono ?_); rintro e w2 ⟨U, V, T, k, hE, rfl, hb⟩; have HE := Lib.hid hE; have HB2 := Lib.hid hb; clear hb hE))
    | fail)
  have hsz := HB2.out.size
  by_cases hk : k = 0
  case neg =>
    have HR : Hid (IdxE n c d 0 k) := .err U V T k HE.out hk
    clear HE
    go_wp2
    refine bodyPost_ret (v := .tuple #[.int .i64 0, .int .i64 k]) ?_ rfl ⟨_, _, HR.out, rfl, HB2.out.alloc hsz _⟩
    simp [results, Try.results22, go_sem, *]
  subst hk
  obtain ⟨m, u, v, rfl, m1, m2, hlv, rfl, rfl, hm, _, _⟩ := HE.out.mem
  have HR : Hid (IdxE m c d (ix (pts m) u v) 0) := by
    have := IdxE.yes u v T HE.out (by rw [ptI_yes hlv]; exact hm)
    rwa [ptI_yes hlv] at this
  have HL : Hid (∀ W, Calls Try.prog 17 #[.int .i64 (m : Int)] W fun e w' => ∃ A c, e = .returned (.tuple #[.slice A (pts m).length c, .int .i64 0]) ∧ RdP w' w'.heap.size A c (pts m) ∧ Below W.heap.size W w') := fun W => by
    have := rlist_any m W
    rwa [ptI_yes hlv, lvE_yes hlv] at this
  have hlen := pts_len m2
  have HM := Lib.hid hm
  clear HE hm hlv
  generalize pts m = C at *
  have T_0 : Hid (Tri (w2.alloc (.cells #[.int .i64 (u : Int), .int .i64 (v : Int), .int .i64 T] 24)) w2.heap.size u v T) := Tri.at w2 rfl u v T
  have HB3 := Lib.hid (HB2.out.alloc hsz (.cells #[.int .i64 (u : Int), .int .i64 (v : Int), .int .i64 T] 24))
  go_upto_region 4 with fail
  generalize w2.alloc (.cells #[.int .i64 (u : Int), .int .i64 (v : Int), .int .i64 T] 24) = W0 at *
  go_wp2_with (first
    | (go_at_call 17; ((with_reducible refine (HL.out _).mono ?_); rintro e w3 ⟨A, cc, rfl, hr, hb⟩; have T_1 := Lib.hid (T_0.out.below hb); have HB4 := Lib.hid (bel0 HB3.out hb); have HRd := Lib.hid hr; obtain ⟨k1, k2, k3⟩ := T_1.out.cells; clear hb hr))
    | (go_at_call 41; ((with_reducible refine (rfind_any T _ HRd.out (Nat.le_refl _) HM.out hlen).mono ?_); rintro e w4 ⟨rfl, hb⟩; have HB5 := Lib.hid (bel0 HB4.out hb); clear hb))
    | fail)
  refine bodyPost_ret (v := .tuple #[.int .i64 (ix C u v), .int .i64 0]) ?_ rfl ⟨_, _, HR.out, rfl, HB5.out⟩
  simp [results, Try.results22, go_sem, *]
end Go.Proofs.Ytgnekmaonnjfkaa
