/- The contract of Farey. -/
import Derived.Test.YtbkombklfpjjpaaListC
import Derived.Test.YtbkombklfpjjpaaFarM
import Derived.Test.YtbkombklfpjjpaaPathL
import Derived.Test.YtbkombklfpjjpaaChnL
import Derived.Deep.Cut
import Derived.WalkSmall
namespace Go.Proofs.Ytbkombklfpjjpaa
open Go.RowKit

theorem fchk_at {f : Nat} {n a b c d : Int} (h : fchk f n a b c d = true) : ∃ g, f = g + 1 ∧ (0 ≤ a ∧ a ≤ 60 ∧ 1 ≤ b ∧ b ≤ 60) ∧
    ((a < b → (0 ≤ c ∧ c ≤ 60 ∧ 1 ≤ d ∧ d ≤ 60) ∧ fchk g n c d ((n + b) / d * c - a) ((n + b) / d * d - b) = true ∧ fgo f n a b c d = (c, d) :: fgo g n c d ((n + b) / d * c - a) ((n + b) / d * d - b)) ∧ (¬ a < b → fgo f n a b c d = [])) := by
  cases f with
  | zero => cases h
  | succ g =>
    unfold fchk at h
    rw [Bool.and_eq_true, decide_eq_true_eq] at h
    refine ⟨g, rfl, h.1, fun hab => ?_, fun hab => if_neg hab⟩
    have h2 := h.2
    rw [if_pos hab, Bool.and_eq_true, decide_eq_true_eq] at h2
    exact ⟨h2.1, h2.2, if_pos hab⟩
/-- On the way: the last element a and the next one b in their boxes, the list above. -/
structure FS (w0 wr : World) (v : Value) (a b c d : Int) (C : List (Int × Int)) : Prop where
  ba : wr.heap[w0.heap.size]? = some (.cells #[.int .i64 a, .int .i64 b] 23 (0, 0))
  bb : wr.heap[w0.heap.size + 1]? = some (.cells #[.int .i64 c, .int .i64 d] 23 (0, 0))
  own : wr.ownsRow (w0.heap.size + 2) 23 2 v C.length (cs C)
  bel : Below w0.heap.size w0 wr
theorem FS.size {w0 wr : World} {v : Value} {a b c d : Int} {C : List (Int × Int)} (h : FS w0 wr v a b c d C) : w0.heap.size + 2 ≤ wr.heap.size := lt_of_block h.bb
theorem FS.set {w0 wr : World} {v : Value} {a b c d : Int} {C : List (Int × Int)} (h : FS w0 wr v a b c d C) (x y z t : Int) :
    FS w0 ((((wr.setCell ⟨w0.heap.size, 0, none⟩ (.int .i64 x)).setCell ⟨w0.heap.size, 1, none⟩ (.int .i64 y)).setCell ⟨w0.heap.size + 1, 0, none⟩ (.int .i64 z)).setCell ⟨w0.heap.size + 1, 1, none⟩ (.int .i64 t)) v x y z t C := by
  refine ⟨set_ne (set_ne (two_set1 (two_set0 h.ba _) _) (by omega) _) (by omega) _, two_set1 (two_set0 (set_ne (set_ne h.bb (by omega) _) (by omega) _) _) _, ?_, ?_⟩
  · exact own_set (own_set (own_set (own_set h.own (by omega) _) (by omega) _) (by omega) _) (by omega) _
  · exact below_set2 (below_set2 h.bel (Nat.le_refl _) _ _) (by omega) _ _
theorem FS.drew {w0 wr : World} {v : Value} {a b c d : Int} {C : List (Int × Int)} (h : FS w0 wr v a b c d C) : FS w0 wr.drew v a b c d C :=
  ⟨h.ba, h.bb, own_low h.own fun _ _ => rfl, h.bel.drew⟩
theorem FS.app {w0 wr w3 : World} {v v' : Value} {a b c d x y : Int} {C : List (Int × Int)} {o : Obj} (h : FS w0 wr v a b c d C)
    (hown' : w3.ownsRow (w0.heap.size + 2) 23 2 v' (C.length + 1) (cs C ++ [.int .i64 x, .int .i64 y])) (hg : (wr.alloc o).grownBy w3 v.ownBlock) : FS w0 w3 v' a b c d (C ++ [(x, y)]) := by
  have h1 := h.size
  exact ⟨block_grown h.ba h.own (by omega) hg, block_grown h.bb h.own (by omega) hg, by rw [List.length_append, cs_append]; exact hown', below_app h.bel (by omega) h.own (by omega) hg⟩
/-- The length of a slice value. -/
def sliceLen : Value → Nat
  | .slice _ n _ => n
  | _ => 0
theorem FS.start (w : World) (n : Int) : FS w (((w.alloc (.cells #[.int .i64 0, .int .i64 1] 23)).alloc (.cells #[.int .i64 1, .int .i64 n] 23)).alloc (.cells #[.int .i64 0, .int .i64 1] 23)) (.slice (some ⟨w.heap.size + 1 + 1, 0, none⟩) 1 1) 0 1 1 n [(0, 1)] := by
  refine ⟨block_alloc (block_alloc (heap_alloc_new w _) _) _, block_alloc ?_ _, ?_, below3 _ _ _ _⟩
  · have := heap_alloc_new (w.alloc (.cells #[.int .i64 0, .int .i64 1] 23)) (.cells #[.int .i64 1, .int .i64 n] 23)
    rwa [World.size_alloc] at this
  · have := World.ownsRow_lit (e := 23) (base := w.heap.size + 2) (size := 2) ((w.alloc (.cells #[.int .i64 0, .int .i64 1] 23)).alloc (.cells #[.int .i64 1, .int .i64 n] 23)) #[.int .i64 0, .int .i64 1] 1 (by simp) (by unfold maxLen; omega) rfl
    rw [World.size_alloc, World.size_alloc] at this
    exact this
set_option maxHeartbeats 6400000 in
set_option maxRecDepth 1000000 in
theorem farey_any (n : Int) (w : World) (n1 : 1 ≤ n) (n2 : n ≤ 60) (hZ : (far n).length ≤ 1201) (hc : fchk 1200 n 0 1 1 n = true) :
    Calls Try.prog 35 #[.int .i64 n] w (CusTup w 0 (far n)) := by
  obtain ⟨i0, hi, z0, z1, z2⟩ := info_parts Try.infoCusp
  have HF : Hid (fchk 1200 n 0 1 1 n = true ∧ [(0, 1)] ++ fgo 1200 n 0 1 1 n = far n) := ⟨hc, rfl⟩
  clear hc
  generalize far n = Z at *
  have d1 : decide (n < 1) = false := by simp; omega
  have d2 : decide (60 < n) = false := by simp; omega
  go_enter Try.func35, Try.ntmps35
  go_wp2
  go_loopw [6] (fun v wr => ∃ (A : Option Addr) (k : Nat) (a b c d : Int) (C : List (Int × Int)) (f : Nat), v = .slice A C.length k ∧ C.length ≤ Z.length ∧ Hid (fchk f n a b c d = true ∧ C ++ fgo f n a b c d = Z) ∧ Hid (FS w wr v a b c d C)) (fun v _ => Z.length - sliceLen v)
  case atStart => exact ⟨_, _, 0, 1, 1, n, [(0, 1)], 1200, rfl, by rw [← HF.out.2]; simp, HF.out, FS.start w n⟩
  case round =>
    obtain ⟨A, k, a, b, c, d, C, f, rfl, hCZ, HV, HS⟩ := hrel
    obtain ⟨g, rfl, ⟨a1, a2, b1, b2⟩, hyes, hno⟩ := fchk_at HV.out.1
    obtain ⟨⟨u0, u1⟩, uf⟩ := two_of_block HS.out.ba
    obtain ⟨⟨v0, v1⟩, vf⟩ := two_of_block HS.out.bb
    have hsz := HS.out.size
    by_cases hab : a < b
    · obtain ⟨⟨c1, c2, e1, e2⟩, h3, h4⟩ := hyes hab
      have hk1 : 0 ≤ (n + b) / d := Int.ediv_nonneg (by omega) (by omega)
      have hk2 : (n + b) / d ≤ 120 := Int.le_trans (Int.ediv_le_self d (by omega)) (by omega)
      have m1 : 0 ≤ (n + b) / d * c := Int.mul_nonneg hk1 c1
      have m2 : (n + b) / d * c ≤ 120 * 60 := Int.mul_le_mul hk2 c2 c1 (by omega)
      have m3 : 0 ≤ (n + b) / d * d := Int.mul_nonneg hk1 (by omega)
      have m4 : (n + b) / d * d ≤ 120 * 60 := Int.mul_le_mul hk2 e2 (by omega) (by omega)
      have HV2 : Hid (fchk g n c d ((n + b) / d * c - a) ((n + b) / d * d - b) = true ∧ (C ++ [(c, d)]) ++ fgo g n c d ((n + b) / d * c - a) ((n + b) / d * d - b) = Z) := ⟨h3, by have := HV.out.2; rw [h4] at this; rw [← this]; simp⟩
      have hC1 : C.length + 1 ≤ Z.length := by rw [← HV2.out.2]; simp
      clear hyes hno h3 h4 HV
      go_upto_region 7 with fail
      go_region
      have HS2 := Lib.hid (HS.out.set c d ((n + b) / d * c - a) ((n + b) / d * d - b)).drew
      obtain ⟨W2, hW2⟩ : ∃ W2, W2 = ((((wr.setCell ⟨w.heap.size, 0, none⟩ (.int .i64 c)).setCell ⟨w.heap.size, 1, none⟩ (.int .i64 d)).setCell ⟨w.heap.size + 1, 0, none⟩ (.int .i64 ((n + b) / d * c - a))).setCell ⟨w.heap.size + 1, 1, none⟩ (.int .i64 ((n + b) / d * d - b))).drew := ⟨_, rfl⟩
      rw [← hW2] at HS2 ⊢
      clear hW2 u0 u1 uf v0 v1 vf HS hsz m1 m2 m3 m4 hk1 hk2
      obtain ⟨⟨u0, u1⟩, uf⟩ := two_of_block HS2.out.ba
      have hown := HS2.out.own
      have hsz := HS2.out.size
      go_wp2_with (first
        | (at_builtin; (refine wpList_append_own _ rfl _ _ 35 rfl (w.heap.size + 2) 23 i0 (.agg #[.int .i64 0, .int .i64 0]) 2 16 Try.underlying35 hi z0 z1 z2 rfl (by decide) _ _ _ rfl (hown.alloc _) ⟨W2.heap.size, 0, none⟩ 1 1 [.int .i64 c, .int .i64 d] rfl rfl (cell_two_new _ _ _ _) (fun x hx => by simp at hx; rcases hx with hx | hx <;> (rw [hx]; rfl)) (by unfold maxLen; omega) (by omega) (by simp; omega) ?_); intro v' w3 hown' hgrow3 hnil3; obtain ⟨A', k', rfl⟩ := own_len hown'; have HR := Lib.hid (HS2.out.app hown' hgrow3); clear hown' hgrow3 hnil3)
        | fail)
      go_roundw
      case rel => exact ⟨A', k', c, d, _, _, C ++ [(c, d)], g, by rw [List.length_append]; rfl, by rw [List.length_append]; exact hC1, HV2.out, HR.out⟩
      case measure => simp [sliceLen]; omega
    · have e1 := Lib.hid (hno hab)
      have hba : b ≤ a := by omega
      clear hyes hno hab
      go_wp2
      have eC : C = Z := by
        have := HV.out.2
        rw [e1.out, List.append_nil] at this
        exact this
      subst eC
      refine bodyPost_ret (v := .tuple #[.slice A C.length k, .int .i64 0]) ?_ rfl ⟨A, k, rfl, own_base (by omega) HS.out.own, HS.out.bel⟩
      simp [results, Try.results35, go_sem, *]
end Go.Proofs.Ytbkombklfpjjpaa
