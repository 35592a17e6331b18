/- The contract of halfplaneref03.Factor. -/
import Derived.Test.YtoeailhcobbhjaaFac
namespace Go.Proofs.Ytoeailhcobbhjaa
open Go.RowKit

/-- Behind the append of a prime power. -/
theorem fac_next {B : Nat} {w0 wr w3 : World} {v v' : Value} {L : List (Nat × Nat)} {d k : Nat} {o : Obj} (hown : wr.ownsRow B 43 2 v L.length (flat L)) (hb : Below B w0 wr) (hB : B ≤ wr.heap.size)
    (hown' : w3.ownsRow B 43 2 v' (L.length + 1) (flat L ++ [.int .i64 (d : Int), .int .i64 (k : Int)])) (hg : (wr.alloc o).grownBy w3 v.ownBlock) :
    w3.ownsRow B 43 2 v' (L ++ [(d, k)]).length (flat (L ++ [(d, k)])) ∧ Below B w0 w3 := by
  refine ⟨?_, (hb.alloc hB o).grown hg (by simp; omega) (fun j hj => (hown.lt j hj).1)⟩
  rw [flat_append, List.length_append]
  exact hown'

set_option maxHeartbeats 1600000 in
set_option maxRecDepth 1000000 in
theorem refFactor_any (n : Nat) (w : World) (hn : 1 ≤ n) (hn2 : (n : Int) ≤ 2147483647) :
    Calls Try.prog 28 #[.int .i64 n] w fun e w' => ∃ v, e = .returned v ∧ w'.ownsRow w.heap.size 43 2 v (facs 2 n).length (flat (facs 2 n)) ∧ Below w.heap.size w w' := by
  obtain ⟨i0, hi, hz0, hz1, hz2⟩ := info_parts Try.info43
  go_enter Try.func28, Try.ntmps28
  go_wp2
  go_loopw [0, 3, 4, 5] (fun N v D _ wr => ∃ (d r : Nat) (F : List (Nat × Nat)), N = .int .i64 r ∧ D = .int .i64 d ∧ 2 ≤ d ∧ (d : Int) ≤ 46341 ∧ 1 ≤ r ∧ (r : Int) ≤ 2147483647 ∧ Hid (F.length + 2 ≤ d) ∧ Hid (F ++ facs d r = facs 2 n) ∧ Hid (wr.ownsRow w.heap.size 43 2 v F.length (flat F)) ∧ Hid (Below w.heap.size w wr)) (fun _ _ D _ _ => 50000 - (intOf D).toNat)
  case atStart => exact ⟨2, n, [], rfl, rfl, by omega, by omega, hn, hn2, by show _ ≤ _; simp, rfl, World.ownsRow_nil _ _ _ _, Below.refl _ _⟩
  case round =>
    obtain ⟨d, r, F, rfl, rfl, hd, hd2, hr, hr2, HL, HF, HO, HB⟩ := hrel
    have hsz := HB.out.size
    have hdd : (d : Int) * (d : Int) ≤ 46341 * 46341 := Int.mul_le_mul hd2 hd2 (by omega) (by omega)
    have hdd0 : 0 ≤ (d : Int) * (d : Int) := Int.mul_nonneg (by omega) (by omega)
    by_cases hlt : d * d ≤ r
    · have hi2 : (d : Int) * (d : Int) ≤ (r : Int) := by rw [← Int.natCast_mul]; omega
      have hd3 : (d : Int) ≤ 46340 := by
        rcases Int.lt_or_le 46340 (d : Int) with h | h
        · have : (46341 : Int) * 46341 ≤ (d : Int) * (d : Int) := Int.mul_le_mul (by omega) (by omega) (by omega) (by omega)
          omega
        · exact h
      have HF2 : Hid (F ++ part d (strip r d r).1 ++ facs (d + 1) (strip r d r).2 = facs 2 n) := by
        show _ = _
        rw [List.append_assoc, ← facs_step hd hlt]; exact HF.out
      have HP := Lib.hid (strip_pos (f := r) (d := d) (r := r) hd hr)
      have HLE := Lib.hid (strip_le r d r).1
      have hd0 : 1 ≤ (d : Int) := by omega
      clear hlt
      go_wp2
      go_loopw [0, 5] (fun N K wi => ∃ (j f r' : Nat), N = .int .i64 r' ∧ K = .int .i64 j ∧ Hid (r' ≤ f) ∧ 1 ≤ r' ∧ j + r' ≤ r ∧ Hid (strip r d r = (j + (strip f d r').1, (strip f d r').2)) ∧ wi = wr) (fun _ K _ => r - (intOf K).toNat)
      case atStart => exact ⟨0, r, r, rfl, rfl, Nat.le_refl _, hr, by omega, by show _ = _; simp, rfl⟩
      case round =>
        obtain ⟨j, f, r', rfl, rfl, Hf, hr1, hjr, HS, rfl⟩ := hrel
        have hr3 : (r' : Int) ≤ 2147483647 := by omega
        by_cases hm : r' % d = 0
        · have HM := Lib.hid hm
          have hm2 : ((r' : Int) % (d : Int) == 0) = true := by rw [natmod_cast, hm]; rfl
          clear hm
          obtain ⟨f, rfl⟩ : ∃ f', f = f' + 1 := ⟨f - 1, by have := Hf.out; omega⟩
          have hq1 := div_one_le hd hr1 HM.out
          have HQ2 := Lib.hid (div_small (f := f) hd hr1 Hf.out)
          have hq3 : r' / d < r' := Nat.div_lt_self (by omega) (by omega)
          have HS2 : Hid (strip r d r = (j + 1 + (strip f d (r' / d)).1, (strip f d (r' / d)).2)) := by
            show _ = _
            rw [HS.out, strip_hit HM.out]
            simp; omega
          go_wp2
          go_roundw
          case rel => exact ⟨j + 1, f, r' / d, rfl, by go_num, HQ2.out, hq1, by omega, HS2, by first | rfl | trivial⟩
          case measure => simp [intOf]; omega
        · have HM := Lib.hid hm
          have hm2 : ((r' : Int) % (d : Int) == 0) = false := by rw [natmod_cast, beq_eq_false_iff_ne]; intro h; exact hm (Int.ofNat_eq_zero.1 h)
          clear hm
          have HS2 : Hid (strip r d r = (j, r')) := by
            show _ = _
            rw [HS.out]
            cases f with
            | zero => rfl
            | succ f => rw [strip_miss HM.out]; rfl
          clear HS
          rw [HS2.out] at HF2 HP HLE
          by_cases hj : j = 0
          · subst hj
            go_wp2
            go_roundw
            case rel =>
              refine ⟨d + 1, r', F, rfl, by go_num, by omega, by omega, HP.out, hr3, by have := HL.out; show _ ≤ _; omega, by have := HF2.out; show _ = _; simpa [part] using this, HO.out, HB.out⟩
            case measure => simp [intOf]; omega
          · have hj0 : 0 < (j : Int) := by omega
            have hown := HO.out
            have hF2 := HL.out
            go_wp2_with (at_builtin; (refine wpList_append_own _ rfl _ _ 38 rfl w.heap.size 43 i0 (.agg #[.int .i64 0, .int .i64 0]) 2 16 Try.underlying38 hi hz0 hz1 hz2 rfl (by decide) _ _ _ rfl (hown.alloc _) ⟨wr.heap.size, 0, none⟩ 1 1 [.int .i64 (d : Int), .int .i64 (j : Int)] rfl rfl (cell_two_new _ _ _ _) (fun x hx => by simp at hx; rcases hx with rfl | rfl <;> rfl) (by unfold maxLen; omega) (by omega) (by simp; omega) ?_); intro v' w3 hown' hgrow3 hnil3; have HR := Lib.hid (fac_next hown HB.out hsz hown' hgrow3); clear hown' hgrow3 hnil3 hown)
            go_roundw
            case rel =>
              have e : part d j = [(d, j)] := by simp [part]; omega
              refine ⟨d + 1, r', F ++ [(d, j)], rfl, by go_num, by omega, by omega, HP.out, hr3, by show _ ≤ _; simp; omega, by have := HF2.out; rwa [e] at this, HR.out.1, HR.out.2⟩
            case measure => simp [intOf]; omega
    · have hi2 : (r : Int) < (d : Int) * (d : Int) := by rw [← Int.natCast_mul]; omega
      have HF2 := Lib.hid HF.out
      rw [facs_big hlt] at HF2
      clear hlt
      have hF2 := HL.out
      by_cases hr1 : 1 < r
      · have HF3 : Hid (F ++ [(r, 1)] = facs 2 n) := by rw [if_pos hr1] at HF2; exact HF2
        have hown := HO.out
        go_wp2_with (at_builtin; (refine wpList_append_own _ rfl _ _ 38 rfl w.heap.size 43 i0 (.agg #[.int .i64 0, .int .i64 0]) 2 16 Try.underlying38 hi hz0 hz1 hz2 rfl (by decide) _ _ _ rfl (hown.alloc _) ⟨wr.heap.size, 0, none⟩ 1 1 [.int .i64 (r : Int), .int .i64 ((1 : Nat) : Int)] rfl rfl (cell_two_new _ _ _ _) (fun x hx => by simp at hx; rcases hx with rfl | rfl <;> rfl) (by unfold maxLen; omega) (by omega) (by simp; omega) ?_); intro v' w3 hown' hgrow3 hnil3; have HR := Lib.hid (fac_next hown HB.out hsz hown' hgrow3); clear hown' hgrow3 hnil3 hown)
        go_ret
        refine ⟨_, rfl, ?_, HR.out.2⟩
        have := HR.out.1
        rw [HF3.out] at this
        exact this
      · have HF3 : Hid (F = facs 2 n) := by rw [if_neg hr1, List.append_nil] at HF2; exact HF2
        go_wp2
        go_ret
        refine ⟨_, rfl, ?_, HB.out⟩
        have := HO.out
        rw [HF3.out] at this
        exact this
end Go.Proofs.Ytoeailhcobbhjaa
