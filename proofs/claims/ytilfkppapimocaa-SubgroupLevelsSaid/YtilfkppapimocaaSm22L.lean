/- The comparison of two coset actions that are equal. -/
import Derived.Test.YtilfkppapimocaaListL
import Derived.Test.YtilfkppapimocaaBoxL
import Derived.Test.YtilfkppapimocaaLawK
namespace Go.Proofs.Ytilfkppapimocaa
open Go.RowKit
set_option linter.unusedVariables false
set_option linter.unusedSimpArgs false

set_option maxHeartbeats 3200000 in
set_option maxRecDepth 1000000 in
theorem same22 {S T : List Int} {B : Nat} {A1 A2 A3 A4 : Option Addr} {c1 c2 c3 c4 : Nat} (w : World) (hB : B ≤ w.heap.size) (h1 : RdZ w B A1 c1 S) (h2 : RdZ w B A2 c2 T) (h3 : RdZ w B A3 c3 S) (h4 : RdZ w B A4 c4 T) :
    Calls Try.prog 27 #[.agg #[.slice A1 S.length c1, .slice A2 T.length c2], .agg #[.slice A3 S.length c3, .slice A4 T.length c4]] w fun e w' => e = .returned (.bool true) ∧ Below w.heap.size w w' := by
  have hlS := h1.len
  have hlT := h2.len
  have hb2 : Below B w ((w.alloc (.cells #[.slice A1 S.length c1, .slice A2 T.length c2] 47)).alloc (.cells #[.slice A3 S.length c3, .slice A4 T.length c4] 47)) := (below2 w _ _).mono hB
  have H1 := Lib.hid (h1.below hb2)
  have H2 := Lib.hid (h2.below hb2)
  have H3 := Lib.hid (h3.below hb2)
  have H4 := Lib.hid (h4.below hb2)
  have T1 : Hid (((w.alloc (.cells #[.slice A1 S.length c1, .slice A2 T.length c2] 47)).alloc (.cells #[.slice A3 S.length c3, .slice A4 T.length c4] 47)).heap[w.heap.size]? = some (.cells #[.slice A1 S.length c1, .slice A2 T.length c2] 47 (0, 0))) := block_alloc (heap_alloc_new w _) _
  have T2 : Hid (((w.alloc (.cells #[.slice A1 S.length c1, .slice A2 T.length c2] 47)).alloc (.cells #[.slice A3 S.length c3, .slice A4 T.length c4] 47)).heap[w.heap.size + 1]? = some (.cells #[.slice A3 S.length c3, .slice A4 T.length c4] 47 (0, 0))) := by
    have := heap_alloc_new (w.alloc (.cells #[.slice A1 S.length c1, .slice A2 T.length c2] 47)) (.cells #[.slice A3 S.length c3, .slice A4 T.length c4] 47)
    show _ = _
    simpa using this
  clear h1 h2 h3 h4 hb2
  go_enter Try.func27, Try.ntmps27
  go_wp2
  obtain ⟨⟨t1, t2⟩, _⟩ := two_of_block T1.out
  obtain ⟨⟨t3, t4⟩, _⟩ := two_of_block T2.out
  have b1 := fun N => (show (((w.alloc (.cells #[.slice A1 S.length c1, .slice A2 T.length c2] 47)).alloc (.cells #[.slice A3 S.length c3, .slice A4 T.length c4] 47)).drewN N).cell? ⟨w.heap.size, 0, none⟩ = _ from t1)
  have b2 := fun N => (show (((w.alloc (.cells #[.slice A1 S.length c1, .slice A2 T.length c2] 47)).alloc (.cells #[.slice A3 S.length c3, .slice A4 T.length c4] 47)).drewN N).cell? ⟨w.heap.size, 1, none⟩ = _ from t2)
  have b3 := fun N => (show (((w.alloc (.cells #[.slice A1 S.length c1, .slice A2 T.length c2] 47)).alloc (.cells #[.slice A3 S.length c3, .slice A4 T.length c4] 47)).drewN N).cell? ⟨w.heap.size + 1, 0, none⟩ = _ from t3)
  have b4 := fun N => (show (((w.alloc (.cells #[.slice A1 S.length c1, .slice A2 T.length c2] 47)).alloc (.cells #[.slice A3 S.length c3, .slice A4 T.length c4] 47)).drewN N).cell? ⟨w.heap.size + 1, 1, none⟩ = _ from t4)
  clear t1 t2 t3 t4
  go_loopw [5] (fun i wr => ∃ (k n : Nat), k ≤ S.length ∧ i = .int .i64 k ∧ wr = ((w.alloc (.cells #[.slice A1 S.length c1, .slice A2 T.length c2] 47)).alloc (.cells #[.slice A3 S.length c3, .slice A4 T.length c4] 47)).drewN n) (fun i _ => S.length - (intOf i).toNat)
  case atStart => exact ⟨0, 0, Nat.zero_le _, rfl, rfl⟩
  case round =>
    obtain ⟨k, n, hk, rfl, rfl⟩ := hrel
    by_cases hlt : k < S.length
    · obtain ⟨g1, o1, e1, _, x1⟩ := H1.out.at_ hlt
      obtain ⟨g3, o3, e3, _, x3⟩ := H3.out.at_ hlt
      have hlt2 : (k : Int) < (S.length : Int) := by omega
      have y1 := fun N => (show (((w.alloc (.cells #[.slice A1 S.length c1, .slice A2 T.length c2] 47)).alloc (.cells #[.slice A3 S.length c3, .slice A4 T.length c4] 47)).drewN N).cell? ⟨g1, o1 + k, none⟩ = _ from x1)
      have y3 := fun N => (show (((w.alloc (.cells #[.slice A1 S.length c1, .slice A2 T.length c2] 47)).alloc (.cells #[.slice A3 S.length c3, .slice A4 T.length c4] 47)).drewN N).cell? ⟨g3, o3 + k, none⟩ = _ from x3)
      clear x1 x3
      subst e1 e3
      generalize S[k] = q at *
      go_wp2
      go_region
      go_wp2
      go_roundw
      case rel => exact ⟨k + 1, _, hlt, by go_num, rfl⟩
      case measure => simp [intOf]; omega
    · obtain rfl : k = S.length := by omega
      have hk3 : ¬ (S.length : Int) < (S.length : Int) := by omega
      go_wp2
      go_loopw [6] (fun i wr => ∃ (k n : Nat), k ≤ T.length ∧ i = .int .i64 k ∧ wr = ((w.alloc (.cells #[.slice A1 S.length c1, .slice A2 T.length c2] 47)).alloc (.cells #[.slice A3 S.length c3, .slice A4 T.length c4] 47)).drewN n) (fun i _ => T.length - (intOf i).toNat)
      case atStart => exact ⟨0, _, Nat.zero_le _, rfl, rfl⟩
      case round =>
        obtain ⟨k, n, hk, rfl, rfl⟩ := hrel
        by_cases hlt : k < T.length
        · obtain ⟨g1, o1, e1, _, x1⟩ := H2.out.at_ hlt
          obtain ⟨g3, o3, e3, _, x3⟩ := H4.out.at_ hlt
          have hlt2 : (k : Int) < (T.length : Int) := by omega
          have y1 := fun N => (show (((w.alloc (.cells #[.slice A1 S.length c1, .slice A2 T.length c2] 47)).alloc (.cells #[.slice A3 S.length c3, .slice A4 T.length c4] 47)).drewN N).cell? ⟨g1, o1 + k, none⟩ = _ from x1)
          have y3 := fun N => (show (((w.alloc (.cells #[.slice A1 S.length c1, .slice A2 T.length c2] 47)).alloc (.cells #[.slice A3 S.length c3, .slice A4 T.length c4] 47)).drewN N).cell? ⟨g3, o3 + k, none⟩ = _ from x3)
          clear x1 x3
          subst e1 e3
          generalize T[k] = q at *
          go_wp2
          go_region
          go_wp2
          go_roundw
          case rel => exact ⟨k + 1, _, hlt, by go_num, rfl⟩
          case measure => simp [intOf]; omega
        · obtain rfl : k = T.length := by omega
          have hk4 : ¬ (T.length : Int) < (T.length : Int) := by omega
          go_wp2
          go_ret
          exact ⟨rfl, below_drewN (below2 w _ _) _⟩
end Go.Proofs.Ytilfkppapimocaa
