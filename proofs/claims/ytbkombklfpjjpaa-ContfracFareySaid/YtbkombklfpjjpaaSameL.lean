/- The comparison of two lists of cusps. -/
import Derived.Test.YtbkombklfpjjpaaListC
namespace Go.Proofs.Ytbkombklfpjjpaa
open Go.RowKit

set_option maxHeartbeats 1600000 in
set_option maxRecDepth 1000000 in
theorem same_any {l : List (Int × Int)} {B1 B2 c1 c2 : Nat} {A1 A2 : Option Addr} (w : World) (h1 : RdC w B1 A1 c1 l) (h2 : RdC w B2 A2 c2 l) :
    Calls Try.prog 20 #[.slice A1 l.length c1, .slice A2 l.length c2] w fun e w' => e = .returned (.bool true) ∧ ∃ n, w' = w.drewN n := by
  have hl := h1.len
  have H1 := Lib.hid h1
  have H2 := Lib.hid h2
  clear h1 h2
  go_enter Try.func20, Try.ntmps20
  go_wp2
  go_loopw [5] (fun i wr => ∃ (k n : Nat), k ≤ l.length ∧ i = .int .i64 k ∧ wr = w.drewN n) (fun i _ => l.length - (intOf i).toNat)
  case atStart => exact ⟨0, 0, Nat.zero_le _, rfl, rfl⟩
  case round =>
    obtain ⟨k, n, hk, rfl, rfl⟩ := hrel
    by_cases hlt : k < l.length
    · obtain ⟨b1, o1, rfl, _, x1, x3⟩ := H1.out.at_ hlt
      obtain ⟨b2, o2, rfl, _, x2, x4⟩ := H2.out.at_ hlt
      have hlt2 : (k : Int) < (l.length : Int) := by omega
      have y1 := fun N => (show (w.drewN N).cell? ⟨b1, o1 + k * 2, none⟩ = _ from x1)
      have y2 := fun N => (show (w.drewN N).cell? ⟨b2, o2 + k * 2, none⟩ = _ from x2)
      have y3 := fun N => (show (w.drewN N).cell? ⟨b1, o1 + k * 2 + 1, none⟩ = _ from x3)
      have y4 := fun N => (show (w.drewN N).cell? ⟨b2, o2 + k * 2 + 1, none⟩ = _ from x4)
      clear x1 x2 x3 x4
      generalize l[k].1 = q at *
      generalize l[k].2 = r at *
      go_wp2
      go_region
      go_wp2
      go_roundw
      case rel => exact ⟨k + 1, _, hlt, by go_num, rfl⟩
      case measure => simp [intOf]; omega
    · have hkl : k = l.length := by omega
      subst hkl
      go_wp2
      go_ret
      exact ⟨rfl, n, rfl⟩
end Go.Proofs.Ytbkombklfpjjpaa
