/- The contract of areElements. -/
import Derived.Test.YtbkombklfpjjpaaListL
import Derived.Test.YtbkombklfpjjpaaEntL
import Derived.Test.YtbkombklfpjjpaaCvM
namespace Go.Proofs.Ytbkombklfpjjpaa
open Go.RowKit

set_option maxHeartbeats 1600000 in
set_option maxRecDepth 1000000 in
theorem areElements_any {l : List Int} {B c : Nat} {A : Option Addr} (w : World) (h1 : RdZ w B A c l) :
    Calls Try.prog 39 #[.slice A l.length c] w fun e w' => e = .returned (.bool (elB l)) ∧ ∃ n, w' = w.drewN n := by
  have hl := h1.len
  have H1 := Lib.hid h1
  clear h1
  rcases Nat.lt_or_ge 64 l.length with h64 | h64
  · rw [elB_long h64]
    have hd : (64 : Int) < (l.length : Int) := by omega
    go_enter Try.func39, Try.ntmps39
    go_wp2
    go_ret
    exact ⟨rfl, 0, rfl⟩
  have hd : (l.length : Int) ≤ 64 := by omega
  go_enter Try.func39, Try.ntmps39
  go_wp2
  go_loopw [10, 3, 4] (fun i _ _ wr => ∃ (k n : Nat), k ≤ l.length ∧ i = .int .i64 k ∧ Hid (ElK l k) ∧ wr = w.drewN n) (fun i _ _ _ => l.length - (intOf i).toNat)
  case atStart => exact ⟨0, 0, Nat.zero_le _, rfl, fun j _ h => by omega, rfl⟩
  case round =>
    obtain ⟨k, n, hk, rfl, HK, rfl⟩ := hrel
    by_cases hlt : k < l.length
    · obtain ⟨b1, o1, rfl, _, x1⟩ := H1.out.at_ hlt
      have hlt2 : (k : Int) < (l.length : Int) := by omega
      have y1 := fun N => (show (w.drewN N).cell? ⟨b1, o1 + k, none⟩ = _ from x1)
      clear x1
      have HN := Lib.hid (HK.out.next hlt)
      have HF := Lib.hid (elB_at hlt)
      generalize l[k] = q at *
      rcases Int.lt_or_le q (-1073741824) with a1 | a1
      · have e1 := Lib.hid (HF.out (by rw [inE_no (n := q) (.inl a1)]; simp))
        go_wp2
        refine bodyPost_ret (v := .bool false) ?_ rfl ⟨by rw [e1.out], _, rfl⟩
        simp [results, Try.results39, go_sem, *]
      rcases Int.lt_or_le 1073741824 q with a2 | a2
      · have e1 := Lib.hid (HF.out (by rw [inE_no (n := q) (.inr a2)]; simp))
        go_wp2
        refine bodyPost_ret (v := .bool false) ?_ rfl ⟨by rw [e1.out], _, rfl⟩
        simp [results, Try.results39, go_sem, *]
      have hi := inE_yes a1 a2
      by_cases hk0 : k = 0
      · have HN2 := Lib.hid (HN.out hi (fun h => absurd hk0 (by omega)))
        have hk1 : (k : Int) ≤ 0 := by omega
        clear HN HF hi hk0
        go_wp2
        go_roundw
        case rel => exact ⟨k + 1, _, hlt, by go_num, HN2.out, rfl⟩
        case measure => simp [intOf]; omega
      have hk1 : (0 : Int) < (k : Int) := by omega
      rcases Int.lt_or_le q 1 with a3 | a3
      · have e1 := Lib.hid (HF.out (fun h => by have := h.2 (by omega); omega))
        clear HN HF hi
        go_wp2
        refine bodyPost_ret (v := .bool false) ?_ rfl ⟨by rw [e1.out], _, rfl⟩
        simp [results, Try.results39, go_sem, *]
      · have HN2 := Lib.hid (HN.out hi (fun _ => a3))
        clear HN HF hi
        go_wp2
        go_roundw
        case rel => exact ⟨k + 1, _, hlt, by go_num, HN2.out, rfl⟩
        case measure => simp [intOf]; omega
    · have hkl : k = l.length := by omega
      subst hkl
      have e1 := Lib.hid (elB_yes h64 HK.out)
      go_wp2
      refine bodyPost_ret (v := .bool true) ?_ rfl ⟨by rw [e1.out], n, rfl⟩
      simp [results, Try.results39, go_sem, *]
end Go.Proofs.Ytbkombklfpjjpaa
