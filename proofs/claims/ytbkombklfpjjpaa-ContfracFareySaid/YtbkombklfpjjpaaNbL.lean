/- The contract of the law's neighbours. -/
import Derived.Test.YtbkombklfpjjpaaListC
import Derived.Deep.QuietTactic
import Derived.BigQuiet
namespace Go.Proofs.Ytbkombklfpjjpaa
open Go.RowKit

/-- Consecutive cusps are Farey neighbours, and their numbers are in range. -/
structure Nbs (C : List (Int × Int)) : Prop where
  det : ∀ i (h : i + 1 < C.length), C[i].1 * C[i + 1].2 - C[i + 1].1 * C[i].2 = 1 ∨ C[i].1 * C[i + 1].2 - C[i + 1].1 * C[i].2 = -1
  rng : ∀ x ∈ C, inE x.1 = true ∧ inE x.2 = true
set_option maxHeartbeats 1600000 in
set_option maxRecDepth 1000000 in
theorem nbs_any {C : List (Int × Int)} {B c : Nat} {A : Option Addr} (w : World) (h1 : RdC w B A c C) (hn : Nbs C) :
    Calls Try.prog 24 #[.slice A C.length c] w fun e w' => e = .returned (.bool true) ∧ ∃ n, w' = w.drewN n := by
  have hl := h1.len
  have H1 := Lib.hid h1
  have H2 := Lib.hid hn
  clear h1 hn
  go_enter Try.func24, Try.ntmps24
  go_wp2
  go_loopw [3] (fun i wr => ∃ (k n : Nat) (z : Int), z = (k : Int) + 1 ∧ i = .int .i64 z ∧ wr = w.drewN n) (fun i _ => C.length + 1 - (intOf i).toNat)
  case atStart => exact ⟨0, 0, 1, rfl, rfl, rfl⟩
  case round =>
    obtain ⟨k, n, z, hz, rfl, rfl⟩ := hrel
    by_cases hlt : k + 1 < C.length
    · obtain ⟨b1, o1, rfl, _, x1, x2⟩ := H1.out.at_ (show k < C.length by omega)
      obtain ⟨b2, o2, e2, _, x3, x4⟩ := H1.out.at_ hlt
      cases e2
      have y1 := fun N => (show (w.drewN N).cell? ⟨b1, o1 + k * 2, none⟩ = _ from x1)
      have y2 := fun N => (show (w.drewN N).cell? ⟨b1, o1 + k * 2 + 1, none⟩ = _ from x2)
      have y3 := fun N => (show (w.drewN N).cell? ⟨b1, o1 + (k + 1) * 2, none⟩ = _ from x3)
      have y4 := fun N => (show (w.drewN N).cell? ⟨b1, o1 + (k + 1) * 2 + 1, none⟩ = _ from x4)
      clear x1 x2 x3 x4
      have hd := H2.out.det k hlt
      obtain ⟨r1, r2⟩ := H2.out.rng C[k] (List.getElem_mem _)
      obtain ⟨r3, r4⟩ := H2.out.rng C[k + 1] (List.getElem_mem _)
      generalize C[k].1 = P at *
      generalize C[k].2 = Q at *
      generalize C[k + 1].1 = R at *
      generalize C[k + 1].2 = S at *
      obtain ⟨p1, p2⟩ := inE_iff.1 r1
      obtain ⟨q1, q2⟩ := inE_iff.1 r2
      obtain ⟨s1, s2⟩ := inE_iff.1 r3
      obtain ⟨t1, t2⟩ := inE_iff.1 r4
      obtain ⟨m1, m2⟩ := prod_le p1 p2 t1 t2
      obtain ⟨m3, m4⟩ := prod_le s1 s2 q1 q2
      have h1 : z < (C.length : Int) := by omega
      have h2 : 0 ≤ z := by omega
      have h3 : 0 ≤ z - 1 := by omega
      have h4 : z - 1 < (C.length : Int) := by omega
      have h7 : z ≤ 9223372036854775807 := by omega
      have h5 : z.toNat = k + 1 := by omega
      have h6 : (z - 1).toNat = k := by omega
      have HZ := Lib.hid hz
      clear hz r1 r2 r3 r4 p1 p2 q1 q2 s1 s2 t1 t2
      rcases hd with hd | hd
      all_goals
        go_wp2
        go_quiet (fail)
        go_wp2
        go_roundw
        case rel => exact ⟨k + 1, n + nq, z + 1, by have := HZ.out; omega, rfl, by first | rfl | exact World.drewN_drewN w n nq⟩
        case measure => have := HZ.out; simp [intOf]; omega
    · have hk : (C.length : Int) ≤ z := by omega
      go_wp2
      go_ret
      exact ⟨rfl, n, rfl⟩
end Go.Proofs.Ytbkombklfpjjpaa
