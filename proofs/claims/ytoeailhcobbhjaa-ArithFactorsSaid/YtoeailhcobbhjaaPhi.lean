/- Contracts of arith's functions over a factorization. -/
import Derived.Test.YtoeailhcobbhjaaFac
namespace Go.Proofs.Ytoeailhcobbhjaa
open Go.RowKit

/-- Euler's function as the program computes it. -/
def phiStep (a : Nat) (p : Nat × Nat) : Nat := a - a / p.1
def phiOf (n : Nat) (F : List (Nat × Nat)) : Nat := F.foldl phiStep n

theorem flat_get (F : List (Nat × Nat)) (k : Nat) (h : k < F.length) : (flat F)[k * 2]? = some (.int .i64 (F[k].1 : Int)) ∧ (flat F)[k * 2 + 1]? = some (.int .i64 (F[k].2 : Int)) := by
  induction F generalizing k with
  | nil => simp at h
  | cons p l ih =>
    cases k with
    | zero => simp [flat]
    | succ k =>
      have := ih k (by simpa using h)
      rw [show (k + 1) * 2 = k * 2 + 1 + 1 by omega]
      simpa [flat] using this

theorem addr_add (g j : Nat) : (⟨g, 0, none⟩ : Addr).add j = ⟨g, j, none⟩ := by unfold Addr.add; split <;> simp_all
/-- A list of prime powers in memory: its slice value, and where its cells lie. -/
theorem own_shape {w : World} {base : Nat} {v : Value} {F : List (Nat × Nat)} (h : w.ownsRow base 43 2 v F.length (flat F)) :
    (F = [] ∧ v = .slice none 0 0) ∨ ∃ g cap, v = .slice (some ⟨g, 0, none⟩) F.length cap ∧ base ≤ g ∧ g < w.heap.size ∧ F.length ≤ cap ∧
      ∀ k (hk : k < F.length), w.cell? ⟨g, k * 2, none⟩ = some (.int .i64 (F[k].1 : Int)) ∧ w.cell? ⟨g, k * 2 + 1, none⟩ = some (.int .i64 (F[k].2 : Int)) := by
  rcases h.2 with ⟨rfl, hn⟩ | ⟨g, cap, cur, rfl, hb, hg, hn, hc, hs, ht⟩
  · exact .inl ⟨by simpa using hn, rfl⟩
  · refine .inr ⟨g, cap, rfl, hb, lt_of_block hg, hn, fun k hk => ?_⟩
    have hx := flat_get F k hk
    have c1 := h.cells (g := g) rfl _ _ hx.1
    have c2 := h.cells (g := g) rfl _ _ hx.2
    rw [addr_add] at c1 c2
    exact ⟨c1, c2⟩

theorem phiOf_le (F : List (Nat × Nat)) (n : Nat) : phiOf n F ≤ n := by
  induction F generalizing n with
  | nil => exact Nat.le_refl _
  | cons p l ih => exact Nat.le_trans (ih _) (Nat.sub_le _ _)
theorem foldl_take (F : List (Nat × Nat)) (f : Nat → Nat × Nat → Nat) (a k : Nat) (h : k < F.length) : (F.take (k + 1)).foldl f a = f ((F.take k).foldl f a) F[k] := by
  rw [List.take_succ_eq_append_getElem h, List.foldl_append]; rfl
theorem phi_cast (a p : Nat) : ((a : Int) - (a : Int) / (p : Int)) = ((a - a / p : Nat) : Int) := by
  have := Nat.div_le_self a p
  rw [← Int.natCast_ediv]; omega

set_option maxHeartbeats 800000 in
set_option maxRecDepth 1000000 in
theorem phi_F (n : Nat) (F : List (Nat × Nat)) (hF : Hid (facs 2 n = F)) (w : World) (hn : 1 ≤ n) (hn2 : (n : Int) ≤ 2147483647) (hp : ∀ k (hk : k < F.length), 1 ≤ F[k].1 ∧ (F[k].1 : Int) ≤ 2147483647) (hlen : (F.length : Int) ≤ 2147483647) :
    Calls Try.prog 30 #[.int .i64 n] w fun e w' => e = .returned (.tuple #[.int .i64 (phiOf n F : Int), .int .i64 0]) ∧ Below w.heap.size w w' := by
  have HC := Lib.hid (factor_any n w hn hn2)
  rw [hF.out] at HC
  have HP := Lib.hid hp
  clear hp
  go_enter Try.func30, Try.ntmps30
  go_wp2_with fail
  refine HC.out.mono ?_
  rintro e w1 ⟨v, rfl, hown, hb⟩
  have HB := Lib.hid hb
  have hsz := hb.size
  clear HC hb
  rcases own_shape hown with ⟨rfl, rfl⟩ | ⟨g, cap, rfl, hg, hgs, hcap, hcell⟩
  · clear hown
    go_wp2
    refine wp_loop_rounds 1 ?_
    rw [rounds_succ]
    go_wp2
    go_ret2
    exact ⟨rfl, HB.out⟩
  · have HL := Lib.hid hcell
    clear hcell hown
    go_wp2
    go_loopw [6, 8, 20] (fun P _ i wr => ∃ (k a : Nat), k ≤ F.length ∧ i = .int .i64 k ∧ P = .int .i64 a ∧ (a : Int) ≤ 2147483647 ∧ Hid (a = phiOf n (F.take k)) ∧ Below w1.heap.size w1 wr) (fun _ _ i _ => F.length - (intOf i).toNat)
    case atStart => exact ⟨0, n, Nat.zero_le _, rfl, rfl, hn2, rfl, Below.refl _ _⟩
    case round =>
      obtain ⟨k, a, hk, rfl, rfl, ha, HA, hbr⟩ := hrel
      have HBR := Lib.hid hbr
      have hsr := hbr.size
      clear hbr
      by_cases hlt : k < F.length
      · have c1 := (HBR.out.cell (p := ⟨g, k * 2, none⟩) hgs).trans (HL.out k hlt).1
        have c2 := (HBR.out.cell (p := ⟨g, k * 2 + 1, none⟩) hgs).trans (HL.out k hlt).2
        obtain ⟨p1, p2⟩ := HP.out k hlt
        have HA2 : Hid (a - a / F[k].1 = phiOf n (F.take (k + 1))) := by
          show _ = _
          unfold phiOf
          rw [foldl_take _ _ _ _ hlt, ← show phiOf n (F.take k) = (F.take k).foldl phiStep n from rfl, ← HA.out]
          rfl
        generalize F[k].1 = p at *
        generalize F[k].2 = q at *
        have hd1 : (a : Int) / (p : Int) ≤ a := by rw [← Int.natCast_ediv]; have := Nat.div_le_self a p; omega
        have hd2 : 0 ≤ (a : Int) / (p : Int) := Int.ediv_nonneg (by omega) (by omega)
        have hp1 : 1 ≤ (p : Int) := by omega
        go_wp2
        go_roundw
        case rel => exact ⟨k + 1, a - a / p, hlt, by go_num, congrArg _ (phi_cast a p), by omega, HA2, HBR.out.alloc hsr _⟩
        case measure => simp [intOf]; omega
      · have hkl : k = F.length := by omega
        subst hkl
        have HA2 : Hid (a = phiOf n F) := by
          have := HA.out
          rw [List.take_length] at this
          exact this
        clear HA
        obtain rfl : a = phiOf n F := HA2.out
        clear HA2
        go_wp2
        go_ret2
        exact ⟨rfl, HB.out.trans (HBR.out.mono hsz)⟩

end Go.Proofs.Ytoeailhcobbhjaa
