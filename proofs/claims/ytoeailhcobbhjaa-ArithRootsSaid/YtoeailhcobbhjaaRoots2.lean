/- Contracts of PrimitiveRoot and of the reference's. -/
import Derived.Test.YtoeailhcobbhjaaRoots
namespace Go.Proofs.Ytoeailhcobbhjaa
open Go.RowKit

theorem checkPrime_yes (p : Nat) (w : World) (hp : Pr p) (hp2 : (p : Int) ≤ 2147483647) :
    Calls Try.prog 77 #[.int .i64 p] w fun e w' => e = .returned (.int .i64 0) ∧ w = w' :=
  checkPrime_any p 0 w (.inr ⟨⟨by have := hp.1; omega, hp2⟩, .inl ⟨by rwa [Int.toNat_natCast], rfl⟩⟩)
theorem prim_primes {p k : Nat} (hp : Pr p) (hp2 : (p : Int) ≤ 2147483647) (hk : k < (facs 2 (p - 1)).length) : 1 ≤ (facs 2 (p - 1))[k].1 ∧ ((facs 2 (p - 1))[k].1 : Int) ≤ 2147483647 := by
  have hp0 := hp.1
  have hF := facs_two_is (n := p - 1) (by omega)
  obtain ⟨_, _, _, _, s5, s6, _, _⟩ := fund_step hF hk
  omega

set_option maxHeartbeats 1600000 in
set_option maxRecDepth 1000000 in
theorem primRoot_any (p r : Nat) (w : World) (hp : Pr p) (hp2 : (p : Int) ≤ 2147483647) (hr : RootIs p r) :
    Calls Try.prog 53 #[.int .i64 p] w fun e w' => e = .returned (.tuple #[.int .i64 r, .int .i64 0]) ∧ Below w.heap.size w w' := by
  have hp0 := hp.1
  have HCP := Lib.hid (fun W => checkPrime_yes p W hp hp2)
  have hF := facs_two_is (n := p - 1) (by omega)
  have hpm : (((p - 1 : Nat) : Int)) = (p : Int) - 1 := by omega
  have hfa := fun W => factor_any (p - 1) W (by omega) (by omega)
  rw [hpm] at hfa
  have hlenI : ((facs 2 (p - 1)).length : Int) ≤ 2147483647 := by have := hF.len; omega
  have HQ : Hid (∀ k (_ : k < (facs 2 (p - 1)).length), 1 ≤ (facs 2 (p - 1))[k].1 ∧ ((facs 2 (p - 1))[k].1 : Int) ≤ 2147483647) := fun k hk => prim_primes hp hp2 hk
  have HT : Hid (∀ j, 1 ≤ j → j ≤ r → primB j p (facs 2 (p - 1)) = decide (j = r)) := fun j j1 j2 => by
    have hj : j < p := by have := hr.hi; omega
    rw [Bool.eq_iff_iff, primB_iff hp j1 hj, decide_eq_true_iff]
    constructor
    · intro h
      rcases Nat.lt_or_ge j r with h1 | h1
      · exact absurd h (hr.least j j1 h1)
      · omega
    · rintro rfl; exact hr.ord
  have hr1 := hr.lo
  have hr2 := hr.hi
  have HFA := Lib.hid hfa
  clear hfa hF hpm hr hp
  generalize facs 2 (p - 1) = F at *
  go_enter Try.func53, Try.ntmps53
  go_wp2_with (first
    | (go_at_call 77; ((with_reducible refine (HCP.out _).mono ?_); rintro e w' ⟨rfl, rfl⟩))
    | (go_at_call 25; fail))
  refine (HFA.out _).mono ?_
  rintro e w1 ⟨v, rfl, hown, hb⟩
  have HB := Lib.hid hb
  have hsz := hb.size
  clear HFA hb HCP
  rcases own_shape hown with ⟨rfl, rfl⟩ | ⟨g, cap, rfl, hg, hgs, hcap, hcell⟩
  · clear hown
    go_wp2
    go_loopw [7] (fun R wr => ∃ k : Nat, R = .int .i64 k ∧ 1 ≤ k ∧ k ≤ r ∧ Hid (Below w1.heap.size w1 wr)) (fun R _ => r - (intOf R).toNat)
    case atStart => exact ⟨1, rfl, by omega, hr1, Below.refl _ _⟩
    case round =>
      obtain ⟨k, rfl, k1, k2, HBR⟩ := hrel
      have hsr := HBR.out.size
      by_cases hkr : k = r
      · have HC : Hid (∀ W : World, Calls Try.prog 78 #[.int .i64 k, .int .i64 p, .slice none 0 0] W fun e w' => e = .returned (.bool true) ∧ Below W.heap.size W w') := fun W => by
          have := isPrim_nil k p W
          rwa [HT.out k k1 k2, decide_eq_true hkr] at this
        subst hkr
        go_wp2_with (go_at_call 78; ((with_reducible refine (HC.out _).mono ?_); rintro e w3 ⟨rfl, hb3⟩; have HB3 := Lib.hid (HB.out.trans ((HBR.out.trans (hb3.mono hsr)).mono hsz)); clear hb3))
        go_ret2
        exact ⟨rfl, HB3.out⟩
      · have HC : Hid (∀ W : World, Calls Try.prog 78 #[.int .i64 k, .int .i64 p, .slice none 0 0] W fun e w' => e = .returned (.bool false) ∧ Below W.heap.size W w') := fun W => by
          have := isPrim_nil k p W
          rwa [HT.out k k1 k2, decide_eq_false hkr] at this
        go_wp2_with (go_at_call 78; ((with_reducible refine (HC.out _).mono ?_); rintro e w3 ⟨rfl, hb3⟩; have HB3 := Lib.hid (HBR.out.trans (hb3.mono hsr)); clear hb3))
        go_roundw
        case rel => exact ⟨k + 1, by go_num, by omega, by omega, HB3.out⟩
        case measure => simp [intOf]; omega
  · have HL := Lib.hid hcell
    clear hcell hown
    go_wp2
    go_loopw [7] (fun R wr => ∃ k : Nat, R = .int .i64 k ∧ 1 ≤ k ∧ k ≤ r ∧ Hid (Below w1.heap.size w1 wr)) (fun R _ => r - (intOf R).toNat)
    case atStart => exact ⟨1, rfl, by omega, hr1, Below.refl _ _⟩
    case round =>
      obtain ⟨k, rfl, k1, k2, HBR⟩ := hrel
      have hsr := HBR.out.size
      have HL2 : Hid (∀ k (_ : k < F.length), wr.cell? ⟨g, k * 2, none⟩ = some (.int .i64 (F[k].1 : Int)) ∧ wr.cell? ⟨g, k * 2 + 1, none⟩ = some (.int .i64 (F[k].2 : Int))) := fun j hj =>
        ⟨(HBR.out.cell (p := ⟨g, j * 2, none⟩) hgs).trans (HL.out j hj).1, (HBR.out.cell (p := ⟨g, j * 2 + 1, none⟩) hgs).trans (HL.out j hj).2⟩
      have HC0 := Lib.hid (isPrim_any k p g cap F wr (by omega) (by omega) hp2 HQ hlenI (by omega) HL2)
      by_cases hkr : k = r
      · have HC : Hid (Calls Try.prog 78 #[.int .i64 k, .int .i64 p, .slice (some ⟨g, 0, none⟩) F.length cap] wr fun e w' => e = .returned (.bool true) ∧ Below wr.heap.size wr w') := by
          have := HC0.out
          rwa [HT.out k k1 k2, decide_eq_true hkr] at this
        clear HC0
        subst hkr
        go_wp2_with (go_at_call 78; ((with_reducible refine HC.out.mono ?_); rintro e w3 ⟨rfl, hb3⟩; have HB3 := Lib.hid (HB.out.trans ((HBR.out.trans (hb3.mono hsr)).mono hsz)); clear hb3))
        go_ret2
        exact ⟨rfl, HB3.out⟩
      · have HC : Hid (Calls Try.prog 78 #[.int .i64 k, .int .i64 p, .slice (some ⟨g, 0, none⟩) F.length cap] wr fun e w' => e = .returned (.bool false) ∧ Below wr.heap.size wr w') := by
          have := HC0.out
          rwa [HT.out k k1 k2, decide_eq_false hkr] at this
        clear HC0
        go_wp2_with (go_at_call 78; ((with_reducible refine HC.out.mono ?_); rintro e w3 ⟨rfl, hb3⟩; have HB3 := Lib.hid (HBR.out.trans (hb3.mono hsr)); clear hb3))
        go_roundw
        case rel => exact ⟨k + 1, by go_num, by omega, by omega, HB3.out⟩
        case measure => simp [intOf]; omega

set_option maxHeartbeats 1600000 in
set_option maxRecDepth 1000000 in
theorem refPrimRoot_any (p r : Nat) (w : World) (hp : Pr p) (hp2 : (p : Int) ≤ 2147483647) (hr : RootIs p r) :
    Calls Try.prog 55 #[.int .i64 p] w fun e w' => e = .returned (.int .i64 r) ∧ Below w.heap.size w w' := by
  have hp0 := hp.1
  have HO : Hid (∀ j : Nat, 1 ≤ j → j ≤ r → ∀ W : World, Calls Try.prog 48 #[.int .i64 j, .int .i64 p] W fun e w' => ∃ o : Int, e = .returned (.tuple #[.int .i64 o, .int .i64 0]) ∧ (o = (p : Int) - 1 ↔ j = r) ∧ Below W.heap.size W w') := fun j j1 j2 W =>
    (refOrder_any j p W (by omega) hp2).mono fun e w' ⟨o, e0, he, ho, hb⟩ => by
      have hj : j < p := by have := hr.hi; omega
      have hg : Int.gcd ((j : Int) % (p : Int)) p = 1 := by
        rw [Int.emod_eq_of_lt (by omega) (by omega)]
        have h1 := hp.coprime (x := j) (fun hd => not_dvd_small j1 hj (Int.ofNat_dvd.2 hd))
        rw [Nat.coprime_comm] at h1
        exact h1
      rcases ho with ⟨_, h2, x, hx, ho, _⟩ | ⟨h1, _⟩
      · refine ⟨o, by rw [he, h2], ?_, hb⟩
        constructor
        · intro h
          have hxp : x = p - 1 := by omega
          subst hxp
          rcases Nat.lt_or_ge j r with h1 | h1
          · exact absurd ho (hr.least j j1 h1)
          · omega
        · rintro rfl
          have := ho.unique hr.ord
          omega
      · exact absurd hg h1
  have hr1 := hr.lo
  have hr2 := hr.hi
  clear hr hp
  go_enter Try.func55, Try.ntmps55
  go_wp2
  go_loopw [3, 4, 5] (fun R _ _ wr => ∃ k : Nat, R = .int .i64 k ∧ 1 ≤ k ∧ k ≤ r ∧ Hid (Below w.heap.size w wr)) (fun R _ _ _ => r - (intOf R).toNat)
  case atStart => exact ⟨1, rfl, by omega, hr1, Below.refl _ _⟩
  case round =>
    obtain ⟨k, rfl, k1, k2, HBR⟩ := hrel
    have hsr := HBR.out.size
    have HC := Lib.hid (HO.out k k1 k2 wr)
    go_wp2_with fail
    refine HC.out.mono ?_
    rintro e w3 ⟨o, rfl, ho, hb3⟩
    have HB3 := Lib.hid (HBR.out.trans (hb3.mono hsr))
    clear hb3 HC HO
    by_cases hkr : k = r
    · obtain rfl := ho.2 hkr
      have hb1 : ((p : Int) - 1 == (p : Int) - 1) = true := by simp
      clear ho
      subst hkr
      go_wp2
      go_ret
      exact ⟨rfl, HB3.out⟩
    · have hb1 : (o == (p : Int) - 1) = false := by rw [beq_eq_false_iff_ne]; exact fun h => hkr (ho.1 h)
      clear ho
      go_wp2
      go_roundw
      case rel => exact ⟨k + 1, by go_num, by omega, by omega, HB3.out⟩
      case measure => simp [intOf]; omega
end Go.Proofs.Ytoeailhcobbhjaa
