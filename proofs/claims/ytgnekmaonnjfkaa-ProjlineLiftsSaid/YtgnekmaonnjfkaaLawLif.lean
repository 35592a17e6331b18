/- ProjlineLifts answers true for all integers. -/
import Derived.Test.YtgnekmaonnjfkaaLawMov
import Derived.Test.YtgnekmaonnjfkaaRLftL
namespace Go.Proofs.Ytgnekmaonnjfkaa
open Go.RowKit
set_option linter.unusedVariables false

theorem idx01_ok {n i e : Int} (hlv : lvB n = true) (h : IdxE n 0 1 i e) : e = 0 := by
  cases h with
  | yes _ _ _ _ _ => rfl
  | err U V T _ hN he =>
    exfalso
    have b1 : inE 0 = true := inE_yes (by decide) (by decide)
    have b2 : inE 1 = true := inE_yes (by decide) (by decide)
    cases hN with
    | out h => rw [hlv, b1, b2] at h; simp at h
    | cop _ _ _ _ hg => exact hg (by rw [Int.gcd_zero_left]; exact Int.gcd_one_left n)
    | yes _ _ _ _ _ _ _ _ _ => exact he rfl
theorem lift_det {a u v : Int} (u1 : 1 ≤ u) (h : LeastInv v u a) : a * v - (a * v - 1) / u * u = 1 := by
  have hd : u ∣ a * v - 1 := by rw [Int.mul_comm]; exact h.dvd
  rw [Int.ediv_mul_cancel hd]; omega
/-- What a lift that succeeds is. -/
theorem LftE.ok {n i a b c d : Int} (h : LftE n i a b c d 0) : fitB a b c d = true ∧ a * d - b * c = 1 ∧ ∀ ki e, IdxE n 0 1 ki e → e = 0 ∧ ∀ j e', ActE n ki a b c d j e' → e' = 0 ∧ j = i := by
  have hmain : ∀ (k u v : Nat), n = k → 1 ≤ k → (k : Int) ≤ 120 → lvB n = true → 0 ≤ i → (pts k)[i.toNat]? = some (u, v) → fitB a b c d = true → a * d - b * c = 1 →
      (∀ u0 v0 x y T T', NF k 0 1 u0 v0 T → NF k (u0 * a + v0 * c) (u0 * b + v0 * d) x y T' → x = u ∧ y = v) →
      ∀ ki e, IdxE n 0 1 ki e → e = 0 ∧ ∀ j e', ActE n ki a b c d j e' → e' = 0 ∧ j = i := by
    rintro k u v rfl k1 k2 hlv hi hget hf hdet himg ki e hE
    have he := idx01_ok hlv hE
    subst he
    refine ⟨rfl, fun j e' hA => ?_⟩
    obtain ⟨k', u0, v0, T, hk, _, _, _, h0, hmem, hki⟩ := idx01 hE
    obtain rfl : k = k' := by omega
    have hg : Int.gcd (a * d - b * c) k = 1 := by rw [hdet]; exact Int.gcd_one_left _
    rcases ActE.make hlv (by rw [hki]; omega) (by rw [hki, Int.toNat_natCast]; exact ix_some hmem) hf hA with ⟨g, _⟩ | ⟨_, rfl, x, y, T', hN, hxy, rfl⟩
    · exact absurd hg g
    · obtain ⟨e1, e2⟩ := himg _ _ _ _ _ _ h0 hN
      obtain rfl : x = u := by omega
      obtain rfl : y = v := by omega
      obtain ⟨_, hix, _⟩ := get_ix hget
      exact ⟨rfl, by rw [hix]; omega⟩
  generalize hz : (0 : Int) = z at h
  cases h with
  | out _ => exact absurd hz (by decide)
  | zero v h1 h2 h3 =>
    obtain ⟨k, rfl, k1, k2⟩ := lv_nat h1
    rw [ptI_yes h1] at h3
    refine ⟨by decide +kernel, by decide, hmain k 0 v rfl k1 k2 h1 h2 h3 (by decide +kernel) (by decide) fun u0 v0 x y T T' h0 hN => ?_⟩
    obtain ⟨hm, _, _⟩ := get_ix h3
    obtain ⟨hp, hc⟩ := pt_nf hm
    have hv : Int.gcd (v : Int) k = 1 := by
      have := cop3_gcd hc
      rw [show ((0 : Nat) : Int) = 0 from rfl, Int.gcd_zero_left] at this
      rw [show ((v : Int).natAbs : Int) = v by omega] at this
      exact this
    obtain ⟨e1, e2⟩ := NF.orbit (c' := ((0 : Nat) : Int)) (d' := (v : Int)) hv ⟨0, by omega⟩ ⟨0, by omega⟩ h0 hp
    subst e1 e2
    rw [Int.mul_one, Int.mul_zero, Int.add_zero, Int.mul_zero, Int.mul_one, Int.zero_add] at hN
    obtain ⟨f1, f2, _⟩ := hN.unique hc hp
    exact ⟨f1, f2⟩
  | yes u v a h1 h2 h3 h4 h5 =>
    obtain ⟨k, rfl, k1, k2⟩ := lv_nat h1
    rw [ptI_yes h1] at h3
    obtain ⟨hm, _, _⟩ := get_ix h3
    obtain ⟨hp, hc⟩ := pt_nf hm
    obtain ⟨g1, g2, _⟩ := mem_pts.1 hm
    have u1 : 1 ≤ (u : Int) := by omega
    obtain ⟨p0, p1, p2, p3, p4⟩ := lift_bd u1 (by omega) (by omega) (by omega) h5
    have a0 := h5.lo
    have a1 := h5.hi
    have hf : fitB a ((a * v - 1) / u) u v = true := fitB_iff.2 (by omega)
    have hdet := lift_det u1 h5
    exact ⟨hf, hdet, hmain k u v rfl k1 k2 h1 h2 h3 hf hdet fun u0 v0 x y T T' h0 hN => img_row h0 hN hp⟩
set_option maxHeartbeats 6400000 in
set_option maxRecDepth 1000000 in
theorem lifts_walk (n i : Int) (w : World) :
    Calls Try.prog 11 #[.int .i64 n, .int .i64 i] w fun e w' => e = .returned (.bool true) ∧ Below w.heap.size w w' := by
  go_enter Try.func11, Try.ntmps11
  go_upto_region 5 with (first
    | (go_at_call 12; ((with_reducible refine (awake_any _).mono ?_); rintro e w1 ⟨rfl, hb⟩; have HB1 := Lib.hid hb; clear hb))
    | (go_at_call 28; ((with_reducible refine (plift_any n i _).mono ?_); rintro e w2 ⟨a, b, c, d, k, hE, rfl, hb⟩; have HE := Lib.hid hE; have HB2 := Lib.hid (bel0 HB1.out hb); clear hb hE))
    | (go_at_call 29; ((with_reducible refine (rlift_any n i _).mono ?_); rintro e w3 ⟨a', b', c', d', k', hE, rfl, hb⟩; obtain ⟨rfl, rfl, rfl, rfl, rfl⟩ := hE.unique HE.out; have HF3 : Hid (Four w3 w2.heap.size a' b' c' d') := (Four.at w2 rfl a' b' c' d').below hb; have HB3 := Lib.hid (bel1 HB2.out hb); clear hb hE; have hz3 := HF3.out.lt; obtain ⟨k1, k2, k3, k4⟩ := HF3.out.cells))
    | fail)
  have hsz := HB3.out.size
  by_cases hk : k' = 0
  case neg =>
    clear HE
    go_wp2
    go_ret
    exact ⟨rfl, HB3.out.alloc hsz _⟩
  subst hk
  obtain ⟨hf, hdet, hix⟩ := HE.out.ok
  have HX := Lib.hid hix
  have HCk := Lib.hid (fun W => check_any a' b' c' d' W)
  have hck : chkI a' b' c' d' = 0 := by
    rcases chk_cases a' b' c' d' with ⟨h, _⟩ | ⟨_, _, k⟩ | ⟨_, h1, _⟩
    · rw [hf] at h; cases h
    · exact k
    · exact absurd hdet h1
  rw [hck] at HCk
  clear HE hf hdet hck hix
  have HF4 := Lib.hid (HF3.out.alloc (.cells #[.int .i64 a', .int .i64 b', .int .i64 c', .int .i64 d'] 49))
  have HB4 := Lib.hid (HB3.out.alloc hsz (.cells #[.int .i64 a', .int .i64 b', .int .i64 c', .int .i64 d'] 49))
  go_upto_region 9 with fail
  generalize w3.alloc (.cells #[.int .i64 a', .int .i64 b', .int .i64 c', .int .i64 d'] 49) = W4 at *
  clear k1 k2 k3 k4 HF3
  go_upto_region 11 with (first
    | (go_at_call 19; ((with_reducible refine (pindex_any n 0 1 _).mono ?_); rintro e w5 ⟨ki, e5, hE, rfl, hb⟩; obtain ⟨rfl, hact⟩ := HX.out ki e5 hE; have HA := Lib.hid hact; have HF5 := Lib.hid (HF4.out.below hb); have HB5 := Lib.hid (bel0 HB4.out hb); clear hb hE hact; have hz5 := HF5.out.lt; obtain ⟨k1, k2, k3, k4⟩ := HF5.out.cells))
    | (go_at_call 23; ((with_reducible refine (pact_any n ki a' b' c' d' _).mono ?_); rintro e w6 ⟨j, e6, hE, rfl, hb⟩; have HJ := Lib.hid (HA.out j e6 hE); have HF6 := Lib.hid (HF5.out.below hb); have HB6 := Lib.hid (bel0 HB5.out hb); clear hb hE k1 k2 k3 k4 hz5; have hz5 := HF6.out.lt; obtain ⟨k1, k2, k3, k4⟩ := HF6.out.cells))
    | fail)
  obtain ⟨rfl, rfl⟩ := HJ.out
  go_wp2_with (first
    | (go_at_call 26; ((with_reducible refine (HCk.out _).mono ?_); rintro e w7 ⟨rfl, hb⟩; have HB7 := Lib.hid (bel0 HB6.out hb); clear hb))
    | fail)
  go_ret
  exact ⟨rfl, HB7.out⟩
end Go.Proofs.Ytgnekmaonnjfkaa
