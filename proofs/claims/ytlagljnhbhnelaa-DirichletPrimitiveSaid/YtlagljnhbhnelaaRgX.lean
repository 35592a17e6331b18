/- The reference's generators: plain mathematics, decided for n to 60. The reference's prime, orderOf, Phi, both. The reference's generators: the walk. -/
import Derived.Test.YtlagljnhbhnelaaGnG
import Derived.Test.YtlagljnhbhnelaaOrdX
import Derived.Test.YtlagljnhbhnelaaRtX
namespace Go.Proofs.Ytlagljnhbhnelaa
set_option linter.unusedVariables false

def rpB (p : Nat) : Bool := (List.range (p - 2)).all fun i => decide (p % (i + 2) ≠ 0)
def rqF (n p : Nat) : Nat → Nat → Nat
  | 0, q => q
  | f + 1, q => if n % (q * p) = 0 then rqF n p f (q * p) else q
/-- The power of p in n. -/
def rqV (n p : Nat) : Nat := if rpB p = true then rqF n p 6 1 else 1
def gnR (n p : Nat) : List (Nat × Nat) :=
  if rqV n p = 1 ∨ rqV n p = 2 then [] else if 2 < p then [(crV n (rqV n p) (rootV (rqV n p) : Nat), phV (rqV n p))] else if rqV n p = 4 then [(crV n (rqV n p) 3, 2)] else [(crV n (rqV n p) (-1), 2), (crV n (rqV n p) 5, rqV n p / 4)]
def rgF (n : Nat) : Nat → List (Nat × Nat)
  | 0 => []
  | t + 1 => rgF n t ++ gnR n (t + 2)
/-- orderOf's loop. -/
def roF (a n : Nat) : Nat → Nat → Nat → Option Nat
  | f, x, k => if x = 1 % n then some k else match f with
    | 0 => none
    | f + 1 => roF a n f (x * a % n) (k + 1)
/-- Phi's loop. -/
def phR (q : Nat) : Nat → Nat
  | 0 => 0
  | t + 1 => if Nat.gcd (t + 1) q = 1 then phR q t + 1 else phR q t
theorem phR_le (q : Nat) : ∀ t, phR q t ≤ t
  | 0 => Nat.le_refl _
  | t + 1 => by
    unfold phR
    have := phR_le q t
    split <;> omega
def rpR (q p : Nat) : Bool := decide (1 ≤ rootV q) && decide (rootV q ≤ 60) && (List.range (rootV q)).all fun i =>
  if Nat.gcd (i + 1) p = 1 then (match roF (i + 1) q 60 ((i + 1) % q) 1 with
    | some k => decide (k = phV q ↔ i + 1 = rootV q)
    | none => false) else decide (i + 1 ≠ rootV q)
def rgP (n p : Nat) : Bool :=
  let q := rqV n p
  decide (q = 1 ∨ q = 2) || (decide (1 ≤ q) && decide (q ≤ 60) && decide (phR q q = phV q) && (if 2 < p then rpR q p && crOk n q (rootV q : Nat) else if q = 4 then crOk n q 3 else decide (4 < q) && crOk n q (-1) && crOk n q 5))
def rgOk (n : Nat) : Bool := decide (rgF n (n - 1) = gensV n) && (List.range (n - 1)).all fun t => rgP n (t + 2)
set_option maxRecDepth 100000 in
theorem rg_all : (List.range 60).all (fun i => rgOk (i + 1)) = true := by decide +kernel
structure RgP (n p : Nat) : Prop where
  q1 : 1 ≤ rqV n p
  q2 : rqV n p ≤ 60
  ph : phR (rqV n p) (rqV n p) = phV (rqV n p)
  r1 : 2 < p → 1 ≤ rootV (rqV n p) ∧ rootV (rqV n p) ≤ 60
  rt : 2 < p → ∀ r, 1 ≤ r → r ≤ rootV (rqV n p) → Nat.gcd r p = 1 → ∃ k, roF r (rqV n p) 60 (r % rqV n p) 1 = some k ∧ (k = phV (rqV n p) ↔ r = rootV (rqV n p))
  rn : 2 < p → Nat.gcd (rootV (rqV n p)) p = 1
  odd : 2 < p → CrF n (rqV n p) (rootV (rqV n p) : Nat)
  four : ¬ 2 < p → rqV n p = 4 → CrF n (rqV n p) 3
  big : ¬ 2 < p → rqV n p ≠ 4 → CrF n (rqV n p) (-1) ∧ CrF n (rqV n p) 5
theorem rg_of {n : Nat} (n1 : 1 ≤ n) (n2 : n ≤ 60) : rgF n (n - 1) = gensV n ∧ ∀ p, 2 ≤ p → p ≤ n → rqV n p ≠ 1 → rqV n p ≠ 2 → RgP n p := by
  have h := List.all_eq_true.1 rg_all (n - 1) (List.mem_range.2 (by omega))
  rw [show n - 1 + 1 = n by omega] at h
  unfold rgOk at h
  rw [Bool.and_eq_true, decide_eq_true_eq] at h
  refine ⟨h.1, fun p p1 p2 h1 h2 => ?_⟩
  have h3 := List.all_eq_true.1 h.2 (p - 2) (List.mem_range.2 (by omega))
  rw [show p - 2 + 2 = p by omega] at h3
  unfold rgP at h3
  simp only [Bool.or_eq_true, Bool.and_eq_true, decide_eq_true_eq] at h3
  rcases h3 with h3 | ⟨⟨⟨a, b⟩, c⟩, d⟩
  · omega
  · by_cases hp : 2 < p
    · rw [if_pos hp, Bool.and_eq_true] at d
      obtain ⟨d1, d2⟩ := d
      unfold rpR at d1
      rw [Bool.and_eq_true, Bool.and_eq_true, decide_eq_true_eq, decide_eq_true_eq] at d1
      obtain ⟨⟨e1, e2⟩, e3⟩ := d1
      refine ⟨a, b, c, fun _ => ⟨e1, e2⟩, fun _ r r1 r2 hg => ?_, fun _ => ?_, fun _ => cr_of n1 n2 d2, fun h => absurd hp h, fun h => absurd hp h⟩
      · have e4 := List.all_eq_true.1 e3 (r - 1) (List.mem_range.2 (by omega))
        rw [show r - 1 + 1 = r by omega, if_pos hg] at e4
        cases hr : roF r (rqV n p) 60 (r % rqV n p) 1 with
        | none => rw [hr] at e4; cases e4
        | some k => rw [hr, decide_eq_true_eq] at e4; exact ⟨k, rfl, e4⟩
      · have e4 := List.all_eq_true.1 e3 (rootV (rqV n p) - 1) (List.mem_range.2 (by omega))
        rw [show rootV (rqV n p) - 1 + 1 = rootV (rqV n p) by omega] at e4
        by_cases hg : Nat.gcd (rootV (rqV n p)) p = 1
        · exact hg
        · rw [if_neg hg, decide_eq_true_eq] at e4; exact absurd rfl e4
    · rw [if_neg hp] at d
      refine ⟨a, b, c, fun h => absurd h hp, fun h => absurd h hp, fun h => absurd h hp, fun h => absurd h hp, fun _ h4 => ?_, fun _ h4 => ?_⟩
      · rw [if_pos h4] at d; exact cr_of n1 n2 d
      · rw [if_neg h4, Bool.and_eq_true, Bool.and_eq_true] at d
        exact ⟨cr_of n1 n2 d.1.2, cr_of n1 n2 d.2⟩
theorem gnR_len (n p : Nat) : (gnR n p).length ≤ 2 := by
  unfold gnR
  split
  · simp
  · split
    · simp
    · split <;> simp
theorem rgF_len (n : Nat) : ∀ t, (rgF n t).length ≤ 2 * t
  | 0 => by simp [rgF]
  | t + 1 => by
    have h1 := rgF_len n t
    have h2 := gnR_len n (t + 2)
    show (rgF n t ++ gnR n (t + 2)).length ≤ _
    rw [List.length_append]; omega
/-- The search of both finds the number of the two congruences. -/
theorem CrF.least {n q : Nat} {a : Int} (h : CrF n q a) : ∀ x, x < crV n q a → ¬ ((q : Int) ∣ (x : Int) - a ∧ ((n / q : Nat) : Int) ∣ (x : Int) - 1) := by
  intro x hx ⟨h1, h2⟩
  have hxn : x < n := Nat.lt_trans hx h.x
  unfold crV at hx
  have hlt : ∀ (m : Nat) (P : Nat → Bool) (y : Nat), P y = true → y < m → ((List.range m).find? P).getD 0 ≤ y := by
    intro m P y hy hym
    cases hf : (List.range m).find? P with
    | none => exact absurd hy (by simpa using List.find?_eq_none.1 hf y (List.mem_range.2 hym))
    | some z =>
      rw [List.find?_range_eq_some] at hf
      show z ≤ y
      exact Nat.le_of_not_lt fun hc => by have := hf.2.2 y hc; rw [hy] at this; simp at this
  have h3 := hlt n (fun (x : Nat) => decide ((q : Int) ∣ (x : Int) - a) && decide (((n / q : Nat) : Int) ∣ (x : Int) - 1)) x (by show (decide _ && decide _) = true; rw [Bool.and_eq_true, decide_eq_true_eq, decide_eq_true_eq]; exact ⟨h1, h2⟩) hxn
  omega
end Go.Proofs.Ytlagljnhbhnelaa
namespace Go.Proofs.Ytlagljnhbhnelaa
open Go.RowKit
set_option linter.unusedVariables false
set_option linter.unusedSimpArgs false

set_option maxHeartbeats 1600000 in
set_option maxRecDepth 1000000 in
theorem rprime_any (p : Nat) (w : World) (p1 : 2 ≤ p) (p2 : (p : Int) ≤ 60) : Calls Try.prog 48 #[.int .i64 (p : Int)] w fun e w' => e = .returned (.bool (rpB p)) ∧ w = w' := by
  have HV : Hid (rpB p = (List.range (p - 2)).all fun i => decide (p % (i + 2) ≠ 0)) := rfl
  generalize rpB p = R at *
  go_enter Try.func48, Try.ntmps48
  go_wp2
  go_loopw [3] (fun I wr => ∃ t : Nat, I = .int .i64 ((t + 2 : Nat) : Int) ∧ t + 2 ≤ p ∧ Hid (∀ j, j < t → p % (j + 2) ≠ 0) ∧ wr = w) (fun I _ => p - (intOf I).toNat)
  case atStart => exact ⟨0, rfl, by omega, (fun j hj => by omega), rfl⟩
  case round =>
    obtain ⟨t, rfl, ht, HN, rfl⟩ := hrel
    obtain ⟨u, hu⟩ : ∃ u, u = t + 2 := ⟨_, rfl⟩
    have HU := Lib.hid hu
    rw [← hu] at ht ⊢
    have hu2 : 2 ≤ u := by omega
    clear hu
    have htm : Int.tmod (p : Int) (u : Int) = ((p % u : Nat) : Int) := (Int.ofNat_tmod _ _).symm
    have hem : (p : Int) % (u : Int) = ((p % u : Nat) : Int) := (Int.natCast_emod _ _).symm
    have u0 : ((u : Int) == 0) = false := by rw [beq_eq_false_iff_ne]; omega
    have u0' : ¬ ((u : Int) = 0) := by omega
    have u0'' : ¬ (u = 0) := by omega
    have hle : p % u ≤ p := Nat.mod_le _ _
    by_cases hup : u < p
    · have hupi : (u : Int) < (p : Int) := by omega
      by_cases hz : p % u = 0
      · have HR : Hid (R = false) := by
          show _ = _
          rw [HV.out, Bool.eq_false_iff]
          intro hc
          have := List.all_eq_true.1 hc t (List.mem_range.2 (by have := HU.out; omega))
          rw [decide_eq_true_eq] at this
          have hu := HU.out
          rw [hu] at hz; exact this hz
        rw [hz] at htm hem
        clear hz hle
        go_wp2
        go_ret
        exact ⟨by rw [HR.out]; rfl, rfl⟩
      · have hne : (((p % u : Nat) : Int) == 0) = false := by rw [beq_eq_false_iff_ne]; omega
        have HN2 : Hid (∀ j, j < t + 1 → p % (j + 2) ≠ 0) := fun j hj => by
          by_cases e : j = t
          · subst e; have hu := HU.out; rw [← hu]; exact hz
          · exact HN.out j (by omega)
        clear hz
        generalize p % u = z at *
        have hwz : IntKind.i64.wrap (z : Int) = (z : Int) := IntWalk.i64_in _ (by omega)
        go_wp2
        go_roundw
        case rel => exact ⟨t + 1, by have := HU.out; go_num, by have := HU.out; omega, HN2.out, trivial⟩
        case measure => simp [intOf]; omega
    · have hupi : ¬ (u : Int) < (p : Int) := by omega
      have HR : Hid (R = true) := by
        show _ = _
        rw [HV.out]
        refine List.all_eq_true.2 fun j hj => ?_
        rw [List.mem_range] at hj
        exact decide_eq_true (HN.out j (by have := HU.out; omega))
      clear hle
      go_wp2
      go_ret
      exact ⟨by rw [HR.out]; rfl, rfl⟩
theorem roF_stop {a n f x k : Nat} (h : x = 1 % n) : roF a n f x k = some k := by unfold roF; rw [if_pos h]
theorem roF_go {a n f x k R : Nat} (h : x ≠ 1 % n) (hr : roF a n f x k = some R) : ∃ f', f = f' + 1 ∧ roF a n f' (x * a % n) (k + 1) = some R := by
  rcases f with _ | f
  · unfold roF at hr; rw [if_neg h] at hr; cases hr
  · refine ⟨f, rfl, ?_⟩
    unfold roF at hr; rw [if_neg h] at hr; exact hr
set_option maxHeartbeats 1600000 in
set_option maxRecDepth 1000000 in
theorem rord_any (a n R : Nat) (w : World) (n1 : 1 ≤ n) (n2 : (n : Int) ≤ 60) (a2 : (a : Int) ≤ 60) (h : roF a n 60 (a % n) 1 = some R) : Calls Try.prog 49 #[.int .i64 (a : Int), .int .i64 (n : Int)] w fun e w' => e = .returned (.int .i64 (R : Int)) ∧ w = w' := by
  have H := Lib.hid h
  have htm : Int.tmod (a : Int) (n : Int) = ((a % n : Nat) : Int) := (Int.ofNat_tmod _ _).symm
  have hem : (a : Int) % (n : Int) = ((a % n : Nat) : Int) := (Int.natCast_emod _ _).symm
  have hom : Int.tmod 1 (n : Int) = ((1 % n : Nat) : Int) := (Int.ofNat_tmod 1 n).symm
  have hoe : 1 % (n : Int) = ((1 % n : Nat) : Int) := (Int.natCast_emod 1 n).symm
  have n0 : ((n : Int) == 0) = false := by rw [beq_eq_false_iff_ne]; omega
  have n0' : ¬ ((n : Int) = 0) := by omega
  have n0'' : ¬ (n = 0) := by omega
  have hx0 : a % n < n := Nat.mod_lt _ n1
  have ho0 : 1 % n < n := Nat.mod_lt _ n1
  have HS := Lib.hid (fun (f x k : Nat) (e : x = 1 % n) => roF_stop (a := a) (n := n) (f := f) (k := k) e)
  have HGo := Lib.hid (fun (f x k : Nat) (e : x ≠ 1 % n) (hr : roF a n f x k = some R) => roF_go e hr)
  clear h
  generalize a % n = x0 at *
  generalize hone : 1 % n = one at *
  clear hone
  have hwx : IntKind.i64.wrap (x0 : Int) = (x0 : Int) := IntWalk.i64_in _ (by omega)
  have hwo : IntKind.i64.wrap (one : Int) = (one : Int) := IntWalk.i64_in _ (by omega)
  go_enter Try.func49, Try.ntmps49
  go_wp2
  go_loopw [5, 6] (fun K X wr => ∃ f x k : Nat, K = .int .i64 (k : Int) ∧ X = .int .i64 (x : Int) ∧ x < n ∧ f + k = 61 ∧ Hid (roF a n f x k = some R) ∧ wr = w) (fun K _ _ => 62 - (intOf K).toNat)
  case atStart => exact ⟨60, x0, 1, rfl, rfl, hx0, rfl, H.out, rfl⟩
  case round =>
    clear H
    obtain ⟨f, x, k, rfl, rfl, hx, hf, HR, rfl⟩ := hrel
    by_cases e : x = one
    · have HK : Hid (k = R) := by
        have h1 := HS.out f x k e
        rw [HR.out] at h1
        exact (Option.some.inj h1).symm
      have e1 : ((x : Int) != (one : Int)) = false := by rw [bne_eq_false_iff_eq]; omega
      clear e
      go_wp2
      go_ret
      exact ⟨by rw [← HK.out]; rfl, rfl⟩
    · obtain ⟨f', rfl, hr⟩ := HGo.out f x k e HR.out
      have HR2 := Lib.hid hr
      have e1 : ((x : Int) != (one : Int)) = true := by rw [bne_iff_ne]; omega
      have hxa : x * a ≤ 60 * 60 := Nat.mul_le_mul (by omega) (by omega)
      have hm1 : (x : Int) * (a : Int) = ((x * a : Nat) : Int) := (Int.natCast_mul _ _).symm
      have hm2 : Int.tmod ((x * a : Nat) : Int) (n : Int) = ((x * a % n : Nat) : Int) := (Int.ofNat_tmod _ _).symm
      have hm3 : ((x * a : Nat) : Int) % (n : Int) = ((x * a % n : Nat) : Int) := (Int.natCast_emod _ _).symm
      have hy : x * a % n < n := Nat.mod_lt _ n1
      clear hr HR e
      generalize x * a % n = y at *
      generalize x * a = z at *
      have hwz : IntKind.i64.wrap (z : Int) = (z : Int) := IntWalk.i64_in _ (by omega)
      have hwy : IntKind.i64.wrap (y : Int) = (y : Int) := IntWalk.i64_in _ (by omega)
      go_wp2
      go_roundw
      case rel => exact ⟨f', y, k + 1, by go_num, rfl, hy, by omega, HR2.out, trivial⟩
      case measure => simp [intOf]; omega
theorem rgcdB_any (a b : Nat) (w : World) (ha : (a : Int) ≤ 1000000) (hb : (b : Int) ≤ 1000000) : Calls Try.prog 35 #[.int .i64 (a : Int), .int .i64 (b : Int)] w fun e w' => e = .returned (.int .i64 (Nat.gcd a b : Nat)) ∧ Below w.heap.size w w' := by
  refine (rGcd_any (a : Int) (b : Int) w (by unfold Mid; omega) (by unfold Mid; omega)).mono fun e w' ⟨he, hw⟩ => ⟨?_, bel_drewN hw⟩
  rw [he]; simp [Int.gcd]
set_option maxHeartbeats 1600000 in
set_option maxRecDepth 1000000 in
theorem rphi_any (q : Nat) (w : World) (q2 : (q : Int) ≤ 60) : Calls Try.prog 18 #[.int .i64 (q : Int)] w fun e w' => e = .returned (.int .i64 (phR q q : Nat)) ∧ Below w.heap.size w w' := by
  have HG := Lib.hid (fun (u : Nat) (h : (u : Int) ≤ 61) W => rgcdB_any u q W (by omega) (by omega))
  have HS := Lib.hid (fun t => show phR q (t + 1) = (if Nat.gcd (t + 1) q = 1 then phR q t + 1 else phR q t) from rfl)
  have HL := Lib.hid (phR_le q)
  go_enter Try.func18, Try.ntmps18
  go_wp2
  go_loopw [3, 4] (fun K U wr => ∃ t : Nat, U = .int .i64 ((t + 1 : Nat) : Int) ∧ K = .int .i64 (phR q t : Nat) ∧ t ≤ q ∧ Hid (Below w.heap.size w wr)) (fun _ U _ => q + 1 - (intOf U).toNat)
  case atStart => exact ⟨0, rfl, rfl, Nat.zero_le _, Below.refl _ _⟩
  case round =>
    obtain ⟨t, rfl, rfl, ht, HW⟩ := hrel
    have hs := HS.out t
    have hl := HL.out t
    have hg := HG.out (t + 1)
    generalize hk : phR q t = k at *
    have HKe := Lib.hid hk
    clear hk
    by_cases htq : t < q
    · obtain ⟨u, hu⟩ : ∃ u, u = t + 1 := ⟨_, rfl⟩
      have HU := Lib.hid hu
      rw [← hu] at hs hg ⊢
      have hui : (u : Int) ≤ (q : Int) := by omega
      have HGu := Lib.hid (hg (by omega))
      clear hu hg
      by_cases e : Nat.gcd u q = 1
      · rw [if_pos e] at hs
        rw [e] at HGu
        have HN := Lib.hid hs
        clear hs e
        go_wp2_with (first
          | (go_at_call 35; ((with_reducible refine (HGu.out _).mono ?_); rintro e w1 ⟨rfl, hb⟩; have HW1 := Lib.hid (HW.out.trans (hb.mono HW.out.size)); clear hb))
          | fail)
        go_roundw
        case rel => exact ⟨u, by go_num, by rw [HN.out]; go_num, by have := HU.out; omega, HW1.out⟩
        case measure => simp [intOf]; omega
      · rw [if_neg e] at hs
        have HN := Lib.hid hs
        have hge : (((Nat.gcd u q : Nat) : Int) == 1) = false := by rw [beq_eq_false_iff_ne]; omega
        clear hs e
        generalize Nat.gcd u q = g at *
        go_wp2_with (first
          | (go_at_call 35; ((with_reducible refine (HGu.out _).mono ?_); rintro e w1 ⟨rfl, hb⟩; have HW1 := Lib.hid (HW.out.trans (hb.mono HW.out.size)); clear hb))
          | fail)
        go_roundw
        case rel => exact ⟨u, by go_num, by rw [HN.out], by have := HU.out; omega, HW1.out⟩
        case measure => simp [intOf]; omega
    · obtain rfl : q = t := by omega
      have h3 : ¬ (((q + 1 : Nat)) : Int) ≤ (q : Int) := by omega
      clear hs hg
      go_wp2
      go_ret
      exact ⟨by rw [HKe.out]; rfl, HW.out⟩
set_option maxHeartbeats 1600000 in
set_option maxRecDepth 1000000 in
theorem rboth_any (n q : Nat) (a : Int) (w : World) (h : CrF n q a) (a1 : -60 ≤ a) (a2 : a ≤ 60) : Calls Try.prog 50 #[.int .i64 a, .int .i64 (q : Int), .int .i64 (n : Int)] w fun e w' => e = .returned (.int .i64 (crV n q a : Nat)) ∧ w = w' := by
  have n1 := h.n1
  have n2 : (n : Int) ≤ 60 := by have := h.n2; omega
  have q1 := h.q1
  have hp1 : 1 ≤ n / q := by
    rcases Nat.eq_zero_or_pos (n / q) with h0 | h0
    · have := h.qn; rw [h0, Nat.mul_zero] at this; omega
    · exact h0
  have hp2 : n / q ≤ n := Nat.div_le_self _ _
  have hq2 : q ≤ n := by have := h.qn; rw [← this]; exact Nat.le_mul_of_pos_right _ hp1
  have HLe := Lib.hid h.least
  have HD : Hid ((((crV n q a : Nat) : Int) - a) % (q : Int) = 0 ∧ (((crV n q a : Nat) : Int) - 1) % ((n / q : Nat) : Int) = 0) := ⟨Int.emod_eq_zero_of_dvd h.d1, Int.emod_eq_zero_of_dvd h.d2⟩
  have hx := h.x
  have htd : Int.tdiv (n : Int) (q : Int) = ((n / q : Nat) : Int) := (Int.ofNat_tdiv _ _).symm
  have hdv : (n : Int) / (q : Int) = ((n / q : Nat) : Int) := (Int.natCast_ediv _ _).symm
  have q0 : ((q : Int) == 0) = false := by rw [beq_eq_false_iff_ne]; omega
  have q0' : ¬ ((q : Int) = 0) := by omega
  have q0'' : ¬ (q = 0) := by omega
  clear h
  generalize n / q = p at *
  have hwp : IntKind.i64.wrap (p : Int) = (p : Int) := IntWalk.i64_in _ (by omega)
  have HM1 := Lib.hid (fun (x : Nat) (h : (x : Int) ≤ 60) W => modR_any ((x : Int) - a) (q : Int) W (by omega) (by omega) (by omega) (by omega))
  have HM2 := Lib.hid (fun (x : Nat) (h : (x : Int) ≤ 60) W => modR_any ((x : Int) - 1) (p : Int) W (by omega) (by omega) (by omega) (by omega))
  generalize crV n q a = c at *
  go_enter Try.func50, Try.ntmps50
  go_wp2
  go_loopw [7] (fun I wr => ∃ x : Nat, I = .int .i64 (x : Int) ∧ x ≤ c ∧ wr = w) (fun I _ => c - (intOf I).toNat)
  case atStart => exact ⟨0, rfl, Nat.zero_le _, rfl⟩
  case round =>
    obtain ⟨x, rfl, hxc, rfl⟩ := hrel
    have hxn : (x : Int) < (n : Int) := by omega
    have HA := Lib.hid (HM1.out x (by omega))
    have HB := Lib.hid (HM2.out x (by omega))
    have wxa : IntKind.i64.wrap ((x : Int) - a) = (x : Int) - a := IntWalk.i64_in _ (by omega)
    have wx1 : IntKind.i64.wrap ((x : Int) - 1) = (x : Int) - 1 := IntWalk.i64_in _ (by omega)
    by_cases e : x = c
    · subst e
      rw [HD.out.1] at HA
      rw [HD.out.2] at HB
      go_wp2_with (first
        | (go_at_call 36; first
            | ((with_reducible refine (HA.out _).mono ?_); rintro e w1 ⟨rfl, rfl⟩)
            | ((with_reducible refine (HB.out _).mono ?_); rintro e w2 ⟨rfl, rfl⟩)
            | fail)
        | fail)
      go_ret
      exact ⟨rfl, rfl⟩
    · have hlt : x < c := by omega
      have hno := HLe.out x hlt
      have hz : ¬ (((x : Int) - a) % (q : Int) = 0 ∧ ((x : Int) - 1) % (p : Int) = 0) := fun ⟨h1, h2⟩ => hno ⟨Int.dvd_of_emod_eq_zero h1, Int.dvd_of_emod_eq_zero h2⟩
      clear hno
      by_cases h1 : ((x : Int) - a) % (q : Int) = 0
      · have h2 : ¬ ((x : Int) - 1) % (p : Int) = 0 := fun h2 => hz ⟨h1, h2⟩
        rw [h1] at HA
        clear hz h1 e
        generalize hz2 : ((x : Int) - 1) % (p : Int) = z2 at *
        clear hz2
        have e2 : (z2 == 0) = false := by rw [beq_eq_false_iff_ne]; exact h2
        go_wp2_with (first
          | (go_at_call 36; first
              | ((with_reducible refine (HA.out _).mono ?_); rintro e w1 ⟨rfl, rfl⟩)
              | ((with_reducible refine (HB.out _).mono ?_); rintro e w2 ⟨rfl, rfl⟩)
              | fail)
          | fail)
        go_roundw
        case rel => exact ⟨x + 1, by go_num, by omega, trivial⟩
        case measure => simp [intOf]; omega
      · clear hz e
        generalize hz1 : ((x : Int) - a) % (q : Int) = z1 at *
        clear hz1
        have e2 : (z1 == 0) = false := by rw [beq_eq_false_iff_ne]; exact h1
        go_wp2_with (first
          | (go_at_call 36; ((with_reducible refine (HA.out _).mono ?_); rintro e w1 ⟨rfl, rfl⟩))
          | fail)
        go_roundw
        case rel => exact ⟨x + 1, by go_num, by omega, trivial⟩
        case measure => simp [intOf]; omega
end Go.Proofs.Ytlagljnhbhnelaa
namespace Go.Proofs.Ytlagljnhbhnelaa
open Go.RowKit
set_option linter.unusedVariables false
set_option linter.unusedSimpArgs false

theorem app_snapL {ops : Array Oper} {rest : List Oper} {o : Oper} {a : Act} {Q : Exit → Act → World → Prop} (w : World) (hgd : o.guard = none) (s x : Operand)
    (ho : o.op = .call { callee := .builtin .append, args := #[s, x], argTypes := #[23, 23] }) (base : Nat) (v : Value) (n : Nat) (xs : List Value)
    (hs : a.eval s = v) (hown : w.ownsRow base 3 1 v n xs) (b m : Nat) (ys : List Value) (hl : ys.length = m) (m1 : 1 ≤ m) (m2 : m ≤ 8) (hx : a.eval x = .slice (some ⟨b, 0, none⟩) m m) (hb : ∀ j u, ys[j]? = some u → w.cell? ((⟨b, 0, none⟩ : Addr).add j) = some u) (h1 : ∀ u ∈ ys, u.oneCell' = true) (hn : n ≤ 1000) (hbase : base ≤ w.heap.size)
    (h : ∀ g cap w', w'.ownsRow base 3 1 (.slice (some ⟨g, 0, none⟩) (n + m) cap) (n + m) (xs ++ ys) → w.grownBy w' v.ownBlock → (v.ownBlock = some g ∨ (g = w.heap.size ∧ ∀ k, k < w.heap.size → w'.heap[k]? = w.heap[k]?)) → wpList Try.prog ops Q rest (a.put o.dst (.slice (some ⟨g, 0, none⟩) (n + m) cap)) w') :
    wpList Try.prog ops Q (o :: rest) a w := by
  obtain ⟨i0, hi, z0, z1, z2⟩ := info_parts Try.infoInt
  have hm : n + m ≤ maxLen := by unfold maxLen; omega
  obtain ⟨v', w', hr, h2, h3, -, h5⟩ := run_append_own_at (P := Try.prog) w base 23 o.type 3 i0 (.int .i64 0) 1 8 Try.underlying23 hi z0 z1 z2 rfl (by decide) v n xs hown ⟨b, 0, none⟩ m m ys (by rw [hl, Nat.mul_one]) hb h1 hm (by omega) hbase
  obtain ⟨g, cap, rfl, hg0, hg1⟩ := h2.form (by omega)
  have hat : v.ownBlock = some g ∨ (g = w.heap.size ∧ ∀ k, k < w.heap.size → w'.heap[k]? = w.heap[k]?) := by
    have hnil : 8 * (n + m) ≤ 281474976710656 := by omega
    rcases hown.2 with ⟨rfl, rfl⟩ | ⟨g', c', cur, rfl, k1, k2, k3, k4, k5, k6⟩
    · right
      have hx0 : xs = [] := List.eq_nil_of_length_eq_zero (by simpa using hown.1)
      have hq := run_append_nil (P := Try.prog) w 23 o.type 3 i0 (.int .i64 0) Try.underlying23 hi z0 ⟨b, 0, none⟩ m m ys (by rw [z1, hl, Nat.mul_one]) hb (by omega) (by omega) (by rw [z2]; omega)
      have he := hr.symm.trans hq
      injection he with e1 e2
      injection e1 with e1
      injection e1 with e1
      injection e1 with e1
      refine ⟨e1, fun k hk => ?_⟩
      rw [e2]
      exact heap_alloc_old w.drew _ hk
    · by_cases hroom : n + m ≤ c'
      · left
        have hfit : n * i0.size + ys.length ≤ cur.size := by rw [z1, k5, hl]; simp; omega
        have hq := run_append_room (P := Try.prog) w 23 o.type 3 i0 Try.underlying23 hi g' n c' cur k2 ⟨b, 0, none⟩ m m ys (by rw [z1, hl, Nat.mul_one]) hb h1 hroom hfit
        have he := hr.symm.trans hq
        generalize (w.setRow g' _) = w9 at he
        simp only [Result.ok.injEq, Value.slice.injEq, Option.some.injEq, Addr.mk.injEq] at he
        have e1 := he.1.1.1
        simp [Value.ownBlock, e1]
      · right
        have hq := run_append_grow (P := Try.prog) w 23 o.type 3 i0 (.int .i64 0) Try.underlying23 hi z0 ⟨g', 0, none⟩ n c' xs (by rw [z1]; exact hown.1) (hown.cells (g := g') rfl) ⟨b, 0, none⟩ m m ys (by rw [z1, hl, Nat.mul_one]) hb (by omega) (by unfold maxLen at hm; omega) (by rw [z2]; exact growslice_fits (by omega) (by omega))
        have he := hr.symm.trans hq
        injection he with e1 e2
        injection e1 with e1
        injection e1 with e1
        injection e1 with e1
        refine ⟨e1, fun k hk => ?_⟩
        rw [e2]
        exact heap_alloc_old w.drew _ hk
  refine wpList_plain hgd fun K hK => ?_
  unfold Oper.wp execOp
  simp only [ho, resolve, invoke, builtin, Sem.run_bind, Sem.run_pure, Result.andThen_ok, List.map_toArray, List.map_cons, List.map_nil, hs, hx, hr]
  exact hK _ _ (h g cap w' h2 h3 hat)
section
variable {B C : Nat} {w0 w2 w w1 : World} {v1 v2 : Value} {L1 L2 : List Int}
theorem QW.push1L {M : List Int} (h : QW B C w0 w2 v1 v2 L1 L2 w) {g c : Nat} {o : Obj} (hown : w1.ownsRow C 3 1 (.slice (some ⟨g, 0, none⟩) (L1.length + M.length) c) (L1.length + M.length) (zs L1 ++ zs M)) (hg : (w.alloc o).grownBy w1 v1.ownBlock)
    (hat : v1.ownBlock = some g ∨ (g = (w.alloc o).heap.size ∧ ∀ k, k < (w.alloc o).heap.size → w1.heap[k]? = (w.alloc o).heap[k]?)) : QW B C w0 w2 (.slice (some ⟨g, 0, none⟩) (L1.length + M.length) c) v2 (L1 ++ M) L2 w1 := by
  have hs := h.size
  refine ⟨h.hB, by rw [zs_append, List.length_append]; exact hown, own_keepD h.r2 fun k hk => ?_, fun k hk => ?_, fun j hj => ?_, ?_, by have := hg.size; simp at this; omega⟩
  · have h1 := h.r2.lt k hk
    rw [hg.block k (by simp; omega) (fun e => h.ap k e.symm hk), Below.heap_alloc _ _ _ h1.2]
  · have e : g = k := by simpa [Value.ownBlock] using hk
    subst e
    rcases hat with e | ⟨e, _⟩
    · exact h.ap _ e
    · intro e2
      have h1 := (h.r2.lt _ e2).2
      simp at e; omega
  · rw [hg.block j (by simp; omega) (fun e => by have := (h.r1.lt j e.symm).1; omega), Below.heap_alloc _ _ _ (by omega)]
    exact h.keep j hj
  · exact (h.below.alloc (by have := h.hB; omega) o).grown hg (by have := h.hB; simp; omega) fun j hj => by have := h.hB; have := (h.r1.lt j hj).1; omega
theorem QW.push2L {M : List Int} (h : QW B C w0 w2 v1 v2 L1 L2 w) {g c : Nat} {o : Obj} (hown : w1.ownsRow C 3 1 (.slice (some ⟨g, 0, none⟩) (L2.length + M.length) c) (L2.length + M.length) (zs L2 ++ zs M)) (hg : (w.alloc o).grownBy w1 v2.ownBlock)
    (hat : v2.ownBlock = some g ∨ (g = (w.alloc o).heap.size ∧ ∀ k, k < (w.alloc o).heap.size → w1.heap[k]? = (w.alloc o).heap[k]?)) : QW B C w0 w2 v1 (.slice (some ⟨g, 0, none⟩) (L2.length + M.length) c) L1 (L2 ++ M) w1 := by
  have hs := h.size
  refine ⟨h.hB, own_keepD h.r1 fun k hk => ?_, by rw [zs_append, List.length_append]; exact hown, fun k hk hk2 => ?_, fun j hj => ?_, ?_, by have := hg.size; simp at this; omega⟩
  · have h1 := h.r1.lt k hk
    rw [hg.block k (by simp; omega) (fun e => h.ap k hk e.symm), Below.heap_alloc _ _ _ h1.2]
  · have e : g = k := by simpa [Value.ownBlock] using hk2
    subst e
    rcases hat with e | ⟨e, _⟩
    · exact h.ap _ hk e
    · have h1 := (h.r1.lt _ hk).2
      simp at e; omega
  · rw [hg.block j (by simp; omega) (fun e => by have := (h.r2.lt j e.symm).1; omega), Below.heap_alloc _ _ _ (by omega)]
    exact h.keep j hj
  · exact (h.below.alloc (by have := h.hB; omega) o).grown hg (by have := h.hB; simp; omega) fun j hj => by have := h.hB; have := (h.r2.lt j hj).1; omega
end
theorem two_news {w : World} {x y : Value} {t : TypeId} : ∀ j u, [x, y][j]? = some u → (w.alloc (.cells #[x, y] t)).cell? ((⟨w.heap.size, 0, none⟩ : Addr).add j) = some u :=
  World.news_of_block (cs := #[x, y]) (heap_alloc_new w (.cells #[x, y] t))
theorem rqF_lt {n p f q : Nat} (h : n % (q * p) ≠ 0) : rqF n p f q = q := by
  cases f with
  | zero => rfl
  | succ f => unfold rqF; rw [if_neg h]
theorem rqF_go {n p f q : Nat} (h : n % (q * p) = 0) : rqF n p (f + 1) q = rqF n p f (q * p) := by
  show (if n % (q * p) = 0 then rqF n p f (q * p) else q) = _
  rw [if_pos h]
abbrev m1 (L : List (Nat × Nat)) : List Int := L.map fun g => (g.1 : Int)
abbrev m2 (L : List (Nat × Nat)) : List Int := L.map fun g => (g.2 : Int)
set_option maxHeartbeats 6400000 in
set_option maxRecDepth 1000000 in
theorem rgenr_any (n : Nat) (w : World) (n1 : 1 ≤ n) (n2 : (n : Int) ≤ 60) :
    Calls Try.prog 16 #[.int .i64 (n : Int)] w fun e w' => ∃ v1 v2, e = .returned (.tuple #[v1, v2]) ∧ w'.ownsRow w.heap.size 3 1 v1 ((gensV n).map fun g => (g.1 : Int)).length (zs ((gensV n).map fun g => (g.1 : Int))) ∧ w'.ownsRow w.heap.size 3 1 v2 ((gensV n).map fun g => (g.2 : Int)).length (zs ((gensV n).map fun g => (g.2 : Int))) ∧ Below w.heap.size w w' := by
  have HRg := Lib.hid (rg_of n1 (show n ≤ 60 by omega))
  have HLen := Lib.hid (rgF_len n)
  have HS := Lib.hid (fun t => show rgF n (t + 1) = rgF n t ++ gnR n (t + 2) from rfl)
  have HQ0 : Hid (QW w.heap.size w.heap.size w w (.slice none 0 0) (.slice none 0 0) [] [] w) := ⟨Nat.le_refl _, World.ownsRow_nil _ _ _ _, World.ownsRow_nil _ _ _ _, fun g h => by simp [Value.ownBlock] at h, fun _ _ => rfl, Below.refl _ _, Nat.le_refl _⟩
  have HPr := Lib.hid (fun (p : Nat) (h1 : 2 ≤ p) (h2 : (p : Int) ≤ 60) W => rprime_any p W h1 h2)
  go_enter Try.func16, Try.ntmps16
  go_wp2
  go_loopw [4, 5, 6, 7, 8] (fun V1 V2 P _ _ wr => ∃ (t k : Nat) (A1 : Option Addr) (c1 : Nat) (A2 : Option Addr) (c2 : Nat), V1 = .slice A1 k c1 ∧ V2 = .slice A2 k c2 ∧ P = .int .i64 ((t + 2 : Nat) : Int) ∧ t + 1 ≤ n ∧ Hid ((rgF n t).length = k) ∧ Hid (QW w.heap.size w.heap.size w w (.slice A1 k c1) (.slice A2 k c2) (m1 (rgF n t)) (m2 (rgF n t)) wr)) (fun _ _ P _ _ _ => n + 2 - (intOf P).toNat)
  case atStart => exact ⟨0, 0, _, _, _, _, rfl, rfl, rfl, by omega, rfl, HQ0.out⟩
  case round =>
    obtain ⟨t, k, A1, c1, A2, c2, rfl, rfl, rfl, ht, HK, HQ⟩ := hrel
    clear HQ0
    have hkl := HLen.out t
    rw [HK.out] at hkl
    by_cases htn : t + 2 ≤ n
    · have hs := HS.out t
      have hrg := HRg.out.2 (t + 2) (by omega) htn
      have hpr := HPr.out (t + 2) (by omega) (by omega)
      obtain ⟨wo, rfl⟩ : ∃ wo : World, wo = wr := ⟨_, rfl⟩
      have hL1 : (m1 (rgF n t)).length = k := by rw [List.length_map]; exact HK.out
      have hL2 : (m2 (rgF n t)).length = k := by rw [List.length_map]; exact HK.out
      have hM : Hid (∀ R, rgF n (t + 1) = rgF n t ++ R → m1 (rgF n (t + 1)) = m1 (rgF n t) ++ m1 R ∧ m2 (rgF n (t + 1)) = m2 (rgF n t) ++ m2 R ∧ (rgF n (t + 1)).length = k + R.length) := fun R h => by
        rw [h]; exact ⟨List.map_append .., List.map_append .., by rw [List.length_append, HK.out]⟩
      generalize hT' : rgF n (t + 1) = T' at *
      have HT' := Lib.hid hT'
      clear hT'
      generalize hTT : rgF n t = TT at *
      clear hTT
      obtain ⟨p, hp⟩ : ∃ p, p = t + 2 := ⟨_, rfl⟩
      have HU := Lib.hid hp
      rw [← hp] at hs hrg hpr htn ⊢
      have hp2 : 2 ≤ p := by omega
      have hpi : (p : Int) ≤ (n : Int) := by omega
      have HL1 := Lib.hid hL1
      have HL2 := Lib.hid hL2
      clear hp hL1 hL2
      cases hb : rpB p with
      | false =>
        have hqv : rqV n p = 1 := by unfold rqV; rw [if_neg (by rw [hb]; decide)]
        have hN : Hid (T' = TT) := by
          show _ = _
          rw [hs]; unfold gnR; rw [if_pos (.inl hqv), List.append_nil]
        rw [hb] at hpr
        have HP := Lib.hid hpr
        have htm : Int.tmod (n : Int) (p : Int) = ((n % p : Nat) : Int) := (Int.ofNat_tmod _ _).symm
        have hem : (n : Int) % (p : Int) = ((n % p : Nat) : Int) := (Int.natCast_emod _ _).symm
        have p0 : ((p : Int) == 0) = false := by rw [beq_eq_false_iff_ne]; omega
        have p0' : ¬ ((p : Int) = 0) := by omega
        have p0'' : ¬ (p = 0) := by omega
        have hle : n % p ≤ n := Nat.mod_le _ _
        clear hpr hs hrg hqv
        go_wp2
        go_loopw [7] (fun Q wi => Q = .int .i64 1 ∧ wi = wo) (fun _ _ => 0)
        case atStart => exact ⟨rfl, rfl⟩
        case round =>
          obtain ⟨rfl, rfl⟩ := hrel
          by_cases e : n % p = 0
          · rw [e] at htm hem
            clear e hle
            go_wp2_with (first
              | (go_at_call 48; ((with_reducible refine (HP.out _).mono ?_); rintro e w1 ⟨rfl, rfl⟩))
              | fail)
            go_roundw
            case rel => exact ⟨t + 1, k, A1, c1, A2, c2, rfl, rfl, by have := HU.out; go_num, by have := HU.out; omega, by rw [HT'.out, hN.out]; exact HK.out, by rw [HT'.out, hN.out]; exact HQ.out⟩
            case measure => have := HU.out; simp [intOf]; omega
          · have e0 : (((n % p : Nat) : Int) == 0) = false := by rw [beq_eq_false_iff_ne]; omega
            clear e
            generalize n % p = z at *
            have hwz : IntKind.i64.wrap (z : Int) = (z : Int) := IntWalk.i64_in _ (by omega)
            go_wp2
            go_roundw
            case rel => exact ⟨t + 1, k, A1, c1, A2, c2, rfl, rfl, by have := HU.out; go_num, by have := HU.out; omega, by rw [HT'.out, hN.out]; exact HK.out, by rw [HT'.out, hN.out]; exact HQ.out⟩
            case measure => have := HU.out; simp [intOf]; omega
      | true =>
        have hqv : rqV n p = rqF n p 6 1 := by unfold rqV; rw [if_pos hb]
        rw [hb] at hpr
        have HP := Lib.hid hpr
        have HQV := Lib.hid hqv
        have HRP := Lib.hid hrg
        have HSg := Lib.hid hs
        have HGo := Lib.hid (fun (f q : Nat) (h : n % (q * p) = 0) => rqF_go (f := f) h)
        have HLt := Lib.hid (fun (f q : Nat) (h : n % (q * p) ≠ 0) => rqF_lt (f := f) h)
        clear hpr hqv hrg hs hb
        generalize hRe : rqV n p = R at *
        have HRe := Lib.hid hRe
        clear hRe
        go_wp2
        go_loopw [7] (fun Q wi => ∃ f q : Nat, Q = .int .i64 (q : Int) ∧ 1 ≤ q ∧ q ≤ n ∧ f ≤ 6 ∧ Hid (2 ^ (6 - f) ≤ q) ∧ Hid (rqF n p f q = R) ∧ wi = wo) (fun Q _ => n - (intOf Q).toNat)
        case atStart => exact ⟨6, 1, rfl, by omega, by omega, by omega, by show 2 ^ (6 - 6) ≤ 1; decide, HQV.out.symm, rfl⟩
        case round =>
          obtain ⟨f, q, rfl, hq1, hqn, hf, H2, HR, hwi⟩ := hrel
          obtain rfl : wo = wr := hwi.symm
          have hqp : q * p ≤ 60 * 60 := Nat.mul_le_mul (by omega) (by omega)
          have hqp1 : 1 ≤ q * p := Nat.mul_pos hq1 (by omega)
          have hqp2 : 2 * q ≤ q * p := by rw [Nat.mul_comm 2]; exact Nat.mul_le_mul_left _ hp2
          have hmq : (q : Int) * (p : Int) = ((q * p : Nat) : Int) := (Int.natCast_mul _ _).symm
          have hgo := HGo.out
          have hlt := HLt.out f q
          have HGq := Lib.hid (fun f => HGo.out f q)
          have hdl : n % (q * p) = 0 → q * p ≤ n := fun h => Nat.le_of_dvd n1 (Nat.dvd_of_mod_eq_zero h)
          clear hgo
          generalize q * p = d at *
          have hwd : IntKind.i64.wrap (d : Int) = (d : Int) := IntWalk.i64_in _ (by omega)
          have htm : Int.tmod (n : Int) (d : Int) = ((n % d : Nat) : Int) := (Int.ofNat_tmod _ _).symm
          have hem : (n : Int) % (d : Int) = ((n % d : Nat) : Int) := (Int.natCast_emod _ _).symm
          have d0 : ((d : Int) == 0) = false := by rw [beq_eq_false_iff_ne]; omega
          have d0' : ¬ ((d : Int) = 0) := by omega
          have d0'' : ¬ (d = 0) := by omega
          have hle : n % d ≤ n := Nat.mod_le _ _
          by_cases e : n % d = 0
          · have hdn := hdl e
            obtain ⟨f, rfl⟩ : ∃ f', f = f' + 1 := ⟨f - 1, by
              rcases f with _ | f
              · have := H2.out; omega
              · omega⟩
            have HR2 : Hid (rqF n p f d = R) := by rw [← HR.out]; exact (HGq.out f e).symm
            have H3 : Hid (2 ^ (6 - f) ≤ d) := by
              have h1 := H2.out
              show 2 ^ (6 - f) ≤ d
              rw [show 6 - f = (6 - (f + 1)) + 1 by omega, Nat.pow_succ]; omega
            rw [e] at htm hem
            clear e hle hlt hdl HR H2 HGq
            go_wp2_with (first
              | (go_at_call 48; ((with_reducible refine (HP.out _).mono ?_); rintro e w1 ⟨rfl, rfl⟩))
              | fail)
            go_roundw
            case rel => exact ⟨f, d, rfl, hqp1, hdn, by omega, H3.out, HR2.out, trivial⟩
            case measure => simp [intOf]; omega
          · have e0 : (((n % d : Nat) : Int) == 0) = false := by rw [beq_eq_false_iff_ne]; omega
            have hRq : R = q := by rw [← HR.out]; exact hlt e
            subst hRq
            clear e hlt hdl HR H2 HGq
            generalize n % d = z at *
            have hwz : IntKind.i64.wrap (z : Int) = (z : Int) := IntWalk.i64_in _ (by omega)
            have hR1i : (R : Int) ≤ 60 := by omega
            by_cases h1 : R = 1
            · have hN : Hid (T' = TT) := by
                show _ = _
                rw [HSg.out]; unfold gnR; rw [HRe.out, if_pos (.inl h1), List.append_nil]
              have b1 : ((R : Int) == 1) = true := by rw [beq_iff_eq]; omega
              clear h1
              go_wp2
              go_roundw
              case rel => exact ⟨t + 1, k, A1, c1, A2, c2, rfl, rfl, by have := HU.out; go_num, by have := HU.out; omega, by rw [HT'.out, hN.out]; exact HK.out, by rw [HT'.out, hN.out]; exact HQ.out⟩
              case measure => have := HU.out; simp [intOf]; omega
            · have b1 : ((R : Int) == 1) = false := by rw [beq_eq_false_iff_ne]; omega
              by_cases h2 : R = 2
              · have hN : Hid (T' = TT) := by
                  show _ = _
                  rw [HSg.out]; unfold gnR; rw [HRe.out, if_pos (.inr h2), List.append_nil]
                have b2 : ((R : Int) == 2) = true := by rw [beq_iff_eq]; omega
                clear h1 h2
                go_wp2
                go_roundw
                case rel => exact ⟨t + 1, k, A1, c1, A2, c2, rfl, rfl, by have := HU.out; go_num, by have := HU.out; omega, by rw [HT'.out, hN.out]; exact HK.out, by rw [HT'.out, hN.out]; exact HQ.out⟩
                case measure => have := HU.out; simp [intOf]; omega
              · have b2 : ((R : Int) == 2) = false := by rw [beq_eq_false_iff_ne]; omega
                have hrp := HRP.out h1 h2
                have hR2 := hrp.q2
                have hph := hrp.ph
                have hr1 := hrp.r1
                have hrt := hrp.rt
                have hrn := hrp.rn
                have hodd := hrp.odd
                have hfour := hrp.four
                have hbig := hrp.big
                rw [HRe.out] at hR2 hph hr1 hrt hrn hodd hfour hbig
                have hO1 := HQ.out.r1
                rw [HL1.out] at hO1
                have HO1 := Lib.hid hO1
                have hwos := HQ.out.size
                clear hrp hO1
                by_cases hp3 : 2 < p
                · have hp3i : 2 < (p : Int) := by omega
                  have hN : Hid (T' = TT ++ [(crV n R (rootV R : Nat), phV R)]) := by
                    show _ = _
                    rw [HSg.out]; unfold gnR; rw [HRe.out, if_neg (by omega), if_pos hp3]
                  obtain ⟨r1, r60⟩ := hr1 hp3
                  have HBo := Lib.hid (fun W => rboth_any n R (rootV R : Nat) W (hodd hp3) (by omega) (by omega))
                  have HPh := Lib.hid (fun W => rphi_any R W (by omega))
                  rw [hph] at HPh
                  have HRt := Lib.hid (hrt hp3)
                  have HRn := Lib.hid (hrn hp3)
                  have HOr := Lib.hid (fun (r K : Nat) (h : (r : Int) ≤ 60) (hr : roF r R 60 (r % R) 1 = some K) W => rord_any r R K W hq1 (by omega) h hr)
                  have HGc := Lib.hid (fun (r : Nat) (h : (r : Int) ≤ 60) W => rgcdB_any r p W (by omega) (by omega))
                  clear hph hr1 hrt hrn hodd hfour hbig h1 h2
                  generalize crV n R (rootV R : Nat) = cv at *
                  generalize phV R = ph at *
                  generalize rootV R = rt at *
                  go_wp2
                  go_loopw [8] (fun X wi => ∃ r : Nat, X = .int .i64 (r : Int) ∧ 1 ≤ r ∧ r ≤ rt ∧ Hid (Below wo.heap.size wo wi)) (fun X _ => rt - (intOf X).toNat)
                  case atStart => exact ⟨1, rfl, by omega, r1, Below.refl _ _⟩
                  case round =>
                    obtain ⟨r, rfl, hr1, hr2, HW⟩ := hrel
                    have HGr := Lib.hid (HGc.out r (by omega))
                    by_cases hg : Nat.gcd r p = 1
                    · rw [hg] at HGr
                      obtain ⟨K, hK, hKr⟩ := HRt.out r hr1 hr2 hg
                      have HO := Lib.hid (HOr.out r K (by omega) hK)
                      clear hK hg
                      by_cases hrr : r = rt
                      · subst hrr
                        obtain rfl : K = ph := hKr.2 rfl
                        have HQw := Lib.hid (HQ.out.on HW.out)
                        clear hKr
                        go_wp2_with (first
                          | (go_at_call 35; ((with_reducible refine (HGr.out _).mono ?_); rintro e w1 ⟨rfl, hb⟩; have HQ1 := Lib.hid (HQw.out.on hb); clear hb))
                          | (go_at_call 49; ((with_reducible refine (HO.out _).mono ?_); rintro e w2 ⟨rfl, rfl⟩))
                          | (go_at_call 18; first
                              | ((with_reducible refine (HPh.out _).mono ?_); rintro e w3 ⟨rfl, hb⟩; have HQ3 := Lib.hid (HQ1.out.on hb); have HO3 : Hid (w3.ownsRow w.heap.size 3 1 (.slice A1 k c1) k (zs (m1 TT))) := (by have := HQ3.out.r1; rw [HL1.out] at this; exact this); have hs3 := HQ3.out.size; clear hb)
                              | ((with_reducible refine (HPh.out _).mono ?_); rintro e w6 ⟨rfl, hb⟩; have HQ6 := Lib.hid (HQ5.out.on hb); have HO6 : Hid (w6.ownsRow w.heap.size 3 1 (.slice A2 k c2) k (zs (m2 TT))) := (by have := HQ6.out.r2; rw [HL2.out] at this; exact this); have hs6 := HQ6.out.size; clear hb)
                              | fail)
                          | (go_at_call 50; ((with_reducible refine (HBo.out _).mono ?_); rintro e w4 ⟨rfl, rfl⟩))
                          | (at_builtin; (refine app_snapL _ rfl _ _ rfl w.heap.size _ _ _ rfl (HO3.out.alloc _) w3.heap.size 1 [.int .i64 (cv : Int)] rfl (by omega) (by omega) rfl (cell_one_new _ _ _) (fun u hu => by rw [List.mem_singleton.1 hu]; rfl) (by omega) (by simp; omega) ?_); intro g5 cap5 w5 hown hg hat; have HQ5 := Lib.hid (HQ3.out.push1L (M := [(cv : Int)]) (by rw [HL1.out]; exact hown) hg hat); clear hown hg hat)
                          | (at_builtin; (refine app_snapL _ rfl _ _ rfl w.heap.size _ _ _ rfl (HO6.out.alloc _) w6.heap.size 1 [.int .i64 (K : Int)] rfl (by omega) (by omega) rfl (cell_one_new _ _ _) (fun u hu => by rw [List.mem_singleton.1 hu]; rfl) (by omega) (by simp; omega) ?_); intro g7 cap7 w7 hown hg hat; have HQ7 := Lib.hid (HQ6.out.push2L (M := [(K : Int)]) (by rw [HL2.out]; exact hown) hg hat); clear hown hg hat)
                          | fail)
                        have hmm := hM.out _ hN.out
                        rw [HL1.out, HL2.out] at HQ7
                        go_roundw
                        case rel => exact ⟨t + 1, k + 1, _, _, _, _, rfl, rfl, by have := HU.out; go_num, by have := HU.out; omega, by rw [HT'.out]; exact hmm.2.2, by rw [HT'.out, hmm.1, hmm.2.1]; exact HQ7.out⟩
                        case measure => have := HU.out; simp [intOf]; omega
                      · have hKn : K ≠ ph := fun e => hrr (hKr.1 e)
                        have eK : ((K : Int) != (ph : Int)) = true := by rw [bne_iff_ne]; omega
                        clear hKr hKn
                        go_wp2_with (first
                          | (go_at_call 35; ((with_reducible refine (HGr.out _).mono ?_); rintro e w1 ⟨rfl, hb⟩; have HW1 := Lib.hid (HW.out.trans (hb.mono HW.out.size)); clear hb))
                          | (go_at_call 49; ((with_reducible refine (HO.out _).mono ?_); rintro e w2 ⟨rfl, rfl⟩))
                          | (go_at_call 18; ((with_reducible refine (HPh.out _).mono ?_); rintro e w3 ⟨rfl, hb⟩; have HW3 := Lib.hid (HW1.out.trans (hb.mono HW1.out.size)); clear hb))
                          | fail)
                        go_roundw
                        case rel => exact ⟨r + 1, by go_num, by omega, by omega, HW3.out⟩
                        case measure => simp [intOf]; omega
                    · have hrr : r ≠ rt := fun e => hg (by rw [e]; exact HRn.out)
                      have eg : (((Nat.gcd r p : Nat) : Int) != 1) = true := by rw [bne_iff_ne]; omega
                      clear hg
                      generalize Nat.gcd r p = gg at *
                      go_wp2_with (first
                        | (go_at_call 35; ((with_reducible refine (HGr.out _).mono ?_); rintro e w1 ⟨rfl, hb⟩; have HW1 := Lib.hid (HW.out.trans (hb.mono HW.out.size)); clear hb))
                        | fail)
                      go_roundw
                      case rel => exact ⟨r + 1, by go_num, by omega, by omega, HW1.out⟩
                      case measure => simp [intOf]; omega
                · have hp3i : ¬ 2 < (p : Int) := by omega
                  by_cases h4 : R = 4
                  · have b4 : ((R : Int) == 4) = true := by rw [beq_iff_eq]; omega
                    have hN : Hid (T' = TT ++ [(crV n R 3, 2)]) := by
                      show _ = _
                      rw [HSg.out]; unfold gnR; rw [HRe.out, if_neg (by omega), if_neg hp3, if_pos h4]
                    have HBo := Lib.hid (fun W => rboth_any n R 3 W (hfour hp3 h4) (by omega) (by omega))
                    clear hph hr1 hrt hrn hodd hfour hbig h1 h2 h4
                    generalize crV n R 3 = cv at *
                    go_wp2_with (first
                      | (go_at_call 50; ((with_reducible refine (HBo.out _).mono ?_); rintro e w4 ⟨rfl, rfl⟩))
                      | (at_builtin; (refine app_snapL _ rfl _ _ rfl w.heap.size _ _ _ rfl (HO1.out.alloc _) wo.heap.size 1 [.int .i64 (cv : Int)] rfl (by omega) (by omega) rfl (cell_one_new _ _ _) (fun u hu => by rw [List.mem_singleton.1 hu]; rfl) (by omega) (by simp; omega) ?_); intro g5 cap5 w5 hown hg hat; have HQ5 := Lib.hid (HQ.out.push1L (M := [(cv : Int)]) (by rw [HL1.out]; exact hown) hg hat); have HO5 : Hid (w5.ownsRow w.heap.size 3 1 (.slice A2 k c2) k (zs (m2 TT))) := (by have := HQ5.out.r2; rw [HL2.out] at this; exact this); have hs5 := HQ5.out.size; clear hown hg hat)
                      | (at_builtin; (refine app_snapL _ rfl _ _ rfl w.heap.size _ _ _ rfl (HO5.out.alloc _) w5.heap.size 1 [.int .i64 2] rfl (by omega) (by omega) rfl (cell_one_new _ _ _) (fun u hu => by rw [List.mem_singleton.1 hu]; rfl) (by omega) (by simp; omega) ?_); intro g7 cap7 w7 hown hg hat; have HQ7 := Lib.hid (HQ5.out.push2L (M := [2]) (by rw [HL2.out]; exact hown) hg hat); clear hown hg hat)
                      | fail)
                    have hmm := hM.out _ hN.out
                    rw [HL1.out, HL2.out] at HQ7
                    go_roundw
                    case rel => exact ⟨t + 1, k + 1, _, _, _, _, rfl, rfl, by have := HU.out; go_num, by have := HU.out; omega, by rw [HT'.out]; exact hmm.2.2, by rw [HT'.out, hmm.1, hmm.2.1]; exact HQ7.out⟩
                    case measure => have := HU.out; simp [intOf]; omega
                  · have b4 : ((R : Int) == 4) = false := by rw [beq_eq_false_iff_ne]; omega
                    have hN : Hid (T' = TT ++ [(crV n R (-1), 2), (crV n R 5, R / 4)]) := by
                      show _ = _
                      rw [HSg.out]; unfold gnR; rw [HRe.out, if_neg (by omega), if_neg hp3, if_neg h4]
                    obtain ⟨hb1, hb2⟩ := hbig hp3 h4
                    have HB1 := Lib.hid (fun W => rboth_any n R (-1) W hb1 (by omega) (by omega))
                    have HB2 := Lib.hid (fun W => rboth_any n R 5 W hb2 (by omega) (by omega))
                    have htd4 : Int.tdiv (R : Int) 4 = ((R / 4 : Nat) : Int) := by rw [Int.tdiv_eq_ediv_of_nonneg (by omega)]; omega
                    have hdv4 : (R : Int) / 4 = ((R / 4 : Nat) : Int) := by omega
                    have hR4 : R / 4 ≤ 15 := by omega
                    clear hph hr1 hrt hrn hodd hfour hbig h1 h2 h4 hb1 hb2
                    generalize crV n R (-1) = cv at *
                    generalize crV n R 5 = cu at *
                    generalize R / 4 = r4 at *
                    have hw4 : IntKind.i64.wrap (r4 : Int) = (r4 : Int) := IntWalk.i64_in _ (by omega)
                    go_wp2_with (first
                      | (go_at_call 50; first
                          | ((with_reducible refine (HB1.out _).mono ?_); rintro e w4 ⟨rfl, rfl⟩)
                          | ((with_reducible refine (HB2.out _).mono ?_); rintro e w4 ⟨rfl, rfl⟩)
                          | fail)
                      | (at_builtin; (refine app_snapL _ rfl _ _ rfl w.heap.size _ _ _ rfl (HO1.out.alloc _) wo.heap.size 2 [.int .i64 (cv : Int), .int .i64 (cu : Int)] rfl (by omega) (by omega) rfl two_news (fun u hu => by simp at hu; rcases hu with rfl | rfl <;> rfl) (by omega) (by simp; omega) ?_); intro g5 cap5 w5 hown hg hat; have HQ5 := Lib.hid (HQ.out.push1L (M := [(cv : Int), (cu : Int)]) (by rw [HL1.out]; exact hown) hg hat); have HO5 : Hid (w5.ownsRow w.heap.size 3 1 (.slice A2 k c2) k (zs (m2 TT))) := (by have := HQ5.out.r2; rw [HL2.out] at this; exact this); have hs5 := HQ5.out.size; clear hown hg hat)
                      | (at_builtin; (refine app_snapL _ rfl _ _ rfl w.heap.size _ _ _ rfl (HO5.out.alloc _) w5.heap.size 2 [.int .i64 2, .int .i64 (r4 : Int)] rfl (by omega) (by omega) rfl two_news (fun u hu => by simp at hu; rcases hu with rfl | rfl <;> rfl) (by omega) (by simp; omega) ?_); intro g7 cap7 w7 hown hg hat; have HQ7 := Lib.hid (HQ5.out.push2L (M := [2, (r4 : Int)]) (by rw [HL2.out]; exact hown) hg hat); clear hown hg hat)
                      | fail)
                    have hmm := hM.out _ hN.out
                    rw [HL1.out, HL2.out] at HQ7
                    go_roundw
                    case rel => exact ⟨t + 1, k + 2, _, _, _, _, rfl, rfl, by have := HU.out; go_num, by have := HU.out; omega, by rw [HT'.out]; exact hmm.2.2, by rw [HT'.out, hmm.1, hmm.2.1]; exact HQ7.out⟩
                    case measure => have := HU.out; simp [intOf]; omega
    · obtain rfl : n = t + 1 := by omega
      have hi3 : ¬ (((t + 2 : Nat)) : Int) ≤ (((t + 1 : Nat)) : Int) := by omega
      have hfin : rgF (t + 1) t = gensV (t + 1) := HRg.out.1
      rw [hfin] at HQ HK
      have hk1 : ((gensV (t + 1)).map fun g => (g.1 : Int)).length = k := by rw [List.length_map]; exact HK.out
      have hk2 : ((gensV (t + 1)).map fun g => (g.2 : Int)).length = k := by rw [List.length_map]; exact HK.out
      have HO1 : Hid (wr.ownsRow w.heap.size 3 1 (.slice A1 k c1) ((gensV (t + 1)).map fun g => (g.1 : Int)).length (zs ((gensV (t + 1)).map fun g => (g.1 : Int)))) := HQ.out.r1
      have HO2 : Hid (wr.ownsRow w.heap.size 3 1 (.slice A2 k c2) ((gensV (t + 1)).map fun g => (g.2 : Int)).length (zs ((gensV (t + 1)).map fun g => (g.2 : Int)))) := HQ.out.r2
      clear hk1 hk2 hfin
      go_wp2
      refine bodyPost_ret (v := .tuple #[.slice A1 k c1, .slice A2 k c2]) ?_ rfl ⟨_, _, rfl, ?_, ?_, HQ.out.below⟩
      · simp [results, Try.results16, go_sem]
      · first | exact HO1.out | (have h9 := HO1.out; rw [List.length_map] at h9 ⊢; exact h9) | (have h9 := HO1.out; rw [List.length_map] at h9; exact h9)
      · first | exact HO2.out | (have h9 := HO2.out; rw [List.length_map] at h9 ⊢; exact h9) | (have h9 := HO2.out; rw [List.length_map] at h9; exact h9)
end Go.Proofs.Ytlagljnhbhnelaa
