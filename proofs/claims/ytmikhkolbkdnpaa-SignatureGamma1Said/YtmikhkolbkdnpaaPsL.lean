/- The contracts of Psi and Phi, with their values. -/
import Derived.Test.YtmikhkolbkdnpaaArL
import Derived.Test.YtmikhkolbkdnpaaLawK
import Derived.Test.YtmikhkolbkdnpaaBoxL
namespace Go.Proofs.Ytmikhkolbkdnpaa
open Go.RowKit
set_option linter.unusedVariables false

def psiL : List (Nat × Nat) → Nat → Nat
  | [], x => x
  | f :: l, x => psiL l (x + x / f.1)
def phiL : List (Nat × Nat) → Nat → Nat
  | [], x => x
  | f :: l, x => phiL l (x - x / f.1)
theorem psiL_append : ∀ (l m : List (Nat × Nat)) (x : Nat), psiL (l ++ m) x = psiL m (psiL l x)
  | [], _, _ => rfl
  | f :: l, m, x => psiL_append l m _
theorem phiL_append : ∀ (l m : List (Nat × Nat)) (x : Nat), phiL (l ++ m) x = phiL m (phiL l x)
  | [], _, _ => rfl
  | f :: l, m, x => phiL_append l m _
def psiN (n : Nat) : Nat := psiL (facs 2 n) n
def phiN (n : Nat) : Nat := phiL (facs 2 n) n
structure PsF (n : Nat) : Prop where
  bd : ∀ k, k ≤ (facs 2 n).length → psiL ((facs 2 n).take k) n ≤ 1000
  p2 : ∀ f ∈ facs 2 n, 2 ≤ f.1 ∧ f.1 ≤ 120
  fl : (facs 2 n).length ≤ 10
def psOk (n : Nat) : Bool := n == 0 || ((List.range ((facs 2 n).length + 1)).all (fun k => decide (psiL ((facs 2 n).take k) n ≤ 1000)) && (facs 2 n).all (fun f => decide (2 ≤ f.1) && decide (f.1 ≤ 120)) && decide ((facs 2 n).length ≤ 10))
theorem ps_a : (List.range 121).all psOk = true := by decide +kernel
theorem ps_of {n : Nat} (n1 : 1 ≤ n) (n2 : n ≤ 120) : PsF n := by
  have h := List.all_eq_true.1 ps_a n (List.mem_range.2 (by omega))
  unfold psOk at h
  rw [Bool.or_eq_true] at h
  rcases h with h | h
  · simp at h; omega
  · simp only [Bool.and_eq_true, List.all_eq_true, List.mem_range, decide_eq_true_eq] at h
    obtain ⟨⟨h3, h4⟩, h5⟩ := h
    exact ⟨fun k hk => h3 k (by omega), fun f hf => h4 f hf, h5⟩
set_option maxHeartbeats 3200000 in
set_option maxRecDepth 1000000 in
theorem psi_any (n : Nat) (w : World) (n1 : 1 ≤ n) (n2 : (n : Int) ≤ 120) :
    Calls Try.prog 42 #[.int .i64 (n : Int)] w fun e w' => e = .returned (.tuple #[.int .i64 (psiN n : Nat), .int .i64 0]) ∧ Below w.heap.size w w' := by
  have HC := Lib.hid (ps_of n1 (show n ≤ 120 by omega))
  have HFa := Lib.hid (fun W => factor_any n W n1 (by omega))
  have HP : Hid (psiL ((facs 2 n).take (facs 2 n).length) n = psiN n) := by show _ = _; rw [List.take_length]; rfl
  have HB : Hid (∀ k, k ≤ (facs 2 n).length → psiL ((facs 2 n).take k) n ≤ 1000) := HC.out.bd
  have HM : Hid (∀ (k : Nat) (h : k < (facs 2 n).length), 2 ≤ (facs 2 n)[k].1 ∧ (facs 2 n)[k].1 ≤ 120) := fun k h => HC.out.p2 _ (List.getElem_mem h)
  have hfl := HC.out.fl
  generalize facs 2 n = F at *
  go_enter Try.func42, Try.ntmps42
  go_wp2_with (first
    | (go_at_call 67; ((with_reducible refine (HFa.out _).mono ?_); rintro e w2 ⟨v, rfl, ho, hb⟩; have HSh := Lib.hid (own_shape ho); obtain ⟨la, ll, lc, rfl⟩ := ownsRow_slice ho; have HO := Lib.hid ho; have HB2 := Lib.hid hb; clear ho hb))
    | fail)
  have HRd : Hid (ll = F.length ∧ ∀ k (hk : k < F.length), ∃ g, la = some ⟨g, 0, none⟩ ∧ g < w2.heap.size ∧ w2.cell? ⟨g, k * 2, none⟩ = some (.int .i64 (F[k].1 : Int)) ∧ w2.cell? ⟨g, k * 2 + 1, none⟩ = some (.int .i64 (F[k].2 : Int))) := by
    rcases HSh.out with ⟨h1, h2⟩ | ⟨g, cap, h1, h2, h3, h4, h5⟩
    · subst h1
      have : la = none ∧ ll = 0 ∧ lc = 0 := by simpa using h2
      exact ⟨this.2.1, fun k hk => absurd hk (by simp)⟩
    · have : la = some ⟨g, 0, none⟩ ∧ ll = F.length ∧ lc = cap := by simpa using h1
      exact ⟨this.2.1, fun k hk => ⟨g, this.1, h3, h5 k hk⟩⟩
  obtain ⟨hll, hrd⟩ := HRd.out
  have HR := Lib.hid hrd
  subst hll
  clear HRd hrd HSh HO HFa HC
  go_loopw [6, 8, 20] (fun X _ I wr => ∃ k x : Nat, I = .int .i64 k ∧ X = .int .i64 x ∧ k ≤ F.length ∧ (x : Int) ≤ 1000 ∧ Hid (psiL (F.take k) n = x) ∧ Hid (Below w2.heap.size w2 wr)) (fun _ _ I _ => F.length - (intOf I).toNat)
  case atStart => exact ⟨0, n, rfl, rfl, Nat.zero_le _, by omega, rfl, Below.refl _ _⟩
  case round =>
    obtain ⟨k, x, rfl, rfl, hk, hx, HX, HW⟩ := hrel
    by_cases hkl : k < F.length
    · have hkli : (k : Int) < (F.length : Int) := by omega
      obtain ⟨g, rfl, hg, y1, y2⟩ := HR.out k hkl
      obtain ⟨p1, p2⟩ := HM.out k hkl
      have x1 : wr.cell? ⟨g, k * 2, none⟩ = some (.int .i64 (F[k].1 : Int)) := (HW.out.cell (p := ⟨g, k * 2, none⟩) hg).trans y1
      have x2 : wr.cell? ⟨g, k * 2 + 1, none⟩ = some (.int .i64 (F[k].2 : Int)) := (HW.out.cell (p := ⟨g, k * 2 + 1, none⟩) hg).trans y2
      have hgw : g < wr.heap.size := Nat.lt_of_lt_of_le hg HW.out.size
      have HN : Hid (psiL (F.take (k + 1)) n = x + x / F[k].1) := by
        show _ = _
        rw [List.take_add_one, List.getElem?_eq_getElem hkl, Option.toList_some, psiL_append, HX.out]; rfl
      have hb := HB.out (k + 1) (by omega)
      rw [HN.out] at hb
      have hd : (x : Int) / (F[k].1 : Int) = ((x / F[k].1 : Nat) : Int) := (Int.natCast_ediv _ _).symm
      clear y1 y2 HX
      generalize F[k].1 = p at *
      generalize F[k].2 = q at *
      have hp0 : ((p : Int) == 0) = false := by rw [beq_eq_false_iff_ne]; omega
      have hp1 : 1 ≤ (p : Int) := by omega
      obtain ⟨z, hz⟩ : ∃ z, z = x / p := ⟨_, rfl⟩
      rw [← hz] at hd HN hb
      have hzi : (x : Int) + (z : Int) ≤ 1000 := by omega
      clear hz
      go_wp2
      go_roundw
      case rel => exact ⟨k + 1, x + z, by go_num, by go_num, by omega, by omega, HN.out, HW.out.alloc (by have := HW.out.size; omega) _⟩
      case measure => simp [intOf]; omega
    · obtain rfl : k = F.length := by omega
      have hk3 : ¬ (F.length : Int) < (F.length : Int) := by omega
      have HE : Hid ((x : Int) = (psiN n : Nat)) := by show _ = _; rw [← HP.out, HX.out]
      go_wp2
      refine bodyPost_ret (v := .tuple #[.int .i64 (x : Int), .int .i64 0]) ?_ rfl ⟨by rw [HE.out], HB2.out.trans (HW.out.mono HB2.out.size)⟩
      simp [results, Try.results42, go_sem, *]
set_option maxHeartbeats 3200000 in
set_option maxRecDepth 1000000 in
theorem phi_any (n : Nat) (w : World) (n1 : 1 ≤ n) (n2 : (n : Int) ≤ 120) :
    Calls Try.prog 49 #[.int .i64 (n : Int)] w fun e w' => e = .returned (.tuple #[.int .i64 (phiN n : Nat), .int .i64 0]) ∧ Below w.heap.size w w' := by
  have HC := Lib.hid (ps_of n1 (show n ≤ 120 by omega))
  have HFa := Lib.hid (fun W => factor_any n W n1 (by omega))
  have HM : Hid (∀ (k : Nat) (h : k < (facs 2 n).length), 2 ≤ (facs 2 n)[k].1 ∧ (facs 2 n)[k].1 ≤ 120) := fun k h => HC.out.p2 _ (List.getElem_mem h)
  have hfl := HC.out.fl
  have HP : Hid (phiL ((facs 2 n).take (facs 2 n).length) n = phiN n) := by show _ = _; rw [List.take_length]; rfl
  clear HC
  generalize facs 2 n = F at *
  go_enter Try.func49, Try.ntmps49
  go_wp2_with (first
    | (go_at_call 67; ((with_reducible refine (HFa.out _).mono ?_); rintro e w2 ⟨v, rfl, ho, hb⟩; have HSh := Lib.hid (own_shape ho); obtain ⟨la, ll, lc, rfl⟩ := ownsRow_slice ho; have HO := Lib.hid ho; have HB2 := Lib.hid hb; clear ho hb))
    | fail)
  have HRd : Hid (ll = F.length ∧ ∀ k (hk : k < F.length), ∃ g, la = some ⟨g, 0, none⟩ ∧ g < w2.heap.size ∧ w2.cell? ⟨g, k * 2, none⟩ = some (.int .i64 (F[k].1 : Int)) ∧ w2.cell? ⟨g, k * 2 + 1, none⟩ = some (.int .i64 (F[k].2 : Int))) := by
    rcases HSh.out with ⟨h1, h2⟩ | ⟨g, cap, h1, h2, h3, h4, h5⟩
    · subst h1
      have : la = none ∧ ll = 0 ∧ lc = 0 := by simpa using h2
      exact ⟨this.2.1, fun k hk => absurd hk (by simp)⟩
    · have : la = some ⟨g, 0, none⟩ ∧ ll = F.length ∧ lc = cap := by simpa using h1
      exact ⟨this.2.1, fun k hk => ⟨g, this.1, h3, h5 k hk⟩⟩
  obtain ⟨hll, hrd⟩ := HRd.out
  have HR := Lib.hid hrd
  subst hll
  clear HRd hrd HSh HO HFa
  go_loopw [6, 8, 20] (fun X _ I wr => ∃ k x : Nat, I = .int .i64 k ∧ X = .int .i64 x ∧ k ≤ F.length ∧ (x : Int) ≤ 120 ∧ Hid (phiL (F.take k) n = x) ∧ Hid (Below w2.heap.size w2 wr)) (fun _ _ I _ => F.length - (intOf I).toNat)
  case atStart => exact ⟨0, n, rfl, rfl, Nat.zero_le _, by omega, rfl, Below.refl _ _⟩
  case round =>
    obtain ⟨k, x, rfl, rfl, hk, hx, HX, HW⟩ := hrel
    by_cases hkl : k < F.length
    · have hkli : (k : Int) < (F.length : Int) := by omega
      obtain ⟨g, rfl, hg, y1, y2⟩ := HR.out k hkl
      obtain ⟨p1, p2⟩ := HM.out k hkl
      have x1 : wr.cell? ⟨g, k * 2, none⟩ = some (.int .i64 (F[k].1 : Int)) := (HW.out.cell (p := ⟨g, k * 2, none⟩) hg).trans y1
      have x2 : wr.cell? ⟨g, k * 2 + 1, none⟩ = some (.int .i64 (F[k].2 : Int)) := (HW.out.cell (p := ⟨g, k * 2 + 1, none⟩) hg).trans y2
      have hgw : g < wr.heap.size := Nat.lt_of_lt_of_le hg HW.out.size
      have hd : (x : Int) / (F[k].1 : Int) = ((x / F[k].1 : Nat) : Int) := (Int.natCast_ediv _ _).symm
      have HN : Hid (phiL (F.take (k + 1)) n = x - x / F[k].1) := by
        show _ = _
        rw [List.take_add_one, List.getElem?_eq_getElem hkl, Option.toList_some, phiL_append, HX.out]; rfl
      clear y1 y2
      generalize F[k].1 = p at *
      generalize F[k].2 = q at *
      have hp0 : ((p : Int) == 0) = false := by rw [beq_eq_false_iff_ne]; omega
      have hp1 : 1 ≤ (p : Int) := by omega
      have hle := Nat.div_le_self x p
      obtain ⟨z, hz⟩ : ∃ z, z = x / p := ⟨_, rfl⟩
      rw [← hz] at hd hle HN
      have hzi : (z : Int) ≤ (x : Int) := by omega
      clear hz
      go_wp2
      go_roundw
      case rel => exact ⟨k + 1, x - z, by go_num, by rw [Int.natCast_sub hle], by omega, by omega, HN.out, HW.out.alloc (by have := HW.out.size; omega) _⟩
      case measure => simp [intOf]; omega
    · obtain rfl : k = F.length := by omega
      have hk3 : ¬ (F.length : Int) < (F.length : Int) := by omega
      have HE : Hid ((x : Int) = (phiN n : Nat)) := by show _ = _; rw [← HP.out, HX.out]
      go_wp2
      refine bodyPost_ret (v := .tuple #[.int .i64 (x : Int), .int .i64 0]) ?_ rfl ⟨by rw [HE.out], HB2.out.trans (HW.out.mono HB2.out.size)⟩
      simp [results, Try.results49, go_sem, *]
end Go.Proofs.Ytmikhkolbkdnpaa
