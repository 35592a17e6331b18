/- The contracts of arith's Phi and Psi, of cusps.Count0 and of signature's roots and pairs, for levels. -/
import Derived.Test.YtlagljnhbhnelaaArL
import Derived.Test.YtlagljnhbhnelaaJacL
import Derived.Deep.OwnRows
import Derived.Laws.MakeOwn
import Derived.Deep.Cut
import Derived.WalkSmall
namespace Go.Proofs.Ytlagljnhbhnelaa
open Go.RowKit
set_option linter.unusedVariables false
set_option linter.unusedSimpArgs false

def psF : List (Nat × Nat) → Nat → Nat
  | [], x => x
  | p :: l, x => psF l (x + x / p.1)
def phF : List (Nat × Nat) → Nat → Nat
  | [], x => x
  | p :: l, x => phF l (x - x / p.1)
def krF (A : Nat) : List (Nat × Nat) → Int → Int
  | [], x => x
  | p :: l, x => krF A l (x * (1 + krA A p.1))
def psV (n : Nat) : Nat := psF (facs 2 n) n
def phV (n : Nat) : Nat := phF (facs 2 n) n
theorem psF_append : ∀ l m x, psF (l ++ m) x = psF m (psF l x)
  | [], _, _ => rfl
  | p :: l, m, x => psF_append l m _
theorem phF_append : ∀ l m x, phF (l ++ m) x = phF m (phF l x)
  | [], _, _ => rfl
  | p :: l, m, x => phF_append l m _
theorem krF_append (A : Nat) : ∀ l m x, krF A (l ++ m) x = krF A m (krF A l x)
  | [], _, _ => rfl
  | p :: l, m, x => krF_append A l m _
theorem phF_le : ∀ l x, phF l x ≤ x
  | [], x => Nat.le_refl x
  | p :: l, x => Nat.le_trans (phF_le l _) (Nat.sub_le _ _)
theorem phV_le (n : Nat) : phV n ≤ n := phF_le _ n
def artOk (n : Nat) : Bool := n == 0 || ((List.range ((facs 2 n).length + 1)).all (fun k => decide (psF ((facs 2 n).take k) n ≤ 1000) && decide (0 ≤ krF 3 ((facs 2 n).take k) 1) && decide (krF 3 ((facs 2 n).take k) 1 ≤ 1000) && decide (0 ≤ krF 4 ((facs 2 n).take k) 1) && decide (krF 4 ((facs 2 n).take k) 1 ≤ 1000)) && (facs 2 n).all (fun p => decide (2 ≤ p.1) && decide (p.1 ≤ 120) && (p.1 == 2 || p.1 % 2 == 1)) && decide ((facs 2 n).length ≤ 10))
set_option maxRecDepth 100000 in
theorem art_all : ∀ n, n ≤ 120 → artOk n = true := by
  have : (List.range 121).all artOk = true := by decide +kernel
  intro n hn
  exact List.all_eq_true.1 this n (List.mem_range.2 (by omega))
structure ArtF (n : Nat) : Prop where
  bd : ∀ k, k ≤ (facs 2 n).length → psF ((facs 2 n).take k) n ≤ 1000
  b3 : ∀ k, k ≤ (facs 2 n).length → 0 ≤ krF 3 ((facs 2 n).take k) 1 ∧ krF 3 ((facs 2 n).take k) 1 ≤ 1000
  b4 : ∀ k, k ≤ (facs 2 n).length → 0 ≤ krF 4 ((facs 2 n).take k) 1 ∧ krF 4 ((facs 2 n).take k) 1 ≤ 1000
  p2 : ∀ f ∈ facs 2 n, 2 ≤ f.1 ∧ f.1 ≤ 120 ∧ (f.1 = 2 ∨ f.1 % 2 = 1)
  fl : (facs 2 n).length ≤ 10
theorem art_of {n : Nat} (n1 : 1 ≤ n) (n2 : n ≤ 120) : ArtF n := by
  have h := art_all n n2
  unfold artOk at h
  rw [Bool.or_eq_true] at h
  rcases h with h | h
  · simp at h; omega
  · simp only [Bool.and_eq_true, Bool.or_eq_true, beq_iff_eq, List.all_eq_true, List.mem_range, decide_eq_true_eq] at h
    obtain ⟨⟨h3, h4⟩, h5⟩ := h
    exact ⟨fun k hk => (h3 k (by omega)).1.1.1.1, fun k hk => ⟨(h3 k (by omega)).1.1.1.2, (h3 k (by omega)).1.1.2⟩, fun k hk => ⟨(h3 k (by omega)).1.2, (h3 k (by omega)).2⟩, fun f hf => ⟨(h4 f hf).1.1, (h4 f hf).1.2, (h4 f hf).2⟩, h5⟩
theorem kron_any (A p : Nat) (w : World) (hA : A = 3 ∨ A = 4) (p1 : 1 ≤ p) (p2 : p ≤ 120) (hp : p = 2 ∨ p % 2 = 1) :
    Calls Try.prog 64 #[.int .i64 (-(A : Int)), .int .i64 (p : Int)] w fun e w' => e = .returned (.int .i64 (krA A p)) ∧ w = w' := by
  rcases hp with rfl | hp
  · exact kron_even A w hA
  · have : krA A p = krO A p := by unfold krA; rw [if_neg (by omega)]
    rw [this]
    exact kron_odd A p w hA p1 (by omega) hp
/-- What the list of factors reads as. -/
theorem fac_read {w2 : World} {B : Nat} {F : List (Nat × Nat)} {la : Option Addr} {ll lc : Nat} (ho : w2.ownsRow B 91 2 (.slice la ll lc) F.length (flat F)) :
    ll = F.length ∧ ∀ k (hk : k < F.length), ∃ g, la = some ⟨g, 0, none⟩ ∧ g < w2.heap.size ∧ w2.cell? ⟨g, k * 2, none⟩ = some (.int .i64 (F[k].1 : Int)) ∧ w2.cell? ⟨g, k * 2 + 1, none⟩ = some (.int .i64 (F[k].2 : Int)) := by
  rcases own_shape ho with ⟨h1, h2⟩ | ⟨g, cap, h1, h2, h3, h4, h5⟩
  · subst h1
    have : la = none ∧ ll = 0 ∧ lc = 0 := by simpa using h2
    exact ⟨this.2.1, fun k hk => absurd hk (by simp)⟩
  · have : la = some ⟨g, 0, none⟩ ∧ ll = F.length ∧ lc = cap := by simpa using h1
    exact ⟨this.2.1, fun k hk => ⟨g, this.1, h3, h5 k hk⟩⟩
set_option maxHeartbeats 3200000 in
set_option maxRecDepth 1000000 in
theorem phi_any (n : Nat) (w : World) (n1 : 1 ≤ n) (n2 : (n : Int) ≤ 120) :
    Calls Try.prog 81 #[.int .i64 (n : Int)] w fun e w' => e = .returned (.tuple #[.int .i64 (phV n : Nat), .int .i64 0]) ∧ Below w.heap.size w w' := by
  have HC := Lib.hid (art_of n1 (show n ≤ 120 by omega))
  have HFa := Lib.hid (fun W => factor_any n W n1 (by omega))
  have HP : Hid (phF ((facs 2 n).take (facs 2 n).length) n = phV n) := by show _ = _; rw [List.take_length]; rfl
  have HM : Hid (∀ (k : Nat) (h : k < (facs 2 n).length), 2 ≤ (facs 2 n)[k].1 ∧ (facs 2 n)[k].1 ≤ 120) := fun k h => ⟨(HC.out.p2 _ (List.getElem_mem h)).1, (HC.out.p2 _ (List.getElem_mem h)).2.1⟩
  have hfl := HC.out.fl
  clear HC
  generalize facs 2 n = F at *
  go_enter Try.func81, Try.ntmps81
  go_wp2_with (first
    | (go_at_call 67; ((with_reducible refine (HFa.out _).mono ?_); rintro e w2 ⟨v, rfl, ho, hb⟩; obtain ⟨la, ll, lc, rfl⟩ := ownsRow_slice ho; have HRd := Lib.hid (fac_read ho); have HB2 := Lib.hid hb; clear ho hb))
    | fail)
  obtain ⟨hll, hrd⟩ := HRd.out
  have HR := Lib.hid hrd
  subst hll
  clear HRd hrd HFa
  go_loopw [6, 8, 20] (fun X _ I wr => ∃ k x : Nat, I = .int .i64 k ∧ X = .int .i64 x ∧ k ≤ F.length ∧ (x : Int) ≤ 120 ∧ Hid (phF (F.take k) n = x) ∧ Hid (Below w2.heap.size w2 wr)) (fun _ _ I _ => F.length - (intOf I).toNat)
  case atStart => exact ⟨0, n, rfl, rfl, Nat.zero_le _, by omega, rfl, Below.refl _ _⟩
  case round =>
    obtain ⟨k, x, rfl, rfl, hk, hx, HX, HW⟩ := hrel
    by_cases hkl : k < F.length
    · have hkli : (k : Int) < (F.length : Int) := by omega
      obtain ⟨g, rfl, hg, y1, y2⟩ := HR.out k hkl
      obtain ⟨p1, p2⟩ := HM.out k hkl
      have x1 : wr.cell? ⟨g, k * 2, none⟩ = some (.int .i64 (F[k].1 : Int)) := (HW.out.cell (p := ⟨g, k * 2, none⟩) hg).trans y1
      have x2 : wr.cell? ⟨g, k * 2 + 1, none⟩ = some (.int .i64 (F[k].2 : Int)) := (HW.out.cell (p := ⟨g, k * 2 + 1, none⟩) hg).trans y2
      have hgw : g < wr.heap.size := Nat.lt_of_lt_of_le hg HW.out.size
      have HN : Hid (phF (F.take (k + 1)) n = x - x / F[k].1) := by
        show _ = _
        rw [List.take_add_one, List.getElem?_eq_getElem hkl, Option.toList_some, phF_append, HX.out]; rfl
      have hd : (x : Int) / (F[k].1 : Int) = ((x / F[k].1 : Nat) : Int) := (Int.natCast_ediv _ _).symm
      clear y1 y2 HX
      generalize F[k].1 = p at *
      generalize F[k].2 = q at *
      have hp0 : ((p : Int) == 0) = false := by rw [beq_eq_false_iff_ne]; omega
      have hp1 : 1 ≤ (p : Int) := by omega
      have hle := Nat.div_le_self x p
      obtain ⟨z, hz⟩ : ∃ z, z = x / p := ⟨_, rfl⟩
      rw [← hz] at hd hle HN
      have hzi : (z : Int) ≤ (x : Int) := by omega
      clear hz
      go_wp2
      go_roundw
      case rel => exact ⟨k + 1, x - z, by go_num, by rw [Int.natCast_sub hle], by omega, by omega, HN.out, HW.out.alloc (by have := HW.out.size; omega) _⟩
      case measure => simp [intOf]; omega
    · obtain rfl : k = F.length := by omega
      have hk3 : ¬ (F.length : Int) < (F.length : Int) := by omega
      have HE : Hid ((x : Int) = (phV n : Nat)) := by show _ = _; rw [← HP.out, HX.out]
      go_wp2
      refine bodyPost_ret (v := .tuple #[.int .i64 (x : Int), .int .i64 0]) ?_ rfl ⟨by rw [HE.out], HB2.out.trans (HW.out.mono HB2.out.size)⟩
      simp [results, Try.results81, go_sem, *]
/-- The product of signature.roots. -/
def rtV (A sq n : Nat) : Int := if n % sq = 0 then 0 else krF A (facs 2 n) 1
end Go.Proofs.Ytlagljnhbhnelaa
