/- Plain mathematics: the entries of the coset search are small. -/
import Derived.Test.YtmikhkolbkdnpaaCosK
namespace Go.Proofs.Ytmikhkolbkdnpaa
set_option linter.unusedVariables false

/-- Small entries. -/
def okB (m : M4) : Bool := decide (m.1.natAbs ≤ 1000) && decide (m.2.1.natAbs ≤ 1000) && decide (m.2.2.1.natAbs ≤ 1000) && decide (m.2.2.2.natAbs ≤ 1000)
/-- The search with the cosets that are known as the bits of a number: are all entries small? -/
def fvs (cd : M4 → Nat) (mark : Nat → M4 → Nat) (r : Nat × List M4) (x : M4) : Nat × List M4 := if r.1.testBit (cd x) = true then r else (mark r.1 x, x :: r.2)
def fb (cd : M4 → Nat) (mark : Nat → M4 → Nat) : Nat → List M4 → Nat × List M4 → Bool
  | 0, _, _ => false
  | f + 1, fr, r => match fr with
    | [] => match r.2 with
      | [] => true
      | y :: b => fb cd mark f (y :: b).reverse (r.1, [])
    | m :: q => okB m && fb cd mark f q (fvs cd mark (fvs cd mark r (mS m)) (mT m))
/-- What a mark does. -/
structure Mrk (co : M4 → K4) (cd : M4 → Nat) (mark : Nat → M4 → Nat) : Prop where
  bit : ∀ (k : Nat) (x y : M4), dtM x = 1 → dtM y = 1 → (mark k x).testBit (cd y) = (k.testBit (cd y) || decide (co y = co x))
section
variable {co : M4 → K4} {cd : M4 → Nat} {mark : Nat → M4 → Nat}
/-- The bits are the keys of the matrices of a list. -/
def Rep (co : M4 → K4) (cd : M4 → Nat) (k : Nat) (L : List M4) : Prop := ∀ x, dtM x = 1 → k.testBit (cd x) = (L.map co).contains (co x)
theorem fvs_rep (hm : Mrk co cd mark) {k i : Nat} {L q b : List M4} {x : M4} (hx : dtM x = 1) (h : Rep co cd k L) (hi : i ≤ L.length) (hq : q ++ b.reverse = L.drop i) :
    Rep co cd (fvs cd mark (k, b) x).1 (vl co L x) ∧ q ++ (fvs cd mark (k, b) x).2.reverse = (vl co L x).drop i := by
  unfold fvs vl
  rw [h x hx]
  by_cases hc : (L.map co).contains (co x) = true
  · rw [if_pos hc, if_pos hc]
    exact ⟨h, hq⟩
  · rw [if_neg hc, if_neg hc]
    refine ⟨fun y hy => ?_, ?_⟩
    · show (mark k x).testBit (cd y) = _
      rw [hm.bit k x y hx hy, h y hy, List.map_append, Bool.eq_iff_iff]
      simp
    · show q ++ (x :: b).reverse = _
      rw [List.drop_append_of_le_length hi, List.reverse_cons, ← List.append_assoc, hq]
theorem fb_ok (hm : Mrk co cd mark) {N : Nat} (hN : ∀ j, j < N → j < (srun co j).L.length) : ∀ (f i : Nat) (fr : List M4) (r : Nat × List M4), i ≤ N → Rep co cd r.1 (srun co i).L → fr ++ r.2.reverse = (srun co i).L.drop i → fb cd mark f fr r = true →
    ∀ j, i ≤ j → j < N → okB ((srun co j).L.getD j (0, 0, 0, 0)) = true := by
  intro f
  induction f with
  | zero =>
    intro i fr r hi hr hq hb
    exact absurd hb (by unfold fb; exact Bool.false_ne_true)
  | succ f ih =>
    rintro i fr ⟨k, b⟩ hi hr hq hb j h1 h2
    have hlt := hN i (by omega)
    have hR := RI.all hN i hi
    simp only at hq hr
    cases fr with
    | nil =>
      cases b with
      | nil =>
        have := congrArg List.length hq
        simp at this
        omega
      | cons y b =>
        unfold fb at hb
        exact ih i _ (k, []) hi hr (by simpa using hq) hb j h1 h2
    | cons m q =>
      have hd : (srun co i).L.drop i = (srun co i).L.getD i (0, 0, 0, 0) :: (srun co i).L.drop (i + 1) := by
        rw [List.drop_eq_getElem_cons hlt, List.getD_eq_getElem?_getD, List.getElem?_eq_getElem hlt]; rfl
      rw [hd, List.cons_append] at hq
      injection hq with hq1 hq2
      subst hq1
      have hdm := hR.d _ (getD_inM hlt)
      unfold fb at hb
      simp only [Bool.and_eq_true] at hb
      obtain ⟨hb1, hb2⟩ := hb
      by_cases e : j = i
      · subst e; exact hb1
      · obtain ⟨e1, _⟩ := srun_one i hR.k
        have hle1 : i + 1 ≤ (srun co i).L.length := hlt
        obtain ⟨a1, a2⟩ := fvs_rep hm (x := mS ((srun co i).L.getD i (0, 0, 0, 0))) (by rw [dtM_S]; exact hdm) hr hle1 hq2
        generalize hr1 : fvs cd mark (k, b) (mS ((srun co i).L.getD i (0, 0, 0, 0))) = r1 at *
        obtain ⟨k1, q1⟩ := r1
        have hle2 : i + 1 ≤ (vl co (srun co i).L (mS ((srun co i).L.getD i (0, 0, 0, 0)))).length := by
          obtain ⟨E, hE⟩ := vl_ext (co := co) (srun co i).L (mS ((srun co i).L.getD i (0, 0, 0, 0)))
          rw [hE, List.length_append]; omega
        obtain ⟨b1, b2⟩ := fvs_rep hm (x := mT ((srun co i).L.getD i (0, 0, 0, 0))) (by rw [dtM_T]; exact hdm) a1 hle2 a2
        rw [← e1] at b1 b2
        exact ih (i + 1) q _ (by omega) b1 b2 hb2 j (by omega) h2
theorem ok_bd {m : M4} (h : okB m = true) : bd5 m ∧ bd5 (mS m) ∧ bd5 (mT m) := by
  obtain ⟨a, b, c, d⟩ := m
  unfold okB at h
  simp only [Bool.and_eq_true, decide_eq_true_eq] at h
  simp only [bd5, mS, mT]
  omega
/-- All entries of the search are small. -/
theorem fb_all (hm : Mrk co cd mark) {N f : Nat} (hN : ∀ j, j < N → j < (srun co j).L.length) (hb : fb cd mark f [(1, 0, 0, 1)] (mark 0 (1, 0, 0, 1), []) = true) : ∀ j, j < N → okB ((srun co j).L.getD j (0, 0, 0, 0)) = true := fun j hj => by
  refine fb_ok hm hN f 0 _ _ (Nat.zero_le _) (fun x hx => ?_) rfl hb j (Nat.zero_le _) hj
  show (mark 0 (1, 0, 0, 1)).testBit (cd x) = _
  rw [hm.bit 0 _ x rfl hx, Bool.eq_iff_iff]
  simp [srun]
end
/-- The codes. -/
def cdA (n : Nat) (c d : Int) : Nat := (c % (n : Int)).toNat * n + (d % (n : Int)).toNat
def cdB (n : Nat) (m : M4) : Nat := cdA n m.1 m.2.1 * (n * n) + cdA n m.2.2.1 m.2.2.2
theorem cdA_iff {n : Nat} (n1 : 1 ≤ n) {c d c' d' : Int} : cdA n c d = cdA n c' d' ↔ c % (n : Int) = c' % (n : Int) ∧ d % (n : Int) = d' % (n : Int) := by
  obtain ⟨e1, l1⟩ := toN (n := (n : Int)) (x := c) (by omega)
  obtain ⟨e2, l2⟩ := toN (n := (n : Int)) (x := d) (by omega)
  obtain ⟨e3, l3⟩ := toN (n := (n : Int)) (x := c') (by omega)
  obtain ⟨e4, l4⟩ := toN (n := (n : Int)) (x := d') (by omega)
  rw [e1, e2, e3, e4]
  unfold cdA
  generalize (c % (n : Int)).toNat = x1 at *
  generalize (d % (n : Int)).toNat = x2 at *
  generalize (c' % (n : Int)).toNat = x3 at *
  generalize (d' % (n : Int)).toNat = x4 at *
  obtain ⟨y1, y2⟩ := two_dm (k := n) (u := x1) (v := x2) (by omega)
  obtain ⟨y3, y4⟩ := two_dm (k := n) (u := x3) (v := x4) (by omega)
  constructor
  · intro h
    rw [h] at y1 y2
    omega
  · rintro ⟨h1, h2⟩
    have f1 : x1 = x3 := by omega
    have f2 : x2 = x4 := by omega
    rw [f1, f2]
theorem cdA_lt {n : Nat} (n1 : 1 ≤ n) (c d : Int) : cdA n c d < n * n := by
  obtain ⟨e1, l1⟩ := toN (n := (n : Int)) (x := c) (by omega)
  obtain ⟨e2, l2⟩ := toN (n := (n : Int)) (x := d) (by omega)
  exact two_lt' (by omega) (by omega)
def mkO (p : M4 → Nat) (k : Nat) (x : M4) : Nat := k ||| (1 <<< p x)
theorem mkO_bit (p : M4 → Nat) (k : Nat) (x : M4) (q : Nat) : (mkO p k x).testBit q = (k.testBit q || decide (q = p x)) := by
  unfold mkO
  rw [Nat.testBit_or, Nat.one_shiftLeft, Nat.testBit_two_pow]
  congr 1
  rw [Bool.eq_iff_iff]
  simp only [decide_eq_true_eq]
  exact ⟨fun h => h.symm, fun h => h.symm⟩
theorem mk2 {n : Nat} (n1 : 1 ≤ n) : Mrk (kc2 (n : Int)) (fun m => cdA n m.2.2.1 m.2.2.2) (mkO fun m => cdA n m.2.2.1 m.2.2.2) := by
  refine ⟨fun k x y _ _ => ?_⟩
  rw [mkO_bit]
  congr 1
  rw [Bool.eq_iff_iff]
  simp only [decide_eq_true_eq]
  rw [cdA_iff n1]
  unfold kc2
  constructor
  · rintro ⟨h1, h2⟩; rw [h1, h2]
  · intro h
    injection h with h1 h2
    injection h2 with h2 _
    exact ⟨h1, h2⟩
theorem mk3 {n : Nat} (n1 : 1 ≤ n) : Mrk (kc3 (n : Int)) (cdB n) (mkO (cdB n)) := by
  refine ⟨fun k x y _ _ => ?_⟩
  rw [mkO_bit]
  congr 1
  rw [Bool.eq_iff_iff]
  simp only [decide_eq_true_eq]
  unfold kc3 cdB
  have hl := cdA_lt n1 x.2.2.1 x.2.2.2
  have hl' := cdA_lt n1 y.2.2.1 y.2.2.2
  obtain ⟨y1, y2⟩ := two_dm (k := n * n) (u := cdA n x.1 x.2.1) hl
  obtain ⟨y3, y4⟩ := two_dm (k := n * n) (u := cdA n y.1 y.2.1) hl'
  constructor
  · intro h
    rw [h] at y3 y4
    have f1 := (cdA_iff n1).1 (y3.symm.trans y1)
    have f2 := (cdA_iff n1).1 (y4.symm.trans y2)
    rw [f1.1, f1.2, f2.1, f2.2]
  · intro h
    injection h with h1 h2
    injection h2 with h2 h3
    injection h3 with h3 h4
    rw [(cdA_iff n1).2 ⟨h1, h2⟩, (cdA_iff n1).2 ⟨h3, h4⟩]
/-- The mark of all multiples by units. -/
def mkV (n cN dN k : Nat) : Nat := (unitsN n).foldl (fun (k s : Nat) => k ||| (1 <<< ((s * cN % n) * n + s * dN % n))) k
def mkU (n : Nat) (pr : M4 → Int × Int) (k : Nat) (x : M4) : Nat := mkV n ((pr x).1 % (n : Int)).toNat ((pr x).2 % (n : Int)).toNat k
theorem cdA_mul {n : Nat} (n1 : 1 ≤ n) (s : Nat) (c d : Int) : (s * (c % (n : Int)).toNat % n) * n + s * (d % (n : Int)).toNat % n = cdA n ((s : Int) * c) ((s : Int) * d) := by
  have key : ∀ z : Int, s * (z % (n : Int)).toNat % n = ((s : Int) * z % (n : Int)).toNat := fun z => by
    obtain ⟨e1, l1⟩ := toN (n := (n : Int)) (x := z) (by omega)
    have h : (s : Int) * z % (n : Int) = (s : Int) * (z % (n : Int)) % (n : Int) := by rw [Int.mul_emod s z, Int.mul_emod s (z % (n : Int)), Int.emod_emod_of_dvd _ (Int.dvd_refl _)]
    rw [h]
    generalize z % (n : Int) = y at *
    obtain ⟨Y, rfl⟩ : ∃ Y : Nat, y = (Y : Int) := ⟨_, e1⟩
    rw [← Int.natCast_mul, ← Int.natCast_emod, Int.toNat_natCast, Int.toNat_natCast]
  unfold cdA
  rw [key c, key d]
theorem fold_bit (g : Nat → Nat) (q : Nat) : ∀ (l : List Nat) (k : Nat), (l.foldl (fun (k s : Nat) => k ||| (1 <<< g s)) k).testBit q = (k.testBit q || l.any fun s => decide (q = g s))
  | [], k => by simp
  | s :: l, k => by
    rw [List.foldl_cons, fold_bit g q l, Nat.testBit_or, Nat.one_shiftLeft, Nat.testBit_two_pow, List.any_cons, Bool.or_assoc]
    congr 2
    rw [Bool.eq_iff_iff]
    simp only [decide_eq_true_eq]
    exact ⟨fun h => h.symm, fun h => h.symm⟩
theorem mkN {n : Nat} (n1 : 1 ≤ n) (pr : M4 → Int × Int) : Mrk (fun m => ((nfU (n : Int) (pr m).1 (pr m).2, nfV (n : Int) (pr m).1 (pr m).2, 0, 0) : K4)) (fun m => cdA n (pr m).1 (pr m).2) (mkU n pr) := by
  refine ⟨fun k x y _ _ => ?_⟩
  unfold mkU mkV
  rw [fold_bit]
  simp only [cdA_mul n1]
  congr 1
  rw [Bool.eq_iff_iff, List.any_eq_true]
  simp only [decide_eq_true_eq]
  constructor
  · rintro ⟨s, hs, e⟩
    obtain ⟨h1, h2⟩ := mem_units.1 hs
    obtain ⟨f1, f2⟩ := (cdA_iff n1).1 e
    refine ((nfk_iff (n := (n : Int)) (by omega)).2 ⟨(s : Int), by simpa [Int.gcd] using h2, mod_iff.1 f1.symm, mod_iff.1 f2.symm⟩).symm
  · intro e
    obtain ⟨s, hs, h1, h2⟩ := (nfk_iff (n := (n : Int)) (by omega)).1 e.symm
    obtain ⟨e1, l1⟩ := toN (n := (n : Int)) (x := s) (by omega)
    have hu := unit_mod hs
    obtain ⟨S, hS⟩ : ∃ S : Nat, s % (n : Int) = (S : Int) := ⟨_, e1⟩
    rw [hS, Int.toNat_natCast] at l1
    have hm : ∀ z : Int, (S : Int) * z % (n : Int) = s * z % (n : Int) := fun z => by rw [← hS, Int.mul_emod, Int.emod_emod_of_dvd _ (Int.dvd_refl _), ← Int.mul_emod]
    rw [hS] at hu
    refine ⟨S, mem_units.2 ⟨by omega, by simpa [Int.gcd] using hu⟩, (cdA_iff n1).2 ⟨?_, ?_⟩⟩
    · rw [hm]; exact (mod_iff.2 h1).symm
    · rw [hm]; exact (mod_iff.2 h2).symm
def bOk (f : Nat) (cd : M4 → Nat) (mark : Nat → M4 → Nat) : Bool := fb cd mark f [(1, 0, 0, 1)] (mark 0 (1, 0, 0, 1), [])
def bOk2 (n : Nat) : Bool := n == 0 || decide (1152 < psiN n * phiN n) || bOk 2600 (fun m => cdA n m.2.2.1 m.2.2.2) (mkO fun m => cdA n m.2.2.1 m.2.2.2)
def bOk3 (n : Nat) : Bool := n == 0 || decide (1152 < psiN n * (phiN n * n)) || bOk 2600 (cdB n) (mkO (cdB n))
def bOk1 (n : Nat) : Bool := n == 0 || bOk 2600 (fun m => cdA n m.2.2.1 m.2.2.2) (mkU n fun m => (m.2.2.1, m.2.2.2))
def bOk0 (n : Nat) : Bool := n == 0 || bOk 2600 (fun m => cdA n m.1 m.2.1) (mkU n fun m => (m.1, m.2.1))
end Go.Proofs.Ytmikhkolbkdnpaa
