/- The search of the reference's Value: its exponents are the logarithms (plain mathematics, decided for n to 60). The reference's roots of unity in the words of the table: Root(t x, o) is the value with the logarithm t x (M/o). The search of the reference's Value, step by step (plain mathematics). The reference's Value: what the table says. The reference's Value at a unit: the search. The reference's Value of every character; Even. -/
import Derived.Test.YtlagljnhbhnelaaCharM
import Derived.Test.YtlagljnhbhnelaaRtX
import Derived.Test.YtlagljnhbhnelaaRgX
import Derived.Test.YtlagljnhbhnelaaChkX
import Derived.Test.YtlagljnhbhnelaaHeadT
namespace Go.Proofs.Ytlagljnhbhnelaa
set_option linter.unusedVariables false

/-- The i-th exponents, the first generator's least. -/
def tdg : Nat → List Nat → List Nat
  | _, [] => []
  | i, o :: O => i % o :: tdg (i / o) O
/-- The next exponents. -/
def nxE : List Nat → List Nat → List Nat
  | t :: T, o :: O => if t + 1 = o then 0 :: nxE T O else (t + 1) :: T
  | T, _ => T
theorem tdg_next : ∀ (O : List Nat) (i : Nat), (∀ o ∈ O, 1 ≤ o) → tdg (i + 1) O = nxE (tdg i O) O
  | [], _, _ => rfl
  | o :: O, i, h => by
    have ho := h o (List.mem_cons_self ..)
    have hm := Nat.mod_lt i ho
    show (i + 1) % o :: tdg ((i + 1) / o) O = (if i % o + 1 = o then 0 :: nxE (tdg (i / o) O) O else (i % o + 1) :: tdg (i / o) O)
    have hdm := Nat.div_add_mod i o
    by_cases e : i % o + 1 = o
    · rw [if_pos e]
      have h1 : i + 1 = o * (i / o + 1) := by rw [Nat.mul_add, Nat.mul_one]; omega
      have h2 : (i + 1) % o = 0 := by rw [h1, Nat.mul_mod_right]
      have h3 : (i + 1) / o = i / o + 1 := by rw [h1, Nat.mul_div_cancel_left _ ho]
      rw [h2, h3, tdg_next O (i / o) (fun x hx => h x (List.mem_cons_of_mem _ hx))]
    · rw [if_neg e]
      have h1 : i + 1 = (i % o + 1) + o * (i / o) := by omega
      have h2 : (i + 1) % o = i % o + 1 := by rw [h1, Nat.add_mul_mod_self_left, Nat.mod_eq_of_lt (by omega)]
      have h3 : (i + 1) / o = i / o := by rw [h1, Nat.add_mul_div_left _ _ ho, Nat.div_eq_of_lt (by omega), Nat.zero_add]
      rw [h2, h3]
def ywF (n v : Nat) : Nat → Nat → Nat
  | 0, y => y
  | k + 1, y => ywF n v k (y * v % n)
def yG (n : Nat) : List (Nat × Nat) → List Nat → Nat → Nat
  | g :: G, t :: T, y => yG n G T (ywF n g.1 t y)
  | _, _, y => y
def nmD : List Nat → List Nat → Nat
  | t :: T, o :: O => t + o * nmD T O
  | _, _ => 0
/-- The orders, the first generator's first. -/
def orN (n : Nat) : List Nat := (gensV n).map Prod.snd
def prN : List Nat → Nat
  | [] => 1
  | o :: O => o * prN O
def yV (n i : Nat) : Nat := yG n (gensV n) (tdg i (orN n)) (1 % n)
def vrOk (n : Nat) : Bool :=
  let L := lgN n
  let O := orN n
  let P := prN O
  ((List.range P).all fun i => fdE (yV n i) (tdg i O).reverse L) && L.all fun p => (Nat.blt (nmD p.2.reverse O) P && eqL (tdg (nmD p.2.reverse O) O) p.2.reverse) && Nat.beq (yV n (nmD p.2.reverse O)) p.1
set_option maxRecDepth 1000000 in
theorem vr_all : (List.range 60).all (fun i => vrOk (i + 1)) = true := by decide +kernel
structure VrF (n : Nat) : Prop where
  at_ : ∀ i, i < prN (orN n) → (yV n i, (tdg i (orN n)).reverse) ∈ lgN n
  ex : ∀ p ∈ lgN n, nmD p.2.reverse (orN n) < prN (orN n) ∧ tdg (nmD p.2.reverse (orN n)) (orN n) = p.2.reverse ∧ yV n (nmD p.2.reverse (orN n)) = p.1
theorem vr_of {n : Nat} (n1 : 1 ≤ n) (n2 : n ≤ 60) : VrF n := by
  have h := List.all_eq_true.1 vr_all (n - 1) (List.mem_range.2 (by omega))
  rw [show n - 1 + 1 = n by omega] at h
  unfold vrOk at h
  rw [Bool.and_eq_true] at h
  refine ⟨fun i hi => fdE_ok _ _ _ (List.all_eq_true.1 h.1 i (List.mem_range.2 hi)), fun p hp => ?_⟩
  have h1 := List.all_eq_true.1 h.2 p hp
  rw [Bool.and_eq_true, Bool.and_eq_true] at h1
  exact ⟨Nat.le_of_ble_eq_true h1.1.1, eqL_ok _ _ h1.1.2, Nat.eq_of_beq_eq_true h1.2⟩
theorem nmD_tdg : ∀ (O : List Nat) (i : Nat), nmD (tdg i O) O = i % prN O
  | [], i => by show 0 = i % 1; rw [Nat.mod_one]
  | o :: O, i => by
    show i % o + o * nmD (tdg (i / o) O) O = i % (o * prN O)
    rw [nmD_tdg O (i / o), Nat.mod_mul]
/-- A unit's first entry tells its logarithms. -/
theorem lg_uniq {L : List (Nat × List Nat)} (h : (L.map Prod.fst).Nodup) {a : Nat} {D D' : List Nat} (h1 : (a, D) ∈ L) (h2 : (a, D') ∈ L) : D = D' := by
  induction L with
  | nil => cases h1
  | cons p L ih =>
    rw [List.map_cons, List.nodup_cons] at h
    rcases List.mem_cons.1 h1 with e1 | e1
    · rcases List.mem_cons.1 h2 with e2 | e2
      · rw [← e1] at e2; exact (Prod.mk.inj e2).2.symm
      · exact absurd (List.mem_map_of_mem (f := Prod.fst) e2) (by rw [← e1] at h; exact h.1)
    · rcases List.mem_cons.1 h2 with e2 | e2
      · exact absurd (List.mem_map_of_mem (f := Prod.fst) e1) (by rw [← e2] at h; exact h.1)
      · exact ih h.2 e1 e2
/-- The search finds every unit, with its logarithms, and no number before it. -/
theorem vr_find {n a : Nat} (n1 : 1 ≤ n) (n2 : n ≤ 60) (ha : a < n) (hg : Nat.gcd a n = 1) : ∃ i0, i0 < prN (orN n) ∧ yV n i0 = a ∧ (tdg i0 (orN n)).reverse = fdLg (lgN n) a ∧ ∀ i, i < i0 → yV n i ≠ a := by
  have f := lg_of n1 n2
  have v := vr_of n1 n2
  have hm := fdLg_mem (lgN n) a ((f.un a ha).1 hg)
  obtain ⟨h1, h2, h3⟩ := v.ex _ hm
  simp only at h1 h2 h3
  refine ⟨_, h1, h3, by rw [h2, List.reverse_reverse], fun i hi he => ?_⟩
  have hi2 : i < prN (orN n) := Nat.lt_trans hi h1
  have h4 := v.at_ i hi2
  rw [he] at h4
  have h5 := lg_uniq f.nd h4 hm
  have h6 := nmD_tdg (orN n) i
  rw [Nat.mod_eq_of_lt hi2] at h6
  have h7 : tdg i (orN n) = (fdLg (lgN n) a).reverse := by rw [← h5, List.reverse_reverse]
  rw [h7] at h6
  omega
end Go.Proofs.Ytlagljnhbhnelaa
namespace Go.Proofs.Ytlagljnhbhnelaa
set_option linter.unusedVariables false

theorem root_red {N o M : Nat} (o1 : 1 ≤ o) (M1 : 1 ≤ M) (hd : M % o = 0) :
    N % o / Nat.gcd (N % o) o = N * (M / o) % M / Nat.gcd (N * (M / o) % M) M ∧ o / Nat.gcd (N % o) o = M / Nat.gcd (N * (M / o) % M) M := by
  have hM : o * (M / o) = M := Nat.mul_div_cancel' (Nat.dvd_of_mod_eq_zero hd)
  have hc : 0 < M / o := Nat.pos_of_ne_zero fun h => by rw [h, Nat.mul_zero] at hM; omega
  have hs : N % o * (M / o) = N * (M / o) % M := by rw [← Nat.mul_mod_mul_right, hM]
  constructor
  · rw [← red_scale (N % o) o (M / o) hc, hs, hM]
  · have h9 := red_scale o (N % o) (M / o) hc
    rw [Nat.gcd_comm (o * (M / o)), hs, hM, Nat.gcd_comm o] at h9
    exact h9.symm
/-- What Root answers, as the value of a logarithm. -/
theorem root_rou {N o M : Nat} (o1 : 1 ≤ o) (M1 : 1 ≤ M) (hd : M % o = 0) :
    rouV ((N * (M / o) % M : Nat) : Int) M = .agg #[.bool false, .int .i64 ((N % o / Nat.gcd (N % o) o : Nat) : Int), .int .i64 ((o / Nat.gcd (N % o) o : Nat) : Int)] := by
  obtain ⟨h1, h2⟩ := root_red (N := N) o1 M1 hd
  rw [rou_eq, h1, h2]
  unfold rouN rouD
  rw [if_neg (by omega), if_neg (by omega), Int.toNat_natCast, decide_eq_false (by omega)]
/-- Logarithms add up. -/
theorem lgM_add {a b M : Nat} (ha : a < M) (hb : b < M) : lgM (a : Int) (b : Int) M = (((a + b) % M : Nat) : Int) := by
  unfold lgM
  rw [if_neg (by omega), Int.natCast_emod, Int.natCast_add]
end Go.Proofs.Ytlagljnhbhnelaa
namespace Go.Proofs.Ytlagljnhbhnelaa
set_option linter.unusedVariables false

theorem tdg_len : ∀ (O : List Nat) (i : Nat), (tdg i O).length = O.length
  | [], _ => rfl
  | o :: O, i => by show (tdg (i / o) O).length + 1 = O.length + 1; rw [tdg_len O]
theorem tdg_lt : ∀ (O : List Nat) (i j : Nat) (h : j < (tdg i O).length) (h2 : j < O.length), (∀ o ∈ O, 1 ≤ o) → (tdg i O)[j] < O[j]
  | [], _, j, _, h2, _ => by simp at h2
  | o :: O, i, 0, _, _, ho => Nat.mod_lt i (ho o (List.mem_cons_self ..))
  | o :: O, i, j + 1, h, h2, ho => tdg_lt O (i / o) j (by simpa [tdg] using h) (by simpa using h2) (fun x hx => ho x (List.mem_cons_of_mem _ hx))
/-- All exponents are the last ones. -/
theorem full_nmD : ∀ (T O : List Nat), T.length = O.length → (∀ j (h : j < T.length) (h2 : j < O.length), T[j] + 1 = O[j]) → nmD T O + 1 = prN O
  | [], [], _, _ => rfl
  | t :: T, o :: O, hl, h => by
    have h0 : t + 1 = o := h 0 (by simp) (by simp)
    have ih := full_nmD T O (by simpa using hl) fun j h1 h2 => h (j + 1) (by simpa using h1) (by simpa using h2)
    show t + o * nmD T O + 1 = o * prN O
    rw [← ih, Nat.mul_add, Nat.mul_one]; omega
/-- The next exponents, from the first place that is not the last one. -/
theorem nxE_at : ∀ (T O : List Nat) (j : Nat) (hj : j < T.length) (hj2 : j < O.length), (∀ l (h : l < T.length) (h2 : l < O.length), l < j → T[l] + 1 = O[l]) → T[j] + 1 ≠ O[j] →
    ∀ l, (nxE T O).getD l 0 = if l < j then 0 else if l = j then T[j] + 1 else T.getD l 0
  | t :: T, o :: O, 0, _, _, _, h, l => by
    have h' : t + 1 ≠ o := h
    show (if t + 1 = o then 0 :: nxE T O else (t + 1) :: T).getD l 0 = _
    rw [if_neg h', if_neg (by omega)]
    cases l with
    | zero => simp
    | succ l => simp
  | t :: T, o :: O, j + 1, hj, hj2, hl, h, l => by
    have h0 : t + 1 = o := hl 0 (by simp) (by simp) (by omega)
    show (if t + 1 = o then 0 :: nxE T O else (t + 1) :: T).getD l 0 = _
    rw [if_pos h0]
    cases l with
    | zero => rw [if_pos (by omega)]; simp
    | succ l =>
      have ih := nxE_at T O j (by simpa using hj) (by simpa using hj2) (fun k h1 h2 h3 => hl (k + 1) (by simpa using h1) (by simpa using h2) (by omega)) h l
      rw [List.getD_cons_succ, ih]
      by_cases e1 : l < j
      · rw [if_pos e1, if_pos (show l + 1 < j + 1 by omega)]
      · by_cases e2 : l = j
        · rw [if_neg e1, if_pos e2, if_neg (show ¬ l + 1 < j + 1 by omega), if_pos (show l + 1 = j + 1 by omega)]; simp
        · rw [if_neg e1, if_neg e2, if_neg (show ¬ l + 1 < j + 1 by omega), if_neg (show ¬ l + 1 = j + 1 by omega)]; simp
theorem yG_snoc (n : Nat) : ∀ (G : List (Nat × Nat)) (T : List Nat) (g : Nat × Nat) (t y : Nat), G.length = T.length → yG n (G ++ [g]) (T ++ [t]) y = ywF n g.1 t (yG n G T y)
  | [], [], _, _, _, _ => rfl
  | a :: G, b :: T, g, t, y, h => yG_snoc n G T g t (ywF n a.1 b y) (by simpa using h)
def yP (n : Nat) (G : List (Nat × Nat)) (T : List Nat) (j : Nat) : Nat := yG n (G.take j) (T.take j) (1 % n)
theorem yP_succ {n j : Nat} {G : List (Nat × Nat)} {T : List Nat} (h : j < G.length) (h2 : j < T.length) : yP n G T (j + 1) = ywF n G[j].1 T[j] (yP n G T j) := by
  unfold yP
  rw [List.take_add_one, List.getElem?_eq_getElem h, List.take_add_one, List.getElem?_eq_getElem h2, Option.toList_some, Option.toList_some, yG_snoc n _ _ _ _ _ (by rw [List.length_take, List.length_take]; omega)]
theorem yP_end {n : Nat} {G : List (Nat × Nat)} {T : List Nat} (h : T.length = G.length) : yP n G T G.length = yG n G T (1 % n) := by
  unfold yP
  rw [List.take_length, ← h, List.take_length]
theorem ywF_snoc (n v : Nat) : ∀ (k y : Nat), ywF n v (k + 1) y = ywF n v k y * v % n
  | 0, _ => rfl
  | k + 1, y => by
    show ywF n v (k + 1) (y * v % n) = _
    rw [ywF_snoc n v k]; rfl
/-- The running logarithm of the value. -/
def kG (M : Nat) : List (Nat × Nat) → List Int → List Nat → Nat → Nat
  | g :: G, x :: E, t :: T, k => kG M G E T ((k + t * x.toNat * (M / g.2) % M) % M)
  | _, _, _, k => k
theorem kG_snoc (M : Nat) : ∀ (G : List (Nat × Nat)) (E : List Int) (T : List Nat) (g : Nat × Nat) (x : Int) (t k : Nat), G.length = E.length → G.length = T.length →
    kG M (G ++ [g]) (E ++ [x]) (T ++ [t]) k = (kG M G E T k + t * x.toNat * (M / g.2) % M) % M
  | [], [], [], _, _, _, _, _, _ => rfl
  | a :: G, b :: E, c :: T, g, x, t, k, h, h2 => kG_snoc M G E T g x t _ (by simpa using h) (by simpa using h2)
def kP (M : Nat) (G : List (Nat × Nat)) (E : List Int) (T : List Nat) (j : Nat) : Nat := kG M (G.take j) (E.take j) (T.take j) 0
theorem kP_succ {M j : Nat} {G : List (Nat × Nat)} {E : List Int} {T : List Nat} (h : j < G.length) (h2 : j < E.length) (h3 : j < T.length) : kP M G E T (j + 1) = (kP M G E T j + T[j] * E[j].toNat * (M / G[j].2) % M) % M := by
  unfold kP
  rw [List.take_add_one, List.getElem?_eq_getElem h, List.take_add_one, List.getElem?_eq_getElem h2, List.take_add_one, List.getElem?_eq_getElem h3, Option.toList_some, Option.toList_some, Option.toList_some, kG_snoc M _ _ _ _ _ _ _ (by rw [List.length_take, List.length_take]; omega) (by rw [List.length_take, List.length_take]; omega)]
theorem kP_lt {M : Nat} {G : List (Nat × Nat)} {E : List Int} {T : List Nat} (M1 : 1 ≤ M) (h2 : E.length = G.length) (h3 : T.length = G.length) : ∀ j, j ≤ G.length → kP M G E T j < M
  | 0, _ => by show 0 < M; omega
  | j + 1, h => by rw [kP_succ (by omega) (by omega) (by omega)]; exact Nat.mod_lt _ M1
def sumG (M : Nat) : List (Nat × Nat) → List Int → List Nat → Int
  | g :: G, x :: E, t :: T => (t : Int) * (x * ((M / g.2 : Nat) : Int)) + sumG M G E T
  | _, _, _ => 0
theorem dot_sum {M : Nat} : ∀ (G : List (Nat × Nat)) (E : List Int) (T : List Nat) (ss : List Int) (D : List Nat), G.length = E.length → G.length = T.length → dot (T.reverse ++ D) (stG M G E ss) = sumG M G E T + dot D ss
  | [], [], [], ss, D, _, _ => by simp [stG, sumG]
  | g :: G, x :: E, t :: T, ss, D, h, h2 => by
    show dot ((t :: T).reverse ++ D) (stG M G E (x * ((M / g.2 : Nat) : Int) :: ss)) = ((t : Int) * (x * ((M / g.2 : Nat) : Int)) + sumG M G E T) + dot D ss
    rw [List.reverse_cons, List.append_assoc, dot_sum G E T _ _ (by simpa using h) (by simpa using h2)]
    show sumG M G E T + ((t : Int) * (x * ((M / g.2 : Nat) : Int)) + dot D ss) = _
    omega
theorem kG_sum {M : Nat} : ∀ (G : List (Nat × Nat)) (E : List Int) (T : List Nat) (k : Nat), G.length = E.length → G.length = T.length → (∀ x ∈ E, 0 ≤ x) → k < M → ((kG M G E T k : Nat) : Int) = ((k : Int) + sumG M G E T) % (M : Int)
  | [], [], [], k, _, _, _, hk => by
    show (k : Int) = ((k : Int) + 0) % (M : Int)
    rw [Int.add_zero, Int.emod_eq_of_lt (by omega) (by omega)]
  | g :: G, x :: E, t :: T, k, h, h2, hx, hk => by
    have hM : 0 < M := by omega
    show ((kG M G E T ((k + t * x.toNat * (M / g.2) % M) % M) : Nat) : Int) = ((k : Int) + ((t : Int) * (x * ((M / g.2 : Nat) : Int)) + sumG M G E T)) % (M : Int)
    rw [kG_sum G E T _ (by simpa using h) (by simpa using h2) (fun y hy => hx y (List.mem_cons_of_mem _ hy)) (Nat.mod_lt _ hM)]
    have hx0 : ((x.toNat : Nat) : Int) = x := Int.toNat_of_nonneg (hx x (List.mem_cons_self ..))
    rw [Int.natCast_emod, Int.emod_add_emod, Int.natCast_add, Int.natCast_emod, Int.add_assoc, Int.add_comm (_ % (M : Int)), ← Int.add_assoc, Int.add_emod_emod, Int.natCast_mul, Int.natCast_mul, hx0, Int.mul_assoc]
    congr 1
    omega
/-- What the search ends with is what the table says. -/
theorem vr_val {n b i0 : Nat} {E : List Int} (n1 : 1 ≤ n) (n2 : n ≤ 60) (hl : E.length = (gensV n).length) (hE : ∀ x ∈ E, 0 ≤ x) (hb : b < n) (hg : Nat.gcd b n = 1) (h1 : (tdg i0 (orN n)).reverse = fdLg (lgN n) b) :
    ((kP (tbM (gensV n)) (gensV n) E (tdg i0 (orN n)) (gensV n).length : Nat) : Int) = (tbV n E).getD b 0 := by
  have hm := (tbc_le n1 n2).2 (gensV n).length (Nat.le_refl _)
  rw [List.take_length] at hm
  have hT : (tdg i0 (orN n)).length = (gensV n).length := by rw [tdg_len]; unfold orN; rw [List.length_map]
  have f := lg_of n1 n2
  have hmem := fdLg_mem _ _ ((f.un b hb).1 hg)
  have h2 := (ag_of n1 n2 hl).at_ _ hmem
  simp only at h2
  have h3 := dot_sum (M := tbM (gensV n)) (gensV n) E (tdg i0 (orN n)) [] [] hl.symm hT.symm
  rw [List.append_nil, h1] at h3
  have h4 : kP (tbM (gensV n)) (gensV n) E (tdg i0 (orN n)) (gensV n).length = kG (tbM (gensV n)) (gensV n) E (tdg i0 (orN n)) 0 := by
    unfold kP
    rw [List.take_length, ← hl, List.take_length, hl, ← hT, List.take_length]
  rw [h4, kG_sum _ _ _ _ hl.symm hT.symm hE (by omega), h2, h3]
  congr 1
  show (0 : Int) + _ = _ + dot [] []
  simp [dot]
theorem vr_out {n b : Nat} {E : List Int} (n1 : 1 ≤ n) (n2 : n ≤ 60) (hl : E.length = (gensV n).length) (hb : b < n) (hg : Nat.gcd b n ≠ 1) : (tbV n E).getD b 0 = -1 :=
  (cht_of n1 n2 hl).no b hb hg
end Go.Proofs.Ytlagljnhbhnelaa
namespace Go.Proofs.Ytlagljnhbhnelaa
open Go.RowKit
set_option linter.unusedVariables false
set_option linter.unusedSimpArgs false

set_option maxHeartbeats 800000 in
theorem modG_any (a q : Int) (w : World) (a1 : -4611686018427387904 ≤ a) (a2 : a ≤ 4611686018427387904) (q1 : 1 ≤ q) (q2 : q ≤ 10000) : Calls Try.prog 36 #[.int .i64 a, .int .i64 q] w fun e w' => e = .returned (.int .i64 (a % q)) ∧ w' = w := by
  have hm := tmod_add a q (by omega)
  have hs := tmod_same a q (by omega)
  have b1 : (a.tmod q).natAbs < q.natAbs := by rw [Int.natAbs_tmod]; exact Nat.mod_lt _ (by omega)
  by_cases h : a.tmod q < 0
  · have e := hm h
    clear hm hs
    go_enter Try.func36, Try.ntmps36
    go_wp2
    go_ret
    exact ⟨rfl, rfl⟩
  · have e := hs (by omega)
    clear hm hs
    rw [← e]
    go_enter Try.func36, Try.ntmps36
    go_wp2
    go_ret
    exact ⟨rfl, rfl⟩
theorem gcd_red (a : Int) {n : Nat} (n1 : 1 ≤ n) : Int.gcd a (n : Int) = Nat.gcd (a % (n : Int)).toNat n := by
  have h0 := Int.emod_nonneg a (show (n : Int) ≠ 0 by omega)
  have h1 : Int.gcd a (n : Int) = Int.gcd (a % (n : Int)) (n : Int) := by
    refine Nat.dvd_antisymm ?_ ?_
    · refine Int.dvd_gcd ?_ (Int.gcd_dvd_right _ _)
      rw [Int.emod_def]
      exact Int.dvd_sub (Int.gcd_dvd_left _ _) (Int.dvd_mul_of_dvd_left (Int.gcd_dvd_right _ _))
    · refine Int.dvd_gcd ?_ (Int.gcd_dvd_right _ _)
      have := Int.dvd_add (Int.gcd_dvd_left (a % (n : Int)) (n : Int)) (Int.dvd_mul_of_dvd_left (c := a / (n : Int)) (Int.gcd_dvd_right (a % (n : Int)) (n : Int)))
      rwa [Int.emod_add_mul_ediv] at this
  rw [h1]
  show Nat.gcd (a % (n : Int)).natAbs _ = _
  rw [Int.natAbs_natCast]
  congr 1
  omega
/-- The row of exponents, above the world w1. -/
structure VW (w1 wr : World) (L : Nat) (f : Nat → Nat) : Prop where
  row : wr.rowIs w1.heap.size 3 L (fun j => .int .i64 ((f j : Nat) : Int))
  keep : Below w1.heap.size w1 wr
section
variable {w1 wr w' : World} {L : Nat} {f g : Nat → Nat}
theorem VW.on (h : VW w1 wr L f) (hb : Below wr.heap.size wr w') : VW w1 w' L f :=
  ⟨h.row.of_block (hb.block _ h.row.lt), h.keep.trans (hb.mono h.keep.size)⟩
theorem VW.put (h : VW w1 wr L f) (i v : Nat) : VW w1 (wr.setCell ⟨w1.heap.size, i, none⟩ (.int .i64 ((v : Nat) : Int))) L (fun j => if j = i then v else f j) :=
  ⟨World.rowIs.congr (h.row.set i _) fun j _ => (by by_cases e : j = i <;> simp [e]), h.keep.setCell (Nat.le_refl _) _⟩
theorem VW.congr (h : VW w1 wr L f) (e : ∀ j, j < L → f j = g j) : VW w1 wr L g :=
  ⟨World.rowIs.congr h.row fun j hj => (by rw [e j hj]), h.keep⟩
end
/-- The exponents as they stand in the row. -/
def rdT (w1 wr : World) (L : Nat) : List Nat := (List.range L).map fun j => (intOf ((wr.cell? ⟨w1.heap.size, j, none⟩).getD undef)).toNat
theorem VW.rd {w1 wr : World} {L : Nat} {T : List Nat} (h : VW w1 wr L (fun j => T.getD j 0)) (hl : T.length = L) : rdT w1 wr L = T := by
  have key : ∀ j, j < L → (intOf ((wr.cell? ⟨w1.heap.size, j, none⟩).getD undef)).toNat = T.getD j 0 := fun j hj => by
    rw [h.row.cell hj]; simp [intOf]
  have h2 : rdT w1 wr L = (List.range L).map fun j => T.getD j 0 := List.map_congr_left fun j hj => key j (List.mem_range.1 hj)
  rw [h2]
  refine List.ext_getElem (by simp [hl]) fun j h3 h4 => ?_
  rw [List.getElem_map, List.getElem_range, List.getD_eq_getElem?_getD, List.getElem?_eq_getElem h4]; rfl
set_option maxHeartbeats 1600000 in
set_option maxRecDepth 1000000 in
theorem rval_non (n : Nat) (E : List Int) (a : Int) (A : Option Addr) (c : Nat) (w : World) (n1 : 1 ≤ n) (n2 : (n : Int) ≤ 60) (hl : E.length = (gensV n).length) (a1 : -1073741824 ≤ a) (a2 : a ≤ 1073741824) (hg : Nat.gcd (a % (n : Int)).toNat n ≠ 1) :
    Calls Try.prog 33 #[.agg #[.int .i64 (n : Int), .slice A E.length c], .int .i64 a] w fun e w' => e = .returned (rouV ((tbV n E).getD (a % (n : Int)).toNat 0) (tbM (gensV n))) ∧ Below w.heap.size w w' := by
  have hj1 : (a % (n : Int)).toNat < n := by have h1 := Int.emod_lt_of_pos a (show 0 < (n : Int) by omega); have := Int.emod_nonneg a (show (n : Int) ≠ 0 by omega); omega
  rw [vr_out n1 (by omega) hl hj1 hg]
  have HG := Lib.hid (fun W => rGcd_any a (n : Int) W (by unfold Mid; omega) (by unfold Mid; omega))
  rw [gcd_red a n1] at HG
  have hne : (((Nat.gcd (a % (n : Int)).toNat n : Nat) : Int) != 1) = true := by rw [bne_iff_ne]; omega
  have X0 : Hid (((w.alloc (.cells #[.int .i64 (n : Int), .slice A E.length c] 33)).alloc (.cells #[.bool false, .int .i64 0, .int .i64 0] 48)).heap[w.heap.size]? = some (.cells #[.int .i64 (n : Int), .slice A E.length c] 33 (0, 0))) := block_alloc (heap_alloc_new w _) _
  have R0 : Hid (((w.alloc (.cells #[.int .i64 (n : Int), .slice A E.length c] 33)).alloc (.cells #[.bool false, .int .i64 0, .int .i64 0] 48)).heap[w.heap.size + 1]? = some (.cells #[.bool false, .int .i64 0, .int .i64 0] 48 (0, 0))) := by
    have := heap_alloc_new (w.alloc (.cells #[.int .i64 (n : Int), .slice A E.length c] 33)) (.cells #[.bool false, .int .i64 0, .int .i64 0] 48)
    show _ = _; simpa using this
  have B0 : Hid (Below w.heap.size w ((w.alloc (.cells #[.int .i64 (n : Int), .slice A E.length c] 33)).alloc (.cells #[.bool false, .int .i64 0, .int .i64 0] 48))) := below2 w _ _
  obtain ⟨x0, x1, _⟩ := cells_two X0.out
  clear hg hj1 hl
  generalize Nat.gcd (a % (n : Int)).toNat n = g at *
  go_enter Try.func33, Try.ntmps33
  go_upto_region 3 with (first
    | (go_at_call 35; ((with_reducible refine (HG.out _).mono ?_); rintro e w2 ⟨rfl, hd⟩; have R2 := Lib.hid (block_below R0.out (bel_drewN hd)); have B2 := Lib.hid (B0.out.trans ((bel_drewN hd).mono B0.out.size)); clear hd))
    | fail)
  obtain ⟨⟨r0, r1, r2⟩, rf⟩ := three_of_blockD R2.out
  have R6 := Lib.hid (three_setV R2.out (.bool true) (.int .i64 0) (.int .i64 0))
  obtain ⟨⟨s0, s1, s2⟩, sf⟩ := three_of_blockD R6.out
  have HB6 := Lib.hid (((B2.out.setCell (p := ⟨w.heap.size + 1, 0, none⟩) (by show _ ≤ w.heap.size + 1; omega) (.bool true)).setCell (p := ⟨w.heap.size + 1, 1, none⟩) (by show _ ≤ w.heap.size + 1; omega) (.int .i64 0)).setCell (p := ⟨w.heap.size + 1, 2, none⟩) (by show _ ≤ w.heap.size + 1; omega) (.int .i64 0))
  go_wp2
  refine bodyPost_ret (v := .agg #[.bool true, .int .i64 0, .int .i64 0]) ?_ rfl ⟨by unfold rouV; rw [if_pos rfl], HB6.out⟩
  simp [results, Try.results33, go_sem, s0, s1, s2]
end Go.Proofs.Ytlagljnhbhnelaa
namespace Go.Proofs.Ytlagljnhbhnelaa
open Go.RowKit
set_option linter.unusedVariables false
set_option linter.unusedSimpArgs false

theorem tdg_zero : ∀ (O : List Nat) (j : Nat), (tdg 0 O).getD j 0 = 0
  | [], j => by simp [tdg]
  | o :: O, 0 => by show 0 % o = 0; exact Nat.zero_mod o
  | o :: O, j + 1 => by
    show (tdg (0 / o) O).getD j 0 = 0
    rw [Nat.zero_div]; exact tdg_zero O j
theorem rgen_cells (n : Nat) (w : World) (n1 : 1 ≤ n) (n2 : (n : Int) ≤ 60) (hL : 0 < (gensV n).length) :
    Calls Try.prog 16 #[.int .i64 (n : Int)] w fun e w' => ∃ b1 o1 c1 b2 o2 c2, e = .returned (.tuple #[.slice (some ⟨b1, o1, none⟩) (gensV n).length c1, .slice (some ⟨b2, o2, none⟩) (gensV n).length c2]) ∧ b1 < w'.heap.size ∧ b2 < w'.heap.size ∧
      (∀ k (hk : k < (gensV n).length), w'.cell? ⟨b1, o1 + k, none⟩ = some (.int .i64 ((gensV n)[k].1 : Int)) ∧ w'.cell? ⟨b2, o2 + k, none⟩ = some (.int .i64 ((gensV n)[k].2 : Int))) ∧ Below w.heap.size w w' := by
  refine (rgenr_any n w n1 n2).mono fun e w' ⟨v1, v2, he, h1, h2, hb⟩ => ?_
  obtain ⟨A1, c1, rfl, r1⟩ := own_rdz h1
  obtain ⟨A2, c2, rfl, r2⟩ := own_rdz h2
  obtain ⟨b1, o1, rfl, hb1, k1⟩ := r1.2.2.1 (by rw [List.length_map]; exact hL)
  obtain ⟨b2, o2, rfl, hb2, k2⟩ := r2.2.2.1 (by rw [List.length_map]; exact hL)
  rw [List.length_map, List.length_map] at he
  refine ⟨b1, o1, c1, b2, o2, c2, he, hb1, hb2, fun k hk => ⟨?_, ?_⟩, hb⟩
  · have := k1 k (by rw [List.length_map]; exact hk)
    rw [this]; simp
  · have := k2 k (by rw [List.length_map]; exact hk)
    rw [this]; simp
theorem VW.other {w1 wr : World} {L : Nat} {f : Nat → Nat} (h : VW w1 wr L f) {p : Addr} (hp : w1.heap.size < p.block) (v : Value) : VW w1 (wr.setCell p v) L f :=
  ⟨h.row.setOther (by omega) v, h.keep.setCell (by omega) v⟩
theorem ywF_lt {n v : Nat} : ∀ (k y : Nat), y < n → ywF n v k y < n
  | 0, _, h => h
  | k + 1, y, h => ywF_lt k _ (Nat.mod_lt _ (by omega))
theorem yP_lt {n : Nat} (n1 : 1 ≤ n) {G : List (Nat × Nat)} {T : List Nat} (hl : T.length = G.length) : ∀ j, j ≤ G.length → yP n G T j < n
  | 0, _ => Nat.mod_lt _ n1
  | j + 1, h => by rw [yP_succ (by omega) (by omega)]; exact ywF_lt _ _ (yP_lt n1 hl j (by omega))
theorem rou_zero {M : Nat} (M1 : 1 ≤ M) : rouN 0 M = 0 ∧ rouD 0 M = 1 := by
  unfold rouN rouD
  rw [if_neg (by omega), if_neg (by omega)]
  refine ⟨by simp, ?_⟩
  show ((M / Nat.gcd 0 M : Nat) : Int) = 1
  rw [Nat.gcd_zero_left, Nat.div_self (by omega)]; rfl
set_option maxHeartbeats 6400000 in
set_option maxRecDepth 1000000 in
theorem rval_unit (n : Nat) (E : List Int) (a : Int) (A : Option Addr) (c : Nat) (w : World) (n1 : 1 ≤ n) (n2 : (n : Int) ≤ 60) (hE : RdZ w w.heap.size A c E) (hck : ckX n E = 0) (a1 : -1073741824 ≤ a) (a2 : a ≤ 1073741824) (hg : Nat.gcd (a % (n : Int)).toNat n = 1) (hL0 : 0 < (gensV n).length) :
    Calls Try.prog 33 #[.agg #[.int .i64 (n : Int), .slice A E.length c], .int .i64 a] w fun e w' => e = .returned (rouV ((tbV n E).getD (a % (n : Int)).toNat 0) (tbM (gensV n))) ∧ Below w.heap.size w w' := by
  obtain ⟨iI, hI, y0, y1, y2⟩ := info_parts Try.infoInt
  obtain ⟨hl, hEb⟩ := ck_ok hck
  have hj1 : (a % (n : Int)).toNat < n := by have h1 := Int.emod_lt_of_pos a (show 0 < (n : Int) by omega); have := Int.emod_nonneg a (show (n : Int) ≠ 0 by omega); omega
  obtain ⟨i0, hi0, hy0, hd0, hnb⟩ := vr_find n1 (show n ≤ 60 by omega) hj1 hg
  have hE0 : ∀ x ∈ E, 0 ≤ x := fun x hx => by
    obtain ⟨k, hk, rfl⟩ := List.mem_iff_getElem.1 hx
    exact (hEb k hk (by omega)).1
  have hval := vr_val n1 (show n ≤ 60 by omega) hl hE0 hj1 hg hd0
  have hmM := (tbc_le n1 (show n ≤ 60 by omega)).2 (gensV n).length (Nat.le_refl _)
  rw [List.take_length] at hmM
  have HGe := Lib.hid (fun W => rgen_cells n W n1 n2 hL0)
  have hgf := gens_facts n1 (show n ≤ 60 by omega)
  have hlgf := lg_of n1 (show n ≤ 60 by omega)
  have hod : ∀ k (hk : k < (gensV n).length), tbM (gensV n) % (gensV n)[k].2 = 0 := fun k hk => (hlgf.od _ (List.mem_reverse.2 (List.mem_map_of_mem (List.getElem_mem hk)))).1
  have HG := Lib.hid (fun W => rGcd_any a (n : Int) W (by unfold Mid; omega) (by unfold Mid; omega))
  rw [gcd_red a n1, hg] at HG
  have HMo := Lib.hid (fun W => modG_any a (n : Int) W (by omega) (by omega) (by omega) (by omega))
  have hb0 : a % (n : Int) = (((a % (n : Int)).toNat : Nat) : Int) := by have := Int.emod_nonneg a (show (n : Int) ≠ 0 by omega); omega
  rw [hb0] at HMo
  have hgl := hgf.len
  have HTl := Lib.hid (fun i => show (tdg i (orN n)).length = (gensV n).length by rw [tdg_len]; unfold orN; rw [List.length_map])
  have hol : (orN n).length = (gensV n).length := by unfold orN; rw [List.length_map]
  have hogt : ∀ k (hk : k < (gensV n).length) (hk2 : k < (orN n).length), (orN n)[k] = (gensV n)[k].2 := fun k hk hk2 => by simp [orN]
  have HO1 : Hid (∀ o ∈ orN n, 1 ≤ o) := fun o ho => by
    unfold orN at ho
    obtain ⟨g, hg2, rfl⟩ := List.mem_map.1 ho
    exact hgf.o1 g hg2
  have hgk : ∀ k (hk : k < (gensV n).length), 1 ≤ (gensV n)[k].2 ∧ (gensV n)[k].2 ≤ 60 ∧ (gensV n)[k].1 ≤ 60 := fun k hk => ⟨hgf.o1 _ (List.getElem_mem hk), hgf.o2 _ (List.getElem_mem hk), hgf.v _ (List.getElem_mem hk)⟩
  have HGk := Lib.hid hgk
  have HOd := Lib.hid hod
  have HOg := Lib.hid hogt
  have HEb := Lib.hid hEb
  have HVal := Lib.hid hval
  have HNb := Lib.hid hnb
  have HY0 := Lib.hid hy0
  have HGV : Hid (∀ i, yP n (gensV n) (tdg i (orN n)) (gensV n).length = yV n i) := fun i => yP_end (HTl.out i)
  obtain ⟨M1, M2⟩ := hmM
  have X0 : Hid (((w.alloc (.cells #[.int .i64 (n : Int), .slice A E.length c] 33)).alloc (.cells #[.bool false, .int .i64 0, .int .i64 0] 48)).heap[w.heap.size]? = some (.cells #[.int .i64 (n : Int), .slice A E.length c] 33 (0, 0))) := block_alloc (heap_alloc_new w _) _
  have R0 : Hid (((w.alloc (.cells #[.int .i64 (n : Int), .slice A E.length c] 33)).alloc (.cells #[.bool false, .int .i64 0, .int .i64 0] 48)).heap[w.heap.size + 1]? = some (.cells #[.bool false, .int .i64 0, .int .i64 0] 48 (0, 0))) := by
    have := heap_alloc_new (w.alloc (.cells #[.int .i64 (n : Int), .slice A E.length c] 33)) (.cells #[.bool false, .int .i64 0, .int .i64 0] 48)
    show _ = _; simpa using this
  have B0 : Hid (Below w.heap.size w ((w.alloc (.cells #[.int .i64 (n : Int), .slice A E.length c] 33)).alloc (.cells #[.bool false, .int .i64 0, .int .i64 0] 48))) := below2 w _ _
  obtain ⟨x0, x1, _⟩ := cells_two X0.out
  obtain ⟨be, oe, rfl, hbe, hce⟩ := hE.2.2.1 (by omega)
  have HCe := Lib.hid hce
  rw [hl] at X0 R0 B0 x0 x1
  have hlE := Lib.hid hl
  have hLi : ((gensV n).length : Int) ≤ 8 := by omega
  have HMK : Hid (∀ W : World, (Instr.makeSlice 23 (.int .i64 ((gensV n).length : Int)) (.int .i64 ((gensV n).length : Int))).run Try.prog W = .ok (.slice (some ⟨W.heap.size, 0, none⟩) (gensV n).length (gensV n).length) (W.alloc (.cells (madeCells #[.int .i64 0] (gensV n).length) 3))) := fun W =>
    run_make_row (P := Try.prog) 23 3 iI (.int .i64 0) Try.underlying23 hI y0 y1 rfl .i64 .i64 (gensV n).length (by rw [y2]; omega) (by omega) W
  have hmk := HMK.out
  clear hE hck hEb hod hogt hgk hgf hlgf hval hnb hy0 hce hE0 hd0 hb0
  rw [hl]
  clear hl
  obtain ⟨b, hb⟩ : ∃ b, b = (a % (n : Int)).toNat := ⟨_, rfl⟩
  rw [← hb] at HVal HNb HY0 HMo hj1 hg ⊢
  clear hb hg
  generalize hVe : (tbV n E).getD b 0 = kv at *
  clear hVe
  generalize orN n = O at *
  generalize tbM (gensV n) = M at *
  generalize gensV n = G at *
  go_enter Try.func33, Try.ntmps33
  go_upto_region 6 with (first
    | (go_at_call 35; ((with_reducible refine (HG.out _).mono ?_); rintro e w2 ⟨rfl, hd⟩; have X2 := Lib.hid (block_below X0.out (bel_drewN hd)); have R2 := Lib.hid (block_below R0.out (bel_drewN hd)); have B2 := Lib.hid (B0.out.trans ((bel_drewN hd).mono B0.out.size)); clear hd))
    | (go_at_call 16; ((with_reducible refine (HGe.out _).mono ?_); rintro e w1 ⟨b1, o1, k1, b2, o2, k2, rfl, hs1, hs2, hcc, hb⟩; have X3 := Lib.hid (block_below X2.out hb); have R3 := Lib.hid (block_below R2.out hb); have B3 := Lib.hid (B2.out.trans (hb.mono B2.out.size)); have HCc := Lib.hid hcc; clear hb hcc))
    | fail)
  clear HMK hmk x0 x1 X0 R0 B0 X2 R2 B2 HG HGe
  have HV0 : Hid (VW w1 (w1.alloc (.cells (madeCells #[.int .i64 0] G.length) 3)) G.length (fun j => (tdg 0 O).getD j 0)) := ⟨World.rowIs.congr (World.rowIs_made _ _ _ _) fun j _ => by rw [tdg_zero]; rfl, below1 w1 _⟩
  have HRd : Hid (∀ (wr : World) (i : Nat), i ≤ i0 → VW w1 wr G.length (fun j => (tdg i O).getD j 0) → nmD (rdT w1 wr G.length) O = i) := fun wr i hi h => by
    rw [h.rd (HTl.out i), nmD_tdg, Nat.mod_eq_of_lt (by omega)]
  have HXr : Hid (∀ wr, Below w1.heap.size w1 wr → wr.cell? ⟨w.heap.size, 0, none⟩ = some (.int .i64 (n : Int)) ∧ wr.cell? ⟨w.heap.size, 1, none⟩ = some (.slice (some ⟨be, oe, none⟩) G.length c)) := fun wr hb => by
    have h := cells_two (block_below X3.out hb)
    exact ⟨h.1, h.2.1⟩
  have HCg : Hid (∀ wr, Below w1.heap.size w1 wr → ∀ k (hk : k < G.length) (hk2 : k < E.length), wr.cell? ⟨b1, o1 + k, none⟩ = some (.int .i64 (G[k].1 : Int)) ∧ wr.cell? ⟨b2, o2 + k, none⟩ = some (.int .i64 (G[k].2 : Int)) ∧ wr.cell? ⟨be, oe + k, none⟩ = some (.int .i64 E[k])) := fun wr hb k hk hk2 => by
    refine ⟨(hb.cell (p := ⟨b1, o1 + k, none⟩) hs1).trans (HCc.out k hk).1, (hb.cell (p := ⟨b2, o2 + k, none⟩) hs2).trans (HCc.out k hk).2, ?_⟩
    have h9 := (B3.out.trans (hb.mono B3.out.size)).cell (p := ⟨be, oe + k, none⟩) hbe
    exact h9.trans (HCe.out k hk2)
  go_loopw [9, 10, 11, 12, 13] (fun _ _ _ _ _ wr => ∃ i, i ≤ i0 ∧ Hid (VW w1 wr G.length (fun j => (tdg i O).getD j 0))) (fun _ _ _ _ _ wr => i0 + 1 - nmD (rdT w1 wr G.length) O)
  case atStart => exact ⟨0, Nat.zero_le _, HV0.out⟩
  case round =>
    clear HV0
    obtain ⟨i, hi, HV⟩ := hrel
    have HMs := Lib.hid (HRd.out wr i hi HV.out)
    have hTl := HTl.out i
    have HTb : Hid (∀ k (hk : k < (tdg i O).length) (h2 : k < G.length), (tdg i O)[k] < G[k].2) := fun k hk h2 => by
      have h9 := tdg_lt O i k hk (by omega) HO1.out
      rwa [HOg.out k h2 (by omega)] at h9
    have HYi := Lib.hid (HGV.out i)
    obtain ⟨T, hTe⟩ : ∃ T, T = tdg i O := ⟨_, rfl⟩
    have HTe := Lib.hid hTe
    have HV1 : Hid (VW w1 wr G.length (fun j => T.getD j 0)) := by rw [hTe]; exact HV.out
    have HTb1 : Hid (∀ k (hk : k < T.length) (h2 : k < G.length), T[k] < G[k].2) := by subst hTe; exact HTb.out
    have HYi1 : Hid (yP n G T G.length = yV n i) := by rw [hTe]; exact HYi.out
    rw [← hTe] at hTl
    clear hTe HV HTb HYi
    have hsz := HV1.out.keep.size
    have HR01 : Hid (∀ W : World, Calls Try.prog 55 #[.int .i64 0, .int .i64 1] W fun e w' => e = .returned (.agg #[.bool false, .int .i64 0, .int .i64 1]) ∧ Below W.heap.size W w') := fun W => root_any 0 1 W (by omega) (by omega) (by omega)
    obtain ⟨r1, hr1⟩ : ∃ r1, r1 = 1 % n := ⟨_, rfl⟩
    have h1n : (1 : Int) % (n : Int) = (r1 : Int) := by rw [hr1, Int.natCast_emod]; rfl
    have ht1n : Int.tmod 1 (n : Int) = (r1 : Int) := by rw [hr1, Int.ofNat_tmod]; rfl
    have HR1 := Lib.hid hr1
    clear hr1
    have hn0 : ((n : Int) == 0) = false := by rw [beq_eq_false_iff_ne]; omega
    have hn01 : ¬ ((n : Int) = 0) := by omega
    have hn02 : ¬ (n = 0) := by omega
    go_upto_region 6 with fail
    go_cut [9, 10] (fun s9 s10 wx => ∃ vb : Nat, s9 = .int .i64 (r1 : Int) ∧ s10 = .pointer (some ⟨vb, 0, none⟩) ∧ w1.heap.size < vb ∧ Hid (VW w1 wx G.length (fun j => T.getD j 0)) ∧ Hid (wx.heap[vb]? = some (.cells #[.bool false, .int .i64 0, .int .i64 1] 48 (0, 0))))
    case first =>
      have D0 : Hid (Below wr.heap.size wr wr.drew) := Below.drew (Below.refl _ _)
      have D0a : Hid (Below wr.heap.size wr (wr.alloc (.cells #[.bool false, .int .i64 0, .int .i64 0] 48)).drew) := Below.drew (below1 wr _)
      have M0a : Hid ((wr.alloc (.cells #[.bool false, .int .i64 0, .int .i64 0] 48)).drew.heap[wr.heap.size]? = some (.cells #[.bool false, .int .i64 0, .int .i64 0] 48 (0, 0))) := heap_alloc_new wr _
      have hrow := HV1.out.row.lt
      go_region_held3 (fun w' => True)
        (with_reducible first | exact trivial | fail)
        (first
          | (go_at_call 55; ((with_reducible refine (HR01.out _).mono ?_); rintro e z1 ⟨rfl, hb⟩; have D1 : Hid (Below wr.heap.size wr z1) := (by with_reducible first | exact Lib.hid (bel0 D0.out hb) | exact Lib.hid (bel0 D0a.out hb) | fail); (try (with_reducible (first | (have MB1 := Lib.hid (block_below M0a.out hb); obtain ⟨⟨g0, g1, g2⟩, gf⟩ := three_of_blockD MB1.out; have hlz := lt_of_block MB1.out) | fail))); clear hb))
          | fail)
      all_goals
        go_wp2_with fail
        go_meet
        first
          | (have h9 := MB1.out; exact ⟨wr.heap.size, by first | rfl | rw [ht1n] | rw [h1n], rfl, by omega, ((((HV1.out.on D1.out).other (p := ⟨wr.heap.size, 0, none⟩) (by show _ < wr.heap.size; omega) _).other (p := ⟨wr.heap.size, 1, none⟩) (by show _ < wr.heap.size; omega) _).other (p := ⟨wr.heap.size, 2, none⟩) (by show _ < wr.heap.size; omega) _), three_setV h9 _ _ _⟩)
          | exact ⟨z1.heap.size, by first | rfl | rw [ht1n] | rw [h1n], rfl, by have := D1.out.size; omega, (HV1.out.on D1.out).on (below1 z1 _), heap_alloc_new z1 _⟩
          | fail
    case rest =>
      obtain ⟨vb, rfl, rfl, hvb, HV2, HB2⟩ := hcut
      clear HV1 HR01 h1n ht1n
      have HS0 : Hid (rouN ((kP M G E T 0 : Nat) : Int) M = 0 ∧ rouD ((kP M G E T 0 : Nat) : Int) M = 1) := rou_zero M1
      have HYl := Lib.hid (yP_lt (G := G) (T := T) n1 hTl)
      have HYs := Lib.hid (fun (j : Nat) (h1 : j < G.length) (h2 : j < T.length) => yP_succ (n := n) h1 h2)
      have HKs := Lib.hid (fun (j : Nat) (h1 : j < G.length) (h2 : j < E.length) (h3 : j < T.length) => kP_succ (M := M) h1 h2 h3)
      have HKl := Lib.hid (kP_lt (G := G) (E := E) (T := T) M1 hlE.out hTl)
      have HY0a : Hid ((yP n G T 0 : Nat) = r1) := by show _ = _; rw [HR1.out]; rfl
      go_wp2
      go_loopw [9, 11, 12] (fun Y J _ wx => ∃ j : Nat, Y = .int .i64 ((yP n G T j : Nat) : Int) ∧ J = .int .i64 (j : Int) ∧ j ≤ G.length ∧ Hid (VW w1 wx G.length (fun j => T.getD j 0)) ∧ Hid (wx.heap[vb]? = some (.cells #[.bool false, .int .i64 (rouN ((kP M G E T j : Nat) : Int) M), .int .i64 (rouD ((kP M G E T j : Nat) : Int) M)] 48 (0, 0)))) (fun _ J _ _ => G.length - (intOf J).toNat)
      case atStart => exact ⟨0, by rw [HY0a.out], rfl, Nat.zero_le _, HV2.out, by rw [HS0.out.1, HS0.out.2]; exact HB2.out⟩
      case round =>
        clear HV2 HB2 HS0 HY0a
        obtain ⟨j, rfl, rfl, hj, HV3, HB3⟩ := hrel
        have hyl := HYl.out j hj
        have hkl := HKl.out j hj
        by_cases hjl : j < G.length
        · have hjli : (j : Int) < (G.length : Int) := by omega
          have hjE : j < E.length := by have := hlE.out; omega
          have hjT : j < T.length := by omega
          obtain ⟨q1, q2, q3⟩ := HCg.out wr HV3.out.keep j hjl hjE
          have q4a := HV3.out.row.cell hjl
          have q4 : wr.cell? ⟨w1.heap.size, j, none⟩ = some (.int .i64 ((T[j] : Nat) : Int)) := by rw [q4a, List.getD_eq_getElem?_getD, List.getElem?_eq_getElem hjT]; rfl
          clear q4a
          have htb := HTb1.out j hjT hjl
          obtain ⟨g1, g2, g3⟩ := HGk.out j hjl
          have hyS := HYs.out j hjl hjT
          have hkS := HKs.out j hjl hjE hjT
          have hMo := HOd.out j hjl
          obtain ⟨e1, e2⟩ := HEb.out j hjE hjl
          have hE2 : E[j] = ((E[j].toNat : Nat) : Int) := by omega
          have HYS := Lib.hid hyS
          have HKS := Lib.hid hkS
          rw [hE2] at q3
          have hX : E[j].toNat < 60 := by omega
          clear hyS hkS e1 e2 hE2
          generalize E[j].toNat = X at *
          generalize T[j] = t at *
          generalize hg : G[j] = gg at *
          clear hg
          obtain ⟨v, o⟩ := gg
          simp only at q1 q2 htb g1 g2 g3 HYS HKS hMo
          obtain ⟨y, hy⟩ : ∃ y, y = yP n G T j := ⟨_, rfl⟩
          rw [← hy] at hyl HYS ⊢
          have HYe := Lib.hid hy
          clear hy
          obtain ⟨wo, rfl⟩ : ∃ wo : World, wo = wr := ⟨_, rfl⟩
          have hvi : (v : Int) ≤ 60 := by omega
          have hYw := Lib.hid (fun k => ywF_lt (n := n) (v := v) k y hyl)
          have hYk := Lib.hid (fun k => ywF_snoc n v k y)
          go_wp2
          go_loopw [9, 12] (fun Y K wi => ∃ k : Nat, Y = .int .i64 ((ywF n v k y : Nat) : Int) ∧ K = .int .i64 (k : Int) ∧ k ≤ t ∧ wi = wo) (fun _ K _ => t - (intOf K).toNat)
          case atStart => exact ⟨0, rfl, rfl, Nat.zero_le _, rfl⟩
          case round =>
            obtain ⟨k, rfl, rfl, hk, rfl⟩ := hrel
            by_cases hkt : k < t
            · have hkti : (k : Int) < (t : Int) := by omega
              have hz := hYw.out k
              have HZ := Lib.hid (hYk.out k)
              generalize ywF n v k y = z at *
              have hzb : z * v ≤ 60 * 60 := Nat.mul_le_mul (by omega) g3
              have hzv : (z : Int) * (v : Int) = ((z * v : Nat) : Int) := (Int.natCast_mul _ _).symm
              have hmd := Nat.mod_lt (z * v) (show 0 < n by omega)
              have hem : ((z * v : Nat) : Int) % (n : Int) = ((z * v % n : Nat) : Int) := (Int.natCast_emod _ _).symm
              have htm : Int.tmod ((z * v : Nat) : Int) (n : Int) = ((z * v % n : Nat) : Int) := (Int.ofNat_tmod _ _).symm
              generalize z * v % n = z2 at *
              generalize z * v = zv at *
              have wzv : IntKind.i64.wrap (zv : Int) = (zv : Int) := IntWalk.i64_in _ (by omega)
              have wz2 : IntKind.i64.wrap (z2 : Int) = (z2 : Int) := IntWalk.i64_in _ (by omega)
              go_wp2
              go_roundw
              case rel => exact ⟨k + 1, by rw [HZ.out], by go_num, by omega, by first | rfl | trivial⟩
              case measure => simp [intOf]; omega
            · obtain rfl : k = t := by omega
              have hk3 : ¬ (k : Int) < (k : Int) := by omega
              have HY2 : Hid (ywF n v k y = yP n G T (j + 1)) := by show _ = _; rw [HYS.out]
              clear hYw hYk HYS
              generalize ywF n v k y = y2 at *
              generalize hka : kP M G E T j = ka at *
              have HKa := Lib.hid hka
              clear hka
              have hka2 : k * X ≤ 60 * 60 := Nat.mul_le_mul (by omega) (by omega)
              have hkX : (k : Int) * (X : Int) = ((k * X : Nat) : Int) := (Int.natCast_mul _ _).symm
              have HRt := Lib.hid (fun W => root_any (k * X) o W g1 (by omega) (by omega))
              have hrr := root_rou (N := k * X) (o := o) (M := M) g1 M1 hMo
              have hkb := Nat.mod_lt (k * X * (M / o)) (show 0 < M by omega)
              have HKS2 : Hid (kP M G E T (j + 1) = (ka + k * X * (M / o) % M) % M) := HKS.out
              generalize k * X * (M / o) % M = kk at *
              have HTi := Lib.hid (fun W => times_any (ka : Int) (kk : Int) M W M1 M2 (by omega) (by omega) (by omega) (by omega))
              rw [lgM_add hkl hkb] at HTi
              have HK3 : Hid ((((ka + kk) % M : Nat) : Int) = ((kP M G E T (j + 1) : Nat) : Int)) := by show _ = _; rw [HKS2.out]
              rw [HK3.out] at HTi
              have HRt2 : Hid (∀ W : World, Calls Try.prog 55 #[.int .i64 ((k * X : Nat) : Int), .int .i64 (o : Int)] W fun e w' => e = .returned (rouV (kk : Int) M) ∧ Below W.heap.size W w') := fun W => by rw [hrr]; exact HRt.out W
              rw [rou_eq, rou_eq, rou_eq, decide_eq_false (show ¬ (ka : Int) = -1 by omega), decide_eq_false (show ¬ (kk : Int) = -1 by omega), decide_eq_false (show ¬ ((kP M G E T (j + 1) : Nat) : Int) = -1 by omega)] at HTi
              rw [rou_eq, decide_eq_false (show ¬ (kk : Int) = -1 by omega)] at HRt2
              clear HRt hrr HKS HKS2 HK3 hkl hkb HKs
              generalize rouN (ka : Int) M = a0 at *
              generalize rouD (ka : Int) M = b0 at *
              generalize rouN (kk : Int) M = a1' at *
              generalize rouD (kk : Int) M = b1' at *
              generalize hA2 : rouN ((kP M G E T (j + 1) : Nat) : Int) M = a2' at *
              generalize hB2 : rouD ((kP M G E T (j + 1) : Nat) : Int) M = b2' at *
              have HA2 := Lib.hid hA2
              have HBb2 := Lib.hid hB2
              clear hA2 hB2
              generalize k * X = kX at *
              have wkX : IntKind.i64.wrap (kX : Int) = (kX : Int) := IntWalk.i64_in _ (by omega)
              have hvl := lt_of_block HB3.out
              have hrl := HV3.out.row.lt
              have hsz3 := HV3.out.keep.size
              obtain ⟨xx0, xx1⟩ := HXr.out wr HV3.out.keep
              have hbl := B3.out.size
              have HKc : Hid (∀ w', Below wr.heap.size wr w' → (((w'.cell? ⟨vb, 0, none⟩ = some (.bool false) ∧ w'.cell? ⟨vb, 1, none⟩ = some (.int .i64 a0)) ∧ w'.cell? ⟨vb, 2, none⟩ = some (.int .i64 b0)) ∧ (w'.cell? ⟨w1.heap.size, j, none⟩ = some (.int .i64 (k : Int)) ∧ w'.cell? ⟨w.heap.size, 1, none⟩ = some (.slice (some ⟨be, oe, none⟩) G.length c))) ∧ (w'.cell? ⟨be, oe + j, none⟩ = some (.int .i64 (X : Int)) ∧ w'.cell? ⟨b2, o2 + j, none⟩ = some (.int .i64 (o : Int)))) := fun w' hb => by
                obtain ⟨⟨u0, u1, u2⟩, _⟩ := three_of_blockD (block_below HB3.out hb)
                have hxl : w.heap.size < w1.heap.size := lt_of_block X3.out
                exact ⟨⟨⟨⟨u0, u1⟩, u2⟩, (hb.cell (p := ⟨w1.heap.size, j, none⟩) hrl).trans q4, (hb.cell (p := ⟨w.heap.size, 1, none⟩) (by show w.heap.size < wr.heap.size; omega)).trans xx1⟩, (hb.cell (p := ⟨be, oe + j, none⟩) (by show be < wr.heap.size; omega)).trans q3, (hb.cell (p := ⟨b2, o2 + j, none⟩) (by show b2 < wr.heap.size; omega)).trans q2⟩
              have D0 : Hid (Below wr.heap.size wr wr.drew) := Below.drew (Below.refl _ _)
              go_upto_region 14 with fail
              refine region_E 17 (fun w' => (((w'.cell? ⟨vb, 0, none⟩ = some (.bool false) ∧ w'.cell? ⟨vb, 1, none⟩ = some (.int .i64 a0)) ∧ w'.cell? ⟨vb, 2, none⟩ = some (.int .i64 b0)) ∧ (w'.cell? ⟨w1.heap.size, j, none⟩ = some (.int .i64 (k : Int)) ∧ w'.cell? ⟨w.heap.size, 1, none⟩ = some (.slice (some ⟨be, oe, none⟩) G.length c))) ∧ (w'.cell? ⟨be, oe + j, none⟩ = some (.int .i64 (X : Int)) ∧ w'.cell? ⟨b2, o2 + j, none⟩ = some (.int .i64 (o : Int)))) (by kernel_rfl) ?_
              have hHeld := HKc.out _ D0.out
              refine take_E (n := 17) (i := 0) (v := ?v0) rfl (by kernel_rfl) (fun _ _ _ h => h) ?hy0 (by rfl) hHeld ?rest0
              case hy0 => (intro w9 hSw; (try dsimp only at hSw); go_simp <;> with_reducible rfl)
              (try simp only [Act.put, List.setIfInBounds_toArray, List.set_cons_zero, List.set_cons_succ])
              refine take_E (n := 17) (i := 1) (v := ?v1) rfl (by kernel_rfl) (fun _ _ _ h => h) ?hy1 (by rfl) hHeld ?rest1
              case hy1 => (intro w9 hSw; (try dsimp only at hSw); go_simp <;> with_reducible rfl)
              (try simp only [Act.put, List.setIfInBounds_toArray, List.set_cons_zero, List.set_cons_succ])
              refine take_E (n := 17) (i := 2) (v := ?v2) rfl (by kernel_rfl) (fun _ _ _ h => h) ?hy2 (by rfl) hHeld ?rest2
              case hy2 => (intro w9 hSw; (try dsimp only at hSw); go_simp <;> with_reducible rfl)
              (try simp only [Act.put, List.setIfInBounds_toArray, List.set_cons_zero, List.set_cons_succ])
              refine take_E (n := 17) (i := 3) (v := ?v3) rfl (by kernel_rfl) (fun _ _ _ h => h) ?hy3 (by rfl) hHeld ?rest3
              case hy3 => (intro w9 hSw; (try dsimp only at hSw); go_simp <;> with_reducible rfl)
              (try simp only [Act.put, List.setIfInBounds_toArray, List.set_cons_zero, List.set_cons_succ])
              refine take_E (n := 17) (i := 4) (v := ?v4) rfl (by kernel_rfl) (fun _ _ _ h => h) ?hy4 (by rfl) hHeld ?rest4
              case hy4 => (intro w9 hSw; (try dsimp only at hSw); go_simp <;> with_reducible rfl)
              (try simp only [Act.put, List.setIfInBounds_toArray, List.set_cons_zero, List.set_cons_succ])
              refine take_E (n := 17) (i := 5) (v := ?v5) rfl (by kernel_rfl) (fun _ _ _ h => h) ?hy5 (by rfl) hHeld ?rest5
              case hy5 => (intro w9 hSw; (try dsimp only at hSw); go_simp <;> with_reducible rfl)
              (try simp only [Act.put, List.setIfInBounds_toArray, List.set_cons_zero, List.set_cons_succ])
              refine take_E (n := 17) (i := 6) (v := ?v6) rfl (by kernel_rfl) (fun _ _ _ h => h) ?hy6 (by rfl) hHeld ?rest6
              case hy6 => (intro w9 hSw; (try dsimp only at hSw); go_simp <;> with_reducible rfl)
              (try simp only [Act.put, List.setIfInBounds_toArray, List.set_cons_zero, List.set_cons_succ])
              refine take_E (n := 17) (i := 7) (v := ?v7) rfl (by kernel_rfl) (fun _ _ _ h => h) ?hy7 (by rfl) hHeld ?rest7
              case hy7 => (intro w9 hSw; (try dsimp only at hSw); go_simp <;> with_reducible rfl)
              (try simp only [Act.put, List.setIfInBounds_toArray, List.set_cons_zero, List.set_cons_succ])
              refine take_E (n := 17) (i := 8) (v := ?v8) rfl (by kernel_rfl) (fun _ _ _ h => h) ?hy8 (by rfl) hHeld ?rest8
              case hy8 => (intro w9 hSw; (try dsimp only at hSw); go_simp <;> with_reducible rfl)
              (try simp only [Act.put, List.setIfInBounds_toArray, List.set_cons_zero, List.set_cons_succ])
              refine take_E (n := 17) (i := 9) (v := ?v9) rfl (by kernel_rfl) (fun _ _ _ h => h) ?hy9 (by rfl) hHeld ?rest9
              case hy9 => (intro w9 hSw; (try dsimp only at hSw); go_simp <;> with_reducible rfl)
              (try simp only [Act.put, List.setIfInBounds_toArray, List.set_cons_zero, List.set_cons_succ])
              refine take_E (n := 17) (i := 10) (v := ?v10) rfl (by kernel_rfl) (fun _ _ _ h => h) ?hy10 (by rfl) hHeld ?rest10
              case hy10 => (intro w9 hSw; (try dsimp only at hSw); go_simp <;> with_reducible rfl)
              (try simp only [Act.put, List.setIfInBounds_toArray, List.set_cons_zero, List.set_cons_succ])
              refine take_E (n := 17) (i := 11) (v := ?v11) rfl (by kernel_rfl) (fun _ _ _ h => h) ?hy11 (by rfl) hHeld ?rest11
              case hy11 => (intro w9 hSw; (try dsimp only at hSw); go_simp <;> with_reducible rfl)
              (try simp only [Act.put, List.setIfInBounds_toArray, List.set_cons_zero, List.set_cons_succ])
              refine take_E (n := 17) (i := 12) (v := ?v12) rfl (by kernel_rfl) (fun _ _ _ h => h) ?hy12 (by rfl) hHeld ?rest12
              case hy12 => (intro w9 hSw; (try dsimp only at hSw); go_simp <;> with_reducible rfl)
              (try simp only [Act.put, List.setIfInBounds_toArray, List.set_cons_zero, List.set_cons_succ])
              refine take_E (n := 17) (i := 13) (v := ?v13) rfl (by kernel_rfl) (fun _ _ _ h => h) ?hy13 (by rfl) hHeld ?rest13
              case hy13 => (intro w9 hSw; (try dsimp only at hSw); go_simp <;> with_reducible rfl)
              (try simp only [Act.put, List.setIfInBounds_toArray, List.set_cons_zero, List.set_cons_succ])
              refine take_E (n := 17) (i := 14) (v := ?v14) rfl (by kernel_rfl) (fun _ _ _ h => h) ?hy14 (by rfl) hHeld ?rest14
              case hy14 => (intro w9 hSw; (try dsimp only at hSw); go_simp <;> with_reducible rfl)
              (try simp only [Act.put, List.setIfInBounds_toArray, List.set_cons_zero, List.set_cons_succ])
              refine one_E (n := 17) (i := 15) (by kernel_rfl) rfl (fun K hK => ?_)
              go_simp
              go_at_call 55
              refine (HRt2.out _).mono ?_
              rintro e w5 ⟨rfl, hb⟩
              have D1 : Hid (Below wr.heap.size wr w5) := bel0 D0.out hb
              clear hb
              refine hK.out _ _ (fun h9 => HKc.out _ D1.out) (fun hHeld15 => ?_)
              clear hK K
              (try simp only [Act.put, List.setIfInBounds_toArray, List.set_cons_zero, List.set_cons_succ])
              refine one_E (n := 17) (i := 16) (by kernel_rfl) rfl (fun K hK => ?_)
              go_simp
              go_at_call 34
              refine (HTi.out _).mono ?_
              rintro e w6 ⟨rfl, hb⟩
              have D2 : Hid (Below wr.heap.size wr w6) := bel0 D1.out hb
              have HB6 := Lib.hid (block_below HB3.out D2.out)
              have HV6 := Lib.hid (HV3.out.on D2.out)
              obtain ⟨⟨z0, z1, z2⟩, zf⟩ := three_of_blockD HB6.out
              clear hb
              refine hK.out _ _ (fun h9 => HKc.out _ D2.out) (fun hHeld16 => ?_)
              clear hK K
              (try simp only [Act.put, List.setIfInBounds_toArray, List.set_cons_zero, List.set_cons_succ])
              refine one_E (n := 17) (i := 17) (by kernel_rfl) rfl (fun K hK => ?_)
              go_simp
              refine hK.out _ _ (fun h9 => absurd h9 (by decide)) (fun hHeld17 => ?_)
              clear hK K
              (try simp only [Act.put, List.setIfInBounds_toArray, List.set_cons_zero, List.set_cons_succ])
              refine done_E (by kernel_rfl) ?_ _
              have HV7 := Lib.hid (((HV6.out.other (p := ⟨vb, 0, none⟩) hvb (.bool false)).other (p := ⟨vb, 1, none⟩) hvb (.int .i64 a2')).other (p := ⟨vb, 2, none⟩) hvb (.int .i64 b2'))
              have HB7 := Lib.hid (three_setV HB6.out (.bool false) (.int .i64 a2') (.int .i64 b2'))
              go_wp2
              go_roundw
              case rel => exact ⟨j + 1, by rw [HY2.out], by go_num, by omega, HV7.out, by rw [HA2.out, HBb2.out]; exact HB7.out⟩
              case measure => simp [intOf]; omega
        · obtain rfl : j = G.length := by omega
          have hk3 : ¬ (G.length : Int) < (G.length : Int) := by omega
          rw [HYi1.out]
          by_cases hii : yV n i = b
          · have hi2 : i = i0 := by
              rcases Nat.lt_or_ge i i0 with h | h
              · exact absurd hii (HNb.out i h)
              · omega
            have HKv : Hid (rouV kv M = .agg #[.bool false, .int .i64 (rouN ((kP M G E T G.length : Nat) : Int) M), .int .i64 (rouD ((kP M G E T G.length : Nat) : Int) M)]) := by
              show _ = _
              rw [← HVal.out, ← hi2, ← HTe.out, rou_eq, decide_eq_false (by omega)]
            rw [hii]
            have hbl := B3.out.size
            have R4 := Lib.hid (block_below R3.out HV3.out.keep)
            obtain ⟨⟨r0, r1', r2⟩, rf⟩ := three_of_blockD R4.out
            obtain ⟨⟨z0, z1, z2⟩, zf⟩ := three_of_blockD HB3.out
            generalize rouN ((kP M G E T G.length : Nat) : Int) M = a0 at *
            generalize rouD ((kP M G E T G.length : Nat) : Int) M = b0 at *
            have R6 := Lib.hid (three_setV R4.out (.bool false) (.int .i64 a0) (.int .i64 b0))
            obtain ⟨⟨s0, s1, s2⟩, sf⟩ := three_of_blockD R6.out
            have B4 := Lib.hid (B3.out.trans (HV3.out.keep.mono B3.out.size))
            have HB6 := Lib.hid (((B4.out.setCell (p := ⟨w.heap.size + 1, 0, none⟩) (by show _ ≤ w.heap.size + 1; omega) (.bool false)).setCell (p := ⟨w.heap.size + 1, 1, none⟩) (by show _ ≤ w.heap.size + 1; omega) (.int .i64 a0)).setCell (p := ⟨w.heap.size + 1, 2, none⟩) (by show _ ≤ w.heap.size + 1; omega) (.int .i64 b0))
            clear hii hyl hkl
            go_wp2_with (first
              | (go_at_call 36; ((with_reducible refine (HMo.out _).mono ?_); rintro e w5 ⟨rfl, rfl⟩))
              | fail)
            refine bodyPost_ret (v := .agg #[.bool false, .int .i64 a0, .int .i64 b0]) ?_ rfl ⟨by rw [HKv.out], HB6.out⟩
            simp [results, Try.results33, go_sem, s0, s1, s2]
          · have hi2 : i < i0 := by
              rcases Nat.lt_or_ge i i0 with h | h
              · exact h
              · exact absurd (by rw [show i = i0 by omega]; exact HY0.out) hii
            have hne : (((yV n i : Nat) : Int) == (b : Int)) = false := by rw [beq_eq_false_iff_ne]; omega
            have HV4 : Hid (VW w1 wr G.length (fun l => if l < 0 then 0 else T.getD l 0)) := HV3.out.congr fun l _ => by rw [if_neg (by omega)]
            have HNd : Hid (nmD T O = i) := by show _ = _; rw [HTe.out, nmD_tdg, Nat.mod_eq_of_lt (by omega)]
            have HNx : Hid (∀ l, (nxE T O).getD l 0 = (tdg (i + 1) O).getD l 0) := fun l => by rw [tdg_next O i HO1.out, HTe.out]
            clear hii hyl hkl HB3 HV3 HYi1
            generalize yV n i = yy at *
            go_wp2_with (first
              | (go_at_call 36; ((with_reducible refine (HMo.out _).mono ?_); rintro e w5 ⟨rfl, rfl⟩))
              | fail)
            go_loopw [13] (fun J wx => ∃ j : Nat, J = .int .i64 (j : Int) ∧ j ≤ G.length ∧ Hid (∀ l (h : l < T.length) (h2 : l < O.length), l < j → T[l] + 1 = O[l]) ∧ Hid (VW w1 wx G.length (fun l => if l < j then 0 else T.getD l 0))) (fun J _ => G.length - (intOf J).toNat)
            case atStart => exact ⟨0, rfl, Nat.zero_le _, fun l _ _ h => absurd h (by omega), HV4.out⟩
            case round =>
              clear HV4
              obtain ⟨j, rfl, hj, HF, HV5⟩ := hrel
              by_cases hjl : j < G.length
              · have hjli : (j : Int) < (G.length : Int) := by omega
                have hjE : j < E.length := by have := hlE.out; omega
                have hjT : j < T.length := by omega
                have hjO : j < O.length := by omega
                obtain ⟨q1, q2, q3⟩ := HCg.out wr HV5.out.keep j hjl hjE
                have q4a := HV5.out.row.cell hjl
                have q4 : wr.cell? ⟨w1.heap.size, j, none⟩ = some (.int .i64 ((T[j] : Nat) : Int)) := by rw [q4a, if_neg (by omega), List.getD_eq_getElem?_getD, List.getElem?_eq_getElem hjT]; rfl
                have hoj := HOg.out j hjl hjO
                rw [← hoj] at q2
                have htb := HTb1.out j hjT hjl
                obtain ⟨g1, g2, g3⟩ := HGk.out j hjl
                rw [← hoj] at htb g1 g2
                have HAt := Lib.hid (nxE_at T O j hjT hjO (fun l h h2 h3 => HF.out l h h2 h3))
                have hrl := HV5.out.row.lt
                have hfz := fun N => (show (wr.drewN N).frozen? ⟨w1.heap.size, j, none⟩ = false from HV5.out.row.frozen j)
                have p2 := fun N => (show (wr.drewN N).cell? ⟨b2, o2 + j, none⟩ = _ from q2)
                have p4 := fun N => (show (wr.drewN N).cell? ⟨w1.heap.size, j, none⟩ = _ from q4)
                by_cases hf : T[j] + 1 = O[j]
                · have HF2 : Hid (∀ l (h : l < T.length) (h2 : l < O.length), l < j + 1 → T[l] + 1 = O[l]) := fun l h h2 h3 => by
                    rcases Nat.lt_or_ge l j with h4 | h4
                    · exact HF.out l h h2 h4
                    · obtain rfl : l = j := by omega
                      exact hf
                  have hcm : (((T[j] : Nat) : Int) == ((O[j] : Nat) : Int) - 1) = true := by rw [beq_iff_eq]; omega
                  clear hf HAt q4a q1 q3 hoj
                  generalize T[j] = t at *
                  generalize O[j] = o at *
                  go_wp2
                  go_quiet (fail)
                  go_wp2
                  go_roundw
                  case rel => exact ⟨j + 1, by go_num, by omega, HF2.out, ((HV5.out.on (below_drewN (Below.refl _ _) _)).put j 0).congr fun l _ => by by_cases e : l = j <;> by_cases e2 : l < j <;> by_cases e3 : l < j + 1 <;> first | omega | simp [e, e2, e3] | skip⟩
                  case measure => simp [intOf]; omega
                · have hcm : (((T[j] : Nat) : Int) == ((O[j] : Nat) : Int) - 1) = false := by rw [beq_eq_false_iff_ne]; omega
                  have HAt2 := Lib.hid (HAt.out hf)
                  have hjn : ((j : Int) == (G.length : Int)) = false := by rw [beq_eq_false_iff_ne]; omega
                  have HN9 : Hid (∀ l, (tdg (i + 1) O).getD l 0 = if l = j then T[j] + 1 else if l < j then 0 else T.getD l 0) := fun l => by
                    rw [← HNx.out, HAt2.out]
                    by_cases e : l = j <;> by_cases e2 : l < j <;> simp [e, e2] <;> omega
                  clear hf HAt HAt2 q4a q1 q3 hoj
                  generalize T[j] = t at *
                  generalize O[j] = o at *
                  go_wp2
                  go_quiet (fail)
                  go_wp2
                  have HV9 : Hid (∀ N, VW w1 ((wr.drewN N).setCell ⟨w1.heap.size, j, none⟩ (.int .i64 ((t : Int) + 1))) G.length (fun l => (tdg (i + 1) O).getD l 0)) := fun N => by
                    have h9 := ((HV5.out.on (below_drewN (Below.refl _ wr) N)).put j (t + 1)).congr (g := fun l => (tdg (i + 1) O).getD l 0) fun l _ => by rw [HN9.out]
                    rwa [Int.natCast_succ] at h9
                  go_roundw
                  case rel => exact ⟨i + 1, by omega, HV9.out _⟩
                  case measure =>
                    (try show i0 + 1 - nmD (rdT w1 _ G.length) O < i0 + 1 - nmD (rdT w1 _ G.length) O)
                    rw [HRd.out _ (i + 1) (by omega) (HV9.out _), HMs.out]
                    omega
              · exfalso
                have hjj : j = G.length := by omega
                have h9 := full_nmD T O (by omega) fun l h h2 => HF.out l h h2 (by omega)
                rw [HNd.out] at h9
                omega
end Go.Proofs.Ytlagljnhbhnelaa
namespace Go.Proofs.Ytlagljnhbhnelaa
open Go.RowKit
set_option linter.unusedVariables false
set_option linter.unusedSimpArgs false

set_option maxHeartbeats 3200000 in
set_option maxRecDepth 1000000 in
theorem rval_nil (n : Nat) (E : List Int) (a : Int) (A : Option Addr) (c : Nat) (w : World) (n1 : 1 ≤ n) (n2 : (n : Int) ≤ 60) (hck : ckX n E = 0) (a1 : -1073741824 ≤ a) (a2 : a ≤ 1073741824) (hg : Nat.gcd (a % (n : Int)).toNat n = 1) (hL0 : (gensV n).length = 0) :
    Calls Try.prog 33 #[.agg #[.int .i64 (n : Int), .slice A E.length c], .int .i64 a] w fun e w' => e = .returned (rouV ((tbV n E).getD (a % (n : Int)).toNat 0) (tbM (gensV n))) ∧ Below w.heap.size w w' := by
  obtain ⟨iI, hI, y0, y1, y2⟩ := info_parts Try.infoInt
  obtain ⟨hl, hEb⟩ := ck_ok hck
  have hj1 : (a % (n : Int)).toNat < n := by have h1 := Int.emod_lt_of_pos a (show 0 < (n : Int) by omega); have := Int.emod_nonneg a (show (n : Int) ≠ 0 by omega); omega
  obtain ⟨i0, hi0, hy0, hd0, hnb⟩ := vr_find n1 (show n ≤ 60 by omega) hj1 hg
  have hE0 : ∀ x ∈ E, 0 ≤ x := fun x hx => by
    obtain ⟨k, hk, rfl⟩ := List.mem_iff_getElem.1 hx
    omega
  have hval := vr_val n1 (show n ≤ 60 by omega) hl hE0 hj1 hg hd0
  have hmM := (tbc_le n1 (show n ≤ 60 by omega)).2 (gensV n).length (Nat.le_refl _)
  rw [List.take_length] at hmM
  have hT : (tdg i0 (orN n)).length = (gensV n).length := by rw [tdg_len]; unfold orN; rw [List.length_map]
  have hyy := yP_end (n := n) hT
  rw [hL0] at hyy hval
  have hy1 : 1 % n = (a % (n : Int)).toNat := by rw [← hy0]; exact hyy
  have hk0 : (tbV n E).getD (a % (n : Int)).toNat 0 = 0 := by rw [← hval]; rfl
  obtain ⟨M1, _⟩ := hmM
  have HV : Hid (rouV ((tbV n E).getD (a % (n : Int)).toNat 0) (tbM (gensV n)) = .agg #[.bool false, .int .i64 0, .int .i64 1]) := by
    show _ = _
    rw [hk0, rou_eq, (rou_zero M1).1, (rou_zero M1).2]; rfl
  have HGe : Hid (∀ W, Calls Try.prog 16 #[.int .i64 (n : Int)] W fun e w' => ∃ A1 c1 A2 c2, e = .returned (.tuple #[.slice A1 0 c1, .slice A2 0 c2]) ∧ Below W.heap.size W w') := fun W => by
    refine (rgenr_any n W n1 n2).mono fun e w' ⟨v1, v2, he, h1, h2, hb⟩ => ?_
    obtain ⟨A1, c1, rfl, r1⟩ := own_rdz h1
    obtain ⟨A2, c2, rfl, r2⟩ := own_rdz h2
    rw [List.length_map, List.length_map, hL0] at he
    exact ⟨A1, c1, A2, c2, he, hb⟩
  have HG := Lib.hid (fun W => rGcd_any a (n : Int) W (by unfold Mid; omega) (by unfold Mid; omega))
  rw [gcd_red a n1, hg] at HG
  have HMo := Lib.hid (fun W => modG_any a (n : Int) W (by omega) (by omega) (by omega) (by omega))
  have hb0 : a % (n : Int) = (((a % (n : Int)).toNat : Nat) : Int) := by have := Int.emod_nonneg a (show (n : Int) ≠ 0 by omega); omega
  rw [hb0, ← hy1] at HMo
  rw [HV.out, hl, hL0]
  clear hl hEb hj1 hi0 hy0 hd0 hnb hE0 hval hT hyy hy1 hk0 hb0 hg hck HV
  have HMK : Hid (∀ W : World, (Instr.makeSlice 23 (.int .i64 0) (.int .i64 0)).run Try.prog W = .ok (.slice (some ⟨W.heap.size, 0, none⟩) 0 0) (W.alloc (.cells (madeCells #[.int .i64 0] 0) 3))) := fun W =>
    run_make_row (P := Try.prog) 23 3 iI (.int .i64 0) Try.underlying23 hI y0 y1 rfl .i64 .i64 0 (by rw [y2]; omega) (by omega) W
  have hmk := HMK.out
  have X0 : Hid (((w.alloc (.cells #[.int .i64 (n : Int), .slice A 0 c] 33)).alloc (.cells #[.bool false, .int .i64 0, .int .i64 0] 48)).heap[w.heap.size]? = some (.cells #[.int .i64 (n : Int), .slice A 0 c] 33 (0, 0))) := block_alloc (heap_alloc_new w _) _
  have R0 : Hid (((w.alloc (.cells #[.int .i64 (n : Int), .slice A 0 c] 33)).alloc (.cells #[.bool false, .int .i64 0, .int .i64 0] 48)).heap[w.heap.size + 1]? = some (.cells #[.bool false, .int .i64 0, .int .i64 0] 48 (0, 0))) := by
    have := heap_alloc_new (w.alloc (.cells #[.int .i64 (n : Int), .slice A 0 c] 33)) (.cells #[.bool false, .int .i64 0, .int .i64 0] 48)
    show _ = _; simpa using this
  have B0 : Hid (Below w.heap.size w ((w.alloc (.cells #[.int .i64 (n : Int), .slice A 0 c] 33)).alloc (.cells #[.bool false, .int .i64 0, .int .i64 0] 48))) := below2 w _ _
  obtain ⟨x0, x1, _⟩ := cells_two X0.out
  have HR01 : Hid (∀ W : World, Calls Try.prog 55 #[.int .i64 0, .int .i64 1] W fun e w' => e = .returned (.agg #[.bool false, .int .i64 0, .int .i64 1]) ∧ Below W.heap.size W w') := fun W => root_any 0 1 W (by omega) (by omega) (by omega)
  obtain ⟨r1, hr1⟩ : ∃ r1, r1 = 1 % n := ⟨_, rfl⟩
  have h1n : (1 : Int) % (n : Int) = (r1 : Int) := by rw [hr1, Int.natCast_emod]; rfl
  have ht1n : Int.tmod 1 (n : Int) = (r1 : Int) := by rw [hr1, Int.ofNat_tmod]; rfl
  have hr1n : r1 ≤ 60 := by rw [hr1]; exact Nat.le_trans (Nat.le_of_lt (Nat.mod_lt _ (by omega))) (by omega)
  rw [← hr1] at HMo
  clear hr1
  have hn0 : ((n : Int) == 0) = false := by rw [beq_eq_false_iff_ne]; omega
  have hn01 : ¬ ((n : Int) = 0) := by omega
  have hn02 : ¬ (n = 0) := by omega
  go_enter Try.func33, Try.ntmps33
  go_upto_region 6 with (first
    | (go_at_call 35; ((with_reducible refine (HG.out _).mono ?_); rintro e w2 ⟨rfl, hd⟩; have X2 := Lib.hid (block_below X0.out (bel_drewN hd)); have R2 := Lib.hid (block_below R0.out (bel_drewN hd)); have B2 := Lib.hid (B0.out.trans ((bel_drewN hd).mono B0.out.size)); clear hd))
    | (go_at_call 16; ((with_reducible refine (HGe.out _).mono ?_); rintro e w1 ⟨A1, k1, A2, k2, rfl, hb⟩; have R3 := Lib.hid (block_below R2.out hb); have B3 := Lib.hid (B2.out.trans (hb.mono B2.out.size)); clear hb))
    | fail)
  have R4 := Lib.hid (block_alloc R3.out (.cells (madeCells #[.int .i64 0] 0) 3))
  have B4 : Hid (Below w.heap.size w (w1.alloc (.cells (madeCells #[.int .i64 0] 0) 3))) := B3.out.alloc B3.out.size _
  clear hmk HMK X0 R0 B0 X2 R2 B2 R3 B3 HG HGe x0 x1
  obtain ⟨tb, htb⟩ : ∃ tb, tb = w1.heap.size := ⟨_, rfl⟩
  obtain ⟨wo, hwo⟩ : ∃ wo, wo = w1.alloc (.cells (madeCells #[.int .i64 0] 0) 3) := ⟨_, rfl⟩
  rw [← hwo] at R4 B4 ⊢
  rw [← htb]
  clear hwo htb
  refine wp_loop_rounds 1 ?_
  rw [rounds_succ]
  go_upto_region 6 with fail
  go_cut [9, 10] (fun s9 s10 wx => ∃ vb : Nat, s9 = .int .i64 (r1 : Int) ∧ s10 = .pointer (some ⟨vb, 0, none⟩) ∧ w.heap.size + 1 < vb ∧ Hid (Below wo.heap.size wo wx ∨ True) ∧ Hid (Below w.heap.size w wx) ∧ Hid (wx.heap[w.heap.size + 1]? = some (.cells #[.bool false, .int .i64 0, .int .i64 0] 48 (0, 0))) ∧ Hid (wx.heap[vb]? = some (.cells #[.bool false, .int .i64 0, .int .i64 1] 48 (0, 0))))
  case first =>
    have D0 : Hid (Below wo.heap.size wo wo.drew) := Below.drew (Below.refl _ _)
    have D0a : Hid (Below wo.heap.size wo (wo.alloc (.cells #[.bool false, .int .i64 0, .int .i64 0] 48)).drew) := Below.drew (below1 wo _)
    have M0a : Hid ((wo.alloc (.cells #[.bool false, .int .i64 0, .int .i64 0] 48)).drew.heap[wo.heap.size]? = some (.cells #[.bool false, .int .i64 0, .int .i64 0] 48 (0, 0))) := heap_alloc_new wo _
    have hro := lt_of_block R4.out
    have hbs := B4.out.size
    go_region_held3 (fun w' => True)
      (with_reducible first | exact trivial | fail)
      (first
        | (go_at_call 55; ((with_reducible refine (HR01.out _).mono ?_); rintro e z1 ⟨rfl, hb⟩; have D1 : Hid (Below wo.heap.size wo z1) := (by with_reducible first | exact Lib.hid (bel0 D0.out hb) | exact Lib.hid (bel0 D0a.out hb) | fail); (try (with_reducible (first | (have MB1 := Lib.hid (block_below M0a.out hb); obtain ⟨⟨g0, g1, g2⟩, gf⟩ := three_of_blockD MB1.out; have hlz := lt_of_block MB1.out) | fail))); clear hb))
        | fail)
    all_goals
      go_wp2_with fail
      go_meet
      have B5 := B4.out.trans (D1.out.mono B4.out.size)
      have R5 := block_below R4.out D1.out
      first
        | (have h9 := MB1.out; exact ⟨wo.heap.size, by first | rfl | rw [ht1n] | rw [h1n], rfl, hro, .inr trivial, ((B5.setCell (p := ⟨wo.heap.size, 0, none⟩) hbs _).setCell (p := ⟨wo.heap.size, 1, none⟩) hbs _).setCell (p := ⟨wo.heap.size, 2, none⟩) hbs _, (Below.heap_setCell _ ⟨wo.heap.size, 2, none⟩ _ _ (by show w.heap.size + 1 ≠ wo.heap.size; omega)).trans ((Below.heap_setCell _ ⟨wo.heap.size, 1, none⟩ _ _ (by show w.heap.size + 1 ≠ wo.heap.size; omega)).trans ((Below.heap_setCell _ ⟨wo.heap.size, 0, none⟩ _ _ (by show w.heap.size + 1 ≠ wo.heap.size; omega)).trans R5)), three_setV h9 _ _ _⟩)
        | exact ⟨z1.heap.size, by first | rfl | rw [ht1n] | rw [h1n], rfl, by have := D1.out.size; omega, .inr trivial, B5.alloc B5.size _, block_alloc R5 _, heap_alloc_new z1 _⟩
        | fail
  case rest =>
    obtain ⟨vb, rfl, rfl, hvb, _, HB5, HR5, HV5⟩ := hcut
    clear h1n ht1n
    obtain ⟨⟨r0, r1', r2⟩, rf⟩ := three_of_blockD HR5.out
    obtain ⟨⟨z0, z1, z2⟩, zf⟩ := three_of_blockD HV5.out
    have R6 := Lib.hid (three_setV HR5.out (.bool false) (.int .i64 0) (.int .i64 1))
    obtain ⟨⟨s0, s1, s2⟩, sf⟩ := three_of_blockD R6.out
    have HB6 := Lib.hid (((HB5.out.setCell (p := ⟨w.heap.size + 1, 0, none⟩) (by show _ ≤ w.heap.size + 1; omega) (.bool false)).setCell (p := ⟨w.heap.size + 1, 1, none⟩) (by show _ ≤ w.heap.size + 1; omega) (.int .i64 0)).setCell (p := ⟨w.heap.size + 1, 2, none⟩) (by show _ ≤ w.heap.size + 1; omega) (.int .i64 1))
    go_wp2
    refine wp_loop_rounds 1 ?_
    rw [rounds_succ]
    go_wp2_with (first
      | (go_at_call 36; ((with_reducible refine (HMo.out _).mono ?_); rintro e w5 ⟨rfl, rfl⟩))
      | fail)
    refine bodyPost_ret (v := .agg #[.bool false, .int .i64 0, .int .i64 1]) ?_ rfl ⟨rfl, HB6.out⟩
    simp [results, Try.results33, go_sem, s0, s1, s2]
theorem rval_any (n : Nat) (E : List Int) (a : Int) (A : Option Addr) (c : Nat) (w : World) (n1 : 1 ≤ n) (n2 : (n : Int) ≤ 60) (hE : RdZ w w.heap.size A c E) (hck : ckX n E = 0) (a1 : -1073741824 ≤ a) (a2 : a ≤ 1073741824) :
    Calls Try.prog 33 #[.agg #[.int .i64 (n : Int), .slice A E.length c], .int .i64 a] w fun e w' => e = .returned (rouV ((tbV n E).getD (a % (n : Int)).toNat 0) (tbM (gensV n))) ∧ Below w.heap.size w w' := by
  by_cases hg : Nat.gcd (a % (n : Int)).toNat n = 1
  · by_cases hL : (gensV n).length = 0
    · exact rval_nil n E a A c w n1 n2 hck a1 a2 hg hL
    · exact rval_unit n E a A c w n1 n2 hE hck a1 a2 hg (by omega)
  · exact rval_non n E a A c w n1 n2 (ck_ok hck).1 a1 a2 hg
end Go.Proofs.Ytlagljnhbhnelaa
