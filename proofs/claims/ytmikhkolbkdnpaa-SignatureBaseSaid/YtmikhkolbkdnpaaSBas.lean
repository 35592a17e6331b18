/- SignatureEuler answers true for all arguments. Plain mathematics: a map between actions that commutes with both steps (a covering): indexes, cycles, genera. Plain mathematics: the signature of an action and of the same with its points renamed. SignatureBase answers true for all arguments. -/
import Derived.Test.YtmikhkolbkdnpaaLawSg
import Derived.Test.YtmikhkolbkdnpaaSigM
import Derived.Test.YtmikhkolbkdnpaaIwL
import Derived.Test.YtmikhkolbkdnpaaBasL
namespace Go.Proofs.Ytmikhkolbkdnpaa
open Go.RowKit
set_option linter.unusedVariables false
set_option linter.unusedSimpArgs false

set_option maxHeartbeats 3200000 in
set_option maxRecDepth 1000000 in
theorem euler_bad {S T : List Int} {B cS cT : Nat} {AS AT : Option Addr} (w : World) (hS : RdZ w B AS cS S) (hT : RdZ w B AT cT T) (hB : B ≤ w.heap.size) (z : Int) (hz : chkA S T = z) (hz0 : z ≠ 0) :
    Calls Try.prog 14 #[.agg #[.slice AS S.length cS, .slice AT T.length cT]] w fun e w' => e = .returned (.tuple #[.int .i64 0, .int .i64 z]) ∧ Below w.heap.size w w' := by
  have HCk : Hid (∀ W, Below w.heap.size w W → Calls Try.prog 34 #[.agg #[.slice AS S.length cS, .slice AT T.length cT]] W fun e w' => e = .returned (.int .i64 z) ∧ Below W.heap.size W w') := fun W hb => by
    have := pcheck_any W (hS.below (hb.mono hB)) (hT.below (hb.mono hB)) (Nat.le_trans hB hb.size)
    rwa [hz] at this
  clear hS hT hz
  have HB0 : Hid (Below w.heap.size w (w.alloc (.cells #[.slice AS S.length cS, .slice AT T.length cT] 24))) := below1 w _
  have hzb : (z == 0) = false := by simpa using hz0
  go_enter Try.func14, Try.ntmps14
  go_wp2_with (first
    | (go_at_call 34; ((with_reducible refine (HCk.out _ HB0.out).mono ?_); rintro e w1 ⟨rfl, hb⟩; have HB1 := Lib.hid (bel0 HB0.out hb); clear hb))
    | fail)
  go_ret2
  exact ⟨rfl, HB1.out⟩
/-- What the numbers of a signature obey. -/
structure SgF (S T : List Int) (ix gn n2 n3 cu ir : Int) (mi : Bool) : Prop where
  e : eulZ (fnz S) (fnz T) S.length = 2 - 2 * gn
  g0 : 0 ≤ gn
  gg : 12 * gn = 12 + ix - 3 * n2 - 4 * n3 - 6 * cu
  i0 : 1 ≤ ix
  i1 : ix ≤ 1152
  a0 : 0 ≤ n2
  a1 : n2 ≤ 1152
  b0 : 0 ≤ n3
  b1 : n3 ≤ 1152
  c0 : 0 ≤ cu
  c1 : cu ≤ 1152
  r0 : 0 ≤ ir
  r1 : ir ≤ cu
  my : mi = true → ir = 0
  mn : mi = false → n2 = 0
theorem clP_lt {S T : List Int} (ha : Act2 S T) : ∀ p ∈ clP S T, p < S.length := by
  rw [clP_ok (chkA_ok ha)]
  exact (cst_reps ha.pt (rel_inv ha.ps ha.pt ha.rel)).lt
theorem sgF_of {S T : List Int} (ha : Act2 S T) : SgF S T (ixS S T) (gnS S T) (n2S S T) (n3S S T) (cuS S T) (irS S T) (miS S T) := by
  have hA := pact_of ha
  have hz := rel_inv ha.ps ha.pt ha.rel
  have h3 : ∀ i, i < S.length → fnz T (fnz S (fnz T (fnz S (fnz T (fnz S i))))) = fnz S (fnz S i) := fun i hi => (ha.rel i hi).2
  have hc := chkA_ok ha
  have hcu : cuS S T = (cuZ (fnz S) (fnz T) S.length : Nat) := by unfold cuS; rw [clP_ok hc]; rfl
  have e1 : ixS S T = (mO (fnz S) S.length : Nat) := if_pos hc
  have e2 : gnS S T = gnZ (fnz S) (fnz T) S.length := if_pos hc
  have e3 : n2S S T = (n2Z (fnz S) S.length : Nat) := if_pos hc
  have e4 : n3S S T = (n3Z (fnz S) (fnz T) S.length : Nat) := if_pos hc
  have e5 : miS S T = mnB S := if_pos hc
  have hir : irS S T ≤ cuS S T := by have := irL_le (rgF S T) (clP S T); unfold irS cuS; omega
  obtain ⟨g1, g2, g3⟩ := hA.genus hz h3
  obtain ⟨b1, b2, b3⟩ := hA.sbd hz
  have hm := hA.mle
  have hle := ha.le
  have hmp := hA.mpos
  have hmy : miS S T = true → irS S T = 0 := fun h => by
    rw [e5] at h
    unfold irS irL
    rw [List.filter_eq_nil_iff.2 fun p hp => by rw [(rg_minus ha (clP_lt ha p hp) h).1]; simp]
    rfl
  have hmn : miS S T = false → n2S S T = 0 := fun h => by
    rw [e5] at h
    rw [e3, hA.no2 (by simpa [mnB] using h)]
    rfl
  have hir0 : 0 ≤ irS S T := by unfold irS; omega
  rw [e2, e1, e3, e4, hcu]
  rw [hcu] at hir
  exact ⟨g1, g2, g3, by omega, by omega, by omega, by omega, by omega, by omega, by omega, by omega, hir0, hir, fun h => hmy h, fun h => by rw [← e3]; exact hmn h⟩
set_option maxHeartbeats 6400000 in
set_option maxRecDepth 1000000 in
theorem sgeul_bad (S T : List Int) {cS cT : Nat} {AS AT : Option Addr} (w : World) (hS : RdZ w w.heap.size AS cS S) (hT : RdZ w w.heap.size AT cT T) (z : Int) (hz : chkA S T = z) (hz0 : z ≠ 0) :
    Calls Try.prog 4 #[.agg #[.slice AS S.length cS, .slice AT T.length cT]] w fun e w' => e = .returned (.bool true) ∧ Below w.heap.size w w' := by
  have T0 : Hid ((w.alloc (.cells #[.slice AS S.length cS, .slice AT T.length cT] 24)).heap[w.heap.size]? = some (.cells #[.slice AS S.length cS, .slice AT T.length cT] 24 (0, 0))) := heap_alloc_new w _
  have HB0 : Hid (Below w.heap.size w (w.alloc (.cells #[.slice AS S.length cS, .slice AT T.length cT] 24))) := below1 w _
  have HOf := Lib.hid (fun W (hb : Below w.heap.size w W) => sof_bad W (hS.below hb) (hT.below hb) hb.size z hz hz0)
  have HEu := Lib.hid (fun W (hb : Below w.heap.size w W) => euler_bad W (hS.below hb) (hT.below hb) hb.size z hz hz0)
  have hzb : (z == 0) = false := by simpa using hz0
  clear hS hT hz
  go_enter Try.func4, Try.ntmps4
  go_wp2_with (first
    | (go_at_call 10; ((with_reducible refine (awake_any _).mono ?_); rintro e w1 ⟨rfl, hb⟩; have HB1 := Lib.hid (bel0 HB0.out hb); have T1 := Lib.hid (block_below T0.out hb); obtain ⟨⟨t1, t2⟩, _⟩ := two_of_block T1.out; clear hb))
    | (go_at_call 11; ((with_reducible refine (HOf.out _ HB1.out).mono ?_); rintro e w3 ⟨rfl, hb⟩; have HB3 : Hid (Below w.heap.size w (w3.alloc (.cells #[.int .i64 0, .int .i64 0, .int .i64 0, .int .i64 0, .int .i64 0, .int .i64 0, .bool false] 27))) := (bel0 HB1.out hb).alloc (bel0 HB1.out hb).size _; have T3 := Lib.hid (block_alloc (block_below T1.out hb) (.cells #[.int .i64 0, .int .i64 0, .int .i64 0, .int .i64 0, .int .i64 0, .int .i64 0, .bool false] 27)); clear t1 t2; obtain ⟨⟨t1, t2⟩, _⟩ := two_of_block T3.out; clear hb))
    | (go_at_call 14; ((with_reducible refine (HEu.out _ HB3.out).mono ?_); rintro e w4 ⟨rfl, hb⟩; have HB4 := Lib.hid (bel0 HB3.out hb); clear t1 t2 hb))
    | fail)
  go_ret
  exact ⟨rfl, HB4.out⟩
set_option maxHeartbeats 6400000 in
set_option maxRecDepth 1000000 in
theorem sgeul_ok (S T : List Int) {bS oS bT oT cS cT : Nat} (w : World) (h : AI w w.heap.size bS oS bT oT S T cS cT) :
    Calls Try.prog 4 #[.agg #[.slice (some ⟨bS, oS, none⟩) S.length cS, .slice (some ⟨bT, oT, none⟩) S.length cT]] w fun e w' => e = .returned (.bool true) ∧ Below w.heap.size w w' := by
  have T0 : Hid ((w.alloc (.cells #[.slice (some ⟨bS, oS, none⟩) S.length cS, .slice (some ⟨bT, oT, none⟩) S.length cT] 24)).heap[w.heap.size]? = some (.cells #[.slice (some ⟨bS, oS, none⟩) S.length cS, .slice (some ⟨bT, oT, none⟩) S.length cT] 24 (0, 0))) := heap_alloc_new w _
  have HB0 : Hid (Below w.heap.size w (w.alloc (.cells #[.slice (some ⟨bS, oS, none⟩) S.length cS, .slice (some ⟨bT, oT, none⟩) S.length cT] 24))) := below1 w _
  have HOf := Lib.hid (fun W (hb : Below w.heap.size w W) => sof_ok W (h.below hb))
  have HEu := Lib.hid (fun W (hb : Below w.heap.size w W) => euler_any W (h.below hb))
  have HSg : Hid (sgA S T = .agg #[.int .i64 (ixS S T), .int .i64 (gnS S T), .int .i64 (n2S S T), .int .i64 (n3S S T), .int .i64 (cuS S T), .int .i64 (irS S T), .bool (miS S T)]) := (sgX_ok (chkA_ok h.act)).symm
  have hF := sgF_of h.act
  rw [HSg.out] at HOf
  rw [hF.e] at HEu
  obtain ⟨_, f1, f2, f3, f4, f5, f6, f7, f8, f9, f10, f11, f12, f13, f14⟩ := hF
  clear HSg h
  generalize ixS S T = x0 at *
  generalize gnS S T = x1 at *
  generalize n2S S T = x2 at *
  generalize n3S S T = x3 at *
  generalize cuS S T = x4 at *
  generalize irS S T = x5 at *
  generalize miS S T = x6 at *
  have hq : (12 * x1 == 12 + x0 - 3 * x2 - 4 * x3 - 6 * x4) = true := by rw [beq_iff_eq]; exact f2
  have hx1 : x1 ≤ 1000 := by omega
  have hx5 : x5 ≤ 1152 := by omega
  have HF13 := Lib.hid f13
  have HF14 := Lib.hid f14
  clear f2 f13 f14
  go_enter Try.func4, Try.ntmps4
  go_upto_region 7 with (first
    | (go_at_call 10; ((with_reducible refine (awake_any _).mono ?_); rintro e w1 ⟨rfl, hb⟩; have HB1 := Lib.hid (bel0 HB0.out hb); have T1 := Lib.hid (block_below T0.out hb); obtain ⟨⟨t1, t2⟩, _⟩ := two_of_block T1.out; clear hb))
    | (go_at_call 11; ((with_reducible refine (HOf.out _ HB1.out).mono ?_); rintro e w3 ⟨rfl, hb⟩; have HB3 : Hid (Below w.heap.size w (w3.alloc (.cells #[.int .i64 x0, .int .i64 x1, .int .i64 x2, .int .i64 x3, .int .i64 x4, .int .i64 x5, .bool x6] 27))) := (bel0 HB1.out hb).alloc (bel0 HB1.out hb).size _; have T3 := Lib.hid (block_alloc (block_below T1.out hb) (.cells #[.int .i64 x0, .int .i64 x1, .int .i64 x2, .int .i64 x3, .int .i64 x4, .int .i64 x5, .bool x6] 27)); have P3 := Lib.hid (heap_alloc_new w3 (.cells #[.int .i64 x0, .int .i64 x1, .int .i64 x2, .int .i64 x3, .int .i64 x4, .int .i64 x5, .bool x6] 27)); clear t1 t2; obtain ⟨⟨t1, t2⟩, _⟩ := two_of_block T3.out; clear hb))
    | (go_at_call 14; ((with_reducible refine (HEu.out _ HB3.out).mono ?_); rintro e w4 ⟨rfl, hb⟩; have HB4 := Lib.hid (bel0 HB3.out hb); have P4 := Lib.hid (block_below P3.out hb); clear t1 t2 hb))
    | fail)
  cases x6 with
  | true =>
    have hx : x5 = 0 := HF13.out rfl
    subst hx
    obtain ⟨⟨a0, a1, a2, a3, a4, a5, a6⟩, _⟩ := seven_of_block P4.out
    go_wp2
    go_ret
    exact ⟨rfl, HB4.out⟩
  | false =>
    have hx : x2 = 0 := HF14.out rfl
    subst hx
    have hq2 : (12 * x1 == 12 + x0 - 4 * x3 - 6 * x4) = true := by rw [beq_iff_eq]; have := beq_iff_eq.1 hq; omega
    clear hq
    obtain ⟨⟨a0, a1, a2, a3, a4, a5, a6⟩, _⟩ := seven_of_block P4.out
    go_wp2
    go_ret
    exact ⟨rfl, HB4.out⟩
theorem sgeul_walk (S T : List Int) {cS cT : Nat} {AS AT : Option Addr} (w : World) (hS : RdZ w w.heap.size AS cS S) (hT : RdZ w w.heap.size AT cT T) :
    Calls Try.prog 4 #[.agg #[.slice AS S.length cS, .slice AT T.length cT]] w fun e w' => e = .returned (.bool true) ∧ Below w.heap.size w w' := by
  by_cases h : chkA S T = 0
  · have ha := chkA_zero h
    obtain ⟨bS, oS, bT, oT, rfl, rfl, hai⟩ := AI.mk' ha hS hT (Nat.le_refl _)
    rw [ha.len]
    exact sgeul_ok S T w hai
  · exact sgeul_bad S T w hS hT _ rfl h
end Go.Proofs.Ytmikhkolbkdnpaa
namespace Go.Proofs.Ytmikhkolbkdnpaa
set_option linter.unusedVariables false

theorem cntB_add_not (t : Nat → Bool) : ∀ n, cntB t n + cntB (fun i => !t i) n = n
  | 0 => rfl
  | n + 1 => by
    have h := cntB_add_not t n
    rw [cntB, cntB]
    cases e : t n <;> simp <;> omega
/-- A permutation of the points leaves a count as it is. -/
theorem cntB_prm {p : Nat → Nat} {n : Nat} (hp : Prm p n) (t : Nat → Bool) : cntB (fun i => t (p i)) n = cntB t n := by
  have key : ∀ u : Nat → Bool, cntB (fun i => u (p i)) n ≤ cntB u n := fun u => by
    rw [cntB_filter, cntB_filter]
    have hd : (((List.range n).filter fun i => u (p i)).map p).Nodup := nodup_map_on (List.nodup_range.filter _) fun x hx y hy e => by
      have h1 := List.mem_range.1 (List.mem_filter.1 hx).1
      have h2 := List.mem_range.1 (List.mem_filter.1 hy).1
      exact hp.inj x y h1 h2 e
    have := List.Nodup.length_le_of_subset (l₂ := (List.range n).filter u) hd fun y hy => by
      obtain ⟨x, hx, rfl⟩ := List.mem_map.1 hy
      obtain ⟨h1, h2⟩ := List.mem_filter.1 hx
      exact List.mem_filter.2 ⟨List.mem_range.2 (hp.lt x (List.mem_range.1 h1)), h2⟩
    simpa using this
  have h1 := key t
  have h2 := key fun i => !t i
  have h3 := cntB_add_not t n
  have h4 := cntB_add_not (fun i => t (p i)) n
  omega
theorem cntB_or {t u : Nat → Bool} : ∀ n, (∀ i, i < n → t i = true → u i = false) → cntB (fun i => t i || u i) n = cntB t n + cntB u n
  | 0, _ => rfl
  | n + 1, h => by
    have ih := cntB_or n fun i hi => h i (by omega)
    have hn := h n (by omega)
    rw [cntB, cntB, cntB, ih]
    cases e : t n <;> cases e2 : u n
    · simp
    · simp; omega
    · simp; omega
    · rw [hn e] at e2; cases e2
theorem cntB_false {t : Nat → Bool} : ∀ n, (∀ i, i < n → t i = false) → cntB t n = 0
  | 0, _ => rfl
  | n + 1, h => by rw [cntB, cntB_false n fun i hi => h i (by omega), h n (by omega)]; rfl
/-- How many points lie over y. -/
def fibN (ψ : Nat → Nat) (n y : Nat) : Nat := cntB (fun x => decide (ψ x = y)) n
theorem fib_sum {ψ : Nat → Nat} {m : Nat} : ∀ n, (∀ x, x < n → ψ x < m) → smB (fibN ψ n) m = n
  | 0, _ => smB_zero m fun _ _ => rfl
  | n + 1, h => by
    have ih := fib_sum n fun x hx => h x (by omega)
    have e : smB (fibN ψ (n + 1)) m = smB (fun y => fibN ψ n y + if y = ψ n then 1 else 0) m := smB_congr m fun y _ => by
      show cntB _ n + (if decide (ψ n = y) = true then 1 else 0) = _
      by_cases e : ψ n = y
      · subst e; simp [fibN]
      · rw [if_neg (by simpa using e), if_neg (fun e2 => e e2.symm)]; rfl
    rw [e, smB_add, ih, smB_one 1 (ψ n) m (h n (by omega))]
theorem smB_const {h : Nat → Nat} {d : Nat} : ∀ n, (∀ i, i < n → h i = d) → smB h n = n * d
  | 0, _ => by simp [smB]
  | n + 1, e => by rw [smB, smB_const n fun i hi => e i (by omega), e n (by omega), Nat.succ_mul]
/-- A map between actions that commutes with both steps. -/
structure Cov (g f : Nat → Nat) (n : Nat) (g' f' : Nat → Nat) (m : Nat) (ψ : Nat → Nat) : Prop where
  a : PAct g f n
  b : PAct g' f' m
  lt : ∀ x, x < n → ψ x < m
  cg : ∀ x, x < n → ψ (g x) = g' (ψ x)
  cf : ∀ x, x < n → ψ (f x) = f' (ψ x)
section
variable {g f g' f' ψ : Nat → Nat} {n m : Nat}
theorem fib_step {p q : Nat → Nat} (hp : Prm p n) (hq : Prm q m) (hl : ∀ x, x < n → ψ x < m) (hc : ∀ x, x < n → ψ (p x) = q (ψ x)) {y : Nat} (hy : y < m) : fibN ψ n (q y) = fibN ψ n y := by
  unfold fibN
  rw [← cntB_prm hp]
  refine cntB_congr n fun x hx => ?_
  rw [hc x hx, decide_eq_decide]
  exact ⟨fun e => hq.inj _ _ (hl x hx) hy e, fun e => by rw [e]⟩
theorem Cov.fib (h : Cov g f n g' f' m ψ) (y : Nat) (hy : y < m) : fibN ψ n y = fibN ψ n 0 :=
  h.b.full (fun y => fibN ψ n y = fibN ψ n 0) rfl (fun x hx e => by rw [fib_step h.a.gp h.b.gp h.lt h.cg hx, e]) (fun x hx e => by rw [fib_step h.a.fp h.b.fp h.lt h.cf hx, e]) y hy
theorem Cov.total (h : Cov g f n g' f' m ψ) : n = m * fibN ψ n 0 := by
  have h1 := fib_sum n h.lt
  rw [smB_const m h.fib] at h1
  exact h1.symm
theorem Cov.deg (h : Cov g f n g' f' m ψ) : 1 ≤ fibN ψ n 0 := by
  have h1 := h.total
  have h2 := h.a.pos
  rcases Nat.eq_zero_or_pos (fibN ψ n 0) with e | e
  · rw [e] at h1; omega
  · exact e
theorem fib_list {d : Nat} (hf : ∀ y, y < m → fibN ψ n y = d) : ∀ M : List Nat, M.Nodup → (∀ y ∈ M, y < m) → cntB (fun x => M.contains (ψ x)) n = M.length * d
  | [], _, _ => by rw [cntB_false (t := fun x => ([] : List Nat).contains (ψ x)) n fun i _ => rfl]; simp
  | a :: M, hd, hm => by
    rw [List.nodup_cons] at hd
    have e : cntB (fun x => (a :: M).contains (ψ x)) n = cntB (fun x => decide (ψ x = a) || M.contains (ψ x)) n := cntB_congr n fun x _ => by
      rw [List.contains_cons]; rfl
    rw [e, cntB_or n fun x _ h => ?_, fib_list hf M hd.2 fun y hy => hm y (by simp [hy])]
    · show fibN ψ n a + _ = _
      rw [hf a (hm a (by simp)), List.length_cons, Nat.succ_mul, Nat.add_comm]
    · have h : ψ x = a := of_decide_eq_true h
      rw [h]
      cases e2 : M.contains a with
      | false => rfl
      | true => exact absurd (List.contains_iff_mem.1 e2) hd.1
theorem itr_map {p q : Nat → Nat} (hp : Prm p n) (hc : ∀ x, x < n → ψ (p x) = q (ψ x)) {x : Nat} (hx : x < n) : ∀ k, ψ (itr p k x) = itr q k (ψ x)
  | 0 => rfl
  | k + 1 => by show ψ (p (itr p k x)) = q (itr q k (ψ x)); rw [hc _ (hp.itr_lt hx k), itr_map hp hc hx k]
/-- Over a cycle lie at most as many cycles as points over a point. -/
theorem cyc_le {p q : Nat → Nat} {c e d : Nat} (hp : Prm p n) (hq : Prm q m) (hl : ∀ x, x < n → ψ x < m) (hc : ∀ x, x < n → ψ (p x) = q (ψ x)) (hf : ∀ y, y < m → fibN ψ n y = d) (h : IsCls (onC p) n c) (h' : IsCls (onC q) m e) : c ≤ e * d := by
  obtain ⟨L, hL, rfl⟩ := h
  obtain ⟨M, hM, rfl⟩ := h'
  have key : ∀ x, ∃ y, x ∈ L → y < n ∧ onC p x y ∧ ψ y ∈ M := fun x => by
    by_cases hx : x ∈ L
    · have hxn := hL.lt x hx
      obtain ⟨y, hy, hr⟩ := hM.all (ψ x) (hl x hxn)
      obtain ⟨k, hk⟩ := onC_symm hq (hM.lt y hy) hr
      exact ⟨itr p k x, fun _ => ⟨hp.itr_lt hxn k, ⟨k, rfl⟩, by rw [itr_map hp hc hxn, hk]; exact hy⟩⟩
    · exact ⟨0, fun h => absurd h hx⟩
  have hg := fun x => Classical.choose_spec (key x)
  generalize hgd : (fun x => Classical.choose (key x)) = γ
  have hg : ∀ x, x ∈ L → γ x < n ∧ onC p x (γ x) ∧ ψ (γ x) ∈ M := fun x => by rw [← hgd]; exact hg x
  have hd : (L.map γ).Nodup := nodup_map_on hL.nd fun x hx y hy e => by
    have h1 := (hg x hx).2.1
    have h2 := (hg y hy).2.1
    rw [← e] at h2
    exact hL.one x hx y hy (onC_trans h1 (onC_symm hp (hL.lt y hy) h2))
  have hle := List.Nodup.length_le_of_subset (l₂ := (List.range n).filter fun x => M.contains (ψ x)) hd fun y hy => by
    obtain ⟨x, hx, rfl⟩ := List.mem_map.1 hy
    obtain ⟨h1, _, h3⟩ := hg x hx
    exact List.mem_filter.2 ⟨List.mem_range.2 h1, List.contains_iff_mem.2 h3⟩
  rw [← cntB_filter, fib_list hf M hM.nd hM.lt] at hle
  simpa using hle
/-- And over each lies one. -/
theorem cyc_ge {p q : Nat → Nat} {c e : Nat} (hp : Prm p n) (hq : Prm q m) (hc : ∀ x, x < n → ψ (p x) = q (ψ x)) (ho : ∀ y, y < m → ∃ x, x < n ∧ ψ x = y) (h : IsCls (onC p) n c) (h' : IsCls (onC q) m e) : e ≤ c := by
  obtain ⟨L, hL, rfl⟩ := h
  obtain ⟨M, hM, rfl⟩ := h'
  have key : ∀ j, ∃ i, j < m → i < n ∧ ψ i = j := fun j => by
    by_cases hj : j < m
    · obtain ⟨i, h⟩ := ho j hj
      exact ⟨i, fun _ => h⟩
    · exact ⟨0, fun h => absurd h hj⟩
  have hg := fun x => Classical.choose_spec (key x)
  generalize hgd : (fun x => Classical.choose (key x)) = σ
  have hg : ∀ j, j < m → σ j < n ∧ ψ (σ j) = j := fun x => by rw [← hgd]; exact hg x
  refine reps_le (onC_eqv hp) hM hL σ (fun j hj => (hg j hj).1) fun i j hi hj ⟨k, hk⟩ => ⟨k, ?_⟩
  have h1 := congrArg ψ hk
  rwa [itr_map hp hc (hg i hi).1, (hg i hi).2, (hg j hj).2] at h1
theorem Cov.onto (h : Cov g f n g' f' m ψ) (y : Nat) (hy : y < m) : ∃ x, x < n ∧ ψ x = y := by
  have h1 : 1 ≤ fibN ψ n y := by rw [h.fib y hy]; exact h.deg
  rw [fibN, cntB_filter] at h1
  obtain ⟨x, hx⟩ := List.exists_mem_of_length_pos h1
  obtain ⟨h2, h3⟩ := List.mem_filter.1 hx
  exact ⟨x, List.mem_range.1 h2, of_decide_eq_true h3⟩
/-- The map of the projective actions. -/
theorem Cov.proj (h : Cov g f n g' f' m ψ) : Cov (sO g n) (tO g f n) (mO g n) (sO g' m) (tO g' f' m) (mO g' m) (fun q => phO g' m (ψ (lsO g n q))) := by
  have hz : ∀ i, i < n → ψ (zOf g i) = zOf g' (ψ i) := fun i hi => by show ψ (g (g i)) = g' (g' (ψ i)); rw [h.cg _ (h.a.gp.lt i hi), h.cg i hi]
  have hq : ∀ i, i < n → phO g' m (ψ (lsO g n (phO g n i))) = phO g' m (ψ i) := fun i hi => by
    have l1 := h.a.quo.le _ (h.a.quo.lt i hi)
    rcases (h.a.quo.iff i _ hi l1).1 (h.a.quo.at_ _ (h.a.quo.lt i hi)).symm with e | e
    · rw [e]
    · rw [e, hz i hi]
      exact ((h.b.quo.iff _ _ (h.lt i hi) (h.b.zl _ (h.lt i hi))).2 (.inr rfl)).symm
  refine ⟨h.a.proj, h.b.proj, fun q hq => h.b.quo.lt _ (h.lt _ (h.a.quo.le q hq)), fun q hqm => ?_, fun q hqm => ?_⟩
  · obtain ⟨i, hi, rfl⟩ := h.a.onto q hqm
    show phO g' m (ψ (lsO g n (sO g n (phO g n i)))) = sO g' m (phO g' m (ψ (lsO g n (phO g n i))))
    rw [h.a.ds i hi, hq _ (h.a.gp.lt i hi), hq i hi, h.cg i hi, h.b.ds _ (h.lt i hi)]
  · obtain ⟨i, hi, rfl⟩ := h.a.onto q hqm
    show phO g' m (ψ (lsO g n (tO g f n (phO g n i)))) = tO g' f' m (phO g' m (ψ (lsO g n (phO g n i))))
    rw [h.a.dt i hi, hq _ (h.a.fp.lt i hi), hq i hi, h.cf i hi, h.b.dt _ (h.lt i hi)]
/-- What a map of actions says of the signatures. -/
structure CovS (g f : Nat → Nat) (n : Nat) (g' f' : Nat → Nat) (m d : Nat) : Prop where
  d1 : 1 ≤ d
  ix : mO g n = mO g' m * d
  s1 : (cyN (sO g n) (mO g n)).length ≤ (cyN (sO g' m) (mO g' m)).length * d
  s2 : (cyN (sO g' m) (mO g' m)).length ≤ (cyN (sO g n) (mO g n)).length
  t1 : (cyN (tO g f n) (mO g n)).length ≤ (cyN (tO g' f' m) (mO g' m)).length * d
  t2 : (cyN (tO g' f' m) (mO g' m)).length ≤ (cyN (tO g f n) (mO g n)).length
  u1 : (cyN (fun i => tO g f n (sO g n i)) (mO g n)).length ≤ (cyN (fun i => tO g' f' m (sO g' m i)) (mO g' m)).length * d
  u2 : (cyN (fun i => tO g' f' m (sO g' m i)) (mO g' m)).length ≤ (cyN (fun i => tO g f n (sO g n i)) (mO g n)).length
theorem Cov.sig (h : Cov g f n g' f' m ψ) : ∃ d, CovS g f n g' f' m d := by
  have hP := h.proj
  have cu : ∀ x, x < mO g n → (fun q => phO g' m (ψ (lsO g n q))) (tO g f n (sO g n x)) = tO g' f' m (sO g' m ((fun q => phO g' m (ψ (lsO g n q))) x)) := fun x hx => by
    exact (hP.cf _ (hP.a.gp.lt x hx)).trans (congrArg _ (hP.cg x hx))
  exact ⟨_, hP.deg, hP.total,
    cyc_le h.a.ps h.b.ps hP.lt hP.cg hP.fib (cyN_cls h.a.ps) (cyN_cls h.b.ps), cyc_ge h.a.ps h.b.ps hP.cg hP.onto (cyN_cls h.a.ps) (cyN_cls h.b.ps),
    cyc_le h.a.pt h.b.pt hP.lt hP.cf hP.fib (cyN_cls h.a.pt) (cyN_cls h.b.pt), cyc_ge h.a.pt h.b.pt hP.cf hP.onto (cyN_cls h.a.pt) (cyN_cls h.b.pt),
    cyc_le h.a.ptu h.b.ptu hP.lt cu hP.fib (cyN_cls h.a.ptu) (cyN_cls h.b.ptu), cyc_ge h.a.ptu h.b.ptu cu hP.onto (cyN_cls h.a.ptu) (cyN_cls h.b.ptu)⟩
theorem CovS.eul {d : Nat} (h : CovS g f n g' f' m d) : eulZ g f n ≤ eulZ g' f' m * (d : Int) := by
  have h1 := h.ix
  have h2 := h.s1
  have h3 := h.t1
  have h4 := h.u1
  unfold eulZ
  generalize (cyN (sO g n) (mO g n)).length = a at *
  generalize (cyN (tO g f n) (mO g n)).length = b at *
  generalize (cyN (fun i => tO g f n (sO g n i)) (mO g n)).length = c at *
  generalize (cyN (sO g' m) (mO g' m)).length = a' at *
  generalize (cyN (tO g' f' m) (mO g' m)).length = b' at *
  generalize (cyN (fun i => tO g' f' m (sO g' m i)) (mO g' m)).length = c' at *
  generalize mO g n = x at *
  generalize mO g' m = y at *
  rw [Int.sub_mul, Int.add_mul, Int.add_mul]
  have e1 : ((a' * d : Nat) : Int) = (a' : Int) * d := Int.natCast_mul _ _
  have e2 : ((b' * d : Nat) : Int) = (b' : Int) * d := Int.natCast_mul _ _
  have e3 : ((c' * d : Nat) : Int) = (c' : Int) * d := Int.natCast_mul _ _
  have e4 : ((y * d : Nat) : Int) = (y : Int) * d := Int.natCast_mul _ _
  omega
theorem CovS.genus {d : Nat} (h : CovS g f n g' f' m d) (ha : PAct g f n) (hb : PAct g' f' m) (za : Inv2 f (fun i => g (g i)) n) (zb : Inv2 f' (fun i => g' (g' i)) m) (a3 : ∀ i, i < n → f (g (f (g (f (g i))))) = g (g i)) (b3 : ∀ i, i < m → f' (g' (f' (g' (f' (g' i))))) = g' (g' i)) : gnZ g' f' m ≤ gnZ g f n := by
  obtain ⟨h1, h2, _⟩ := ha.genus za a3
  obtain ⟨h3, h4, _⟩ := hb.genus zb b3
  have h5 := h.eul
  have h6 := h.d1
  rcases Int.lt_or_le 0 (gnZ g' f' m) with e | e
  · have : eulZ g' f' m * (d : Int) ≤ eulZ g' f' m * 1 := Int.mul_le_mul_of_nonpos_left (by omega) (by omega)
    omega
  · omega
/-- A group whose orbit with another one is no longer than its own points lies within it: the points map. -/
theorem two_cover (h : PAct g f n) (h' : PAct g' f' m) (hle : orbN (eG g g' m) (eG f f' m) (n * m) 0 ≤ n) : ∃ φ, φ 0 = 0 ∧ Cov g f n g' f' m φ := by
  have hG := eG_prm h.gp h'.gp
  have hF := eG_prm h.fp h'.fp
  have h0 : 0 < n * m := Nat.mul_pos h.pos h'.pos
  have hcl := fun x (hx : x ∈ bst (eG g g' m) (eG f f' m) 0 (n * m)) => bst_closed hG hF h0 hx
  have hlt := fun x (hx : x ∈ bst (eG g g' m) (eG f f' m) 0 (n * m)) => bst_lt hG hF h0 (n * m) x hx
  have hnd := bst_nodup (eG g g' m) (eG f f' m) 0 (n * m)
  have hz : 0 ∈ bst (eG g g' m) (eG f f' m) 0 (n * m) := by
    have := orb_mem (g := eG g g' m) (f := eG f f' m) (n := n * m) (i := 0) 0 orb_pos
    rwa [orb_first] at this
  unfold orbN at hle
  generalize bst (eG g g' m) (eG f f' m) 0 (n * m) = O at *
  have hon : ∀ x, x < n → ∃ p ∈ O, p / m = x := h.full (fun x => ∃ p ∈ O, p / m = x) ⟨0, hz, Nat.zero_div m⟩
    (fun x _ ⟨p, hp, e⟩ => ⟨_, (hcl p hp).1, by rw [eG_fst h'.gp (hlt p hp), e]⟩) (fun x _ ⟨p, hp, e⟩ => ⟨_, (hcl p hp).2, by rw [eG_fst h'.fp (hlt p hp), e]⟩)
  have hinj : ∀ p ∈ O, ∀ q ∈ O, p / m = q / m → p = q := fun p hp q hq e => by
    by_cases hne : p = q
    · exact hne
    · exfalso
      have h1 := List.Nodup.length_le_of_subset (l₁ := List.range n) (l₂ := (O.erase p).map (· / m)) List.nodup_range fun x hx => by
        obtain ⟨r, hr, e2⟩ := hon x (List.mem_range.1 hx)
        by_cases hrp : r = p
        · exact List.mem_map.2 ⟨q, hnd.mem_erase_iff.2 ⟨fun e3 => hne e3.symm, hq⟩, by show q / m = x; rw [← e, ← hrp, e2]⟩
        · exact List.mem_map.2 ⟨r, hnd.mem_erase_iff.2 ⟨hrp, hr⟩, e2⟩
      have h2 := List.length_erase_of_mem hp
      have h3 := List.length_pos_of_mem hp
      simp at h1
      omega
  have key : ∀ x, ∃ p, x < n → p ∈ O ∧ p / m = x := fun x => by
    by_cases hx : x < n
    · obtain ⟨p, h1, h2⟩ := hon x hx
      exact ⟨p, fun _ => ⟨h1, h2⟩⟩
    · exact ⟨0, fun h => absurd h hx⟩
  have hg := fun x => Classical.choose_spec (key x)
  generalize hgd : (fun x => Classical.choose (key x)) = π
  have hg : ∀ x, x < n → π x ∈ O ∧ π x / m = x := fun x => by rw [← hgd]; exact hg x
  refine ⟨fun x => π x % m, ?_, h, h', fun x hx => Nat.mod_lt _ h'.pos, fun x hx => ?_, fun x hx => ?_⟩
  · obtain ⟨h1, h2⟩ := hg 0 h.pos
    have : π 0 = 0 := hinj _ h1 _ hz (by rw [h2, Nat.zero_div])
    show π 0 % m = 0
    rw [this, Nat.zero_mod]
  · obtain ⟨h1, h2⟩ := hg x hx
    obtain ⟨h3, h4⟩ := hg (g x) (h.gp.lt x hx)
    have : π (g x) = eG g g' m (π x) := hinj _ h3 _ (hcl _ h1).1 (by rw [h4, eG_fst h'.gp (hlt _ h1), h2])
    show π (g x) % m = g' (π x % m)
    rw [this, eG_snd h'.gp (hlt _ h1)]
  · obtain ⟨h1, h2⟩ := hg x hx
    obtain ⟨h3, h4⟩ := hg (f x) (h.fp.lt x hx)
    have : π (f x) = eG f f' m (π x) := hinj _ h3 _ (hcl _ h1).2 (by rw [h4, eG_fst h'.fp (hlt _ h1), h2])
    show π (f x) % m = f' (π x % m)
    rw [this, eG_snd h'.fp (hlt _ h1)]
end
end Go.Proofs.Ytmikhkolbkdnpaa
namespace Go.Proofs.Ytmikhkolbkdnpaa
set_option linter.unusedVariables false

/-- Of the classes' points, those with an invariant property are no more. -/
theorem reps_filter_le {R Q : Nat → Nat → Prop} {n m : Nat} {L M : List Nat} (hQ : Eqv Q m) (hL : Reps R n L) (hM : Reps Q m M) (φ : Nat → Nat) (hφ : ∀ i, i < n → φ i < m) (h : ∀ i j, i < n → j < n → Q (φ i) (φ j) → R i j) (A B : Nat → Bool) (hAB : ∀ i, i < n → A i = true → B (φ i) = true) (hB : ∀ i j, i < m → j < m → Q i j → B j = true → B i = true) : (L.filter A).length ≤ (M.filter B).length := by
  have key : ∀ x, ∃ y, x ∈ L → y ∈ M ∧ Q y (φ x) := fun x => by
    by_cases hx : x ∈ L
    · obtain ⟨y, hy, hq⟩ := hM.all (φ x) (hφ x (hL.lt x hx))
      exact ⟨y, fun _ => ⟨hy, hq⟩⟩
    · exact ⟨0, fun h => absurd h hx⟩
  have hg := fun x => Classical.choose_spec (key x)
  generalize hgd : (fun x => Classical.choose (key x)) = g
  have hg : ∀ x, x ∈ L → g x ∈ M ∧ Q (g x) (φ x) := fun x => by rw [← hgd]; exact hg x
  have hd : ((L.filter A).map g).Nodup := nodup_map_on (hL.nd.filter _) fun x hx y hy e => by
    have hx := (List.mem_filter.1 hx).1
    have hy := (List.mem_filter.1 hy).1
    have h1 := hg x hx
    have h2 := hg y hy
    rw [← e] at h2
    have l1 := hφ x (hL.lt x hx)
    have l2 := hφ y (hL.lt y hy)
    have l3 := hM.lt _ h1.1
    exact hL.one x hx y hy (h x y (hL.lt x hx) (hL.lt y hy) (hQ.trans _ _ _ l1 l3 l2 (hQ.symm _ _ l3 l1 h1.2) h2.2))
  have := List.Nodup.length_le_of_subset (l₂ := M.filter B) hd fun y hy => by
    obtain ⟨x, hx, rfl⟩ := List.mem_map.1 hy
    obtain ⟨hx, hxa⟩ := List.mem_filter.1 hx
    have h1 := hg x hx
    exact List.mem_filter.2 ⟨h1.1, hB _ _ (hM.lt _ h1.1) (hφ x (hL.lt x hx)) h1.2 (hAB x (hL.lt x hx) hxa)⟩
  simpa using this
/-- When a cusp is irregular. -/
theorem rgF_iff {S T : List Int} (ha : Act2 S T) {p : Nat} (hp : p < S.length) : (!rgF S T p) = true ↔ mnB S = false ∧ onC (fnz T) p (fnz S (fnz S p)) := by
  cases hm : mnB S with
  | true => rw [(rg_minus ha hp hm).1]; simp
  | false =>
    have hz := rel_inv ha.ps ha.pt ha.rel
    have h1 := (perO_spec ha.pt hp).1
    have h2 := Inv2.per ha.pt hz hp h1
    have h3 := (perO_spec ha.pt (hz.lt p hp)).1
    have e : perO (fnz T) S.length (fnz S (fnz S p)) = perO (fnz T) S.length p := h3.uniq h2
    have c1 := h1.pos
    have hw : wdF S T p = wid0 (fnz T) (fun i => fnz S (fnz S i)) S.length p / 2 := (rg_other ha hp hm).2
    have hr : rgF S T p = decide (perO (fnz T) S.length p = wdF S T p) := rfl
    rw [hr, hw]
    unfold wid0
    by_cases hc : (cyL (fnz T) p (perO (fnz T) S.length p)).contains (fnz S (fnz S p)) = true
    · have ho := (cy_on ha.pt hp).1 hc
      rw [if_pos hc, Nat.add_zero, decide_eq_false (by omega)]
      exact ⟨fun _ => ⟨rfl, ho⟩, fun _ => rfl⟩
    · rw [if_neg hc, e, decide_eq_true (by omega)]
      exact ⟨fun h => by simp at h, fun h => absurd ((cy_on ha.pt hp).2 h.2) hc⟩
/-- The same action, its points renamed. -/
structure Ren (S T S' T' : List Int) (p q : Nat → Nat) : Prop where
  a : Act2 S T
  b : Act2 S' T'
  len : S'.length = S.length
  c : Cov (fnz S) (fnz T) S.length (fnz S') (fnz T') S'.length p
  d : Cov (fnz S') (fnz T') S'.length (fnz S) (fnz T) S.length q
  pq : ∀ x, x < S.length → q (p x) = x
section
variable {S T S' T' : List Int} {p q : Nat → Nat}
theorem Ren.qp (h : Ren S T S' T' p q) (x : Nat) (hx : x < S'.length) : p (q x) = x := by
  obtain ⟨y, hy, rfl⟩ := h.c.onto x hx
  rw [h.pq y hy]
theorem Ren.symm (h : Ren S T S' T' p q) : Ren S' T' S T q p := ⟨h.b, h.a, h.len.symm, h.d, h.c, h.qp⟩
theorem Ren.mn_le (h : Ren S T S' T' p q) (hm : mnB S = true) : mnB S' = true := by
  have h0 : fnz S (fnz S 0) = 0 := by simpa [mnB] using hm
  have hA := pact_of h.a
  have hall : ∀ x, x < S.length → fnz S (fnz S x) = x := hA.full (fun x => fnz S (fnz S x) = x) h0 (fun x hx e => by rw [e]) (fun x hx e => by rw [← hA.fc x hx, e])
  have hpos := (pact_of h.b).pos
  obtain ⟨y, hy, e⟩ := h.c.onto 0 hpos
  have h1 := h.c.cg _ (hA.gp.lt y hy)
  rw [h.c.cg y hy, hall y hy, e] at h1
  simp [mnB, ← h1]
theorem Ren.mn (h : Ren S T S' T' p q) : mnB S = mnB S' := by
  cases e : mnB S with
  | true => exact (h.mn_le e).symm
  | false =>
    cases e' : mnB S' with
    | true => rw [h.symm.mn_le e'] at e; cases e
    | false => rfl
theorem Ren.on (h : Ren S T S' T' p q) {i j : Nat} (hi : i < S.length) (hj : j < S.length) (ho : onC (fnz T') (p i) (p j)) : onC (fnz T) i j := by
  obtain ⟨k, hk⟩ := ho
  refine ⟨k, ?_⟩
  have hA := pact_of h.a
  rw [← itr_map hA.fp h.c.cf hi k] at hk
  have := congrArg q hk
  rwa [h.pq _ (hA.fp.itr_lt hi k), h.pq _ hj] at this
theorem Ren.ir_le (h : Ren S T S' T' p q) : irL (rgF S T) (clP S T) ≤ irL (rgF S' T') (clP S' T') := by
  have hA := pact_of h.a
  have hB := pact_of h.b
  have za := rel_inv h.a.ps h.a.pt h.a.rel
  have zb := rel_inv h.b.ps h.b.pt h.b.rel
  have hz : ∀ i, i < S.length → p (fnz S (fnz S i)) = fnz S' (fnz S' (p i)) := fun i hi => by rw [h.c.cg _ (hA.gp.lt i hi), h.c.cg i hi]
  have r1 := cst_reps h.a.pt za
  have r2 := cst_reps h.b.pt zb
  rw [clP_ok (chkA_ok h.a), clP_ok (chkA_ok h.b)]
  unfold irL
  refine reps_filter_le (uB_eqv h.b.pt zb) r1 r2 p h.c.lt (fun i j hi hj hu => ?_) _ _ (fun i hi e => ?_) (fun i j hi hj hu e => ?_)
  · have hu : uB (fnz T') (fun i => fnz S' (fnz S' i)) S'.length (p i) (p j) = true := hu
    show uB (fnz T) (fun i => fnz S (fnz S i)) S.length i j = true
    rw [uB_iff h.b.pt zb (h.c.lt i hi)] at hu
    rw [uB_iff h.a.pt za hi]
    rcases hu with hu | hu
    · exact .inl (h.on hi hj hu)
    · exact .inr (h.on (za.lt i hi) hj (by show onC (fnz T') (p (fnz S (fnz S i))) (p j); rw [hz i hi]; exact hu))
  · obtain ⟨e1, k, e2⟩ := (rgF_iff h.a hi).1 e
    refine (rgF_iff h.b (h.c.lt i hi)).2 ⟨by rw [← h.mn]; exact e1, k, ?_⟩
    rw [← itr_map hA.fp h.c.cf hi k, e2, hz i hi]
  · obtain ⟨e1, e2⟩ := (rgF_iff h.b hj).1 e
    refine (rgF_iff h.b hi).2 ⟨e1, ?_⟩
    have hu : uB (fnz T') (fun i => fnz S' (fnz S' i)) S'.length i j = true := hu
    rw [uB_iff h.b.pt zb hi] at hu
    have hzj := zb.lt j hj
    have hzi := zb.lt i hi
    have zz : fnz S' (fnz S' (fnz S' (fnz S' i))) = i := hB.zz i hi
    rcases hu with hu | hu
    · -- i to j, j to z j, z j back to z i
      have h1 : onC (fnz T') (fnz S' (fnz S' i)) (fnz S' (fnz S' j)) := Inv2.on (z := fun i => fnz S' (fnz S' i)) h.b.pt zb hi hu
      exact onC_trans (onC_trans hu e2) (onC_symm h.b.pt hzi h1)
    · have h1 : onC (fnz T') (fnz S' (fnz S' (fnz S' (fnz S' i)))) (fnz S' (fnz S' j)) := Inv2.on (z := fun i => fnz S' (fnz S' i)) h.b.pt zb hzi hu
      rw [zz] at h1
      exact onC_trans (onC_trans h1 (onC_symm h.b.pt hj e2)) (onC_symm h.b.pt hzi hu)
theorem Ren.sig (h : Ren S T S' T' p q) : ixS S T = ixS S' T' ∧ gnS S T = gnS S' T' ∧ n2S S T = n2S S' T' ∧ n3S S T = n3S S' T' ∧ cuS S T = cuS S' T' ∧ irS S T = irS S' T' ∧ miS S T = miS S' T' := by
  have hA := pact_of h.a
  have hB := pact_of h.b
  have za := rel_inv h.a.ps h.a.pt h.a.rel
  have zb := rel_inv h.b.ps h.b.pt h.b.rel
  have a3 : ∀ i, i < S.length → fnz T (fnz S (fnz T (fnz S (fnz T (fnz S i))))) = fnz S (fnz S i) := fun i hi => (h.a.rel i hi).2
  have b3 : ∀ i, i < S'.length → fnz T' (fnz S' (fnz T' (fnz S' (fnz T' (fnz S' i))))) = fnz S' (fnz S' i) := fun i hi => (h.b.rel i hi).2
  have hca := chkA_ok h.a
  have hcb := chkA_ok h.b
  obtain ⟨d, hD⟩ := h.c.sig
  obtain ⟨d', hD'⟩ := h.d.sig
  have hir : irS S T = irS S' T' := by
    have h1 := h.ir_le
    have h2 := h.symm.ir_le
    unfold irS
    omega
  have ec : ∀ {S T : List Int}, Act2 S T → cuS S T = (cuZ (fnz S) (fnz T) S.length : Nat) := fun {S T} h => by unfold cuS; rw [clP_ok (chkA_ok h)]; rfl
  have e1 : ixS S T = (mO (fnz S) S.length : Nat) := if_pos hca
  have e2 : gnS S T = gnZ (fnz S) (fnz T) S.length := if_pos hca
  have e3 : n2S S T = (n2Z (fnz S) S.length : Nat) := if_pos hca
  have e4 : n3S S T = (n3Z (fnz S) (fnz T) S.length : Nat) := if_pos hca
  have e5 : miS S T = mnB S := if_pos hca
  have f1 : ixS S' T' = (mO (fnz S') S'.length : Nat) := if_pos hcb
  have f2 : gnS S' T' = gnZ (fnz S') (fnz T') S'.length := if_pos hcb
  have f3 : n2S S' T' = (n2Z (fnz S') S'.length : Nat) := if_pos hcb
  have f4 : n3S S' T' = (n3Z (fnz S') (fnz T') S'.length : Nat) := if_pos hcb
  have f5 : miS S' T' = mnB S' := if_pos hcb
  rw [e1, e2, e3, e4, e5, f1, f2, f3, f4, f5, ec h.a, ec h.b]
  have m1 := hA.mpos
  have m2 := hB.mpos
  have hd1 := hD.d1
  have hd2 := hD'.d1
  have i1 := hD.ix
  have i2 := hD'.ix
  have hm : mO (fnz S) S.length = mO (fnz S') S'.length := by
    have k1 : mO (fnz S') S'.length * 1 ≤ mO (fnz S') S'.length * d := Nat.mul_le_mul_left _ hd1
    have k2 : mO (fnz S) S.length * 1 ≤ mO (fnz S) S.length * d' := Nat.mul_le_mul_left _ hd2
    omega
  have hdd : d = 1 := by
    rw [hm] at i1
    have : mO (fnz S') S'.length * 1 = mO (fnz S') S'.length * d := by rw [Nat.mul_one]; exact i1
    exact (Nat.eq_of_mul_eq_mul_left m2 this).symm
  subst hdd
  have s1 := hD.s1
  have s2 := hD.s2
  have t1 := hD.t1
  have t2 := hD.t2
  have u1 := hD.u1
  have u2 := hD.u2
  rw [Nat.mul_one] at s1 t1 u1
  have n2 := hA.nu2
  have n2' := hB.nu2
  have n3 := hA.nu3 a3
  have n3' := hB.nu3 b3
  have c1 := hA.cu za
  have c2 := hB.cu zb
  have E2 : n2Z (fnz S) S.length = n2Z (fnz S') S'.length := by omega
  have E3 : n3Z (fnz S) (fnz T) S.length = n3Z (fnz S') (fnz T') S'.length := by omega
  have EC : cuZ (fnz S) (fnz T) S.length = cuZ (fnz S') (fnz T') S'.length := by omega
  refine ⟨by rw [hm], ?_, by rw [E2], by rw [E3], by rw [EC], hir, h.mn⟩
  unfold gnZ
  rw [hm, E2, E3, EC]
end
theorem ren_base {S T : List Int} (h : Act2 S T) {j : Nat} (hj : j < S.length) : Ren S T (iz (bS (fnz S) (fnz T) S.length j)) (iz (bT (fnz S) (fnz T) S.length j)) (plcO (fnz S) (fnz T) S.length j) (ordO (fnz S) (fnz T) S.length j) := by
  have hP := pact_of h
  have hb := base_act h hj
  have hB := base_pact hP hj
  have l1 : (iz (bS (fnz S) (fnz T) S.length j)).length = S.length := by rw [iz_len]; unfold bS; simp
  refine ⟨h, hb, l1, ?_, ?_, fun x hx => ord_plc hP hj x hx⟩
  · rw [l1]
    exact ⟨hP, hB, (plc_prm hP hj).lt, fun x hx => (bS_pl hP hj x hx).symm, fun x hx => (bT_pl hP hj x hx).symm⟩
  · rw [l1]
    refine ⟨hB, hP, fun x hx => ord_lt hP hj x hx, fun x hx => ?_, fun x hx => ?_⟩
    · unfold bS
      rw [fnz_map hx, ord_plc hP hj _ (hP.gp.lt _ (ord_lt hP hj x hx))]
    · unfold bT
      rw [fnz_map hx, ord_plc hP hj _ (hP.fp.lt _ (ord_lt hP hj x hx))]
end Go.Proofs.Ytmikhkolbkdnpaa
namespace Go.Proofs.Ytmikhkolbkdnpaa
open Go.RowKit
set_option linter.unusedVariables false
set_option linter.unusedSimpArgs false

set_option maxHeartbeats 3200000 in
set_option maxRecDepth 1000000 in
theorem ckpoint_bad {S T : List Int} {B cS cT : Nat} {AS AT : Option Addr} (w : World) (hS : RdZ w B AS cS S) (hT : RdZ w B AT cT T) (hB : B ≤ w.heap.size) (i z : Int) (hz : chkA S T = z) (hz0 : z ≠ 0) :
    Calls Try.prog 37 #[.agg #[.slice AS S.length cS, .slice AT T.length cT], .int .i64 i] w fun e w' => e = .returned (.int .i64 z) ∧ Below w.heap.size w w' := by
  have HCk : Hid (∀ W, Below w.heap.size w W → Calls Try.prog 34 #[.agg #[.slice AS S.length cS, .slice AT T.length cT]] W fun e w' => e = .returned (.int .i64 z) ∧ Below W.heap.size W w') := fun W hb => by
    have := pcheck_any W (hS.below (hb.mono hB)) (hT.below (hb.mono hB)) (Nat.le_trans hB hb.size)
    rwa [hz] at this
  clear hS hT hz
  have HB0 : Hid (Below w.heap.size w (w.alloc (.cells #[.slice AS S.length cS, .slice AT T.length cT] 24))) := below1 w _
  have hzb : (z == 0) = false := by simpa using hz0
  go_enter Try.func37, Try.ntmps37
  go_wp2_with (first
    | (go_at_call 34; ((with_reducible refine (HCk.out _ HB0.out).mono ?_); rintro e w1 ⟨rfl, hb⟩; have HB1 := Lib.hid (bel0 HB0.out hb); clear hb))
    | fail)
  go_ret
  exact ⟨rfl, HB1.out⟩
set_option maxHeartbeats 3200000 in
set_option maxRecDepth 1000000 in
theorem base_bad {S T : List Int} {B cS cT : Nat} {AS AT : Option Addr} (w : World) (hS : RdZ w B AS cS S) (hT : RdZ w B AT cT T) (hB : B ≤ w.heap.size) (i z : Int) (hz : chkA S T = z) (hz0 : z ≠ 0) :
    Calls Try.prog 15 #[.agg #[.slice AS S.length cS, .slice AT T.length cT], .int .i64 i] w fun e w' => e = .returned (.tuple #[.agg #[.slice none 0 0, .slice none 0 0], .int .i64 z]) ∧ Below w.heap.size w w' := by
  have HCk : Hid (∀ W, Below w.heap.size w W → Calls Try.prog 37 #[.agg #[.slice AS S.length cS, .slice AT T.length cT], .int .i64 i] W fun e w' => e = .returned (.int .i64 z) ∧ Below W.heap.size W w') := fun W hb => ckpoint_bad W (hS.below (hb.mono hB)) (hT.below (hb.mono hB)) (Nat.le_trans hB hb.size) i z hz hz0
  clear hS hT hz
  have hr0 := heap_alloc_new (w.alloc (.cells #[.slice AS S.length cS, .slice AT T.length cT] 24)) (.cells #[.slice none 0 0, .slice none 0 0] 24)
  rw [show (w.alloc (.cells #[.slice AS S.length cS, .slice AT T.length cT] 24)).heap.size = w.heap.size + 1 by simp] at hr0
  have R0 := Lib.hid hr0
  have HB0 : Hid (Below w.heap.size w ((w.alloc (.cells #[.slice AS S.length cS, .slice AT T.length cT] 24)).alloc (.cells #[.slice none 0 0, .slice none 0 0] 24))) := below2 w _ _
  have hzb : (z == 0) = false := by simpa using hz0
  clear hr0
  go_enter Try.func15, Try.ntmps15
  go_wp2_with (first
    | (go_at_call 37; ((with_reducible refine (HCk.out _ HB0.out).mono ?_); rintro e w1 ⟨rfl, hb⟩; have HB1 := Lib.hid (bel0 HB0.out hb); have R1 := Lib.hid (block_below R0.out hb); obtain ⟨⟨r1, r2⟩, rf⟩ := two_of_block R1.out; have hz2 := lt_of_block R1.out; clear hb))
    | fail)
  have hrl := two_set1 (two_set0 R1.out (.slice none 0 0)) (.slice none 0 0)
  obtain ⟨⟨s1, s2⟩, _⟩ := two_of_block hrl
  refine bodyPost_ret (v := .tuple #[.agg #[.slice none 0 0, .slice none 0 0], .int .i64 z]) ?_ rfl ⟨rfl, (HB1.out.setCell (by show _ ≤ w.heap.size + 1; omega) _).setCell (by show _ ≤ w.heap.size + 1; omega) _⟩
  simp [results, Try.results15, go_sem, s1, s2]
set_option maxHeartbeats 6400000 in
set_option maxRecDepth 1000000 in
theorem sgbas_bad (S T : List Int) {cS cT : Nat} {AS AT : Option Addr} (i : Int) (w : World) (hS : RdZ w w.heap.size AS cS S) (hT : RdZ w w.heap.size AT cT T) (z : Int) (hz : chkA S T = z) (hz0 : z ≠ 0) :
    Calls Try.prog 5 #[.agg #[.slice AS S.length cS, .slice AT T.length cT], .int .i64 i] w fun e w' => e = .returned (.bool true) ∧ Below w.heap.size w w' := by
  have T0 : Hid ((w.alloc (.cells #[.slice AS S.length cS, .slice AT T.length cT] 24)).heap[w.heap.size]? = some (.cells #[.slice AS S.length cS, .slice AT T.length cT] 24 (0, 0))) := heap_alloc_new w _
  have HB0 : Hid (Below w.heap.size w (w.alloc (.cells #[.slice AS S.length cS, .slice AT T.length cT] 24))) := below1 w _
  have HOf := Lib.hid (fun W (hb : Below w.heap.size w W) => sof_bad W (hS.below hb) (hT.below hb) hb.size z hz hz0)
  have HBa := Lib.hid (fun W (hb : Below w.heap.size w W) => base_bad W (hS.below hb) (hT.below hb) hb.size i z hz hz0)
  have hzb : (z == 0) = false := by simpa using hz0
  clear hS hT hz
  go_enter Try.func5, Try.ntmps5
  go_wp2_with (first
    | (go_at_call 10; ((with_reducible refine (awake_any _).mono ?_); rintro e w1 ⟨rfl, hb⟩; have HB1 := Lib.hid (bel0 HB0.out hb); have T1 := Lib.hid (block_below T0.out hb); obtain ⟨⟨t1, t2⟩, _⟩ := two_of_block T1.out; clear hb))
    | (go_at_call 11; ((with_reducible refine (HOf.out _ HB1.out).mono ?_); rintro e w2 ⟨rfl, hb⟩; have HB2 : Hid (Below w.heap.size w (w2.alloc (.cells #[.int .i64 0, .int .i64 0, .int .i64 0, .int .i64 0, .int .i64 0, .int .i64 0, .bool false] 27))) := (bel0 HB1.out hb).alloc (bel0 HB1.out hb).size _; have T2 := Lib.hid (block_alloc (block_below T1.out hb) (.cells #[.int .i64 0, .int .i64 0, .int .i64 0, .int .i64 0, .int .i64 0, .int .i64 0, .bool false] 27)); have P2 := Lib.hid (heap_alloc_new w2 (.cells #[.int .i64 0, .int .i64 0, .int .i64 0, .int .i64 0, .int .i64 0, .int .i64 0, .bool false] 27)); clear t1 t2; obtain ⟨⟨t1, t2⟩, _⟩ := two_of_block T2.out; clear hb))
    | (go_at_call 15; ((with_reducible refine (HBa.out _ HB2.out).mono ?_); rintro e w3 ⟨rfl, hb⟩; have HB3 := Lib.hid (bel0 HB2.out hb); clear hb t1 t2))
    | fail)
  go_ret
  exact ⟨rfl, HB3.out.alloc HB3.out.size _⟩
set_option maxHeartbeats 6400000 in
set_option maxRecDepth 1000000 in
theorem sgbas_out (S T : List Int) {bS oS bT oT cS cT : Nat} (i : Int) (w : World) (h : AI w w.heap.size bS oS bT oT S T cS cT) (hi : i < 0 ∨ (S.length : Int) ≤ i) :
    Calls Try.prog 5 #[.agg #[.slice (some ⟨bS, oS, none⟩) S.length cS, .slice (some ⟨bT, oT, none⟩) S.length cT], .int .i64 i] w fun e w' => e = .returned (.bool true) ∧ Below w.heap.size w w' := by
  have T0 : Hid ((w.alloc (.cells #[.slice (some ⟨bS, oS, none⟩) S.length cS, .slice (some ⟨bT, oT, none⟩) S.length cT] 24)).heap[w.heap.size]? = some (.cells #[.slice (some ⟨bS, oS, none⟩) S.length cS, .slice (some ⟨bT, oT, none⟩) S.length cT] 24 (0, 0))) := heap_alloc_new w _
  have HB0 : Hid (Below w.heap.size w (w.alloc (.cells #[.slice (some ⟨bS, oS, none⟩) S.length cS, .slice (some ⟨bT, oT, none⟩) S.length cT] 24))) := below1 w _
  have HOf := Lib.hid (fun W (hb : Below w.heap.size w W) => sof_ok W (h.below hb))
  have HBa := Lib.hid (fun W (hb : Below w.heap.size w W) => base_out W (h.below hb) i hi)
  have HSg : Hid (sgA S T = .agg #[.int .i64 (ixS S T), .int .i64 (gnS S T), .int .i64 (n2S S T), .int .i64 (n3S S T), .int .i64 (cuS S T), .int .i64 (irS S T), .bool (miS S T)]) := (sgX_ok (chkA_ok h.act)).symm
  rw [HSg.out] at HOf
  clear HSg h hi
  generalize ixS S T = x0 at *
  generalize gnS S T = x1 at *
  generalize n2S S T = x2 at *
  generalize n3S S T = x3 at *
  generalize cuS S T = x4 at *
  generalize irS S T = x5 at *
  generalize miS S T = x6 at *
  go_enter Try.func5, Try.ntmps5
  go_wp2_with (first
    | (go_at_call 10; ((with_reducible refine (awake_any _).mono ?_); rintro e w1 ⟨rfl, hb⟩; have HB1 := Lib.hid (bel0 HB0.out hb); have T1 := Lib.hid (block_below T0.out hb); obtain ⟨⟨t1, t2⟩, _⟩ := two_of_block T1.out; clear hb))
    | (go_at_call 11; ((with_reducible refine (HOf.out _ HB1.out).mono ?_); rintro e w2 ⟨rfl, hb⟩; have HB2 : Hid (Below w.heap.size w (w2.alloc (.cells #[.int .i64 x0, .int .i64 x1, .int .i64 x2, .int .i64 x3, .int .i64 x4, .int .i64 x5, .bool x6] 27))) := (bel0 HB1.out hb).alloc (bel0 HB1.out hb).size _; have T2 := Lib.hid (block_alloc (block_below T1.out hb) (.cells #[.int .i64 x0, .int .i64 x1, .int .i64 x2, .int .i64 x3, .int .i64 x4, .int .i64 x5, .bool x6] 27)); have P2 := Lib.hid (heap_alloc_new w2 (.cells #[.int .i64 x0, .int .i64 x1, .int .i64 x2, .int .i64 x3, .int .i64 x4, .int .i64 x5, .bool x6] 27)); clear t1 t2; obtain ⟨⟨t1, t2⟩, _⟩ := two_of_block T2.out; clear hb))
    | (go_at_call 15; ((with_reducible refine (HBa.out _ HB2.out).mono ?_); rintro e w3 ⟨rfl, hb⟩; have HB3 := Lib.hid (bel0 HB2.out hb); clear hb t1 t2))
    | fail)
  go_ret
  exact ⟨rfl, HB3.out.alloc HB3.out.size _⟩
set_option maxHeartbeats 6400000 in
set_option maxRecDepth 1000000 in
theorem sgbas_ok (S T : List Int) {bS oS bT oT cS cT : Nat} (j : Nat) (w : World) (h : AI w w.heap.size bS oS bT oT S T cS cT) (hj : j < S.length) :
    Calls Try.prog 5 #[.agg #[.slice (some ⟨bS, oS, none⟩) S.length cS, .slice (some ⟨bT, oT, none⟩) S.length cT], .int .i64 (j : Nat)] w fun e w' => e = .returned (.bool true) ∧ Below w.heap.size w w' := by
  have T0 : Hid ((w.alloc (.cells #[.slice (some ⟨bS, oS, none⟩) S.length cS, .slice (some ⟨bT, oT, none⟩) S.length cT] 24)).heap[w.heap.size]? = some (.cells #[.slice (some ⟨bS, oS, none⟩) S.length cS, .slice (some ⟨bT, oT, none⟩) S.length cT] 24 (0, 0))) := heap_alloc_new w _
  have HB0 : Hid (Below w.heap.size w (w.alloc (.cells #[.slice (some ⟨bS, oS, none⟩) S.length cS, .slice (some ⟨bT, oT, none⟩) S.length cT] 24))) := below1 w _
  have HOf := Lib.hid (fun W (hb : Below w.heap.size w W) => sof_ok W (h.below hb))
  have HBa := Lib.hid (fun W (hb : Below w.heap.size w W) => base_any W (h.below hb) j hj)
  have HSg : Hid (sgA S T = .agg #[.int .i64 (ixS S T), .int .i64 (gnS S T), .int .i64 (n2S S T), .int .i64 (n3S S T), .int .i64 (cuS S T), .int .i64 (irS S T), .bool (miS S T)]) := (sgX_ok (chkA_ok h.act)).symm
  rw [HSg.out] at HOf
  have hba := base_act h.act hj
  have hl1 : (iz (Go.Proofs.Ytmikhkolbkdnpaa.bS (fnz S) (fnz T) S.length j)).length = S.length := by rw [iz_len]; unfold Go.Proofs.Ytmikhkolbkdnpaa.bS; simp
  have HO2 : Hid (∀ (W : World) A c A' c', RdZ W W.heap.size A c (iz (Go.Proofs.Ytmikhkolbkdnpaa.bS (fnz S) (fnz T) S.length j)) → RdZ W W.heap.size A' c' (iz (Go.Proofs.Ytmikhkolbkdnpaa.bT (fnz S) (fnz T) S.length j)) → Calls Try.prog 11 #[.agg #[.slice A S.length c, .slice A' S.length c']] W fun e w' => e = .returned (.tuple #[.agg #[.int .i64 (ixS S T), .int .i64 (gnS S T), .int .i64 (n2S S T), .int .i64 (n3S S T), .int .i64 (cuS S T), .int .i64 (irS S T), .bool (miS S T)], .int .i64 0]) ∧ Below W.heap.size W w') := fun W A c A' c' h1 h2 => by
    obtain ⟨b1, o1, b2, o2, rfl, rfl, hai⟩ := AI.mk' hba h1 h2 (Nat.le_refl _)
    have := sof_ok W hai
    rw [hl1, ← sgX_ok (chkA_ok hba)] at this
    obtain ⟨e0, e1, e2, e3, e4, e5, e6⟩ := (ren_base h.act hj).sig
    unfold sgX at this
    rwa [← e0, ← e1, ← e2, ← e3, ← e4, ← e5, ← e6] at this
  clear HSg h hj hba hl1
  generalize Go.Proofs.Ytmikhkolbkdnpaa.bS (fnz S) (fnz T) S.length j = QS at *
  generalize Go.Proofs.Ytmikhkolbkdnpaa.bT (fnz S) (fnz T) S.length j = QT at *
  generalize ixS S T = x0 at *
  generalize gnS S T = x1 at *
  generalize n2S S T = x2 at *
  generalize n3S S T = x3 at *
  generalize cuS S T = x4 at *
  generalize irS S T = x5 at *
  generalize miS S T = x6 at *
  go_enter Try.func5, Try.ntmps5
  go_wp2_with (first
    | (go_at_call 10; ((with_reducible refine (awake_any _).mono ?_); rintro e w1 ⟨rfl, hb⟩; have HB1 := Lib.hid (bel0 HB0.out hb); have T1 := Lib.hid (block_below T0.out hb); obtain ⟨⟨t1, t2⟩, _⟩ := two_of_block T1.out; clear hb))
    | (go_at_call 15; ((with_reducible refine (HBa.out _ HB2.out).mono ?_); rintro e w3 ⟨A1, c1, A2, c2, rfl, h1, h2, hb⟩; have HB3 : Hid (Below w.heap.size w (w3.alloc (.cells #[.slice A1 S.length c1, .slice A2 S.length c2] 24))) := (bel0 HB2.out hb).alloc (bel0 HB2.out hb).size _; have hb3 := below1 w3 (.cells #[.slice A1 S.length c1, .slice A2 S.length c2] 24); have K1 := Lib.hid ((h1.below hb3).mono hb3.size); have K2 := Lib.hid ((h2.below hb3).mono hb3.size); have Q3 := Lib.hid (heap_alloc_new w3 (.cells #[.slice A1 S.length c1, .slice A2 S.length c2] 24)); have P3 := Lib.hid (block_alloc (block_below P2.out hb) (.cells #[.slice A1 S.length c1, .slice A2 S.length c2] 24)); clear t1 t2; obtain ⟨⟨t1, t2⟩, _⟩ := two_of_block Q3.out; clear hb h1 h2 hb3))
    | (go_at_call 11; first
      | ((with_reducible refine (HOf.out _ HB1.out).mono ?_); rintro e w2 ⟨rfl, hb⟩; have HB2 : Hid (Below w.heap.size w (w2.alloc (.cells #[.int .i64 x0, .int .i64 x1, .int .i64 x2, .int .i64 x3, .int .i64 x4, .int .i64 x5, .bool x6] 27))) := (bel0 HB1.out hb).alloc (bel0 HB1.out hb).size _; have T2 := Lib.hid (block_alloc (block_below T1.out hb) (.cells #[.int .i64 x0, .int .i64 x1, .int .i64 x2, .int .i64 x3, .int .i64 x4, .int .i64 x5, .bool x6] 27)); have P2 := Lib.hid (heap_alloc_new w2 (.cells #[.int .i64 x0, .int .i64 x1, .int .i64 x2, .int .i64 x3, .int .i64 x4, .int .i64 x5, .bool x6] 27)); clear t1 t2; obtain ⟨⟨t1, t2⟩, _⟩ := two_of_block T2.out; clear hb)
      | ((with_reducible refine (HO2.out _ _ _ _ _ K1.out K2.out).mono ?_); rintro e w4 ⟨rfl, hb⟩; have HB4 : Hid (Below w.heap.size w (w4.alloc (.cells #[.int .i64 x0, .int .i64 x1, .int .i64 x2, .int .i64 x3, .int .i64 x4, .int .i64 x5, .bool x6] 27))) := (bel0 HB3.out hb).alloc (bel0 HB3.out hb).size _; have P4 := Lib.hid (block_alloc (block_below P3.out hb) (.cells #[.int .i64 x0, .int .i64 x1, .int .i64 x2, .int .i64 x3, .int .i64 x4, .int .i64 x5, .bool x6] 27)); clear t1 t2 hb; obtain ⟨⟨a0, a1, a2, a3, a4, a5, a6⟩, _⟩ := seven_of_block P4.out))
    | fail)
  go_ret
  exact ⟨rfl, HB4.out⟩
theorem sgbas_walk (S T : List Int) (i : Int) {cS cT : Nat} {AS AT : Option Addr} (w : World) (hS : RdZ w w.heap.size AS cS S) (hT : RdZ w w.heap.size AT cT T) :
    Calls Try.prog 5 #[.agg #[.slice AS S.length cS, .slice AT T.length cT], .int .i64 i] w fun e w' => e = .returned (.bool true) ∧ Below w.heap.size w w' := by
  by_cases h : chkA S T = 0
  · have ha := chkA_zero h
    obtain ⟨bS, oS, bT, oT, rfl, rfl, hai⟩ := AI.mk' ha hS hT (Nat.le_refl _)
    rw [ha.len]
    by_cases hi : i < 0 ∨ (S.length : Int) ≤ i
    · exact sgbas_out S T i w hai hi
    · obtain ⟨j, rfl⟩ : ∃ j : Nat, i = (j : Nat) := ⟨i.toNat, by omega⟩
      exact sgbas_ok S T j w hai (by omega)
  · exact sgbas_bad S T i w hS hT _ rfl h
end Go.Proofs.Ytmikhkolbkdnpaa
