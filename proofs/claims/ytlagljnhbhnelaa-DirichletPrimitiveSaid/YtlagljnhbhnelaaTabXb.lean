/- Tables of characters: the facts that the walk of tableOf needs, an append that keeps the old row, the world within tableOf. dirichlet.tableOf. character of a table; Extend. dirichlet.Value, Even, Conductor of a character. -/
import Derived.Test.YtlagljnhbhnelaaTabM
import Derived.Test.YtlagljnhbhnelaaGnH
import Derived.Test.YtlagljnhbhnelaaTabXa
import Derived.Test.YtlagljnhbhnelaaGnI
import Derived.Test.YtlagljnhbhnelaaGnJ
namespace Go.Proofs.Ytlagljnhbhnelaa
open Go.RowKit
set_option linter.unusedVariables false
set_option linter.unusedSimpArgs false

/-! ### Plain mathematics -/
theorem tbP_len (n v : Nat) (st : Int) (m : Nat) : ∀ j a s, (tbP n v st m j a s).2.length = s.2.length + j
  | 0, _, s => rfl
  | j + 1, a, s => by
    show (tbP n v st m j _ _).2.length = _
    rw [tbP_len n v st m j]
    simp; omega
theorem tbU_len (n v o : Nat) (st : Int) (m : Nat) : ∀ l s, (tbU n v o st m l s).2.length = s.2.length + l.length * (o - 1)
  | [], s => by simp [tbU]
  | a :: l, s => by
    show (tbU n v o st m l _).2.length = _
    rw [tbU_len n v o st m l, tbP_len, List.length_cons, Nat.add_mul]
    omega
def tbC : Nat → List (Nat × Nat) → Nat
  | k, [] => k
  | k, g :: G => tbC (k + k * (g.2 - 1)) G
theorem tbG_len (n m : Nat) : ∀ (G : List (Nat × Nat)) (E : List Int) s, G.length = E.length → (tbG n m G E s).2.length = tbC s.2.length G
  | [], [], s, _ => rfl
  | g :: G, x :: E, s, h => by
    show (tbG n m G E _).2.length = tbC _ G
    rw [tbG_len n m G E _ (by simpa using h), tbU_len]
theorem tbG_le (n m : Nat) : ∀ (G : List (Nat × Nat)) (E : List Int) s, s.2.length ≤ (tbG n m G E s).2.length
  | [], E, s => by unfold tbG; simp
  | g :: G, [], s => by unfold tbG; simp
  | g :: G, x :: E, s => by
    show _ ≤ (tbG n m G E _).2.length
    refine Nat.le_trans ?_ (tbG_le n m G E _)
    rw [tbU_len]; omega
set_option maxRecDepth 100000 in
theorem tbc_all : (List.range 60).all (fun i => decide (tbC 1 (gensV (i + 1)) ≤ 60) && ((List.range 9).all fun k => decide (1 ≤ tbM ((gensV (i + 1)).take k)) && decide (tbM ((gensV (i + 1)).take k) ≤ 60))) = true := by decide +kernel
theorem tbc_le {n : Nat} (n1 : 1 ≤ n) (n2 : n ≤ 60) : tbC 1 (gensV n) ≤ 60 ∧ ∀ k, k ≤ (gensV n).length → 1 ≤ tbM ((gensV n).take k) ∧ tbM ((gensV n).take k) ≤ 60 := by
  have h := List.all_eq_true.1 tbc_all (n - 1) (List.mem_range.2 (by omega))
  rw [show n - 1 + 1 = n by omega] at h
  simp only [Bool.and_eq_true, decide_eq_true_eq, List.all_eq_true] at h
  exact ⟨h.1, fun k hk => h.2 k (List.mem_range.2 (by have := (gens_facts n1 n2).len; omega))⟩
theorem tbM_step (G : List (Nat × Nat)) (k : Nat) (h : k < G.length) : tbM (G.take (k + 1)) = Nat.lcm (tbM (G.take k)) G[k].2 := by
  unfold tbM
  rw [List.take_add_one, List.getElem?_eq_getElem h, Option.toList_some, List.foldl_append]; rfl
theorem tbG_step (n m : Nat) (G : List (Nat × Nat)) (E : List Int) (k : Nat) (s) (h : k < G.length) (h2 : k < E.length) : tbG n m (G.drop k) (E.drop k) s = tbG n m (G.drop (k + 1)) (E.drop (k + 1)) (tbU n G[k].1 G[k].2 (E[k] * ((m / G[k].2 : Nat) : Int)) m s.2 s) := by
  rw [List.drop_eq_getElem_cons h, List.drop_eq_getElem_cons h2]; rfl
theorem tbU_step (n v o : Nat) (st : Int) (m : Nat) (U : List Nat) (i : Nat) (s) (h : i < U.length) : tbU n v o st m (U.drop i) s = tbU n v o st m (U.drop (i + 1)) (tbP n v st m (o - 1) U[i] s) := by
  rw [List.drop_eq_getElem_cons h]; rfl
theorem tbP_step (n v : Nat) (st : Int) (m o j a : Nat) (s) (h : j < o - 1) : tbP n v st m (o - 1 - j) a s = tbP n v st m (o - 1 - (j + 1)) (a * v % n) (s.1.set (a * v % n) ((s.1.getD a 0 + st) % (m : Int)), s.2 ++ [a * v % n]) := by
  rw [show o - 1 - j = (o - 1 - (j + 1)) + 1 by omega]; rfl
/-- The logarithms of the units so far. -/
structure TbI (n m : Nat) (T : List Int) (U : List Nat) : Prop where
  len : T.length = n
  un : ∀ u ∈ U, u < n ∧ 0 ≤ T.getD u 0 ∧ T.getD u 0 < (m : Int)
  bd : ∀ j, -1 ≤ T.getD j 0 ∧ T.getD j 0 < (m : Int)
theorem getD_setI (T : List Int) (i j : Nat) (y : Int) (h : i < T.length) : (T.set i y).getD j 0 = if j = i then y else T.getD j 0 := by
  rw [List.getD_eq_getElem?_getD, List.getD_eq_getElem?_getD, List.getElem?_set]
  by_cases e : j = i
  · subst e; simp [h]
  · rw [if_neg (fun k => e k.symm), if_neg e]
theorem TbI.step {n m : Nat} {T : List Int} {U : List Nat} {b : Nat} {y : Int} (h : TbI n m T U) (hb : b < n) (y0 : 0 ≤ y) (y1 : y < (m : Int)) : TbI n m (T.set b y) (U ++ [b]) := by
  have hl := h.len
  refine ⟨by simp [hl], fun u hu => ?_, fun j => by
    rw [getD_setI T b j y (by omega)]
    split
    · omega
    · exact h.bd j⟩
  rw [getD_setI T b u y (by omega)]
  by_cases e : u = b
  · subst e; rw [if_pos rfl]; exact ⟨hb, y0, y1⟩
  · rw [if_neg e]
    rcases List.mem_append.1 hu with hu | hu
    · exact h.un u hu
    · exact absurd (List.mem_singleton.1 hu) e
theorem tbI_start {n m : Nat} (n1 : 1 ≤ n) (m1 : 1 ≤ m) : TbI n m ((List.replicate n (-1)).set (1 % n) 0) [1 % n] := by
  have hb : 1 % n < n := Nat.mod_lt _ n1
  refine ⟨by simp, fun u hu => ?_, fun j => by
    rw [getD_setI _ _ _ _ (by simpa using hb), List.getD_eq_getElem?_getD, List.getElem?_replicate]
    split
    · omega
    · split <;> simp <;> omega⟩
  rw [List.mem_singleton.1 hu, getD_setI _ _ _ _ (by simpa using hb), if_pos rfl]
  exact ⟨hb, by omega, by omega⟩

/-! ### An append to an own row of integers -/
def ni (U : List Nat) : List Int := U.map fun (x : Nat) => (x : Int)
theorem ni_len (U : List Nat) : (ni U).length = U.length := by simp [ni]
theorem ni_push (U : List Nat) (x : Nat) : zs (ni (U ++ [x])) = zs (ni U) ++ [.int .i64 (x : Int)] := by simp [ni, zs]
theorem ni_get (U : List Nat) (k : Nat) (h : k < U.length) : (zs (ni U))[k]? = some (.int .i64 (U[k] : Int)) := by simp [ni, zs, h]
theorem app_snap {ops : Array Oper} {rest : List Oper} {o : Oper} {a : Act} {Q : Exit → Act → World → Prop} (w : World) (hgd : o.guard = none) (s x : Operand)
    (ho : o.op = .call { callee := .builtin .append, args := #[s, x], argTypes := #[23, 23] }) (base : Nat) (v : Value) (n : Nat) (xs : List Value)
    (hs : a.eval s = v) (hown : w.ownsRow base 3 1 v n xs) (b : Nat) (y : Value) (hx : a.eval x = .slice (some ⟨b, 0, none⟩) 1 1) (hb : ∀ j u, [y][j]? = some u → w.cell? ((⟨b, 0, none⟩ : Addr).add j) = some u) (h1 : y.oneCell' = true) (hn : n ≤ 1000) (hbase : base ≤ w.heap.size)
    (h : ∀ g cap w', w'.ownsRow base 3 1 (.slice (some ⟨g, 0, none⟩) (n + 1) cap) (n + 1) (xs ++ [y]) → w.grownBy w' v.ownBlock → (v.ownBlock = some g ∨ (g = w.heap.size ∧ ∀ k, k < w.heap.size → w'.heap[k]? = w.heap[k]?)) → wpList Try.prog ops Q rest (a.put o.dst (.slice (some ⟨g, 0, none⟩) (n + 1) cap)) w') :
    wpList Try.prog ops Q (o :: rest) a w := by
  obtain ⟨i0, hi, z0, z1, z2⟩ := info_parts Try.infoInt
  have hm : n + 1 ≤ maxLen := by unfold maxLen; omega
  obtain ⟨v', w', hr, h2, h3, -, h5⟩ := run_append_own_at (P := Try.prog) w base 23 o.type 3 i0 (.int .i64 0) 1 8 Try.underlying23 hi z0 z1 z2 rfl (by decide) v n xs hown ⟨b, 0, none⟩ 1 1 [y] rfl hb (fun u hu => by rw [List.mem_singleton.1 hu]; exact h1) hm (by omega) hbase
  obtain ⟨g, cap, rfl, hg0, hg1⟩ := h2.form (by omega)
  have hat : v.ownBlock = some g ∨ (g = w.heap.size ∧ ∀ k, k < w.heap.size → w'.heap[k]? = w.heap[k]?) := by
    have hnil : 8 * (n + 1) ≤ 281474976710656 := by omega
    rcases hown.2 with ⟨rfl, rfl⟩ | ⟨g', c', cur, rfl, k1, k2, k3, k4, k5, k6⟩
    · right
      have hx0 : xs = [] := List.eq_nil_of_length_eq_zero (by simpa using hown.1)
      have hq := run_append_nil (P := Try.prog) w 23 o.type 3 i0 (.int .i64 0) Try.underlying23 hi z0 ⟨b, 0, none⟩ 1 1 [y] (by rw [z1]; rfl) hb (by omega) (by omega) (by rw [z2]; omega)
      have he := hr.symm.trans hq
      injection he with e1 e2
      injection e1 with e1
      injection e1 with e1
      injection e1 with e1
      refine ⟨e1, fun k hk => ?_⟩
      rw [e2]
      exact heap_alloc_old w.drew _ hk
    · by_cases hroom : n + 1 ≤ c'
      · left
        have hfit : n * i0.size + [y].length ≤ cur.size := by rw [z1, k5]; simp; omega
        have hq := run_append_room (P := Try.prog) w 23 o.type 3 i0 Try.underlying23 hi g' n c' cur k2 ⟨b, 0, none⟩ 1 1 [y] (by rw [z1]; rfl) hb (fun u hu => by rw [List.mem_singleton.1 hu]; exact h1) hroom hfit
        have he := hr.symm.trans hq
        generalize (w.setRow g' _) = w9 at he
        simp only [Result.ok.injEq, Value.slice.injEq, Option.some.injEq, Addr.mk.injEq] at he
        have e1 := he.1.1.1
        simp [Value.ownBlock, e1]
      · right
        have hq := run_append_grow (P := Try.prog) w 23 o.type 3 i0 (.int .i64 0) Try.underlying23 hi z0 ⟨g', 0, none⟩ n c' xs (by rw [z1]; exact hown.1) (hown.cells (g := g') rfl) ⟨b, 0, none⟩ 1 1 [y] (by rw [z1]; rfl) hb (by omega) (by unfold maxLen at hm; omega) (by rw [z2]; exact growslice_fits (by omega) (by omega))
        have he := hr.symm.trans hq
        injection he with e1 e2
        injection e1 with e1
        injection e1 with e1
        injection e1 with e1
        refine ⟨e1, fun k hk => ?_⟩
        rw [e2]
        exact heap_alloc_old w.drew _ hk
  refine wpList_plain hgd fun K hK => ?_
  unfold Oper.wp execOp
  simp only [ho, resolve, invoke, builtin, Sem.run_bind, Sem.run_pure, Result.andThen_ok, List.map_toArray, List.map_cons, List.map_nil, hs, hx, hr]
  exact hK _ _ (h g cap w' h2 h3 hat)

/-! ### The world within tableOf -/
structure TV (B C lb : Nat) (w0 wC : World) (n : Nat) (T : List Int) (v : Value) (U : List Nat) (w : World) : Prop where
  lc : lb < C
  lB : B ≤ lb
  row : w.rowIs lb 3 n (fun j => .int .i64 (T.getD j 0))
  own : w.ownsRow C 3 1 v U.length (zs (ni U))
  keep : ∀ j, j < C → j ≠ lb → w.heap[j]? = wC.heap[j]?
  below : Below B w0 w
  size : C ≤ w.heap.size
section
variable {B C lb : Nat} {w0 wC w w1 : World} {n : Nat} {T : List Int} {v v' : Value} {U : List Nat}
theorem TV.on (h : TV B C lb w0 wC n T v U w) (hb : Below w.heap.size w w1) : TV B C lb w0 wC n T v U w1 :=
  ⟨h.lc, h.lB, h.row.of_block (hb.block lb h.row.lt), own_below h.own hb, fun j hj hn => (hb.block j (by have := h.size; omega)).trans (h.keep j hj hn), h.below.trans (hb.mono (by have h1 := h.lc; have h2 := h.lB; have h3 := h.size; omega)), Nat.le_trans h.size hb.size⟩
theorem TV.drew (h : TV B C lb w0 wC n T v U w) : TV B C lb w0 wC n T v U w.drew := h.on (Below.refl _ _).drew
theorem TV.set (h : TV B C lb w0 wC n T v U w) (x : Nat) (y : Int) (hx : x < T.length) : TV B C lb w0 wC n (T.set x y) v U (w.setCell ⟨lb, x, none⟩ (.int .i64 y)) :=
  ⟨h.lc, h.lB, World.rowIs.congr (h.row.set x _) fun j _ => (by rw [getD_setI T x j y hx]; by_cases e : j = x <;> simp [e]), own_set h.own h.lc _, fun j hj hn => (Below.heap_setCell w ⟨lb, x, none⟩ _ j hn).trans (h.keep j hj hn), h.below.setCell h.lB _, by simpa using h.size⟩
theorem TV.ne (h : TV B C lb w0 wC n T v U w) {j : Nat} (hj : j < C) : some j ≠ v.ownBlock := fun e => by have := (h.own.lt j e.symm).1; omega
theorem TV.push (h : TV B C lb w0 wC n T v U w) {p : Nat} {o : Obj} (hown : w1.ownsRow C 3 1 v' (U.length + 1) (zs (ni U) ++ [.int .i64 (p : Int)])) (hg : (w.alloc o).grownBy w1 v.ownBlock) : TV B C lb w0 wC n T v' (U ++ [p]) w1 := by
  have hs := h.size
  have hat : ∀ j, j < C → w1.heap[j]? = w.heap[j]? := fun j hj => by
    rw [hg.block j (by simp; omega) (h.ne hj), Below.heap_alloc _ _ _ (by omega)]
  refine ⟨h.lc, h.lB, h.row.of_block (hat lb h.lc), by rw [List.length_append, ni_push]; exact hown, fun j hj hn => (hat j hj).trans (h.keep j hj hn), ?_, by have := hg.size; simp at this; omega⟩
  exact (h.below.alloc (by have h1 := h.lc; have h2 := h.lB; omega) o).grown hg (by have h1 := h.lc; have h2 := h.lB; simp; omega) fun j hj => by have h1 := h.lc; have h2 := h.lB; have := (h.own.lt j hj).1; omega
/-- What the list was when the inner loop began can still be read. -/
structure SN (C g0 : Nat) (U0 U : List Nat) (w : World) : Prop where
  lo : C ≤ g0
  hi : g0 < w.heap.size
  cel : ∀ i (h : i < U0.length), w.cell? ⟨g0, i, none⟩ = some (.int .i64 (U0[i] : Int))
  pre : ∃ R, U = U0 ++ R
variable {g0 : Nat} {U0 : List Nat}
theorem SN.on (h : SN C g0 U0 U w) (hb : Below w.heap.size w w1) : SN C g0 U0 U w1 := ⟨h.lo, Nat.lt_of_lt_of_le h.hi hb.size, fun i hi => (hb.cell (p := ⟨g0, i, none⟩) h.hi).trans (h.cel i hi), h.pre⟩
theorem SN.drew (h : SN C g0 U0 U w) : SN C g0 U0 U w.drew := h.on (Below.refl _ _).drew
theorem SN.set (h : SN C g0 U0 U w) (hl : lb < C) (x : Nat) (y : Value) : SN C g0 U0 U (w.setCell ⟨lb, x, none⟩ y) :=
  ⟨h.lo, by simpa using h.hi, fun i hi => (World.cell?_of_block (Below.heap_setCell w ⟨lb, x, none⟩ y g0 (by have := h.lo; show g0 ≠ lb; omega))).trans (h.cel i hi), h.pre⟩
theorem SN.push (h : SN C g0 U0 U w) {p g cap : Nat} {o : Obj} (hown : w1.ownsRow C 3 1 (.slice (some ⟨g, 0, none⟩) (U.length + 1) cap) (U.length + 1) (zs (ni U) ++ [.int .i64 (p : Int)])) (hg : (w.alloc o).grownBy w1 v.ownBlock)
    (hat : v.ownBlock = some g ∨ (g = (w.alloc o).heap.size ∧ ∀ k, k < (w.alloc o).heap.size → w1.heap[k]? = (w.alloc o).heap[k]?)) : SN C g0 U0 (U ++ [p]) w1 := by
  have hh := h.hi
  have hsz : (w.alloc o).heap.size = w.heap.size + 1 := by simp
  obtain ⟨R, hR⟩ := h.pre
  have hold : (w.alloc o).heap[g0]? = w.heap[g0]? := Below.heap_alloc _ _ _ hh
  refine ⟨h.lo, by have := hg.size; omega, fun i hi => ?_, ⟨R ++ [p], by rw [hR, List.append_assoc]⟩⟩
  by_cases e : v.ownBlock = some g0
  · rcases hat with k | ⟨k1, k2⟩
    · have e2 : g = g0 := by rw [k] at e; simpa using e
      subst e2
      have h9 := hown.cells (g := g) rfl i (.int .i64 (U0[i] : Int)) (by
        rw [List.getElem?_append_left (by rw [zs_length, ni_len, hR]; simp; omega), ni_get U i (by rw [hR]; simp; omega)]
        simp [hR, List.getElem_append_left hi])
      have hadd : (⟨g, 0, none⟩ : Addr).add i = ⟨g, i, none⟩ := by unfold Addr.add; split <;> simp_all
      rw [hadd] at h9
      exact h9
    · exact (World.cell?_of_block ((k2 g0 (by omega)).trans hold)).trans (h.cel i hi)
  · exact (World.cell?_of_block ((hg.block g0 (by omega) (fun k => e k.symm)).trans hold)).trans (h.cel i hi)
theorem TV.snap {g cap : Nat} (h : TV B C lb w0 wC n T (.slice (some ⟨g, 0, none⟩) U.length cap) U w) : SN C g U U w := by
  have hl := h.own.lt g rfl
  refine ⟨hl.1, hl.2, fun i hi => ?_, ⟨[], by simp⟩⟩
  have h9 := h.own.cells (g := g) rfl i _ (ni_get U i hi)
  have hadd : (⟨g, 0, none⟩ : Addr).add i = ⟨g, i, none⟩ := by unfold Addr.add; split <;> simp_all
  rw [hadd] at h9
  exact h9
/-- A box of another type above C stays. -/
theorem TV.box {g : Nat} {cs : Array Value} {t : TypeId} (h : TV B C lb w0 wC n T v U w) (ht : t ≠ 3) (hb : w.heap[g]? = some (.cells cs t (0, 0))) {o : Obj} (hg : (w.alloc o).grownBy w1 v.ownBlock) : w1.heap[g]? = some (.cells cs t (0, 0)) :=
  (hg.block g (by have := lt_of_block hb; simp; omega) (own_type h.own ht hb)).trans (block_alloc hb o)
end
end Go.Proofs.Ytlagljnhbhnelaa
namespace Go.Proofs.Ytlagljnhbhnelaa
open Go.RowKit
set_option linter.unusedVariables false
set_option linter.unusedSimpArgs false

theorem mk_intT (n : Nat) (W : World) (hn : n ≤ 1152) : (Instr.makeSlice 23 (.int .i64 (n : Int)) (.int .i64 (n : Int))).run Try.prog W = .ok (.slice (some ⟨W.heap.size, 0, none⟩) n n) (W.alloc (.cells (madeCells #[.int .i64 0] n) 3)) := by
  obtain ⟨i1, hj, y0, y1, y2⟩ := info_parts Try.infoInt
  have h := run_make (P := Try.prog) W 23 3 i1 (.int .i64 0) Try.underlying23 hj y0 .i64 .i64 (n : Int) (n : Int) (by omega) (by omega) (by rw [y2]; omega) (by omega)
  rw [show ((n : Int)).toNat = n by omega, y1, Nat.mul_one] at h
  exact h
/-- The world in the first two loops: the logarithms, the table's box. -/
structure L1 (B : Nat) (w0 w2 : World) (n M : Nat) (f : Nat → Int) (w : World) : Prop where
  row : w.rowIs w2.heap.size 3 n (fun j => .int .i64 (f j))
  tbl : w.heap[w2.heap.size + 1]? = some (.cells #[.slice (some ⟨w2.heap.size, 0, none⟩) n n, .int .i64 (M : Int)] 76 (0, 0))
  keep : ∀ j, j < w2.heap.size → w.heap[j]? = w2.heap[j]?
  below : Below B w0 w
  hB : B ≤ w2.heap.size
section
variable {B n M : Nat} {w0 w2 w w1 : World} {f : Nat → Int}
theorem L1.size (h : L1 B w0 w2 n M f w) : w2.heap.size + 2 ≤ w.heap.size := by have := lt_of_block h.tbl; omega
theorem L1.on (h : L1 B w0 w2 n M f w) (hb : Below w.heap.size w w1) : L1 B w0 w2 n M f w1 :=
  ⟨h.row.of_block (hb.block _ h.row.lt), block_below h.tbl hb, fun j hj => (hb.block j (by have := h.size; omega)).trans (h.keep j hj), h.below.trans (hb.mono (by have := h.size; have := h.hB; omega)), h.hB⟩
theorem L1.drewN (h : L1 B w0 w2 n M f w) (k : Nat) : L1 B w0 w2 n M f (w.drewN k) := h.on (below_drewN (Below.refl _ _) k)
theorem L1.setM (h : L1 B w0 w2 n M f w) (m : Nat) : L1 B w0 w2 n m f (w.setCell ⟨w2.heap.size + 1, 1, none⟩ (.int .i64 (m : Int))) :=
  ⟨h.row.setOther (by show w2.heap.size ≠ w2.heap.size + 1; omega) _, two_set1 h.tbl _, fun j hj => (Below.heap_setCell _ _ _ _ (by show j ≠ w2.heap.size + 1; omega)).trans (h.keep j hj), h.below.setCell (by have := h.hB; show B ≤ w2.heap.size + 1; omega) _, h.hB⟩
theorem L1.setR (k : Nat) (h : L1 B w0 w2 n M (fun j => if j < k then -1 else 0) w) : L1 B w0 w2 n M (fun j => if j < k + 1 then -1 else 0) (w.setCell ⟨w2.heap.size, k, none⟩ (.int .i64 (-1))) :=
  ⟨World.rowIs.congr (h.row.set k _) fun j _ => (by by_cases e : j = k <;> by_cases e2 : j < k <;> by_cases e3 : j < k + 1 <;> first | omega | simp [e, e2, e3] | skip), (Below.heap_setCell _ _ _ _ (by show w2.heap.size + 1 ≠ w2.heap.size; omega)).trans h.tbl, fun j hj => (Below.heap_setCell _ _ _ _ (by show j ≠ w2.heap.size; omega)).trans (h.keep j hj), h.below.setCell h.hB _, h.hB⟩
end
set_option maxHeartbeats 6400000 in
set_option maxRecDepth 1000000 in
theorem tabof_any (n : Nat) (E : List Int) (A : Option Addr) (c : Nat) (w : World) (n1 : 1 ≤ n) (n2 : (n : Int) ≤ 60) (hE : RdZ w w.heap.size A c E) (hel : E.length = (gensV n).length) (hx : ∀ k (h1 : k < E.length) (h2 : k < (gensV n).length), 0 ≤ E[k] ∧ E[k] < ((gensV n)[k].2 : Int)) :
    Calls Try.prog 53 #[.agg #[.int .i64 (n : Int), .slice A E.length c]] w fun e w' => ∃ lb, e = .returned (.agg #[.slice (some ⟨lb, 0, none⟩) n n, .int .i64 (tbM (gensV n) : Nat)]) ∧ w.heap.size ≤ lb ∧ w'.rowIs lb 3 n (fun j => .int .i64 ((tbV n E).getD j 0)) ∧ (tbV n E).length = n ∧ (∀ j, -1 ≤ (tbV n E).getD j 0 ∧ (tbV n E).getD j 0 < (tbM (gensV n) : Int)) ∧ Below w.heap.size w w' := by
  obtain ⟨i0, hi0, z0, z1, z2⟩ := info_parts Try.infoInt
  have hmk := fun W => mk_intT n W (by omega)
  have HGe := Lib.hid (fun W => gens_any n W n1 n2)
  have HGb := Lib.hid (gens_facts n1 (show n ≤ 60 by omega))
  have HTb := Lib.hid (tbc_le n1 (show n ≤ 60 by omega))
  have hgl := HGb.out.len
  have HEl := Lib.hid hel
  have HEo := Lib.hid hE
  have HEx := Lib.hid hx
  have HTV : Hid (tbV n E = (tbG n (tbM (gensV n)) (gensV n) E ((List.replicate n (-1)).set (1 % n) 0, [1 % n])).1) := rfl
  have X0 : Hid (((w.alloc (.cells #[.int .i64 (n : Int), .slice A E.length c] 33)).alloc (.cells #[.slice none 0 0, .int .i64 0] 76)).heap[w.heap.size]? = some (.cells #[.int .i64 (n : Int), .slice A E.length c] 33 (0, 0))) := block_alloc (heap_alloc_new w _) _
  have R0 : Hid (((w.alloc (.cells #[.int .i64 (n : Int), .slice A E.length c] 33)).alloc (.cells #[.slice none 0 0, .int .i64 0] 76)).heap[w.heap.size + 1]? = some (.cells #[.slice none 0 0, .int .i64 0] 76 (0, 0))) := by
    have := heap_alloc_new (w.alloc (.cells #[.int .i64 (n : Int), .slice A E.length c] 33)) (.cells #[.slice none 0 0, .int .i64 0] 76)
    show _ = _; simpa using this
  have B0 : Hid (Below w.heap.size w ((w.alloc (.cells #[.int .i64 (n : Int), .slice A E.length c] 33)).alloc (.cells #[.slice none 0 0, .int .i64 0] 76))) := below2 w _ _
  obtain ⟨x0, x1, _⟩ := cells_two X0.out
  have HE0 : Hid (RdZ ((w.alloc (.cells #[.int .i64 (n : Int), .slice A E.length c] 33)).alloc (.cells #[.slice none 0 0, .int .i64 0] 76)) w.heap.size A c E) := hE.below B0.out
  clear hE hel hx
  generalize tbV n E = TF at *
  generalize gensV n = G at *
  go_enter Try.func53, Try.ntmps53
  go_wp2_with (first
    | (go_at_call 47; ((with_reducible refine (HGe.out _).mono ?_); rintro e w2 ⟨v, rfl, ho, hb⟩; obtain ⟨la, lc, rfl, hrd⟩ := gen_blk ho; have HR := Lib.hid hrd; have X2 := Lib.hid (block_below X0.out hb); have R2 := Lib.hid (block_below R0.out hb); have B2 := Lib.hid (B0.out.trans (hb.mono B0.out.size)); have HE2 := Lib.hid (HE0.out.below (hb.mono (by simp; omega))); clear ho hb hrd))
    | fail)
  have hs2 := lt_of_block R2.out
  obtain ⟨W3, hW3⟩ : ∃ W3, W3 = (w2.alloc (.cells (madeCells #[.int .i64 0] n) 3)).alloc (.cells #[.slice (some ⟨w2.heap.size, 0, none⟩) n n, .int .i64 1] 76) := ⟨_, rfl⟩
  have HL0 : Hid (L1 w.heap.size w w2 n 1 (fun _ => 0) W3) := by
    rw [hW3]
    refine ⟨(World.rowIs_made w2 _ _ _).alloc _, by have := heap_alloc_new (w2.alloc (.cells (madeCells #[.int .i64 0] n) 3)) (.cells #[.slice (some ⟨w2.heap.size, 0, none⟩) n n, .int .i64 1] 76); simpa using this, fun j hj => (below2 w2 _ _).block j hj, B2.out.trans ((below2 w2 _ _).mono B2.out.size), B2.out.size⟩
  rw [← hW3]
  clear hW3 X0 R0 B0 HE0 HGe hmk x0 x1
  go_loopw [7, 25] (fun _ I wr => ∃ k : Nat, I = .int .i64 k ∧ k ≤ G.length ∧ Hid (L1 w.heap.size w w2 n (tbM (G.take k)) (fun _ => 0) wr)) (fun _ I _ => G.length - (intOf I).toNat)
  case atStart => exact ⟨0, rfl, Nat.zero_le _, HL0.out⟩
  case round =>
    obtain ⟨k, rfl, hk, HL⟩ := hrel
    clear HL0
    by_cases hkl : k < G.length
    · have hkli : (k : Int) < (G.length : Int) := by omega
      obtain ⟨g, cs, rfl, hg1, hcell⟩ := HR.out k hkl
      obtain ⟨x1, x2⟩ := hcell wr ((HL.out.keep g (lt_of_block hg1)).trans hg1)
      have q1 := HGb.out.o1 _ (List.getElem_mem hkl)
      have q60 := HGb.out.o2 _ (List.getElem_mem hkl)
      have p60 := HGb.out.v _ (List.getElem_mem hkl)
      have hM := HTb.out.2 k (by omega)
      have HMs := Lib.hid (tbM_step G k hkl)
      clear hg1 hcell
      generalize G[k] = f at *
      obtain ⟨p, q⟩ := f
      simp only at x1 x2 p60 q1 q60 HMs
      generalize tbM (G.take k) = M at *
      have hlc := Lib.hid (fun W => dlcm_any M q W hM.1 q1 (by omega) (by omega))
      go_upto_region 7 with fail
      have HL3 : Hid (L1 w.heap.size w w2 n M (fun _ => 0) (wr.alloc (.cells #[.int .i64 (p : Int), .int .i64 (q : Int)] 73))) := HL.out.on (below1 wr _)
      have y2 := (cells_two (heap_alloc_new wr (.cells #[.int .i64 (p : Int), .int .i64 (q : Int)] 73))).2.1
      have t1 := (cells_two HL3.out.tbl).2.1
      have tf := (cells_two HL3.out.tbl).2.2
      clear x1 x2 HL
      generalize (wr.alloc (.cells #[.int .i64 (p : Int), .int .i64 (q : Int)] 73)) = W4 at *
      generalize wr.heap.size = gb at *
      generalize Nat.lcm M q = M2 at *
      go_wp2_with (first
        | (go_at_call 51; ((with_reducible refine (hlc.out _).mono ?_); rintro e w5 ⟨rfl, nn, rfl⟩))
        | fail)
      go_roundw
      case rel => exact ⟨k + 1, by go_num, by omega, by rw [HMs.out]; exact (HL3.out.drewN nn).setM M2⟩
      case measure => simp [intOf]; omega
    · obtain rfl : k = G.length := by omega
      have hk3 : ¬ (G.length : Int) < (G.length : Int) := by omega
      have hM := HTb.out.2 G.length (Nat.le_refl _)
      rw [List.take_length] at HL hM
      generalize hMe : tbM G = M at *
      have HMe := Lib.hid hMe
      clear hMe
      have t0 := (cells_two HL.out.tbl).1
      go_wp2
      go_loopw [8, 39] (fun _ I wi => ∃ k : Nat, I = .int .i64 k ∧ k ≤ n ∧ Hid (L1 w.heap.size w w2 n M (fun j => if j < k then -1 else 0) wi)) (fun _ I _ => n - (intOf I).toNat)
      case atStart => exact ⟨0, rfl, Nat.zero_le _, HL.out⟩
      case round =>
        obtain ⟨k, rfl, hk, HK⟩ := hrel
        clear HL t0
        have t0 := (cells_two HK.out.tbl).1
        by_cases hkl : k < n
        · have hkli : (k : Int) < (n : Int) := by omega
          have nf := HK.out.row.frozen k
          have nc := HK.out.row.cell (i := k) hkl
          go_wp2
          go_roundw
          case rel => exact ⟨k + 1, by go_num, by omega, L1.setR k HK.out⟩
          case measure => simp [intOf]; omega
        · obtain rfl : n = k := by omega
          have hk3 : ¬ (n : Int) < (n : Int) := by omega
          go_wp2
          have hu1 : 1 % n < n := Nat.mod_lt _ (by omega)
          have hTI := Lib.hid (tbI_start (n := n) (m := M) n1 hM.1)
          have htm : Int.tmod 1 (n : Int) = ((1 % n : Nat) : Int) := (Int.ofNat_tmod 1 n).symm
          have hem : 1 % (n : Int) = ((1 % n : Nat) : Int) := (Int.natCast_emod 1 n).symm
          have hn0 : ((n : Int) == 0) = false := by rw [beq_eq_false_iff_ne]; omega
          have hn1 : ¬ ((n : Int) = 0) := by omega
          have hn2 : ¬ (n = 0) := by omega
          have HLf : Hid (L1 w.heap.size w w2 n M (fun j => (List.replicate n (-1 : Int)).getD j 0) wr) := by
            refine ⟨World.rowIs.congr HK.out.row fun j hj => ?_, HK.out.tbl, HK.out.keep, HK.out.below, HK.out.hB⟩
            rw [if_pos hj, List.getD_eq_getElem?_getD, List.getElem?_replicate, if_pos hj]; rfl
          clear HK
          generalize 1 % n = u1 at *
          have hu1i : (u1 : Int) < (n : Int) := by omega
          have hwu : IntKind.i64.wrap (u1 : Int) = (u1 : Int) := IntWalk.i64_in _ (by omega)
          have nf := HLf.out.row.frozen u1
          have nc := HLf.out.row.cell (i := u1) hu1
          go_region
          go_upto_region 16 with fail
          obtain ⟨wC, rfl⟩ : ∃ wC : World, wC = wr := ⟨_, rfl⟩
          obtain ⟨W6, hW6⟩ : ∃ W6, W6 = ((wC.setCell ⟨w2.heap.size, u1, none⟩ (.int .i64 0)).alloc (.cells #[.int .i64 (u1 : Int)] 3)).drew := ⟨_, rfl⟩
          have hC2 := HLf.out.size
          have HTV0 : Hid (TV w.heap.size wC.heap.size w2.heap.size w wC n ((List.replicate n (-1)).set u1 0) (.slice (some ⟨wC.heap.size, 0, none⟩) 1 1) [u1] W6) := by
            rw [hW6]
            have hB := HLf.out.hB
            refine TV.drew ⟨by omega, hB, ?_, ?_, fun j hj hn => (Below.heap_alloc _ _ _ (by simpa using hj)).trans (Below.heap_setCell _ _ _ _ hn), (HLf.out.below.setCell hB _).alloc (by simp; omega) _, by simp⟩
            · refine World.rowIs.alloc (World.rowIs.congr (HLf.out.row.set u1 (.int .i64 0)) fun j _ => ?_) _
              rw [getD_setI _ _ _ _ (by simpa using hu1)]; by_cases e : j = u1 <;> simp [e]
            · refine ⟨rfl, .inr ⟨wC.heap.size, 1, #[.int .i64 (u1 : Int)], rfl, Nat.le_refl _, ?_, Nat.le_refl _, by unfold maxLen; omega, rfl, rfl⟩⟩
              have := heap_alloc_new (wC.setCell ⟨w2.heap.size, u1, none⟩ (.int .i64 0)) (.cells #[.int .i64 (u1 : Int)] 3)
              simpa using this
          have HXc : Hid (∀ (W : World) T v U, TV w.heap.size wC.heap.size w2.heap.size w wC n T v U W → W.cell? ⟨w.heap.size, 1, none⟩ = some (.slice A E.length c)) := fun W T v U h => by
            have hb := lt_of_block X2.out
            exact (cells_two (((h.keep _ (by omega) (by omega)).trans (HLf.out.keep _ hb)).trans X2.out)).2.1
          have HTc : Hid (∀ (W : World) T v U, TV w.heap.size wC.heap.size w2.heap.size w wC n T v U W → W.heap[w2.heap.size + 1]? = some (.cells #[.slice (some ⟨w2.heap.size, 0, none⟩) n n, .int .i64 (M : Int)] 76 (0, 0))) := fun W T v U h =>
            (h.keep _ (by omega) (by omega)).trans HLf.out.tbl
          have HRc : Hid (∀ (W : World) T v U, TV w.heap.size wC.heap.size w2.heap.size w wC n T v U W → W.heap[w.heap.size + 1]? = some (.cells #[.slice none 0 0, .int .i64 0] 76 (0, 0))) := fun W T v U h =>
            ((h.keep _ (by omega) (by omega)).trans (HLf.out.keep _ hs2)).trans R2.out
          have HGc : Hid (∀ (W : World) T v U (g : Nat) (cs : Array Value), TV w.heap.size wC.heap.size w2.heap.size w wC n T v U W → w2.heap[g]? = some (.cells cs 73 (0, 0)) → W.heap[g]? = some (.cells cs 73 (0, 0))) := fun W T v U g cs h hg => by
            have hb := lt_of_block hg
            exact ((h.keep _ (by omega) (by omega)).trans (HLf.out.keep _ hb)).trans hg
          rw [← hW6]
          clear hW6 HLf nf nc X2 R2 B2 t0
          have hlb : w2.heap.size < wC.heap.size := by omega
          generalize wC.heap.size = C at *
          generalize hlbe : w2.heap.size = lb at *
          have hBlb : w.heap.size + 1 < lb := hs2
          generalize hRF : tbG n M G E ((List.replicate n (-1)).set u1 0, [u1]) = RF at *
          have HRF := Lib.hid hRF
          have hR60 : RF.2.length ≤ 60 := by
            rw [← hRF, tbG_len n M G E _ HEl.out.symm]; exact HTb.out.1
          clear hRF
          go_wp2
          go_loopw [9, 10, 11, 12, 14, 15, 57, 75, 82] (fun V _ _ _ _ _ I _ _ wr => ∃ (k g cap : Nat) (T : List Int) (U : List Nat), V = .slice (some ⟨g, 0, none⟩) U.length cap ∧ I = .int .i64 k ∧ k ≤ G.length ∧ Hid (tbG n M (G.drop k) (E.drop k) (T, U) = RF) ∧ Hid (TbI n M T U) ∧ Hid (TV w.heap.size C lb w wC n T (.slice (some ⟨g, 0, none⟩) U.length cap) U wr)) (fun _ _ _ _ _ _ I _ _ _ => G.length - (intOf I).toNat)
          case atStart => exact ⟨0, _, _, _, [u1], rfl, rfl, Nat.zero_le _, HRF.out, hTI.out, HTV0.out⟩
          case round =>
            obtain ⟨k, g0, cap, T, U0, rfl, rfl, hk, HS, HI, HV⟩ := hrel
            clear HTV0 HRF hTI
            by_cases hkl : k < G.length
            · have hkli : (k : Int) < (G.length : Int) := by omega
              have hke : k < E.length := by have := HEl.out; omega
              obtain ⟨g, cs, rfl, hg1, hcell⟩ := HR.out k hkl
              obtain ⟨x1, x2⟩ := hcell wr (HGc.out _ _ _ _ _ _ HV.out hg1)
              have q1 := HGb.out.o1 _ (List.getElem_mem hkl)
              have q60 := HGb.out.o2 _ (List.getElem_mem hkl)
              have p60 := HGb.out.v _ (List.getElem_mem hkl)
              have hex := HEx.out k hke hkl
              have HS2 := Lib.hid ((tbG_step n M G E k (T, U0) hkl hke).symm.trans HS.out)
              clear hg1 hcell HS
              have HEk : Hid (∀ W, Below w.heap.size w W → ∃ b o, A = some ⟨b, o, none⟩ ∧ b < w.heap.size ∧ W.cell? ⟨b, o + k, none⟩ = some (.int .i64 E[k])) := fun W hW => (HEo.out.below hW).at_ hke
              have hkle : (k : Int) < (E.length : Int) := by omega
              generalize E[k] = x at *
              generalize G[k] = f at *
              obtain ⟨p, q⟩ := f
              simp only at x1 x2 p60 q1 q60 HS2 hex
              go_upto_region 19 with fail
              have HV4 : Hid (TV w.heap.size C lb w wC n T (.slice (some ⟨g0, 0, none⟩) U0.length cap) U0 (wr.alloc (.cells #[.int .i64 (p : Int), .int .i64 (q : Int)] 73))) := HV.out.on (below1 wr _)
              have HG4 : Hid ((wr.alloc (.cells #[.int .i64 (p : Int), .int .i64 (q : Int)] 73)).heap[wr.heap.size]? = some (.cells #[.int .i64 (p : Int), .int .i64 (q : Int)] 73 (0, 0))) := heap_alloc_new wr _
              have hgbC := HV.out.size
              clear x1 x2 HV
              generalize (wr.alloc (.cells #[.int .i64 (p : Int), .int .i64 (q : Int)] 73)) = W4 at *
              generalize wr.heap.size = gb at *
              obtain ⟨b, o, rfl, hbB, y1⟩ := HEk.out W4 HV4.out.below
              have y2 := HXc.out _ _ _ _ HV4.out
              have y3 := (cells_two (HTc.out _ _ _ _ HV4.out)).2.1
              have y4 := (cells_two HG4.out).2.1
              have htd : Int.tdiv (M : Int) (q : Int) = ((M / q : Nat) : Int) := (Int.ofNat_tdiv _ _).symm
              have hdv : (M : Int) / (q : Int) = ((M / q : Nat) : Int) := (Int.natCast_ediv _ _).symm
              have hMq : M / q ≤ 60 := Nat.le_trans (Nat.div_le_self _ _) hM.2
              have q0 : ((q : Int) == 0) = false := by rw [beq_eq_false_iff_ne]; omega
              have q0' : ¬ ((q : Int) = 0) := by omega
              have q0'' : ¬ (q = 0) := by omega
              generalize M / q = Mq at *
              have hwq : IntKind.i64.wrap (Mq : Int) = (Mq : Int) := IntWalk.i64_in _ (by omega)
              have hy0 : 0 ≤ x * (Mq : Int) := Int.mul_nonneg hex.1 (by omega)
              have hy1 : x * (Mq : Int) ≤ 60 * 60 := Int.mul_le_mul (by omega) (by omega) (by omega) (by omega)
              generalize hy : x * (Mq : Int) = y at *
              have hwy : IntKind.i64.wrap y = y := IntWalk.i64_in _ (by omega)
              go_region
              go_upto_region 21 with fail
              have HV5 := Lib.hid HV4.out.drew
              have HG5 : Hid (W4.drew.heap[gb]? = some (.cells #[.int .i64 (p : Int), .int .i64 (q : Int)] 73 (0, 0))) := HG4.out
              generalize hR1 : tbU n p q y M U0 (T, U0) = R1 at *
              have HR1 := Lib.hid hR1
              have hR1l : R1.2.length ≤ 60 := by
                have h1 := tbG_le n M (G.drop (k + 1)) (E.drop (k + 1)) R1
                rw [HS2.out] at h1; omega
              have HU0 : Hid (∀ i (h : i < U0.length), U0[i] < n) := fun i h => (HI.out.un _ (List.getElem_mem h)).1
              have hU060 : U0.length ≤ 60 := by
                have h1 := tbU_len n p q y M U0 (T, U0)
                rw [hR1] at h1
                have h2 : (T, U0).2.length = U0.length := rfl
                omega
              clear hR1 HV4 HG4 HEk y1 y2 y3 y4
              generalize W4.drew = W5 at *
              go_loopw [9, 14, 15, 75, 82] (fun V _ _ I _ wi => ∃ (i g1 cap1 : Nat) (T1 : List Int) (U : List Nat), V = .slice (some ⟨g1, 0, none⟩) U.length cap1 ∧ I = .int .i64 i ∧ i ≤ U0.length ∧ Hid (tbU n p q y M (U0.drop i) (T1, U) = R1) ∧ Hid (TbI n M T1 U) ∧ Hid (TV w.heap.size C lb w wC n T1 (.slice (some ⟨g1, 0, none⟩) U.length cap1) U wi) ∧ Hid (SN C g0 U0 U wi) ∧ Hid (wi.heap[gb]? = some (.cells #[.int .i64 (p : Int), .int .i64 (q : Int)] 73 (0, 0)))) (fun _ _ _ I _ _ => U0.length - (intOf I).toNat)
              case atStart => exact ⟨0, _, _, T, U0, rfl, rfl, Nat.zero_le _, HR1.out, HI.out, HV5.out, HV5.out.snap, HG5.out⟩
              case round =>
                obtain ⟨i, g1, cap1, T1, U1, rfl, rfl, hi, HQ, HJ, HW, HSn, HGb2⟩ := hrel
                clear HV5 HG5 HR1 HI
                by_cases hil : i < U0.length
                · have hili : (i : Int) < (U0.length : Int) := by omega
                  have c1 := HSn.out.cel i hil
                  have HQ2 := Lib.hid ((tbU_step n p q y M U0 i (T1, U1) hil).symm.trans HQ.out)
                  have hamem : U0[i] ∈ U1 := by
                    obtain ⟨R, hR⟩ := HSn.out.pre
                    rw [hR]; exact List.mem_append_left _ (List.getElem_mem hil)
                  generalize U0[i] = a0 at *
                  generalize hR2 : tbP n p y M (q - 1) a0 (T1, U1) = R2 at *
                  have HR2 := Lib.hid hR2
                  have hR2l : R2.2.length ≤ 60 := by
                    have h1 := tbU_len n p q y M (U0.drop (i + 1)) R2
                    rw [HQ2.out] at h1
                    omega
                  have b1 := cells_two HGb2.out
                  obtain ⟨b1, b2, _⟩ := b1
                  have hq1 : (q : Int) - 1 = ((q - 1 : Nat) : Int) := by omega
                  have hwq1 : IntKind.i64.wrap ((q : Int) - 1) = ((q - 1 : Nat) : Int) := by rw [hq1]; exact IntWalk.i64_in _ (by omega)
                  clear hR2 HQ
                  generalize hqd : q - 1 = d at *
                  have hd : d ≤ 60 := by omega
                  go_upto_region 24 with fail
                  go_loopw [9, 14, 15, 82] (fun V Av _ J wj => ∃ (j a g2 cap2 : Nat) (T2 : List Int) (U : List Nat), V = .slice (some ⟨g2, 0, none⟩) U.length cap2 ∧ Av = .int .i64 a ∧ J = .int .i64 j ∧ j ≤ d ∧ Hid (a ∈ U) ∧ Hid (tbP n p y M (d - j) a (T2, U) = R2) ∧ Hid (TbI n M T2 U) ∧ Hid (TV w.heap.size C lb w wC n T2 (.slice (some ⟨g2, 0, none⟩) U.length cap2) U wj) ∧ Hid (SN C g0 U0 U wj) ∧ Hid (wj.heap[gb]? = some (.cells #[.int .i64 (p : Int), .int .i64 (q : Int)] 73 (0, 0)))) (fun _ _ _ J _ => d - (intOf J).toNat)
                  case atStart => exact ⟨0, a0, _, _, T1, U1, rfl, rfl, rfl, Nat.zero_le _, hamem, HR2.out, HJ.out, HW.out, HSn.out, HGb2.out⟩
                  case round =>
                    obtain ⟨j, a, g2, cap2, T2, U2, rfl, rfl, rfl, hj, Ham, HP, HI2, HX, HSm, HGb3⟩ := hrel
                    clear HR2 HJ HW HSn HGb2 hamem b1 b2 c1
                    by_cases hjd : j < d
                    · have hjdi : (j : Int) < (d : Int) := by omega
                      have hP2 := HP.out
                      rw [show d - j = (d - (j + 1)) + 1 by omega] at hP2
                      have HP3 : Hid (tbP n p y M (d - (j + 1)) (a * p % n) (T2.set (a * p % n) ((T2.getD a 0 + y) % (M : Int)), U2 ++ [a * p % n]) = R2) := hP2
                      have hU60 : U2.length + 1 ≤ 60 := by
                        have h1 := tbP_len n p y M (d - j) a (T2, U2)
                        rw [HP.out] at h1
                        have h2 : (T2, U2).2.length = U2.length := rfl
                        omega
                      obtain ⟨ha, hT0, hT1⟩ := HI2.out.un a Ham.out
                      have hlen := HI2.out.len
                      have hbn : a * p % n < n := Nat.mod_lt _ (by omega)
                      have hap : a * p ≤ 60 * 60 := Nat.mul_le_mul (by omega) (by omega)
                      have hz0 : 0 ≤ (T2.getD a 0 + y) % (M : Int) := Int.emod_nonneg _ (by omega)
                      have hz1 : (T2.getD a 0 + y) % (M : Int) < (M : Int) := Int.emod_lt_of_pos _ (by omega)
                      have htz : Int.tmod (T2.getD a 0 + y) (M : Int) = (T2.getD a 0 + y) % (M : Int) := Int.tmod_eq_emod_of_nonneg (by omega)
                      have htb : Int.tmod ((a * p : Nat) : Int) (n : Int) = ((a * p % n : Nat) : Int) := (Int.ofNat_tmod _ n).symm
                      have heb : ((a * p : Nat) : Int) % (n : Int) = ((a * p % n : Nat) : Int) := (Int.natCast_emod _ n).symm
                      have hmp : (a : Int) * (p : Int) = ((a * p : Nat) : Int) := (Int.natCast_mul a p).symm
                      have HIn := Lib.hid (HI2.out.step hbn hz0 hz1)
                      obtain ⟨b1, b2, _⟩ := cells_two HGb3.out
                      obtain ⟨t0, t1, _⟩ := cells_two (HTc.out _ _ _ _ HX.out)
                      have r0 := HX.out.row.cell (i := a) ha
                      have rf := HX.out.row.frozen (a * p % n)
                      have rb := HX.out.row.cell (i := a * p % n) hbn
                      have HXs := Lib.hid ((HX.out.set (a * p % n) ((T2.getD a 0 + y) % (M : Int)) (by omega)).drew)
                      have HSs := Lib.hid ((HSm.out.set hlb (a * p % n) (.int .i64 ((T2.getD a 0 + y) % (M : Int)))).drew)
                      have HGs : Hid ((wr.setCell ⟨lb, a * p % n, none⟩ (.int .i64 ((T2.getD a 0 + y) % (M : Int)))).drew.heap[gb]? = some (.cells #[.int .i64 (p : Int), .int .i64 (q : Int)] 73 (0, 0))) := (Below.heap_setCell _ _ _ _ (by show gb ≠ lb; omega)).trans HGb3.out
                      have HPn := Lib.hid (show a * p % n ∈ U2 ++ [a * p % n] from List.mem_append_right _ (List.mem_singleton.2 rfl))
                      clear hP2 HP HI2 Ham HX HSm HGb3
                      have M0 : ((M : Int) == 0) = false := by rw [beq_eq_false_iff_ne]; omega
                      have M0' : ¬ ((M : Int) = 0) := by omega
                      have M0'' : ¬ (M = 0) := by omega
                      have hT9 : T2.getD a 0 ≤ 60 := by omega
                      generalize T2.getD a 0 = ta at *
                      have hsum : IntKind.i64.wrap (ta + y) = ta + y := IntWalk.i64_in _ (by omega)
                      generalize (ta + y) % (M : Int) = z at *
                      have hwz : IntKind.i64.wrap z = z := IntWalk.i64_in _ (by omega)
                      generalize a * p % n = b9 at *
                      generalize a * p = ap at *
                      have hwap : IntKind.i64.wrap (ap : Int) = (ap : Int) := IntWalk.i64_in _ (by omega)
                      have hwb : IntKind.i64.wrap (b9 : Int) = (b9 : Int) := IntWalk.i64_in _ (by omega)
                      have hbni : (b9 : Int) < (n : Int) := by omega
                      have hani : (a : Int) < (n : Int) := by omega
                      go_upto_region 26 with fail
                      go_region
                      go_upto_region 27 with fail
                      clear r0 rf rb t0 t1 b1 b2
                      generalize (wr.setCell ⟨lb, b9, none⟩ (.int .i64 z)).drew = W7 at *
                      have hsz7 : C ≤ W7.heap.size := HXs.out.size
                      go_wp2_with (first
                        | (at_builtin; (refine app_snap _ rfl _ _ rfl C _ _ _ rfl (HXs.out.own.alloc _) W7.heap.size (.int .i64 (b9 : Int)) rfl (cell_one_new _ _ _) rfl (by omega) (by simp; omega) ?_); intro g3 cap3 w8 hown8 hg8 hat8; have HX8 := Lib.hid (HXs.out.push hown8 hg8); have HS8 := Lib.hid (HSs.out.push hown8 hg8 hat8); have HG8 := Lib.hid (HXs.out.box (by decide) HGs.out hg8); clear hown8 hg8 hat8)
                        | fail)
                      go_roundw
                      case rel => exact ⟨j + 1, b9, g3, cap3, _, U2 ++ [b9], by rw [List.length_append]; rfl, rfl, by go_num, by omega, HPn.out, HP3.out, HIn.out, by rw [List.length_append]; exact HX8.out, HS8.out, HG8.out⟩
                      case measure => simp [intOf]; omega
                    · obtain rfl : d = j := by omega
                      have hj3 : ¬ (d : Int) < (d : Int) := by omega
                      have HF : Hid ((T2, U2) = R2) := by
                        have h1 := HP.out
                        rw [Nat.sub_self] at h1
                        exact h1
                      go_wp2
                      go_roundw
                      case rel => exact ⟨i + 1, g2, cap2, T2, U2, rfl, by go_num, by omega, by rw [HF.out]; exact HQ2.out, HI2.out, HX.out, HSm.out, HGb3.out⟩
                      case measure => simp [intOf]; omega
                · obtain rfl : i = U0.length := by omega
                  have hi3 : ¬ (U0.length : Int) < (U0.length : Int) := by omega
                  have hfin : (T1, U1) = R1 := by
                    have h1 := HQ.out
                    rw [List.drop_eq_nil_of_le (Nat.le_refl _)] at h1
                    exact h1
                  have HF := Lib.hid hfin
                  clear hfin
                  go_wp2
                  go_roundw
                  case rel => exact ⟨k + 1, g1, cap1, T1, U1, rfl, by go_num, by omega, by rw [HF.out]; exact HS2.out, HJ.out, HW.out⟩
                  case measure => simp [intOf]; omega
            · obtain rfl : k = G.length := by omega
              have hk3 : ¬ (G.length : Int) < (G.length : Int) := by omega
              have hfin : TF = T := by
                have h1 := HS.out
                rw [List.drop_eq_nil_of_le (Nat.le_refl _)] at h1
                have h2 : (T, U0) = RF := h1
                rw [HTV.out, ← h2]
              have ht := HTc.out _ _ _ _ HV.out
              have hr := HRc.out _ _ _ _ HV.out
              obtain ⟨e0, e1, ef⟩ := cells_two ht
              obtain ⟨r0, r1, rf⟩ := cells_two hr
              have HRs := Lib.hid (two_setC hr (.slice (some ⟨lb, 0, none⟩) n n) (.int .i64 (M : Int)))
              obtain ⟨s0, s1, sf⟩ := cells_two HRs.out
              have HBe := Lib.hid ((HV.out.below.setCell (p := ⟨w.heap.size + 1, 0, none⟩) (by show _ ≤ w.heap.size + 1; omega) (.slice (some ⟨lb, 0, none⟩) n n)).setCell (p := ⟨w.heap.size + 1, 1, none⟩) (by show _ ≤ w.heap.size + 1; omega) (.int .i64 (M : Int)))
              have HRw := Lib.hid ((HV.out.row.setOther (a := ⟨w.heap.size + 1, 0, none⟩) (by show lb ≠ w.heap.size + 1; omega) (.slice (some ⟨lb, 0, none⟩) n n)).setOther (a := ⟨w.heap.size + 1, 1, none⟩) (by show lb ≠ w.heap.size + 1; omega) (.int .i64 (M : Int)))
              have HTl := Lib.hid HI.out.len
              have HTd := Lib.hid HI.out.bd
              clear ht hr
              go_wp2
              refine bodyPost_ret (v := .agg #[.slice (some ⟨lb, 0, none⟩) n n, .int .i64 (M : Int)]) ?_ rfl ⟨lb, by rw [HMe.out], by omega, ?_, ?_, ?_, HBe.out⟩
              · simp [results, Try.results53, go_sem, s0, s1]
              · exact HRw.out
              · exact HTl.out
              · rw [HMe.out]; exact HTd.out
end Go.Proofs.Ytlagljnhbhnelaa
namespace Go.Proofs.Ytlagljnhbhnelaa
open Go.RowKit
set_option linter.unusedVariables false
set_option linter.unusedSimpArgs false

/-- The exponent at a generator, and all exponents, of the character whose values a table gives. -/
def chX (T : List Int) (m : Nat) (g : Nat × Nat) : Int := T.getD (g.1 % T.length) 0 * (g.2 : Int) / (m : Int)
def chE (T : List Int) (m n : Nat) : List Int := (gensV n).map (chX T m)
set_option maxHeartbeats 6400000 in
set_option maxRecDepth 1000000 in
theorem chart_any (T : List Int) (m n : Nat) (A : Option Addr) (c : Nat) (w : World) (n1 : 1 ≤ n) (n2 : (n : Int) ≤ 60) (m1 : 1 ≤ m) (m2 : m ≤ 60) (hN1 : 1 ≤ T.length) (hN2 : T.length ≤ 60) (hT : RdZ w w.heap.size A c T) (hg : ∀ g ∈ gensV n, 0 ≤ T.getD (g.1 % T.length) 0 ∧ T.getD (g.1 % T.length) 0 ≤ 60) :
    Calls Try.prog 59 #[.int .i64 (n : Int), .func (.func 58) #[.agg #[.slice A T.length c, .int .i64 (m : Int)]] #[]] w fun e w' => ∃ v, e = .returned (.agg #[.int .i64 (n : Int), v]) ∧ w'.ownsRow (w.heap.size + 2) 3 1 v (chE T m n).length (zs (chE T m n)) ∧ Below w.heap.size w w' := by
  obtain ⟨i0, hi0, z0, z1, z2⟩ := info_parts Try.infoIntC
  have HGe := Lib.hid (fun W => gens_any n W n1 n2)
  have HGb := Lib.hid (gens_facts n1 (show n ≤ 60 by omega))
  have hgl := HGb.out.len
  have HQ := Lib.hid (fun (V : World) (a : Nat) (h1 : (a : Int) ≤ 60) (hc : RdZ V V.heap.size A c T) => at_any T m (a : Int) A c (a % T.length) (T.getD (a % T.length) 0) V hc hN2 (by omega) (by omega) (Int.natCast_emod a T.length).symm (getD_some T _ (Nat.mod_lt _ hN1)))
  have HGg := Lib.hid hg
  have HP : Hid (((gensV n).take (gensV n).length).map (chX T m) = chE T m n) := by show _ = _; rw [List.take_length]; rfl
  have HT := Lib.hid hT
  have HX0 : Hid (((w.alloc (.cells #[.int .i64 0, .slice none 0 0] 33)).alloc (.cells #[.int .i64 (n : Int), .slice none 0 0] 33)).heap[w.heap.size + 1]? = some (.cells #[.int .i64 (n : Int), .slice none 0 0] 33 (0, 0))) := by
    have := heap_alloc_new (w.alloc (.cells #[.int .i64 0, .slice none 0 0] 33)) (.cells #[.int .i64 (n : Int), .slice none 0 0] 33)
    show _ = _
    simpa using this
  have HR0 : Hid (((w.alloc (.cells #[.int .i64 0, .slice none 0 0] 33)).alloc (.cells #[.int .i64 (n : Int), .slice none 0 0] 33)).heap[w.heap.size]? = some (.cells #[.int .i64 0, .slice none 0 0] 33 (0, 0))) := block_alloc (heap_alloc_new w _) _
  have HB0 : Hid (Below w.heap.size w ((w.alloc (.cells #[.int .i64 0, .slice none 0 0] 33)).alloc (.cells #[.int .i64 (n : Int), .slice none 0 0] 33))) := below2 w _ _
  clear hT hg
  generalize gensV n = G at *
  go_enter Try.func59, Try.ntmps59
  go_wp2_with (first
    | (go_at_call 47; ((with_reducible refine (HGe.out _).mono ?_); rintro e w2 ⟨v, rfl, ho, hb⟩; obtain ⟨la, lc, rfl, hrd⟩ := gen_blk ho; have HR := Lib.hid hrd; have HX2 := Lib.hid (block_below HX0.out hb); have HR2 := Lib.hid (block_below HR0.out hb); have HB2 := Lib.hid (HB0.out.trans (hb.mono HB0.out.size)); clear ho hb hrd))
    | fail)
  have hs2 := lt_of_block HX2.out
  have HXs : Hid (XW w.heap.size w2.heap.size w w2 n (.slice none 0 0) [] w2) := ⟨by omega, Nat.le_refl _, HX2.out, World.ownsRow_nil _ _ _ _, fun _ _ _ => rfl, HB2.out⟩
  clear HX0 HR0 HB0 HGe
  go_loopw [7, 8, 9, 15] (fun _ _ _ I wr => ∃ (k : Nat) (v : Value), I = .int .i64 k ∧ k ≤ G.length ∧ Hid (XW w.heap.size w2.heap.size w w2 n v ((G.take k).map (chX T m)) wr)) (fun _ _ _ I _ => G.length - (intOf I).toNat)
  case atStart => exact ⟨0, _, rfl, Nat.zero_le _, HXs.out⟩
  case round =>
    obtain ⟨k, v, rfl, hk, HX⟩ := hrel
    by_cases hkl : k < G.length
    · have hkli : (k : Int) < (G.length : Int) := by omega
      obtain ⟨g, cs, rfl, hg1, hcell⟩ := HR.out k hkl
      obtain ⟨x1, x2⟩ := hcell wr ((HX.out.keep g (lt_of_block hg1) (blk_ne HX2.out hg1 (by decide))).trans hg1)
      have HN : Hid ((G.take (k + 1)).map (chX T m) = (G.take k).map (chX T m) ++ [chX T m G[k]]) := by
        show _ = _
        rw [List.take_add_one, List.getElem?_eq_getElem hkl, Option.toList_some, List.map_append]; rfl
      have p60 := HGb.out.v _ (List.getElem_mem hkl)
      have q1 := HGb.out.o1 _ (List.getElem_mem hkl)
      have q60 := HGb.out.o2 _ (List.getElem_mem hkl)
      obtain ⟨zp0, zp1⟩ := HGg.out _ (List.getElem_mem hkl)
      clear hg1 hcell
      generalize G[k] = f at *
      obtain ⟨p, q⟩ := f
      simp only at x1 x2 p60 q1 q60 zp0 zp1
      have hqx : chX T m (p, q) = T.getD (p % T.length) 0 * (q : Int) / (m : Int) := rfl
      have hy0 : 0 ≤ T.getD (p % T.length) 0 * (q : Int) := Int.mul_nonneg zp0 (by omega)
      have hy1 : T.getD (p % T.length) 0 * (q : Int) ≤ 60 * 60 := Int.mul_le_mul zp1 (by omega) (by omega) (by omega)
      have hx0 : 0 ≤ T.getD (p % T.length) 0 * (q : Int) / (m : Int) := Int.ediv_nonneg hy0 (by omega)
      have hx1 : T.getD (p % T.length) 0 * (q : Int) / (m : Int) ≤ T.getD (p % T.length) 0 * (q : Int) := Int.ediv_le_self _ hy0
      have htd0 : Int.tdiv (T.getD (p % T.length) 0 * (q : Int)) (m : Int) = T.getD (p % T.length) 0 * (q : Int) / (m : Int) := Int.tdiv_eq_ediv_of_nonneg hy0
      generalize chX T m (p, q) = x at *
      go_upto_region 5 with fail
      have HX3 : Hid (XW w.heap.size w2.heap.size w w2 n v ((G.take k).map (chX T m)) (wr.alloc (.cells #[.int .i64 (p : Int), .int .i64 (q : Int)] 73))) := HX.out.on (below1 wr _)
      have HG3 : Hid ((wr.alloc (.cells #[.int .i64 (p : Int), .int .i64 (q : Int)] 73)).heap[wr.heap.size]? = some (.cells #[.int .i64 (p : Int), .int .i64 (q : Int)] 73 (0, 0))) := heap_alloc_new wr _
      have hgb : w2.heap.size ≤ wr.heap.size := HX.out.size
      clear x1 x2 HX
      generalize (wr.alloc (.cells #[.int .i64 (p : Int), .int .i64 (q : Int)] 73)) = W3 at *
      generalize wr.heap.size = gb at *
      obtain ⟨y1, y2, _⟩ := cells_two HG3.out
      obtain ⟨b1, b2, _⟩ := cells_two HX3.out.box
      have HQ3 := Lib.hid (HQ.out W3 p (by omega) ((HT.out.below HX3.out.below).mono HX3.out.below.size))
      generalize hzz : T.getD (p % T.length) 0 = z at *
      clear hzz
      generalize hyy : z * (q : Int) = y at *
      rw [← hqx] at hx0 hx1 htd0
      have hdv : y / (m : Int) = x := hqx.symm
      have m0 : ((m : Int) == 0) = false := by rw [beq_eq_false_iff_ne]; omega
      have m0' : ¬ ((m : Int) = 0) := by omega
      have m0'' : ¬ (m = 0) := by omega
      have hwy : IntKind.i64.wrap y = y := IntWalk.i64_in _ (by omega)
      have hwx : IntKind.i64.wrap x = x := IntWalk.i64_in _ (by omega)
      have htl : (G.take k).length ≤ 8 := by rw [List.length_take]; omega
      clear hqx
      go_wp2_with (first
        | (go_at_call 58; ((with_reducible refine HQ3.out.mono ?_); rintro e w5 ⟨rfl, hb5⟩; have HX5 := Lib.hid (HX3.out.on hb5); have HG5 := Lib.hid (block_below HG3.out hb5); clear hb5))
        | fail)
      have HHd : Hid (∀ V, XW w.heap.size w2.heap.size w w2 n v ((G.take k).map (chX T m)) V → V.heap[gb]? = some (.cells #[.int .i64 (p : Int), .int .i64 (q : Int)] 73 (0, 0)) → V.cell? ⟨w.heap.size + 1, 1, none⟩ = some v ∧ V.cell? ⟨gb, 1, none⟩ = some (.int .i64 (q : Int))) := fun V h1 h2 => ⟨(cells_two h1.box).2.1, (cells_two h2).2.1⟩
      have HXd := Lib.hid HX5.out.drew
      have HGd : Hid (w5.drew.heap[gb]? = some (.cells #[.int .i64 (p : Int), .int .i64 (q : Int)] 73 (0, 0))) := HG5.out
      clear y1 y2 b1 b2 HX3 HG3 HX5 HG5
      go_upto_region 6 with fail
      obtain ⟨wd, hwd⟩ : ∃ wd, wd = w5.drew := ⟨_, rfl⟩
      rw [← hwd] at HXd HGd
      refine region_E 9 (fun w' => w'.cell? ⟨w.heap.size + 1, 1, none⟩ = some v ∧ w'.cell? ⟨gb, 1, none⟩ = some (.int .i64 (q : Int))) (by kernel_rfl) ?_
      rw [← hwd]
      clear hwd
      have hHeld := HHd.out wd HXd.out HGd.out
      refine take_E (n := 9) (i := 0) (v := ?vtt_0) rfl (by kernel_rfl) (fun _ _ _ h => h) ?hytt_0 (by rfl) hHeld ?resttt_0
      case hytt_0 => (intro w9 hSw; (try dsimp only at hSw); go_simp <;> with_reducible rfl)
      (try simp only [List.getElem_toArray, List.getElem_cons_zero, List.getElem_cons_succ, Act.put, List.setIfInBounds_toArray, List.set_cons_zero, List.set_cons_succ])
      refine take_E (n := 9) (i := 1) (v := ?vtt_1) rfl (by kernel_rfl) (fun _ _ _ h => h) ?hytt_1 (by rfl) hHeld ?resttt_1
      case hytt_1 => (intro w9 hSw; (try dsimp only at hSw); go_simp <;> with_reducible rfl)
      (try simp only [List.getElem_toArray, List.getElem_cons_zero, List.getElem_cons_succ, Act.put, List.setIfInBounds_toArray, List.set_cons_zero, List.set_cons_succ])
      refine take_E (n := 9) (i := 2) (v := ?vtt_2) rfl (by kernel_rfl) (fun _ _ _ h => h) ?hytt_2 (by rfl) hHeld ?resttt_2
      case hytt_2 => (intro w9 hSw; (try dsimp only at hSw); go_simp <;> with_reducible rfl)
      (try simp only [List.getElem_toArray, List.getElem_cons_zero, List.getElem_cons_succ, Act.put, List.setIfInBounds_toArray, List.set_cons_zero, List.set_cons_succ])
      refine take_E (n := 9) (i := 3) (v := ?vtt_3) rfl (by kernel_rfl) (fun _ _ _ h => h) ?hytt_3 (by rfl) hHeld ?resttt_3
      case hytt_3 => (intro w9 hSw; (try dsimp only at hSw); go_simp <;> with_reducible rfl)
      (try simp only [List.getElem_toArray, List.getElem_cons_zero, List.getElem_cons_succ, Act.put, List.setIfInBounds_toArray, List.set_cons_zero, List.set_cons_succ])
      refine take_E (n := 9) (i := 4) (v := ?vtt_4) rfl (by kernel_rfl) (fun _ _ _ h => h) ?hytt_4 (by rfl) hHeld ?resttt_4
      case hytt_4 => (intro w9 hSw; (try dsimp only at hSw); go_simp <;> with_reducible rfl)
      (try simp only [List.getElem_toArray, List.getElem_cons_zero, List.getElem_cons_succ, Act.put, List.setIfInBounds_toArray, List.set_cons_zero, List.set_cons_succ])
      refine take_E (n := 9) (i := 5) (v := ?vtt_5) rfl (by kernel_rfl) (fun _ _ _ h => h) ?hytt_5 (by rfl) hHeld ?resttt_5
      case hytt_5 => (intro w9 hSw; (try dsimp only at hSw); go_simp <;> with_reducible rfl)
      (try simp only [List.getElem_toArray, List.getElem_cons_zero, List.getElem_cons_succ, Act.put, List.setIfInBounds_toArray, List.set_cons_zero, List.set_cons_succ])
      refine take_E (n := 9) (i := 6) (v := ?vtt_6) rfl (by kernel_rfl) (fun _ _ _ h => h) ?hytt_6 (by rfl) hHeld ?resttt_6
      case hytt_6 => (intro w9 hSw; (try dsimp only at hSw); go_simp <;> with_reducible rfl)
      (try simp only [List.getElem_toArray, List.getElem_cons_zero, List.getElem_cons_succ, Act.put, List.setIfInBounds_toArray, List.set_cons_zero, List.set_cons_succ])
      refine take_E (n := 9) (i := 7) (v := ?vtt_7) rfl (by kernel_rfl) (fun _ _ _ h => h) ?hytt_7 (by rfl) hHeld ?resttt_7
      case hytt_7 => (intro w9 hSw; (try dsimp only at hSw); go_simp <;> with_reducible rfl)
      (try simp only [List.getElem_toArray, List.getElem_cons_zero, List.getElem_cons_succ, Act.put, List.setIfInBounds_toArray, List.set_cons_zero, List.set_cons_succ])
      refine one_E (n := 9) (i := 8) (by kernel_rfl) rfl (fun K hK => ?_)
      go_simp
      refine hK.out _ _ (fun _ => HHd.out _ (HXd.out.on (below1 wd _)) (block_alloc HGd.out _)) (fun hHeld8 => ?_)
      clear hK K
      (try simp only [List.getElem_toArray, List.getElem_cons_zero, List.getElem_cons_succ, Act.put, List.setIfInBounds_toArray, List.set_cons_zero, List.set_cons_succ])
      refine one_E (n := 9) (i := 9) (by kernel_rfl) rfl (fun K hK => ?_)
      refine step_append_lies _ (by rfl) _ _ _ (by rfl) w2.heap.size 3 i0 _ 1 8 Try.underlying23 hi0 z0 z1 z2 rfl (by omega) v _ _ (by rfl) (HXd.out.on (below1 wd _)).own ⟨wd.heap.size, 0, none⟩ 1 1 [.int .i64 x] (by rfl) (by rfl) (World.news_of_block (cs := #[.int .i64 x]) (t := 3) (fr := (0, 0)) (heap_alloc_new wd _)) (by simp [Value.oneCell']) (by omega) (by simp; unfold maxLen; omega) (by simp; omega) (by have := HXd.out.size; simp; omega) (wd.heap.size + 1) (by simp) ?_
      intro gg cap' p2 hown2 hgrow hat hlt3
      obtain ⟨hbx, hxn⟩ := HXd.out.push hown2 hgrow
      have hlk : ((G.take k).map (chX T m)).length = k := by rw [List.length_map, List.length_take]; omega
      rw [hlk] at hxn
      have HXn := Lib.hid hxn
      obtain ⟨e1, e2, ef⟩ := cells_two hbx
      clear hown2 hgrow hat hxn hbx
      refine hK.out _ _ (fun h => absurd h (by decide)) (fun hHeld9 => ?_)
      clear hK K
      (try simp only [List.getElem_toArray, List.getElem_cons_zero, List.getElem_cons_succ, Act.put, List.setIfInBounds_toArray, List.set_cons_zero, List.set_cons_succ])
      refine one_E (n := 9) (i := 10) (by kernel_rfl) rfl (fun K hK => ?_)
      go_simp
      refine hK.out _ _ (fun h => absurd h (by decide)) (fun hHeld10 => ?_)
      clear hK K
      (try simp only [List.getElem_toArray, List.getElem_cons_zero, List.getElem_cons_succ, Act.put, List.setIfInBounds_toArray, List.set_cons_zero, List.set_cons_succ])
      refine one_E (n := 9) (i := 11) (by kernel_rfl) rfl (fun K hK => ?_)
      go_simp
      refine hK.out _ _ (fun h => absurd h (by decide)) (fun hHeld11 => ?_)
      clear hK K
      (try simp only [List.getElem_toArray, List.getElem_cons_zero, List.getElem_cons_succ, Act.put, List.setIfInBounds_toArray, List.set_cons_zero, List.set_cons_succ])
      refine done_E (by kernel_rfl) ?_ _
      go_wp2
      go_roundw
      case rel => exact ⟨k + 1, _, by go_num, by omega, by rw [HN.out]; exact HXn.out⟩
      case measure => simp [intOf]; omega
    · obtain rfl : k = G.length := by omega
      have hk3 : ¬ (G.length : Int) < (G.length : Int) := by omega
      have HE := Lib.hid HP.out
      rw [HE.out] at HX
      obtain ⟨A0, l0, c0, rfl⟩ := ownsRow_slice HX.out.own
      obtain ⟨e0, e1, ef⟩ := cells_two HX.out.box
      have HRr := Lib.hid ((HX.out.keep w.heap.size (by omega) (by omega)).trans HR2.out)
      obtain ⟨r0, r1, rf⟩ := cells_two HRr.out
      have HRs := Lib.hid (two_setC HRr.out (.int .i64 (n : Int)) (.slice A0 l0 c0))
      obtain ⟨s0, s1, sf⟩ := cells_two HRs.out
      have HO := Lib.hid (own_base (show w.heap.size + 2 ≤ w2.heap.size by omega) (ownsRow_setCell_below (ownsRow_setCell_below HX.out.own (a := ⟨w.heap.size, 0, none⟩) (by show w.heap.size < w2.heap.size; omega) (.int .i64 (n : Int))) (a := ⟨w.heap.size, 1, none⟩) (by show w.heap.size < w2.heap.size; omega) (.slice A0 l0 c0)))
      have HBe := Lib.hid ((HX.out.below.setCell (p := ⟨w.heap.size, 0, none⟩) (Nat.le_refl _) (.int .i64 (n : Int))).setCell (p := ⟨w.heap.size, 1, none⟩) (Nat.le_refl _) (.slice A0 l0 c0))
      go_wp2
      refine bodyPost_ret (v := .agg #[.int .i64 (n : Int), .slice A0 l0 c0]) ?_ rfl ⟨_, rfl, HO.out, HBe.out⟩
      simp [results, Try.results59, go_sem, s0, s1]
theorem exL_ok : ∀ (E : List Int) (L : List (Nat × Nat)), exL E L = 0 → ∀ k (h1 : k < E.length) (h2 : k < L.length), 0 ≤ E[k] ∧ E[k] < (L[k].2 : Int)
  | [], _, _, k, h1, _ => by simp at h1
  | _ :: _, [], _, k, _, h2 => by simp at h2
  | x :: E, g :: L, h, k, h1, h2 => by
    by_cases hx : 0 ≤ x ∧ x < (g.2 : Int)
    · rw [exL_hit hx] at h
      rcases k with _ | k
      · exact hx
      · exact exL_ok E L h k (by simpa using h1) (by simpa using h2)
    · rw [exL_miss hx] at h
      cases h
theorem ck_ok {n : Nat} {E : List Int} (h : ckX n E = 0) : E.length = (gensV n).length ∧ ∀ k (h1 : k < E.length) (h2 : k < (gensV n).length), 0 ≤ E[k] ∧ E[k] < ((gensV n)[k].2 : Int) := by
  unfold ckX at h
  by_cases hl : E.length = (gensV n).length
  · rw [if_pos hl] at h; exact ⟨hl, exL_ok _ _ h⟩
  · rw [if_neg hl] at h; cases h
/-- A row of integers reads as its list. -/
theorem row_rdz {w : World} {b n : Nat} {T : List Int} (h : w.rowIs b 3 n (fun j => .int .i64 (T.getD j 0))) (hl : T.length = n) (hn : n ≤ 1000) : RdZ w w.heap.size (some ⟨b, 0, none⟩) n T := by
  refine ⟨by omega, by unfold maxLen; omega, fun _ => ⟨b, 0, rfl, h.lt, fun k hk => ?_⟩, fun a ha => by cases ha; exact ⟨_, _, rfl⟩⟩
  have h1 := h.cell (i := k) (by omega)
  rw [Nat.zero_add, h1, List.getD_eq_getElem?_getD, List.getElem?_eq_getElem hk]; rfl
set_option maxHeartbeats 1600000 in
/-- tableOf, in the words of its readers. -/
theorem tabr_any (n : Nat) (E : List Int) (A : Option Addr) (c : Nat) (w : World) (n1 : 1 ≤ n) (n2 : (n : Int) ≤ 60) (hE : RdZ w w.heap.size A c E) (hck : ckX n E = 0) :
    Calls Try.prog 53 #[.agg #[.int .i64 (n : Int), .slice A E.length c]] w fun e w' => ∃ lb, e = .returned (.agg #[.slice (some ⟨lb, 0, none⟩) (tbV n E).length n, .int .i64 (tbM (gensV n) : Nat)]) ∧ RdZ w' w'.heap.size (some ⟨lb, 0, none⟩) n (tbV n E) ∧ (tbV n E).length = n ∧ (∀ j, -1 ≤ (tbV n E).getD j 0 ∧ (tbV n E).getD j 0 < (tbM (gensV n) : Int)) ∧ Below w.heap.size w w' := by
  obtain ⟨h1, h2⟩ := ck_ok hck
  refine (tabof_any n E A c w n1 n2 hE h1 h2).mono fun e w' ⟨lb, he, hb, hr, hl, hd, hbl⟩ => ⟨lb, by rw [hl]; exact he, row_rdz hr hl (by omega), hl, hd, hbl⟩
set_option maxHeartbeats 3200000 in
set_option maxRecDepth 1000000 in
theorem ext_any (N n : Nat) (E : List Int) (A : Option Addr) (c : Nat) (w : World) (N1 : 1 ≤ N) (N2 : (N : Int) ≤ 60) (n1 : 1 ≤ n) (n2 : (n : Int) ≤ 60) (hE : RdZ w w.heap.size A c E) (hck : ckX N E = 0) (hd : n % N = 0) (hg : ∀ g ∈ gensV n, 0 ≤ (tbV N E).getD (g.1 % N) 0) :
    Calls Try.prog 41 #[.agg #[.int .i64 (N : Int), .slice A E.length c], .int .i64 (n : Int)] w fun e w' => ∃ v, e = .returned (.tuple #[.agg #[.int .i64 (n : Int), v], .int .i64 0]) ∧ w'.ownsRow w.heap.size 3 1 v (chE (tbV N E) (tbM (gensV N)) n).length (zs (chE (tbV N E) (tbM (gensV N)) n)) ∧ Below w.heap.size w w' := by
  have hmf : ∀ (fn : Fn) (first cap : Array Value) (w : World), (Instr.makeFunc fn first cap).run Try.prog w = .ok (.func fn first cap) w := fun _ _ _ _ => rfl
  have HCk := Lib.hid (fun (W : World) (h : RdZ W W.heap.size A c E) => dck_any N E A c W N1 N2 h)
  rw [hck] at HCk
  have HM := Lib.hid (fun W => ismod_any (n : Int) W)
  rw [decide_eq_true ⟨by omega, n2⟩] at HM
  have HTb := Lib.hid (fun (W : World) (h : RdZ W W.heap.size A c E) => tabr_any N E A c W N1 N2 h hck)
  have hM := (tbc_le N1 (show N ≤ 60 by omega)).2 (gensV N).length (Nat.le_refl _)
  rw [List.take_length] at hM
  have HCh := Lib.hid (fun (T : List Int) (m : Nat) (A1 : Option Addr) (c1 : Nat) (W : World) h1 h2 h3 h4 h5 h6 => chart_any T m n A1 c1 W n1 n2 h1 h2 h3 h4 h5 h6)
  have HGg := Lib.hid hg
  have htm : Int.tmod (n : Int) (N : Int) = 0 := by
    have := (Int.ofNat_tmod n N).symm
    rw [hd] at this; exact this
  have hem : (n : Int) % (N : Int) = 0 := by
    have := (Int.natCast_emod n N).symm
    rw [hd] at this; exact this
  have N0 : ((N : Int) == 0) = false := by rw [beq_eq_false_iff_ne]; omega
  have N0' : ¬ ((N : Int) = 0) := by omega
  have N0'' : ¬ (N = 0) := by omega
  have X0 : Hid (((w.alloc (.cells #[.int .i64 (N : Int), .slice A E.length c] 33)).alloc (.cells #[.int .i64 0, .slice none 0 0] 33)).heap[w.heap.size]? = some (.cells #[.int .i64 (N : Int), .slice A E.length c] 33 (0, 0))) := block_alloc (heap_alloc_new w _) _
  have R0 : Hid (((w.alloc (.cells #[.int .i64 (N : Int), .slice A E.length c] 33)).alloc (.cells #[.int .i64 0, .slice none 0 0] 33)).heap[w.heap.size + 1]? = some (.cells #[.int .i64 0, .slice none 0 0] 33 (0, 0))) := by
    have := heap_alloc_new (w.alloc (.cells #[.int .i64 (N : Int), .slice A E.length c] 33)) (.cells #[.int .i64 0, .slice none 0 0] 33)
    show _ = _; simpa using this
  have B0 : Hid (Below w.heap.size w ((w.alloc (.cells #[.int .i64 (N : Int), .slice A E.length c] 33)).alloc (.cells #[.int .i64 0, .slice none 0 0] 33))) := below2 w _ _
  have HE0 : Hid (∀ W, Below w.heap.size w W → RdZ W W.heap.size A c E) := fun W hW => (hE.below hW).mono hW.size
  obtain ⟨x0, x1, _⟩ := cells_two X0.out
  clear hE hck hg hd
  generalize tbV N E = T at *
  generalize tbM (gensV N) = m at *
  go_enter Try.func41, Try.ntmps41
  go_wp2_with (first
    | (go_at_call 24; ((with_reducible refine (HCk.out _ (HE0.out _ B0.out)).mono ?_); rintro e w1 ⟨rfl, hb⟩; have X1 := Lib.hid (block_below X0.out hb); have R1 := Lib.hid (block_below R0.out hb); have B1 := Lib.hid (B0.out.trans (hb.mono B0.out.size)); obtain ⟨y0, y1, _⟩ := cells_two X1.out; clear hb x0 x1))
    | (go_at_call 46; ((with_reducible refine (HM.out _).mono ?_); rintro e w2 ⟨rfl, rfl⟩))
    | (go_at_call 53; ((with_reducible refine (HTb.out _ (HE0.out _ B1.out)).mono ?_); rintro e w3 ⟨lb, rfl, hr, hl, hbd, hb⟩; have HR := Lib.hid hr; have HL := Lib.hid hl; have HBd := Lib.hid hbd; have R3 := Lib.hid (block_below R1.out hb); have B3 := Lib.hid (B1.out.trans (hb.mono B1.out.size)); clear hb hr hl hbd))
    | (go_at_call 59; ((with_reducible refine (HCh.out T m _ _ _ hM.1 hM.2 (by rw [HL.out]; exact N1) (by rw [HL.out]; omega) HR.out (fun g hg => by rw [HL.out]; exact ⟨HGg.out g hg, by have := (HBd.out (g.1 % N)).2; omega⟩)).mono ?_); rintro e w4 ⟨v, rfl, ho, hb⟩; obtain ⟨A0, l0, cc0, rfl⟩ := ownsRow_slice ho; have HO := Lib.hid ho; have B4 := Lib.hid (B3.out.trans (hb.mono B3.out.size)); have R4 := Lib.hid (block_below R3.out hb); obtain ⟨r0, r1, rf⟩ := cells_two R4.out; clear hb ho))
    | fail)
  have hs1 := lt_of_block R3.out
  have hO2 := own_base (show w.heap.size + 2 ≤ w3.heap.size + 2 by omega) HO.out
  have R5 := Lib.hid (two_setC R4.out (.int .i64 (n : Int)) (.slice A0 l0 cc0))
  obtain ⟨s0, s1, sf⟩ := cells_two R5.out
  have HO2 := Lib.hid (own_base (show w.heap.size ≤ w.heap.size + 2 by omega) (ownsRow_setCell_below (ownsRow_setCell_below hO2 (a := ⟨w.heap.size + 1, 0, none⟩) (by show w.heap.size + 1 < w.heap.size + 2; omega) (.int .i64 (n : Int))) (a := ⟨w.heap.size + 1, 1, none⟩) (by show w.heap.size + 1 < w.heap.size + 2; omega) (.slice A0 l0 cc0)))
  have HB5 := Lib.hid ((B4.out.setCell (p := ⟨w.heap.size + 1, 0, none⟩) (by show w.heap.size ≤ w.heap.size + 1; omega) (.int .i64 (n : Int))).setCell (p := ⟨w.heap.size + 1, 1, none⟩) (by show w.heap.size ≤ w.heap.size + 1; omega) (.slice A0 l0 cc0))
  refine bodyPost_ret (v := .tuple #[.agg #[.int .i64 (n : Int), .slice A0 l0 cc0], .int .i64 0]) ?_ rfl ⟨_, rfl, HO2.out, HB5.out⟩
  simp [results, Try.results41, go_sem, s0, s1]
end Go.Proofs.Ytlagljnhbhnelaa
namespace Go.Proofs.Ytlagljnhbhnelaa
open Go.RowKit
set_option linter.unusedVariables false
set_option linter.unusedSimpArgs false

/-- The value exp(2 pi i k/m), or 0 if k is -1. -/
def rouV (k : Int) (m : Nat) : Value := if k = -1 then .agg #[.bool true, .int .i64 0, .int .i64 0] else .agg #[.bool false, .int .i64 ((k.toNat / Nat.gcd k.toNat m : Nat) : Int), .int .i64 ((m / Nat.gcd k.toNat m : Nat) : Int)]
theorem three_setV {w : World} {g : Nat} {a b c : Value} {t : TypeId} (h : w.heap[g]? = some (.cells #[a, b, c] t (0, 0))) (u0 u1 u2 : Value) : (((w.setCell ⟨g, 0, none⟩ u0).setCell ⟨g, 1, none⟩ u1).setCell ⟨g, 2, none⟩ u2).heap[g]? = some (.cells #[u0, u1, u2] t (0, 0)) :=
  heap_setCell_same _ g 2 #[u0, u1, c] t u2 (heap_setCell_same _ g 1 #[u0, b, c] t u1 (heap_setCell_same _ g 0 #[a, b, c] t u0 h))
set_option maxHeartbeats 3200000 in
set_option maxRecDepth 1000000 in
theorem dval_any (n : Nat) (E : List Int) (a : Int) (A : Option Addr) (c : Nat) (w : World) (n1 : 1 ≤ n) (n2 : (n : Int) ≤ 60) (hE : RdZ w w.heap.size A c E) (hck : ckX n E = 0) (a1 : -1073741824 ≤ a) (a2 : a ≤ 1073741824) :
    Calls Try.prog 31 #[.agg #[.int .i64 (n : Int), .slice A E.length c], .int .i64 a] w fun e w' => e = .returned (.tuple #[rouV ((tbV n E).getD (a % (n : Int)).toNat 0) (tbM (gensV n)), .int .i64 0]) ∧ Below w.heap.size w w' := by
  have HCk := Lib.hid (fun (W : World) (h : RdZ W W.heap.size A c E) => dck_any n E A c W n1 n2 h)
  rw [hck] at HCk
  have HTb := Lib.hid (fun (W : World) (h : RdZ W W.heap.size A c E) => tabr_any n E A c W n1 n2 h hck)
  have hM := (tbc_le n1 (show n ≤ 60 by omega)).2 (gensV n).length (Nat.le_refl _)
  rw [List.take_length] at hM
  have HAt := Lib.hid (fun (T : List Int) (m : Int) (A1 : Option Addr) (c1 j : Nat) (x : Int) (W : World) h1 h2 h3 h4 => at_any T m a A1 c1 j x W h1 h2 a1 a2 h3 h4)
  have X0 : Hid (((w.alloc (.cells #[.int .i64 (n : Int), .slice A E.length c] 33)).alloc (.cells #[.bool false, .int .i64 0, .int .i64 0] 48)).heap[w.heap.size]? = some (.cells #[.int .i64 (n : Int), .slice A E.length c] 33 (0, 0))) := block_alloc (heap_alloc_new w _) _
  have R0 : Hid (((w.alloc (.cells #[.int .i64 (n : Int), .slice A E.length c] 33)).alloc (.cells #[.bool false, .int .i64 0, .int .i64 0] 48)).heap[w.heap.size + 1]? = some (.cells #[.bool false, .int .i64 0, .int .i64 0] 48 (0, 0))) := by
    have := heap_alloc_new (w.alloc (.cells #[.int .i64 (n : Int), .slice A E.length c] 33)) (.cells #[.bool false, .int .i64 0, .int .i64 0] 48)
    show _ = _; simpa using this
  have B0 : Hid (Below w.heap.size w ((w.alloc (.cells #[.int .i64 (n : Int), .slice A E.length c] 33)).alloc (.cells #[.bool false, .int .i64 0, .int .i64 0] 48))) := below2 w _ _
  have HE0 : Hid (∀ W, Below w.heap.size w W → RdZ W W.heap.size A c E) := fun W hW => (hE.below hW).mono hW.size
  obtain ⟨x0, x1, _⟩ := cells_two X0.out
  have hj0 : a % (n : Int) = (((a % (n : Int)).toNat : Nat) : Int) := by have := Int.emod_nonneg a (show (n : Int) ≠ 0 by omega); omega
  have hj1 : (a % (n : Int)).toNat < n := by have h1 := Int.emod_lt_of_pos a (show 0 < (n : Int) by omega); have := Int.emod_nonneg a (show (n : Int) ≠ 0 by omega); omega
  have hi1 : ¬ a < -1073741824 := by omega
  have hi2 : ¬ 1073741824 < a := by omega
  clear hE hck
  generalize tbV n E = T at *
  generalize tbM (gensV n) = m at *
  generalize (a % (n : Int)).toNat = j at *
  have HJ0 := Lib.hid hj0
  clear hj0
  generalize hk0 : T.getD j 0 = k
  have HKs := Lib.hid hk0
  clear hk0
  generalize hV0 : rouV k m = V
  have HV0 := Lib.hid hV0
  clear hV0
  go_enter Try.func31, Try.ntmps31
  go_upto_region 6 with (first
    | (go_at_call 24; ((with_reducible refine (HCk.out _ (HE0.out _ B0.out)).mono ?_); rintro e w1 ⟨rfl, hb⟩; have X1 := Lib.hid (block_below X0.out hb); have R1 := Lib.hid (block_below R0.out hb); have B1 := Lib.hid (B0.out.trans (hb.mono B0.out.size)); obtain ⟨y0, y1, _⟩ := cells_two X1.out; clear hb x0 x1))
    | fail)
  go_upto_region 7 with (first
    | (go_at_call 53; ((with_reducible refine (HTb.out _ (HE0.out _ B1.out)).mono ?_); rintro e w3 ⟨lb, rfl, hr, hl, hbd, hb⟩; have HR := Lib.hid hr; have HL := Lib.hid hl; have HBd := Lib.hid hbd; have R3 := Lib.hid (block_below R1.out hb); have B3 := Lib.hid (B1.out.trans (hb.mono B1.out.size)); clear hb hr hl hbd y0 y1))
    | (go_at_call 58; ((with_reducible refine (HAt.out T m _ _ j k _ HR.out (by rw [HL.out]; omega) (by rw [HL.out]; exact HJ0.out) (by rw [← HKs.out]; exact getD_some T j (by rw [HL.out]; exact hj1))).mono ?_); rintro e w4 ⟨rfl, hb⟩; have B4 := Lib.hid (B3.out.trans (hb.mono B3.out.size)); have R4 := Lib.hid (block_below R3.out hb); clear hb))
    | fail)
  have hkb := HBd.out j
  rw [HKs.out] at hkb
  clear HKs
  obtain ⟨⟨r0, r1, r2⟩, rf⟩ := three_of_blockD R4.out
  by_cases hk : k = -1
  · have hk2 : (k == -1) = true := by rw [beq_iff_eq]; exact hk
    have HV : Hid (V = .agg #[.bool true, .int .i64 0, .int .i64 0]) := by show _ = _; rw [← HV0.out]; unfold rouV; rw [if_pos hk]
    have R5 := Lib.hid (three_setV R4.out (.bool true) (.int .i64 0) (.int .i64 0))
    obtain ⟨⟨s0, s1, s2⟩, sf⟩ := three_of_blockD R5.out
    have HB5 := Lib.hid (((B4.out.setCell (p := ⟨w.heap.size + 1, 0, none⟩) (by show w.heap.size ≤ w.heap.size + 1; omega) (.bool true)).setCell (p := ⟨w.heap.size + 1, 1, none⟩) (by show w.heap.size ≤ w.heap.size + 1; omega) (.int .i64 0)).setCell (p := ⟨w.heap.size + 1, 2, none⟩) (by show w.heap.size ≤ w.heap.size + 1; omega) (.int .i64 0))
    clear hk
    go_wp2
    refine bodyPost_ret (v := .tuple #[.agg #[.bool true, .int .i64 0, .int .i64 0], .int .i64 0]) ?_ rfl ⟨by rw [HV.out], HB5.out⟩
    simp [results, Try.results31, go_sem, s0, s1, s2]
  · have hk2 : (k == -1) = false := by rw [beq_eq_false_iff_ne]; exact hk
    obtain ⟨kn, rfl⟩ : ∃ kn : Nat, k = (kn : Int) := ⟨k.toNat, by omega⟩
    have HV : Hid (V = .agg #[.bool false, .int .i64 ((kn / Nat.gcd kn m : Nat) : Int), .int .i64 ((m / Nat.gcd kn m : Nat) : Int)]) := by show _ = _; rw [← HV0.out]; unfold rouV; rw [if_neg hk]; rfl
    have HG := Lib.hid (fun W => gcd_any (kn : Int) (m : Int) W (by unfold Mid; omega) (by unfold Mid; omega))
    have hgi : Int.gcd (kn : Int) (m : Int) = Nat.gcd kn m := by simp [Int.gcd]
    rw [hgi] at HG
    have hg1 : 1 ≤ Nat.gcd kn m := Nat.gcd_pos_of_pos_right kn hM.1
    have hg2 : Nat.gcd kn m ≤ m := Nat.gcd_le_right kn hM.1
    clear hgi
    generalize Nat.gcd kn m = g at *
    have g0 : ((g : Int) == 0) = false := by rw [beq_eq_false_iff_ne]; omega
    have g0' : ¬ ((g : Int) = 0) := by omega
    have g0'' : ¬ (g = 0) := by omega
    have hq1 : kn / g ≤ kn := Nat.div_le_self _ _
    have hq2 : m / g ≤ m := Nat.div_le_self _ _
    have ht1 : Int.tdiv (kn : Int) (g : Int) = ((kn / g : Nat) : Int) := (Int.ofNat_tdiv _ _).symm
    have hd1 : (kn : Int) / (g : Int) = ((kn / g : Nat) : Int) := (Int.natCast_ediv _ _).symm
    have ht2 : Int.tdiv (m : Int) (g : Int) = ((m / g : Nat) : Int) := (Int.ofNat_tdiv _ _).symm
    have hd2 : (m : Int) / (g : Int) = ((m / g : Nat) : Int) := (Int.natCast_ediv _ _).symm
    generalize kn / g = q1 at *
    generalize m / g = q2 at *
    have hw1 : IntKind.i64.wrap (q1 : Int) = (q1 : Int) := IntWalk.i64_in _ (by omega)
    have hw2 : IntKind.i64.wrap (q2 : Int) = (q2 : Int) := IntWalk.i64_in _ (by omega)
    clear HV0
    go_upto_region 10 with (first
      | (go_at_call 52; ((with_reducible refine (HG.out _).mono ?_); rintro e w5 ⟨rfl, nn, rfl⟩))
      | fail)
    have R5 : Hid ((w4.drewN nn).heap[w.heap.size + 1]? = some (.cells #[.bool false, .int .i64 0, .int .i64 0] 48 (0, 0))) := R4.out
    have B5 : Hid (Below w.heap.size w (w4.drewN nn)) := below_drewN B4.out nn
    generalize w4.drewN nn = w5 at *
    clear r0 r1 r2 rf
    obtain ⟨⟨r0, r1, r2⟩, rf⟩ := three_of_blockD R5.out
    go_region
    have R6 : Hid (((((w5.setCell ⟨w.heap.size + 1, 0, none⟩ (.bool false)).setCell ⟨w.heap.size + 1, 1, none⟩ (.int .i64 (q1 : Int))).setCell ⟨w.heap.size + 1, 2, none⟩ (.int .i64 (q2 : Int))).drew).heap[w.heap.size + 1]? = some (.cells #[.bool false, .int .i64 (q1 : Int), .int .i64 (q2 : Int)] 48 (0, 0))) := three_setV R5.out (.bool false) (.int .i64 (q1 : Int)) (.int .i64 (q2 : Int))
    obtain ⟨⟨s0, s1, s2⟩, sf⟩ := three_of_blockD R6.out
    have HB6 := Lib.hid ((((B5.out.setCell (p := ⟨w.heap.size + 1, 0, none⟩) (by show w.heap.size ≤ w.heap.size + 1; omega) (.bool false)).setCell (p := ⟨w.heap.size + 1, 1, none⟩) (by show w.heap.size ≤ w.heap.size + 1; omega) (.int .i64 (q1 : Int))).setCell (p := ⟨w.heap.size + 1, 2, none⟩) (by show w.heap.size ≤ w.heap.size + 1; omega) (.int .i64 (q2 : Int))).drew)
    go_wp2
    refine bodyPost_ret (v := .tuple #[.agg #[.bool false, .int .i64 (q1 : Int), .int .i64 (q2 : Int)], .int .i64 0]) ?_ rfl ⟨by rw [HV.out], ?_⟩
    · simp [results, Try.results31, go_sem, s0, s1, s2]
    · exact HB6.out
/-- Numerator and denominator. -/
def rouN (k : Int) (m : Nat) : Int := if k = -1 then 0 else ((k.toNat / Nat.gcd k.toNat m : Nat) : Int)
def rouD (k : Int) (m : Nat) : Int := if k = -1 then 0 else ((m / Nat.gcd k.toNat m : Nat) : Int)
theorem rou_eq (k : Int) (m : Nat) : rouV k m = .agg #[.bool (decide (k = -1)), .int .i64 (rouN k m), .int .i64 (rouD k m)] := by
  unfold rouV rouN rouD
  by_cases h : k = -1
  · rw [if_pos h, if_pos h, if_pos h, decide_eq_true h]
  · rw [if_neg h, if_neg h, if_neg h, decide_eq_false h]
set_option maxHeartbeats 1600000 in
set_option maxRecDepth 1000000 in
theorem deven_any (n : Nat) (E : List Int) (A : Option Addr) (c : Nat) (w : World) (n1 : 1 ≤ n) (n2 : (n : Int) ≤ 60) (hE : RdZ w w.heap.size A c E) (hck : ckX n E = 0) :
    Calls Try.prog 22 #[.agg #[.int .i64 (n : Int), .slice A E.length c]] w fun e w' => e = .returned (.tuple #[.bool (decide (rouN ((tbV n E).getD (-1 % (n : Int)).toNat 0) (tbM (gensV n)) = 0)), .int .i64 0]) ∧ Below w.heap.size w w' := by
  have X0 : Hid ((w.alloc (.cells #[.int .i64 (n : Int), .slice A E.length c] 33)).heap[w.heap.size]? = some (.cells #[.int .i64 (n : Int), .slice A E.length c] 33 (0, 0))) := heap_alloc_new w _
  have B0 : Hid (Below w.heap.size w (w.alloc (.cells #[.int .i64 (n : Int), .slice A E.length c] 33))) := below1 w _
  obtain ⟨x0, x1, _⟩ := cells_two X0.out
  have HVa := Lib.hid (dval_any n E (-1) A c (w.alloc (.cells #[.int .i64 (n : Int), .slice A E.length c] 33)) n1 n2 ((hE.below B0.out).mono B0.out.size) hck (by omega) (by omega))
  rw [rou_eq] at HVa
  clear hE hck
  generalize (tbV n E).getD (-1 % (n : Int)).toNat 0 = k at *
  generalize tbM (gensV n) = m at *
  generalize rouN k m = x at *
  generalize rouD k m = y at *
  generalize decide (k = -1) = z at *
  go_enter Try.func22, Try.ntmps22
  go_upto_region 2 with (first
    | (go_at_call 31; ((with_reducible refine HVa.out.mono ?_); rintro e w1 ⟨rfl, hb⟩; have B1 := Lib.hid (B0.out.trans (hb.mono B0.out.size)); clear hb x0 x1))
    | fail)
  have V1 : Hid ((w1.alloc (.cells #[.bool z, .int .i64 x, .int .i64 y] 48)).heap[w1.heap.size]? = some (.cells #[.bool z, .int .i64 x, .int .i64 y] 48 (0, 0))) := heap_alloc_new w1 _
  have B2 : Hid (Below w.heap.size w (w1.alloc (.cells #[.bool z, .int .i64 x, .int .i64 y] 48))) := B1.out.alloc B1.out.size _
  obtain ⟨⟨s0, s1, s2⟩, sf⟩ := three_of_blockD V1.out
  by_cases hx : x = 0
  · have hx2 : (x == 0) = true := by rw [beq_iff_eq]; exact hx
    have HD := Lib.hid (decide_eq_true hx)
    clear hx
    go_wp2
    exact bodyPost_ret (results_tmp2 rfl _ _ _) rfl ⟨by rw [HD.out]; first | rfl | (rw [hx2]; rfl), B2.out⟩
  · have hx2 : (x == 0) = false := by rw [beq_eq_false_iff_ne]; exact hx
    have HD := Lib.hid (decide_eq_false hx)
    clear hx
    go_wp2
    exact bodyPost_ret (results_tmp2 rfl _ _ _) rfl ⟨by rw [HD.out]; first | rfl | (rw [hx2]; rfl), B2.out⟩
set_option maxHeartbeats 1600000 in
set_option maxRecDepth 1000000 in
theorem dcond_any (n C : Nat) (E : List Int) (A : Option Addr) (c : Nat) (w : World) (n1 : 1 ≤ n) (n2 : (n : Int) ≤ 60) (hE : RdZ w w.heap.size A c E) (hck : ckX n E = 0) (C1 : 1 ≤ C) (C2 : (C : Int) ≤ 60) (hC : pdV (tbV n E) C = true) (hl : ∀ f, 1 ≤ f → f < C → pdV (tbV n E) f = false) :
    Calls Try.prog 21 #[.agg #[.int .i64 (n : Int), .slice A E.length c]] w fun e w' => e = .returned (.tuple #[.int .i64 (C : Int), .int .i64 0]) ∧ Below w.heap.size w w' := by
  have HCk := Lib.hid (fun (W : World) (h : RdZ W W.heap.size A c E) => dck_any n E A c W n1 n2 h)
  rw [hck] at HCk
  have HTb := Lib.hid (fun (W : World) (h : RdZ W W.heap.size A c E) => tabr_any n E A c W n1 n2 h hck)
  have X0 : Hid ((w.alloc (.cells #[.int .i64 (n : Int), .slice A E.length c] 33)).heap[w.heap.size]? = some (.cells #[.int .i64 (n : Int), .slice A E.length c] 33 (0, 0))) := heap_alloc_new w _
  have B0 : Hid (Below w.heap.size w (w.alloc (.cells #[.int .i64 (n : Int), .slice A E.length c] 33))) := below1 w _
  have HE0 : Hid (∀ W, Below w.heap.size w W → RdZ W W.heap.size A c E) := fun W hW => (hE.below hW).mono hW.size
  obtain ⟨x0, x1, _⟩ := cells_two X0.out
  have HCd := Lib.hid (fun (m : Int) (A1 : Option Addr) (c1 : Nat) (W : World) h1 h2 h3 => tcond_any (tbV n E) m C A1 c1 W h1 h2 h3 C1 C2 hC hl)
  clear hE hck hC hl
  generalize tbV n E = T at *
  generalize tbM (gensV n) = m at *
  go_enter Try.func21, Try.ntmps21
  go_wp2_with (first
    | (go_at_call 24; ((with_reducible refine (HCk.out _ (HE0.out _ B0.out)).mono ?_); rintro e w1 ⟨rfl, hb⟩; have X1 := Lib.hid (block_below X0.out hb); have B1 := Lib.hid (B0.out.trans (hb.mono B0.out.size)); obtain ⟨y0, y1, _⟩ := cells_two X1.out; clear hb x0 x1))
    | (go_at_call 53; ((with_reducible refine (HTb.out _ (HE0.out _ B1.out)).mono ?_); rintro e w3 ⟨lb, rfl, hr, hl, hbd, hb⟩; have HR := Lib.hid hr; have HL := Lib.hid hl; have B3 := Lib.hid (B1.out.trans (hb.mono B1.out.size)); clear hb hr hl hbd))
    | (go_at_call 54; ((with_reducible refine (HCd.out m _ _ _ HR.out (by rw [HL.out]; exact n1) (by rw [HL.out]; omega)).mono ?_); rintro e w4 ⟨rfl, hb⟩; have B4 := Lib.hid (B3.out.trans (hb.mono B3.out.size)); clear hb))
    | fail)
  exact bodyPost_ret (results_tmp2 rfl _ _ _) rfl ⟨rfl, B4.out⟩
end Go.Proofs.Ytlagljnhbhnelaa
