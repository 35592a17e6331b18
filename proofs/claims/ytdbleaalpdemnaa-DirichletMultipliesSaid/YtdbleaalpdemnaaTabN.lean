/- Tables of characters: the facts that the walk of tableOf needs, an append that keeps the old row, the world within tableOf. -/
import Derived.Test.YtdbleaalpdemnaaTabM
import Derived.Test.YtdbleaalpdemnaaGnH
namespace Go.Proofs.Ytdbleaalpdemnaa
open Go.RowKit
set_option linter.unusedVariables false
set_option linter.unusedSimpArgs false

/-! ### Plain mathematics -/
theorem tbP_len (n v : Nat) (st : Int) (m : Nat) : ∀ j a s, (tbP n v st m j a s).2.length = s.2.length + j
  | 0, _, s => rfl
  | j + 1, a, s => by
    show (tbP n v st m j _ _).2.length = _
    rw [tbP_len n v st m j]
    simp; omega
theorem tbU_len (n v o : Nat) (st : Int) (m : Nat) : ∀ l s, (tbU n v o st m l s).2.length = s.2.length + l.length * (o - 1)
  | [], s => by simp [tbU]
  | a :: l, s => by
    show (tbU n v o st m l _).2.length = _
    rw [tbU_len n v o st m l, tbP_len, List.length_cons, Nat.add_mul]
    omega
def tbC : Nat → List (Nat × Nat) → Nat
  | k, [] => k
  | k, g :: G => tbC (k + k * (g.2 - 1)) G
theorem tbG_len (n m : Nat) : ∀ (G : List (Nat × Nat)) (E : List Int) s, G.length = E.length → (tbG n m G E s).2.length = tbC s.2.length G
  | [], [], s, _ => rfl
  | g :: G, x :: E, s, h => by
    show (tbG n m G E _).2.length = tbC _ G
    rw [tbG_len n m G E _ (by simpa using h), tbU_len]
theorem tbG_le (n m : Nat) : ∀ (G : List (Nat × Nat)) (E : List Int) s, s.2.length ≤ (tbG n m G E s).2.length
  | [], E, s => by unfold tbG; simp
  | g :: G, [], s => by unfold tbG; simp
  | g :: G, x :: E, s => by
    show _ ≤ (tbG n m G E _).2.length
    refine Nat.le_trans ?_ (tbG_le n m G E _)
    rw [tbU_len]; omega
set_option maxRecDepth 100000 in
theorem tbc_all : (List.range 60).all (fun i => decide (tbC 1 (gensV (i + 1)) ≤ 60) && ((List.range 9).all fun k => decide (1 ≤ tbM ((gensV (i + 1)).take k)) && decide (tbM ((gensV (i + 1)).take k) ≤ 60))) = true := by decide +kernel
theorem tbc_le {n : Nat} (n1 : 1 ≤ n) (n2 : n ≤ 60) : tbC 1 (gensV n) ≤ 60 ∧ ∀ k, k ≤ (gensV n).length → 1 ≤ tbM ((gensV n).take k) ∧ tbM ((gensV n).take k) ≤ 60 := by
  have h := List.all_eq_true.1 tbc_all (n - 1) (List.mem_range.2 (by omega))
  rw [show n - 1 + 1 = n by omega] at h
  simp only [Bool.and_eq_true, decide_eq_true_eq, List.all_eq_true] at h
  exact ⟨h.1, fun k hk => h.2 k (List.mem_range.2 (by have := (gens_facts n1 n2).len; omega))⟩
theorem tbM_step (G : List (Nat × Nat)) (k : Nat) (h : k < G.length) : tbM (G.take (k + 1)) = Nat.lcm (tbM (G.take k)) G[k].2 := by
  unfold tbM
  rw [List.take_add_one, List.getElem?_eq_getElem h, Option.toList_some, List.foldl_append]; rfl
theorem tbG_step (n m : Nat) (G : List (Nat × Nat)) (E : List Int) (k : Nat) (s) (h : k < G.length) (h2 : k < E.length) : tbG n m (G.drop k) (E.drop k) s = tbG n m (G.drop (k + 1)) (E.drop (k + 1)) (tbU n G[k].1 G[k].2 (E[k] * ((m / G[k].2 : Nat) : Int)) m s.2 s) := by
  rw [List.drop_eq_getElem_cons h, List.drop_eq_getElem_cons h2]; rfl
theorem tbU_step (n v o : Nat) (st : Int) (m : Nat) (U : List Nat) (i : Nat) (s) (h : i < U.length) : tbU n v o st m (U.drop i) s = tbU n v o st m (U.drop (i + 1)) (tbP n v st m (o - 1) U[i] s) := by
  rw [List.drop_eq_getElem_cons h]; rfl
theorem tbP_step (n v : Nat) (st : Int) (m o j a : Nat) (s) (h : j < o - 1) : tbP n v st m (o - 1 - j) a s = tbP n v st m (o - 1 - (j + 1)) (a * v % n) (s.1.set (a * v % n) ((s.1.getD a 0 + st) % (m : Int)), s.2 ++ [a * v % n]) := by
  rw [show o - 1 - j = (o - 1 - (j + 1)) + 1 by omega]; rfl
/-- The logarithms of the units so far. -/
structure TbI (n m : Nat) (T : List Int) (U : List Nat) : Prop where
  len : T.length = n
  un : ∀ u ∈ U, u < n ∧ 0 ≤ T.getD u 0 ∧ T.getD u 0 < (m : Int)
  bd : ∀ j, -1 ≤ T.getD j 0 ∧ T.getD j 0 < (m : Int)
theorem getD_setI (T : List Int) (i j : Nat) (y : Int) (h : i < T.length) : (T.set i y).getD j 0 = if j = i then y else T.getD j 0 := by
  rw [List.getD_eq_getElem?_getD, List.getD_eq_getElem?_getD, List.getElem?_set]
  by_cases e : j = i
  · subst e; simp [h]
  · rw [if_neg (fun k => e k.symm), if_neg e]
theorem TbI.step {n m : Nat} {T : List Int} {U : List Nat} {b : Nat} {y : Int} (h : TbI n m T U) (hb : b < n) (y0 : 0 ≤ y) (y1 : y < (m : Int)) : TbI n m (T.set b y) (U ++ [b]) := by
  have hl := h.len
  refine ⟨by simp [hl], fun u hu => ?_, fun j => by
    rw [getD_setI T b j y (by omega)]
    split
    · omega
    · exact h.bd j⟩
  rw [getD_setI T b u y (by omega)]
  by_cases e : u = b
  · subst e; rw [if_pos rfl]; exact ⟨hb, y0, y1⟩
  · rw [if_neg e]
    rcases List.mem_append.1 hu with hu | hu
    · exact h.un u hu
    · exact absurd (List.mem_singleton.1 hu) e
theorem tbI_start {n m : Nat} (n1 : 1 ≤ n) (m1 : 1 ≤ m) : TbI n m ((List.replicate n (-1)).set (1 % n) 0) [1 % n] := by
  have hb : 1 % n < n := Nat.mod_lt _ n1
  refine ⟨by simp, fun u hu => ?_, fun j => by
    rw [getD_setI _ _ _ _ (by simpa using hb), List.getD_eq_getElem?_getD, List.getElem?_replicate]
    split
    · omega
    · split <;> simp <;> omega⟩
  rw [List.mem_singleton.1 hu, getD_setI _ _ _ _ (by simpa using hb), if_pos rfl]
  exact ⟨hb, by omega, by omega⟩

/-! ### An append to an own row of integers -/
def ni (U : List Nat) : List Int := U.map fun (x : Nat) => (x : Int)
theorem ni_len (U : List Nat) : (ni U).length = U.length := by simp [ni]
theorem ni_push (U : List Nat) (x : Nat) : zs (ni (U ++ [x])) = zs (ni U) ++ [.int .i64 (x : Int)] := by simp [ni, zs]
theorem ni_get (U : List Nat) (k : Nat) (h : k < U.length) : (zs (ni U))[k]? = some (.int .i64 (U[k] : Int)) := by simp [ni, zs, h]
theorem app_snap {ops : Array Oper} {rest : List Oper} {o : Oper} {a : Act} {Q : Exit → Act → World → Prop} (w : World) (hgd : o.guard = none) (s x : Operand)
    (ho : o.op = .call { callee := .builtin .append, args := #[s, x], argTypes := #[23, 23] }) (base : Nat) (v : Value) (n : Nat) (xs : List Value)
    (hs : a.eval s = v) (hown : w.ownsRow base 3 1 v n xs) (b : Nat) (y : Value) (hx : a.eval x = .slice (some ⟨b, 0, none⟩) 1 1) (hb : ∀ j u, [y][j]? = some u → w.cell? ((⟨b, 0, none⟩ : Addr).add j) = some u) (h1 : y.oneCell' = true) (hn : n ≤ 1000) (hbase : base ≤ w.heap.size)
    (h : ∀ g cap w', w'.ownsRow base 3 1 (.slice (some ⟨g, 0, none⟩) (n + 1) cap) (n + 1) (xs ++ [y]) → w.grownBy w' v.ownBlock → (v.ownBlock = some g ∨ (g = w.heap.size ∧ ∀ k, k < w.heap.size → w'.heap[k]? = w.heap[k]?)) → wpList Try.prog ops Q rest (a.put o.dst (.slice (some ⟨g, 0, none⟩) (n + 1) cap)) w') :
    wpList Try.prog ops Q (o :: rest) a w := by
  obtain ⟨i0, hi, z0, z1, z2⟩ := info_parts Try.infoInt
  have hm : n + 1 ≤ maxLen := by unfold maxLen; omega
  obtain ⟨v', w', hr, h2, h3, -, h5⟩ := run_append_own_at (P := Try.prog) w base 23 o.type 3 i0 (.int .i64 0) 1 8 Try.underlying23 hi z0 z1 z2 rfl (by decide) v n xs hown ⟨b, 0, none⟩ 1 1 [y] rfl hb (fun u hu => by rw [List.mem_singleton.1 hu]; exact h1) hm (by omega) hbase
  obtain ⟨g, cap, rfl, hg0, hg1⟩ := h2.form (by omega)
  have hat : v.ownBlock = some g ∨ (g = w.heap.size ∧ ∀ k, k < w.heap.size → w'.heap[k]? = w.heap[k]?) := by
    have hnil : 8 * (n + 1) ≤ 281474976710656 := by omega
    rcases hown.2 with ⟨rfl, rfl⟩ | ⟨g', c', cur, rfl, k1, k2, k3, k4, k5, k6⟩
    · right
      have hx0 : xs = [] := List.eq_nil_of_length_eq_zero (by simpa using hown.1)
      have hq := run_append_nil (P := Try.prog) w 23 o.type 3 i0 (.int .i64 0) Try.underlying23 hi z0 ⟨b, 0, none⟩ 1 1 [y] (by rw [z1]; rfl) hb (by omega) (by omega) (by rw [z2]; omega)
      have he := hr.symm.trans hq
      injection he with e1 e2
      injection e1 with e1
      injection e1 with e1
      injection e1 with e1
      refine ⟨e1, fun k hk => ?_⟩
      rw [e2]
      exact heap_alloc_old w.drew _ hk
    · by_cases hroom : n + 1 ≤ c'
      · left
        have hfit : n * i0.size + [y].length ≤ cur.size := by rw [z1, k5]; simp; omega
        have hq := run_append_room (P := Try.prog) w 23 o.type 3 i0 Try.underlying23 hi g' n c' cur k2 ⟨b, 0, none⟩ 1 1 [y] (by rw [z1]; rfl) hb (fun u hu => by rw [List.mem_singleton.1 hu]; exact h1) hroom hfit
        have he := hr.symm.trans hq
        generalize (w.setRow g' _) = w9 at he
        simp only [Result.ok.injEq, Value.slice.injEq, Option.some.injEq, Addr.mk.injEq] at he
        have e1 := he.1.1.1
        simp [Value.ownBlock, e1]
      · right
        have hq := run_append_grow (P := Try.prog) w 23 o.type 3 i0 (.int .i64 0) Try.underlying23 hi z0 ⟨g', 0, none⟩ n c' xs (by rw [z1]; exact hown.1) (hown.cells (g := g') rfl) ⟨b, 0, none⟩ 1 1 [y] (by rw [z1]; rfl) hb (by omega) (by unfold maxLen at hm; omega) (by rw [z2]; exact growslice_fits (by omega) (by omega))
        have he := hr.symm.trans hq
        injection he with e1 e2
        injection e1 with e1
        injection e1 with e1
        injection e1 with e1
        refine ⟨e1, fun k hk => ?_⟩
        rw [e2]
        exact heap_alloc_old w.drew _ hk
  refine wpList_plain hgd fun K hK => ?_
  unfold Oper.wp execOp
  simp only [ho, resolve, invoke, builtin, Sem.run_bind, Sem.run_pure, Result.andThen_ok, List.map_toArray, List.map_cons, List.map_nil, hs, hx, hr]
  exact hK _ _ (h g cap w' h2 h3 hat)

/-! ### The world within tableOf -/
structure TV (B C lb : Nat) (w0 wC : World) (n : Nat) (T : List Int) (v : Value) (U : List Nat) (w : World) : Prop where
  lc : lb < C
  lB : B ≤ lb
  row : w.rowIs lb 3 n (fun j => .int .i64 (T.getD j 0))
  own : w.ownsRow C 3 1 v U.length (zs (ni U))
  keep : ∀ j, j < C → j ≠ lb → w.heap[j]? = wC.heap[j]?
  below : Below B w0 w
  size : C ≤ w.heap.size
section
variable {B C lb : Nat} {w0 wC w w1 : World} {n : Nat} {T : List Int} {v v' : Value} {U : List Nat}
theorem TV.on (h : TV B C lb w0 wC n T v U w) (hb : Below w.heap.size w w1) : TV B C lb w0 wC n T v U w1 :=
  ⟨h.lc, h.lB, h.row.of_block (hb.block lb h.row.lt), own_below h.own hb, fun j hj hn => (hb.block j (by have := h.size; omega)).trans (h.keep j hj hn), h.below.trans (hb.mono (by have h1 := h.lc; have h2 := h.lB; have h3 := h.size; omega)), Nat.le_trans h.size hb.size⟩
theorem TV.drew (h : TV B C lb w0 wC n T v U w) : TV B C lb w0 wC n T v U w.drew := h.on (Below.refl _ _).drew
theorem TV.set (h : TV B C lb w0 wC n T v U w) (x : Nat) (y : Int) (hx : x < T.length) : TV B C lb w0 wC n (T.set x y) v U (w.setCell ⟨lb, x, none⟩ (.int .i64 y)) :=
  ⟨h.lc, h.lB, World.rowIs.congr (h.row.set x _) fun j _ => (by rw [getD_setI T x j y hx]; by_cases e : j = x <;> simp [e]), own_set h.own h.lc _, fun j hj hn => (Below.heap_setCell w ⟨lb, x, none⟩ _ j hn).trans (h.keep j hj hn), h.below.setCell h.lB _, by simpa using h.size⟩
theorem TV.ne (h : TV B C lb w0 wC n T v U w) {j : Nat} (hj : j < C) : some j ≠ v.ownBlock := fun e => by have := (h.own.lt j e.symm).1; omega
theorem TV.push (h : TV B C lb w0 wC n T v U w) {p : Nat} {o : Obj} (hown : w1.ownsRow C 3 1 v' (U.length + 1) (zs (ni U) ++ [.int .i64 (p : Int)])) (hg : (w.alloc o).grownBy w1 v.ownBlock) : TV B C lb w0 wC n T v' (U ++ [p]) w1 := by
  have hs := h.size
  have hat : ∀ j, j < C → w1.heap[j]? = w.heap[j]? := fun j hj => by
    rw [hg.block j (by simp; omega) (h.ne hj), Below.heap_alloc _ _ _ (by omega)]
  refine ⟨h.lc, h.lB, h.row.of_block (hat lb h.lc), by rw [List.length_append, ni_push]; exact hown, fun j hj hn => (hat j hj).trans (h.keep j hj hn), ?_, by have := hg.size; simp at this; omega⟩
  exact (h.below.alloc (by have h1 := h.lc; have h2 := h.lB; omega) o).grown hg (by have h1 := h.lc; have h2 := h.lB; simp; omega) fun j hj => by have h1 := h.lc; have h2 := h.lB; have := (h.own.lt j hj).1; omega
/-- What the list was when the inner loop began can still be read. -/
structure SN (C g0 : Nat) (U0 U : List Nat) (w : World) : Prop where
  lo : C ≤ g0
  hi : g0 < w.heap.size
  cel : ∀ i (h : i < U0.length), w.cell? ⟨g0, i, none⟩ = some (.int .i64 (U0[i] : Int))
  pre : ∃ R, U = U0 ++ R
variable {g0 : Nat} {U0 : List Nat}
theorem SN.on (h : SN C g0 U0 U w) (hb : Below w.heap.size w w1) : SN C g0 U0 U w1 := ⟨h.lo, Nat.lt_of_lt_of_le h.hi hb.size, fun i hi => (hb.cell (p := ⟨g0, i, none⟩) h.hi).trans (h.cel i hi), h.pre⟩
theorem SN.drew (h : SN C g0 U0 U w) : SN C g0 U0 U w.drew := h.on (Below.refl _ _).drew
theorem SN.set (h : SN C g0 U0 U w) (hl : lb < C) (x : Nat) (y : Value) : SN C g0 U0 U (w.setCell ⟨lb, x, none⟩ y) :=
  ⟨h.lo, by simpa using h.hi, fun i hi => (World.cell?_of_block (Below.heap_setCell w ⟨lb, x, none⟩ y g0 (by have := h.lo; show g0 ≠ lb; omega))).trans (h.cel i hi), h.pre⟩
theorem SN.push (h : SN C g0 U0 U w) {p g cap : Nat} {o : Obj} (hown : w1.ownsRow C 3 1 (.slice (some ⟨g, 0, none⟩) (U.length + 1) cap) (U.length + 1) (zs (ni U) ++ [.int .i64 (p : Int)])) (hg : (w.alloc o).grownBy w1 v.ownBlock)
    (hat : v.ownBlock = some g ∨ (g = (w.alloc o).heap.size ∧ ∀ k, k < (w.alloc o).heap.size → w1.heap[k]? = (w.alloc o).heap[k]?)) : SN C g0 U0 (U ++ [p]) w1 := by
  have hh := h.hi
  have hsz : (w.alloc o).heap.size = w.heap.size + 1 := by simp
  obtain ⟨R, hR⟩ := h.pre
  have hold : (w.alloc o).heap[g0]? = w.heap[g0]? := Below.heap_alloc _ _ _ hh
  refine ⟨h.lo, by have := hg.size; omega, fun i hi => ?_, ⟨R ++ [p], by rw [hR, List.append_assoc]⟩⟩
  by_cases e : v.ownBlock = some g0
  · rcases hat with k | ⟨k1, k2⟩
    · have e2 : g = g0 := by rw [k] at e; simpa using e
      subst e2
      have h9 := hown.cells (g := g) rfl i (.int .i64 (U0[i] : Int)) (by
        rw [List.getElem?_append_left (by rw [zs_length, ni_len, hR]; simp; omega), ni_get U i (by rw [hR]; simp; omega)]
        simp [hR, List.getElem_append_left hi])
      have hadd : (⟨g, 0, none⟩ : Addr).add i = ⟨g, i, none⟩ := by unfold Addr.add; split <;> simp_all
      rw [hadd] at h9
      exact h9
    · exact (World.cell?_of_block ((k2 g0 (by omega)).trans hold)).trans (h.cel i hi)
  · exact (World.cell?_of_block ((hg.block g0 (by omega) (fun k => e k.symm)).trans hold)).trans (h.cel i hi)
theorem TV.snap {g cap : Nat} (h : TV B C lb w0 wC n T (.slice (some ⟨g, 0, none⟩) U.length cap) U w) : SN C g U U w := by
  have hl := h.own.lt g rfl
  refine ⟨hl.1, hl.2, fun i hi => ?_, ⟨[], by simp⟩⟩
  have h9 := h.own.cells (g := g) rfl i _ (ni_get U i hi)
  have hadd : (⟨g, 0, none⟩ : Addr).add i = ⟨g, i, none⟩ := by unfold Addr.add; split <;> simp_all
  rw [hadd] at h9
  exact h9
/-- A box of another type above C stays. -/
theorem TV.box {g : Nat} {cs : Array Value} {t : TypeId} (h : TV B C lb w0 wC n T v U w) (ht : t ≠ 3) (hb : w.heap[g]? = some (.cells cs t (0, 0))) {o : Obj} (hg : (w.alloc o).grownBy w1 v.ownBlock) : w1.heap[g]? = some (.cells cs t (0, 0)) :=
  (hg.block g (by have := lt_of_block hb; simp; omega) (own_type h.own ht hb)).trans (block_alloc hb o)
end
end Go.Proofs.Ytdbleaalpdemnaa
