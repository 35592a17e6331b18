/- Plain mathematics: the action based at another point is an action, with the same Euler characteristic. -/
import Derived.Test.YtpooncdaajcmkaaEulN
namespace Go.Proofs.Ytpooncdaajcmkaa
set_option linter.unusedVariables false

section
variable {g f : Nat → Nat} {n i : Nat}
theorem bst_sub : ∀ m k, k ≤ m → ∀ x ∈ bst g f i k, x ∈ bst g f i m
  | 0, k, h, x, hx => by rw [show k = 0 by omega] at hx; exact hx
  | m + 1, k, h, x, hx => by
    rcases Nat.lt_or_ge m k with h1 | h1
    · rw [show k = m + 1 by omega] at hx; exact hx
    · have ih := bst_sub m k h1 x hx
      unfold bst; split
      · exact vis_mem.2 (.inl (vis_mem.2 (.inl ih)))
      · exact ih
theorem bst_get : ∀ m k, k ≤ m → ∀ q, q < (bst g f i k).length → (bst g f i m).getD q 0 = (bst g f i k).getD q 0 ∧ q < (bst g f i m).length
  | 0, k, h, q, hq => by rw [show k = 0 by omega] at hq ⊢; exact ⟨rfl, hq⟩
  | m + 1, k, h, q, hq => by
    rcases Nat.lt_or_ge m k with h1 | h1
    · rw [show k = m + 1 by omega] at hq ⊢; exact ⟨rfl, hq⟩
    · obtain ⟨a, b⟩ := bst_get m k h1 q hq
      by_cases hl : m < (bst g f i m).length
      · rw [bst_step hl]
        have l1 := vis_len (bst g f i m) (g ((bst g f i m).getD m 0))
        have l2 := vis_len (vis (bst g f i m) (g ((bst g f i m).getD m 0))) (f ((bst g f i m).getD m 0))
        rw [vis_get (by omega), vis_get b]
        exact ⟨a, by omega⟩
      · have e : bst g f i (m + 1) = bst g f i m := if_neg hl
        rw [e]; exact ⟨a, b⟩
theorem bst_closed (hg : Prm g n) (hf : Prm f n) (hi : i < n) {x : Nat} (hx : x ∈ bst g f i n) : g x ∈ bst g f i n ∧ f x ∈ bst g f i n := by
  obtain ⟨q, hq, rfl⟩ := List.mem_iff_getElem.1 hx
  have hle := bst_le hg hf hi n
  have hqq : q < (bst g f i q).length := by
    rcases Nat.lt_or_ge q (bst g f i q).length with h | h
    · exact h
    · have := bst_stay h n (by omega)
      rw [this] at hq
      omega
  obtain ⟨e, _⟩ := bst_get (g := g) (f := f) (i := i) n q (by omega) q hqq
  have e2 : (bst g f i n)[q] = (bst g f i q).getD q 0 := by
    rw [← e, List.getD_eq_getElem?_getD, List.getElem?_eq_getElem hq]; rfl
  rw [e2]
  have hs := bst_step hqq
  constructor
  · refine bst_sub n (q + 1) (by omega) _ ?_
    rw [hs]
    exact vis_mem.2 (.inl (vis_mem.2 (.inr rfl)))
  · refine bst_sub n (q + 1) (by omega) _ ?_
    rw [hs]
    exact vis_mem.2 (.inr rfl)
theorem back_in {F : Nat → Nat} {C : Nat → Prop} (hF : Prm F n) (hc : ∀ x, C x → C (F x)) {x : Nat} (hx : x < n) (h : C (F x)) : C x := by
  obtain ⟨c, _, hp⟩ := per_ex hF hx
  have h1 : ∀ k, C (itr F k (F x)) := fun k => by
    induction k with
    | zero => exact h
    | succ k ih => exact hc _ ih
  have h2 := itr_add F x 1 (c - 1)
  rw [show 1 + (c - 1) = c by have := hp.pos; omega, hp.back] at h2
  rw [h2]; exact h1 (c - 1)
theorem bst_in (h : PAct g f n) (hi : i < n) (x : Nat) (hx : x < n) : x ∈ bst g f i n := by
  have hcl := fun x (hx : x ∈ bst g f i n) => bst_closed h.gp h.fp hi hx
  have hi0 : i ∈ bst g f i n := bst_sub n 0 (Nat.zero_le _) i (by simp [bst])
  by_cases h0 : 0 ∈ bst g f i n
  · exact h.full (fun x => x ∈ bst g f i n) h0 (fun x _ hq => (hcl x hq).1) (fun x _ hq => (hcl x hq).2) x hx
  · have := h.full (fun x => x < n → x ∉ bst g f i n) (fun _ => h0) (fun x hx hq _ hm => hq hx (back_in (C := fun x => x ∈ bst g f i n) h.gp (fun x hx => (hcl x hx).1) hx hm)) (fun x hx hq _ hm => hq hx (back_in (C := fun x => x ∈ bst g f i n) h.fp (fun x hx => (hcl x hx).2) hx hm)) i hi hi
    exact absurd hi0 this
theorem bst_full (h : PAct g f n) (hi : i < n) : (bst g f i n).length = n := by
  refine Nat.le_antisymm (bst_le h.gp h.fp hi n) ?_
  have := List.Nodup.length_le_of_subset (l₁ := List.range n) (l₂ := bst g f i n) List.nodup_range fun x hx => bst_in h hi x (List.mem_range.1 hx)
  simpa using this
theorem bst_alli (hg : Prm g n) (hf : Prm f n) (hi : i < n) {Q : Nat → Prop} (q0 : Q i) (qg : ∀ x, x < n → Q x → Q (g x)) (qf : ∀ x, x < n → Q x → Q (f x)) : ∀ k, ∀ x ∈ bst g f i k, Q x
  | 0, x, h => by simp [bst] at h; rw [h]; exact q0
  | k + 1, x, h => by
    unfold bst at h; split at h
    · rename_i hk
      have h1 := bst_lt hg hf hi k _ (getD_mem hk)
      have h2 := bst_alli hg hf hi q0 qg qf k _ (getD_mem hk)
      rcases vis_mem.1 h with h | rfl
      · rcases vis_mem.1 h with h | rfl
        · exact bst_alli hg hf hi q0 qg qf k x h
        · exact qg _ h1 h2
      · exact qf _ h1 h2
    · exact bst_alli hg hf hi q0 qg qf k x h
/-- The points in the order of the search, and their places. -/
def ordO (g f : Nat → Nat) (n i k : Nat) : Nat := (bst g f i n).getD k 0
def plcO (g f : Nat → Nat) (n i : Nat) : Nat → Nat := plN (ordO g f n i) n
theorem ord_lt (h : PAct g f n) (hi : i < n) (k : Nat) (hk : k < n) : ordO g f n i k < n := bst_lt h.gp h.fp hi n _ (getD_mem (by rw [bst_full h hi]; exact hk))
theorem ord_inj (h : PAct g f n) (hi : i < n) (j k : Nat) (hj : j < n) (hk : k < n) (e : ordO g f n i j = ordO g f n i k) : j = k := by
  have hl := bst_full h hi
  have hd := bst_nodup g f i n
  unfold ordO at e
  rw [List.getD_eq_getElem?_getD, List.getD_eq_getElem?_getD, List.getElem?_eq_getElem (by omega), List.getElem?_eq_getElem (by omega)] at e
  have hpw := List.pairwise_iff_getElem.1 hd
  have e' : (bst g f i n)[j]'(by omega) = (bst g f i n)[k]'(by omega) := e
  rcases Nat.lt_trichotomy j k with h1 | h1 | h1
  · exact absurd e' (hpw j k (by omega) (by omega) h1)
  · exact h1
  · exact absurd e'.symm (hpw k j (by omega) (by omega) h1)
theorem plN_at {o : Nat → Nat} (hinj : ∀ j k, j < n → k < n → o j = o k → j = k) : ∀ m, m ≤ n → ∀ k, k < m → plN o m (o k) = k
  | 0, _, k, h => by omega
  | m + 1, hm, k, h => by
    show (if o k = o m then m else plN o m (o k)) = k
    by_cases e : o k = o m
    · rw [if_pos e]; exact (hinj k m (by omega) (by omega) e).symm
    · rw [if_neg e]
      refine plN_at hinj m (by omega) k ?_
      rcases Nat.lt_or_ge k m with h1 | h1
      · exact h1
      · exact absurd (by rw [show k = m by omega]) e
theorem plc_ord (h : PAct g f n) (hi : i < n) (k : Nat) (hk : k < n) : plcO g f n i (ordO g f n i k) = k := plN_at (ord_inj h hi) n (Nat.le_refl n) k hk
theorem ord_ex (h : PAct g f n) (hi : i < n) (x : Nat) (hx : x < n) : ∃ k, k < n ∧ ordO g f n i k = x := by
  obtain ⟨q, hq, e⟩ := List.mem_iff_getElem.1 (bst_in h hi x hx)
  have hl := bst_full h hi
  refine ⟨q, by omega, ?_⟩
  unfold ordO
  rw [List.getD_eq_getElem?_getD, List.getElem?_eq_getElem hq, ← e]; rfl
theorem plc_prm (h : PAct g f n) (hi : i < n) : Prm (plcO g f n i) n := by
  refine ⟨fun x hx => ?_, fun x y hx hy e => ?_⟩
  · obtain ⟨k, hk, rfl⟩ := ord_ex h hi x hx
    rw [plc_ord h hi k hk]; exact hk
  · obtain ⟨k, hk, rfl⟩ := ord_ex h hi x hx
    obtain ⟨j, hj, rfl⟩ := ord_ex h hi y hy
    rw [plc_ord h hi k hk, plc_ord h hi j hj] at e
    rw [e]
theorem ord_plc (h : PAct g f n) (hi : i < n) (x : Nat) (hx : x < n) : ordO g f n i (plcO g f n i x) = x := by
  obtain ⟨k, hk, rfl⟩ := ord_ex h hi x hx
  rw [plc_ord h hi k hk]
theorem plc_base (h : PAct g f n) (hi : i < n) : plcO g f n i i = 0 := by
  have e : ordO g f n i 0 = i := by
    obtain ⟨e, _⟩ := bst_get (g := g) (f := f) (i := i) n 0 (Nat.zero_le _) 0 (by simp [bst])
    unfold ordO; rw [e]; simp [bst]
  have := plc_ord h hi 0 h.pos
  rwa [e] at this
/-- The lists of the action based at i. -/
def bS (g f : Nat → Nat) (n i : Nat) : List Nat := (List.range n).map fun k => plcO g f n i (g (ordO g f n i k))
def bT (g f : Nat → Nat) (n i : Nat) : List Nat := (List.range n).map fun k => plcO g f n i (f (ordO g f n i k))
theorem fnz_map {F : Nat → Nat} {k : Nat} (hk : k < n) : fnz (iz ((List.range n).map F)) k = F k := by
  unfold fnz iz
  simp [List.getD, hk]
theorem bS_pl (h : PAct g f n) (hi : i < n) (x : Nat) (hx : x < n) : fnz (iz (bS g f n i)) (plcO g f n i x) = plcO g f n i (g x) := by
  unfold bS
  rw [fnz_map ((plc_prm h hi).lt x hx), ord_plc h hi x hx]
theorem bT_pl (h : PAct g f n) (hi : i < n) (x : Nat) (hx : x < n) : fnz (iz (bT g f n i)) (plcO g f n i x) = plcO g f n i (f x) := by
  unfold bT
  rw [fnz_map ((plc_prm h hi).lt x hx), ord_plc h hi x hx]
theorem plc_onto (h : PAct g f n) (hi : i < n) (j : Nat) (hj : j < n) : ∃ x, x < n ∧ plcO g f n i x = j := ⟨_, ord_lt h hi j hj, plc_ord h hi j hj⟩
theorem cj_prm {p G F : Nat → Nat} (hp : Prm p n) (op : ∀ j, j < n → ∃ x, x < n ∧ p x = j) (hF : Prm F n) (e : ∀ x, x < n → G (p x) = p (F x)) : Prm G n := by
  refine ⟨fun j hj => ?_, fun j k hj hk he => ?_⟩
  · obtain ⟨x, hx, rfl⟩ := op j hj
    rw [e x hx]; exact hp.lt _ (hF.lt x hx)
  · obtain ⟨x, hx, rfl⟩ := op j hj
    obtain ⟨y, hy, rfl⟩ := op k hk
    rw [e x hx, e y hy] at he
    rw [hF.inj x y hx hy (hp.inj _ _ (hF.lt x hx) (hF.lt y hy) he)]
theorem base_pact (h : PAct g f n) (hi : i < n) : PAct (fnz (iz (bS g f n i))) (fnz (iz (bT g f n i))) n := by
  have hp := plc_prm h hi
  have op := plc_onto h hi
  have eg := bS_pl h hi
  have ef := bT_pl h hi
  have gl := fun x (hx : x < n) => h.gp.lt x hx
  have fl := fun x (hx : x < n) => h.fp.lt x hx
  refine ⟨cj_prm hp op h.gp eg, cj_prm hp op h.fp ef, h.pos, fun j hj => ?_, fun j hj => rfl, fun j hj => ?_, fun Q q0 qg qf x hx => ?_⟩
  · obtain ⟨x, hx, rfl⟩ := op j hj
    rw [eg x hx, eg _ (gl x hx), eg _ (gl _ (gl x hx)), eg _ (gl _ (gl _ (gl x hx))), h.zz x hx]
  · obtain ⟨x, hx, rfl⟩ := op j hj
    rw [eg x hx, eg _ (gl x hx), ef _ (gl _ (gl x hx)), ef x hx, eg _ (fl x hx), eg _ (gl _ (fl x hx)), h.fc x hx]
  · obtain ⟨y, hy, rfl⟩ := op x hx
    refine bst_alli h.gp h.fp hi (Q := fun y => Q (plcO g f n i y)) (by show Q (plcO g f n i i); rw [plc_base h hi]; exact q0) (fun y hy hq => ?_) (fun y hy hq => ?_) n y (bst_in h hi y hy)
    · show Q (plcO g f n i (g y)); rw [← eg y hy]; exact qg _ (hp.lt y hy) hq
    · show Q (plcO g f n i (f y)); rw [← ef y hy]; exact qf _ (hp.lt y hy) hq
theorem base_eul (h : PAct g f n) (hi : i < n) : eulZ (fnz (iz (bS g f n i))) (fnz (iz (bT g f n i))) n = eulZ g f n :=
  (h.conj (base_pact h hi) (plc_prm h hi) (plc_onto h hi) (bS_pl h hi) (bT_pl h hi)).symm
theorem okP_of {F : Nat → Nat} (hF : Prm F n) : okP (iz ((List.range n).map F)) := by
  refine ⟨fun x hx => ?_, ?_⟩
  · unfold iz at hx ⊢
    obtain ⟨y, hy, rfl⟩ := List.mem_map.1 hx
    obtain ⟨k, hk, rfl⟩ := List.mem_map.1 hy
    have := hF.lt k (List.mem_range.1 hk)
    simp
    exact this
  · unfold iz
    rw [List.map_map]
    have h1 : ((List.range n).map F).Nodup := nodup_map_on List.nodup_range fun x hx y hy e => hF.inj x y (List.mem_range.1 hx) (List.mem_range.1 hy) e
    rw [← List.map_map]
    refine List.pairwise_map.2 (h1.imp fun {a b} hne e => hne (by omega))
end
theorem base_act {S T : List Int} (h : Act2 S T) {i : Nat} (hi : i < S.length) : Act2 (iz (bS (fnz S) (fnz T) S.length i)) (iz (bT (fnz S) (fnz T) S.length i)) := by
  have hP := pact_of h
  have hB := base_pact hP hi
  have l1 : (iz (bS (fnz S) (fnz T) S.length i)).length = S.length := by rw [iz_len]; unfold bS; simp
  have l2 : (iz (bT (fnz S) (fnz T) S.length i)).length = S.length := by rw [iz_len]; unfold bT; simp
  have op := plc_onto hP hi
  have eg := bS_pl hP hi
  have ef := bT_pl hP hi
  have gl := fun x (hx : x < S.length) => h.ps.lt x hx
  have fl := fun x (hx : x < S.length) => h.pt.lt x hx
  have hp := plc_prm hP hi
  refine ⟨by rw [l1]; exact h.pos, by rw [l1]; exact h.le, by rw [l1, l2], okP_of ?_, okP_of ?_, ?_, ?_⟩
  · exact ⟨fun k hk => hp.lt _ (gl _ (ord_lt hP hi k hk)), fun j k hj hk e => ord_inj hP hi j k hj hk (h.ps.inj _ _ (ord_lt hP hi j hj) (ord_lt hP hi k hk) (hp.inj _ _ (gl _ (ord_lt hP hi j hj)) (gl _ (ord_lt hP hi k hk)) e))⟩
  · exact ⟨fun k hk => hp.lt _ (fl _ (ord_lt hP hi k hk)), fun j k hj hk e => ord_inj hP hi j k hj hk (h.pt.inj _ _ (ord_lt hP hi j hj) (ord_lt hP hi k hk) (hp.inj _ _ (fl _ (ord_lt hP hi j hj)) (fl _ (ord_lt hP hi k hk)) e))⟩
  · rw [l1]
    intro j hj
    obtain ⟨x, hx, rfl⟩ := op j hj
    have hr := h.rel x hx
    refine ⟨hB.zz _ (hp.lt x hx), ?_⟩
    rw [eg x hx, ef _ (gl x hx), eg _ (fl _ (gl x hx)), ef _ (gl _ (fl _ (gl x hx))), eg _ (fl _ (gl _ (fl _ (gl x hx)))), ef _ (gl _ (fl _ (gl _ (fl _ (gl x hx))))), eg _ (gl x hx), hr.2]
  · rw [l1]; exact bst_full hB hB.pos
end Go.Proofs.Ytpooncdaajcmkaa
