/- The reference's Minus. The reference's Line and Number. The reference's Projective: the same lists as the code's. -/
import Derived.Test.YtdgfdbifeopiaaaAcM
import Derived.Test.YtdgfdbifeopiaaaProL
import Derived.Deep.QuietTactic
import Derived.Deep.DeepCutAuto
import Derived.Deep.CutBlock
import Derived.Laws.MakeOwn
import Derived.Deep.RegionHeld3
import Derived.IntWalk
import Derived.Deep.AppendLies
namespace Go.Proofs.Ytdgfdbifeopiaaa
open Go.RowKit
set_option linter.unusedVariables false
set_option linter.unusedSimpArgs false

end Go.Proofs.Ytdgfdbifeopiaaa
namespace Go.Proofs.Ytdgfdbifeopiaaa
open Go.RowKit
set_option linter.unusedVariables false
set_option linter.unusedSimpArgs false

/-- The first loop's world: a row of numbers at rb, the least points, the boxes. -/
structure NW (w wr : World) (rb : Nat) (xs ys : Array Value) (n : Nat) (N : Nat → Nat) (v : Value) (L : List Nat) : Prop where
  row : wr.rowIs rb 3 n (fun j => .int .i64 (N j : Nat))
  own : wr.ownsRow w.heap.size 3 1 v L.length (zs (iz L))
  x : wr.heap[w.heap.size]? = some (.cells xs 25 (0, 0))
  r : wr.heap[w.heap.size + 1]? = some (.cells ys 25 (0, 0))
  bel : Below w.heap.size w wr
  ne : some rb ≠ v.ownBlock
  ge : w.heap.size + 1 < rb
section
variable {w wr w' : World} {rb : Nat} {xs ys : Array Value} {n : Nat} {N : Nat → Nat} {v v' : Value} {L : List Nat}
theorem NW.drewN (h : NW w wr rb xs ys n N v L) (m : Nat) : NW w (wr.drewN m) rb xs ys n N v L := ⟨h.row.of_block rfl, own_low h.own fun _ _ => rfl, h.x, h.r, below_drewN h.bel m, h.ne, h.ge⟩
theorem NW.set (h : NW w wr rb xs ys n N v L) (x a : Nat) : NW w (wr.setCell ⟨rb, x, none⟩ (.int .i64 (a : Nat))) rb xs ys n (fun j => if j = x then a else N j) v L := by
  have hge := h.ge
  refine ⟨World.rowIs.congr (h.row.set x _) fun j _ => (by by_cases e : j = x <;> simp [e]), ?_, set_ne h.x (by omega) _, set_ne h.r (by omega) _, h.bel.setCell (by show _ ≤ rb; omega) _, h.ne, h.ge⟩
  exact h.own.kept (row := some rb) ⟨rfl, rfl, rfl, by simp, fun k _ hk => Below.heap_setCell wr ⟨rb, x, none⟩ _ k (fun e => hk (by rw [e]))⟩ (.inr fun e => h.ne e.symm)
theorem NW.push (h : NW w wr rb xs ys n N v L) {p : Nat} {o : Obj} (hown : w'.ownsRow w.heap.size 3 1 v' (L.length + 1) (zs (iz L) ++ [.int .i64 (p : Nat)])) (hg : (wr.alloc o).grownBy w' v.ownBlock) (hat : v'.ownBlock = v.ownBlock ∨ v'.ownBlock = some (wr.alloc o).heap.size) : NW w w' rb xs ys n N v' (L ++ [p]) := by
  have hlt := h.row.lt
  refine ⟨h.row.of_block ?_, by rw [List.length_append, iz_append, zs_append]; exact hown, ?_, ?_, ?_, ?_, h.ge⟩
  · rw [hg.block _ (by simp; omega) h.ne, Below.heap_alloc _ _ _ hlt]
  · exact (hg.block _ (by have := lt_of_block h.x; simp; omega) (row_ne2 h.x h.own (by decide))).trans (block_alloc h.x o)
  · exact (hg.block _ (by have := lt_of_block h.r; simp; omega) (row_ne2 h.r h.own (by decide))).trans (block_alloc h.r o)
  · exact (h.bel.alloc h.bel.size o).grown hg (by have := h.bel.size; simp; omega) fun j hj => (h.own.lt j hj).1
  · rcases hat with e | e
    · rw [e]; exact h.ne
    · rw [e]; simp; omega
end
/-- The numbers behind the places below k of a list. -/
def plN (l : Nat → Nat) : Nat → Nat → Nat
  | 0 => fun _ => 0
  | k + 1 => fun j => if j = l k then k else plN l k j
theorem NW.of_nv {w wr : World} {xs ys : Array Value} {n : Nat} {N : Nat → Nat} {v : Value} {L : List Nat} (h : NV w wr xs ys n N v L) : NW w wr (w.heap.size + 1 + 1) xs ys n N v L := ⟨h.row, h.own, h.x, h.r, h.bel, h.ne, by omega⟩
theorem lineO_start (w : World) (B : Nat) : w.ownsRow B 3 1 (.slice none 0 0) 0 (zs (iz (List.range 0))) := World.ownsRow_nil _ _ _ _
end Go.Proofs.Ytdgfdbifeopiaaa
namespace Go.Proofs.Ytdgfdbifeopiaaa
open Go.RowKit
set_option linter.unusedVariables false
set_option linter.unusedSimpArgs false

def pjR (z : Nat → Nat) : Nat → (Nat → Nat) × List Nat
  | 0 => (fun _ => 0, [])
  | k + 1 => if k < z k then (fun j => if j = z k then (pjR z k).2.length else if j = k then (pjR z k).2.length else (pjR z k).1 j, (pjR z k).2 ++ [k]) else pjR z k
theorem pjR_new {z : Nat → Nat} {k : Nat} (h : k < z k) : pjR z (k + 1) = (fun j => if j = z k then (pjR z k).2.length else if j = k then (pjR z k).2.length else (pjR z k).1 j, (pjR z k).2 ++ [k]) := if_pos h
theorem pjR_old {z : Nat → Nat} {k : Nat} (h : ¬ k < z k) : pjR z (k + 1) = pjR z k := if_neg h
theorem pjR_len (z : Nat → Nat) : ∀ k, (pjR z k).2.length ≤ k
  | 0 => Nat.le_refl _
  | k + 1 => by
    have := pjR_len z k
    by_cases h : k < z k
    · rw [pjR_new h]; show ((pjR z k).2 ++ [k]).length ≤ _; simp; omega
    · rw [pjR_old h]; exact Nat.le_succ_of_le this
theorem pj_same {z : Nat → Nat} {n : Nat} (hzl : ∀ i, i < n → z i < n) (hzz : ∀ i, i < n → z (z i) = i) (hne : ∀ i, i < n → z i ≠ i) : ∀ k, k ≤ n → (pjR z k).2 = (pjN z k).2 ∧ (∀ j, j < k → (pjR z k).1 j = (pjN z k).1 j) ∧ ∀ j, j < n → k ≤ j → z j < k → (pjR z k).1 j = (pjN z k).1 (z j)
  | 0, _ => ⟨rfl, fun j h => by omega, fun j _ _ h => by omega⟩
  | k + 1, hk => by
    obtain ⟨h1, h2, h3⟩ := pj_same hzl hzz hne k (by omega)
    have hn := hne k (by omega)
    have hkk := hzz k (by omega)
    by_cases h : k < z k
    · rw [pjR_new h, pjN_new (by omega)]
      refine ⟨by rw [h1], fun j hj => ?_, fun j hjn hj hz => ?_⟩
      · show (if j = z k then (pjR z k).2.length else if j = k then (pjR z k).2.length else (pjR z k).1 j) = if j = k then (pjN z k).2.length else (pjN z k).1 j
        rw [if_neg (by omega)]
        by_cases e : j = k
        · rw [if_pos e, if_pos e, h1]
        · rw [if_neg e, if_neg e, h2 j (by omega)]
      · show (if j = z k then (pjR z k).2.length else if j = k then (pjR z k).2.length else (pjR z k).1 j) = if z j = k then (pjN z k).2.length else (pjN z k).1 (z j)
        by_cases e : z j = k
        · rw [if_pos e, if_pos (by rw [← e, hzz j hjn]), h1]
        · rw [if_neg e, if_neg (fun e2 => e (by rw [e2, hkk])), if_neg (by omega), h3 j hjn (by omega) (by omega)]
    · rw [pjR_old h, pjN_old (by omega)]
      refine ⟨h1, fun j hj => ?_, fun j hjn hj hz => ?_⟩
      · show (pjR z k).1 j = if j = k then (pjN z k).1 (z k) else (pjN z k).1 j
        by_cases e : j = k
        · rw [if_pos e, e]; exact h3 k (by omega) (Nat.le_refl _) (by omega)
        · rw [if_neg e]; exact h2 j (by omega)
      · show (pjR z k).1 j = if z j = k then (pjN z k).1 (z k) else (pjN z k).1 (z j)
        have hzk : z j ≠ k := fun e => by have := hzz j hjn; rw [e] at this; omega
        rw [if_neg hzk]; exact h3 j hjn (by omega) (by omega)
theorem pjN_id {z : Nat → Nat} : ∀ k, (∀ i, i < k → z i = i) → (pjN z k).2 = List.range k ∧ ∀ j, j < k → (pjN z k).1 j = j
  | 0, _ => ⟨rfl, fun j h => by omega⟩
  | k + 1, h => by
    obtain ⟨h1, h2⟩ := pjN_id k fun i hi => h i (by omega)
    have e := h k (by omega)
    rw [pjN_new (by omega)]
    refine ⟨by show _ ++ [k] = _; rw [h1, List.range_succ], fun j hj => ?_⟩
    show (if j = k then (pjN z k).2.length else (pjN z k).1 j) = j
    by_cases e2 : j = k
    · rw [if_pos e2, h1, List.length_range, e2]
    · rw [if_neg e2]; exact h2 j (by omega)
theorem plN_id : ∀ k j, j < k → plN (fun i => i) k j = j
  | 0, j, h => by omega
  | k + 1, j, h => by
    show (if j = k then k else plN (fun i => i) k j) = j
    by_cases e : j = k
    · rw [if_pos e, e]
    · rw [if_neg e]; exact plN_id k j (by omega)
theorem map_getD {L : List Nat} {F : Nat → Nat} : (List.range L.length).map (fun i => F (L.getD i 0)) = L.map F := by
  apply List.ext_getElem
  · simp
  · intro i h1 h2
    simp at h1
    simp [List.getD, h1]
/-- The lists of the projective action. -/
def pS (g : Nat → Nat) (n : Nat) : List Nat := (pjN (fun i => g (g i)) n).2.map fun i => (pjN (fun i => g (g i)) n).1 (g i)
def pT (g f : Nat → Nat) (n : Nat) : List Nat := (pjN (fun i => g (g i)) n).2.map fun i => (pjN (fun i => g (g i)) n).1 (f i)
theorem own_rdn {w : World} {B n c : Nat} {A : Option Addr} {L : List Nat} (h : w.ownsRow B 3 1 (.slice A n c) n (zs (iz L))) (hl : L.length = n) (h0 : 0 < n) : ∃ gl, A = some ⟨gl, 0, none⟩ ∧ RdN w w.heap.size gl 0 n (fun j => L.getD j 0) := by
  obtain ⟨gl, rfl⟩ : ∃ gl, A = some ⟨gl, 0, none⟩ := by
    rcases h.2 with ⟨_, h⟩ | ⟨gl, _, _, h, _⟩
    · omega
    · cases h; exact ⟨gl, rfl⟩
  refine ⟨gl, rfl, (h.lt gl rfl).2, fun j hj => ?_⟩
  have hc := h.cells (g := gl) rfl _ _ (zs_get (iz L) j (by rw [iz_len]; omega))
  have e : (⟨gl, 0, none⟩ : Addr).add j = ⟨gl, 0 + j, none⟩ := by unfold Addr.add; split <;> simp_all
  rw [e] at hc
  rw [hc]
  show some _ = some (Value.int .i64 ((L.getD j 0 : Nat) : Int))
  rw [List.getD_eq_getElem?_getD, List.getElem?_eq_getElem (by omega)]
  simp [iz]
theorem rp_fin {w w' : World} {B m c1 c2 : Nat} {A1 A2 : Option Addr} {PS PT QS QT : List Nat} (h1 : w'.ownsRow B 3 1 (.slice A1 m c1) m (zs (iz PS))) (h2 : w'.ownsRow B 3 1 (.slice A2 m c2) m (zs (iz PT))) (e1 : QS = PS) (e2 : QT = PT) (l1 : PS.length = m) (l2 : PT.length = m) (hb : Below w.heap.size w w') :
    ∃ A c A' c', Ending.returned (.agg #[.slice A1 m c1, .slice A2 m c2]) = .returned (.agg #[.slice A QS.length c, .slice A' QT.length c']) ∧ RdZ w' w'.heap.size A c (iz QS) ∧ RdZ w' w'.heap.size A' c' (iz QT) ∧ Below w.heap.size w w' := by
  subst e1 e2
  have k1 : m = (iz QS).length := by rw [iz_len, l1]
  have k2 : m = (iz QT).length := by rw [iz_len, l2]
  have g1 : w'.ownsRow B 3 1 (.slice A1 m c1) (iz QS).length (zs (iz QS)) := k1 ▸ h1
  have g2 : w'.ownsRow B 3 1 (.slice A2 m c2) (iz QT).length (zs (iz QT)) := k2 ▸ h2
  obtain ⟨A, c, e, r⟩ := own_rdz g1
  obtain ⟨A', c', e', r'⟩ := own_rdz g2
  injection e with q1 q2 q3
  injection e' with q4 q5 q6
  subst q1 q3 q4 q6
  exact ⟨A1, c1, A2, c2, by rw [l1, l2], r, r', hb⟩
theorem nw_start {w w1 : World} {xs ys : Array Value} {n : Nat} (hx : w1.heap[w.heap.size]? = some (.cells xs 25 (0, 0))) (hr : w1.heap[w.heap.size + 1]? = some (.cells ys 25 (0, 0))) (hb : Below w.heap.size w w1) : NW w (w1.alloc (.cells (madeCells #[.int .i64 0] n) 3)) w1.heap.size xs ys n (fun _ => 0) (.slice none 0 0) [] :=
  ⟨World.rowIs_made w1 (.int .i64 0) n 3, World.ownsRow_nil _ _ _ _, block_alloc hx _, block_alloc hr _, hb.alloc hb.size _, by simp [Value.ownBlock], lt_of_block hr⟩
end Go.Proofs.Ytdgfdbifeopiaaa
