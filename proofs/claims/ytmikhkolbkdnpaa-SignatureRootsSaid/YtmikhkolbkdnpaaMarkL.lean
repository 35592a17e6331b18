/- The contract of the closure that marks a cycle. -/
import Derived.Test.YtmikhkolbkdnpaaChkL
import Derived.Test.YtmikhkolbkdnpaaClsM
namespace Go.Proofs.Ytmikhkolbkdnpaa
open Go.RowKit
set_option linter.unusedVariables false
set_option linter.unusedSimpArgs false

/-- The box of classes (its cells C), the box of the list, the box of the action. -/
structure CV (w wr : World) (xs : Array Value) (bc pc pl n : Nat) (C : Nat → Int) (vl : Value) (m : Nat) (cs : List Value) : Prop where
  row : wr.rowIs bc 3 n (fun j => .int .i64 (C j))
  bxc : wr.heap[pc]? = some (.cells #[.slice (some ⟨bc, 0, none⟩) n n] 22 (0, 0))
  bxl : wr.heap[pl]? = some (.cells #[vl] 54 (0, 0))
  own : wr.ownsRow w.heap.size 60 3 vl m cs
  x : wr.heap[w.heap.size]? = some (.cells xs 24 (0, 0))
  bel : Below w.heap.size w wr
  lb : w.heap.size ≤ bc
  ll : w.heap.size ≤ pl
section
variable {w wr w' : World} {xs : Array Value} {bc pc pl n m : Nat} {C : Nat → Int} {vl : Value} {cs : List Value}
theorem ty_apart {W : World} {i k : Nat} {c d : Array Value} {t u : TypeId} (h : W.heap[i]? = some (.cells c t (0, 0))) (h' : W.heap[k]? = some (.cells d u (0, 0))) (hne : t ≠ u) : i ≠ k := by
  intro e
  subst e
  rw [h] at h'
  injection h' with h'
  injection h' with _ h3
  exact hne h3
theorem row_apart {W : World} {i B : Nat} {c : Array Value} {t u : TypeId} {v : Value} {s l : Nat} {xs : List Value} (h : W.heap[i]? = some (.cells c t (0, 0))) (h' : W.ownsRow B u s v l xs) (hne : t ≠ u) : some i ≠ v.ownBlock := by
  intro e
  obtain ⟨_, hn | ⟨g', cap', cur, hv, _, hg2, _⟩⟩ := h'
  · rw [hn.1] at e; cases e
  · subst hv
    injection e with e
    exact ty_apart h hg2 hne e
theorem CV.set (h : CV w wr xs bc pc pl n C vl m cs) (x : Nat) (a : Int) : CV w (wr.setCell ⟨bc, x, none⟩ (.int .i64 a)) xs bc pc pl n (fun j => if j = x then a else C j) vl m cs := by
  obtain ⟨c, hc, h1, h2⟩ := h.row
  have row : wr.rowIs bc 3 n (fun j => .int .i64 (C j)) := ⟨c, hc, h1, h2⟩
  refine ⟨World.rowIs.congr (row.set x _) fun j _ => (by by_cases e : j = x <;> simp [e]), set_ne h.bxc (ty_apart h.bxc hc (by decide)) _, set_ne h.bxl (ty_apart h.bxl hc (by decide)) _, ?_, set_ne h.x (ty_apart h.x hc (by decide)) _, h.bel.setCell h.lb _, h.lb, h.ll⟩
  refine h.own.kept (row := some bc) ⟨rfl, rfl, rfl, by simp, fun k _ hk => Below.heap_setCell wr ⟨bc, x, none⟩ _ k (fun e => hk (by rw [e]))⟩ (.inr fun e => row_apart hc h.own (by decide) e.symm)
theorem CV.congr (h : CV w wr xs bc pc pl n C vl m cs) {D : Nat → Int} (e : ∀ j, j < n → C j = D j) : CV w wr xs bc pc pl n D vl m cs :=
  ⟨h.row.congr fun j hj => by rw [e j hj], h.bxc, h.bxl, h.own, h.x, h.bel, h.lb, h.ll⟩
theorem CV.drewN (h : CV w wr xs bc pc pl n C vl m cs) (k : Nat) : CV w (wr.drewN k) xs bc pc pl n C vl m cs := ⟨h.row.of_block rfl, h.bxc, h.bxl, own_low h.own fun _ _ => rfl, h.x, below_drewN h.bel k, h.lb, h.ll⟩
theorem CV.drew (h : CV w wr xs bc pc pl n C vl m cs) : CV w wr.drew xs bc pc pl n C vl m cs := ⟨h.row.of_block rfl, h.bxc, h.bxl, own_low h.own fun _ _ => rfl, h.x, h.bel.drew, h.lb, h.ll⟩
end
set_option maxHeartbeats 3200000 in
set_option maxRecDepth 1000000 in
theorem mark_old {w wr : World} {xs : Array Value} {bc pc pl pa n m i : Nat} {C : Nat → Int} {vl : Value} {cs : List Value} (h : CV w wr xs bc pc pl n C vl m cs) (hi : i < n) (hC : 0 ≤ C i) :
    Calls Try.prog 74 #[.int .i64 (i : Nat), .pointer (some ⟨pc, 0, none⟩), .pointer (some ⟨pa, 0, none⟩), .pointer (some ⟨pl, 0, none⟩)] wr fun e w' => e = .returned (.int .i64 0) ∧ w' = wr := by
  have hii : (i : Int) < (n : Int) := by omega
  have l1 := (one_of_block h.bxc).1
  have hcs := h.row.cell (i := i) hi
  have hneg : ¬ C i < 0 := by omega
  clear h
  generalize C i = z at *
  go_enter Try.func74, Try.ntmps74
  go_wp2
  go_loopw [0, 6] (fun I J wi => I = .int .i64 (i : Nat) ∧ J = .int .i64 0 ∧ wi = wr) (fun _ _ _ => 0)
  case atStart => exact ⟨rfl, rfl, rfl⟩
  case round =>
    obtain ⟨rfl, rfl, rfl⟩ := hrel
    go_wp2
    go_ret
    exact ⟨rfl, rfl⟩
set_option maxHeartbeats 3200000 in
set_option maxRecDepth 1000000 in
theorem mark_new {w wr : World} {f : Nat → Nat} {a0 : Value} {bc pc pl n m i c bT oT cT : Nat} {C : Nat → Int} {A : Option Addr} {cl : Nat} {cs : List Value} (h : CV w wr #[a0, .slice (some ⟨bT, oT, none⟩) n cT] bc pc pl n C (.slice A m cl) m cs)
    (hT : RdN w w.heap.size bT oT n f) (hp : Prm f n) (hi : i < n) (hc : IsPer f i c) (hn : n ≤ 1152) (hm : m ≤ 1152) (hC : ∀ j, j < n → onC f i j → C j < 0) (hcn : c ≤ n) :
    Calls Try.prog 74 #[.int .i64 (i : Nat), .pointer (some ⟨pc, 0, none⟩), .pointer (some ⟨w.heap.size, 0, none⟩), .pointer (some ⟨pl, 0, none⟩)] wr fun e w' => e = .returned (.int .i64 (c : Nat)) ∧ CV w w' #[a0, .slice (some ⟨bT, oT, none⟩) n cT] bc pc pl n (mkC f C i m c) (.slice A m cl) m cs := by
  have H := Lib.hid h
  have HT := Lib.hid hT
  have HC := Lib.hid hC
  have HPer := Lib.hid hc
  have HP := Lib.hid hp
  clear h hT hC hc hp
  go_enter Try.func74, Try.ntmps74
  go_wp2
  go_loopw [0, 6] (fun I J wi => ∃ (k : Nat), I = .int .i64 (itr f k i : Nat) ∧ J = .int .i64 (k : Nat) ∧ k ≤ c ∧ Hid (CV w wi #[a0, .slice (some ⟨bT, oT, none⟩) n cT] bc pc pl n (mkC f C i m k) (.slice A m cl) m cs)) (fun _ J _ => c - (intOf J).toNat)
  case atStart => exact ⟨0, rfl, rfl, Nat.zero_le _, by rw [mkC_zero]; exact H.out⟩
  case round =>
    clear H
    obtain ⟨k, rfl, rfl, hk, H⟩ := hrel
    have hx := HP.out.itr_lt hi k
    have HEq : Hid (k < c → mkC f C i m k (itr f k i) = C (itr f k i)) := fun h => mkC_at HP.out hi HPer.out h
    have HEnd : Hid (k = c → mkC f C i m k (itr f k i) = (m : Int)) := fun h => by subst h; exact mkC_end HPer.out
    have HNeg := Lib.hid (HC.out _ hx ⟨k, rfl⟩)
    have HS : Hid (itr f (k + 1) i = f (itr f k i)) := rfl
    have HMk : Hid (∀ j, mkC f C i m (k + 1) j = if j = itr f k i then (m : Int) else mkC f C i m k j) := fun j => mkC_succ f C i m k j
    generalize itr f k i = x at *
    have hxi : (x : Int) < (n : Int) := by omega
    have l1 := (one_of_block H.out.bxc).1
    have l2 := (one_of_block H.out.bxl).1
    have hcs := H.out.row.cell (i := x) hx
    have hfz := H.out.row.frozen x
    by_cases hlt : k < c
    · rw [HEq.out hlt] at hcs
      have hneg : C x < 0 := HNeg.out
      generalize C x = z at *
      have H2 := Lib.hid (H.out.set x (m : Int))
      have l3 := (two_of_block H2.out.x).1.2
      have hy := HP.out.lt x hx
      have s2 : (wr.setCell ⟨bc, x, none⟩ (.int .i64 (m : Int))).cell? ⟨bT, oT + x, none⟩ = some (.int .i64 (f x : Nat)) := (H2.out.bel.cell (p := ⟨bT, oT + x, none⟩) HT.out.1).trans (HT.out.2 x hx)
      go_wp2
      go_roundw
      case rel => exact ⟨k + 1, by rw [HS.out], by go_num, hlt, H2.out.congr fun j _ => (HMk.out j).symm⟩
      case measure => simp [intOf]; omega
    · obtain rfl : k = c := by omega
      rw [HEnd.out rfl] at hcs
      have hneg : ¬ (m : Int) < 0 := by omega
      go_wp2
      go_ret
      exact ⟨rfl, H.out⟩
end Go.Proofs.Ytmikhkolbkdnpaa
