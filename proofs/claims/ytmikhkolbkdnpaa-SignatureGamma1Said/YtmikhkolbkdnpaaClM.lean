/- The contract of the closure that marks a cycle. The contracts of Minus and of the code's classes. The contracts of the reference's Cycle and classes. -/
import Derived.Test.YtmikhkolbkdnpaaChkL
import Derived.Test.YtmikhkolbkdnpaaClsM
import Derived.Deep.DeepCutAuto
import Derived.Deep.CutBlock
import Derived.Deep.RegionHeld3
namespace Go.Proofs.Ytmikhkolbkdnpaa
open Go.RowKit
set_option linter.unusedVariables false
set_option linter.unusedSimpArgs false

/-- The box of classes (its cells C), the box of the list, the box of the action. -/
structure CV (w wr : World) (xs : Array Value) (bc pc pl n : Nat) (C : Nat → Int) (vl : Value) (m : Nat) (cs : List Value) : Prop where
  row : wr.rowIs bc 3 n (fun j => .int .i64 (C j))
  bxc : wr.heap[pc]? = some (.cells #[.slice (some ⟨bc, 0, none⟩) n n] 22 (0, 0))
  bxl : wr.heap[pl]? = some (.cells #[vl] 54 (0, 0))
  own : wr.ownsRow w.heap.size 60 3 vl m cs
  x : wr.heap[w.heap.size]? = some (.cells xs 24 (0, 0))
  bel : Below w.heap.size w wr
  lb : w.heap.size ≤ bc
  ll : w.heap.size ≤ pl
section
variable {w wr w' : World} {xs : Array Value} {bc pc pl n m : Nat} {C : Nat → Int} {vl : Value} {cs : List Value}
theorem ty_apart {W : World} {i k : Nat} {c d : Array Value} {t u : TypeId} (h : W.heap[i]? = some (.cells c t (0, 0))) (h' : W.heap[k]? = some (.cells d u (0, 0))) (hne : t ≠ u) : i ≠ k := by
  intro e
  subst e
  rw [h] at h'
  injection h' with h'
  injection h' with _ h3
  exact hne h3
theorem row_apart {W : World} {i B : Nat} {c : Array Value} {t u : TypeId} {v : Value} {s l : Nat} {xs : List Value} (h : W.heap[i]? = some (.cells c t (0, 0))) (h' : W.ownsRow B u s v l xs) (hne : t ≠ u) : some i ≠ v.ownBlock := by
  intro e
  obtain ⟨_, hn | ⟨g', cap', cur, hv, _, hg2, _⟩⟩ := h'
  · rw [hn.1] at e; cases e
  · subst hv
    injection e with e
    exact ty_apart h hg2 hne e
theorem CV.set (h : CV w wr xs bc pc pl n C vl m cs) (x : Nat) (a : Int) : CV w (wr.setCell ⟨bc, x, none⟩ (.int .i64 a)) xs bc pc pl n (fun j => if j = x then a else C j) vl m cs := by
  obtain ⟨c, hc, h1, h2⟩ := h.row
  have row : wr.rowIs bc 3 n (fun j => .int .i64 (C j)) := ⟨c, hc, h1, h2⟩
  refine ⟨World.rowIs.congr (row.set x _) fun j _ => (by by_cases e : j = x <;> simp [e]), set_ne h.bxc (ty_apart h.bxc hc (by decide)) _, set_ne h.bxl (ty_apart h.bxl hc (by decide)) _, ?_, set_ne h.x (ty_apart h.x hc (by decide)) _, h.bel.setCell h.lb _, h.lb, h.ll⟩
  refine h.own.kept (row := some bc) ⟨rfl, rfl, rfl, by simp, fun k _ hk => Below.heap_setCell wr ⟨bc, x, none⟩ _ k (fun e => hk (by rw [e]))⟩ (.inr fun e => row_apart hc h.own (by decide) e.symm)
theorem CV.congr (h : CV w wr xs bc pc pl n C vl m cs) {D : Nat → Int} (e : ∀ j, j < n → C j = D j) : CV w wr xs bc pc pl n D vl m cs :=
  ⟨h.row.congr fun j hj => by rw [e j hj], h.bxc, h.bxl, h.own, h.x, h.bel, h.lb, h.ll⟩
theorem CV.drewN (h : CV w wr xs bc pc pl n C vl m cs) (k : Nat) : CV w (wr.drewN k) xs bc pc pl n C vl m cs := ⟨h.row.of_block rfl, h.bxc, h.bxl, own_low h.own fun _ _ => rfl, h.x, below_drewN h.bel k, h.lb, h.ll⟩
theorem CV.drew (h : CV w wr xs bc pc pl n C vl m cs) : CV w wr.drew xs bc pc pl n C vl m cs := ⟨h.row.of_block rfl, h.bxc, h.bxl, own_low h.own fun _ _ => rfl, h.x, h.bel.drew, h.lb, h.ll⟩
end
set_option maxHeartbeats 3200000 in
set_option maxRecDepth 1000000 in
theorem mark_old {w wr : World} {xs : Array Value} {bc pc pl pa n m i : Nat} {C : Nat → Int} {vl : Value} {cs : List Value} (h : CV w wr xs bc pc pl n C vl m cs) (hi : i < n) (hC : 0 ≤ C i) :
    Calls Try.prog 74 #[.int .i64 (i : Nat), .pointer (some ⟨pc, 0, none⟩), .pointer (some ⟨pa, 0, none⟩), .pointer (some ⟨pl, 0, none⟩)] wr fun e w' => e = .returned (.int .i64 0) ∧ w' = wr := by
  have hii : (i : Int) < (n : Int) := by omega
  have l1 := (one_of_block h.bxc).1
  have hcs := h.row.cell (i := i) hi
  have hneg : ¬ C i < 0 := by omega
  clear h
  generalize C i = z at *
  go_enter Try.func74, Try.ntmps74
  go_wp2
  go_loopw [0, 6] (fun I J wi => I = .int .i64 (i : Nat) ∧ J = .int .i64 0 ∧ wi = wr) (fun _ _ _ => 0)
  case atStart => exact ⟨rfl, rfl, rfl⟩
  case round =>
    obtain ⟨rfl, rfl, rfl⟩ := hrel
    go_wp2
    go_ret
    exact ⟨rfl, rfl⟩
set_option maxHeartbeats 3200000 in
set_option maxRecDepth 1000000 in
theorem mark_new {w wr : World} {f : Nat → Nat} {a0 : Value} {bc pc pl n m i c bT oT cT : Nat} {C : Nat → Int} {A : Option Addr} {cl : Nat} {cs : List Value} (h : CV w wr #[a0, .slice (some ⟨bT, oT, none⟩) n cT] bc pc pl n C (.slice A m cl) m cs)
    (hT : RdN w w.heap.size bT oT n f) (hp : Prm f n) (hi : i < n) (hc : IsPer f i c) (hn : n ≤ 1152) (hm : m ≤ 1152) (hC : ∀ j, j < n → onC f i j → C j < 0) (hcn : c ≤ n) :
    Calls Try.prog 74 #[.int .i64 (i : Nat), .pointer (some ⟨pc, 0, none⟩), .pointer (some ⟨w.heap.size, 0, none⟩), .pointer (some ⟨pl, 0, none⟩)] wr fun e w' => e = .returned (.int .i64 (c : Nat)) ∧ CV w w' #[a0, .slice (some ⟨bT, oT, none⟩) n cT] bc pc pl n (mkC f C i m c) (.slice A m cl) m cs := by
  have H := Lib.hid h
  have HT := Lib.hid hT
  have HC := Lib.hid hC
  have HPer := Lib.hid hc
  have HP := Lib.hid hp
  clear h hT hC hc hp
  go_enter Try.func74, Try.ntmps74
  go_wp2
  go_loopw [0, 6] (fun I J wi => ∃ (k : Nat), I = .int .i64 (itr f k i : Nat) ∧ J = .int .i64 (k : Nat) ∧ k ≤ c ∧ Hid (CV w wi #[a0, .slice (some ⟨bT, oT, none⟩) n cT] bc pc pl n (mkC f C i m k) (.slice A m cl) m cs)) (fun _ J _ => c - (intOf J).toNat)
  case atStart => exact ⟨0, rfl, rfl, Nat.zero_le _, by rw [mkC_zero]; exact H.out⟩
  case round =>
    clear H
    obtain ⟨k, rfl, rfl, hk, H⟩ := hrel
    have hx := HP.out.itr_lt hi k
    have HEq : Hid (k < c → mkC f C i m k (itr f k i) = C (itr f k i)) := fun h => mkC_at HP.out hi HPer.out h
    have HEnd : Hid (k = c → mkC f C i m k (itr f k i) = (m : Int)) := fun h => by subst h; exact mkC_end HPer.out
    have HNeg := Lib.hid (HC.out _ hx ⟨k, rfl⟩)
    have HS : Hid (itr f (k + 1) i = f (itr f k i)) := rfl
    have HMk : Hid (∀ j, mkC f C i m (k + 1) j = if j = itr f k i then (m : Int) else mkC f C i m k j) := fun j => mkC_succ f C i m k j
    generalize itr f k i = x at *
    have hxi : (x : Int) < (n : Int) := by omega
    have l1 := (one_of_block H.out.bxc).1
    have l2 := (one_of_block H.out.bxl).1
    have hcs := H.out.row.cell (i := x) hx
    have hfz := H.out.row.frozen x
    by_cases hlt : k < c
    · rw [HEq.out hlt] at hcs
      have hneg : C x < 0 := HNeg.out
      generalize C x = z at *
      have H2 := Lib.hid (H.out.set x (m : Int))
      have l3 := (two_of_block H2.out.x).1.2
      have hy := HP.out.lt x hx
      have s2 : (wr.setCell ⟨bc, x, none⟩ (.int .i64 (m : Int))).cell? ⟨bT, oT + x, none⟩ = some (.int .i64 (f x : Nat)) := (H2.out.bel.cell (p := ⟨bT, oT + x, none⟩) HT.out.1).trans (HT.out.2 x hx)
      go_wp2
      go_roundw
      case rel => exact ⟨k + 1, by rw [HS.out], by go_num, hlt, H2.out.congr fun j _ => (HMk.out j).symm⟩
      case measure => simp [intOf]; omega
    · obtain rfl : k = c := by omega
      rw [HEnd.out rfl] at hcs
      have hneg : ¬ (m : Int) < 0 := by omega
      go_wp2
      go_ret
      exact ⟨rfl, H.out⟩
end Go.Proofs.Ytmikhkolbkdnpaa
namespace Go.Proofs.Ytmikhkolbkdnpaa
open Go.RowKit
set_option linter.unusedVariables false
set_option linter.unusedSimpArgs false

theorem Try.infoCls : (Try.prog.info? 60).map (fun i => (i.zero, i.size, i.bytes)) = some (some (.agg #[.int .i64 0, .int .i64 0, .bool false]), 3, 24) := by kernel_rfl
/-- An action that comes in: its lists are readable. -/
structure AI (w : World) (B bS oS bT oT : Nat) (S T : List Int) (cS cT : Nat) : Prop where
  act : Act2 S T
  zs : RdZ w B (some ⟨bS, oS, none⟩) cS S
  zt : RdZ w B (some ⟨bT, oT, none⟩) cT T
  s : RdN w B bS oS S.length (fnz S)
  t : RdN w B bT oT S.length (fnz T)
  le : B ≤ w.heap.size
theorem AI.below {w w' : World} {B bS oS bT oT : Nat} {S T : List Int} {cS cT : Nat} (h : AI w B bS oS bT oT S T cS cT) (hb : Below w.heap.size w w') : AI w' B bS oS bT oT S T cS cT :=
  ⟨h.act, h.zs.below (hb.mono h.le), h.zt.below (hb.mono h.le), h.s.below (hb.mono h.le), h.t.below (hb.mono h.le), Nat.le_trans h.le hb.size⟩
set_option maxHeartbeats 3200000 in
set_option maxRecDepth 1000000 in
theorem pminus_any {S T : List Int} {B bS oS bT oT cS cT : Nat} (w : World) (h : AI w B bS oS bT oT S T cS cT) :
    Calls Try.prog 27 #[.agg #[.slice (some ⟨bS, oS, none⟩) S.length cS, .slice (some ⟨bT, oT, none⟩) S.length cT]] w fun e w' => e = .returned (.tuple #[.bool (decide (fnz S (fnz S 0) = 0)), .int .i64 0]) ∧ Below w.heap.size w w' := by
  have HCk : Hid (∀ W, Below w.heap.size w W → Calls Try.prog 34 #[.agg #[.slice (some ⟨bS, oS, none⟩) S.length cS, .slice (some ⟨bT, oT, none⟩) S.length cT]] W fun e w' => e = .returned (.int .i64 0) ∧ Below W.heap.size W w') := fun W hb => by
    have := pcheck_any W (h.below hb).zs (h.below hb).zt (h.below hb).le
    rwa [chkA_ok h.act, h.act.len] at this
  have H := Lib.hid h
  have T0 : Hid ((w.alloc (.cells #[.slice (some ⟨bS, oS, none⟩) S.length cS, .slice (some ⟨bT, oT, none⟩) S.length cT] 24)).heap[w.heap.size]? = some (.cells #[.slice (some ⟨bS, oS, none⟩) S.length cS, .slice (some ⟨bT, oT, none⟩) S.length cT] 24 (0, 0))) := heap_alloc_new w _
  have HB0 : Hid (Below w.heap.size w (w.alloc (.cells #[.slice (some ⟨bS, oS, none⟩) S.length cS, .slice (some ⟨bT, oT, none⟩) S.length cT] 24))) := below1 w _
  have hpos := h.act.pos
  have h1 := h.act.ps.lt 0 (by omega)
  have h2 := h.act.ps.lt _ h1
  clear h
  have HV : Hid (∀ a b : Nat, (((a : Int) == (b : Int)) : Bool) = decide (a = b)) := fun a b => by rw [Bool.eq_iff_iff]; simp; omega
  obtain ⟨b, hb⟩ : ∃ b, b = decide (fnz S (fnz S 0) = 0) := ⟨_, rfl⟩
  rw [← hb]
  have HBb : Hid (b = decide (fnz S (fnz S 0) = 0)) := hb
  clear hb
  go_enter Try.func27, Try.ntmps27
  go_wp2_with (first
    | (go_at_call 34; ((with_reducible refine (HCk.out _ HB0.out).mono ?_); rintro e w1 ⟨rfl, hb⟩; have HB1 := Lib.hid (bel0 HB0.out hb); have T1 := Lib.hid (block_below T0.out hb); have HI1 := Lib.hid (H.out.below HB1.out); clear hb))
    | fail)
  have c0 : ∀ N, (w1.drewN N).cell? ⟨bS, oS + 0, none⟩ = some (.int .i64 (fnz S 0 : Nat)) := fun N => HI1.out.s.2 0 (by omega)
  have c1 : ∀ N, (w1.drewN N).cell? ⟨bS, oS + fnz S 0, none⟩ = some (.int .i64 (fnz S (fnz S 0) : Nat)) := fun N => HI1.out.s.2 _ h1
  have u1 := fun N => (show (w1.drewN N).cell? ⟨w.heap.size, 0, none⟩ = _ from (two_of_block T1.out).1.1)
  generalize fnz S (fnz S 0) = y at *
  generalize fnz S 0 = x at *
  have i0 : (0 : Int) < (S.length : Int) := by omega
  have i1 : (x : Int) < (S.length : Int) := by omega
  have c0' : ∀ N, (w1.drewN N).cell? ⟨bS, oS, none⟩ = some (.int .i64 (x : Nat)) := fun N => c0 N
  by_cases hy : y = 0
  · subst hy
    have hbt : b = true := HBb.out.trans (by simp)
    subst hbt
    go_quiet (fail)
    go_wp2
    go_ret2
    exact ⟨rfl, below_drewN HB1.out _⟩
  · have hbf : b = false := HBb.out.trans (by simpa using hy)
    subst hbf
    have hyb : ((y : Int) == 0) = false := by simp; omega
    go_quiet (fail)
    go_wp2
    refine bodyPost_ret (v := .tuple #[.bool false, .int .i64 0]) ?_ rfl ⟨rfl, below_drewN HB1.out _⟩
    simp [results, Try.results27, go_sem]
theorem mk_int (n : Nat) (W : World) (hn : n ≤ 1152) : (Instr.makeSlice 22 (.int .i64 (n : Int)) (.int .i64 (n : Int))).run Try.prog W = .ok (.slice (some ⟨W.heap.size, 0, none⟩) n n) (W.alloc (.cells (madeCells #[.int .i64 0] n) 3)) := by
  obtain ⟨i1, hj, y0, y1, y2⟩ := info_parts Try.infoInt
  have h := run_make (P := Try.prog) W 22 3 i1 (.int .i64 0) Try.underlying22 hj y0 .i64 .i64 (n : Int) (n : Int) (by omega) (by omega) (by rw [y2]; omega) (by omega)
  rw [show ((n : Int)).toNat = n by omega, y1, Nat.mul_one] at h
  exact h
/-- The cells of the list of classes. -/
def ccs (W : Nat → Nat) (R : Nat → Bool) (P : List Nat) : List Value := P.flatMap fun p => [.int .i64 (p : Nat), .int .i64 (W p : Nat), .bool (R p)]
theorem ccs_push (W : Nat → Nat) (R : Nat → Bool) (P : List Nat) (p : Nat) : ccs W R (P ++ [p]) = ccs W R P ++ [.int .i64 (p : Nat), .int .i64 (W p : Nat), .bool (R p)] := by simp [ccs]
theorem cell_three_new (w : World) (a b c : Value) (t : TypeId) {g : Nat} (hg : g = w.heap.size) : ∀ j u, [a, b, c][j]? = some u → (w.alloc (.cells #[a, b, c] t)).cell? ((⟨g, 0, none⟩ : Addr).add j) = some u := by
  subst hg
  intro j u hj
  have e : ∀ j, (⟨w.heap.size, 0, none⟩ : Addr).add j = ⟨w.heap.size, j, none⟩ := fun j => by unfold Addr.add; split <;> simp_all
  rw [e]
  match j, hj with
  | 0, hj => simp at hj; subst hj; simp
  | 1, hj => simp at hj; subst hj; simp
  | 2, hj => simp at hj; subst hj; simp
theorem CV.push {w wr w' : World} {xs : Array Value} {bc pc pl n m g c : Nat} {C : Nat → Int} {vl : Value} {cs ds : List Value} {o : Obj} (h : CV w wr xs bc pc pl n C vl m cs)
    (hown : w'.ownsRow w.heap.size 60 3 (.slice (some ⟨g, 0, none⟩) (m + 1) c) (m + 1) ds) (hg : (wr.alloc o).grownBy w' vl.ownBlock) :
    CV w (w'.setCell ⟨pl, 0, none⟩ (.slice (some ⟨g, 0, none⟩) (m + 1) c)) xs bc pc pl n C (.slice (some ⟨g, 0, none⟩) (m + 1) c) (m + 1) ds := by
  have go : ∀ {k : Nat} {cs : Array Value} {t : TypeId}, wr.heap[k]? = some (.cells cs t (0, 0)) → t ≠ 60 → w'.heap[k]? = some (.cells cs t (0, 0)) := fun {k cs t} hc h1 =>
    (hg.block k (by have := lt_of_block hc; simp; omega) (row_apart hc h.own h1)).trans (block_alloc hc o)
  obtain ⟨cc, hcc, h1, h2⟩ := h.row
  have hp := go h.bxl (by decide)
  have hr := go hcc (by decide)
  have hc := go h.bxc (by decide)
  have hx := go h.x (by decide)
  refine ⟨⟨cc, set_ne hr (ty_apart hr hp (by decide)) _, h1, h2⟩, set_ne hc (ty_apart hc hp (by decide)) _, heap_setCell_same _ pl 0 #[vl] 54 _ hp, ?_, set_ne hx (ty_apart hx hp (by decide)) _, ?_, h.lb, h.ll⟩
  · obtain ⟨h1, h2 | ⟨g', cap, cur, hv, hb, hg', hn, hc, hs', ht⟩⟩ := hown
    · exact ⟨h1, .inl h2⟩
    · exact ⟨h1, .inr ⟨g', cap, cur, hv, hb, set_ne hg' (ty_apart hg' hp (by decide)) _, hn, hc, hs', ht⟩⟩
  · have h0 := h.bel.alloc h.bel.size o
    exact (h0.grown hg (by have := h.bel.size; simp; omega) fun j hj => (h.own.lt j hj).1).setCell h.ll _
/-- The world before the loops of classes. -/
theorem cv_start (w w1 : World) (xs : Array Value) (n : Nat) (hx : w1.heap[w.heap.size]? = some (.cells xs 24 (0, 0))) (hb : Below w.heap.size w w1) :
    CV w (((w1.alloc (.cells #[.slice none 0 0] 54)).alloc (.cells (madeCells #[.int .i64 0] n) 3)).alloc (.cells #[.slice (some ⟨w1.heap.size + 1, 0, none⟩) n n] 22)) xs (w1.heap.size + 1) (w1.heap.size + 1 + 1) w1.heap.size n (fun _ => 0) (.slice none 0 0) 0 [] := by
  have hs := hb.size
  have hr := World.rowIs_made (w1.alloc (.cells #[.slice none 0 0] 54)) (.int .i64 0) n 3
  have hr' := hr.alloc (.cells #[.slice (some ⟨w1.heap.size + 1, 0, none⟩) n n] 22)
  have hc := heap_alloc_new ((w1.alloc (.cells #[.slice none 0 0] 54)).alloc (.cells (madeCells #[.int .i64 0] n) 3)) (.cells #[.slice (some ⟨w1.heap.size + 1, 0, none⟩) n n] 22)
  refine ⟨by simpa using hr', by simpa using hc, block_alloc (block_alloc (heap_alloc_new w1 _) _) _, World.ownsRow_nil _ _ _ _, block_alloc (block_alloc (block_alloc hx _) _) _, hb.trans (((below2 w1 _ _).trans ((below1 _ _).mono (by simp; omega))).mono hs), by omega, hs⟩
set_option maxHeartbeats 6400000 in
set_option maxRecDepth 1000000 in
theorem classes_any {S T : List Int} {B bS oS bT oT cS cT : Nat} (w : World) (h : AI w B bS oS bT oT S T cS cT) (mi : Bool) (hmi : mi = decide (fnz S (fnz S 0) = 0)) (WD : Nat → Nat) (hWD : WD = widM mi (fnz T) (fun i => fnz S (fnz S i)) S.length) (RG : Nat → Bool) (hRG : RG = fun p => decide (perO (fnz T) S.length p = WD p)) :
    Calls Try.prog 54 #[.agg #[.slice (some ⟨bS, oS, none⟩) S.length cS, .slice (some ⟨bT, oT, none⟩) S.length cT]] w fun e w' => ∃ A c bc, e = .returned (.tuple #[.slice A (cst (uB (fnz T) (fun i => fnz S (fnz S i)) S.length) S.length).2.length c, .slice (some ⟨bc, 0, none⟩) S.length S.length]) ∧
      w'.ownsRow w.heap.size 60 3 (.slice A (cst (uB (fnz T) (fun i => fnz S (fnz S i)) S.length) S.length).2.length c) (cst (uB (fnz T) (fun i => fnz S (fnz S i)) S.length) S.length).2.length (ccs WD RG (cst (uB (fnz T) (fun i => fnz S (fnz S i)) S.length) S.length).2) ∧
      w'.rowIs bc 3 S.length (fun j => .int .i64 ((cst (uB (fnz T) (fun i => fnz S (fnz S i)) S.length) S.length).1 j)) ∧ Below w.heap.size w w' := by
  obtain ⟨i0, hi0, z0, z1, z2⟩ := info_parts Try.infoCls
  have HMi : Hid (∀ W, Below w.heap.size w W → Calls Try.prog 27 #[.agg #[.slice (some ⟨bS, oS, none⟩) S.length cS, .slice (some ⟨bT, oT, none⟩) S.length cT]] W fun e w' => e = .returned (.tuple #[.bool mi, .int .i64 0]) ∧ Below W.heap.size W w') := fun W hb => by
    rw [hmi]; exact pminus_any W (h.below hb)
  have hg := h.act.ps
  have hf := h.act.pt
  have hz := rel_inv hg hf h.act.rel
  have hpos : 0 < S.length := h.act.pos
  have hle := h.act.le
  have HI := Lib.hid (fun k (hk : k ≤ S.length) => cst_inv hf hz k hk)
  have HSr : Hid (RdN w w.heap.size bS oS S.length (fnz S)) := h.s.mono h.le
  have HTr : Hid (RdN w w.heap.size bT oT S.length (fnz T)) := h.t.mono h.le
  have hmk := fun W => mk_int S.length W hle
  clear h hmi
  generalize hfe : fnz T = f at *
  generalize hge : fnz S = g at *
  generalize S.length = n at *
  have HG := Lib.hid hg
  have HF := Lib.hid hf
  have HZ := Lib.hid hz
  have HWD := Lib.hid hWD
  have HRG := Lib.hid hRG
  clear hg hf hz hfe hge hWD hRG
  have T0 : Hid ((w.alloc (.cells #[.slice (some ⟨bS, oS, none⟩) n cS, .slice (some ⟨bT, oT, none⟩) n cT] 24)).heap[w.heap.size]? = some (.cells #[.slice (some ⟨bS, oS, none⟩) n cS, .slice (some ⟨bT, oT, none⟩) n cT] 24 (0, 0))) := heap_alloc_new w _
  have HB0 : Hid (Below w.heap.size w (w.alloc (.cells #[.slice (some ⟨bS, oS, none⟩) n cS, .slice (some ⟨bT, oT, none⟩) n cT] 24))) := below1 w _
  go_enter Try.func54, Try.ntmps54
  go_wp2_with (first
    | (go_at_call 27; ((with_reducible refine (HMi.out _ HB0.out).mono ?_); rintro e w1 ⟨rfl, hb⟩; have HB1 := Lib.hid (bel0 HB0.out hb); have T1 := Lib.hid (block_below T0.out hb); have HV1 := Lib.hid (cv_start w w1 _ n T1.out HB1.out); obtain ⟨⟨t1, t2⟩, _⟩ := two_of_block T1.out; have hzl := lt_of_block T1.out; clear hb))
    | fail)
  obtain ⟨W0, hW0⟩ : ∃ W0, W0 = (((w1.alloc (.cells #[.slice none 0 0] 54)).alloc (.cells (madeCells #[.int .i64 0] n) 3)).alloc (.cells #[.slice (some ⟨w1.heap.size + 1, 0, none⟩) n n] 22)) := ⟨_, rfl⟩
  rw [← hW0] at HV1 ⊢
  clear hW0 hmk t1 t2 hzl
  obtain ⟨pl, hpl⟩ : ∃ pl, pl = w1.heap.size := ⟨_, rfl⟩
  rw [← hpl] at HV1 ⊢
  clear hpl
  go_loopw [8, 24] (fun _ I wr => ∃ (k : Nat), I = .int .i64 k ∧ k ≤ n ∧ Hid (CV w wr #[.slice (some ⟨bS, oS, none⟩) n cS, .slice (some ⟨bT, oT, none⟩) n cT] (pl + 1) (pl + 1 + 1) pl n (fun j => if j < k then -1 else 0) (.slice none 0 0) 0 [])) (fun _ I _ => n - (intOf I).toNat)
  case atStart => exact ⟨0, rfl, Nat.zero_le _, HV1.out.congr fun j _ => by simp⟩
  case round =>
    clear HV1
    obtain ⟨k, rfl, hk, HV⟩ := hrel
    by_cases hlt : k < n
    · have hki : (k : Int) < (n : Int) := by omega
      have l1 := (one_of_block HV.out.bxc).1
      have hcs := HV.out.row.cell (i := k) hlt
      have hfz := HV.out.row.frozen k
      have H2 := Lib.hid (HV.out.set k (-1))
      go_wp2
      go_roundw
      case rel => exact ⟨k + 1, by go_num, hlt, H2.out.congr fun j _ => (by by_cases e : j = k <;> by_cases e2 : j < k <;> by_cases e3 : j < k + 1 <;> simp [e, e2, e3] <;> omega)⟩
      case measure => simp [intOf]; omega
    · obtain rfl : k = n := by omega
      have hk2 : ¬ (k : Int) < (k : Int) := by omega
      have HV0 : Hid (CV w wr #[.slice (some ⟨bS, oS, none⟩) k cS, .slice (some ⟨bT, oT, none⟩) k cT] (pl + 1) (pl + 1 + 1) pl k (fun _ => -1) (.slice none 0 0) 0 []) := HV.out.congr fun j hj => by simp [hj]
      have l1 := (one_of_block HV0.out.bxc).1
      clear hk HV
      go_wp2
      clear l1
      have HZ' : Hid (Inv2 f (fun i => g (g i)) k) := HZ
      obtain ⟨z, hze⟩ : ∃ z : Nat → Nat, z = fun i => g (g i) := ⟨_, rfl⟩
      have HZe := Lib.hid hze
      have hzi : ∀ i, g (g i) = z i := fun i => by rw [hze]
      rw [← hze] at HI HWD HZ
      have HIu : Hid (∀ j, j ≤ k → CI (uB f z k) k j (cst (uB f z k) j)) := HI
      go_loopw [10, 11, 12, 34] (fun _ _ _ I wr => ∃ (q : Nat) (A : Option Addr) (c : Nat), I = .int .i64 q ∧ q ≤ k ∧ Hid (CV w wr #[.slice (some ⟨bS, oS, none⟩) k cS, .slice (some ⟨bT, oT, none⟩) k cT] (pl + 1) (pl + 1 + 1) pl k (cst (uB f z k) q).1 (.slice A (cst (uB f z k) q).2.length c) (cst (uB f z k) q).2.length (ccs WD RG (cst (uB f z k) q).2))) (fun _ _ _ I _ => k - (intOf I).toNat)
      case atStart => exact ⟨0, _, _, rfl, Nat.zero_le _, HV0.out⟩
      case round =>
        clear HV0
        obtain ⟨q, A, c, rfl, hq, HV⟩ := hrel
        by_cases hlt : q < k
        · have hqi : (q : Int) < (k : Int) := by omega
          have hI := HIu.out q hq
          have hlen := hI.len
          by_cases hC : 0 ≤ (cst (uB f z k) q).1 q
          · have HM := Lib.hid (fun W (h : CV w W #[.slice (some ⟨bS, oS, none⟩) k cS, .slice (some ⟨bT, oT, none⟩) k cT] (pl + 1) (pl + 1 + 1) pl k (cst (uB f z k) q).1 (.slice A (cst (uB f z k) q).2.length c) (cst (uB f z k) q).2.length (ccs WD RG (cst (uB f z k) q).2)) => mark_old (pa := w.heap.size) h hlt hC)
            have HO := Lib.hid (cst_old hC)
            clear hI hC hlen
            go_wp2_with (first
              | (go_at_call 74; ((with_reducible refine (HM.out _ HV.out).mono ?_); rintro e w2 ⟨rfl, rfl⟩))
              | fail)
            go_roundw
            case rel => exact ⟨q + 1, A, c, by go_num, hlt, by rw [HO.out]; exact HV.out⟩
            case measure => simp [intOf]; omega
          · obtain ⟨hper, hperle⟩ := perO_spec HF.out hlt
            have hzl := HZ.out.lt q hlt
            obtain ⟨hper2, hperle2⟩ := perO_spec HF.out hzl
            have HM1 := Lib.hid (fun W (h : CV w W #[.slice (some ⟨bS, oS, none⟩) k cS, .slice (some ⟨bT, oT, none⟩) k cT] (pl + 1) (pl + 1 + 1) pl k (cst (uB f z k) q).1 (.slice A (cst (uB f z k) q).2.length c) (cst (uB f z k) q).2.length (ccs WD RG (cst (uB f z k) q).2)) => mark_new h HTr.out HF.out hlt hper hle (by omega) (fun j hj ho => neg_one HF.out HZ.out hI hlt hC hj ((uB_iff HF.out HZ.out hlt).2 (.inl ho))) hperle)
            have HN := Lib.hid (cst_new hC)
            obtain ⟨c2, C2, hc2l, hc2, hC2, HM2⟩ : ∃ (c2 : Nat) (C2 : Nat → Int), c2 ≤ k ∧ perO f k q + c2 = wid0 f z k q ∧ (∀ j, C2 j = if uB f z k q j = true then (((cst (uB f z k) q).2.length : Nat) : Int) else (cst (uB f z k) q).1 j) ∧
                Hid (∀ W, CV w W #[.slice (some ⟨bS, oS, none⟩) k cS, .slice (some ⟨bT, oT, none⟩) k cT] (pl + 1) (pl + 1 + 1) pl k (mkC f (cst (uB f z k) q).1 q (cst (uB f z k) q).2.length (perO f k q)) (.slice A (cst (uB f z k) q).2.length c) (cst (uB f z k) q).2.length (ccs WD RG (cst (uB f z k) q).2) →
                  Calls Try.prog 74 #[.int .i64 (z q : Nat), .pointer (some ⟨pl + 1 + 1, 0, none⟩), .pointer (some ⟨w.heap.size, 0, none⟩), .pointer (some ⟨pl, 0, none⟩)] W fun e w' => e = .returned (.int .i64 (c2 : Nat)) ∧ CV w w' #[.slice (some ⟨bS, oS, none⟩) k cS, .slice (some ⟨bT, oT, none⟩) k cT] (pl + 1) (pl + 1 + 1) pl k C2 (.slice A (cst (uB f z k) q).2.length c) (cst (uB f z k) q).2.length (ccs WD RG (cst (uB f z k) q).2)) := by
              by_cases ho : onC f q (z q)
              · refine ⟨0, _, Nat.zero_le _, ?_, fun j => mk_one HF.out HZ.out hlt ho j, fun W h => ?_⟩
                · unfold wid0; rw [if_pos ((cy_on HF.out hlt).2 ho)]
                · refine (mark_old (pa := w.heap.size) h hzl ?_).mono fun e w' h' => ⟨h'.1, by rw [h'.2]; exact h⟩
                  rw [mk_one HF.out HZ.out hlt ho, if_pos ((uB_iff HF.out HZ.out hlt).2 (.inl ho))]
                  omega
              · refine ⟨perO f k (z q), _, hperle2, ?_, fun j => mk_two HF.out HZ.out hlt j, fun W h => ?_⟩
                · unfold wid0; rw [if_neg fun h' => ho ((cy_on HF.out hlt).1 h')]
                · refine mark_new h HTr.out HF.out hzl hper2 hle (by omega) (fun j hj ho2 => ?_) hperle2
                  have hn := neg_one HF.out HZ.out hI hlt hC hj ((uB_iff HF.out HZ.out hlt).2 (.inr ho2))
                  unfold mkC
                  rw [if_neg fun h' => ho (onC_trans ((cy_on HF.out hlt).1 h') (onC_symm HF.out hzl ho2))]
                  exact hn
            have HNe : Hid ((cst (uB f z k) (q + 1)).2 = (cst (uB f z k) q).2 ++ [q] ∧ ∀ j, C2 j = (cst (uB f z k) (q + 1)).1 j) := by
              show _ ∧ _
              rw [HN.out]
              exact ⟨rfl, fun j => hC2 j⟩
            have HR1 : Hid (RG q = decide (perO f k q = WD q)) := by show _ = _; rw [HRG.out]
            have HW1 : Hid (WD q = if mi = true then wid0 f z k q else wid0 f z k q / 2) := by show _ = _; rw [HWD.out]; cases mi <;> rfl
            have hc1 := hper.pos
            clear hI hC hC2 HN hper hper2
            generalize (cst (uB f z k) q).1 = C at *
            generalize (cst (uB f z k) q).2 = P at *
            generalize hC1e : mkC f C q P.length (perO f k q) = C1 at *
            clear hC1e
            generalize perO f k q = c1 at *
            rw [← hc2] at HW1
            clear hc2
            have hPl : P.length ≤ 1152 := by omega
            have HPush : Hid (ccs WD RG (P ++ [q]) = ccs WD RG P ++ [.int .i64 (q : Nat), .int .i64 (WD q : Nat), .bool (RG q)]) := ccs_push WD RG P q
            generalize WD q = v at *
            generalize RG q = rg at *
            have hc1i : ((c1 : Int) == 0) = false := by simp; omega
            have hrg : ((c1 : Int) == (v : Int)) = rg := by rw [HR1.out, Bool.eq_iff_iff]; simp; omega
            have hS1 := (HSr.out.2 q hlt)
            have hgq := HG.out.lt q hlt
            have hS2 := (HSr.out.2 (g q) hgq)
            rw [hzi] at hS2
            have HFacts : Hid (∀ {W : World} {C' : Nat → Int}, CV w W #[.slice (some ⟨bS, oS, none⟩) k cS, .slice (some ⟨bT, oT, none⟩) k cT] (pl + 1) (pl + 1 + 1) pl k C' (.slice A P.length c) P.length (ccs WD RG P) → W.cell? ⟨w.heap.size, 0, none⟩ = some (.slice (some ⟨bS, oS, none⟩) k cS) ∧ W.cell? ⟨bS, oS + q, none⟩ = some (.int .i64 (g q : Nat)) ∧ W.cell? ⟨bS, oS + g q, none⟩ = some (.int .i64 (z q : Nat))) := fun h =>
              ⟨(two_of_block h.x).1.1, (h.bel.cell (p := ⟨bS, oS + q, none⟩) HSr.out.1).trans hS1, (h.bel.cell (p := ⟨bS, oS + g q, none⟩) HSr.out.1).trans hS2⟩
            clear hS1 hS2
            clear hzi HZe
            generalize g q = gq at *
            generalize z q = zq at *
            have hgqi : (gq : Int) < (k : Int) := by omega
            have hzqi : (zq : Int) < (k : Int) := by omega
            go_upto_region 15 with (first
              | (go_at_call 74; ((with_reducible refine (HM1.out _ HV.out).mono ?_); rintro e w2 ⟨rfl, h2⟩; have HV2 := Lib.hid h2.drew; clear h2))
              | fail)
            have hwr : IntKind.i64.wrap ((c1 : Int) + (c2 : Int)) = (c1 : Int) + (c2 : Int) := IntWalk.i64_in _ (by omega)
            go_region_held3 (fun w' => w'.cell? ⟨w.heap.size, 0, none⟩ = some (.slice (some ⟨bS, oS, none⟩) k cS) ∧ w'.cell? ⟨bS, oS + q, none⟩ = some (.int .i64 (gq : Nat)) ∧ w'.cell? ⟨bS, oS + gq, none⟩ = some (.int .i64 (zq : Nat)))
              (with_reducible first | exact HFacts.out HV3.out | exact HFacts.out HV2.out | fail)
              (first
                | (go_at_call 74; ((with_reducible refine (HM2.out _ HV2.out).mono ?_); rintro e w3 ⟨rfl, h3⟩; have HV3 := Lib.hid h3; clear h3))
                | fail)
            have hown := HV3.out.own
            have HP3 : Hid (∀ {w4 : World} {o : Obj}, (w3.alloc o).grownBy w4 (Value.slice A P.length c).ownBlock → w4.heap[pl]? = some (.cells #[.slice A P.length c] 54 (0, 0))) := fun {w4 o} hg =>
              (hg.block pl (by have := lt_of_block HV3.out.bxl; simp; omega) (row_apart HV3.out.bxl HV3.out.own (by decide))).trans (block_alloc HV3.out.bxl o)
            have l3 := (one_of_block HV3.out.bxl).1
            have hzl3 := lt_of_block HV3.out.bxl
            have hsz3 := HV3.out.bel.size
            cases mi
            case false =>
              have hv : v = (c1 + c2) / 2 := HW1.out
              have hq2 : ((c1 : Int) + (c2 : Int)) / 2 = (v : Int) := by omega
              clear hv HW1
              go_wp2_with (first
                | (at_builtin; (refine wpList_append_own_at _ rfl _ _ 54 rfl w.heap.size 60 i0 (.agg #[.int .i64 0, .int .i64 0, .bool false]) 3 24 Try.underlying54 hi0 z0 z1 z2 rfl (by decide) _ _ _ rfl (hown.alloc _) ⟨w3.heap.size, 0, none⟩ 1 1 [.int .i64 (q : Nat), .int .i64 (v : Nat), .bool rg] rfl rfl (cell_three_new _ _ _ _ _ rfl) (fun x hx => by simp at hx; rcases hx with rfl | rfl | rfl <;> rfl) (by unfold maxLen; omega) (by omega) (by simp; omega) ?_); intro v' w4 hown4 hg4 hnil4 hat4; obtain ⟨A2, c4, rfl⟩ := own_len hown4; have HR4 := Lib.hid hown4; have HG4 : Hid ((w3.alloc (.cells #[.int .i64 (q : Nat), .int .i64 (v : Nat), .bool rg] 60)).grownBy w4 (Value.slice A P.length c).ownBlock) := hg4; have HP4 := Lib.hid (HP3.out hg4); have l4 := (one_of_block HP4.out).1; have f4 := (one_of_block HP4.out).2; have hz4 := lt_of_block HP4.out; clear hown4 hg4 hnil4 hat4)
                | fail)
              have hA2 : ∃ gg, A2 = some ⟨gg, 0, none⟩ := by
                rcases HR4.out.2 with ⟨_, h⟩ | ⟨gg, _, _, h, _⟩
                · omega
                · cases h; exact ⟨gg, rfl⟩
              obtain ⟨gg, rfl⟩ := hA2
              have HV5 := Lib.hid (HV3.out.push HR4.out HG4.out)
              go_roundw
              case rel => exact ⟨q + 1, some ⟨gg, 0, none⟩, c4, by go_num, hlt, by
                have h5 := HV5.out.congr fun j _ => HNe.out.2 j
                rw [HNe.out.1, HPush.out, List.length_append]
                exact h5⟩
              case measure => simp [intOf]; omega
            case true =>
              have hv : v = c1 + c2 := HW1.out
              have hq2 : (c1 : Int) + (c2 : Int) = (v : Int) := by omega
              clear hv HW1
              go_wp2_with (first
                | (at_builtin; (refine wpList_append_own_at _ rfl _ _ 54 rfl w.heap.size 60 i0 (.agg #[.int .i64 0, .int .i64 0, .bool false]) 3 24 Try.underlying54 hi0 z0 z1 z2 rfl (by decide) _ _ _ rfl (hown.alloc _) ⟨w3.heap.size, 0, none⟩ 1 1 [.int .i64 (q : Nat), .int .i64 (v : Nat), .bool rg] rfl rfl (cell_three_new _ _ _ _ _ rfl) (fun x hx => by simp at hx; rcases hx with rfl | rfl | rfl <;> rfl) (by unfold maxLen; omega) (by omega) (by simp; omega) ?_); intro v' w4 hown4 hg4 hnil4 hat4; obtain ⟨A2, c4, rfl⟩ := own_len hown4; have HR4 := Lib.hid hown4; have HG4 : Hid ((w3.alloc (.cells #[.int .i64 (q : Nat), .int .i64 (v : Nat), .bool rg] 60)).grownBy w4 (Value.slice A P.length c).ownBlock) := hg4; have HP4 := Lib.hid (HP3.out hg4); have l4 := (one_of_block HP4.out).1; have f4 := (one_of_block HP4.out).2; have hz4 := lt_of_block HP4.out; clear hown4 hg4 hnil4 hat4)
                | fail)
              have hA2 : ∃ gg, A2 = some ⟨gg, 0, none⟩ := by
                rcases HR4.out.2 with ⟨_, h⟩ | ⟨gg, _, _, h, _⟩
                · omega
                · cases h; exact ⟨gg, rfl⟩
              obtain ⟨gg, rfl⟩ := hA2
              have HV5 := Lib.hid (HV3.out.push HR4.out HG4.out)
              go_roundw
              case rel => exact ⟨q + 1, some ⟨gg, 0, none⟩, c4, by go_num, hlt, by
                have h5 := HV5.out.congr fun j _ => HNe.out.2 j
                rw [HNe.out.1, HPush.out, List.length_append]
                exact h5⟩
              case measure => simp [intOf]; omega
        · obtain rfl : q = k := by omega
          have hk2 : ¬ (q : Int) < (q : Int) := by omega
          have l1 := (one_of_block HV.out.bxc).1
          have l2 := (one_of_block HV.out.bxl).1
          have l1' := fun N => (show (wr.drewN N).cell? ⟨pl + 1 + 1, 0, none⟩ = _ from l1)
          have l2' := fun N => (show (wr.drewN N).cell? ⟨pl, 0, none⟩ = _ from l2)
          clear hzi
          go_wp2
          go_quiet (fail)
          go_wp2
          have h9 := HZe.out
          subst h9
          refine bodyPost_ret (v := .tuple #[.slice A (cst (uB f (fun i => g (g i)) q) q).2.length c, .slice (some ⟨pl + 1, 0, none⟩) q q]) ?_ rfl ⟨A, c, pl + 1, rfl, (HV.out.drewN _).own, (HV.out.drewN _).row, (HV.out.drewN _).bel⟩
          simp [results, Try.results54, go_sem]
end Go.Proofs.Ytmikhkolbkdnpaa
namespace Go.Proofs.Ytmikhkolbkdnpaa
open Go.RowKit
set_option linter.unusedVariables false
set_option linter.unusedSimpArgs false

theorem cyL_succ (f : Nat → Nat) (i k : Nat) : cyL f i (k + 1) = cyL f i k ++ [itr f k i] := by simp [cyL, List.range_succ]
theorem cyL_len (f : Nat → Nat) (i k : Nat) : (cyL f i k).length = k := by simp [cyL]
set_option maxHeartbeats 3200000 in
set_option maxRecDepth 1000000 in
theorem rcycle_any {f : Nat → Nat} {n i c bT oT cT : Nat} (w : World) (hT : RdN w w.heap.size bT oT n f) (hp : Prm f n) (hi : i < n) (hc : IsPer f i c) (hcn : c ≤ n) (hn : n ≤ 1152) :
    Calls Try.prog 57 #[.slice (some ⟨bT, oT, none⟩) n cT, .int .i64 (i : Nat)] w fun e w' => ∃ g cc, e = .returned (.slice (some ⟨g, 0, none⟩) c cc) ∧ w'.ownsRow w.heap.size 3 1 (.slice (some ⟨g, 0, none⟩) c cc) c (zs (iz (cyL f i c))) ∧ Below w.heap.size w w' := by
  obtain ⟨i0, hi0, z0, z1, z2⟩ := info_parts Try.infoInt
  have HT := Lib.hid hT
  have HP := Lib.hid hp
  have HPer := Lib.hid hc
  have hii : (i : Int) < (n : Int) := by omega
  have hc1 := hc.pos
  clear hT hp hc
  have c0 : (w.alloc (.cells #[.int .i64 (i : Nat)] 3)).cell? ⟨bT, oT + i, none⟩ = some (.int .i64 (f i : Nat)) := ((below1 w _).cell (p := ⟨bT, oT + i, none⟩) HT.out.1).trans (HT.out.2 i hi)
  have HO0 : Hid ((w.alloc (.cells #[.int .i64 (i : Nat)] 3)).ownsRow w.heap.size 3 1 (.slice (some ⟨w.heap.size, 0, none⟩) 1 1) 1 (zs (iz (cyL f i 1)))) :=
    ⟨rfl, .inr ⟨w.heap.size, 1, _, rfl, Nat.le_refl _, heap_alloc_new w _, Nat.le_refl _, by unfold maxLen; omega, rfl, rfl⟩⟩
  have HB0 : Hid (Below w.heap.size w (w.alloc (.cells #[.int .i64 (i : Nat)] 3))) := below1 w _
  go_enter Try.func57, Try.ntmps57
  go_wp2
  clear c0
  go_loopw [5, 6] (fun V I wr => ∃ (k g cc : Nat), V = .slice (some ⟨g, 0, none⟩) k cc ∧ I = .int .i64 (itr f k i : Nat) ∧ 1 ≤ k ∧ k ≤ c ∧ Hid (wr.ownsRow w.heap.size 3 1 (.slice (some ⟨g, 0, none⟩) k cc) k (zs (iz (cyL f i k)))) ∧ Hid (Below w.heap.size w wr)) (fun V _ _ => c - (match V with | .slice _ k _ => k | _ => 0))
  case atStart => exact ⟨1, _, _, rfl, rfl, Nat.le_refl _, hc1, HO0.out, HB0.out⟩
  case round =>
    clear HO0 HB0
    obtain ⟨k, g, cc, rfl, rfl, hk1, hk, HO, HB⟩ := hrel
    have hx := HP.out.itr_lt hi k
    have HS : Hid (itr f (k + 1) i = f (itr f k i)) := rfl
    have HCy : Hid (zs (iz (cyL f i (k + 1))) = zs (iz (cyL f i k)) ++ [.int .i64 (itr f k i : Nat)]) := by show _ = _; rw [cyL_succ, iz_append, zs_append]; rfl
    have hsz := HB.out.size
    by_cases hlt : k < c
    · have hne := HPer.out.least k hk1 hlt
      have hx2 := HP.out.lt _ hx
      generalize itr f k i = x at *
      have hnei : ((x : Int) == (i : Int)) = false := by simp; omega
      have hxi : (x : Int) < (n : Int) := by omega
      have hown := HO.out
      go_wp2_with (first
        | (at_builtin; (refine wpList_append_own_at _ rfl _ _ 22 rfl w.heap.size 3 i0 (.int .i64 0) 1 8 Try.underlying22 hi0 z0 z1 z2 rfl (by decide) _ _ _ rfl (hown.alloc _) ⟨wr.heap.size, 0, none⟩ 1 1 [.int .i64 (x : Nat)] rfl rfl (cell_one_new' _ _ _) (fun x hx => by simp at hx; rw [hx]; rfl) (by unfold maxLen; omega) (by omega) (by simp; omega) ?_); intro v' w4 hown4 hg4 hnil4 hat4; obtain ⟨A2, c2, rfl⟩ := own_len hown4; have HO4 := Lib.hid hown4; have HB4 : Hid (Below w.heap.size w w4) := (HB.out.alloc hsz _).grown hg4 (by simp; omega) (fun j hj => (HO.out.lt j hj).1); have s4 : w4.cell? ⟨bT, oT + x, none⟩ = some (.int .i64 (f x : Nat)) := (HB4.out.cell (p := ⟨bT, oT + x, none⟩) HT.out.1).trans (HT.out.2 x hx); clear hown4 hg4 hnil4 hat4)
        | fail)
      have hA2 : ∃ gg, A2 = some ⟨gg, 0, none⟩ := by
        rcases HO4.out.2 with ⟨_, h⟩ | ⟨gg, _, _, h, _⟩
        · omega
        · cases h; exact ⟨gg, rfl⟩
      obtain ⟨gg, rfl⟩ := hA2
      go_roundw
      case rel => exact ⟨k + 1, gg, c2, rfl, by rw [HS.out], by omega, hlt, by rw [HCy.out]; exact HO4.out, HB4.out⟩
      case measure => simp; omega
    · obtain rfl : k = c := by omega
      have hxe : itr f k i = i := HPer.out.back
      rw [hxe]
      have hee : ((i : Int) == (i : Int)) = true := by simp
      go_wp2
      go_ret
      exact ⟨g, cc, rfl, HO.out, HB.out⟩
/-- The append of a list that reads to an own row, as an operation of a drawn region. -/
theorem step_app2 {w : World} {ops : Array Oper} {o : Oper} {a : Act} {K : Act → World → Prop} {Q : Exit → Act → World → Prop} {E : Prop} {b2 o2 c base n0 l0 : Nat} {l xs : List Int} {v : Value} (hgd : o.guard = none) (s x : Operand)
    (ho : o.op = .call { callee := .builtin .append, args := #[s, x], argTypes := #[22, 22] })
    (hs : a.eval s = v) (hown : w.ownsRow base 3 1 v n0 (zs xs)) (hx : a.eval x = .slice (some ⟨b2, o2, none⟩) l0 c) (hl0 : l0 = l.length) (hr : ∀ k (h : k < l.length), w.cell? ⟨b2, o2 + k, none⟩ = some (.int .i64 l[k])) (hl : l.length ≤ 2000) (hn0 : n0 ≤ 2000) (hbase : base ≤ w.heap.size)
    (h : ∀ v' w', w'.ownsRow base 3 1 v' (n0 + l.length) (zs (xs ++ l)) → w.grownBy w' v.ownBlock → K (a.put o.dst v') w') : if Region.wanted o (yielded ops a.tmps) = true then Oper.wp Try.prog o a w K Q else E := by
  obtain ⟨i0, hi, hz0, hz1, hz2⟩ := info_parts Try.infoInt
  subst hl0
  rw [if_pos (show Region.wanted o (yielded ops a.tmps) = true by simp [Region.wanted, hgd])]
  refine wp_append_own w s x 22 ho base 3 i0 (.int .i64 0) 1 8 Try.underlying22 hi hz0 hz1 hz2 rfl (by decide) v n0 (zs xs) hs hown ⟨b2, o2, none⟩ l.length c (zs l) hx (by simp [zs]) (fun j u hj => ?_) (fun u hu => ?_) (by unfold maxLen; omega) (by omega) hbase fun v' w' h1 h2 _ => h v' w' (by rw [zs_append]; exact h1) h2
  · have hjl : j < l.length := by
      have := (List.getElem?_eq_some_iff.1 hj).1
      simpa [zs] using this
    rw [zs_get l j hjl] at hj
    rw [show (⟨b2, o2, none⟩ : Addr).add j = ⟨b2, o2 + j, none⟩ by unfold Addr.add; split <;> simp_all, hr j hjl]
    exact hj
  · obtain ⟨x', _, rfl⟩ := List.mem_map.1 hu
    rfl
/-- The reference's box of classes, its list of least points, the box of the action. -/
structure RV (w wr : World) (xs : Array Value) (bo n : Nat) (C : Nat → Int) (v : Value) (P : List Nat) : Prop where
  row : wr.rowIs bo 3 n (fun j => .int .i64 (C j + 1))
  own : wr.ownsRow w.heap.size 3 1 v P.length (zs (iz P))
  x : wr.heap[w.heap.size]? = some (.cells xs 24 (0, 0))
  bel : Below w.heap.size w wr
  lb : w.heap.size ≤ bo
  ne : some bo ≠ v.ownBlock
section
variable {w wr w' : World} {xs : Array Value} {bo n : Nat} {C : Nat → Int} {v v' : Value} {P : List Nat}
theorem RV.below (h : RV w wr xs bo n C v P) (hb : Below wr.heap.size wr w') : RV w w' xs bo n C v P :=
  ⟨h.row.of_block (hb.block bo h.row.lt), own_below h.own hb, block_below h.x hb, bel0 h.bel hb, h.lb, h.ne⟩
theorem RV.congr (h : RV w wr xs bo n C v P) {D : Nat → Int} (e : ∀ j, j < n → C j = D j) : RV w wr xs bo n D v P := ⟨h.row.congr fun j hj => by rw [e j hj], h.own, h.x, h.bel, h.lb, h.ne⟩
theorem RV.set (h : RV w wr xs bo n C v P) (x : Nat) (a : Int) : RV w (wr.setCell ⟨bo, x, none⟩ (.int .i64 (a + 1))) xs bo n (fun j => if j = x then a else C j) v P := by
  obtain ⟨c, hc, h1, h2⟩ := h.row
  have row : wr.rowIs bo 3 n (fun j => .int .i64 (C j + 1)) := ⟨c, hc, h1, h2⟩
  refine ⟨World.rowIs.congr (row.set x _) fun j _ => (by by_cases e : j = x <;> simp [e]), ?_, set_ne h.x (ty_apart h.x hc (by decide)) _, h.bel.setCell h.lb _, h.lb, h.ne⟩
  exact h.own.kept (row := some bo) ⟨rfl, rfl, rfl, by simp, fun k _ hk => Below.heap_setCell wr ⟨bo, x, none⟩ _ k (fun e => hk (by rw [e]))⟩ (.inr fun e => h.ne e.symm)
theorem RV.push (h : RV w wr xs bo n C v P) {p : Nat} {o : Obj} (hown : w'.ownsRow w.heap.size 3 1 v' (P.length + 1) (zs (iz P) ++ [.int .i64 (p : Nat)])) (hg : (wr.alloc o).grownBy w' v.ownBlock) (hat : v'.ownBlock = v.ownBlock ∨ v'.ownBlock = some (wr.alloc o).heap.size) : RV w w' xs bo n C v' (P ++ [p]) := by
  have hlt := h.row.lt
  refine ⟨h.row.of_block ?_, by rw [List.length_append, iz_append, zs_append]; exact hown, ?_, ?_, h.lb, ?_⟩
  · rw [hg.block bo (by simp; omega) h.ne, Below.heap_alloc _ _ _ hlt]
  · exact (hg.block _ (by have := lt_of_block h.x; simp; omega) (row_apart h.x h.own (by decide))).trans (block_alloc h.x o)
  · exact (h.bel.alloc h.bel.size o).grown hg (by have := h.bel.size; simp; omega) fun j hj => (h.own.lt j hj).1
  · rcases hat with e | e
    · rw [e]; exact h.ne
    · rw [e]; simp; omega
end
theorem rv_start (w : World) (a b : Value) (n : Nat) : RV w ((w.alloc (.cells #[a, b] 24)).alloc (.cells (madeCells #[.int .i64 0] n) 3)) #[a, b] (w.heap.size + 1) n (fun _ => -1) (.slice none 0 0) [] := by
  have hr := World.rowIs_made (w.alloc (.cells #[a, b] 24)) (.int .i64 0) n 3
  exact ⟨by simpa using hr, World.ownsRow_nil _ _ _ _, block_alloc (heap_alloc_new w _) _, below2 w _ _, by omega, by simp [Value.ownBlock]⟩
/-- The marks behind k entries of a list. -/
def mkL (C : Nat → Int) (m : Nat) (l : List Nat) (j : Nat) : Int := if l.contains j = true then (m : Int) else C j
theorem mkL_push (C : Nat → Int) (m : Nat) (l : List Nat) (x j : Nat) : mkL C m (l ++ [x]) j = if j = x then (m : Int) else mkL C m l j := by
  unfold mkL
  by_cases e : j = x
  · subst e; simp
  · have : (l ++ [x]).contains j = l.contains j := by
      rw [Bool.eq_iff_iff, List.contains_iff_mem, List.contains_iff_mem]; simp [e]
    rw [this, if_neg e]
theorem mkL_u (f z : Nat → Nat) (n i m : Nat) (C : Nat → Int) (j : Nat) : mkL C m (cyL f i (perO f n i) ++ cyL f (z i) (perO f n (z i))) j = if uB f z n i j = true then (m : Int) else C j := by
  unfold mkL uB
  have : (cyL f i (perO f n i) ++ cyL f (z i) (perO f n (z i))).contains j = ((cyL f i (perO f n i)).contains j || (cyL f (z i) (perO f n (z i))).contains j) := by
    rw [Bool.eq_iff_iff, Bool.or_eq_true]
    simp only [List.contains_iff_mem, List.mem_append]
  rw [this]
theorem addr_add2 (b o k : Nat) : (⟨b, o, none⟩ : Addr).add k = ⟨b, o + k, none⟩ := by unfold Addr.add; split <;> simp_all
set_option maxHeartbeats 6400000 in
set_option maxRecDepth 1000000 in
theorem rclasses_any {S T : List Int} {B bS oS bT oT cS cT : Nat} (w : World) (h : AI w B bS oS bT oT S T cS cT) :
    Calls Try.prog 56 #[.agg #[.slice (some ⟨bS, oS, none⟩) S.length cS, .slice (some ⟨bT, oT, none⟩) S.length cT]] w fun e w' => ∃ A c bo, e = .returned (.tuple #[.slice (some ⟨bo, 0, none⟩) S.length S.length, .slice A (cst (uB (fnz T) (fun i => fnz S (fnz S i)) S.length) S.length).2.length c]) ∧
      w'.ownsRow w.heap.size 3 1 (.slice A (cst (uB (fnz T) (fun i => fnz S (fnz S i)) S.length) S.length).2.length c) (cst (uB (fnz T) (fun i => fnz S (fnz S i)) S.length) S.length).2.length (zs (iz (cst (uB (fnz T) (fun i => fnz S (fnz S i)) S.length) S.length).2)) ∧
      w'.rowIs bo 3 S.length (fun j => .int .i64 ((cst (uB (fnz T) (fun i => fnz S (fnz S i)) S.length) S.length).1 j + 1)) ∧ Below w.heap.size w w' := by
  obtain ⟨i0, hi0, z0, z1, z2⟩ := info_parts Try.infoInt
  have hg := h.act.ps
  have hf := h.act.pt
  have hz := rel_inv hg hf h.act.rel
  have hpos : 0 < S.length := h.act.pos
  have hle := h.act.le
  have HI := Lib.hid (fun k (hk : k ≤ S.length) => cst_inv hf hz k hk)
  have HSr : Hid (RdN w w.heap.size bS oS S.length (fnz S)) := h.s.mono h.le
  have HTr : Hid (RdN w w.heap.size bT oT S.length (fnz T)) := h.t.mono h.le
  have hmk := fun W => mk_int S.length W hle
  clear h
  generalize hfe : fnz T = f at *
  generalize hge : fnz S = g at *
  generalize S.length = n at *
  have HG := Lib.hid hg
  have HF := Lib.hid hf
  have HZ := Lib.hid hz
  clear hg hf hz hfe hge
  have HV1 := Lib.hid (rv_start w (.slice (some ⟨bS, oS, none⟩) n cS) (.slice (some ⟨bT, oT, none⟩) n cT) n)
  go_enter Try.func56, Try.ntmps56
  go_wp2
  obtain ⟨W0, hW0⟩ : ∃ W0, W0 = (w.alloc (.cells #[.slice (some ⟨bS, oS, none⟩) n cS, .slice (some ⟨bT, oT, none⟩) n cT] 24)).alloc (.cells (madeCells #[.int .i64 0] n) 3) := ⟨_, rfl⟩
  rw [← hW0] at HV1 ⊢
  clear hW0 hmk
  obtain ⟨z, hze⟩ : ∃ z : Nat → Nat, z = fun i => g (g i) := ⟨_, rfl⟩
  have HZe := Lib.hid hze
  have HZi : Hid (∀ i, g (g i) = z i) := fun i => by rw [hze]
  rw [← hze] at HI HZ
  clear hze
  have HIu : Hid (∀ j, j ≤ n → CI (uB f z n) n j (cst (uB f z n) j)) := HI
  go_loopw [5, 6, 7, 8] (fun V I _ _ wr => ∃ (q : Nat) (A : Option Addr) (c : Nat), V = .slice A (cst (uB f z n) q).2.length c ∧ I = .int .i64 q ∧ q ≤ n ∧ Hid (RV w wr #[.slice (some ⟨bS, oS, none⟩) n cS, .slice (some ⟨bT, oT, none⟩) n cT] (w.heap.size + 1) n (cst (uB f z n) q).1 (.slice A (cst (uB f z n) q).2.length c) (cst (uB f z n) q).2)) (fun _ I _ _ _ => n - (intOf I).toNat)
  case atStart => exact ⟨0, _, _, rfl, rfl, Nat.zero_le _, HV1.out⟩
  case round =>
    clear HV1
    obtain ⟨q, A, c, rfl, rfl, hq, HV⟩ := hrel
    by_cases hlt : q < n
    · have hqi : (q : Int) < (n : Int) := by omega
      have hI := HIu.out q hq
      have hlen := hI.len
      have hcs := HV.out.row.cell (i := q) hlt
      by_cases hC : 0 ≤ (cst (uB f z n) q).1 q
      · have HO := Lib.hid (cst_old hC)
        have hpos1 : 0 < (cst (uB f z n) q).1 q + 1 := by omega
        clear hI hlen hC
        generalize (cst (uB f z n) q).1 q + 1 = y at *
        go_wp2
        go_roundw
        case rel => exact ⟨q + 1, A, c, by rw [HO.out], by go_num, hlt, by rw [HO.out]; exact HV.out⟩
        case measure => simp [intOf]; omega
      · obtain ⟨hper, hperle⟩ := perO_spec HF.out hlt
        have hzl := HZ.out.lt q hlt
        obtain ⟨hper2, hperle2⟩ := perO_spec HF.out hzl
        have hy0 : (cst (uB f z n) q).1 q + 1 = 0 := by rcases hI.rng q with h | h <;> omega
        have HN := Lib.hid (cst_new hC)
        have HNe : Hid ((cst (uB f z n) (q + 1)).2 = (cst (uB f z n) q).2 ++ [q] ∧ ∀ j, mkL (cst (uB f z n) q).1 (cst (uB f z n) q).2.length (cyL f q (perO f n q) ++ cyL f (z q) (perO f n (z q))) j = (cst (uB f z n) (q + 1)).1 j) := by
          show _ ∧ _
          rw [HN.out]
          exact ⟨rfl, fun j => mkL_u f z n q _ _ j⟩
        rw [hy0] at hcs
        clear hI hC hy0 HN
        have HC1 := Lib.hid (fun (W : World) (hb : Below w.heap.size w W) => rcycle_any (cT := cT) W ((HTr.out.below hb).mono hb.size) HF.out hlt hper hperle hle)
        have HC2 := Lib.hid (fun (W : World) (hb : Below w.heap.size w W) => rcycle_any (cT := cT) W ((HTr.out.below hb).mono hb.size) HF.out hzl hper2 hperle2 hle)
        have hc1 := hper.pos
        have hc2 := hper2.pos
        have hL1 := cyL_len f q (perO f n q)
        have hL2 := cyL_len f (z q) (perO f n (z q))
        have HLb : Hid (∀ x ∈ cyL f q (perO f n q) ++ cyL f (z q) (perO f n (z q)), x < n) := fun x hx => by
          rcases List.mem_append.1 hx with hx | hx
          · exact onC_bd HF.out hlt ((cyL_mem hper).1 hx)
          · exact onC_bd HF.out hzl ((cyL_mem hper2).1 hx)
        clear hper hper2
        generalize (cst (uB f z n) q).1 = C at *
        generalize (cst (uB f z n) q).2 = P at *
        generalize cyL f q (perO f n q) = l1 at *
        generalize cyL f (z q) (perO f n (z q)) = l2 at *
        generalize perO f n q = c1 at *
        generalize perO f n (z q) = c2 at *
        have hgq := HG.out.lt q hlt
        have HS1 := Lib.hid (HSr.out.2 q hlt)
        have HS2 := Lib.hid (HSr.out.2 (g q) hgq)
        rw [HZi.out] at HS2
        have hown := HV.out.own
        have hsz := HV.out.bel.size
        go_upto_region 8 with (first
          | (at_builtin; (refine wpList_append_own_at _ rfl _ _ 22 rfl w.heap.size 3 i0 (.int .i64 0) 1 8 Try.underlying22 hi0 z0 z1 z2 rfl (by decide) _ _ _ rfl (hown.alloc _) ⟨wr.heap.size, 0, none⟩ 1 1 [.int .i64 (q : Nat)] rfl rfl (cell_one_new' _ _ _) (fun x hx => by simp at hx; rw [hx]; rfl) (by unfold maxLen; omega) (by omega) (by simp; omega) ?_); intro v' w4 hown4 hg4 hnil4 hat4; obtain ⟨A2, c4, rfl⟩ := own_len hown4; have HV4 := Lib.hid (HV.out.push hown4 hg4 hat4); clear hown4 hg4 hnil4 hat4)
          | fail)
        have HV5 := Lib.hid (HV4.out.below ((Below.refl _ w4).drew))
        have HFx : Hid (∀ {W : World} {C' : Nat → Int} {v' : Value} {P' : List Nat}, RV w W #[.slice (some ⟨bS, oS, none⟩) n cS, .slice (some ⟨bT, oT, none⟩) n cT] (w.heap.size + 1) n C' v' P' → (W.cell? ⟨w.heap.size, 0, none⟩ = some (.slice (some ⟨bS, oS, none⟩) n cS) ∧ W.cell? ⟨w.heap.size, 1, none⟩ = some (.slice (some ⟨bT, oT, none⟩) n cT)) ∧ W.cell? ⟨bS, oS + q, none⟩ = some (.int .i64 (g q : Nat)) ∧ W.cell? ⟨bS, oS + g q, none⟩ = some (.int .i64 (z q : Nat))) := fun h =>
          ⟨(two_of_block h.x).1, (h.bel.cell (p := ⟨bS, oS + q, none⟩) HSr.out.1).trans HS1.out, (h.bel.cell (p := ⟨bS, oS + g q, none⟩) HSr.out.1).trans HS2.out⟩
        clear HS1 HS2
        have hgqi : (g q : Int) < (n : Int) := by omega
        have hzqi : (z q : Int) < (n : Int) := by omega
        generalize g q = gq at *
        generalize z q = zq at *
        have hL2i : (iz l2).length = c2 := by rw [iz_len]; exact hL2
        have hl2le : l2.length ≤ 1152 := by omega
        have hw4 : w4.drew.heap.size = w4.heap.size := rfl
        have H4sz : Hid (w.heap.size + 1 < w4.heap.size) := HV4.out.row.lt
        go_region_held3 (fun w' => (w'.cell? ⟨w.heap.size, 0, none⟩ = some (.slice (some ⟨bS, oS, none⟩) n cS) ∧ w'.cell? ⟨w.heap.size, 1, none⟩ = some (.slice (some ⟨bT, oT, none⟩) n cT)) ∧ w'.cell? ⟨bS, oS + q, none⟩ = some (.int .i64 (gq : Nat)) ∧ w'.cell? ⟨bS, oS + gq, none⟩ = some (.int .i64 (zq : Nat)))
          (with_reducible first | exact HFx.out HV8.out | exact HFx.out HV7.out | exact HFx.out HV6.out | exact HFx.out HV5.out | fail)
          (first
            | (go_at_call 57; ((with_reducible refine (HC1.out _ HV5.out.bel).mono ?_); rintro e w5 ⟨g1, cc1, rfl, ho1, hb1⟩; have HV6 := Lib.hid (HV5.out.below hb1); have HO1 := Lib.hid ho1; have HB1 := Lib.hid hb1; clear ho1 hb1))
            | (go_at_call 57; ((with_reducible refine (HC2.out _ HV6.out.bel).mono ?_); rintro e w6 ⟨g2, cc2, rfl, ho2, hb2⟩; have HV7 := Lib.hid (HV6.out.below hb2); have HO1' := Lib.hid (own_below HO1.out hb2); have HB2 := Lib.hid (bel0 HB1.out hb2); obtain ⟨A9, c9, e9, hr9⟩ := own_rdz (F := iz l2) (by rw [hL2i]; exact ho2); obtain ⟨b9, o9, e8, _, hr8⟩ := hr9.2.2.1 (by rw [hL2i]; exact hc2); have HR9 : Hid (b9 = g2 ∧ o9 = 0 ∧ ∀ k (h : k < (iz l2).length), w6.cell? ⟨g2, 0 + k, none⟩ = some (.int .i64 (iz l2)[k])) := (by rw [e8] at e9; simp at e9; obtain ⟨⟨rfl, rfl⟩, _⟩ := e9; exact ⟨rfl, rfl, hr8⟩); clear ho2 hb2 hr9 hr8 e8 e9 A9 c9))
            | (refine step_app2 (v := .slice (some ⟨g1, 0, none⟩) c1 cc1) (l := iz l2) (xs := iz l1) rfl _ _ rfl rfl HO1'.out rfl hL2i.symm HR9.out.2.2 (by omega) (by omega) HB2.out.size ?_; intro v' w7 hown7 hg7; have HB7 : Hid (Below w4.drew.heap.size w4.drew w7) := HB2.out.trans (((Below.refl _ w6).grown hg7 HB2.out.size (fun j hj => (HO1'.out.lt j hj).1))); have HV8 := Lib.hid (HV5.out.below HB7.out); have HO7 := Lib.hid hown7; clear hown7 hg7)
            | fail)
        obtain ⟨L, hL⟩ : ∃ L, L = l1 ++ l2 := ⟨_, rfl⟩
        have hLl : L.length = c1 + c2 := by rw [hL, List.length_append, hL1, hL2]
        have HO8 : Hid (w7.ownsRow w4.drew.heap.size 3 1 v' L.length (zs (iz L))) := by
          have := HO7.out
          rw [hL2i, ← hLl, ← iz_append, ← hL] at this
          exact this
        rw [← hL] at HNe HLb
        obtain ⟨A7, c7, rfl⟩ := own_len HO8.out
        have hA7 : ∃ gg, A7 = some ⟨gg, 0, none⟩ := by
          rcases HO8.out.2 with ⟨_, h⟩ | ⟨gg, _, _, h, _⟩
          · omega
          · cases h; exact ⟨gg, rfl⟩
        obtain ⟨g7, rfl⟩ := hA7
        have hg7 := (HO8.out.lt g7 rfl).1
        clear hL HO7 HFx HC1 HC2 HR9 HO1' HO1 HB2 HB7 HV7 HV6 HV5
        go_wp2
        go_loopw [8] (fun I wi => ∃ (t : Nat), I = .int .i64 t ∧ t ≤ L.length ∧ Hid (RV w wi #[.slice (some ⟨bS, oS, none⟩) n cS, .slice (some ⟨bT, oT, none⟩) n cT] (w.heap.size + 1) n (mkL C P.length (L.take t)) (.slice A2 (P.length + 1) c4) (P ++ [q])) ∧ Hid (wi.ownsRow w4.drew.heap.size 3 1 (.slice (some ⟨g7, 0, none⟩) L.length c7) L.length (zs (iz L)))) (fun I _ => L.length - (intOf I).toNat)
        case atStart => exact ⟨0, rfl, Nat.zero_le _, HV8.out.congr fun j _ => by simp [mkL], HO8.out⟩
        case round =>
          clear HV8 HO8
          obtain ⟨t, rfl, ht, HV8, HO8⟩ := hrel
          by_cases htl : t < L.length
          · have hti : (t : Int) < (L.length : Int) := by omega
            have hx := HLb.out _ (List.getElem_mem htl)
            have hc := HO8.out.cells (g := g7) rfl _ _ (zs_get (iz L) t (by rw [iz_len]; exact htl))
            rw [addr_add2] at hc
            have hcell : wr.cell? ⟨g7, t, none⟩ = some (.int .i64 (L[t] : Nat)) := by rw [show (iz L)[t]'(by rw [iz_len]; exact htl) = ((L[t] : Nat) : Int) by simp [iz], Nat.zero_add] at hc; exact hc
            clear hc
            have HMk : Hid (∀ j, mkL C P.length (L.take (t + 1)) j = if j = L[t] then (P.length : Int) else mkL C P.length (L.take t) j) := fun j => by rw [List.take_succ_eq_append_getElem htl]; exact mkL_push C P.length _ _ j
            generalize L[t] = x at *
            have hxi : (x : Int) < (n : Int) := by omega
            have hfz := HV8.out.row.frozen x
            have hcx := HV8.out.row.cell (i := x) hx
            have H2 := Lib.hid (HV8.out.set x (P.length : Int))
            have HO9 := Lib.hid (own_set (j := x) HO8.out (show w.heap.size + 1 < w4.drew.heap.size from H4sz.out) (.int .i64 ((P.length : Int) + 1)))
            go_wp2
            go_roundw
            case rel => exact ⟨t + 1, by go_num, htl, H2.out.congr fun j _ => (HMk.out j).symm, HO9.out⟩
            case measure => simp [intOf]; omega
          · obtain rfl : t = L.length := by omega
            have ht2 : ¬ (L.length : Int) < (L.length : Int) := by omega
            have HT1 : Hid (L.take L.length = L) := List.take_length
            go_wp2
            go_roundw
            case rel => exact ⟨q + 1, A2, c4, by rw [HNe.out.1, List.length_append]; rfl, by go_num, hlt, by
              have h5 := HV8.out
              rw [HT1.out] at h5
              have h6 := h5.congr fun j _ => HNe.out.2 j
              rw [HNe.out.1, List.length_append]
              exact h6⟩
            case measure => simp [intOf]; omega
    · obtain rfl : q = n := by omega
      have hq2 : ¬ (q : Int) < (q : Int) := by omega
      go_wp2
      have h9 := HZe.out
      subst h9
      refine bodyPost_ret (v := .tuple #[.slice (some ⟨w.heap.size + 1, 0, none⟩) q q, .slice A (cst (uB f (fun i => g (g i)) q) q).2.length c]) ?_ rfl ⟨A, c, w.heap.size + 1, rfl, HV.out.own, HV.out.row, HV.out.bel⟩
      simp [results, Try.results56, go_sem]
end Go.Proofs.Ytmikhkolbkdnpaa
