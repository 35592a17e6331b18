/- The contract of cycles: the lengths of the cycles of a permutation. -/
import Derived.Test.YtmikhkolbkdnpaaAcM
import Derived.Test.YtmikhkolbkdnpaaClsM
namespace Go.Proofs.Ytmikhkolbkdnpaa
open Go.RowKit
set_option linter.unusedVariables false
set_option linter.unusedSimpArgs false

theorem inv2_id {f : Nat → Nat} {n : Nat} (hp : Prm f n) : Inv2 f (fun i => i) n := ⟨fun i hi => hi, fun i _ => rfl, fun i _ => rfl⟩
/-- The least points of the cycles, and the cycles' lengths. -/
def cyP (f : Nat → Nat) (n k : Nat) : List Nat := (cst (uB f (fun i => i) n) k).2
def cyN (f : Nat → Nat) (n : Nat) : List Nat := (cyP f n n).map (perO f n)
structure YV (w wr : World) (n : Nat) (C : Nat → Int) (v : Value) (L : List Nat) : Prop where
  row : wr.rowIs w.heap.size 4 n (fun j => .bool (decide (0 ≤ C j)))
  own : wr.ownsRow w.heap.size 3 1 v L.length (zs (iz L))
  bel : Below w.heap.size w wr
section
variable {w wr w' : World} {n : Nat} {C : Nat → Int} {v v' : Value} {L : List Nat}
theorem YV.ne (h : YV w wr n C v L) : some w.heap.size ≠ v.ownBlock := by
  intro e
  obtain ⟨_, hn | ⟨g', cap', cur, hv, _, hg2, _⟩⟩ := h.own
  · rw [hn.1] at e; cases e
  · subst hv
    injection e with e
    subst e
    obtain ⟨c, hc, _⟩ := h.row
    rw [hc] at hg2
    injection hg2 with h2
    injection h2 with _ h3
    exact absurd h3 (by decide)
theorem YV.congr (h : YV w wr n C v L) {D : Nat → Int} (e : ∀ j, j < n → C j = D j) : YV w wr n D v L := ⟨h.row.congr fun j hj => by rw [e j hj], h.own, h.bel⟩
theorem YV.set (h : YV w wr n C v L) (x m : Nat) : YV w (wr.setCell ⟨w.heap.size, x, none⟩ (.bool true)) n (fun j => if j = x then (m : Int) else C j) v L := by
  refine ⟨World.rowIs.congr (h.row.set x _) fun j _ => (by by_cases e : j = x <;> simp [e]), ?_, h.bel.setCell (Nat.le_refl _) _⟩
  exact h.own.kept (row := some w.heap.size) ⟨rfl, rfl, rfl, by simp, fun k _ hk => Below.heap_setCell wr ⟨w.heap.size, x, none⟩ _ k (fun e => hk (by rw [e]))⟩ (.inr fun e => h.ne e.symm)
theorem YV.push (h : YV w wr n C v L) {p : Nat} {o : Obj} (hown : w'.ownsRow w.heap.size 3 1 v' (L.length + 1) (zs (iz L) ++ [.int .i64 (p : Nat)])) (hg : (wr.alloc o).grownBy w' v.ownBlock) : YV w w' n C v' (L ++ [p]) := by
  have hlt := h.row.lt
  refine ⟨h.row.of_block ?_, by rw [List.length_append, iz_append, zs_append]; exact hown, ?_⟩
  · rw [hg.block _ (by simp; omega) h.ne, Below.heap_alloc _ _ _ hlt]
  · exact (h.bel.alloc h.bel.size o).grown hg (by have := h.bel.size; simp; omega) fun j hj => (h.own.lt j hj).1
end
theorem yv_start (w : World) (n : Nat) : YV w (w.alloc (.cells (madeCells #[.bool false] n) 4)) n (fun _ => -1) (.slice none 0 0) [] :=
  ⟨World.rowIs.congr (World.rowIs_made w (.bool false) n 4) fun j _ => by simp, World.ownsRow_nil _ _ _ _, below1 _ _⟩
set_option maxHeartbeats 3200000 in
set_option maxRecDepth 1000000 in
theorem cycles_any {f : Nat → Nat} {n bT oT cT : Nat} (w : World) (hT : RdN w w.heap.size bT oT n f) (hp : Prm f n) (hn : n ≤ 1152) :
    Calls Try.prog 36 #[.slice (some ⟨bT, oT, none⟩) n cT] w fun e w' => ∃ A c, e = .returned (.slice A (cyN f n).length c) ∧ w'.ownsRow w.heap.size 3 1 (.slice A (cyN f n).length c) (cyN f n).length (zs (iz (cyN f n))) ∧ Below w.heap.size w w' := by
  obtain ⟨i0, hi0, z0, z1, z2⟩ := info_parts Try.infoInt
  have hmk := fun W => mk_bool n W hn
  have HT := Lib.hid hT
  have HP := Lib.hid hp
  have HI : Hid (∀ k, k ≤ n → CI (uB f (fun i => i) n) n k (cst (uB f (fun i => i) n) k)) := fun k hk => cst_inv hp (inv2_id hp) k hk
  have HY0 := Lib.hid (yv_start w n)
  clear hT hp
  go_enter Try.func36, Try.ntmps36
  go_wp2
  clear hmk
  go_loopw [3, 5, 6, 7, 13] (fun V _ _ _ I wr => ∃ (k : Nat) (A : Option Addr) (c : Nat), V = .slice A (cyP f n k).length c ∧ I = .int .i64 k ∧ k ≤ n ∧ Hid (YV w wr n (cst (uB f (fun i => i) n) k).1 (.slice A (cyP f n k).length c) ((cyP f n k).map (perO f n)))) (fun _ _ _ _ I _ => n - (intOf I).toNat)
  case atStart => exact ⟨0, _, _, rfl, rfl, Nat.zero_le _, HY0.out⟩
  case round =>
    clear HY0
    obtain ⟨k, A, c, rfl, rfl, hk, HY⟩ := hrel
    by_cases hlt : k < n
    · have hki : (k : Int) < (n : Int) := by omega
      have hI := HI.out k hk
      have hlen : (cyP f n k).length ≤ k := hI.len
      by_cases hC : 0 ≤ (cst (uB f (fun i => i) n) k).1 k
      · have HO : Hid (cst (uB f (fun i => i) n) (k + 1) = cst (uB f (fun i => i) n) k) := cst_old hC
        have HOP : Hid (cyP f n (k + 1) = cyP f n k) := by show (cst _ (k + 1)).2 = _; rw [HO.out]; rfl
        have hcs := HY.out.row.cell (i := k) hlt
        rw [show decide (0 ≤ (cst (uB f (fun i => i) n) k).1 k) = true from decide_eq_true hC] at hcs
        clear hC hI
        go_wp2
        go_loopw [6, 7] (fun J X wi => J = .int .i64 0 ∧ X = .int .i64 k ∧ wi = wr) (fun _ _ _ => 0)
        case atStart => exact ⟨rfl, rfl, rfl⟩
        case round =>
          obtain ⟨rfl, rfl, rfl⟩ := hrel
          go_wp2
          go_roundw
          case rel => exact ⟨k + 1, A, c, by rw [HOP.out], by go_num, hlt, by rw [HO.out, HOP.out]; exact HY.out⟩
          case measure => simp [intOf]; omega
      · obtain ⟨hper, hperle⟩ := perO_spec HP.out hlt
        have HNe := Lib.hid (cst_new hC)
        have HNP : Hid (cyP f n (k + 1) = cyP f n k ++ [k]) := by show (cst _ (k + 1)).2 = _; rw [HNe.out]; rfl
        have HNC : Hid (∀ j, mkC f (cst (uB f (fun i => i) n) k).1 k (cyP f n k).length (perO f n k) j = (cst (uB f (fun i => i) n) (k + 1)).1 j) := fun j => by
          rw [mk_one (z := fun i => i) HP.out (inv2_id HP.out) hlt (onC_refl f k), HNe.out]; rfl
        have HNg : Hid (∀ j, j < n → onC f k j → (cst (uB f (fun i => i) n) k).1 j < 0) := fun j hj ho => neg_one HP.out (inv2_id HP.out) hI hlt hC hj ((uB_iff HP.out (inv2_id HP.out) hlt).2 (.inl ho))
        have HPer := Lib.hid hper
        have hc1 := hper.pos
        have HY0 : Hid (YV w wr n (mkC f (cst (uB f (fun i => i) n) k).1 k (cyP f n k).length 0) (.slice A (cyP f n k).length c) ((cyP f n k).map (perO f n))) := by rw [mkC_zero]; exact HY.out
        clear hI hC hper HNe HY
        generalize hCe : (cst (uB f (fun i => i) n) k).1 = C at *
        clear hCe
        generalize cyP f n k = P at *
        have HPp : Hid (perO f n k = perO f n k) := Lib.hid rfl
        obtain ⟨c1, hc1e⟩ : ∃ c1, c1 = perO f n k := ⟨_, rfl⟩
        have HC1 := Lib.hid hc1e
        rw [← hc1e] at HNC HPer hc1 hperle
        clear hc1e HPp
        go_wp2
        go_loopw [6, 7] (fun J X wi => ∃ (m : Nat), J = .int .i64 m ∧ X = .int .i64 (itr f m k : Nat) ∧ m ≤ c1 ∧ Hid (YV w wi n (mkC f C k P.length m) (.slice A P.length c) (P.map (perO f n)))) (fun J _ _ => c1 - (intOf J).toNat)
        case atStart => exact ⟨0, rfl, rfl, Nat.zero_le _, HY0.out⟩
        case round =>
          clear HY0
          obtain ⟨m, rfl, rfl, hm, HY⟩ := hrel
          have hx := HP.out.itr_lt hlt m
          have HEq : Hid (m < c1 → mkC f C k P.length m (itr f m k) = C (itr f m k)) := fun h => mkC_at HP.out hlt HPer.out h
          have HEnd : Hid (m = c1 → mkC f C k P.length m (itr f m k) = (P.length : Int)) := fun h => by subst h; exact mkC_end HPer.out
          have HNeg := Lib.hid (HNg.out _ hx ⟨m, rfl⟩)
          have HS : Hid (itr f (m + 1) k = f (itr f m k)) := rfl
          have HMk : Hid (∀ j, mkC f C k P.length (m + 1) j = if j = itr f m k then (P.length : Int) else mkC f C k P.length m j) := fun j => mkC_succ f C k P.length m j
          generalize itr f m k = x at *
          have hxi : (x : Int) < (n : Int) := by omega
          have hcs := HY.out.row.cell (i := x) hx
          have hfz := HY.out.row.frozen x
          by_cases hmc : m < c1
          · rw [HEq.out hmc, show decide (0 ≤ C x) = false from decide_eq_false (by have := HNeg.out; omega)] at hcs
            have H2 := Lib.hid (HY.out.set x P.length)
            have s2 : (wr.setCell ⟨w.heap.size, x, none⟩ (.bool true)).cell? ⟨bT, oT + x, none⟩ = some (.int .i64 (f x : Nat)) := (H2.out.bel.cell (p := ⟨bT, oT + x, none⟩) HT.out.1).trans (HT.out.2 x hx)
            go_wp2
            go_roundw
            case rel => exact ⟨m + 1, by go_num, by rw [HS.out], hmc, H2.out.congr fun j _ => (HMk.out j).symm⟩
            case measure => simp [intOf]; omega
          · obtain rfl : m = c1 := by omega
            rw [HEnd.out rfl, show decide (0 ≤ (P.length : Int)) = true from decide_eq_true (by omega)] at hcs
            have hm0 : 0 < (m : Int) := by omega
            have hown := HY.out.own
            rw [List.length_map] at hown
            have hsz := HY.out.bel.size
            go_wp2_with (first
              | (at_builtin; (refine wpList_append_own_at _ rfl _ _ 22 rfl w.heap.size 3 i0 (.int .i64 0) 1 8 Try.underlying22 hi0 z0 z1 z2 rfl (by decide) _ _ _ rfl (hown.alloc _) ⟨wr.heap.size, 0, none⟩ 1 1 [.int .i64 (m : Nat)] rfl rfl (cell_one_new' _ _ _) (fun x hx => by simp at hx; rw [hx]; rfl) (by unfold maxLen; omega) (by omega) (by simp; omega) ?_); intro v' w4 hown4 hg4 hnil4 hat4; obtain ⟨A2, c2, rfl⟩ := own_len hown4; have HN := Lib.hid (HY.out.push (by rw [List.length_map]; exact hown4) hg4); clear hown4 hg4 hnil4 hat4)
              | fail)
            go_roundw
            case rel => exact ⟨k + 1, A2, c2, by rw [HNP.out, List.length_append]; rfl, by go_num, hlt, by
              have h5 := HN.out.congr fun j _ => HNC.out j
              rw [HNP.out, List.length_append, List.map_append]
              have e : List.map (perO f n) [k] = [m] := by rw [HC1.out]; rfl
              rw [e]
              exact h5⟩
            case measure => simp [intOf]; omega
    · obtain rfl : k = n := by omega
      have hk2 : ¬ (k : Int) < (k : Int) := by omega
      have HE : Hid ((cyN f k).length = (cyP f k k).length) := by show ((cyP f k k).map _).length = _; rw [List.length_map]
      have h9 : YV w wr k (cst (uB f (fun i => i) k) k).1 (.slice A (cyP f k k).length c) (cyN f k) := HY.out
      have h10 := h9.own
      have HO := Lib.hid h10
      have HB := Lib.hid h9.bel
      clear h9 h10 HY
      go_wp2
      refine bodyPost_ret (v := .slice A (cyP f k k).length c) ?_ rfl ⟨A, c, by rw [HE.out], by rw [HE.out] at HO ⊢; exact HO.out, HB.out⟩
      simp [results, Try.results36, go_sem]
end Go.Proofs.Ytmikhkolbkdnpaa
