/- The contract of the reference's breadth-first search. -/
import Derived.Test.YtmikhkolbkdnpaaSeaL
namespace Go.Proofs.Ytmikhkolbkdnpaa
open Go.RowKit
set_option linter.unusedVariables false
set_option linter.unusedSimpArgs false

structure VR (w wr : World) (xs : Array Value) (bb n : Nat) (v : Value) (L : List Nat) : Prop where
  sv : SV w wr bb n v L
  x : wr.heap[w.heap.size]? = some (.cells xs 24 (0, 0))
theorem VR.drewN {w wr : World} {xs : Array Value} {bb n : Nat} {v : Value} {L : List Nat} (h : VR w wr xs bb n v L) (m : Nat) : VR w (wr.drewN m) xs bb n v L := ⟨h.sv.drewN m, h.x⟩
theorem VR.push {w wr w' : World} {xs : Array Value} {bb n x : Nat} {v v' : Value} {L : List Nat} {o : Obj} (h : VR w wr xs bb n v L) (hx : x ∉ L) (hown : w'.ownsRow w.heap.size 3 1 v' (L.length + 1) (zs (iz L) ++ [.int .i64 (x : Nat)])) (hg : ((wr.setCell ⟨bb, x, none⟩ (.bool true)).alloc o).grownBy w' v.ownBlock) : VR w w' xs bb n v' (vis L x) := by
  refine ⟨h.sv.push hx hown hg, ?_⟩
  have hkb : w.heap.size ≠ bb := by
    intro e
    obtain ⟨c', hc', _⟩ := h.sv.row
    rw [← e, h.x] at hc'
    injection hc' with hc'
    injection hc' with _ h3
    exact absurd h3 (by decide)
  have hc1 := set_ne (j := x) h.x hkb (.bool true)
  have hk := lt_of_block hc1
  refine (hg.block _ (by simp at hk ⊢; omega) ?_).trans (block_alloc hc1 o)
  intro e
  obtain ⟨_, hn | ⟨g', cap', cur, hv, _, hg2, _⟩⟩ := h.sv.own
  · rw [hn.1] at e; cases e
  · subst hv
    injection e with e
    subst e
    rw [h.x] at hg2
    injection hg2 with h2
    injection h2 with _ h3
    exact absurd h3 (by decide)
def rs3 (w : World) (a b : Value) (n : Nat) : World := (w.alloc (.cells #[a, b] 24)).alloc (.cells (madeCells #[.bool false] n) 4)
theorem rs3_row (w : World) (a b : Value) (n : Nat) : (rs3 w a b n).rowIs (w.heap.size + 1) 4 n (fun _ => .bool false) := by
  have hr := World.rowIs_made (w.alloc (.cells #[a, b] 24)) (.bool false) n 4
  simpa [rs3] using hr
theorem rs3_vr (w : World) (a b : Value) (i n : Nat) : VR w (((rs3 w a b n).setCell ⟨w.heap.size + 1, i, none⟩ (.bool true)).alloc (.cells #[.int .i64 (i : Nat)] 3)) #[a, b] (w.heap.size + 1) n (.slice (some ⟨w.heap.size + 1 + 1, 0, none⟩) 1 1) [i] := by
  have k0 : (rs3 w a b n).heap[w.heap.size]? = some (.cells #[a, b] 24 (0, 0)) := block_alloc (heap_alloc_new _ _) _
  have ks : (rs3 w a b n).heap.size = w.heap.size + 1 + 1 := by simp [rs3]
  have kb : Below w.heap.size w (rs3 w a b n) := below2 w _ _
  have hr2 : ((rs3 w a b n).setCell ⟨w.heap.size + 1, i, none⟩ (.bool true)).rowIs (w.heap.size + 1) 4 n (fun j => .bool (decide (j ∈ [i]))) := by
    refine World.rowIs.congr (World.rowIs.set (rs3_row w a b n) i (.bool true)) fun j _ => ?_
    by_cases e : j = i
    · simp [e]
    · simp [e]
  have k1 : (((rs3 w a b n).setCell ⟨w.heap.size + 1, i, none⟩ (.bool true)).alloc (.cells #[.int .i64 (i : Nat)] 3)).heap[w.heap.size + 1 + 1]? = some (.cells #[.int .i64 (i : Nat)] 3 (0, 0)) := by
    have := heap_alloc_new ((rs3 w a b n).setCell ⟨w.heap.size + 1, i, none⟩ (.bool true)) (.cells #[.int .i64 (i : Nat)] 3)
    simpa [ks] using this
  exact ⟨⟨⟨rfl, .inr ⟨w.heap.size + 1 + 1, 1, _, rfl, by omega, k1, by simp, by unfold maxLen; omega, rfl, rfl⟩⟩, hr2.alloc _, (kb.setCell (by show _ ≤ w.heap.size + 1; omega) _).alloc (by simp [ks]; omega) _, by omega⟩, block_alloc (set_ne k0 (by omega) _) _⟩
/-- The list behind j of the round's two steps. -/
def lst2 (g f : Nat → Nat) (L : List Nat) (x : Nat) : Nat → List Nat
  | 0 => L
  | 1 => vis L (g x)
  | _ => vis (vis L (g x)) (f x)
def to2 (g f : Nat → Nat) (x : Nat) : Nat → Nat
  | 0 => g x
  | _ => f x
theorem lst2_step (g f : Nat → Nat) (L : List Nat) (x : Nat) : ∀ j, j < 2 → lst2 g f L x (j + 1) = vis (lst2 g f L x j) (to2 g f x j)
  | 0, _ => rfl
  | 1, _ => rfl
theorem lst2_len (g f : Nat → Nat) (L : List Nat) (x : Nat) : ∀ j, j ≤ 2 → L.length ≤ (lst2 g f L x j).length ∧ (lst2 g f L x j).length ≤ (vis (vis L (g x)) (f x)).length
  | 0, _ => ⟨Nat.le_refl _, Nat.le_trans (vis_len _ _) (vis_len _ _)⟩
  | 1, _ => ⟨vis_len _ _, vis_len _ _⟩
  | 2, _ => ⟨Nat.le_trans (vis_len _ _) (vis_len _ _), Nat.le_refl _⟩
theorem lst2_get {g f : Nat → Nat} {L : List Nat} {x k : Nat} (hk : k < L.length) : ∀ j, j ≤ 2 → (lst2 g f L x j).getD k 0 = L.getD k 0
  | 0, _ => rfl
  | 1, _ => vis_get hk
  | 2, _ => (vis_get (Nat.lt_of_lt_of_le hk (vis_len _ _))).trans (vis_get hk)
set_option maxHeartbeats 3200000 in
set_option maxRecDepth 1000000 in
theorem rsearch_any {g f : Nat → Nat} {n bS oS bT oT cS cT i : Nat} (w : World) (hs : RdN w w.heap.size bS oS n g) (ht : RdN w w.heap.size bT oT n f) (hg : Prm g n) (hf : Prm f n) (hi : i < n) (hn : n ≤ 1152) :
    Calls Try.prog 76 #[.agg #[.slice (some ⟨bS, oS, none⟩) n cS, .slice (some ⟨bT, oT, none⟩) n cT], .int .i64 (i : Nat)] w fun e w' => ∃ A c, e = .returned (.slice A (bst g f i n).length c) ∧ w'.ownsRow w.heap.size 3 1 (.slice A (bst g f i n).length c) (bst g f i n).length (zs (iz (bst g f i n))) ∧ Below w.heap.size w w' := by
  obtain ⟨i0, hi0, z0, z1, z2⟩ := info_parts Try.infoInt
  have hmk := fun W => mk_bool n W hn
  have HG := Lib.hid hg
  have HF := Lib.hid hf
  have hii : (i : Int) < (n : Int) := by omega
  have HV := Lib.hid (rs3_vr w (.slice (some ⟨bS, oS, none⟩) n cS) (.slice (some ⟨bT, oT, none⟩) n cT) i n)
  have HS := Lib.hid hs
  have HT := Lib.hid ht
  clear hs ht hg hf
  go_enter Try.func76, Try.ntmps76
  have HR0 := Lib.hid (rs3_row w (.slice (some ⟨bS, oS, none⟩) n cS) (.slice (some ⟨bT, oT, none⟩) n cT) n)
  go_upto_region 2 with fail
  obtain ⟨W1, hW1⟩ : ∃ W1, W1 = rs3 w (.slice (some ⟨bS, oS, none⟩) n cS) (.slice (some ⟨bT, oT, none⟩) n cT) n := ⟨_, rfl⟩
  have hW1' := hW1
  have hWs : W1.heap.size = w.heap.size + 1 + 1 := by rw [hW1]; simp [rs3]
  unfold rs3 at hW1'
  rw [← hW1']
  rw [← hW1] at HV HR0
  clear hW1 hW1' hmk
  have hcs := HR0.out.cell (i := i) hi
  have hfz := HR0.out.frozen i
  have hrlt := HR0.out.lt
  go_wp2
  obtain ⟨W2, hW2⟩ : ∃ W2, W2 = (W1.setCell ⟨w.heap.size + 1, i, none⟩ (.bool true)).alloc (.cells #[.int .i64 (i : Nat)] 3) := ⟨_, rfl⟩
  rw [← hW2] at HV ⊢
  clear hW2 hcs hfz hrlt HR0 hWs
  go_loopw [6, 7, 8, 9] (fun V I _ _ wr => ∃ (k : Nat) (A : Option Addr) (c : Nat), V = .slice A (bst g f i k).length c ∧ I = .int .i64 k ∧ k ≤ (bst g f i k).length ∧ Hid (VR w wr #[.slice (some ⟨bS, oS, none⟩) n cS, .slice (some ⟨bT, oT, none⟩) n cT] (w.heap.size + 1) n (.slice A (bst g f i k).length c) (bst g f i k))) (fun _ I _ _ _ => n - (intOf I).toNat)
  case atStart => exact ⟨0, _, _, rfl, rfl, Nat.zero_le _, HV.out⟩
  case round =>
    clear HV
    obtain ⟨k, A, c, rfl, rfl, hk, HV⟩ := hrel
    have hle := bst_le HG.out HF.out hi k
    by_cases hlt : k < (bst g f i k).length
    · have HStep := Lib.hid (bst_step hlt)
      have hx := bst_lt HG.out HF.out hi k _ (getD_mem hlt)
      have hle2 := bst_le HG.out HF.out hi (k + 1)
      rw [HStep.out] at hle2
      generalize bst g f i k = L at *
      obtain ⟨x, hxe⟩ : ∃ x, x = L.getD k 0 := ⟨_, rfl⟩
      rw [← hxe] at hx hle2 HStep
      have HXe := Lib.hid hxe
      clear hxe
      have hki : (k : Int) < (L.length : Int) := by omega
      have hy := HG.out.lt x hx
      have hz := HF.out.lt x hx
      go_wp2
      go_loopw [6, 8, 9] (fun V J _ wi => ∃ (j : Nat) (A : Option Addr) (c : Nat), V = .slice A (lst2 g f L x j).length c ∧ J = .int .i64 j ∧ j ≤ 2 ∧ Hid (VR w wi #[.slice (some ⟨bS, oS, none⟩) n cS, .slice (some ⟨bT, oT, none⟩) n cT] (w.heap.size + 1) n (.slice A (lst2 g f L x j).length c) (lst2 g f L x j))) (fun _ J _ _ => 2 - (intOf J).toNat)
      case atStart => exact ⟨0, _, _, rfl, rfl, by omega, HV.out⟩
      case round =>
        clear HV
        obtain ⟨j, A', c', rfl, rfl, hj, HV⟩ := hrel
        obtain ⟨hl1, hl2⟩ := lst2_len g f L x j hj
        have hgt := lst2_get (g := g) (f := f) (x := x) hlt j hj
        rw [← HXe.out] at hgt
        by_cases hj2 : j < 2
        · have hji : (j : Int) < 2 := by omega
          have HNext := Lib.hid (lst2_step g f L x j hj2)
          have HTo : Hid (j = 0 ∧ to2 g f x j = g x ∨ j = 1 ∧ to2 g f x j = f x) := by
            rcases Nat.lt_or_ge 0 j with h | h
            · obtain rfl : j = 1 := by omega
              exact .inr ⟨rfl, rfl⟩
            · obtain rfl : j = 0 := by omega
              exact .inl ⟨rfl, rfl⟩
          have hto : to2 g f x j < n := by rcases HTo.out with ⟨_, e⟩ | ⟨_, e⟩ <;> rw [e] <;> assumption
          generalize lst2 g f L x j = M at *
          generalize to2 g f x j = y at *
          have hkM : k < M.length := by omega
          obtain ⟨g1, c1, hv1, _, q2⟩ := HV.out.sv.get hkM
          obtain ⟨rfl, rfl⟩ : A' = some ⟨g1, 0, none⟩ ∧ c' = c1 := by simpa using hv1
          clear hv1
          rw [hgt] at q2
          have q2' := fun N => (show (wr.drewN N).cell? ⟨g1, k, none⟩ = _ from q2)
          have b1 := fun N => (show (wr.drewN N).cell? ⟨w.heap.size, 0, none⟩ = _ from (two_of_block HV.out.x).1.1)
          have b2 := fun N => (show (wr.drewN N).cell? ⟨w.heap.size, 1, none⟩ = _ from (two_of_block HV.out.x).1.2)
          have s1 := fun N => (show (wr.drewN N).cell? ⟨bS, oS + x, none⟩ = some (.int .i64 (g x : Nat)) from (HV.out.sv.bel.cell (p := ⟨bS, oS + x, none⟩) HS.out.1).trans (HS.out.2 x hx))
          have s2 := fun N => (show (wr.drewN N).cell? ⟨bT, oT + x, none⟩ = some (.int .i64 (f x : Nat)) from (HV.out.sv.bel.cell (p := ⟨bT, oT + x, none⟩) HT.out.1).trans (HT.out.2 x hx))
          have hkMi : (k : Int) < (M.length : Int) := by omega
          have hxi : (x : Int) < (n : Int) := by omega
          have hyi : (y : Int) < (n : Int) := by omega
          have hcs := fun N => (show (wr.drewN N).cell? ⟨w.heap.size + 1, y, none⟩ = _ from HV.out.sv.row.cell (i := y) hto)
          have hfz := fun N j => (show (wr.drewN N).frozen? ⟨w.heap.size + 1, j, none⟩ = false from HV.out.sv.row.frozen j)
          rcases HTo.out with ⟨rfl, rfl⟩ | ⟨rfl, rfl⟩
          · have HDone := Lib.hid HTo.out
            by_cases hm : g x ∈ M
            · rw [show decide (g x ∈ M) = true from decide_eq_true hm] at hcs
              have HM := Lib.hid (show vis M (g x) = M from if_pos hm)
              clear hm
              go_wp2
              go_quiet (fail)
              go_wp2
              go_roundw
              case rel => exact ⟨1, some ⟨g1, 0, none⟩, c', by rw [HNext.out, HM.out], by go_num, by omega, by rw [HNext.out, HM.out]; exact HV.out.drewN _⟩
              case measure => simp [intOf]
            · rw [show decide (g x ∈ M) = false from decide_eq_false hm] at hcs
              have HM := Lib.hid hm
              have HMl : Hid ((vis M (g x)).length = M.length + 1) := by show _ = _; rw [show vis M (g x) = M ++ [g x] from if_neg hm]; simp
              clear hm
              have hown : ∀ N, ((wr.drewN N).setCell ⟨w.heap.size + 1, g x, none⟩ (.bool true)).ownsRow w.heap.size 3 1 (.slice (some ⟨g1, 0, none⟩) M.length c') M.length (zs (iz M)) := fun N => by
                refine (HV.out.drewN N).sv.own.kept (row := some (w.heap.size + 1)) ⟨rfl, rfl, rfl, by simp, fun k _ hk => Below.heap_setCell (wr.drewN N) ⟨w.heap.size + 1, _, none⟩ _ k (fun e => hk (by rw [e]))⟩ (.inr fun e => HV.out.sv.ne e.symm)
              have hwz := HV.out.sv.bel.size
              go_wp2
              go_quiet (fail)
              go_wp2_with (first
                | (at_builtin; (refine wpList_append_own_at _ rfl _ _ 22 rfl w.heap.size 3 i0 (.int .i64 0) 1 8 Try.underlying22 hi0 z0 z1 z2 rfl (by decide) _ _ _ rfl ((hown _).alloc _) ⟨wr.heap.size, 0, none⟩ 1 1 [.int .i64 (g x : Nat)] rfl rfl (cell_one_new2 _ _ _ (by simp)) (fun x hx => by simp at hx; rw [hx]; rfl) (by unfold maxLen; omega) (by omega) (by simp; omega) ?_); intro v' w4 hown4 hg4 hnil4 hat4; obtain ⟨A2, c2, rfl⟩ := own_len hown4; have HN := Lib.hid ((HV.out.drewN _).push HM.out hown4 hg4); clear hown4 hg4 hnil4 hat4)
                | fail)
              go_roundw
              case rel => exact ⟨1, A2, c2, by rw [HNext.out, HMl.out], by go_num, by omega, by rw [HNext.out, HMl.out]; exact HN.out⟩
              case measure => simp [intOf]
          · have HDone := Lib.hid HTo.out
            by_cases hm : f x ∈ M
            · rw [show decide (f x ∈ M) = true from decide_eq_true hm] at hcs
              have HM := Lib.hid (show vis M (f x) = M from if_pos hm)
              clear hm
              go_wp2
              go_quiet (fail)
              go_wp2
              go_quiet (fail)
              go_wp2
              go_roundw
              case rel => exact ⟨2, some ⟨g1, 0, none⟩, c', by rw [HNext.out, HM.out], by go_num, by omega, by rw [HNext.out, HM.out]; exact HV.out.drewN _⟩
              case measure => simp [intOf]
            · rw [show decide (f x ∈ M) = false from decide_eq_false hm] at hcs
              have HM := Lib.hid hm
              have HMl : Hid ((vis M (f x)).length = M.length + 1) := by show _ = _; rw [show vis M (f x) = M ++ [f x] from if_neg hm]; simp
              clear hm
              have hown : ∀ N, ((wr.drewN N).setCell ⟨w.heap.size + 1, f x, none⟩ (.bool true)).ownsRow w.heap.size 3 1 (.slice (some ⟨g1, 0, none⟩) M.length c') M.length (zs (iz M)) := fun N => by
                refine (HV.out.drewN N).sv.own.kept (row := some (w.heap.size + 1)) ⟨rfl, rfl, rfl, by simp, fun k _ hk => Below.heap_setCell (wr.drewN N) ⟨w.heap.size + 1, _, none⟩ _ k (fun e => hk (by rw [e]))⟩ (.inr fun e => HV.out.sv.ne e.symm)
              have hwz := HV.out.sv.bel.size
              go_wp2
              go_quiet (fail)
              go_wp2
              go_quiet (fail)
              go_wp2_with (first
                | (at_builtin; (refine wpList_append_own_at _ rfl _ _ 22 rfl w.heap.size 3 i0 (.int .i64 0) 1 8 Try.underlying22 hi0 z0 z1 z2 rfl (by decide) _ _ _ rfl ((hown _).alloc _) ⟨wr.heap.size, 0, none⟩ 1 1 [.int .i64 (f x : Nat)] rfl rfl (cell_one_new2 _ _ _ (by simp)) (fun x hx => by simp at hx; rw [hx]; rfl) (by unfold maxLen; omega) (by omega) (by simp; omega) ?_); intro v' w4 hown4 hg4 hnil4 hat4; obtain ⟨A2, c2, rfl⟩ := own_len hown4; have HN := Lib.hid ((HV.out.drewN _).push HM.out hown4 hg4); clear hown4 hg4 hnil4 hat4)
                | fail)
              go_roundw
              case rel => exact ⟨2, A2, c2, by rw [HNext.out, HMl.out], by go_num, by omega, by rw [HNext.out, HMl.out]; exact HN.out⟩
              case measure => simp [intOf]
        · obtain rfl : j = 2 := by omega
          have h22 : ¬ (2 : Int) < 2 := by omega
          have HE : Hid (bst g f i (k + 1) = lst2 g f L x 2) := HStep
          go_wp2
          go_roundw
          case rel => exact ⟨k + 1, A', c', by rw [HE.out], by go_num, by rw [HE.out]; omega, by rw [HE.out]; exact HV.out⟩
          case measure => simp [intOf]; omega
    · have hkL : k = (bst g f i k).length := by omega
      have hst : bst g f i n = bst g f i k := bst_stay (by omega) n (by omega)
      have HE := Lib.hid hst
      clear hst
      generalize bst g f i k = L at *
      subst hkL
      clear hk hle hlt
      go_wp2
      go_ret
      exact ⟨A, c, by rw [HE.out]; rfl, by rw [HE.out]; exact HV.out.sv.own, HV.out.sv.bel⟩
end Go.Proofs.Ytmikhkolbkdnpaa
