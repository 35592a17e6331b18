/- The contracts of the reference's Cycle and classes. -/
import Derived.Test.YtmikhkolbkdnpaaClsL
namespace Go.Proofs.Ytmikhkolbkdnpaa
open Go.RowKit
set_option linter.unusedVariables false
set_option linter.unusedSimpArgs false

theorem cyL_succ (f : Nat → Nat) (i k : Nat) : cyL f i (k + 1) = cyL f i k ++ [itr f k i] := by simp [cyL, List.range_succ]
theorem cyL_len (f : Nat → Nat) (i k : Nat) : (cyL f i k).length = k := by simp [cyL]
set_option maxHeartbeats 3200000 in
set_option maxRecDepth 1000000 in
theorem rcycle_any {f : Nat → Nat} {n i c bT oT cT : Nat} (w : World) (hT : RdN w w.heap.size bT oT n f) (hp : Prm f n) (hi : i < n) (hc : IsPer f i c) (hcn : c ≤ n) (hn : n ≤ 1152) :
    Calls Try.prog 57 #[.slice (some ⟨bT, oT, none⟩) n cT, .int .i64 (i : Nat)] w fun e w' => ∃ g cc, e = .returned (.slice (some ⟨g, 0, none⟩) c cc) ∧ w'.ownsRow w.heap.size 3 1 (.slice (some ⟨g, 0, none⟩) c cc) c (zs (iz (cyL f i c))) ∧ Below w.heap.size w w' := by
  obtain ⟨i0, hi0, z0, z1, z2⟩ := info_parts Try.infoInt
  have HT := Lib.hid hT
  have HP := Lib.hid hp
  have HPer := Lib.hid hc
  have hii : (i : Int) < (n : Int) := by omega
  have hc1 := hc.pos
  clear hT hp hc
  have c0 : (w.alloc (.cells #[.int .i64 (i : Nat)] 3)).cell? ⟨bT, oT + i, none⟩ = some (.int .i64 (f i : Nat)) := ((below1 w _).cell (p := ⟨bT, oT + i, none⟩) HT.out.1).trans (HT.out.2 i hi)
  have HO0 : Hid ((w.alloc (.cells #[.int .i64 (i : Nat)] 3)).ownsRow w.heap.size 3 1 (.slice (some ⟨w.heap.size, 0, none⟩) 1 1) 1 (zs (iz (cyL f i 1)))) :=
    ⟨rfl, .inr ⟨w.heap.size, 1, _, rfl, Nat.le_refl _, heap_alloc_new w _, Nat.le_refl _, by unfold maxLen; omega, rfl, rfl⟩⟩
  have HB0 : Hid (Below w.heap.size w (w.alloc (.cells #[.int .i64 (i : Nat)] 3))) := below1 w _
  go_enter Try.func57, Try.ntmps57
  go_wp2
  clear c0
  go_loopw [5, 6] (fun V I wr => ∃ (k g cc : Nat), V = .slice (some ⟨g, 0, none⟩) k cc ∧ I = .int .i64 (itr f k i : Nat) ∧ 1 ≤ k ∧ k ≤ c ∧ Hid (wr.ownsRow w.heap.size 3 1 (.slice (some ⟨g, 0, none⟩) k cc) k (zs (iz (cyL f i k)))) ∧ Hid (Below w.heap.size w wr)) (fun V _ _ => c - (match V with | .slice _ k _ => k | _ => 0))
  case atStart => exact ⟨1, _, _, rfl, rfl, Nat.le_refl _, hc1, HO0.out, HB0.out⟩
  case round =>
    clear HO0 HB0
    obtain ⟨k, g, cc, rfl, rfl, hk1, hk, HO, HB⟩ := hrel
    have hx := HP.out.itr_lt hi k
    have HS : Hid (itr f (k + 1) i = f (itr f k i)) := rfl
    have HCy : Hid (zs (iz (cyL f i (k + 1))) = zs (iz (cyL f i k)) ++ [.int .i64 (itr f k i : Nat)]) := by show _ = _; rw [cyL_succ, iz_append, zs_append]; rfl
    have hsz := HB.out.size
    by_cases hlt : k < c
    · have hne := HPer.out.least k hk1 hlt
      have hx2 := HP.out.lt _ hx
      generalize itr f k i = x at *
      have hnei : ((x : Int) == (i : Int)) = false := by simp; omega
      have hxi : (x : Int) < (n : Int) := by omega
      have hown := HO.out
      go_wp2_with (first
        | (at_builtin; (refine wpList_append_own_at _ rfl _ _ 22 rfl w.heap.size 3 i0 (.int .i64 0) 1 8 Try.underlying22 hi0 z0 z1 z2 rfl (by decide) _ _ _ rfl (hown.alloc _) ⟨wr.heap.size, 0, none⟩ 1 1 [.int .i64 (x : Nat)] rfl rfl (cell_one_new' _ _ _) (fun x hx => by simp at hx; rw [hx]; rfl) (by unfold maxLen; omega) (by omega) (by simp; omega) ?_); intro v' w4 hown4 hg4 hnil4 hat4; obtain ⟨A2, c2, rfl⟩ := own_len hown4; have HO4 := Lib.hid hown4; have HB4 : Hid (Below w.heap.size w w4) := (HB.out.alloc hsz _).grown hg4 (by simp; omega) (fun j hj => (HO.out.lt j hj).1); have s4 : w4.cell? ⟨bT, oT + x, none⟩ = some (.int .i64 (f x : Nat)) := (HB4.out.cell (p := ⟨bT, oT + x, none⟩) HT.out.1).trans (HT.out.2 x hx); clear hown4 hg4 hnil4 hat4)
        | fail)
      have hA2 : ∃ gg, A2 = some ⟨gg, 0, none⟩ := by
        rcases HO4.out.2 with ⟨_, h⟩ | ⟨gg, _, _, h, _⟩
        · omega
        · cases h; exact ⟨gg, rfl⟩
      obtain ⟨gg, rfl⟩ := hA2
      go_roundw
      case rel => exact ⟨k + 1, gg, c2, rfl, by rw [HS.out], by omega, hlt, by rw [HCy.out]; exact HO4.out, HB4.out⟩
      case measure => simp; omega
    · obtain rfl : k = c := by omega
      have hxe : itr f k i = i := HPer.out.back
      rw [hxe]
      have hee : ((i : Int) == (i : Int)) = true := by simp
      go_wp2
      go_ret
      exact ⟨g, cc, rfl, HO.out, HB.out⟩
/-- The append of a list that reads to an own row, as an operation of a drawn region. -/
theorem step_app2 {w : World} {ops : Array Oper} {o : Oper} {a : Act} {K : Act → World → Prop} {Q : Exit → Act → World → Prop} {E : Prop} {b2 o2 c base n0 l0 : Nat} {l xs : List Int} {v : Value} (hgd : o.guard = none) (s x : Operand)
    (ho : o.op = .call { callee := .builtin .append, args := #[s, x], argTypes := #[22, 22] })
    (hs : a.eval s = v) (hown : w.ownsRow base 3 1 v n0 (zs xs)) (hx : a.eval x = .slice (some ⟨b2, o2, none⟩) l0 c) (hl0 : l0 = l.length) (hr : ∀ k (h : k < l.length), w.cell? ⟨b2, o2 + k, none⟩ = some (.int .i64 l[k])) (hl : l.length ≤ 2000) (hn0 : n0 ≤ 2000) (hbase : base ≤ w.heap.size)
    (h : ∀ v' w', w'.ownsRow base 3 1 v' (n0 + l.length) (zs (xs ++ l)) → w.grownBy w' v.ownBlock → K (a.put o.dst v') w') : if Region.wanted o (yielded ops a.tmps) = true then Oper.wp Try.prog o a w K Q else E := by
  obtain ⟨i0, hi, hz0, hz1, hz2⟩ := info_parts Try.infoInt
  subst hl0
  rw [if_pos (show Region.wanted o (yielded ops a.tmps) = true by simp [Region.wanted, hgd])]
  refine wp_append_own w s x 22 ho base 3 i0 (.int .i64 0) 1 8 Try.underlying22 hi hz0 hz1 hz2 rfl (by decide) v n0 (zs xs) hs hown ⟨b2, o2, none⟩ l.length c (zs l) hx (by simp [zs]) (fun j u hj => ?_) (fun u hu => ?_) (by unfold maxLen; omega) (by omega) hbase fun v' w' h1 h2 _ => h v' w' (by rw [zs_append]; exact h1) h2
  · have hjl : j < l.length := by
      have := (List.getElem?_eq_some_iff.1 hj).1
      simpa [zs] using this
    rw [zs_get l j hjl] at hj
    rw [show (⟨b2, o2, none⟩ : Addr).add j = ⟨b2, o2 + j, none⟩ by unfold Addr.add; split <;> simp_all, hr j hjl]
    exact hj
  · obtain ⟨x', _, rfl⟩ := List.mem_map.1 hu
    rfl
/-- The reference's box of classes, its list of least points, the box of the action. -/
structure RV (w wr : World) (xs : Array Value) (bo n : Nat) (C : Nat → Int) (v : Value) (P : List Nat) : Prop where
  row : wr.rowIs bo 3 n (fun j => .int .i64 (C j + 1))
  own : wr.ownsRow w.heap.size 3 1 v P.length (zs (iz P))
  x : wr.heap[w.heap.size]? = some (.cells xs 24 (0, 0))
  bel : Below w.heap.size w wr
  lb : w.heap.size ≤ bo
  ne : some bo ≠ v.ownBlock
section
variable {w wr w' : World} {xs : Array Value} {bo n : Nat} {C : Nat → Int} {v v' : Value} {P : List Nat}
theorem RV.below (h : RV w wr xs bo n C v P) (hb : Below wr.heap.size wr w') : RV w w' xs bo n C v P :=
  ⟨h.row.of_block (hb.block bo h.row.lt), own_below h.own hb, block_below h.x hb, bel0 h.bel hb, h.lb, h.ne⟩
theorem RV.congr (h : RV w wr xs bo n C v P) {D : Nat → Int} (e : ∀ j, j < n → C j = D j) : RV w wr xs bo n D v P := ⟨h.row.congr fun j hj => by rw [e j hj], h.own, h.x, h.bel, h.lb, h.ne⟩
theorem RV.set (h : RV w wr xs bo n C v P) (x : Nat) (a : Int) : RV w (wr.setCell ⟨bo, x, none⟩ (.int .i64 (a + 1))) xs bo n (fun j => if j = x then a else C j) v P := by
  obtain ⟨c, hc, h1, h2⟩ := h.row
  have row : wr.rowIs bo 3 n (fun j => .int .i64 (C j + 1)) := ⟨c, hc, h1, h2⟩
  refine ⟨World.rowIs.congr (row.set x _) fun j _ => (by by_cases e : j = x <;> simp [e]), ?_, set_ne h.x (ty_apart h.x hc (by decide)) _, h.bel.setCell h.lb _, h.lb, h.ne⟩
  exact h.own.kept (row := some bo) ⟨rfl, rfl, rfl, by simp, fun k _ hk => Below.heap_setCell wr ⟨bo, x, none⟩ _ k (fun e => hk (by rw [e]))⟩ (.inr fun e => h.ne e.symm)
theorem RV.push (h : RV w wr xs bo n C v P) {p : Nat} {o : Obj} (hown : w'.ownsRow w.heap.size 3 1 v' (P.length + 1) (zs (iz P) ++ [.int .i64 (p : Nat)])) (hg : (wr.alloc o).grownBy w' v.ownBlock) (hat : v'.ownBlock = v.ownBlock ∨ v'.ownBlock = some (wr.alloc o).heap.size) : RV w w' xs bo n C v' (P ++ [p]) := by
  have hlt := h.row.lt
  refine ⟨h.row.of_block ?_, by rw [List.length_append, iz_append, zs_append]; exact hown, ?_, ?_, h.lb, ?_⟩
  · rw [hg.block bo (by simp; omega) h.ne, Below.heap_alloc _ _ _ hlt]
  · exact (hg.block _ (by have := lt_of_block h.x; simp; omega) (row_apart h.x h.own (by decide))).trans (block_alloc h.x o)
  · exact (h.bel.alloc h.bel.size o).grown hg (by have := h.bel.size; simp; omega) fun j hj => (h.own.lt j hj).1
  · rcases hat with e | e
    · rw [e]; exact h.ne
    · rw [e]; simp; omega
end
theorem rv_start (w : World) (a b : Value) (n : Nat) : RV w ((w.alloc (.cells #[a, b] 24)).alloc (.cells (madeCells #[.int .i64 0] n) 3)) #[a, b] (w.heap.size + 1) n (fun _ => -1) (.slice none 0 0) [] := by
  have hr := World.rowIs_made (w.alloc (.cells #[a, b] 24)) (.int .i64 0) n 3
  exact ⟨by simpa using hr, World.ownsRow_nil _ _ _ _, block_alloc (heap_alloc_new w _) _, below2 w _ _, by omega, by simp [Value.ownBlock]⟩
/-- The marks behind k entries of a list. -/
def mkL (C : Nat → Int) (m : Nat) (l : List Nat) (j : Nat) : Int := if l.contains j = true then (m : Int) else C j
theorem mkL_push (C : Nat → Int) (m : Nat) (l : List Nat) (x j : Nat) : mkL C m (l ++ [x]) j = if j = x then (m : Int) else mkL C m l j := by
  unfold mkL
  by_cases e : j = x
  · subst e; simp
  · have : (l ++ [x]).contains j = l.contains j := by
      rw [Bool.eq_iff_iff, List.contains_iff_mem, List.contains_iff_mem]; simp [e]
    rw [this, if_neg e]
theorem mkL_u (f z : Nat → Nat) (n i m : Nat) (C : Nat → Int) (j : Nat) : mkL C m (cyL f i (perO f n i) ++ cyL f (z i) (perO f n (z i))) j = if uB f z n i j = true then (m : Int) else C j := by
  unfold mkL uB
  have : (cyL f i (perO f n i) ++ cyL f (z i) (perO f n (z i))).contains j = ((cyL f i (perO f n i)).contains j || (cyL f (z i) (perO f n (z i))).contains j) := by
    rw [Bool.eq_iff_iff, Bool.or_eq_true]
    simp only [List.contains_iff_mem, List.mem_append]
  rw [this]
theorem addr_add2 (b o k : Nat) : (⟨b, o, none⟩ : Addr).add k = ⟨b, o + k, none⟩ := by unfold Addr.add; split <;> simp_all
set_option maxHeartbeats 6400000 in
set_option maxRecDepth 1000000 in
theorem rclasses_any {S T : List Int} {B bS oS bT oT cS cT : Nat} (w : World) (h : AI w B bS oS bT oT S T cS cT) :
    Calls Try.prog 56 #[.agg #[.slice (some ⟨bS, oS, none⟩) S.length cS, .slice (some ⟨bT, oT, none⟩) S.length cT]] w fun e w' => ∃ A c bo, e = .returned (.tuple #[.slice (some ⟨bo, 0, none⟩) S.length S.length, .slice A (cst (uB (fnz T) (fun i => fnz S (fnz S i)) S.length) S.length).2.length c]) ∧
      w'.ownsRow w.heap.size 3 1 (.slice A (cst (uB (fnz T) (fun i => fnz S (fnz S i)) S.length) S.length).2.length c) (cst (uB (fnz T) (fun i => fnz S (fnz S i)) S.length) S.length).2.length (zs (iz (cst (uB (fnz T) (fun i => fnz S (fnz S i)) S.length) S.length).2)) ∧
      w'.rowIs bo 3 S.length (fun j => .int .i64 ((cst (uB (fnz T) (fun i => fnz S (fnz S i)) S.length) S.length).1 j + 1)) ∧ Below w.heap.size w w' := by
  obtain ⟨i0, hi0, z0, z1, z2⟩ := info_parts Try.infoInt
  have hg := h.act.ps
  have hf := h.act.pt
  have hz := rel_inv hg hf h.act.rel
  have hpos : 0 < S.length := h.act.pos
  have hle := h.act.le
  have HI := Lib.hid (fun k (hk : k ≤ S.length) => cst_inv hf hz k hk)
  have HSr : Hid (RdN w w.heap.size bS oS S.length (fnz S)) := h.s.mono h.le
  have HTr : Hid (RdN w w.heap.size bT oT S.length (fnz T)) := h.t.mono h.le
  have hmk := fun W => mk_int S.length W hle
  clear h
  generalize hfe : fnz T = f at *
  generalize hge : fnz S = g at *
  generalize S.length = n at *
  have HG := Lib.hid hg
  have HF := Lib.hid hf
  have HZ := Lib.hid hz
  clear hg hf hz hfe hge
  have HV1 := Lib.hid (rv_start w (.slice (some ⟨bS, oS, none⟩) n cS) (.slice (some ⟨bT, oT, none⟩) n cT) n)
  go_enter Try.func56, Try.ntmps56
  go_wp2
  obtain ⟨W0, hW0⟩ : ∃ W0, W0 = (w.alloc (.cells #[.slice (some ⟨bS, oS, none⟩) n cS, .slice (some ⟨bT, oT, none⟩) n cT] 24)).alloc (.cells (madeCells #[.int .i64 0] n) 3) := ⟨_, rfl⟩
  rw [← hW0] at HV1 ⊢
  clear hW0 hmk
  obtain ⟨z, hze⟩ : ∃ z : Nat → Nat, z = fun i => g (g i) := ⟨_, rfl⟩
  have HZe := Lib.hid hze
  have HZi : Hid (∀ i, g (g i) = z i) := fun i => by rw [hze]
  rw [← hze] at HI HZ
  clear hze
  have HIu : Hid (∀ j, j ≤ n → CI (uB f z n) n j (cst (uB f z n) j)) := HI
  go_loopw [5, 6, 7, 8] (fun V I _ _ wr => ∃ (q : Nat) (A : Option Addr) (c : Nat), V = .slice A (cst (uB f z n) q).2.length c ∧ I = .int .i64 q ∧ q ≤ n ∧ Hid (RV w wr #[.slice (some ⟨bS, oS, none⟩) n cS, .slice (some ⟨bT, oT, none⟩) n cT] (w.heap.size + 1) n (cst (uB f z n) q).1 (.slice A (cst (uB f z n) q).2.length c) (cst (uB f z n) q).2)) (fun _ I _ _ _ => n - (intOf I).toNat)
  case atStart => exact ⟨0, _, _, rfl, rfl, Nat.zero_le _, HV1.out⟩
  case round =>
    clear HV1
    obtain ⟨q, A, c, rfl, rfl, hq, HV⟩ := hrel
    by_cases hlt : q < n
    · have hqi : (q : Int) < (n : Int) := by omega
      have hI := HIu.out q hq
      have hlen := hI.len
      have hcs := HV.out.row.cell (i := q) hlt
      by_cases hC : 0 ≤ (cst (uB f z n) q).1 q
      · have HO := Lib.hid (cst_old hC)
        have hpos1 : 0 < (cst (uB f z n) q).1 q + 1 := by omega
        clear hI hlen hC
        generalize (cst (uB f z n) q).1 q + 1 = y at *
        go_wp2
        go_roundw
        case rel => exact ⟨q + 1, A, c, by rw [HO.out], by go_num, hlt, by rw [HO.out]; exact HV.out⟩
        case measure => simp [intOf]; omega
      · obtain ⟨hper, hperle⟩ := perO_spec HF.out hlt
        have hzl := HZ.out.lt q hlt
        obtain ⟨hper2, hperle2⟩ := perO_spec HF.out hzl
        have hy0 : (cst (uB f z n) q).1 q + 1 = 0 := by rcases hI.rng q with h | h <;> omega
        have HN := Lib.hid (cst_new hC)
        have HNe : Hid ((cst (uB f z n) (q + 1)).2 = (cst (uB f z n) q).2 ++ [q] ∧ ∀ j, mkL (cst (uB f z n) q).1 (cst (uB f z n) q).2.length (cyL f q (perO f n q) ++ cyL f (z q) (perO f n (z q))) j = (cst (uB f z n) (q + 1)).1 j) := by
          show _ ∧ _
          rw [HN.out]
          exact ⟨rfl, fun j => mkL_u f z n q _ _ j⟩
        rw [hy0] at hcs
        clear hI hC hy0 HN
        have HC1 := Lib.hid (fun (W : World) (hb : Below w.heap.size w W) => rcycle_any (cT := cT) W ((HTr.out.below hb).mono hb.size) HF.out hlt hper hperle hle)
        have HC2 := Lib.hid (fun (W : World) (hb : Below w.heap.size w W) => rcycle_any (cT := cT) W ((HTr.out.below hb).mono hb.size) HF.out hzl hper2 hperle2 hle)
        have hc1 := hper.pos
        have hc2 := hper2.pos
        have hL1 := cyL_len f q (perO f n q)
        have hL2 := cyL_len f (z q) (perO f n (z q))
        have HLb : Hid (∀ x ∈ cyL f q (perO f n q) ++ cyL f (z q) (perO f n (z q)), x < n) := fun x hx => by
          rcases List.mem_append.1 hx with hx | hx
          · exact onC_bd HF.out hlt ((cyL_mem hper).1 hx)
          · exact onC_bd HF.out hzl ((cyL_mem hper2).1 hx)
        clear hper hper2
        generalize (cst (uB f z n) q).1 = C at *
        generalize (cst (uB f z n) q).2 = P at *
        generalize cyL f q (perO f n q) = l1 at *
        generalize cyL f (z q) (perO f n (z q)) = l2 at *
        generalize perO f n q = c1 at *
        generalize perO f n (z q) = c2 at *
        have hgq := HG.out.lt q hlt
        have HS1 := Lib.hid (HSr.out.2 q hlt)
        have HS2 := Lib.hid (HSr.out.2 (g q) hgq)
        rw [HZi.out] at HS2
        have hown := HV.out.own
        have hsz := HV.out.bel.size
        go_upto_region 8 with (first
          | (at_builtin; (refine wpList_append_own_at _ rfl _ _ 22 rfl w.heap.size 3 i0 (.int .i64 0) 1 8 Try.underlying22 hi0 z0 z1 z2 rfl (by decide) _ _ _ rfl (hown.alloc _) ⟨wr.heap.size, 0, none⟩ 1 1 [.int .i64 (q : Nat)] rfl rfl (cell_one_new' _ _ _) (fun x hx => by simp at hx; rw [hx]; rfl) (by unfold maxLen; omega) (by omega) (by simp; omega) ?_); intro v' w4 hown4 hg4 hnil4 hat4; obtain ⟨A2, c4, rfl⟩ := own_len hown4; have HV4 := Lib.hid (HV.out.push hown4 hg4 hat4); clear hown4 hg4 hnil4 hat4)
          | fail)
        have HV5 := Lib.hid (HV4.out.below ((Below.refl _ w4).drew))
        have HFx : Hid (∀ {W : World} {C' : Nat → Int} {v' : Value} {P' : List Nat}, RV w W #[.slice (some ⟨bS, oS, none⟩) n cS, .slice (some ⟨bT, oT, none⟩) n cT] (w.heap.size + 1) n C' v' P' → (W.cell? ⟨w.heap.size, 0, none⟩ = some (.slice (some ⟨bS, oS, none⟩) n cS) ∧ W.cell? ⟨w.heap.size, 1, none⟩ = some (.slice (some ⟨bT, oT, none⟩) n cT)) ∧ W.cell? ⟨bS, oS + q, none⟩ = some (.int .i64 (g q : Nat)) ∧ W.cell? ⟨bS, oS + g q, none⟩ = some (.int .i64 (z q : Nat))) := fun h =>
          ⟨(two_of_block h.x).1, (h.bel.cell (p := ⟨bS, oS + q, none⟩) HSr.out.1).trans HS1.out, (h.bel.cell (p := ⟨bS, oS + g q, none⟩) HSr.out.1).trans HS2.out⟩
        clear HS1 HS2
        have hgqi : (g q : Int) < (n : Int) := by omega
        have hzqi : (z q : Int) < (n : Int) := by omega
        generalize g q = gq at *
        generalize z q = zq at *
        have hL2i : (iz l2).length = c2 := by rw [iz_len]; exact hL2
        have hl2le : l2.length ≤ 1152 := by omega
        have hw4 : w4.drew.heap.size = w4.heap.size := rfl
        have H4sz : Hid (w.heap.size + 1 < w4.heap.size) := HV4.out.row.lt
        go_region_held3 (fun w' => (w'.cell? ⟨w.heap.size, 0, none⟩ = some (.slice (some ⟨bS, oS, none⟩) n cS) ∧ w'.cell? ⟨w.heap.size, 1, none⟩ = some (.slice (some ⟨bT, oT, none⟩) n cT)) ∧ w'.cell? ⟨bS, oS + q, none⟩ = some (.int .i64 (gq : Nat)) ∧ w'.cell? ⟨bS, oS + gq, none⟩ = some (.int .i64 (zq : Nat)))
          (with_reducible first | exact HFx.out HV8.out | exact HFx.out HV7.out | exact HFx.out HV6.out | exact HFx.out HV5.out | fail)
          (first
            | (go_at_call 57; ((with_reducible refine (HC1.out _ HV5.out.bel).mono ?_); rintro e w5 ⟨g1, cc1, rfl, ho1, hb1⟩; have HV6 := Lib.hid (HV5.out.below hb1); have HO1 := Lib.hid ho1; have HB1 := Lib.hid hb1; clear ho1 hb1))
            | (go_at_call 57; ((with_reducible refine (HC2.out _ HV6.out.bel).mono ?_); rintro e w6 ⟨g2, cc2, rfl, ho2, hb2⟩; have HV7 := Lib.hid (HV6.out.below hb2); have HO1' := Lib.hid (own_below HO1.out hb2); have HB2 := Lib.hid (bel0 HB1.out hb2); obtain ⟨A9, c9, e9, hr9⟩ := own_rdz (F := iz l2) (by rw [hL2i]; exact ho2); obtain ⟨b9, o9, e8, _, hr8⟩ := hr9.2.2.1 (by rw [hL2i]; exact hc2); have HR9 : Hid (b9 = g2 ∧ o9 = 0 ∧ ∀ k (h : k < (iz l2).length), w6.cell? ⟨g2, 0 + k, none⟩ = some (.int .i64 (iz l2)[k])) := (by rw [e8] at e9; simp at e9; obtain ⟨⟨rfl, rfl⟩, _⟩ := e9; exact ⟨rfl, rfl, hr8⟩); clear ho2 hb2 hr9 hr8 e8 e9 A9 c9))
            | (refine step_app2 (v := .slice (some ⟨g1, 0, none⟩) c1 cc1) (l := iz l2) (xs := iz l1) rfl _ _ rfl rfl HO1'.out rfl hL2i.symm HR9.out.2.2 (by omega) (by omega) HB2.out.size ?_; intro v' w7 hown7 hg7; have HB7 : Hid (Below w4.drew.heap.size w4.drew w7) := HB2.out.trans (((Below.refl _ w6).grown hg7 HB2.out.size (fun j hj => (HO1'.out.lt j hj).1))); have HV8 := Lib.hid (HV5.out.below HB7.out); have HO7 := Lib.hid hown7; clear hown7 hg7)
            | fail)
        obtain ⟨L, hL⟩ : ∃ L, L = l1 ++ l2 := ⟨_, rfl⟩
        have hLl : L.length = c1 + c2 := by rw [hL, List.length_append, hL1, hL2]
        have HO8 : Hid (w7.ownsRow w4.drew.heap.size 3 1 v' L.length (zs (iz L))) := by
          have := HO7.out
          rw [hL2i, ← hLl, ← iz_append, ← hL] at this
          exact this
        rw [← hL] at HNe HLb
        obtain ⟨A7, c7, rfl⟩ := own_len HO8.out
        have hA7 : ∃ gg, A7 = some ⟨gg, 0, none⟩ := by
          rcases HO8.out.2 with ⟨_, h⟩ | ⟨gg, _, _, h, _⟩
          · omega
          · cases h; exact ⟨gg, rfl⟩
        obtain ⟨g7, rfl⟩ := hA7
        have hg7 := (HO8.out.lt g7 rfl).1
        clear hL HO7 HFx HC1 HC2 HR9 HO1' HO1 HB2 HB7 HV7 HV6 HV5
        go_wp2
        go_loopw [8] (fun I wi => ∃ (t : Nat), I = .int .i64 t ∧ t ≤ L.length ∧ Hid (RV w wi #[.slice (some ⟨bS, oS, none⟩) n cS, .slice (some ⟨bT, oT, none⟩) n cT] (w.heap.size + 1) n (mkL C P.length (L.take t)) (.slice A2 (P.length + 1) c4) (P ++ [q])) ∧ Hid (wi.ownsRow w4.drew.heap.size 3 1 (.slice (some ⟨g7, 0, none⟩) L.length c7) L.length (zs (iz L)))) (fun I _ => L.length - (intOf I).toNat)
        case atStart => exact ⟨0, rfl, Nat.zero_le _, HV8.out.congr fun j _ => by simp [mkL], HO8.out⟩
        case round =>
          clear HV8 HO8
          obtain ⟨t, rfl, ht, HV8, HO8⟩ := hrel
          by_cases htl : t < L.length
          · have hti : (t : Int) < (L.length : Int) := by omega
            have hx := HLb.out _ (List.getElem_mem htl)
            have hc := HO8.out.cells (g := g7) rfl _ _ (zs_get (iz L) t (by rw [iz_len]; exact htl))
            rw [addr_add2] at hc
            have hcell : wr.cell? ⟨g7, t, none⟩ = some (.int .i64 (L[t] : Nat)) := by rw [show (iz L)[t]'(by rw [iz_len]; exact htl) = ((L[t] : Nat) : Int) by simp [iz], Nat.zero_add] at hc; exact hc
            clear hc
            have HMk : Hid (∀ j, mkL C P.length (L.take (t + 1)) j = if j = L[t] then (P.length : Int) else mkL C P.length (L.take t) j) := fun j => by rw [List.take_succ_eq_append_getElem htl]; exact mkL_push C P.length _ _ j
            generalize L[t] = x at *
            have hxi : (x : Int) < (n : Int) := by omega
            have hfz := HV8.out.row.frozen x
            have hcx := HV8.out.row.cell (i := x) hx
            have H2 := Lib.hid (HV8.out.set x (P.length : Int))
            have HO9 := Lib.hid (own_set (j := x) HO8.out (show w.heap.size + 1 < w4.drew.heap.size from H4sz.out) (.int .i64 ((P.length : Int) + 1)))
            go_wp2
            go_roundw
            case rel => exact ⟨t + 1, by go_num, htl, H2.out.congr fun j _ => (HMk.out j).symm, HO9.out⟩
            case measure => simp [intOf]; omega
          · obtain rfl : t = L.length := by omega
            have ht2 : ¬ (L.length : Int) < (L.length : Int) := by omega
            have HT1 : Hid (L.take L.length = L) := List.take_length
            go_wp2
            go_roundw
            case rel => exact ⟨q + 1, A2, c4, by rw [HNe.out.1, List.length_append]; rfl, by go_num, hlt, by
              have h5 := HV8.out
              rw [HT1.out] at h5
              have h6 := h5.congr fun j _ => HNe.out.2 j
              rw [HNe.out.1, List.length_append]
              exact h6⟩
            case measure => simp [intOf]; omega
    · obtain rfl : q = n := by omega
      have hq2 : ¬ (q : Int) < (q : Int) := by omega
      go_wp2
      have h9 := HZe.out
      subst h9
      refine bodyPost_ret (v := .tuple #[.slice (some ⟨w.heap.size + 1, 0, none⟩) q q, .slice A (cst (uB f (fun i => g (g i)) q) q).2.length c]) ?_ rfl ⟨A, c, w.heap.size + 1, rfl, HV.out.own, HV.out.row, HV.out.bel⟩
      simp [results, Try.results56, go_sem]
end Go.Proofs.Ytmikhkolbkdnpaa
