/- The contracts of Minus and of the code's classes. -/
import Derived.Test.YtmikhkolbkdnpaaMarkL
import Derived.Deep.DeepCutAuto
import Derived.Deep.CutBlock
import Derived.Deep.RegionHeld3
namespace Go.Proofs.Ytmikhkolbkdnpaa
open Go.RowKit
set_option linter.unusedVariables false
set_option linter.unusedSimpArgs false

theorem Try.infoCls : (Try.prog.info? 60).map (fun i => (i.zero, i.size, i.bytes)) = some (some (.agg #[.int .i64 0, .int .i64 0, .bool false]), 3, 24) := by kernel_rfl
/-- An action that comes in: its lists are readable. -/
structure AI (w : World) (B bS oS bT oT : Nat) (S T : List Int) (cS cT : Nat) : Prop where
  act : Act2 S T
  zs : RdZ w B (some ⟨bS, oS, none⟩) cS S
  zt : RdZ w B (some ⟨bT, oT, none⟩) cT T
  s : RdN w B bS oS S.length (fnz S)
  t : RdN w B bT oT S.length (fnz T)
  le : B ≤ w.heap.size
theorem AI.below {w w' : World} {B bS oS bT oT : Nat} {S T : List Int} {cS cT : Nat} (h : AI w B bS oS bT oT S T cS cT) (hb : Below w.heap.size w w') : AI w' B bS oS bT oT S T cS cT :=
  ⟨h.act, h.zs.below (hb.mono h.le), h.zt.below (hb.mono h.le), h.s.below (hb.mono h.le), h.t.below (hb.mono h.le), Nat.le_trans h.le hb.size⟩
set_option maxHeartbeats 3200000 in
set_option maxRecDepth 1000000 in
theorem pminus_any {S T : List Int} {B bS oS bT oT cS cT : Nat} (w : World) (h : AI w B bS oS bT oT S T cS cT) :
    Calls Try.prog 27 #[.agg #[.slice (some ⟨bS, oS, none⟩) S.length cS, .slice (some ⟨bT, oT, none⟩) S.length cT]] w fun e w' => e = .returned (.tuple #[.bool (decide (fnz S (fnz S 0) = 0)), .int .i64 0]) ∧ Below w.heap.size w w' := by
  have HCk : Hid (∀ W, Below w.heap.size w W → Calls Try.prog 34 #[.agg #[.slice (some ⟨bS, oS, none⟩) S.length cS, .slice (some ⟨bT, oT, none⟩) S.length cT]] W fun e w' => e = .returned (.int .i64 0) ∧ Below W.heap.size W w') := fun W hb => by
    have := pcheck_any W (h.below hb).zs (h.below hb).zt (h.below hb).le
    rwa [chkA_ok h.act, h.act.len] at this
  have H := Lib.hid h
  have T0 : Hid ((w.alloc (.cells #[.slice (some ⟨bS, oS, none⟩) S.length cS, .slice (some ⟨bT, oT, none⟩) S.length cT] 24)).heap[w.heap.size]? = some (.cells #[.slice (some ⟨bS, oS, none⟩) S.length cS, .slice (some ⟨bT, oT, none⟩) S.length cT] 24 (0, 0))) := heap_alloc_new w _
  have HB0 : Hid (Below w.heap.size w (w.alloc (.cells #[.slice (some ⟨bS, oS, none⟩) S.length cS, .slice (some ⟨bT, oT, none⟩) S.length cT] 24))) := below1 w _
  have hpos := h.act.pos
  have h1 := h.act.ps.lt 0 (by omega)
  have h2 := h.act.ps.lt _ h1
  clear h
  have HV : Hid (∀ a b : Nat, (((a : Int) == (b : Int)) : Bool) = decide (a = b)) := fun a b => by rw [Bool.eq_iff_iff]; simp; omega
  obtain ⟨b, hb⟩ : ∃ b, b = decide (fnz S (fnz S 0) = 0) := ⟨_, rfl⟩
  rw [← hb]
  have HBb : Hid (b = decide (fnz S (fnz S 0) = 0)) := hb
  clear hb
  go_enter Try.func27, Try.ntmps27
  go_wp2_with (first
    | (go_at_call 34; ((with_reducible refine (HCk.out _ HB0.out).mono ?_); rintro e w1 ⟨rfl, hb⟩; have HB1 := Lib.hid (bel0 HB0.out hb); have T1 := Lib.hid (block_below T0.out hb); have HI1 := Lib.hid (H.out.below HB1.out); clear hb))
    | fail)
  have c0 : ∀ N, (w1.drewN N).cell? ⟨bS, oS + 0, none⟩ = some (.int .i64 (fnz S 0 : Nat)) := fun N => HI1.out.s.2 0 (by omega)
  have c1 : ∀ N, (w1.drewN N).cell? ⟨bS, oS + fnz S 0, none⟩ = some (.int .i64 (fnz S (fnz S 0) : Nat)) := fun N => HI1.out.s.2 _ h1
  have u1 := fun N => (show (w1.drewN N).cell? ⟨w.heap.size, 0, none⟩ = _ from (two_of_block T1.out).1.1)
  generalize fnz S (fnz S 0) = y at *
  generalize fnz S 0 = x at *
  have i0 : (0 : Int) < (S.length : Int) := by omega
  have i1 : (x : Int) < (S.length : Int) := by omega
  have c0' : ∀ N, (w1.drewN N).cell? ⟨bS, oS, none⟩ = some (.int .i64 (x : Nat)) := fun N => c0 N
  by_cases hy : y = 0
  · subst hy
    have hbt : b = true := HBb.out.trans (by simp)
    subst hbt
    go_quiet (fail)
    go_wp2
    go_ret2
    exact ⟨rfl, below_drewN HB1.out _⟩
  · have hbf : b = false := HBb.out.trans (by simpa using hy)
    subst hbf
    have hyb : ((y : Int) == 0) = false := by simp; omega
    go_quiet (fail)
    go_wp2
    refine bodyPost_ret (v := .tuple #[.bool false, .int .i64 0]) ?_ rfl ⟨rfl, below_drewN HB1.out _⟩
    simp [results, Try.results27, go_sem]
theorem mk_int (n : Nat) (W : World) (hn : n ≤ 1152) : (Instr.makeSlice 22 (.int .i64 (n : Int)) (.int .i64 (n : Int))).run Try.prog W = .ok (.slice (some ⟨W.heap.size, 0, none⟩) n n) (W.alloc (.cells (madeCells #[.int .i64 0] n) 3)) := by
  obtain ⟨i1, hj, y0, y1, y2⟩ := info_parts Try.infoInt
  have h := run_make (P := Try.prog) W 22 3 i1 (.int .i64 0) Try.underlying22 hj y0 .i64 .i64 (n : Int) (n : Int) (by omega) (by omega) (by rw [y2]; omega) (by omega)
  rw [show ((n : Int)).toNat = n by omega, y1, Nat.mul_one] at h
  exact h
/-- The cells of the list of classes. -/
def ccs (W : Nat → Nat) (R : Nat → Bool) (P : List Nat) : List Value := P.flatMap fun p => [.int .i64 (p : Nat), .int .i64 (W p : Nat), .bool (R p)]
theorem ccs_push (W : Nat → Nat) (R : Nat → Bool) (P : List Nat) (p : Nat) : ccs W R (P ++ [p]) = ccs W R P ++ [.int .i64 (p : Nat), .int .i64 (W p : Nat), .bool (R p)] := by simp [ccs]
theorem cell_three_new (w : World) (a b c : Value) (t : TypeId) {g : Nat} (hg : g = w.heap.size) : ∀ j u, [a, b, c][j]? = some u → (w.alloc (.cells #[a, b, c] t)).cell? ((⟨g, 0, none⟩ : Addr).add j) = some u := by
  subst hg
  intro j u hj
  have e : ∀ j, (⟨w.heap.size, 0, none⟩ : Addr).add j = ⟨w.heap.size, j, none⟩ := fun j => by unfold Addr.add; split <;> simp_all
  rw [e]
  match j, hj with
  | 0, hj => simp at hj; subst hj; simp
  | 1, hj => simp at hj; subst hj; simp
  | 2, hj => simp at hj; subst hj; simp
theorem CV.push {w wr w' : World} {xs : Array Value} {bc pc pl n m g c : Nat} {C : Nat → Int} {vl : Value} {cs ds : List Value} {o : Obj} (h : CV w wr xs bc pc pl n C vl m cs)
    (hown : w'.ownsRow w.heap.size 60 3 (.slice (some ⟨g, 0, none⟩) (m + 1) c) (m + 1) ds) (hg : (wr.alloc o).grownBy w' vl.ownBlock) :
    CV w (w'.setCell ⟨pl, 0, none⟩ (.slice (some ⟨g, 0, none⟩) (m + 1) c)) xs bc pc pl n C (.slice (some ⟨g, 0, none⟩) (m + 1) c) (m + 1) ds := by
  have go : ∀ {k : Nat} {cs : Array Value} {t : TypeId}, wr.heap[k]? = some (.cells cs t (0, 0)) → t ≠ 60 → w'.heap[k]? = some (.cells cs t (0, 0)) := fun {k cs t} hc h1 =>
    (hg.block k (by have := lt_of_block hc; simp; omega) (row_apart hc h.own h1)).trans (block_alloc hc o)
  obtain ⟨cc, hcc, h1, h2⟩ := h.row
  have hp := go h.bxl (by decide)
  have hr := go hcc (by decide)
  have hc := go h.bxc (by decide)
  have hx := go h.x (by decide)
  refine ⟨⟨cc, set_ne hr (ty_apart hr hp (by decide)) _, h1, h2⟩, set_ne hc (ty_apart hc hp (by decide)) _, heap_setCell_same _ pl 0 #[vl] 54 _ hp, ?_, set_ne hx (ty_apart hx hp (by decide)) _, ?_, h.lb, h.ll⟩
  · obtain ⟨h1, h2 | ⟨g', cap, cur, hv, hb, hg', hn, hc, hs', ht⟩⟩ := hown
    · exact ⟨h1, .inl h2⟩
    · exact ⟨h1, .inr ⟨g', cap, cur, hv, hb, set_ne hg' (ty_apart hg' hp (by decide)) _, hn, hc, hs', ht⟩⟩
  · have h0 := h.bel.alloc h.bel.size o
    exact (h0.grown hg (by have := h.bel.size; simp; omega) fun j hj => (h.own.lt j hj).1).setCell h.ll _
/-- The world before the loops of classes. -/
theorem cv_start (w w1 : World) (xs : Array Value) (n : Nat) (hx : w1.heap[w.heap.size]? = some (.cells xs 24 (0, 0))) (hb : Below w.heap.size w w1) :
    CV w (((w1.alloc (.cells #[.slice none 0 0] 54)).alloc (.cells (madeCells #[.int .i64 0] n) 3)).alloc (.cells #[.slice (some ⟨w1.heap.size + 1, 0, none⟩) n n] 22)) xs (w1.heap.size + 1) (w1.heap.size + 1 + 1) w1.heap.size n (fun _ => 0) (.slice none 0 0) 0 [] := by
  have hs := hb.size
  have hr := World.rowIs_made (w1.alloc (.cells #[.slice none 0 0] 54)) (.int .i64 0) n 3
  have hr' := hr.alloc (.cells #[.slice (some ⟨w1.heap.size + 1, 0, none⟩) n n] 22)
  have hc := heap_alloc_new ((w1.alloc (.cells #[.slice none 0 0] 54)).alloc (.cells (madeCells #[.int .i64 0] n) 3)) (.cells #[.slice (some ⟨w1.heap.size + 1, 0, none⟩) n n] 22)
  refine ⟨by simpa using hr', by simpa using hc, block_alloc (block_alloc (heap_alloc_new w1 _) _) _, World.ownsRow_nil _ _ _ _, block_alloc (block_alloc (block_alloc hx _) _) _, hb.trans (((below2 w1 _ _).trans ((below1 _ _).mono (by simp; omega))).mono hs), by omega, hs⟩
set_option maxHeartbeats 6400000 in
set_option maxRecDepth 1000000 in
theorem classes_any {S T : List Int} {B bS oS bT oT cS cT : Nat} (w : World) (h : AI w B bS oS bT oT S T cS cT) (mi : Bool) (hmi : mi = decide (fnz S (fnz S 0) = 0)) (WD : Nat → Nat) (hWD : WD = widM mi (fnz T) (fun i => fnz S (fnz S i)) S.length) (RG : Nat → Bool) (hRG : RG = fun p => decide (perO (fnz T) S.length p = WD p)) :
    Calls Try.prog 54 #[.agg #[.slice (some ⟨bS, oS, none⟩) S.length cS, .slice (some ⟨bT, oT, none⟩) S.length cT]] w fun e w' => ∃ A c bc, e = .returned (.tuple #[.slice A (cst (uB (fnz T) (fun i => fnz S (fnz S i)) S.length) S.length).2.length c, .slice (some ⟨bc, 0, none⟩) S.length S.length]) ∧
      w'.ownsRow w.heap.size 60 3 (.slice A (cst (uB (fnz T) (fun i => fnz S (fnz S i)) S.length) S.length).2.length c) (cst (uB (fnz T) (fun i => fnz S (fnz S i)) S.length) S.length).2.length (ccs WD RG (cst (uB (fnz T) (fun i => fnz S (fnz S i)) S.length) S.length).2) ∧
      w'.rowIs bc 3 S.length (fun j => .int .i64 ((cst (uB (fnz T) (fun i => fnz S (fnz S i)) S.length) S.length).1 j)) ∧ Below w.heap.size w w' := by
  obtain ⟨i0, hi0, z0, z1, z2⟩ := info_parts Try.infoCls
  have HMi : Hid (∀ W, Below w.heap.size w W → Calls Try.prog 27 #[.agg #[.slice (some ⟨bS, oS, none⟩) S.length cS, .slice (some ⟨bT, oT, none⟩) S.length cT]] W fun e w' => e = .returned (.tuple #[.bool mi, .int .i64 0]) ∧ Below W.heap.size W w') := fun W hb => by
    rw [hmi]; exact pminus_any W (h.below hb)
  have hg := h.act.ps
  have hf := h.act.pt
  have hz := rel_inv hg hf h.act.rel
  have hpos : 0 < S.length := h.act.pos
  have hle := h.act.le
  have HI := Lib.hid (fun k (hk : k ≤ S.length) => cst_inv hf hz k hk)
  have HSr : Hid (RdN w w.heap.size bS oS S.length (fnz S)) := h.s.mono h.le
  have HTr : Hid (RdN w w.heap.size bT oT S.length (fnz T)) := h.t.mono h.le
  have hmk := fun W => mk_int S.length W hle
  clear h hmi
  generalize hfe : fnz T = f at *
  generalize hge : fnz S = g at *
  generalize S.length = n at *
  have HG := Lib.hid hg
  have HF := Lib.hid hf
  have HZ := Lib.hid hz
  have HWD := Lib.hid hWD
  have HRG := Lib.hid hRG
  clear hg hf hz hfe hge hWD hRG
  have T0 : Hid ((w.alloc (.cells #[.slice (some ⟨bS, oS, none⟩) n cS, .slice (some ⟨bT, oT, none⟩) n cT] 24)).heap[w.heap.size]? = some (.cells #[.slice (some ⟨bS, oS, none⟩) n cS, .slice (some ⟨bT, oT, none⟩) n cT] 24 (0, 0))) := heap_alloc_new w _
  have HB0 : Hid (Below w.heap.size w (w.alloc (.cells #[.slice (some ⟨bS, oS, none⟩) n cS, .slice (some ⟨bT, oT, none⟩) n cT] 24))) := below1 w _
  go_enter Try.func54, Try.ntmps54
  go_wp2_with (first
    | (go_at_call 27; ((with_reducible refine (HMi.out _ HB0.out).mono ?_); rintro e w1 ⟨rfl, hb⟩; have HB1 := Lib.hid (bel0 HB0.out hb); have T1 := Lib.hid (block_below T0.out hb); have HV1 := Lib.hid (cv_start w w1 _ n T1.out HB1.out); obtain ⟨⟨t1, t2⟩, _⟩ := two_of_block T1.out; have hzl := lt_of_block T1.out; clear hb))
    | fail)
  obtain ⟨W0, hW0⟩ : ∃ W0, W0 = (((w1.alloc (.cells #[.slice none 0 0] 54)).alloc (.cells (madeCells #[.int .i64 0] n) 3)).alloc (.cells #[.slice (some ⟨w1.heap.size + 1, 0, none⟩) n n] 22)) := ⟨_, rfl⟩
  rw [← hW0] at HV1 ⊢
  clear hW0 hmk t1 t2 hzl
  obtain ⟨pl, hpl⟩ : ∃ pl, pl = w1.heap.size := ⟨_, rfl⟩
  rw [← hpl] at HV1 ⊢
  clear hpl
  go_loopw [8, 24] (fun _ I wr => ∃ (k : Nat), I = .int .i64 k ∧ k ≤ n ∧ Hid (CV w wr #[.slice (some ⟨bS, oS, none⟩) n cS, .slice (some ⟨bT, oT, none⟩) n cT] (pl + 1) (pl + 1 + 1) pl n (fun j => if j < k then -1 else 0) (.slice none 0 0) 0 [])) (fun _ I _ => n - (intOf I).toNat)
  case atStart => exact ⟨0, rfl, Nat.zero_le _, HV1.out.congr fun j _ => by simp⟩
  case round =>
    clear HV1
    obtain ⟨k, rfl, hk, HV⟩ := hrel
    by_cases hlt : k < n
    · have hki : (k : Int) < (n : Int) := by omega
      have l1 := (one_of_block HV.out.bxc).1
      have hcs := HV.out.row.cell (i := k) hlt
      have hfz := HV.out.row.frozen k
      have H2 := Lib.hid (HV.out.set k (-1))
      go_wp2
      go_roundw
      case rel => exact ⟨k + 1, by go_num, hlt, H2.out.congr fun j _ => (by by_cases e : j = k <;> by_cases e2 : j < k <;> by_cases e3 : j < k + 1 <;> simp [e, e2, e3] <;> omega)⟩
      case measure => simp [intOf]; omega
    · obtain rfl : k = n := by omega
      have hk2 : ¬ (k : Int) < (k : Int) := by omega
      have HV0 : Hid (CV w wr #[.slice (some ⟨bS, oS, none⟩) k cS, .slice (some ⟨bT, oT, none⟩) k cT] (pl + 1) (pl + 1 + 1) pl k (fun _ => -1) (.slice none 0 0) 0 []) := HV.out.congr fun j hj => by simp [hj]
      have l1 := (one_of_block HV0.out.bxc).1
      clear hk HV
      go_wp2
      clear l1
      have HZ' : Hid (Inv2 f (fun i => g (g i)) k) := HZ
      obtain ⟨z, hze⟩ : ∃ z : Nat → Nat, z = fun i => g (g i) := ⟨_, rfl⟩
      have HZe := Lib.hid hze
      have hzi : ∀ i, g (g i) = z i := fun i => by rw [hze]
      rw [← hze] at HI HWD HZ
      have HIu : Hid (∀ j, j ≤ k → CI (uB f z k) k j (cst (uB f z k) j)) := HI
      go_loopw [10, 11, 12, 34] (fun _ _ _ I wr => ∃ (q : Nat) (A : Option Addr) (c : Nat), I = .int .i64 q ∧ q ≤ k ∧ Hid (CV w wr #[.slice (some ⟨bS, oS, none⟩) k cS, .slice (some ⟨bT, oT, none⟩) k cT] (pl + 1) (pl + 1 + 1) pl k (cst (uB f z k) q).1 (.slice A (cst (uB f z k) q).2.length c) (cst (uB f z k) q).2.length (ccs WD RG (cst (uB f z k) q).2))) (fun _ _ _ I _ => k - (intOf I).toNat)
      case atStart => exact ⟨0, _, _, rfl, Nat.zero_le _, HV0.out⟩
      case round =>
        clear HV0
        obtain ⟨q, A, c, rfl, hq, HV⟩ := hrel
        by_cases hlt : q < k
        · have hqi : (q : Int) < (k : Int) := by omega
          have hI := HIu.out q hq
          have hlen := hI.len
          by_cases hC : 0 ≤ (cst (uB f z k) q).1 q
          · have HM := Lib.hid (fun W (h : CV w W #[.slice (some ⟨bS, oS, none⟩) k cS, .slice (some ⟨bT, oT, none⟩) k cT] (pl + 1) (pl + 1 + 1) pl k (cst (uB f z k) q).1 (.slice A (cst (uB f z k) q).2.length c) (cst (uB f z k) q).2.length (ccs WD RG (cst (uB f z k) q).2)) => mark_old (pa := w.heap.size) h hlt hC)
            have HO := Lib.hid (cst_old hC)
            clear hI hC hlen
            go_wp2_with (first
              | (go_at_call 74; ((with_reducible refine (HM.out _ HV.out).mono ?_); rintro e w2 ⟨rfl, rfl⟩))
              | fail)
            go_roundw
            case rel => exact ⟨q + 1, A, c, by go_num, hlt, by rw [HO.out]; exact HV.out⟩
            case measure => simp [intOf]; omega
          · obtain ⟨hper, hperle⟩ := perO_spec HF.out hlt
            have hzl := HZ.out.lt q hlt
            obtain ⟨hper2, hperle2⟩ := perO_spec HF.out hzl
            have HM1 := Lib.hid (fun W (h : CV w W #[.slice (some ⟨bS, oS, none⟩) k cS, .slice (some ⟨bT, oT, none⟩) k cT] (pl + 1) (pl + 1 + 1) pl k (cst (uB f z k) q).1 (.slice A (cst (uB f z k) q).2.length c) (cst (uB f z k) q).2.length (ccs WD RG (cst (uB f z k) q).2)) => mark_new h HTr.out HF.out hlt hper hle (by omega) (fun j hj ho => neg_one HF.out HZ.out hI hlt hC hj ((uB_iff HF.out HZ.out hlt).2 (.inl ho))) hperle)
            have HN := Lib.hid (cst_new hC)
            obtain ⟨c2, C2, hc2l, hc2, hC2, HM2⟩ : ∃ (c2 : Nat) (C2 : Nat → Int), c2 ≤ k ∧ perO f k q + c2 = wid0 f z k q ∧ (∀ j, C2 j = if uB f z k q j = true then (((cst (uB f z k) q).2.length : Nat) : Int) else (cst (uB f z k) q).1 j) ∧
                Hid (∀ W, CV w W #[.slice (some ⟨bS, oS, none⟩) k cS, .slice (some ⟨bT, oT, none⟩) k cT] (pl + 1) (pl + 1 + 1) pl k (mkC f (cst (uB f z k) q).1 q (cst (uB f z k) q).2.length (perO f k q)) (.slice A (cst (uB f z k) q).2.length c) (cst (uB f z k) q).2.length (ccs WD RG (cst (uB f z k) q).2) →
                  Calls Try.prog 74 #[.int .i64 (z q : Nat), .pointer (some ⟨pl + 1 + 1, 0, none⟩), .pointer (some ⟨w.heap.size, 0, none⟩), .pointer (some ⟨pl, 0, none⟩)] W fun e w' => e = .returned (.int .i64 (c2 : Nat)) ∧ CV w w' #[.slice (some ⟨bS, oS, none⟩) k cS, .slice (some ⟨bT, oT, none⟩) k cT] (pl + 1) (pl + 1 + 1) pl k C2 (.slice A (cst (uB f z k) q).2.length c) (cst (uB f z k) q).2.length (ccs WD RG (cst (uB f z k) q).2)) := by
              by_cases ho : onC f q (z q)
              · refine ⟨0, _, Nat.zero_le _, ?_, fun j => mk_one HF.out HZ.out hlt ho j, fun W h => ?_⟩
                · unfold wid0; rw [if_pos ((cy_on HF.out hlt).2 ho)]
                · refine (mark_old (pa := w.heap.size) h hzl ?_).mono fun e w' h' => ⟨h'.1, by rw [h'.2]; exact h⟩
                  rw [mk_one HF.out HZ.out hlt ho, if_pos ((uB_iff HF.out HZ.out hlt).2 (.inl ho))]
                  omega
              · refine ⟨perO f k (z q), _, hperle2, ?_, fun j => mk_two HF.out HZ.out hlt j, fun W h => ?_⟩
                · unfold wid0; rw [if_neg fun h' => ho ((cy_on HF.out hlt).1 h')]
                · refine mark_new h HTr.out HF.out hzl hper2 hle (by omega) (fun j hj ho2 => ?_) hperle2
                  have hn := neg_one HF.out HZ.out hI hlt hC hj ((uB_iff HF.out HZ.out hlt).2 (.inr ho2))
                  unfold mkC
                  rw [if_neg fun h' => ho (onC_trans ((cy_on HF.out hlt).1 h') (onC_symm HF.out hzl ho2))]
                  exact hn
            have HNe : Hid ((cst (uB f z k) (q + 1)).2 = (cst (uB f z k) q).2 ++ [q] ∧ ∀ j, C2 j = (cst (uB f z k) (q + 1)).1 j) := by
              show _ ∧ _
              rw [HN.out]
              exact ⟨rfl, fun j => hC2 j⟩
            have HR1 : Hid (RG q = decide (perO f k q = WD q)) := by show _ = _; rw [HRG.out]
            have HW1 : Hid (WD q = if mi = true then wid0 f z k q else wid0 f z k q / 2) := by show _ = _; rw [HWD.out]; cases mi <;> rfl
            have hc1 := hper.pos
            clear hI hC hC2 HN hper hper2
            generalize (cst (uB f z k) q).1 = C at *
            generalize (cst (uB f z k) q).2 = P at *
            generalize hC1e : mkC f C q P.length (perO f k q) = C1 at *
            clear hC1e
            generalize perO f k q = c1 at *
            rw [← hc2] at HW1
            clear hc2
            have hPl : P.length ≤ 1152 := by omega
            have HPush : Hid (ccs WD RG (P ++ [q]) = ccs WD RG P ++ [.int .i64 (q : Nat), .int .i64 (WD q : Nat), .bool (RG q)]) := ccs_push WD RG P q
            generalize WD q = v at *
            generalize RG q = rg at *
            have hc1i : ((c1 : Int) == 0) = false := by simp; omega
            have hrg : ((c1 : Int) == (v : Int)) = rg := by rw [HR1.out, Bool.eq_iff_iff]; simp; omega
            have hS1 := (HSr.out.2 q hlt)
            have hgq := HG.out.lt q hlt
            have hS2 := (HSr.out.2 (g q) hgq)
            rw [hzi] at hS2
            have HFacts : Hid (∀ {W : World} {C' : Nat → Int}, CV w W #[.slice (some ⟨bS, oS, none⟩) k cS, .slice (some ⟨bT, oT, none⟩) k cT] (pl + 1) (pl + 1 + 1) pl k C' (.slice A P.length c) P.length (ccs WD RG P) → W.cell? ⟨w.heap.size, 0, none⟩ = some (.slice (some ⟨bS, oS, none⟩) k cS) ∧ W.cell? ⟨bS, oS + q, none⟩ = some (.int .i64 (g q : Nat)) ∧ W.cell? ⟨bS, oS + g q, none⟩ = some (.int .i64 (z q : Nat))) := fun h =>
              ⟨(two_of_block h.x).1.1, (h.bel.cell (p := ⟨bS, oS + q, none⟩) HSr.out.1).trans hS1, (h.bel.cell (p := ⟨bS, oS + g q, none⟩) HSr.out.1).trans hS2⟩
            clear hS1 hS2
            clear hzi HZe
            generalize g q = gq at *
            generalize z q = zq at *
            have hgqi : (gq : Int) < (k : Int) := by omega
            have hzqi : (zq : Int) < (k : Int) := by omega
            go_upto_region 15 with (first
              | (go_at_call 74; ((with_reducible refine (HM1.out _ HV.out).mono ?_); rintro e w2 ⟨rfl, h2⟩; have HV2 := Lib.hid h2.drew; clear h2))
              | fail)
            have hwr : IntKind.i64.wrap ((c1 : Int) + (c2 : Int)) = (c1 : Int) + (c2 : Int) := IntWalk.i64_in _ (by omega)
            go_region_held3 (fun w' => w'.cell? ⟨w.heap.size, 0, none⟩ = some (.slice (some ⟨bS, oS, none⟩) k cS) ∧ w'.cell? ⟨bS, oS + q, none⟩ = some (.int .i64 (gq : Nat)) ∧ w'.cell? ⟨bS, oS + gq, none⟩ = some (.int .i64 (zq : Nat)))
              (with_reducible first | exact HFacts.out HV3.out | exact HFacts.out HV2.out | fail)
              (first
                | (go_at_call 74; ((with_reducible refine (HM2.out _ HV2.out).mono ?_); rintro e w3 ⟨rfl, h3⟩; have HV3 := Lib.hid h3; clear h3))
                | fail)
            have hown := HV3.out.own
            have HP3 : Hid (∀ {w4 : World} {o : Obj}, (w3.alloc o).grownBy w4 (Value.slice A P.length c).ownBlock → w4.heap[pl]? = some (.cells #[.slice A P.length c] 54 (0, 0))) := fun {w4 o} hg =>
              (hg.block pl (by have := lt_of_block HV3.out.bxl; simp; omega) (row_apart HV3.out.bxl HV3.out.own (by decide))).trans (block_alloc HV3.out.bxl o)
            have l3 := (one_of_block HV3.out.bxl).1
            have hzl3 := lt_of_block HV3.out.bxl
            have hsz3 := HV3.out.bel.size
            cases mi
            case false =>
              have hv : v = (c1 + c2) / 2 := HW1.out
              have hq2 : ((c1 : Int) + (c2 : Int)) / 2 = (v : Int) := by omega
              clear hv HW1
              go_wp2_with (first
                | (at_builtin; (refine wpList_append_own_at _ rfl _ _ 54 rfl w.heap.size 60 i0 (.agg #[.int .i64 0, .int .i64 0, .bool false]) 3 24 Try.underlying54 hi0 z0 z1 z2 rfl (by decide) _ _ _ rfl (hown.alloc _) ⟨w3.heap.size, 0, none⟩ 1 1 [.int .i64 (q : Nat), .int .i64 (v : Nat), .bool rg] rfl rfl (cell_three_new _ _ _ _ _ rfl) (fun x hx => by simp at hx; rcases hx with rfl | rfl | rfl <;> rfl) (by unfold maxLen; omega) (by omega) (by simp; omega) ?_); intro v' w4 hown4 hg4 hnil4 hat4; obtain ⟨A2, c4, rfl⟩ := own_len hown4; have HR4 := Lib.hid hown4; have HG4 : Hid ((w3.alloc (.cells #[.int .i64 (q : Nat), .int .i64 (v : Nat), .bool rg] 60)).grownBy w4 (Value.slice A P.length c).ownBlock) := hg4; have HP4 := Lib.hid (HP3.out hg4); have l4 := (one_of_block HP4.out).1; have f4 := (one_of_block HP4.out).2; have hz4 := lt_of_block HP4.out; clear hown4 hg4 hnil4 hat4)
                | fail)
              have hA2 : ∃ gg, A2 = some ⟨gg, 0, none⟩ := by
                rcases HR4.out.2 with ⟨_, h⟩ | ⟨gg, _, _, h, _⟩
                · omega
                · cases h; exact ⟨gg, rfl⟩
              obtain ⟨gg, rfl⟩ := hA2
              have HV5 := Lib.hid (HV3.out.push HR4.out HG4.out)
              go_roundw
              case rel => exact ⟨q + 1, some ⟨gg, 0, none⟩, c4, by go_num, hlt, by
                have h5 := HV5.out.congr fun j _ => HNe.out.2 j
                rw [HNe.out.1, HPush.out, List.length_append]
                exact h5⟩
              case measure => simp [intOf]; omega
            case true =>
              have hv : v = c1 + c2 := HW1.out
              have hq2 : (c1 : Int) + (c2 : Int) = (v : Int) := by omega
              clear hv HW1
              go_wp2_with (first
                | (at_builtin; (refine wpList_append_own_at _ rfl _ _ 54 rfl w.heap.size 60 i0 (.agg #[.int .i64 0, .int .i64 0, .bool false]) 3 24 Try.underlying54 hi0 z0 z1 z2 rfl (by decide) _ _ _ rfl (hown.alloc _) ⟨w3.heap.size, 0, none⟩ 1 1 [.int .i64 (q : Nat), .int .i64 (v : Nat), .bool rg] rfl rfl (cell_three_new _ _ _ _ _ rfl) (fun x hx => by simp at hx; rcases hx with rfl | rfl | rfl <;> rfl) (by unfold maxLen; omega) (by omega) (by simp; omega) ?_); intro v' w4 hown4 hg4 hnil4 hat4; obtain ⟨A2, c4, rfl⟩ := own_len hown4; have HR4 := Lib.hid hown4; have HG4 : Hid ((w3.alloc (.cells #[.int .i64 (q : Nat), .int .i64 (v : Nat), .bool rg] 60)).grownBy w4 (Value.slice A P.length c).ownBlock) := hg4; have HP4 := Lib.hid (HP3.out hg4); have l4 := (one_of_block HP4.out).1; have f4 := (one_of_block HP4.out).2; have hz4 := lt_of_block HP4.out; clear hown4 hg4 hnil4 hat4)
                | fail)
              have hA2 : ∃ gg, A2 = some ⟨gg, 0, none⟩ := by
                rcases HR4.out.2 with ⟨_, h⟩ | ⟨gg, _, _, h, _⟩
                · omega
                · cases h; exact ⟨gg, rfl⟩
              obtain ⟨gg, rfl⟩ := hA2
              have HV5 := Lib.hid (HV3.out.push HR4.out HG4.out)
              go_roundw
              case rel => exact ⟨q + 1, some ⟨gg, 0, none⟩, c4, by go_num, hlt, by
                have h5 := HV5.out.congr fun j _ => HNe.out.2 j
                rw [HNe.out.1, HPush.out, List.length_append]
                exact h5⟩
              case measure => simp [intOf]; omega
        · obtain rfl : q = k := by omega
          have hk2 : ¬ (q : Int) < (q : Int) := by omega
          have l1 := (one_of_block HV.out.bxc).1
          have l2 := (one_of_block HV.out.bxl).1
          have l1' := fun N => (show (wr.drewN N).cell? ⟨pl + 1 + 1, 0, none⟩ = _ from l1)
          have l2' := fun N => (show (wr.drewN N).cell? ⟨pl, 0, none⟩ = _ from l2)
          clear hzi
          go_wp2
          go_quiet (fail)
          go_wp2
          have h9 := HZe.out
          subst h9
          refine bodyPost_ret (v := .tuple #[.slice A (cst (uB f (fun i => g (g i)) q) q).2.length c, .slice (some ⟨pl + 1, 0, none⟩) q q]) ?_ rfl ⟨A, c, pl + 1, rfl, (HV.out.drewN _).own, (HV.out.drewN _).row, (HV.out.drewN _).bel⟩
          simp [results, Try.results54, go_sem]
end Go.Proofs.Ytmikhkolbkdnpaa
