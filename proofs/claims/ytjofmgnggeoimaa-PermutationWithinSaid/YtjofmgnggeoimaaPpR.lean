/- The contracts of Minus and of the code's classes. The contract of Copy: a coset action's copy, for lists of at most 2^47 bytes. The contracts of the reference's Cycle and classes. The contracts of Projective and Minus, of a coset action and of any other pair of lists. -/
import Derived.Test.YtjofmgnggeoimaaChkL
import Derived.Test.YtjofmgnggeoimaaActM
import Derived.Test.YtjofmgnggeoimaaBoxL
import Derived.Test.YtjofmgnggeoimaaLawK
import Derived.Test.YtjofmgnggeoimaaClsM
import Derived.Test.YtjofmgnggeoimaaRPr
import Derived.Deep.DeepCutAuto
import Derived.Deep.CutBlock
import Derived.Deep.RegionHeld3
import Derived.Laws.AppendOwnNone
namespace Go.Proofs.Ytjofmgnggeoimaa
open Go.RowKit
set_option linter.unusedVariables false
set_option linter.unusedSimpArgs false

/-- An action that comes in: its lists are readable. -/
structure AI (w : World) (B bS oS bT oT : Nat) (S T : List Int) (cS cT : Nat) : Prop where
  act : Act2 S T
  zs : RdZ w B (some ⟨bS, oS, none⟩) cS S
  zt : RdZ w B (some ⟨bT, oT, none⟩) cT T
  s : RdN w B bS oS S.length (fnz S)
  t : RdN w B bT oT S.length (fnz T)
  le : B ≤ w.heap.size
theorem AI.below {w w' : World} {B bS oS bT oT : Nat} {S T : List Int} {cS cT : Nat} (h : AI w B bS oS bT oT S T cS cT) (hb : Below w.heap.size w w') : AI w' B bS oS bT oT S T cS cT :=
  ⟨h.act, h.zs.below (hb.mono h.le), h.zt.below (hb.mono h.le), h.s.below (hb.mono h.le), h.t.below (hb.mono h.le), Nat.le_trans h.le hb.size⟩
set_option maxHeartbeats 3200000 in
set_option maxRecDepth 1000000 in
theorem pminus_any {S T : List Int} {B bS oS bT oT cS cT : Nat} (w : World) (h : AI w B bS oS bT oT S T cS cT) :
    Calls Try.prog 21 #[.agg #[.slice (some ⟨bS, oS, none⟩) S.length cS, .slice (some ⟨bT, oT, none⟩) S.length cT]] w fun e w' => e = .returned (.tuple #[.bool (decide (fnz S (fnz S 0) = 0)), .int .i64 0]) ∧ Below w.heap.size w w' := by
  have HCk : Hid (∀ W, Below w.heap.size w W → Calls Try.prog 13 #[.agg #[.slice (some ⟨bS, oS, none⟩) S.length cS, .slice (some ⟨bT, oT, none⟩) S.length cT]] W fun e w' => e = .returned (.int .i64 0) ∧ Below W.heap.size W w') := fun W hb => by
    have := pcheck_any W (h.below hb).zs (h.below hb).zt (h.below hb).le
    rwa [chkA_ok h.act, h.act.len] at this
  have H := Lib.hid h
  have T0 : Hid ((w.alloc (.cells #[.slice (some ⟨bS, oS, none⟩) S.length cS, .slice (some ⟨bT, oT, none⟩) S.length cT] 24)).heap[w.heap.size]? = some (.cells #[.slice (some ⟨bS, oS, none⟩) S.length cS, .slice (some ⟨bT, oT, none⟩) S.length cT] 24 (0, 0))) := heap_alloc_new w _
  have HB0 : Hid (Below w.heap.size w (w.alloc (.cells #[.slice (some ⟨bS, oS, none⟩) S.length cS, .slice (some ⟨bT, oT, none⟩) S.length cT] 24))) := below1 w _
  have hpos := h.act.pos
  have h1 := h.act.ps.lt 0 (by omega)
  have h2 := h.act.ps.lt _ h1
  clear h
  have HV : Hid (∀ a b : Nat, (((a : Int) == (b : Int)) : Bool) = decide (a = b)) := fun a b => by rw [Bool.eq_iff_iff]; simp; omega
  obtain ⟨b, hb⟩ : ∃ b, b = decide (fnz S (fnz S 0) = 0) := ⟨_, rfl⟩
  rw [← hb]
  have HBb : Hid (b = decide (fnz S (fnz S 0) = 0)) := hb
  clear hb
  go_enter Try.func21, Try.ntmps21
  go_wp2_with (first
    | (go_at_call 13; ((with_reducible refine (HCk.out _ HB0.out).mono ?_); rintro e w1 ⟨rfl, hb⟩; have HB1 := Lib.hid (bel0 HB0.out hb); have T1 := Lib.hid (block_below T0.out hb); have HI1 := Lib.hid (H.out.below HB1.out); clear hb))
    | fail)
  have c0 : ∀ N, (w1.drewN N).cell? ⟨bS, oS + 0, none⟩ = some (.int .i64 (fnz S 0 : Nat)) := fun N => HI1.out.s.2 0 (by omega)
  have c1 : ∀ N, (w1.drewN N).cell? ⟨bS, oS + fnz S 0, none⟩ = some (.int .i64 (fnz S (fnz S 0) : Nat)) := fun N => HI1.out.s.2 _ h1
  have u1 := fun N => (show (w1.drewN N).cell? ⟨w.heap.size, 0, none⟩ = _ from (two_of_block T1.out).1.1)
  generalize fnz S (fnz S 0) = y at *
  generalize fnz S 0 = x at *
  have i0 : (0 : Int) < (S.length : Int) := by omega
  have i1 : (x : Int) < (S.length : Int) := by omega
  have c0' : ∀ N, (w1.drewN N).cell? ⟨bS, oS, none⟩ = some (.int .i64 (x : Nat)) := fun N => c0 N
  by_cases hy : y = 0
  · subst hy
    have hbt : b = true := HBb.out.trans (by simp)
    subst hbt
    go_quiet (fail)
    go_wp2
    go_ret2
    exact ⟨rfl, below_drewN HB1.out _⟩
  · have hbf : b = false := HBb.out.trans (by simpa using hy)
    subst hbf
    have hyb : ((y : Int) == 0) = false := by simp; omega
    go_quiet (fail)
    go_wp2
    refine bodyPost_ret (v := .tuple #[.bool false, .int .i64 0]) ?_ rfl ⟨rfl, below_drewN HB1.out _⟩
    simp [results, Try.results21, go_sem]
theorem mk_int (n : Nat) (W : World) (hn : n ≤ 1152) : (Instr.makeSlice 22 (.int .i64 (n : Int)) (.int .i64 (n : Int))).run Try.prog W = .ok (.slice (some ⟨W.heap.size, 0, none⟩) n n) (W.alloc (.cells (madeCells #[.int .i64 0] n) 3)) := by
  obtain ⟨i1, hj, y0, y1, y2⟩ := info_parts Try.infoInt
  have h := run_make (P := Try.prog) W 22 3 i1 (.int .i64 0) Try.underlying22 hj y0 .i64 .i64 (n : Int) (n : Int) (by omega) (by omega) (by rw [y2]; omega) (by omega)
  rw [show ((n : Int)).toNat = n by omega, y1, Nat.mul_one] at h
  exact h
/-- The cells of the list of classes. -/
def ccs (W : Nat → Nat) (R : Nat → Bool) (P : List Nat) : List Value := P.flatMap fun p => [.int .i64 (p : Nat), .int .i64 (W p : Nat), .bool (R p)]
theorem ccs_push (W : Nat → Nat) (R : Nat → Bool) (P : List Nat) (p : Nat) : ccs W R (P ++ [p]) = ccs W R P ++ [.int .i64 (p : Nat), .int .i64 (W p : Nat), .bool (R p)] := by simp [ccs]
theorem cell_three_new (w : World) (a b c : Value) (t : TypeId) {g : Nat} (hg : g = w.heap.size) : ∀ j u, [a, b, c][j]? = some u → (w.alloc (.cells #[a, b, c] t)).cell? ((⟨g, 0, none⟩ : Addr).add j) = some u := by
  subst hg
  intro j u hj
  have e : ∀ j, (⟨w.heap.size, 0, none⟩ : Addr).add j = ⟨w.heap.size, j, none⟩ := fun j => by unfold Addr.add; split <;> simp_all
  rw [e]
  match j, hj with
  | 0, hj => simp at hj; subst hj; simp
  | 1, hj => simp at hj; subst hj; simp
  | 2, hj => simp at hj; subst hj; simp
end Go.Proofs.Ytjofmgnggeoimaa
namespace Go.Proofs.Ytjofmgnggeoimaa
open Go.RowKit
set_option linter.unusedVariables false
set_option linter.unusedSimpArgs false

theorem addr_add7 (b o k : Nat) : (⟨b, o, none⟩ : Addr).add k = ⟨b, o + k, none⟩ := by unfold Addr.add; split <;> simp_all
/-- The append of a list that came in to an own empty row, as an operation of a drawn region. -/
theorem step_app3 {w : World} {ops : Array Oper} {o : Oper} {a : Act} {K : Act → World → Prop} {Q : Exit → Act → World → Prop} {E : Prop} {B c base : Nat} {A : Option Addr} {l : List Int} {v : Value} (hgd : o.guard = none) (s x : Operand)
    (ho : o.op = .call { callee := .builtin .append, args := #[s, x], argTypes := #[22, 22] })
    (hs : a.eval s = v) (hown : w.ownsRow base 3 1 v 0 []) (hx : a.eval x = .slice A l.length c) (hr : RdZ w B A c l) (hA : A = none → c = 0) (hl : l.length ≤ 17592186044416) (hbase : base ≤ w.heap.size)
    (h : ∀ v' w', w'.ownsRow base 3 1 v' l.length (zs l) → w.grownBy w' v.ownBlock → K (a.put o.dst v') w') : if Region.wanted o (yielded ops a.tmps) = true then Oper.wp Try.prog o a w K Q else E := by
  obtain ⟨i0, hi, hz0, hz1, hz2⟩ := info_parts Try.infoInt
  rw [if_pos (show Region.wanted o (yielded ops a.tmps) = true by simp [Region.wanted, hgd])]
  cases A with
  | none =>
    obtain rfl := hA rfl
    have hl0 : l = [] := by
      rcases Nat.eq_zero_or_pos l.length with h0 | h0
      · exact List.eq_nil_of_length_eq_zero h0
      · obtain ⟨b, o', e, _⟩ := hr.2.2.1 h0
        cases e
    subst hl0
    have hrun := run_append_owned_none (P := Try.prog) (w := w) base 22 o.type 3 i0 1 Try.underlying22 hi v 0 [] hown
    have hx' : a.eval x = .slice none 0 0 := hx
    have hk := h v w hown (World.grownBy.refl w _)
    unfold Oper.wp
    simp [execOp, ho, resolve, invoke, builtin, hs, hx', hrun, Result.andThen]
    exact hk
  | some ad =>
    obtain ⟨b, o', rfl⟩ := hr.2.2.2 ad rfl
    refine wp_append_own w s x 22 ho base 3 i0 (.int .i64 0) 1 8 Try.underlying22 hi hz0 hz1 hz2 rfl (by decide) v 0 [] hs hown ⟨b, o', none⟩ l.length c (zs l) hx (by simp [zs]) (fun j u hj => ?_) (fun u hu => ?_) (by unfold maxLen; omega) (by omega) hbase fun v' w' h1 h2 _ => h v' w' (by simpa using h1) h2
    · have hjl : j < l.length := by
        have := (List.getElem?_eq_some_iff.1 hj).1
        simpa [zs] using this
      obtain ⟨b2, o2, e, _, hc⟩ := hr.at_ hjl
      simp only [Option.some.injEq, Addr.mk.injEq] at e
      obtain ⟨rfl, rfl, _⟩ := e
      rw [zs_get l j hjl] at hj
      rw [addr_add7, hc]
      exact hj
    · obtain ⟨x', _, rfl⟩ := List.mem_map.1 hu
      rfl
theorem own_empty7 (w : World) {g : Nat} (hg : g = w.heap.size) : (w.alloc (.cells #[] 3)).ownsRow g 3 1 (.slice (some ⟨g, 0, none⟩) 0 0) 0 [] := by
  subst hg
  exact ⟨rfl, .inr ⟨w.heap.size, 0, #[], rfl, Nat.le_refl _, heap_alloc_new w _, Nat.le_refl _, by unfold maxLen; omega, rfl, rfl⟩⟩
theorem own_of_block {w : World} {g : Nat} (h : w.heap[g]? = some (.cells #[] 3 (0, 0))) : w.ownsRow g 3 1 (.slice (some ⟨g, 0, none⟩) 0 0) 0 [] :=
  ⟨rfl, .inr ⟨g, 0, #[], rfl, Nat.le_refl _, h, Nat.le_refl _, by unfold maxLen; omega, rfl, rfl⟩⟩
/-- A list stays readable while an empty row grows. -/
theorem rdz_app {w2 w3 : World} {A : Option Addr} {B c b : Nat} {l : List Int} (h : RdZ w2 B A c l) (hB : B ≤ w2.heap.size) (hg : w2.grownBy w3 (some b)) (hb : w2.heap[b]? = some (.cells #[] 3 (0, 0))) : RdZ w3 B A c l := by
  refine ⟨h.1, h.2.1, fun hn => ?_, h.2.2.2⟩
  obtain ⟨g, o, e, hlt, hc⟩ := h.2.2.1 hn
  refine ⟨g, o, e, hlt, fun k hk => ?_⟩
  have h1 := hc k hk
  have hne : g ≠ b := by
    intro e'
    subst e'
    have h9 : w2.cell? ⟨g, o + k, none⟩ = none := by simp [World.cell?, hb]
    rw [h9] at h1
    cases h1
  have hblk := hg.block g (by omega) (by simpa using hne)
  rw [← h1]
  simp [World.cell?, hblk]
/-- A list stays readable while the box of two nil slices is filled. -/
theorem rdz_setR {w : World} {A : Option Addr} {B c r : Nat} {t : TypeId} {l : List Int} (h : RdZ w B A c l) (hb : w.heap[r]? = some (.cells #[.slice none 0 0, .slice none 0 0] t (0, 0))) (a b : Value) : RdZ ((w.setCell ⟨r, 0, none⟩ a).setCell ⟨r, 1, none⟩ b) B A c l := by
  refine ⟨h.1, h.2.1, fun hn => ?_, h.2.2.2⟩
  obtain ⟨g, o, e, hlt, hc⟩ := h.2.2.1 hn
  refine ⟨g, o, e, hlt, fun k hk => ?_⟩
  have h1 := hc k hk
  have hne : g ≠ r := by
    intro e'
    subst e'
    have h9 : w.cell? ⟨g, o + k, none⟩ = (#[Value.slice none 0 0, Value.slice none 0 0] : Array Value)[o + k]? := by simp [World.cell?, hb]
    rw [h9] at h1
    rcases Nat.lt_or_ge (o + k) 2 with h2 | h2
    · rcases (show o + k = 0 ∨ o + k = 1 by omega) with h3 | h3 <;> rw [h3] at h1 <;> simp at h1
    · rw [Array.getElem?_eq_none (by simpa using h2)] at h1
      cases h1
  rw [← h1]
  have e1 : ((w.setCell ⟨r, 0, none⟩ a).setCell ⟨r, 1, none⟩ b).heap[g]? = w.heap[g]? := set_ne (set_ne rfl hne a) hne b
  simp [World.cell?, e1]
/-- What the copy's region knows of the boxes. -/
structure CPS (w wx : World) (xs ys : Array Value) : Prop where
  x : wx.heap[w.heap.size]? = some (.cells xs 24 (0, 0))
  r : wx.heap[w.heap.size + 1]? = some (.cells ys 24 (0, 0))
  bel : Below w.heap.size w wx
section
variable {w wx w' : World} {xs ys : Array Value}
theorem CPS.drew (h : CPS w wx xs ys) : CPS w wx.drew xs ys := ⟨h.x, h.r, h.bel.drew⟩
theorem CPS.alloc (h : CPS w wx xs ys) (o : Obj) : CPS w (wx.alloc o) xs ys := ⟨block_alloc h.x _, block_alloc h.r _, h.bel.alloc h.bel.size _⟩
theorem CPS.grown (h : CPS w wx xs ys) {g : Nat} (hg : wx.grownBy w' (some g)) (hge : w.heap.size + 1 < g) : CPS w w' xs ys :=
  ⟨(hg.block _ (lt_of_block h.x) (by simp; omega)).trans h.x, (hg.block _ (lt_of_block h.r) (by simp; omega)).trans h.r, h.bel.grown hg h.bel.size (fun j hj => by cases hj; omega)⟩
end
theorem cps_start (w : World) (xs ys : Array Value) : CPS w ((w.alloc (.cells xs 24)).alloc (.cells ys 24)) xs ys :=
  ⟨block_alloc (heap_alloc_new w _) _, by have := heap_alloc_new (w.alloc (.cells xs 24)) (.cells ys 24); simpa using this, below2 w _ _⟩
theorem CPS.set {w wx : World} {xs : Array Value} {p q : Value} (h : CPS w wx xs #[p, q]) (a b : Value) : CPS w ((wx.setCell ⟨w.heap.size + 1, 0, none⟩ a).setCell ⟨w.heap.size + 1, 1, none⟩ b) xs #[a, b] :=
  ⟨set_ne (set_ne h.x (by omega) _) (by omega) _, two_set1 (two_set0 h.r a) b, (h.bel.setCell (by show _ ≤ w.heap.size + 1; omega) _).setCell (by show _ ≤ w.heap.size + 1; omega) _⟩
set_option maxHeartbeats 6400000 in
set_option maxRecDepth 1000000 in
theorem copy_any {S T : List Int} {cS cT : Nat} {AS AT : Option Addr} (w : World) (hS : RdZ w w.heap.size AS cS S) (hT : RdZ w w.heap.size AT cT T) (hAS : AS = none → cS = 0) (hAT : AT = none → cT = 0) (hlS : S.length ≤ 17592186044416) (hlT : T.length ≤ 17592186044416) :
    Calls Try.prog 14 #[.agg #[.slice AS S.length cS, .slice AT T.length cT]] w fun e w' => ∃ A c A' c', e = .returned (.agg #[.slice A S.length c, .slice A' T.length c']) ∧ RdZ w' w'.heap.size A c S ∧ RdZ w' w'.heap.size A' c' T ∧ Below w.heap.size w w' := by
  have HC0 := Lib.hid (cps_start w #[.slice AS S.length cS, .slice AT T.length cT] #[.slice none 0 0, .slice none 0 0])
  have HS := Lib.hid hS
  have HT := Lib.hid hT
  have HAS := Lib.hid hAS
  have HAT := Lib.hid hAT
  clear hS hT hAS hAT
  go_enter Try.func14, Try.ntmps14
  go_wp2
  obtain ⟨W, hW⟩ : ∃ W, W = (w.alloc (.cells #[.slice AS S.length cS, .slice AT T.length cT] 24)).alloc (.cells #[.slice none 0 0, .slice none 0 0] 24) := ⟨_, rfl⟩
  have hWs : W.heap.size = w.heap.size + 1 + 1 := by rw [hW]; simp
  rw [← hW] at HC0 ⊢
  clear hW
  have HZ : Hid (w.heap.size + 1 < W.heap.size) := by show _ < _; omega
  have HE0 : Hid (((W.alloc (.cells #[] 3)).alloc (.cells #[] 3)).drew.heap[W.heap.size]? = some (.cells #[] 3 (0, 0))) := block_alloc (heap_alloc_new W _) _
  have HE1 : Hid (((W.alloc (.cells #[] 3)).alloc (.cells #[] 3)).drew.heap[W.heap.size + 1]? = some (.cells #[] 3 (0, 0))) := by
    have := heap_alloc_new (W.alloc (.cells #[] 3)) (.cells #[] 3)
    rw [show (W.alloc (.cells #[] 3)).heap.size = W.heap.size + 1 by simp] at this
    exact this
  have HEc : Hid ((W.alloc (.cells #[] 3)).drew.heap[W.heap.size]? = some (.cells #[] 3 (0, 0))) := heap_alloc_new W _
  have HC2 : Hid (CPS w ((W.alloc (.cells #[] 3)).alloc (.cells #[] 3)).drew #[.slice AS S.length cS, .slice AT T.length cT] #[.slice none 0 0, .slice none 0 0]) := ((HC0.out.alloc _).alloc _).drew
  have HC1 : Hid (CPS w (W.alloc (.cells #[] 3)).drew #[.slice AS S.length cS, .slice AT T.length cT] #[.slice none 0 0, .slice none 0 0]) := (HC0.out.alloc _).drew
  have HSZ2 : Hid (((W.alloc (.cells #[] 3)).alloc (.cells #[] 3)).drew.heap.size = W.heap.size + 1 + 1) := by show ((W.alloc (.cells #[] 3)).alloc (.cells #[] 3)).heap.size = _; simp
  have HSZ1 : Hid ((W.alloc (.cells #[] 3)).drew.heap.size = W.heap.size + 1) := by show (W.alloc (.cells #[] 3)).heap.size = _; simp
  clear hWs
  obtain ⟨⟨t1, t2⟩, _⟩ := two_of_block HC0.out.x
  go_cut [6, 10] (fun s6 s10 wx => ∃ A c A' c', RdZ wx wx.heap.size A c S ∧ RdZ wx wx.heap.size A' c' T ∧ Hid (CPS w wx #[.slice AS S.length cS, .slice AT T.length cT] #[.slice A S.length c, .slice A' T.length c']))
  case first =>
    go_region_held3 (fun w' => w'.cell? ⟨w.heap.size, 0, none⟩ = some (.slice AS S.length cS) ∧ w'.cell? ⟨w.heap.size, 1, none⟩ = some (.slice AT T.length cT))
      (with_reducible first | exact (two_of_block HC0.out.x).1 | exact (two_of_block HC0.out.drew.x).1 | exact (two_of_block (HC0.out.alloc _).drew.x).1 | exact (two_of_block ((HC0.out.alloc _).alloc _).drew.x).1 | exact (two_of_block CS2.out.x).1 | exact (two_of_block (CS2.out.alloc _).x).1 | exact (two_of_block CS3.out.x).1 | exact (two_of_block (CS3.out.set _ _).x).1 | fail)
      (first
        | (refine step_app3 (v := .slice (some ⟨W.heap.size, 0, none⟩) 0 0) rfl _ _ rfl rfl (own_of_block HE0.out) rfl (HS.out.below HC2.out.bel) HAS.out hlS (by rw [HSZ2.out]; omega) ?_; intro v' w2 hown hg; obtain ⟨A1, c1, rfl, hr1⟩ := own_rdz hown; have HR1 := Lib.hid hr1; have CS2 := Lib.hid (HC2.out.grown hg HZ.out); have HB2 : Hid (w2.heap[W.heap.size + 1]? = some (.cells #[] 3 (0, 0))) := (hg.block _ (by rw [HSZ2.out]; omega) (by simp [Value.ownBlock])).trans HE1.out; have hw2 := lt_of_block HB2.out; clear hown hg hr1)
        | (refine step_app3 (v := .slice (some ⟨W.heap.size + 1, 0, none⟩) 0 0) rfl _ _ rfl rfl (own_of_block HE1.out) rfl (HS.out.below HC2.out.bel) HAS.out hlS (by rw [HSZ2.out]; omega) ?_; intro v' w2 hown hg; obtain ⟨A1, c1, rfl, hr1⟩ := own_rdz hown; have HR1 := Lib.hid hr1; have CS2 := Lib.hid (CPS.grown (g := W.heap.size + 1) HC2.out hg (by have := HZ.out; omega)); have HB2' : Hid (w2.heap[W.heap.size]? = some (.cells #[] 3 (0, 0))) := (hg.block _ (by rw [HSZ2.out]; omega) (by simp [Value.ownBlock])).trans HE0.out; have hw2 := lt_of_block HB2'.out; clear hown hg hr1)
        | (refine step_app3 (v := .slice (some ⟨W.heap.size, 0, none⟩) 0 0) rfl _ _ rfl rfl (own_of_block HEc.out) rfl (HS.out.below HC1.out.bel) HAS.out hlS (by rw [HSZ1.out]; omega) ?_; intro v' w2 hown hg; obtain ⟨A1, c1, rfl, hr1⟩ := own_rdz hown; have HR1 := Lib.hid hr1; have CS2 := Lib.hid (HC1.out.grown hg HZ.out); have hw2 : W.heap.size < w2.heap.size := (by have := hg.size; rw [HSZ1.out] at this; omega); clear hown hg hr1)
        | (refine step_app3 (v := .slice (some ⟨W.heap.size + 1, 0, none⟩) 0 0) rfl _ _ rfl rfl (own_of_block HB2.out) rfl (HT.out.below CS2.out.bel) HAT.out hlT (Nat.le_of_lt hw2) ?_; intro v' w3 hown hg; obtain ⟨A3, c3, rfl, hr3⟩ := own_rdz hown; have HR3 := Lib.hid hr3; have CS3 := Lib.hid (CPS.grown (g := W.heap.size + 1) CS2.out hg (by have := HZ.out; omega)); have HR1' := Lib.hid ((rdz_app HR1.out (Nat.le_refl _) hg HB2.out).mono hg.size); obtain ⟨⟨r1, r2⟩, fr⟩ := two_of_block CS3.out.r; have hzr := lt_of_block CS3.out.r; clear hown hg hr3)
        | (refine step_app3 (v := .slice (some ⟨W.heap.size, 0, none⟩) 0 0) rfl _ _ rfl rfl (own_of_block HB2'.out) rfl (HT.out.below CS2.out.bel) HAT.out hlT (Nat.le_of_lt hw2) ?_; intro v' w3 hown hg; obtain ⟨A3, c3, rfl, hr3⟩ := own_rdz hown; have HR3 := Lib.hid hr3; have CS3 := Lib.hid (CS2.out.grown hg HZ.out); have HR1' := Lib.hid ((rdz_app HR1.out (Nat.le_refl _) hg HB2'.out).mono hg.size); obtain ⟨⟨r1, r2⟩, fr⟩ := two_of_block CS3.out.r; have hzr := lt_of_block CS3.out.r; clear hown hg hr3)
        | (refine step_app3 (v := .slice (some ⟨w2.heap.size, 0, none⟩) 0 0) rfl _ _ rfl rfl (own_of_block (heap_alloc_new w2 _)) rfl (HT.out.below (CS2.out.alloc _).bel) HAT.out hlT (by simp) ?_; intro v' w3 hown hg; obtain ⟨A3, c3, rfl, hr3⟩ := own_rdz hown; have HR3 := Lib.hid hr3; have CS3 := Lib.hid (CPS.grown (g := w2.heap.size) (CS2.out.alloc _) hg (by have := HZ.out; omega)); have HR1' := Lib.hid ((rdz_app ((HR1.out.below (below1 w2 _)).mono (Nat.le_refl _)) (by simp) hg (heap_alloc_new w2 _)).mono (Nat.le_trans (by simp) hg.size)); obtain ⟨⟨r1, r2⟩, fr⟩ := two_of_block CS3.out.r; have hzr := lt_of_block CS3.out.r; clear hown hg hr3)
        | fail)
    all_goals
      go_wp2_with fail
      go_meet
      exact ⟨A1, c1, A3, c3, (rdz_setR HR1'.out CS3.out.r _ _).mono (by simp), (rdz_setR HR3.out CS3.out.r _ _).mono (by simp), Lib.hid (CS3.out.set _ _)⟩
  case rest =>
    obtain ⟨A, c, A', c', h1, h2, h3⟩ := hcut
    obtain ⟨⟨r1, r2⟩, fr⟩ := two_of_block h3.r
    go_wp2
    refine bodyPost_ret (v := .agg #[.slice A S.length c, .slice A' T.length c']) ?_ rfl ⟨A, c, A', c', rfl, h1, h2, h3.bel⟩
    simp [results, Try.results14, go_sem, r1, r2]
end Go.Proofs.Ytjofmgnggeoimaa
namespace Go.Proofs.Ytjofmgnggeoimaa
open Go.RowKit
set_option linter.unusedVariables false
set_option linter.unusedSimpArgs false

theorem cyL_succ (f : Nat → Nat) (i k : Nat) : cyL f i (k + 1) = cyL f i k ++ [itr f k i] := by simp [cyL, List.range_succ]
theorem cyL_len (f : Nat → Nat) (i k : Nat) : (cyL f i k).length = k := by simp [cyL]
set_option maxHeartbeats 3200000 in
set_option maxRecDepth 1000000 in
theorem rcycle_any {f : Nat → Nat} {n i c bT oT cT : Nat} (w : World) (hT : RdN w w.heap.size bT oT n f) (hp : Prm f n) (hi : i < n) (hc : IsPer f i c) (hcn : c ≤ n) (hn : n ≤ 1152) :
    Calls Try.prog 69 #[.slice (some ⟨bT, oT, none⟩) n cT, .int .i64 (i : Nat)] w fun e w' => ∃ g cc, e = .returned (.slice (some ⟨g, 0, none⟩) c cc) ∧ w'.ownsRow w.heap.size 3 1 (.slice (some ⟨g, 0, none⟩) c cc) c (zs (iz (cyL f i c))) ∧ Below w.heap.size w w' := by
  obtain ⟨i0, hi0, z0, z1, z2⟩ := info_parts Try.infoInt
  have HT := Lib.hid hT
  have HP := Lib.hid hp
  have HPer := Lib.hid hc
  have hii : (i : Int) < (n : Int) := by omega
  have hc1 := hc.pos
  clear hT hp hc
  have c0 : (w.alloc (.cells #[.int .i64 (i : Nat)] 3)).cell? ⟨bT, oT + i, none⟩ = some (.int .i64 (f i : Nat)) := ((below1 w _).cell (p := ⟨bT, oT + i, none⟩) HT.out.1).trans (HT.out.2 i hi)
  have HO0 : Hid ((w.alloc (.cells #[.int .i64 (i : Nat)] 3)).ownsRow w.heap.size 3 1 (.slice (some ⟨w.heap.size, 0, none⟩) 1 1) 1 (zs (iz (cyL f i 1)))) :=
    ⟨rfl, .inr ⟨w.heap.size, 1, _, rfl, Nat.le_refl _, heap_alloc_new w _, Nat.le_refl _, by unfold maxLen; omega, rfl, rfl⟩⟩
  have HB0 : Hid (Below w.heap.size w (w.alloc (.cells #[.int .i64 (i : Nat)] 3))) := below1 w _
  go_enter Try.func69, Try.ntmps69
  go_wp2
  clear c0
  go_loopw [5, 6] (fun V I wr => ∃ (k g cc : Nat), V = .slice (some ⟨g, 0, none⟩) k cc ∧ I = .int .i64 (itr f k i : Nat) ∧ 1 ≤ k ∧ k ≤ c ∧ Hid (wr.ownsRow w.heap.size 3 1 (.slice (some ⟨g, 0, none⟩) k cc) k (zs (iz (cyL f i k)))) ∧ Hid (Below w.heap.size w wr)) (fun V _ _ => c - (match V with | .slice _ k _ => k | _ => 0))
  case atStart => exact ⟨1, _, _, rfl, rfl, Nat.le_refl _, hc1, HO0.out, HB0.out⟩
  case round =>
    clear HO0 HB0
    obtain ⟨k, g, cc, rfl, rfl, hk1, hk, HO, HB⟩ := hrel
    have hx := HP.out.itr_lt hi k
    have HS : Hid (itr f (k + 1) i = f (itr f k i)) := rfl
    have HCy : Hid (zs (iz (cyL f i (k + 1))) = zs (iz (cyL f i k)) ++ [.int .i64 (itr f k i : Nat)]) := by show _ = _; rw [cyL_succ, iz_append, zs_append]; rfl
    have hsz := HB.out.size
    by_cases hlt : k < c
    · have hne := HPer.out.least k hk1 hlt
      have hx2 := HP.out.lt _ hx
      generalize itr f k i = x at *
      have hnei : ((x : Int) == (i : Int)) = false := by simp; omega
      have hxi : (x : Int) < (n : Int) := by omega
      have hown := HO.out
      go_wp2_with (first
        | (at_builtin; (refine wpList_append_own_at _ rfl _ _ 22 rfl w.heap.size 3 i0 (.int .i64 0) 1 8 Try.underlying22 hi0 z0 z1 z2 rfl (by decide) _ _ _ rfl (hown.alloc _) ⟨wr.heap.size, 0, none⟩ 1 1 [.int .i64 (x : Nat)] rfl rfl (cell_one_new' _ _ _) (fun x hx => by simp at hx; rw [hx]; rfl) (by unfold maxLen; omega) (by omega) (by simp; omega) ?_); intro v' w4 hown4 hg4 hnil4 hat4; obtain ⟨A2, c2, rfl⟩ := own_len hown4; have HO4 := Lib.hid hown4; have HB4 : Hid (Below w.heap.size w w4) := (HB.out.alloc hsz _).grown hg4 (by simp; omega) (fun j hj => (HO.out.lt j hj).1); have s4 : w4.cell? ⟨bT, oT + x, none⟩ = some (.int .i64 (f x : Nat)) := (HB4.out.cell (p := ⟨bT, oT + x, none⟩) HT.out.1).trans (HT.out.2 x hx); clear hown4 hg4 hnil4 hat4)
        | fail)
      have hA2 : ∃ gg, A2 = some ⟨gg, 0, none⟩ := by
        rcases HO4.out.2 with ⟨_, h⟩ | ⟨gg, _, _, h, _⟩
        · omega
        · cases h; exact ⟨gg, rfl⟩
      obtain ⟨gg, rfl⟩ := hA2
      go_roundw
      case rel => exact ⟨k + 1, gg, c2, rfl, by rw [HS.out], by omega, hlt, by rw [HCy.out]; exact HO4.out, HB4.out⟩
      case measure => simp; omega
    · obtain rfl : k = c := by omega
      have hxe : itr f k i = i := HPer.out.back
      rw [hxe]
      have hee : ((i : Int) == (i : Int)) = true := by simp
      go_wp2
      go_ret
      exact ⟨g, cc, rfl, HO.out, HB.out⟩
end Go.Proofs.Ytjofmgnggeoimaa
namespace Go.Proofs.Ytjofmgnggeoimaa
open Go.RowKit
set_option linter.unusedVariables false
set_option linter.unusedSimpArgs false

theorem AI.mk' {w : World} {B cS cT : Nat} {AS AT : Option Addr} {S T : List Int} (ha : Act2 S T) (hS : RdZ w B AS cS S) (hT : RdZ w B AT cT T) (hB : B ≤ w.heap.size) : ∃ bS oS bT oT, AS = some ⟨bS, oS, none⟩ ∧ AT = some ⟨bT, oT, none⟩ ∧ AI w B bS oS bT oT S T cS cT := by
  have h0 := ha.pos
  obtain ⟨bS, oS, rfl, rS⟩ := hS.rdn ha.s (by omega)
  obtain ⟨bT, oT, rfl, rT⟩ := hT.rdn ha.t (by have := ha.len; omega)
  rw [ha.len] at rT
  exact ⟨bS, oS, bT, oT, rfl, rfl, ha, hS, hT, rS, rT, hB⟩
/-- The code's projective, in the reference's words. -/
theorem pproj_raw {g f : Nat → Nat} {n bS oS bT oT cS cT : Nat} (w : World) (hs : RdN w w.heap.size bS oS n g) (ht : RdN w w.heap.size bT oT n f) (hg : Prm g n) (hf : Prm f n) (hn : n ≤ 1152) :
    Calls Try.prog 50 #[.agg #[.slice (some ⟨bS, oS, none⟩) n cS, .slice (some ⟨bT, oT, none⟩) n cT]] w fun e w' => ∃ A c A' c', e = .returned (.agg #[.slice A (pS g n).length c, .slice A' (pT g f n).length c']) ∧
      RdZ w' w'.heap.size A c (iz (pS g n)) ∧ RdZ w' w'.heap.size A' c' (iz (pT g f n)) ∧ Below w.heap.size w w' := by
  refine (projective_any w hs ht hg hf hn).mono ?_
  rintro e w' ⟨A, c, A', c', rfl, h1, h2, hb⟩
  exact rp_fin (PS := pS g n) (PT := pT g f n) h1 h2 rfl rfl (by unfold pS; rw [List.length_map]) (by unfold pT; rw [List.length_map]) hb
set_option maxHeartbeats 3200000 in
set_option maxRecDepth 1000000 in
theorem pproj_ok {S T : List Int} {B bS oS bT oT cS cT : Nat} (w : World) (h : AI w B bS oS bT oT S T cS cT) :
    Calls Try.prog 22 #[.agg #[.slice (some ⟨bS, oS, none⟩) S.length cS, .slice (some ⟨bT, oT, none⟩) S.length cT]] w fun e w' => ∃ A c A' c', e = .returned (.tuple #[.agg #[.slice A (pS (fnz S) S.length).length c, .slice A' (pT (fnz S) (fnz T) S.length).length c'], .int .i64 0]) ∧
      RdZ w' w'.heap.size A c (iz (pS (fnz S) S.length)) ∧ RdZ w' w'.heap.size A' c' (iz (pT (fnz S) (fnz T) S.length)) ∧ Below w.heap.size w w' := by
  have HCk : Hid (∀ W, Below w.heap.size w W → Calls Try.prog 13 #[.agg #[.slice (some ⟨bS, oS, none⟩) S.length cS, .slice (some ⟨bT, oT, none⟩) S.length cT]] W fun e w' => e = .returned (.int .i64 0) ∧ Below W.heap.size W w') := fun W hb => by
    have := pcheck_any W (h.below hb).zs (h.below hb).zt (h.below hb).le
    rwa [chkA_ok h.act, h.act.len] at this
  have HPr := Lib.hid (fun W (hb : Below w.heap.size w W) => pproj_raw (cS := cS) (cT := cT) W ((h.below hb).s.mono (h.below hb).le) ((h.below hb).t.mono (h.below hb).le) h.act.ps h.act.pt h.act.le)
  clear h
  generalize pS (fnz S) S.length = PS at *
  generalize pT (fnz S) (fnz T) S.length = PT at *
  have T0 : Hid (((w.alloc (.cells #[.slice (some ⟨bS, oS, none⟩) S.length cS, .slice (some ⟨bT, oT, none⟩) S.length cT] 24)).alloc (.cells #[.slice none 0 0, .slice none 0 0] 24)).heap[w.heap.size]? = some (.cells #[.slice (some ⟨bS, oS, none⟩) S.length cS, .slice (some ⟨bT, oT, none⟩) S.length cT] 24 (0, 0))) := block_alloc (heap_alloc_new w _) _
  have hr0 := heap_alloc_new (w.alloc (.cells #[.slice (some ⟨bS, oS, none⟩) S.length cS, .slice (some ⟨bT, oT, none⟩) S.length cT] 24)) (.cells #[.slice none 0 0, .slice none 0 0] 24)
  rw [show (w.alloc (.cells #[.slice (some ⟨bS, oS, none⟩) S.length cS, .slice (some ⟨bT, oT, none⟩) S.length cT] 24)).heap.size = w.heap.size + 1 by simp] at hr0
  have R0 := Lib.hid hr0
  have HB0 : Hid (Below w.heap.size w ((w.alloc (.cells #[.slice (some ⟨bS, oS, none⟩) S.length cS, .slice (some ⟨bT, oT, none⟩) S.length cT] 24)).alloc (.cells #[.slice none 0 0, .slice none 0 0] 24))) := below2 w _ _
  clear hr0
  go_enter Try.func22, Try.ntmps22
  go_wp2_with (first
    | (go_at_call 13; ((with_reducible refine (HCk.out _ HB0.out).mono ?_); rintro e w1 ⟨rfl, hb⟩; have HB1 := Lib.hid (bel0 HB0.out hb); have T1 := Lib.hid (block_below T0.out hb); have R1 := Lib.hid (block_below R0.out hb); obtain ⟨⟨t1, t2⟩, _⟩ := two_of_block T1.out; clear hb))
    | (go_at_call 50; ((with_reducible refine (HPr.out _ HB1.out).mono ?_); rintro e w2 ⟨A1, c1, A2, c2, rfl, h1, h2, hb⟩; have HB2 := Lib.hid (bel0 HB1.out hb); have R2 := Lib.hid (block_below R1.out hb); have H1 := Lib.hid h1; have H2 := Lib.hid h2; obtain ⟨⟨r1, r2⟩, rf⟩ := two_of_block R2.out; have hz2 := lt_of_block R2.out; clear hb h1 h2 t1 t2))
    | fail)
  have hrl := two_set1 (two_set0 R2.out (.slice A1 PS.length c1)) (.slice A2 PT.length c2)
  obtain ⟨⟨s1, s2⟩, _⟩ := two_of_block hrl
  refine bodyPost_ret (v := .tuple #[.agg #[.slice A1 PS.length c1, .slice A2 PT.length c2], .int .i64 0]) ?_ rfl ⟨A1, c1, A2, c2, rfl, ?_, ?_, (HB2.out.setCell (by show _ ≤ w.heap.size + 1; omega) _).setCell (by show _ ≤ w.heap.size + 1; omega) _⟩
  · simp [results, Try.results22, go_sem, s1, s2]
  · have := rdz_setR H1.out R2.out (.slice A1 PS.length c1) (.slice A2 PT.length c2)
    simpa using this
  · have := rdz_setR H2.out R2.out (.slice A1 PS.length c1) (.slice A2 PT.length c2)
    simpa using this
set_option maxHeartbeats 3200000 in
set_option maxRecDepth 1000000 in
theorem pproj_bad {S T : List Int} {B cS cT : Nat} {AS AT : Option Addr} (w : World) (hS : RdZ w B AS cS S) (hT : RdZ w B AT cT T) (hB : B ≤ w.heap.size) (z : Int) (hz : chkA S T = z) (hz0 : z ≠ 0) :
    Calls Try.prog 22 #[.agg #[.slice AS S.length cS, .slice AT T.length cT]] w fun e w' => e = .returned (.tuple #[.agg #[.slice none 0 0, .slice none 0 0], .int .i64 z]) ∧ Below w.heap.size w w' := by
  have HCk : Hid (∀ W, Below w.heap.size w W → Calls Try.prog 13 #[.agg #[.slice AS S.length cS, .slice AT T.length cT]] W fun e w' => e = .returned (.int .i64 z) ∧ Below W.heap.size W w') := fun W hb => by
    have := pcheck_any W (hS.below (hb.mono hB)) (hT.below (hb.mono hB)) (Nat.le_trans hB hb.size)
    rwa [hz] at this
  clear hS hT hz
  have hr0 := heap_alloc_new (w.alloc (.cells #[.slice AS S.length cS, .slice AT T.length cT] 24)) (.cells #[.slice none 0 0, .slice none 0 0] 24)
  rw [show (w.alloc (.cells #[.slice AS S.length cS, .slice AT T.length cT] 24)).heap.size = w.heap.size + 1 by simp] at hr0
  have R0 := Lib.hid hr0
  have HB0 : Hid (Below w.heap.size w ((w.alloc (.cells #[.slice AS S.length cS, .slice AT T.length cT] 24)).alloc (.cells #[.slice none 0 0, .slice none 0 0] 24))) := below2 w _ _
  have hzb : (z == 0) = false := by simpa using hz0
  clear hr0
  go_enter Try.func22, Try.ntmps22
  go_wp2_with (first
    | (go_at_call 13; ((with_reducible refine (HCk.out _ HB0.out).mono ?_); rintro e w1 ⟨rfl, hb⟩; have HB1 := Lib.hid (bel0 HB0.out hb); have R1 := Lib.hid (block_below R0.out hb); obtain ⟨⟨r1, r2⟩, rf⟩ := two_of_block R1.out; have hz2 := lt_of_block R1.out; clear hb))
    | fail)
  have hrl := two_set1 (two_set0 R1.out (.slice none 0 0)) (.slice none 0 0)
  obtain ⟨⟨s1, s2⟩, _⟩ := two_of_block hrl
  refine bodyPost_ret (v := .tuple #[.agg #[.slice none 0 0, .slice none 0 0], .int .i64 z]) ?_ rfl ⟨rfl, (HB1.out.setCell (by show _ ≤ w.heap.size + 1; omega) _).setCell (by show _ ≤ w.heap.size + 1; omega) _⟩
  simp [results, Try.results22, go_sem, s1, s2]
set_option maxHeartbeats 3200000 in
set_option maxRecDepth 1000000 in
theorem pminus_bad {S T : List Int} {B cS cT : Nat} {AS AT : Option Addr} (w : World) (hS : RdZ w B AS cS S) (hT : RdZ w B AT cT T) (hB : B ≤ w.heap.size) (z : Int) (hz : chkA S T = z) (hz0 : z ≠ 0) :
    Calls Try.prog 21 #[.agg #[.slice AS S.length cS, .slice AT T.length cT]] w fun e w' => e = .returned (.tuple #[.bool false, .int .i64 z]) ∧ Below w.heap.size w w' := by
  have HCk : Hid (∀ W, Below w.heap.size w W → Calls Try.prog 13 #[.agg #[.slice AS S.length cS, .slice AT T.length cT]] W fun e w' => e = .returned (.int .i64 z) ∧ Below W.heap.size W w') := fun W hb => by
    have := pcheck_any W (hS.below (hb.mono hB)) (hT.below (hb.mono hB)) (Nat.le_trans hB hb.size)
    rwa [hz] at this
  clear hS hT hz
  have HB0 : Hid (Below w.heap.size w (w.alloc (.cells #[.slice AS S.length cS, .slice AT T.length cT] 24))) := below1 w _
  have hzb : (z == 0) = false := by simpa using hz0
  go_enter Try.func21, Try.ntmps21
  go_wp2_with (first
    | (go_at_call 13; ((with_reducible refine (HCk.out _ HB0.out).mono ?_); rintro e w1 ⟨rfl, hb⟩; have HB1 := Lib.hid (bel0 HB0.out hb); clear hb))
    | fail)
  go_ret2
  exact ⟨rfl, HB1.out⟩
/-- The reference's Projective on an action. -/
theorem rproj_ok {S T : List Int} {B bS oS bT oT cS cT : Nat} (w : World) (h : AI w B bS oS bT oT S T cS cT) :
    Calls Try.prog 25 #[.agg #[.slice (some ⟨bS, oS, none⟩) S.length cS, .slice (some ⟨bT, oT, none⟩) S.length cT]] w fun e w' => ∃ A c A' c', e = .returned (.agg #[.slice A (pS (fnz S) S.length).length c, .slice A' (pT (fnz S) (fnz T) S.length).length c']) ∧
      RdZ w' w'.heap.size A c (iz (pS (fnz S) S.length)) ∧ RdZ w' w'.heap.size A' c' (iz (pT (fnz S) (fnz T) S.length)) ∧ Below w.heap.size w w' := by
  have h0 := h.act.pos
  have hle := h.act.le
  have hz := rel_inv h.act.ps h.act.pt h.act.rel
  have hfix := fun p (hp : p < S.length) => all_fix (p := p) h.act.ps h.act.pt (by omega) hz h.act.full hp
  have s := h.s.mono h.le
  have t := h.t.mono h.le
  by_cases e : fnz S (fnz S 0) = 0
  · exact rprojective_yes w s t h.act.ps h.act.pt (by omega) hle fun i hi => (hfix i hi).2 e
  · exact rprojective_no w s t h.act.ps h.act.pt (by omega) hle (fun i hi h2 => e ((hfix i hi).1 h2)) fun i hi => (h.act.rel i hi).1
end Go.Proofs.Ytjofmgnggeoimaa
