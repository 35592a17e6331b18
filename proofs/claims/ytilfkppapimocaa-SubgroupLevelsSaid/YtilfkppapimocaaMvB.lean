/- The contracts of Minus and of the code's classes. The contract of Copy: a coset action's copy, for lists of at most 2^47 bytes. The contracts of the reference's Cycle and classes. The contracts of Projective and Minus, of a coset action and of any other pair of lists. The contracts of checkPoint and Base. The contracts of power and move, of the reference's Go. -/
import Derived.Test.YtilfkppapimocaaChkL
import Derived.Test.YtilfkppapimocaaActM
import Derived.Test.YtilfkppapimocaaBoxL
import Derived.Test.YtilfkppapimocaaLawK
import Derived.Test.YtilfkppapimocaaClsM
import Derived.Test.YtilfkppapimocaaRPr
import Derived.Test.YtilfkppapimocaaEuM
import Derived.Deep.DeepCutAuto
import Derived.Deep.CutBlock
import Derived.Deep.RegionHeld3
import Derived.Laws.AppendOwnNone
import Derived.Laws.MakeOwn
import Derived.IntWalk
import Derived.Deep.AppendLies
import Derived.Deep.QuietTactic
namespace Go.Proofs.Ytilfkppapimocaa
open Go.RowKit
set_option linter.unusedVariables false
set_option linter.unusedSimpArgs false

/-- An action that comes in: its lists are readable. -/
structure AI (w : World) (B bS oS bT oT : Nat) (S T : List Int) (cS cT : Nat) : Prop where
  act : Act2 S T
  zs : RdZ w B (some ⟨bS, oS, none⟩) cS S
  zt : RdZ w B (some ⟨bT, oT, none⟩) cT T
  s : RdN w B bS oS S.length (fnz S)
  t : RdN w B bT oT S.length (fnz T)
  le : B ≤ w.heap.size
theorem AI.below {w w' : World} {B bS oS bT oT : Nat} {S T : List Int} {cS cT : Nat} (h : AI w B bS oS bT oT S T cS cT) (hb : Below w.heap.size w w') : AI w' B bS oS bT oT S T cS cT :=
  ⟨h.act, h.zs.below (hb.mono h.le), h.zt.below (hb.mono h.le), h.s.below (hb.mono h.le), h.t.below (hb.mono h.le), Nat.le_trans h.le hb.size⟩
theorem mk_int (n : Nat) (W : World) (hn : n ≤ 1152) : (Instr.makeSlice 45 (.int .i64 (n : Int)) (.int .i64 (n : Int))).run Try.prog W = .ok (.slice (some ⟨W.heap.size, 0, none⟩) n n) (W.alloc (.cells (madeCells #[.int .i64 0] n) 3)) := by
  obtain ⟨i1, hj, y0, y1, y2⟩ := info_parts Try.infoInt
  have h := run_make (P := Try.prog) W 45 3 i1 (.int .i64 0) Try.underlying45 hj y0 .i64 .i64 (n : Int) (n : Int) (by omega) (by omega) (by rw [y2]; omega) (by omega)
  rw [show ((n : Int)).toNat = n by omega, y1, Nat.mul_one] at h
  exact h
/-- The cells of the list of classes. -/
def ccs (W : Nat → Nat) (R : Nat → Bool) (P : List Nat) : List Value := P.flatMap fun p => [.int .i64 (p : Nat), .int .i64 (W p : Nat), .bool (R p)]
theorem ccs_push (W : Nat → Nat) (R : Nat → Bool) (P : List Nat) (p : Nat) : ccs W R (P ++ [p]) = ccs W R P ++ [.int .i64 (p : Nat), .int .i64 (W p : Nat), .bool (R p)] := by simp [ccs]
theorem cell_three_new (w : World) (a b c : Value) (t : TypeId) {g : Nat} (hg : g = w.heap.size) : ∀ j u, [a, b, c][j]? = some u → (w.alloc (.cells #[a, b, c] t)).cell? ((⟨g, 0, none⟩ : Addr).add j) = some u := by
  subst hg
  intro j u hj
  have e : ∀ j, (⟨w.heap.size, 0, none⟩ : Addr).add j = ⟨w.heap.size, j, none⟩ := fun j => by unfold Addr.add; split <;> simp_all
  rw [e]
  match j, hj with
  | 0, hj => simp at hj; subst hj; simp
  | 1, hj => simp at hj; subst hj; simp
  | 2, hj => simp at hj; subst hj; simp
end Go.Proofs.Ytilfkppapimocaa
namespace Go.Proofs.Ytilfkppapimocaa
open Go.RowKit
set_option linter.unusedVariables false
set_option linter.unusedSimpArgs false

theorem addr_add7 (b o k : Nat) : (⟨b, o, none⟩ : Addr).add k = ⟨b, o + k, none⟩ := by unfold Addr.add; split <;> simp_all
/-- The append of a list that came in to an own empty row, as an operation of a drawn region. -/
theorem step_app3 {w : World} {ops : Array Oper} {o : Oper} {a : Act} {K : Act → World → Prop} {Q : Exit → Act → World → Prop} {E : Prop} {B c base : Nat} {A : Option Addr} {l : List Int} {v : Value} (hgd : o.guard = none) (s x : Operand)
    (ho : o.op = .call { callee := .builtin .append, args := #[s, x], argTypes := #[45, 45] })
    (hs : a.eval s = v) (hown : w.ownsRow base 3 1 v 0 []) (hx : a.eval x = .slice A l.length c) (hr : RdZ w B A c l) (hA : A = none → c = 0) (hl : l.length ≤ 17592186044416) (hbase : base ≤ w.heap.size)
    (h : ∀ v' w', w'.ownsRow base 3 1 v' l.length (zs l) → w.grownBy w' v.ownBlock → K (a.put o.dst v') w') : if Region.wanted o (yielded ops a.tmps) = true then Oper.wp Try.prog o a w K Q else E := by
  obtain ⟨i0, hi, hz0, hz1, hz2⟩ := info_parts Try.infoInt
  rw [if_pos (show Region.wanted o (yielded ops a.tmps) = true by simp [Region.wanted, hgd])]
  cases A with
  | none =>
    obtain rfl := hA rfl
    have hl0 : l = [] := by
      rcases Nat.eq_zero_or_pos l.length with h0 | h0
      · exact List.eq_nil_of_length_eq_zero h0
      · obtain ⟨b, o', e, _⟩ := hr.2.2.1 h0
        cases e
    subst hl0
    have hrun := run_append_owned_none (P := Try.prog) (w := w) base 45 o.type 3 i0 1 Try.underlying45 hi v 0 [] hown
    have hx' : a.eval x = .slice none 0 0 := hx
    have hk := h v w hown (World.grownBy.refl w _)
    unfold Oper.wp
    simp [execOp, ho, resolve, invoke, builtin, hs, hx', hrun, Result.andThen]
    exact hk
  | some ad =>
    obtain ⟨b, o', rfl⟩ := hr.2.2.2 ad rfl
    refine wp_append_own w s x 45 ho base 3 i0 (.int .i64 0) 1 8 Try.underlying45 hi hz0 hz1 hz2 rfl (by decide) v 0 [] hs hown ⟨b, o', none⟩ l.length c (zs l) hx (by simp [zs]) (fun j u hj => ?_) (fun u hu => ?_) (by unfold maxLen; omega) (by omega) hbase fun v' w' h1 h2 _ => h v' w' (by simpa using h1) h2
    · have hjl : j < l.length := by
        have := (List.getElem?_eq_some_iff.1 hj).1
        simpa [zs] using this
      obtain ⟨b2, o2, e, _, hc⟩ := hr.at_ hjl
      simp only [Option.some.injEq, Addr.mk.injEq] at e
      obtain ⟨rfl, rfl, _⟩ := e
      rw [zs_get l j hjl] at hj
      rw [addr_add7, hc]
      exact hj
    · obtain ⟨x', _, rfl⟩ := List.mem_map.1 hu
      rfl
theorem own_empty7 (w : World) {g : Nat} (hg : g = w.heap.size) : (w.alloc (.cells #[] 3)).ownsRow g 3 1 (.slice (some ⟨g, 0, none⟩) 0 0) 0 [] := by
  subst hg
  exact ⟨rfl, .inr ⟨w.heap.size, 0, #[], rfl, Nat.le_refl _, heap_alloc_new w _, Nat.le_refl _, by unfold maxLen; omega, rfl, rfl⟩⟩
theorem own_of_block {w : World} {g : Nat} (h : w.heap[g]? = some (.cells #[] 3 (0, 0))) : w.ownsRow g 3 1 (.slice (some ⟨g, 0, none⟩) 0 0) 0 [] :=
  ⟨rfl, .inr ⟨g, 0, #[], rfl, Nat.le_refl _, h, Nat.le_refl _, by unfold maxLen; omega, rfl, rfl⟩⟩
/-- A list stays readable while an empty row grows. -/
theorem rdz_app {w2 w3 : World} {A : Option Addr} {B c b : Nat} {l : List Int} (h : RdZ w2 B A c l) (hB : B ≤ w2.heap.size) (hg : w2.grownBy w3 (some b)) (hb : w2.heap[b]? = some (.cells #[] 3 (0, 0))) : RdZ w3 B A c l := by
  refine ⟨h.1, h.2.1, fun hn => ?_, h.2.2.2⟩
  obtain ⟨g, o, e, hlt, hc⟩ := h.2.2.1 hn
  refine ⟨g, o, e, hlt, fun k hk => ?_⟩
  have h1 := hc k hk
  have hne : g ≠ b := by
    intro e'
    subst e'
    have h9 : w2.cell? ⟨g, o + k, none⟩ = none := by simp [World.cell?, hb]
    rw [h9] at h1
    cases h1
  have hblk := hg.block g (by omega) (by simpa using hne)
  rw [← h1]
  simp [World.cell?, hblk]
/-- A list stays readable while the box of two nil slices is filled. -/
theorem rdz_setR {w : World} {A : Option Addr} {B c r : Nat} {t : TypeId} {l : List Int} (h : RdZ w B A c l) (hb : w.heap[r]? = some (.cells #[.slice none 0 0, .slice none 0 0] t (0, 0))) (a b : Value) : RdZ ((w.setCell ⟨r, 0, none⟩ a).setCell ⟨r, 1, none⟩ b) B A c l := by
  refine ⟨h.1, h.2.1, fun hn => ?_, h.2.2.2⟩
  obtain ⟨g, o, e, hlt, hc⟩ := h.2.2.1 hn
  refine ⟨g, o, e, hlt, fun k hk => ?_⟩
  have h1 := hc k hk
  have hne : g ≠ r := by
    intro e'
    subst e'
    have h9 : w.cell? ⟨g, o + k, none⟩ = (#[Value.slice none 0 0, Value.slice none 0 0] : Array Value)[o + k]? := by simp [World.cell?, hb]
    rw [h9] at h1
    rcases Nat.lt_or_ge (o + k) 2 with h2 | h2
    · rcases (show o + k = 0 ∨ o + k = 1 by omega) with h3 | h3 <;> rw [h3] at h1 <;> simp at h1
    · rw [Array.getElem?_eq_none (by simpa using h2)] at h1
      cases h1
  rw [← h1]
  have e1 : ((w.setCell ⟨r, 0, none⟩ a).setCell ⟨r, 1, none⟩ b).heap[g]? = w.heap[g]? := set_ne (set_ne rfl hne a) hne b
  simp [World.cell?, e1]
/-- What the copy's region knows of the boxes. -/
structure CPS (w wx : World) (xs ys : Array Value) : Prop where
  x : wx.heap[w.heap.size]? = some (.cells xs 47 (0, 0))
  r : wx.heap[w.heap.size + 1]? = some (.cells ys 47 (0, 0))
  bel : Below w.heap.size w wx
section
variable {w wx w' : World} {xs ys : Array Value}
theorem CPS.drew (h : CPS w wx xs ys) : CPS w wx.drew xs ys := ⟨h.x, h.r, h.bel.drew⟩
theorem CPS.alloc (h : CPS w wx xs ys) (o : Obj) : CPS w (wx.alloc o) xs ys := ⟨block_alloc h.x _, block_alloc h.r _, h.bel.alloc h.bel.size _⟩
theorem CPS.grown (h : CPS w wx xs ys) {g : Nat} (hg : wx.grownBy w' (some g)) (hge : w.heap.size + 1 < g) : CPS w w' xs ys :=
  ⟨(hg.block _ (lt_of_block h.x) (by simp; omega)).trans h.x, (hg.block _ (lt_of_block h.r) (by simp; omega)).trans h.r, h.bel.grown hg h.bel.size (fun j hj => by cases hj; omega)⟩
end
theorem cps_start (w : World) (xs ys : Array Value) : CPS w ((w.alloc (.cells xs 47)).alloc (.cells ys 47)) xs ys :=
  ⟨block_alloc (heap_alloc_new w _) _, by have := heap_alloc_new (w.alloc (.cells xs 47)) (.cells ys 47); simpa using this, below2 w _ _⟩
theorem CPS.set {w wx : World} {xs : Array Value} {p q : Value} (h : CPS w wx xs #[p, q]) (a b : Value) : CPS w ((wx.setCell ⟨w.heap.size + 1, 0, none⟩ a).setCell ⟨w.heap.size + 1, 1, none⟩ b) xs #[a, b] :=
  ⟨set_ne (set_ne h.x (by omega) _) (by omega) _, two_set1 (two_set0 h.r a) b, (h.bel.setCell (by show _ ≤ w.heap.size + 1; omega) _).setCell (by show _ ≤ w.heap.size + 1; omega) _⟩
end Go.Proofs.Ytilfkppapimocaa
namespace Go.Proofs.Ytilfkppapimocaa
open Go.RowKit
set_option linter.unusedVariables false
set_option linter.unusedSimpArgs false

theorem cyL_succ (f : Nat → Nat) (i k : Nat) : cyL f i (k + 1) = cyL f i k ++ [itr f k i] := by simp [cyL, List.range_succ]
theorem cyL_len (f : Nat → Nat) (i k : Nat) : (cyL f i k).length = k := by simp [cyL]
end Go.Proofs.Ytilfkppapimocaa
namespace Go.Proofs.Ytilfkppapimocaa
open Go.RowKit
set_option linter.unusedVariables false
set_option linter.unusedSimpArgs false

theorem AI.mk' {w : World} {B cS cT : Nat} {AS AT : Option Addr} {S T : List Int} (ha : Act2 S T) (hS : RdZ w B AS cS S) (hT : RdZ w B AT cT T) (hB : B ≤ w.heap.size) : ∃ bS oS bT oT, AS = some ⟨bS, oS, none⟩ ∧ AT = some ⟨bT, oT, none⟩ ∧ AI w B bS oS bT oT S T cS cT := by
  have h0 := ha.pos
  obtain ⟨bS, oS, rfl, rS⟩ := hS.rdn ha.s (by omega)
  obtain ⟨bT, oT, rfl, rT⟩ := hT.rdn ha.t (by have := ha.len; omega)
  rw [ha.len] at rT
  exact ⟨bS, oS, bT, oT, rfl, rfl, ha, hS, hT, rS, rT, hB⟩
/-- The code's projective, in the reference's words. -/
theorem pproj_raw {g f : Nat → Nat} {n bS oS bT oT cS cT : Nat} (w : World) (hs : RdN w w.heap.size bS oS n g) (ht : RdN w w.heap.size bT oT n f) (hg : Prm g n) (hf : Prm f n) (hn : n ≤ 1152) :
    Calls Try.prog 57 #[.agg #[.slice (some ⟨bS, oS, none⟩) n cS, .slice (some ⟨bT, oT, none⟩) n cT]] w fun e w' => ∃ A c A' c', e = .returned (.agg #[.slice A (pS g n).length c, .slice A' (pT g f n).length c']) ∧
      RdZ w' w'.heap.size A c (iz (pS g n)) ∧ RdZ w' w'.heap.size A' c' (iz (pT g f n)) ∧ Below w.heap.size w w' := by
  refine (projective_any w hs ht hg hf hn).mono ?_
  rintro e w' ⟨A, c, A', c', rfl, h1, h2, hb⟩
  exact rp_fin (PS := pS g n) (PT := pT g f n) h1 h2 rfl rfl (by unfold pS; rw [List.length_map]) (by unfold pT; rw [List.length_map]) hb
end Go.Proofs.Ytilfkppapimocaa
namespace Go.Proofs.Ytilfkppapimocaa
open Go.RowKit
set_option linter.unusedVariables false
set_option linter.unusedSimpArgs false

set_option maxHeartbeats 3200000 in
set_option maxRecDepth 1000000 in
theorem ckpoint_any {S T : List Int} {B bS oS bT oT cS cT : Nat} (w : World) (h : AI w B bS oS bT oT S T cS cT) (i z : Int) (hi : (0 ≤ i ∧ i < S.length ∧ z = 0) ∨ ((i < 0 ∨ (S.length : Int) ≤ i) ∧ z = 2)) :
    Calls Try.prog 53 #[.agg #[.slice (some ⟨bS, oS, none⟩) S.length cS, .slice (some ⟨bT, oT, none⟩) S.length cT], .int .i64 i] w fun e w' => e = .returned (.int .i64 z) ∧ Below w.heap.size w w' := by
  have T0 : Hid ((w.alloc (.cells #[.slice (some ⟨bS, oS, none⟩) S.length cS, .slice (some ⟨bT, oT, none⟩) S.length cT] 47)).heap[w.heap.size]? = some (.cells #[.slice (some ⟨bS, oS, none⟩) S.length cS, .slice (some ⟨bT, oT, none⟩) S.length cT] 47 (0, 0))) := heap_alloc_new w _
  have HB0 : Hid (Below w.heap.size w (w.alloc (.cells #[.slice (some ⟨bS, oS, none⟩) S.length cS, .slice (some ⟨bT, oT, none⟩) S.length cT] 47))) := below1 w _
  have HCk : Hid (∀ W, Below w.heap.size w W → Calls Try.prog 22 #[.agg #[.slice (some ⟨bS, oS, none⟩) S.length cS, .slice (some ⟨bT, oT, none⟩) S.length cT]] W fun e w' => e = .returned (.int .i64 0) ∧ Below W.heap.size W w') := fun W hb => by
    have := pcheck_any W (h.below hb).zs (h.below hb).zt (h.below hb).le
    rwa [chkA_ok h.act, h.act.len] at this
  have HH := Lib.hid hi
  clear h hi
  go_enter Try.func53, Try.ntmps53
  go_wp2_with (first
    | (go_at_call 22; ((with_reducible refine (HCk.out _ HB0.out).mono ?_); rintro e w1 ⟨rfl, hb⟩; have HB1 := Lib.hid (bel0 HB0.out hb); have T1 := Lib.hid (block_below T0.out hb); obtain ⟨⟨t1, t2⟩, _⟩ := two_of_block T1.out; clear hb; rcases HH.out with ⟨h1, h2, rfl⟩ | ⟨h1 | h1, rfl⟩))
    | fail)
  · have n1 : ¬ i < 0 := by omega
    have n2 : ¬ (S.length : Int) ≤ i := by omega
    go_wp2
    go_ret
    exact ⟨rfl, HB1.out⟩
  · go_wp2
    go_ret
    exact ⟨rfl, HB1.out⟩
  · have n1 : ¬ i < 0 := by omega
    go_wp2
    go_ret
    exact ⟨rfl, HB1.out⟩
theorem bp_fin {w w' : World} {B m c1 c2 : Nat} {A1 A2 : Option Addr} {PS PT QS QT : List Nat} (h1 : w'.ownsRow B 3 1 (.slice A1 m c1) m (zs (iz PS))) (h2 : w'.ownsRow B 3 1 (.slice A2 m c2) m (zs (iz PT))) (e1 : QS = PS) (e2 : QT = PT) (l1 : PS.length = m) (l2 : PT.length = m) (hb : Below w.heap.size w w') :
    ∃ A c A' c', Ending.returned (.tuple #[.agg #[.slice A1 m c1, .slice A2 m c2], .int .i64 0]) = .returned (.tuple #[.agg #[.slice A m c, .slice A' m c'], .int .i64 0]) ∧ RdZ w' w'.heap.size A c (iz QS) ∧ RdZ w' w'.heap.size A' c' (iz QT) ∧ Below w.heap.size w w' := by
  obtain ⟨A, c, A', c', e, h3, h4, h5⟩ := rp_fin h1 h2 e1 e2 l1 l2 hb
  injection e with e
  injection e with e
  have ea : #[Value.slice A1 m c1, .slice A2 m c2] = #[.slice A QS.length c, .slice A' QT.length c'] := e
  simp at ea
  obtain ⟨⟨rfl, _, rfl⟩, rfl, _, rfl⟩ := ea
  exact ⟨A1, c1, A2, c2, rfl, h3, h4, h5⟩
end Go.Proofs.Ytilfkppapimocaa
namespace Go.Proofs.Ytilfkppapimocaa
open Go.RowKit
set_option linter.unusedVariables false
set_option linter.unusedSimpArgs false

/-- The e-th power of f at i. -/
def pwA (f : Nat → Nat) (n i : Nat) (e : Int) : Nat := itr f (e % (perO f n i : Int)).toNat i
/-- Where the first k entries of a word lead. -/
def mvP (g f : Nat → Nat) (n : Nat) (l : List Int) (i : Nat) : Nat → Nat
  | 0 => i
  | k + 1 => pwA f n (if k = 0 then mvP g f n l i k else g (mvP g f n l i k)) (l.getD k 0)
theorem pwA_lt {f : Nat → Nat} {n i : Nat} (hp : Prm f n) (hi : i < n) (e : Int) : pwA f n i e < n := hp.itr_lt hi _
theorem mvP_lt {g f : Nat → Nat} {n i : Nat} (h : PAct g f n) (hi : i < n) (l : List Int) : ∀ k, mvP g f n l i k < n
  | 0 => hi
  | k + 1 => by
    have ih := mvP_lt h hi l k
    show pwA f n _ _ < n
    split
    · exact pwA_lt h.fp ih _
    · exact pwA_lt h.fp (h.gp.lt _ ih) _
theorem pact_inv {g f : Nat → Nat} {n : Nat} (h : PAct g f n) : Inv2 f (zOf g) n := ⟨h.zl, fun i hi => h.zz i hi, fun i hi => h.fc i hi⟩
theorem pwA_z {g f : Nat → Nat} {n i : Nat} (h : PAct g f n) (hi : i < n) (e : Int) : pwA f n (zOf g i) e = zOf g (pwA f n i e) := by
  have hz := pact_inv h
  have hp := (perO_spec h.fp hi).1
  have hp2 := Inv2.per h.fp hz hi hp
  have e1 := (perO_spec h.fp (h.zl i hi)).1.uniq hp2
  unfold pwA
  rw [e1]
  exact Inv2.itr h.fp hz hi _
theorem mvP_z {g f : Nat → Nat} {n i : Nat} (h : PAct g f n) (hi : i < n) (l : List Int) : ∀ k, mvP g f n l (zOf g i) k = zOf g (mvP g f n l i k)
  | 0 => rfl
  | k + 1 => by
    have ih := mvP_z h hi l k
    have hl := mvP_lt h hi l k
    show pwA f n (if k = 0 then mvP g f n l (zOf g i) k else g (mvP g f n l (zOf g i) k)) _ = zOf g (pwA f n (if k = 0 then mvP g f n l i k else g (mvP g f n l i k)) _)
    rw [ih]
    by_cases e : k = 0
    · rw [if_pos e, if_pos e]; exact pwA_z h hl _
    · rw [if_neg e, if_neg e]
      have : g (zOf g (mvP g f n l i k)) = zOf g (g (mvP g f n l i k)) := rfl
      rw [this]; exact pwA_z h (h.gp.lt _ hl) _
theorem tm_cases (e : Int) {c : Nat} (hc : 1 ≤ c) : (0 ≤ e ∧ e.tmod c = e % c) ∨ (e < 0 ∧ e.tmod c = -((-e) % c)) := by
  rcases Int.lt_or_le e 0 with h | h
  · right
    refine ⟨h, ?_⟩
    have h1 : (-e).tmod c = -(e.tmod c) := Int.neg_tmod e c
    rw [Int.tmod_eq_emod_of_nonneg (by omega)] at h1
    omega
  · exact .inl ⟨h, Int.tmod_eq_emod_of_nonneg h⟩
theorem neg_em (e : Int) {c : Nat} (hc : 1 ≤ c) (h : 0 < (-e) % (c : Int)) : e % (c : Int) = c - (-e) % (c : Int) := by
  have h1 := Int.mul_ediv_add_emod (-e) (c : Int)
  have h2 := Int.emod_lt_of_pos (-e) (show (0 : Int) < c by omega)
  have h3 : e = (c - (-e) % (c : Int)) + c * (-((-e) / (c : Int)) - 1) := by
    rw [Int.mul_sub, Int.mul_neg]; omega
  generalize (-e) % (c : Int) = m at *
  generalize (-e) / (c : Int) = q at *
  rw [h3, Int.add_mul_emod_self_left]
  exact Int.emod_eq_of_lt (by omega) (by omega)
theorem tmod_pos {e : Int} {c : Nat} (hc : 1 ≤ c) (h : 0 ≤ e.tmod c) : e.tmod c = ((e % (c : Int)).toNat : Nat) := by
  have h0 : 0 ≤ e % (c : Int) := Int.emod_nonneg _ (by omega)
  rw [Int.toNat_of_nonneg h0]
  rcases tm_cases e hc with ⟨_, k⟩ | ⟨h1, k⟩
  · exact k
  · have h2 : 0 ≤ (-e) % (c : Int) := Int.emod_nonneg _ (by omega)
    have h3 : (-e) % (c : Int) = 0 := by omega
    have h4 := Int.emod_eq_zero_of_dvd (Int.dvd_neg.1 (Int.dvd_of_emod_eq_zero h3))
    omega
theorem tmod_neg {e : Int} {c : Nat} (hc : 1 ≤ c) (h : e.tmod c < 0) : e.tmod c + c = ((e % (c : Int)).toNat : Nat) := by
  have h0 : 0 ≤ e % (c : Int) := Int.emod_nonneg _ (by omega)
  rw [Int.toNat_of_nonneg h0]
  rcases tm_cases e hc with ⟨_, k⟩ | ⟨h1, k⟩
  · omega
  · have := neg_em e hc (by omega)
    omega
theorem tmod_bds (e : Int) {c : Nat} (hc : 1 ≤ c) : -(c : Int) < e.tmod c ∧ e.tmod c < c := by
  rcases tm_cases e hc with ⟨_, k⟩ | ⟨h1, k⟩
  · have := Int.emod_nonneg e (show (c : Int) ≠ 0 by omega)
    have := Int.emod_lt_of_pos e (show (0 : Int) < c by omega)
    omega
  · have := Int.emod_nonneg (-e) (show (c : Int) ≠ 0 by omega)
    have := Int.emod_lt_of_pos (-e) (show (0 : Int) < c by omega)
    omega
set_option maxHeartbeats 3200000 in
set_option maxRecDepth 1000000 in
theorem power_any {f : Nat → Nat} {n i bT oT cT : Nat} (w : World) (hT : RdN w w.heap.size bT oT n f) (hp : Prm f n) (hi : i < n) (hn : n ≤ 1152) (e : Int) :
    Calls Try.prog 70 #[.slice (some ⟨bT, oT, none⟩) n cT, .int .i64 (i : Nat), .int .i64 e] w fun e' w' => e' = .returned (.int .i64 (pwA f n i e : Nat)) ∧ w' = w := by
  obtain ⟨hper, hcn⟩ := perO_spec hp hi
  have HP := Lib.hid hp
  have HPer := Lib.hid hper
  have hc1 := hper.pos
  obtain ⟨b1, b2⟩ := tmod_bds e hc1
  have HR : Hid (∀ k, k < n → w.cell? ⟨bT, oT + k, none⟩ = some (.int .i64 (f k : Nat))) := hT.2
  have HW : Hid (pwA f n i e = itr f (e % (perO f n i : Int)).toNat i) := rfl
  have HPos := Lib.hid (fun h => tmod_pos (e := e) hc1 h)
  have HNeg := Lib.hid (fun h => tmod_neg (e := e) hc1 h)
  clear hT hp hper
  generalize pwA f n i e = y at *
  generalize hce : perO f n i = c at *
  clear hce
  generalize e % (c : Int) = em at *
  generalize em.toNat = r at *
  have c0 := HR.out i hi
  have hii : (i : Int) < (n : Int) := by omega
  have hcz : (c : Int) ≠ 0 := by omega
  have hc0 : ((c : Int) == 0) = false := by simpa using hcz
  have hci : (c : Int) ≤ 1152 := by omega
  go_enter Try.func70, Try.ntmps70
  go_wp2
  go_loopw [7, 8] (fun L X wr => ∃ (j : Nat), L = .int .i64 (j : Nat) ∧ X = .int .i64 (itr f j i : Nat) ∧ 1 ≤ j ∧ j ≤ c ∧ w = wr) (fun L _ _ => c - (intOf L).toNat)
  case atStart => exact ⟨1, rfl, rfl, Nat.le_refl _, hc1, rfl⟩
  case round =>
    obtain ⟨j, rfl, rfl, hj1, hjc, rfl⟩ := hrel
    by_cases hjl : j < c
    · have hne := HPer.out.least j hj1 hjl
      have hx := HP.out.itr_lt hi j
      have c2 := HR.out _ hx
      have HSt : Hid (itr f (j + 1) i = f (itr f j i)) := rfl
      generalize itr f j i = x at *
      have hxi : (x : Int) < (n : Int) := by omega
      have hnb : ((x : Int) == (i : Int)) = false := by simp; omega
      go_wp2
      go_roundw
      case rel => exact ⟨j + 1, by go_num, by rw [HSt.out], by omega, hjl, trivial⟩
      case measure => simp [intOf]; omega
    · obtain rfl : c = j := by omega
      rw [HPer.out.back]
      by_cases hneg : e.tmod c < 0
      · have hr := HNeg.out hneg
        have hrc : (r : Int) ≤ 1152 := by omega
        clear HNeg HPos
        go_wp2
        go_loopw [1, 31] (fun I K wr => ∃ (k : Nat), I = .int .i64 (itr f k i : Nat) ∧ K = .int .i64 (k : Nat) ∧ k ≤ r ∧ w = wr) (fun _ K _ => r - (intOf K).toNat)
        case atStart => exact ⟨0, rfl, rfl, Nat.zero_le _, rfl⟩
        case round =>
          obtain ⟨k, rfl, rfl, hk, rfl⟩ := hrel
          by_cases hlt : k < r
          · have hki : (k : Int) < (r : Int) := by omega
            have hx := HP.out.itr_lt hi k
            have c2 := HR.out _ hx
            have HSt : Hid (itr f (k + 1) i = f (itr f k i)) := rfl
            generalize itr f k i = x at *
            have hxi : (x : Int) < (n : Int) := by omega
            go_wp2
            go_roundw
            case rel => exact ⟨k + 1, by rw [HSt.out], by go_num, hlt, trivial⟩
            case measure => simp [intOf]; omega
          · obtain rfl : r = k := by omega
            have hk2 : ¬ (r : Int) < (r : Int) := by omega
            rw [← HW.out]
            go_wp2
            go_ret
            exact ⟨rfl, rfl⟩
      · have hr := HPos.out (by omega)
        have hrc : (r : Int) ≤ 1152 := by omega
        clear HNeg HPos
        go_wp2
        go_loopw [1, 31] (fun I K wr => ∃ (k : Nat), I = .int .i64 (itr f k i : Nat) ∧ K = .int .i64 (k : Nat) ∧ k ≤ r ∧ w = wr) (fun _ K _ => r - (intOf K).toNat)
        case atStart => exact ⟨0, rfl, rfl, Nat.zero_le _, rfl⟩
        case round =>
          obtain ⟨k, rfl, rfl, hk, rfl⟩ := hrel
          by_cases hlt : k < r
          · have hki : (k : Int) < (r : Int) := by omega
            have hx := HP.out.itr_lt hi k
            have c2 := HR.out _ hx
            have HSt : Hid (itr f (k + 1) i = f (itr f k i)) := rfl
            generalize itr f k i = x at *
            have hxi : (x : Int) < (n : Int) := by omega
            go_wp2
            go_roundw
            case rel => exact ⟨k + 1, by rw [HSt.out], by go_num, hlt, trivial⟩
            case measure => simp [intOf]; omega
          · obtain rfl : r = k := by omega
            have hk2 : ¬ (r : Int) < (r : Int) := by omega
            rw [← HW.out]
            go_wp2
            go_ret
            exact ⟨rfl, rfl⟩
set_option maxHeartbeats 3200000 in
set_option maxRecDepth 1000000 in
theorem move_any {S T : List Int} {B bS oS bT oT cS cT : Nat} (w : World) (h : AI w B bS oS bT oT S T cS cT) {i : Nat} (hi : i < S.length) (ng : Bool) {l : List Int} {A : Option Addr} {cl : Nat} (hl : RdZ w w.heap.size A cl l) :
    Calls Try.prog 55 #[.agg #[.slice (some ⟨bS, oS, none⟩) S.length cS, .slice (some ⟨bT, oT, none⟩) S.length cT], .int .i64 (i : Nat), .agg #[.bool ng, .slice A l.length cl]] w fun e w' =>
      e = .returned (.int .i64 ((if ng then zOf (fnz S) (mvP (fnz S) (fnz T) S.length l i l.length) else mvP (fnz S) (fnz T) S.length l i l.length : Nat) : Nat)) ∧ Below w.heap.size w w' := by
  have hP := pact_of h.act
  have hn := h.act.le
  have HP := Lib.hid hP
  have HS := Lib.hid (h.s.mono h.le)
  have HT := Lib.hid (h.t.mono h.le)
  have HL := Lib.hid hl
  have HI : Hid (i < S.length) := hi
  have HLt : Hid (∀ k, mvP (fnz S) (fnz T) S.length l i k < S.length) := fun k => mvP_lt hP hi l k
  have hll := hl.len
  clear h hP hl
  have HNx : Hid (∀ k, mvP (fnz S) (fnz T) S.length l i (k + 1) = pwA (fnz T) S.length (if k = 0 then mvP (fnz S) (fnz T) S.length l i k else fnz S (mvP (fnz S) (fnz T) S.length l i k)) (l.getD k 0)) := fun k => rfl
  have HZr : Hid (mvP (fnz S) (fnz T) S.length l i 0 = i) := rfl
  have HZo : Hid (∀ x, zOf (fnz S) x = fnz S (fnz S x)) := fun x => rfl
  generalize hMe : mvP (fnz S) (fnz T) S.length l i = M at *
  clear hMe
  generalize zOf (fnz S) = z at *
  generalize fnz S = g at *
  generalize fnz T = f at *
  generalize S.length = n at *
  have HX0 : Hid (((w.alloc (.cells #[.slice (some ⟨bS, oS, none⟩) n cS, .slice (some ⟨bT, oT, none⟩) n cT] 47)).alloc (.cells #[.bool ng, .slice A l.length cl] 85)).heap[w.heap.size]? = some (.cells #[.slice (some ⟨bS, oS, none⟩) n cS, .slice (some ⟨bT, oT, none⟩) n cT] 47 (0, 0))) := block_alloc (heap_alloc_new w _) _
  have hy0 := heap_alloc_new (w.alloc (.cells #[.slice (some ⟨bS, oS, none⟩) n cS, .slice (some ⟨bT, oT, none⟩) n cT] 47)) (.cells #[.bool ng, .slice A l.length cl] 85)
  rw [show (w.alloc (.cells #[.slice (some ⟨bS, oS, none⟩) n cS, .slice (some ⟨bT, oT, none⟩) n cT] 47)).heap.size = w.heap.size + 1 by simp] at hy0
  have HY0 := Lib.hid hy0
  have HB0 : Hid (Below w.heap.size w ((w.alloc (.cells #[.slice (some ⟨bS, oS, none⟩) n cS, .slice (some ⟨bT, oT, none⟩) n cT] 47)).alloc (.cells #[.bool ng, .slice A l.length cl] 85))) := below2 w _ _
  clear hy0
  go_enter Try.func55, Try.ntmps55
  go_wp2
  obtain ⟨W0, hW0⟩ : ∃ W0, W0 = ((w.alloc (.cells #[.slice (some ⟨bS, oS, none⟩) n cS, .slice (some ⟨bT, oT, none⟩) n cT] 47)).alloc (.cells #[.bool ng, .slice A l.length cl] 85)) := ⟨_, rfl⟩
  rw [← hW0] at HX0 HY0 HB0 ⊢
  clear hW0
  obtain ⟨⟨x1, x2⟩, _⟩ := two_of_block HX0.out
  obtain ⟨⟨y1, y2⟩, _⟩ := two_of_block HY0.out
  have HSd : Hid (∀ k, k < n → W0.cell? ⟨bS, oS + k, none⟩ = some (.int .i64 (g k : Nat))) := fun k hk => (HB0.out.cell (p := ⟨bS, oS + k, none⟩) HS.out.1).trans (HS.out.2 k hk)
  have HTd : Hid (RdN W0 W0.heap.size bT oT n f) := (HT.out.below HB0.out).mono HB0.out.size
  have HLd := Lib.hid (HL.out.below HB0.out)
  go_loopw [1, 7, 8, 12] (fun I _ _ K wr => ∃ (k : Nat), I = .int .i64 (M k : Nat) ∧ K = .int .i64 (k : Nat) ∧ k ≤ l.length ∧ W0 = wr) (fun _ _ _ K _ => l.length - (intOf K).toNat)
  case atStart => exact ⟨0, by rw [HZr.out], rfl, Nat.zero_le _, rfl⟩
  case round =>
    obtain ⟨k, rfl, rfl, hk, rfl⟩ := hrel
    by_cases hlt : k < l.length
    · have hki : (k : Int) < (l.length : Int) := by omega
      obtain ⟨bl, ol, rfl, _, c1⟩ := HLd.out.at_ hlt
      have hM := HLt.out k
      have HN := Lib.hid (HNx.out k)
      have hge : l.getD k 0 = l[k] := by simp [List.getD, hlt]
      rw [hge] at HN
      generalize l[k] = e at *
      by_cases hk0 : k = 0
      · have HPw := Lib.hid (power_any (cT := cT) W0 HTd.out HP.out.fp hM hn e)
        rw [if_pos hk0] at HN
        subst hk0
        have c1' : W0.cell? ⟨bl, ol, none⟩ = some (.int .i64 e) := c1
        go_wp2_with (first
          | (go_at_call 70; ((with_reducible refine HPw.out.mono ?_); rintro e' w' ⟨rfl, rfl⟩))
          | fail)
        go_roundw
        case rel => exact ⟨1, by rw [HN.out], rfl, hlt, trivial⟩
        case measure => simp [intOf]; omega
      · have hgM := HP.out.gp.lt _ hM
        have HPw := Lib.hid (power_any (cT := cT) W0 HTd.out HP.out.fp hgM hn e)
        rw [if_neg hk0] at HN
        have hk1 : (0 : Int) < (k : Int) := by omega
        have c2 := HSd.out _ hM
        have hMi : (M k : Int) < (n : Int) := by omega
        go_wp2_with (first
          | (go_at_call 70; ((with_reducible refine HPw.out.mono ?_); rintro e' w' ⟨rfl, rfl⟩))
          | fail)
        go_roundw
        case rel => exact ⟨k + 1, by rw [HN.out], by go_num, hlt, trivial⟩
        case measure => simp [intOf]; omega
    · obtain rfl : k = l.length := by omega
      have hk2 : ¬ (l.length : Int) < (l.length : Int) := by omega
      have hM := HLt.out l.length
      have hgM := HP.out.gp.lt _ hM
      have HZz := Lib.hid (HZo.out (M l.length))
      have c1 := fun N => (show (W0.drewN N).cell? ⟨bS, oS + M l.length, none⟩ = _ from HSd.out _ hM)
      have c2 := fun N => (show (W0.drewN N).cell? ⟨bS, oS + g (M l.length), none⟩ = _ from HSd.out _ hgM)
      have u1 := fun N => (show (W0.drewN N).cell? ⟨w.heap.size, 0, none⟩ = _ from x1)
      have hMi : (M l.length : Int) < (n : Int) := by omega
      have hgi : (g (M l.length) : Int) < (n : Int) := by omega
      cases ng with
      | false =>
        go_wp2
        go_ret
        exact ⟨rfl, HB0.out⟩
      | true =>
        go_wp2
        go_quiet (fail)
        go_wp2
        go_ret
        exact ⟨by rw [HZz.out]; rfl, below_drewN HB0.out _⟩
end Go.Proofs.Ytilfkppapimocaa
