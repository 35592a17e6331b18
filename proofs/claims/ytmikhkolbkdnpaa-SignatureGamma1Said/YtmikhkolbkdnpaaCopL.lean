/- The contract of Copy: a coset action's copy, for lists of at most 2^47 bytes. -/
import Derived.Test.YtmikhkolbkdnpaaActM
import Derived.Test.YtmikhkolbkdnpaaBoxL
import Derived.Test.YtmikhkolbkdnpaaLawK
import Derived.Deep.DeepCutAuto
import Derived.Deep.RegionHeld3
import Derived.Laws.AppendOwnNone
namespace Go.Proofs.Ytmikhkolbkdnpaa
open Go.RowKit
set_option linter.unusedVariables false
set_option linter.unusedSimpArgs false

theorem addr_add7 (b o k : Nat) : (⟨b, o, none⟩ : Addr).add k = ⟨b, o + k, none⟩ := by unfold Addr.add; split <;> simp_all
/-- The append of a list that came in to an own empty row, as an operation of a drawn region. -/
theorem step_app3 {w : World} {ops : Array Oper} {o : Oper} {a : Act} {K : Act → World → Prop} {Q : Exit → Act → World → Prop} {E : Prop} {B c base : Nat} {A : Option Addr} {l : List Int} {v : Value} (hgd : o.guard = none) (s x : Operand)
    (ho : o.op = .call { callee := .builtin .append, args := #[s, x], argTypes := #[22, 22] })
    (hs : a.eval s = v) (hown : w.ownsRow base 3 1 v 0 []) (hx : a.eval x = .slice A l.length c) (hr : RdZ w B A c l) (hA : A = none → c = 0) (hl : l.length ≤ 17592186044416) (hbase : base ≤ w.heap.size)
    (h : ∀ v' w', w'.ownsRow base 3 1 v' l.length (zs l) → w.grownBy w' v.ownBlock → K (a.put o.dst v') w') : if Region.wanted o (yielded ops a.tmps) = true then Oper.wp Try.prog o a w K Q else E := by
  obtain ⟨i0, hi, hz0, hz1, hz2⟩ := info_parts Try.infoInt
  rw [if_pos (show Region.wanted o (yielded ops a.tmps) = true by simp [Region.wanted, hgd])]
  cases A with
  | none =>
    obtain rfl := hA rfl
    have hl0 : l = [] := by
      rcases Nat.eq_zero_or_pos l.length with h0 | h0
      · exact List.eq_nil_of_length_eq_zero h0
      · obtain ⟨b, o', e, _⟩ := hr.2.2.1 h0
        cases e
    subst hl0
    have hrun := run_append_owned_none (P := Try.prog) (w := w) base 22 o.type 3 i0 1 Try.underlying22 hi v 0 [] hown
    have hx' : a.eval x = .slice none 0 0 := hx
    have hk := h v w hown (World.grownBy.refl w _)
    unfold Oper.wp
    simp [execOp, ho, resolve, invoke, builtin, hs, hx', hrun, Result.andThen]
    exact hk
  | some ad =>
    obtain ⟨b, o', rfl⟩ := hr.2.2.2 ad rfl
    refine wp_append_own w s x 22 ho base 3 i0 (.int .i64 0) 1 8 Try.underlying22 hi hz0 hz1 hz2 rfl (by decide) v 0 [] hs hown ⟨b, o', none⟩ l.length c (zs l) hx (by simp [zs]) (fun j u hj => ?_) (fun u hu => ?_) (by unfold maxLen; omega) (by omega) hbase fun v' w' h1 h2 _ => h v' w' (by simpa using h1) h2
    · have hjl : j < l.length := by
        have := (List.getElem?_eq_some_iff.1 hj).1
        simpa [zs] using this
      obtain ⟨b2, o2, e, _, hc⟩ := hr.at_ hjl
      simp only [Option.some.injEq, Addr.mk.injEq] at e
      obtain ⟨rfl, rfl, _⟩ := e
      rw [zs_get l j hjl] at hj
      rw [addr_add7, hc]
      exact hj
    · obtain ⟨x', _, rfl⟩ := List.mem_map.1 hu
      rfl
theorem own_empty7 (w : World) {g : Nat} (hg : g = w.heap.size) : (w.alloc (.cells #[] 3)).ownsRow g 3 1 (.slice (some ⟨g, 0, none⟩) 0 0) 0 [] := by
  subst hg
  exact ⟨rfl, .inr ⟨w.heap.size, 0, #[], rfl, Nat.le_refl _, heap_alloc_new w _, Nat.le_refl _, by unfold maxLen; omega, rfl, rfl⟩⟩
theorem own_of_block {w : World} {g : Nat} (h : w.heap[g]? = some (.cells #[] 3 (0, 0))) : w.ownsRow g 3 1 (.slice (some ⟨g, 0, none⟩) 0 0) 0 [] :=
  ⟨rfl, .inr ⟨g, 0, #[], rfl, Nat.le_refl _, h, Nat.le_refl _, by unfold maxLen; omega, rfl, rfl⟩⟩
/-- A list stays readable while an empty row grows. -/
theorem rdz_app {w2 w3 : World} {A : Option Addr} {B c b : Nat} {l : List Int} (h : RdZ w2 B A c l) (hB : B ≤ w2.heap.size) (hg : w2.grownBy w3 (some b)) (hb : w2.heap[b]? = some (.cells #[] 3 (0, 0))) : RdZ w3 B A c l := by
  refine ⟨h.1, h.2.1, fun hn => ?_, h.2.2.2⟩
  obtain ⟨g, o, e, hlt, hc⟩ := h.2.2.1 hn
  refine ⟨g, o, e, hlt, fun k hk => ?_⟩
  have h1 := hc k hk
  have hne : g ≠ b := by
    intro e'
    subst e'
    have h9 : w2.cell? ⟨g, o + k, none⟩ = none := by simp [World.cell?, hb]
    rw [h9] at h1
    cases h1
  have hblk := hg.block g (by omega) (by simpa using hne)
  rw [← h1]
  simp [World.cell?, hblk]
/-- A list stays readable while the box of two nil slices is filled. -/
theorem rdz_setR {w : World} {A : Option Addr} {B c r : Nat} {t : TypeId} {l : List Int} (h : RdZ w B A c l) (hb : w.heap[r]? = some (.cells #[.slice none 0 0, .slice none 0 0] t (0, 0))) (a b : Value) : RdZ ((w.setCell ⟨r, 0, none⟩ a).setCell ⟨r, 1, none⟩ b) B A c l := by
  refine ⟨h.1, h.2.1, fun hn => ?_, h.2.2.2⟩
  obtain ⟨g, o, e, hlt, hc⟩ := h.2.2.1 hn
  refine ⟨g, o, e, hlt, fun k hk => ?_⟩
  have h1 := hc k hk
  have hne : g ≠ r := by
    intro e'
    subst e'
    have h9 : w.cell? ⟨g, o + k, none⟩ = (#[Value.slice none 0 0, Value.slice none 0 0] : Array Value)[o + k]? := by simp [World.cell?, hb]
    rw [h9] at h1
    rcases Nat.lt_or_ge (o + k) 2 with h2 | h2
    · rcases (show o + k = 0 ∨ o + k = 1 by omega) with h3 | h3 <;> rw [h3] at h1 <;> simp at h1
    · rw [Array.getElem?_eq_none (by simpa using h2)] at h1
      cases h1
  rw [← h1]
  have e1 : ((w.setCell ⟨r, 0, none⟩ a).setCell ⟨r, 1, none⟩ b).heap[g]? = w.heap[g]? := set_ne (set_ne rfl hne a) hne b
  simp [World.cell?, e1]
/-- What the copy's region knows of the boxes. -/
structure CPS (w wx : World) (xs ys : Array Value) : Prop where
  x : wx.heap[w.heap.size]? = some (.cells xs 24 (0, 0))
  r : wx.heap[w.heap.size + 1]? = some (.cells ys 24 (0, 0))
  bel : Below w.heap.size w wx
section
variable {w wx w' : World} {xs ys : Array Value}
theorem CPS.drew (h : CPS w wx xs ys) : CPS w wx.drew xs ys := ⟨h.x, h.r, h.bel.drew⟩
theorem CPS.alloc (h : CPS w wx xs ys) (o : Obj) : CPS w (wx.alloc o) xs ys := ⟨block_alloc h.x _, block_alloc h.r _, h.bel.alloc h.bel.size _⟩
theorem CPS.grown (h : CPS w wx xs ys) {g : Nat} (hg : wx.grownBy w' (some g)) (hge : w.heap.size + 1 < g) : CPS w w' xs ys :=
  ⟨(hg.block _ (lt_of_block h.x) (by simp; omega)).trans h.x, (hg.block _ (lt_of_block h.r) (by simp; omega)).trans h.r, h.bel.grown hg h.bel.size (fun j hj => by cases hj; omega)⟩
end
theorem cps_start (w : World) (xs ys : Array Value) : CPS w ((w.alloc (.cells xs 24)).alloc (.cells ys 24)) xs ys :=
  ⟨block_alloc (heap_alloc_new w _) _, by have := heap_alloc_new (w.alloc (.cells xs 24)) (.cells ys 24); simpa using this, below2 w _ _⟩
theorem CPS.set {w wx : World} {xs : Array Value} {p q : Value} (h : CPS w wx xs #[p, q]) (a b : Value) : CPS w ((wx.setCell ⟨w.heap.size + 1, 0, none⟩ a).setCell ⟨w.heap.size + 1, 1, none⟩ b) xs #[a, b] :=
  ⟨set_ne (set_ne h.x (by omega) _) (by omega) _, two_set1 (two_set0 h.r a) b, (h.bel.setCell (by show _ ≤ w.heap.size + 1; omega) _).setCell (by show _ ≤ w.heap.size + 1; omega) _⟩
set_option maxHeartbeats 6400000 in
set_option maxRecDepth 1000000 in
theorem copy_any {S T : List Int} {cS cT : Nat} {AS AT : Option Addr} (w : World) (hS : RdZ w w.heap.size AS cS S) (hT : RdZ w w.heap.size AT cT T) (hAS : AS = none → cS = 0) (hAT : AT = none → cT = 0) (hlS : S.length ≤ 17592186044416) (hlT : T.length ≤ 17592186044416) :
    Calls Try.prog 12 #[.agg #[.slice AS S.length cS, .slice AT T.length cT]] w fun e w' => ∃ A c A' c', e = .returned (.agg #[.slice A S.length c, .slice A' T.length c']) ∧ RdZ w' w'.heap.size A c S ∧ RdZ w' w'.heap.size A' c' T ∧ Below w.heap.size w w' := by
  have HC0 := Lib.hid (cps_start w #[.slice AS S.length cS, .slice AT T.length cT] #[.slice none 0 0, .slice none 0 0])
  have HS := Lib.hid hS
  have HT := Lib.hid hT
  have HAS := Lib.hid hAS
  have HAT := Lib.hid hAT
  clear hS hT hAS hAT
  go_enter Try.func12, Try.ntmps12
  go_wp2
  obtain ⟨W, hW⟩ : ∃ W, W = (w.alloc (.cells #[.slice AS S.length cS, .slice AT T.length cT] 24)).alloc (.cells #[.slice none 0 0, .slice none 0 0] 24) := ⟨_, rfl⟩
  have hWs : W.heap.size = w.heap.size + 1 + 1 := by rw [hW]; simp
  rw [← hW] at HC0 ⊢
  clear hW
  have HZ : Hid (w.heap.size + 1 < W.heap.size) := by show _ < _; omega
  have HE0 : Hid (((W.alloc (.cells #[] 3)).alloc (.cells #[] 3)).drew.heap[W.heap.size]? = some (.cells #[] 3 (0, 0))) := block_alloc (heap_alloc_new W _) _
  have HE1 : Hid (((W.alloc (.cells #[] 3)).alloc (.cells #[] 3)).drew.heap[W.heap.size + 1]? = some (.cells #[] 3 (0, 0))) := by
    have := heap_alloc_new (W.alloc (.cells #[] 3)) (.cells #[] 3)
    rw [show (W.alloc (.cells #[] 3)).heap.size = W.heap.size + 1 by simp] at this
    exact this
  have HEc : Hid ((W.alloc (.cells #[] 3)).drew.heap[W.heap.size]? = some (.cells #[] 3 (0, 0))) := heap_alloc_new W _
  have HC2 : Hid (CPS w ((W.alloc (.cells #[] 3)).alloc (.cells #[] 3)).drew #[.slice AS S.length cS, .slice AT T.length cT] #[.slice none 0 0, .slice none 0 0]) := ((HC0.out.alloc _).alloc _).drew
  have HC1 : Hid (CPS w (W.alloc (.cells #[] 3)).drew #[.slice AS S.length cS, .slice AT T.length cT] #[.slice none 0 0, .slice none 0 0]) := (HC0.out.alloc _).drew
  have HSZ2 : Hid (((W.alloc (.cells #[] 3)).alloc (.cells #[] 3)).drew.heap.size = W.heap.size + 1 + 1) := by show ((W.alloc (.cells #[] 3)).alloc (.cells #[] 3)).heap.size = _; simp
  have HSZ1 : Hid ((W.alloc (.cells #[] 3)).drew.heap.size = W.heap.size + 1) := by show (W.alloc (.cells #[] 3)).heap.size = _; simp
  clear hWs
  obtain ⟨⟨t1, t2⟩, _⟩ := two_of_block HC0.out.x
  go_cut [6, 10] (fun s6 s10 wx => ∃ A c A' c', RdZ wx wx.heap.size A c S ∧ RdZ wx wx.heap.size A' c' T ∧ Hid (CPS w wx #[.slice AS S.length cS, .slice AT T.length cT] #[.slice A S.length c, .slice A' T.length c']))
  case first =>
    go_region_held3 (fun w' => w'.cell? ⟨w.heap.size, 0, none⟩ = some (.slice AS S.length cS) ∧ w'.cell? ⟨w.heap.size, 1, none⟩ = some (.slice AT T.length cT))
      (with_reducible first | exact (two_of_block HC0.out.x).1 | exact (two_of_block HC0.out.drew.x).1 | exact (two_of_block (HC0.out.alloc _).drew.x).1 | exact (two_of_block ((HC0.out.alloc _).alloc _).drew.x).1 | exact (two_of_block CS2.out.x).1 | exact (two_of_block (CS2.out.alloc _).x).1 | exact (two_of_block CS3.out.x).1 | exact (two_of_block (CS3.out.set _ _).x).1 | fail)
      (first
        | (refine step_app3 (v := .slice (some ⟨W.heap.size, 0, none⟩) 0 0) rfl _ _ rfl rfl (own_of_block HE0.out) rfl (HS.out.below HC2.out.bel) HAS.out hlS (by rw [HSZ2.out]; omega) ?_; intro v' w2 hown hg; obtain ⟨A1, c1, rfl, hr1⟩ := own_rdz hown; have HR1 := Lib.hid hr1; have CS2 := Lib.hid (HC2.out.grown hg HZ.out); have HB2 : Hid (w2.heap[W.heap.size + 1]? = some (.cells #[] 3 (0, 0))) := (hg.block _ (by rw [HSZ2.out]; omega) (by simp [Value.ownBlock])).trans HE1.out; have hw2 := lt_of_block HB2.out; clear hown hg hr1)
        | (refine step_app3 (v := .slice (some ⟨W.heap.size + 1, 0, none⟩) 0 0) rfl _ _ rfl rfl (own_of_block HE1.out) rfl (HS.out.below HC2.out.bel) HAS.out hlS (by rw [HSZ2.out]; omega) ?_; intro v' w2 hown hg; obtain ⟨A1, c1, rfl, hr1⟩ := own_rdz hown; have HR1 := Lib.hid hr1; have CS2 := Lib.hid (CPS.grown (g := W.heap.size + 1) HC2.out hg (by have := HZ.out; omega)); have HB2' : Hid (w2.heap[W.heap.size]? = some (.cells #[] 3 (0, 0))) := (hg.block _ (by rw [HSZ2.out]; omega) (by simp [Value.ownBlock])).trans HE0.out; have hw2 := lt_of_block HB2'.out; clear hown hg hr1)
        | (refine step_app3 (v := .slice (some ⟨W.heap.size, 0, none⟩) 0 0) rfl _ _ rfl rfl (own_of_block HEc.out) rfl (HS.out.below HC1.out.bel) HAS.out hlS (by rw [HSZ1.out]; omega) ?_; intro v' w2 hown hg; obtain ⟨A1, c1, rfl, hr1⟩ := own_rdz hown; have HR1 := Lib.hid hr1; have CS2 := Lib.hid (HC1.out.grown hg HZ.out); have hw2 : W.heap.size < w2.heap.size := (by have := hg.size; rw [HSZ1.out] at this; omega); clear hown hg hr1)
        | (refine step_app3 (v := .slice (some ⟨W.heap.size + 1, 0, none⟩) 0 0) rfl _ _ rfl rfl (own_of_block HB2.out) rfl (HT.out.below CS2.out.bel) HAT.out hlT (Nat.le_of_lt hw2) ?_; intro v' w3 hown hg; obtain ⟨A3, c3, rfl, hr3⟩ := own_rdz hown; have HR3 := Lib.hid hr3; have CS3 := Lib.hid (CPS.grown (g := W.heap.size + 1) CS2.out hg (by have := HZ.out; omega)); have HR1' := Lib.hid ((rdz_app HR1.out (Nat.le_refl _) hg HB2.out).mono hg.size); obtain ⟨⟨r1, r2⟩, fr⟩ := two_of_block CS3.out.r; have hzr := lt_of_block CS3.out.r; clear hown hg hr3)
        | (refine step_app3 (v := .slice (some ⟨W.heap.size, 0, none⟩) 0 0) rfl _ _ rfl rfl (own_of_block HB2'.out) rfl (HT.out.below CS2.out.bel) HAT.out hlT (Nat.le_of_lt hw2) ?_; intro v' w3 hown hg; obtain ⟨A3, c3, rfl, hr3⟩ := own_rdz hown; have HR3 := Lib.hid hr3; have CS3 := Lib.hid (CS2.out.grown hg HZ.out); have HR1' := Lib.hid ((rdz_app HR1.out (Nat.le_refl _) hg HB2'.out).mono hg.size); obtain ⟨⟨r1, r2⟩, fr⟩ := two_of_block CS3.out.r; have hzr := lt_of_block CS3.out.r; clear hown hg hr3)
        | (refine step_app3 (v := .slice (some ⟨w2.heap.size, 0, none⟩) 0 0) rfl _ _ rfl rfl (own_of_block (heap_alloc_new w2 _)) rfl (HT.out.below (CS2.out.alloc _).bel) HAT.out hlT (by simp) ?_; intro v' w3 hown hg; obtain ⟨A3, c3, rfl, hr3⟩ := own_rdz hown; have HR3 := Lib.hid hr3; have CS3 := Lib.hid (CPS.grown (g := w2.heap.size) (CS2.out.alloc _) hg (by have := HZ.out; omega)); have HR1' := Lib.hid ((rdz_app ((HR1.out.below (below1 w2 _)).mono (Nat.le_refl _)) (by simp) hg (heap_alloc_new w2 _)).mono (Nat.le_trans (by simp) hg.size)); obtain ⟨⟨r1, r2⟩, fr⟩ := two_of_block CS3.out.r; have hzr := lt_of_block CS3.out.r; clear hown hg hr3)
        | fail)
    all_goals
      go_wp2_with fail
      go_meet
      exact ⟨A1, c1, A3, c3, (rdz_setR HR1'.out CS3.out.r _ _).mono (by simp), (rdz_setR HR3.out CS3.out.r _ _).mono (by simp), Lib.hid (CS3.out.set _ _)⟩
  case rest =>
    obtain ⟨A, c, A', c', h1, h2, h3⟩ := hcut
    obtain ⟨⟨r1, r2⟩, fr⟩ := two_of_block h3.r
    go_wp2
    refine bodyPost_ret (v := .agg #[.slice A S.length c, .slice A' T.length c']) ?_ rfl ⟨A, c, A', c', rfl, h1, h2, h3.bel⟩
    simp [results, Try.results12, go_sem, r1, r2]
end Go.Proofs.Ytmikhkolbkdnpaa
