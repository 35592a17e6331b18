/- Sl2Values answers true for all words: what it does to the world. -/
import Derived.Test.YtnccamhajndkjaaRValL
import Derived.Laws.AppendOwnNone
import Derived.Deep.AppendLies
import Derived.Deep.DeepCutAuto
namespace Go.Proofs.Ytnccamhajndkjaa
open Go.RowKit

/-- One step of a drawn region: a list that was read is appended to an empty row of one's own. -/
theorem step_app {w : World} {ops : Array Oper} {o : Oper} {a : Act} {K : Act → World → Prop} {Q : Exit → Act → World → Prop} {E : Prop} {B c base : Nat} {A : Option Addr} {l : List Int} {v : Value} (hgd : o.guard = none) (s x : Operand)
    (ho : o.op = .call { callee := .builtin .append, args := #[s, x], argTypes := #[57, 57] })
    (hs : a.eval s = v) (hown : w.ownsRow base 3 1 v 0 []) (hx : a.eval x = .slice A l.length c) (hr : RdZ w B A c l) (hA : A = none → c = 0) (hl : l.length ≤ 1000) (hbase : base ≤ w.heap.size)
    (h : ∀ v' w', w'.ownsRow base 3 1 v' l.length (zs l) → w.grownBy w' v.ownBlock → K (a.put o.dst v') w') : if Region.wanted o (yielded ops a.tmps) = true then Oper.wp Try.prog o a w K Q else E := by
  obtain ⟨i0, hi, hz0, hz1, hz2⟩ := info_parts Try.infoInt
  rw [if_pos (show Region.wanted o (yielded ops a.tmps) = true by simp [Region.wanted, hgd])]
  cases A with
  | none =>
    obtain rfl := hA rfl
    have hl0 : l = [] := by
      rcases Nat.eq_zero_or_pos l.length with h0 | h0
      · exact List.eq_nil_of_length_eq_zero h0
      · obtain ⟨b, o', e, _⟩ := hr.2.2.1 h0
        cases e
    subst hl0
    have hrun := run_append_owned_none (P := Try.prog) (w := w) base 57 o.type 3 i0 1 Try.underlying57 hi v 0 [] hown
    have hx' : a.eval x = .slice none 0 0 := hx
    have hk := h v w hown (World.grownBy.refl w _)
    unfold Oper.wp
    simp [execOp, ho, resolve, invoke, builtin, hs, hx', hrun, Result.andThen]
    exact hk
  | some ad =>
    obtain ⟨b, o', rfl⟩ := hr.2.2.2 ad rfl
    refine wp_append_own w s x 57 ho base 3 i0 (.int .i64 0) 1 8 Try.underlying57 hi hz0 hz1 hz2 rfl (by decide) v 0 [] hs hown ⟨b, o', none⟩ l.length c (zs l) hx (by simp [zs]) (fun j u hj => ?_) (fun u hu => ?_) (by unfold maxLen; omega) (by omega) hbase fun v' w' h1 h2 _ => h v' w' (by simpa using h1) h2
    · have hjl : j < l.length := by
        have := (List.getElem?_eq_some_iff.1 hj).1
        simpa [zs] using this
      obtain ⟨b2, o2, e, _, hc⟩ := hr.at_ hjl
      simp only [Option.some.injEq, Addr.mk.injEq] at e
      obtain ⟨rfl, rfl, _⟩ := e
      rw [zs_get l j hjl] at hj
      rw [show (⟨b, o', none⟩ : Addr).add j = ⟨b, o' + j, none⟩ by unfold Addr.add; split <;> simp_all, hc]
      exact hj
    · obtain ⟨x', _, rfl⟩ := List.mem_map.1 hu
      rfl
theorem own_empty (w : World) {g : Nat} (hg : g = w.heap.size) : (w.alloc (.cells #[] 3)).ownsRow g 3 1 (.slice (some ⟨g, 0, none⟩) 0 0) 0 [] := by
  subst hg
  exact ⟨rfl, .inr ⟨w.heap.size, 0, #[], rfl, Nat.le_refl _, heap_alloc_new w _, Nat.le_refl _, by unfold maxLen; omega, rfl, rfl⟩⟩
theorem block_grown0 {w w' : World} {g b : Nat} {o : Obj} {e : TypeId} {size n : Nat} {v : Value} {xs : List Value} (h : w.heap[g]? = some o) (hown : w.ownsRow b e size v n xs) (hgb : g < b) (hg : w.grownBy w' v.ownBlock) : w'.heap[g]? = some o := by
  refine (hg.block g (lt_of_block h) ?_).trans h
  intro k
  rcases hown.2 with ⟨rfl, _⟩ | ⟨g', cap, cur, rfl, hb, _⟩
  · cases k
  · simp [Value.ownBlock] at k
    omega
/-- A world behind the law's beginning: the word's box and all that is older are as they were. -/
structure VW (w0 W : World) (n : Bool) (A : Option Addr) (l c : Nat) : Prop where
  word : WBox W w0.heap.size n A l c
  bel : Below w0.heap.size w0 W
theorem VW.alloc {w0 W : World} {n : Bool} {A : Option Addr} {l c : Nat} (h : VW w0 W n A l c) (o : Obj) : VW w0 (W.alloc o) n A l c := ⟨h.word.alloc o, bel0 h.bel (below1 _ _)⟩
theorem VW.drew {w0 W : World} {n : Bool} {A : Option Addr} {l c : Nat} (h : VW w0 W n A l c) : VW w0 W.drew n A l c := ⟨h.word, h.bel.drew⟩
theorem VW.below {w0 W W' : World} {n : Bool} {A : Option Addr} {l c : Nat} (h : VW w0 W n A l c) (hb : Below W.heap.size W W') : VW w0 W' n A l c := ⟨h.word.below hb, bel0 h.bel hb⟩
theorem VW.set {w0 W : World} {n : Bool} {A : Option Addr} {l c : Nat} (h : VW w0 W n A l c) {g : Nat} (hg : w0.heap.size < g) (v0 v1 v2 v3 : Value) : VW w0 ((((W.setCell ⟨g, 0, none⟩ v0).setCell ⟨g, 1, none⟩ v1).setCell ⟨g, 2, none⟩ v2).setCell ⟨g, 3, none⟩ v3) n A l c := ⟨h.word.other (by omega) _ _ _ _, below_set4 h.bel (by omega) _ _ _ _⟩
theorem VW.cells {w0 W : World} {n : Bool} {A : Option Addr} {l c : Nat} (h : VW w0 W n A l c) : W.cell? ⟨w0.heap.size, 0, none⟩ = some (.bool n) ∧ W.cell? ⟨w0.heap.size, 1, none⟩ = some (.slice A l c) := h.word.cells
theorem VW.grown {w0 W W' : World} {n : Bool} {A : Option Addr} {l c b m cap : Nat} {xs : List Value} (h : VW w0 W n A l c) (hb : w0.heap.size < b) (hg : W.grownBy W' (Value.slice (some ⟨b, 0, none⟩) m cap).ownBlock) (_ : W.ownsRow b 3 1 (.slice (some ⟨b, 0, none⟩) m cap) m xs) : VW w0 W' n A l c :=
  ⟨(hg.block _ h.word.lt (by simp [Value.ownBlock]; omega)).trans h.word, h.bel.grown hg h.bel.size (fun k hk => by simp [Value.ownBlock] at hk; omega)⟩
theorem Four.grown {W W' : World} {g b m cap : Nat} {x y z t : Int} (h : Four W g x y z t) (hne : g ≠ b) (hg : W.grownBy W' (Value.slice (some ⟨b, 0, none⟩) m cap).ownBlock) : Four W' g x y z t :=
  (hg.block g h.lt (by simp [Value.ownBlock]; omega)).trans h
theorem WBox.drew {w : World} {g l c : Nat} {n : Bool} {A : Option Addr} (h : WBox w g n A l c) : WBox w.drew g n A l c := h
theorem RdZ.drew {w : World} {B c : Nat} {A : Option Addr} {l : List Int} (h : RdZ w B A c l) : RdZ w.drew B A c l := h

set_option maxHeartbeats 3200000 in
set_option maxRecDepth 1000000 in
theorem values_long (n : Bool) {A : Option Addr} {len c : Nat} (w : World) (h : 300 < len) :
    Calls Try.prog 10 #[.agg #[.bool n, .slice A len c]] w fun e w' => e = .returned (.bool true) ∧ Below w.heap.size w w' := by
  have hd : decide (300 < (len : Int)) = true := decide_eq_true (by omega)
  go_enter Try.func10, Try.ntmps10
  go_wp2_with (first
    | (go_at_call 12; ((with_reducible refine (awake_any _).mono ?_); rintro e w1 ⟨rfl, hb⟩; have HB1 : Hid (Below w.heap.size w w1) := bel1 (Below.refl _ _) hb; clear hb))
    | fail)
  go_ret
  exact ⟨rfl, HB1.out⟩
set_option maxHeartbeats 3200000 in
set_option maxRecDepth 1000000 in
theorem values_walk (n : Bool) {A : Option Addr} {c : Nat} (l : List Int) (w : World) (hr : RdZ w w.heap.size A c l) (hA : A = none → c = 0) :
    Calls Try.prog 10 #[.agg #[.bool n, .slice A l.length c]] w fun e w' => e = .returned (.bool true) ∧ Below w.heap.size w w' := by
  rcases Nat.lt_or_ge 300 l.length with h | h
  · exact values_long n w h
  · obtain ⟨⟨p, q, r, s⟩, k, hv⟩ : ∃ m k, valE n l = (m, k) := ⟨_, _, rfl⟩
    have HV := Lib.hid hv
    have HR := Lib.hid hr
    have HA := Lib.hid hA
    have hd : decide (300 < (l.length : Int)) = false := decide_eq_false (by omega)
    have hl1 : l.length ≤ 1000 := by omega
    clear hv hr hA
    go_enter Try.func10, Try.ntmps10
    go_wp2_with (first
      | (go_at_call 12; ((with_reducible refine (awake_any _).mono ?_); rintro e w1 ⟨rfl, hb⟩; have T0 := Lib.hid ((WBox.at w rfl n A l.length c).below hb); have HB1 : Hid (Below w.heap.size w w1) := bel1 (Below.refl _ _) hb; have tl := T0.out.lt; clear hb))
      | fail)
    have V0 : Hid (VW w w1 n A l.length c) := ⟨T0.out, HB1.out⟩
    have HR1 := Lib.hid (HR.out.below HB1.out)
    have hw1 : w.heap.size < w1.heap.size := tl
    have HEa : Hid (((w1.alloc (.cells #[.int .i64 0, .int .i64 0, .int .i64 0, .int .i64 0] 23)).alloc (.cells #[] 3)).drew.ownsRow (w1.heap.size + 1) 3 1 (.slice (some ⟨w1.heap.size + 1, 0, none⟩) 0 0) 0 []) := own_empty (w1.alloc (.cells #[.int .i64 0, .int .i64 0, .int .i64 0, .int .i64 0] 23)) (by simp)
    have HEb : Hid (((w1.alloc (.cells #[] 3)).alloc (.cells #[.int .i64 0, .int .i64 0, .int .i64 0, .int .i64 0] 23)).drew.ownsRow w1.heap.size 3 1 (.slice (some ⟨w1.heap.size, 0, none⟩) 0 0) 0 []) := own_below (own_empty w1 rfl) (below1 _ _).drew
    have HEc : Hid ((w1.alloc (.cells #[] 3)).drew.ownsRow w1.heap.size 3 1 (.slice (some ⟨w1.heap.size, 0, none⟩) 0 0) 0 []) := own_empty w1 rfl
    have HRa : Hid (RdZ ((w1.alloc (.cells #[.int .i64 0, .int .i64 0, .int .i64 0, .int .i64 0] 23)).alloc (.cells #[] 3)).drew w.heap.size A c l) := HR1.out.below ((below2 _ _ _).drew.mono HB1.out.size)
    have HRb : Hid (RdZ ((w1.alloc (.cells #[] 3)).alloc (.cells #[.int .i64 0, .int .i64 0, .int .i64 0, .int .i64 0] 23)).drew w.heap.size A c l) := HR1.out.below ((below2 _ _ _).drew.mono HB1.out.size)
    have HRc : Hid (RdZ (w1.alloc (.cells #[] 3)).drew w.heap.size A c l) := HR1.out.below ((below1 _ _).drew.mono HB1.out.size)
    have HSa : Hid (w1.heap.size + 1 ≤ ((w1.alloc (.cells #[.int .i64 0, .int .i64 0, .int .i64 0, .int .i64 0] 23)).alloc (.cells #[] 3)).drew.heap.size) := by show _ ≤ ((w1.alloc (.cells #[.int .i64 0, .int .i64 0, .int .i64 0, .int .i64 0] 23)).alloc (.cells #[] 3)).heap.size; simp
    have HSb : Hid (w1.heap.size ≤ ((w1.alloc (.cells #[] 3)).alloc (.cells #[.int .i64 0, .int .i64 0, .int .i64 0, .int .i64 0] 23)).drew.heap.size) := by show _ ≤ ((w1.alloc (.cells #[] 3)).alloc (.cells #[.int .i64 0, .int .i64 0, .int .i64 0, .int .i64 0] 23)).heap.size; simp; omega
    have HSc : Hid (w1.heap.size ≤ (w1.alloc (.cells #[] 3)).drew.heap.size) := by show _ ≤ (w1.alloc (.cells #[] 3)).heap.size; simp
    have Za : Hid (Four ((w1.alloc (.cells #[.int .i64 0, .int .i64 0, .int .i64 0, .int .i64 0] 23)).alloc (.cells #[] 3)).drew w1.heap.size 0 0 0 0) := (Four.at w1 rfl 0 0 0 0).alloc _
    have Zb : Hid (Four ((w1.alloc (.cells #[] 3)).alloc (.cells #[.int .i64 0, .int .i64 0, .int .i64 0, .int .i64 0] 23)).drew (w1.heap.size + 1) 0 0 0 0) := Four.at (w1.alloc _) (by simp) 0 0 0 0
    obtain ⟨t0, t1⟩ := V0.out.cells
    go_cut [3, 4] (fun s3 s4 wx => ∃ g : Nat, s3 = .pointer (some ⟨g, 0, none⟩) ∧ s4 = .int .i64 k ∧ Hid (Four wx g p q r s) ∧ Hid (VW w wx n A l.length c))
    case first =>
      go_region_held3 (fun w' => w'.cell? ⟨w.heap.size, 0, none⟩ = some (.bool n) ∧ w'.cell? ⟨w.heap.size, 1, none⟩ = some (.slice A l.length c))
        (with_reducible first | exact VW.cells (VW.drew V0.out) | exact VW.cells (VW.drew (VW.alloc V0.out _)) | exact VW.cells (VW.drew (VW.alloc (VW.alloc V0.out _) _)) | exact VW.cells V2.out | exact VW.cells (VW.alloc V2.out _) | exact VW.cells V3.out | exact VW.cells (VW.alloc V3.out _) | exact VW.cells (VW.set V3.out (by have := HG.out; omega) _ _ _ _) | fail)
        (first
          | (refine step_app (v := .slice (some ⟨w1.heap.size + 1, 0, none⟩) 0 0) rfl _ _ rfl rfl HEa.out rfl HRa.out HA.out hl1 HSa.out ?_; intro v' w2 hown hg; obtain ⟨A', c', rfl, hr'⟩ := own_rdz hown; have HR3 := Lib.hid hr'; have V2 := Lib.hid (VW.grown ((V0.out.alloc _).alloc _).drew (by omega) hg HEa.out); have Z2 := Lib.hid (Four.grown Za.out (by omega) hg); have HG : Hid (w.heap.size < w1.heap.size) := hw1; clear hown hg hr')
          | (refine step_app (v := .slice (some ⟨w1.heap.size, 0, none⟩) 0 0) rfl _ _ rfl rfl HEb.out rfl HRb.out HA.out hl1 HSb.out ?_; intro v' w2 hown hg; obtain ⟨A', c', rfl, hr'⟩ := own_rdz hown; have HR3 := Lib.hid hr'; have V2 := Lib.hid (VW.grown ((V0.out.alloc _).alloc _).drew (by omega) hg HEb.out); have Z2 := Lib.hid (Four.grown Zb.out (by omega) hg); have HG : Hid (w.heap.size < w1.heap.size + 1) := (by show _ < _; omega); clear hown hg hr')
          | (refine step_app (v := .slice (some ⟨w1.heap.size, 0, none⟩) 0 0) rfl _ _ rfl rfl HEc.out rfl HRc.out HA.out hl1 HSc.out ?_; intro v' w2 hown hg; obtain ⟨A', c', rfl, hr'⟩ := own_rdz hown; have HR3 := Lib.hid hr'; have V2 := Lib.hid (VW.grown (V0.out.alloc _).drew (by omega) hg HEc.out); clear hown hg hr')
          | (go_at_call 32; ((with_reducible refine (value_any n p q r s k _ HR3.out (Nat.le_refl _) HV.out).mono ?_); rintro e w3 ⟨rfl, hb⟩; have V3 := Lib.hid (V2.out.below hb); try (have Z3 := Lib.hid (Z2.out.below hb); obtain ⟨z0, z1, z2, z3⟩ := Z3.out.cells; have zf := Z3.out.free); clear hb))
          | (go_at_call 32; ((with_reducible refine (value_any n p q r s k _ (HR3.out.alloc (Nat.le_refl _) _) (by simp) HV.out).mono ?_); rintro e w3 ⟨rfl, hb⟩; have V3 := Lib.hid ((V2.out.alloc _).below hb); have Z3 := Lib.hid ((Four.at w2 rfl 0 0 0 0).below hb); obtain ⟨z0, z1, z2, z3⟩ := Z3.out.cells; have zf := Z3.out.free; have HG : Hid (w.heap.size < w2.heap.size) := V2.out.word.lt; clear hb))
          | fail)
      all_goals
        go_wp2_with fail
        go_meet
        first
          | exact ⟨_, rfl, rfl, Four.at w3 rfl p q r s, V3.out.alloc _⟩
          | exact ⟨_, rfl, rfl, Z3.out.set p q r s, V3.out.set HG.out _ _ _ _⟩
          | fail
    case rest =>
      obtain ⟨g, rfl, rfl, HQ, HVW⟩ := hcut
      obtain ⟨t0, t1⟩ := HVW.out.cells
      obtain ⟨v0, v1, v2, v3⟩ := HQ.out.cells
      have ql := HQ.out.lt
      have HRW := Lib.hid (HR.out.below HVW.out.bel)
      have HSW := Lib.hid HVW.out.bel.size
      go_wp2_with (first
        | (go_at_call 33; ((with_reducible refine (rvalue_any n p q r s k _ HRW.out HSW.out HV.out).mono ?_); rintro e w4 ⟨rfl, hb⟩; have Q4 := Lib.hid (HQ.out.below hb); have HB4 : Hid (Below w.heap.size w w4) := bel0 HVW.out.bel hb; obtain ⟨v0, v1, v2, v3⟩ := Q4.out.cells; have ql := Q4.out.lt; clear hb))
        | fail)
      go_ret
      exact ⟨rfl, bel0 HB4.out (below1 _ _)⟩
end Go.Proofs.Ytnccamhajndkjaa
