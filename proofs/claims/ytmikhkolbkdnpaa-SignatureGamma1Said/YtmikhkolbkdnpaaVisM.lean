/- The contract of search's visit: a known coset, a new coset. The contract of search's visit in one piece: the list of keys goes on, the answer is the key's place. -/
import Derived.Test.YtmikhkolbkdnpaaMapM
namespace Go.Proofs.Ytmikhkolbkdnpaa
open Go.RowKit
open Go.Maps (Keyed)
set_option linter.unusedVariables false

theorem zeroInt (w : World) : (zeroValue 3).run Try.prog w = .ok (.int .i64 0) w := by kernel_rfl
theorem infoMat : (Try.prog.info? 106).map (fun i => (i.zero, i.size, i.bytes)) = some (some (.agg #[.int .i64 0, .int .i64 0, .int .i64 0, .int .i64 0]), 4, 32) := by kernel_rfl
abbrev IsMp (w : World) (b n : Nat) (D : DataW Unit) : Prop := w.ownsMap Try.prog 107 (plainElem Try.prog 3) b n D
theorem row_ne {w : World} {base n size g : Nat} {e t : TypeId} {v : Value} {xs : List Value} {cs : Array Value} {f : Nat × Nat} (h : w.ownsRow base e size v n xs) (hg : w.heap[g]? = some (.cells cs t f)) (hne : t ≠ e) : some g ≠ v.ownBlock := fun k => by
  obtain ⟨_, cur, hc⟩ := row_lt h k.symm
  rw [hc] at hg
  cases hg
  exact hne rfl
theorem row_grown {w w' : World} {base n size b m : Nat} {e k : TypeId} {R : Value → Option (DataW Unit × List MemPlace)} {D : DataW Unit} {v : Value} {xs : List Value} {o : Obj} (h : w.ownsRow base e size v n xs) (hO : (w.alloc o).ownsMap Try.prog k R b m D) (hg : (w.alloc o).grownBy w' (some b)) : w'.ownsRow base e size v n xs :=
  row_keep h fun g hk => by
    obtain ⟨_, cur, hc⟩ := row_lt h hk
    have h1 := block_alloc hc o
    exact ((hg.block g (lt_of_block h1) (by have := map_ne hO h1; simpa using this)).trans h1).trans hc.symm
def CosC (k n a b c d x1 x2 x3 x4 : Int) : Prop := ∀ W : World, Calls Try.prog 72 #[.agg #[.int .i64 k, .int .i64 n], .agg #[.int .i64 a, .int .i64 b, .int .i64 c, .int .i64 d]] W fun e w' => e = .returned (.agg #[.int .i64 x1, .int .i64 x2, .int .i64 x3, .int .i64 x4]) ∧ Below W.heap.size W w'
theorem cell_four_new (w : World) (a b c d : Value) (t : TypeId) : ∀ j u, [a, b, c, d][j]? = some u → (w.alloc (.cells #[a, b, c, d] t)).cell? ((⟨w.heap.size, 0, none⟩ : Addr).add j) = some u := by
  intro j u hj
  match j, hj with
  | 0, hj => simp at hj; subst hj; simp [Addr.add]
  | 1, hj => simp at hj; subst hj; simp [Addr.add]
  | 2, hj => simp at hj; subst hj; simp [Addr.add]
  | 3, hj => simp at hj; subst hj; simp [Addr.add]
theorem cell_of_one' {w : World} {g : Nat} {v : Value} {t : TypeId} (h : w.heap[g]? = some (.cells #[v] t (0, 0))) : w.cell? ⟨g, 0, none⟩ = some v := cell_of_one h
set_option maxHeartbeats 1600000 in
set_option maxRecDepth 1000000 in
theorem visit_old {k n a b c d x1 x2 x3 x4 : Int} {bg bm bl bM cnt : Nat} {D : DataW Unit} {K : List K4} (w : World)
    (hG : w.heap[bg]? = some (.cells #[.int .i64 k, .int .i64 n] 51 (0, 0))) (hM : w.heap[bm]? = some (.cells #[.map (some bM)] 109 (0, 0)))
    (hO : IsMp w bM cnt D) (hD : MD D K) (hx : wf4 (x1, x2, x3, x4)) (hc : K.contains (x1, x2, x3, x4) = true) (HC : CosC k n a b c d x1 x2 x3 x4) :
    Calls Try.prog 73 #[.agg #[.int .i64 a, .int .i64 b, .int .i64 c, .int .i64 d], .pointer (some ⟨bg, 0, none⟩), .pointer (some ⟨bm, 0, none⟩), .pointer (some ⟨bl, 0, none⟩)] w fun e w' => e = .returned (.int .i64 (K.idxOf (x1, x2, x3, x4) : Nat)) ∧ Below w.heap.size w w' := by
  have HO := Lib.hid hO
  have HM := Lib.hid hM
  have HCo := Lib.hid (fun W => HC W)
  have HH : Hid (Maps.has D (kl (x1, x2, x3, x4)) = true) := by show _ = _; rw [hD.has _ hx, hc]
  have HA := Lib.hid (hD.at_ _ hx (by simpa using hc))
  obtain ⟨⟨g1, g2⟩, _⟩ := two_of_block hG
  have hgl := lt_of_block hG
  have hml := lt_of_block hM
  have HK := Lib.hid (key_of hx)
  clear hO hM hD hG hc HC hx
  go_enter Try.func73, Try.ntmps73
  go_wp2_with (first
    | (go_at_call 72; ((with_reducible refine (HCo.out _).mono ?_); rintro e w1 ⟨rfl, hb⟩; have HB1 := Lib.hid (bel1 (Below.refl _ _) hb); have HM1 := Lib.hid (block_below HM.out HB1.out); have HO1 : Hid (IsMp (w1.alloc (.cells #[.int .i64 x1, .int .i64 x2, .int .i64 x3, .int .i64 x4] 107)) bM cnt D) := (map_below HO.out HB1.out).alloc _; have m1 := cell_of_one HM1.out; have hz1 := lt_of_block HM1.out; clear hb))
    | (at_lookup; refine wpList_lookup_own_ok_int _ rfl _ _ 109 rfl 107 3 .i64 law4 Try.underlying109 Try.underlying3 (zeroInt _) bM cnt D rfl HO1.out (kv (x1, x2, x3, x4)) (kl (x1, x2, x3, x4)) rfl HK.out ?_; intro v hat hwc; rw [HH.out]; have HV := Lib.hid (hat.symm.trans HA.out); clear hat hwc)
    | fail)
  obtain rfl : v = (K.idxOf (x1, x2, x3, x4) : Nat) := by
    have := HV.out
    simpa using this
  go_ret
  exact ⟨rfl, HB1.out.alloc HB1.out.size _⟩
/-- What a new coset leaves. -/
structure VisN (w w' : World) (base bl bM cnt : Nat) (D : DataW Unit) (v v' : Value) (m : Nat) (xs : List Value) : Prop where
  l : w'.heap[bl]? = some (.cells #[v'] 77 (0, 0))
  own : IsMp w' bM cnt D
  row : w'.ownsRow base 106 4 v' m xs
  at_ : v'.ownBlock = v.ownBlock ∨ ∃ g, v'.ownBlock = some g ∧ w.heap.size ≤ g
  grown : w.heap.size ≤ w'.heap.size
  os : w'.os = w.os
  tape : w'.tape = w.tape
  out : w'.output = w.output
  rest : ∀ i, i < w.heap.size → i ≠ bM → i ≠ bl → some i ≠ v.ownBlock → w'.heap[i]? = w.heap[i]?
set_option maxHeartbeats 3200000 in
set_option maxRecDepth 1000000 in
theorem visit_new {k n a b c d x1 x2 x3 x4 : Int} {base bg bm bl bM cnt : Nat} {D : DataW Unit} {K : List K4} {v : Value} {xs : List Value} (w : World)
    (hG : w.heap[bg]? = some (.cells #[.int .i64 k, .int .i64 n] 51 (0, 0))) (hM : w.heap[bm]? = some (.cells #[.map (some bM)] 109 (0, 0)))
    (hL : w.heap[bl]? = some (.cells #[v] 77 (0, 0))) (hR : w.ownsRow base 106 4 v K.length xs) (hK : K.length ≤ 100000) (hcnt : cnt ≤ 100000) (hbase : base ≤ w.heap.size)
    (hO : IsMp w bM cnt D) (hD : MD D K) (hx : wf4 (x1, x2, x3, x4)) (hc : K.contains (x1, x2, x3, x4) = false) (HC : CosC k n a b c d x1 x2 x3 x4) :
    Calls Try.prog 73 #[.agg #[.int .i64 a, .int .i64 b, .int .i64 c, .int .i64 d], .pointer (some ⟨bg, 0, none⟩), .pointer (some ⟨bm, 0, none⟩), .pointer (some ⟨bl, 0, none⟩)] w fun e w' => e = .returned (.int .i64 (K.length : Nat)) ∧
      ∃ v', VisN w w' base bl bM (cnt + 1) (D.put (kl (x1, x2, x3, x4)) (.lit (.int .i64 (K.length : Nat)))) v v' (K.length + 1) (xs ++ [.int .i64 a, .int .i64 b, .int .i64 c, .int .i64 d]) := by
  obtain ⟨la, lc, rfl⟩ : ∃ la lc, v = .slice la K.length lc := by
    rcases hR.2 with ⟨h, h'⟩ | ⟨g, cap, cur, h, _⟩
    · exact ⟨none, 0, by rw [h, h']⟩
    · exact ⟨_, _, h⟩
  obtain ⟨i1, hi, z0, z1, z2⟩ := info_parts infoMat
  have HO := Lib.hid hO
  have HM := Lib.hid hM
  have HL := Lib.hid hL
  have HR := Lib.hid hR
  have HCo := Lib.hid (fun W => HC W)
  have HH : Hid (Maps.has D (kl (x1, x2, x3, x4)) = false) := by show _ = _; rw [hD.has _ hx, hc]
  have hNl := map_ne hO hL
  have hNm := map_ne hO hM
  have hNg := map_ne hO hG
  have hlm : bl ≠ bm := by
    rintro rfl
    rw [hL] at hM
    simp at hM
  obtain ⟨⟨g1, g2⟩, _⟩ := two_of_block hG
  have hgl := lt_of_block hG
  have hml := lt_of_block hM
  have hll := lt_of_block hL
  have hMl := hO.lt
  have HK := Lib.hid (key_of hx)
  clear hO hM hD hG hc HC hx hL hR
  go_enter Try.func73, Try.ntmps73
  go_wp2_with (first
    | (go_at_call 72; ((with_reducible refine (HCo.out _).mono ?_); rintro e w1 ⟨rfl, hb⟩; have HB1 := Lib.hid (bel1 (Below.refl _ _) hb); have HF1 : Hid (Four w1 w.heap.size a b c d) := (Four.at w rfl a b c d).below hb; have HM1 := Lib.hid (block_below HM.out HB1.out); have HL1 := Lib.hid (block_below HL.out HB1.out); have HO1 : Hid (IsMp (w1.alloc (.cells #[.int .i64 x1, .int .i64 x2, .int .i64 x3, .int .i64 x4] 107)) bM cnt D) := (map_below HO.out HB1.out).alloc _; have m1 := cell_of_one HM1.out; have l1 := cell_of_one HL1.out; have hz1 := lt_of_block HM1.out; have hz2 := lt_of_block HL1.out; clear hb))
    | (at_lookup; refine wpList_lookup_own_ok_int _ rfl _ _ 109 rfl 107 3 .i64 law4 Try.underlying109 Try.underlying3 (zeroInt _) bM cnt D rfl HO1.out (kv (x1, x2, x3, x4)) (kl (x1, x2, x3, x4)) rfl HK.out ?_; intro v hat hwc; rw [HH.out]; clear hat hwc)
    | (at_mapUpdate; refine wpList_mapUpdate_own _ rfl _ _ _ 109 rfl 107 3 law4 Try.underlying109 _ bM cnt D rfl HO1.out (by unfold maxLen; omega) (kv (x1, x2, x3, x4)) _ (kl (x1, x2, x3, x4)) rfl rfl HK.out (.lit (.int .i64 (K.length : Nat))) [] (plainElem_int Try.underlying3 (by simp [Lit.wf, IntKind.min, IntKind.max, IntKind.signed, IntKind.bits]; omega)) ?_; intro w3 hown3 hg3; have HO3 := Lib.hid hown3; have HG3 := Lib.hid hg3; have HL3 : Hid (w3.heap[bl]? = some (.cells #[.slice la K.length lc] 77 (0, 0))) := (hg3.block bl (by simp; omega) (by simp; omega)).trans (block_alloc HL1.out _); have HF3 : Hid (Four w3 w.heap.size a b c d) := (hg3.block _ (by have := HF1.out.lt; simp; omega) (by simp; omega)).trans (HF1.out.alloc _); have HR3 : Hid (w3.ownsRow base 106 4 (.slice la K.length lc) K.length xs) := row_grown (row_below HR.out HB1.out) HO1.out hg3; have l3 := cell_of_one HL3.out; obtain ⟨f1, f2, f3, f4⟩ := HF3.out.cells; have hz3 := HF3.out.lt; have hz4 := lt_of_block HL3.out; clear hown3 hg3)
    | (at_builtin; (refine wpList_append_own_at _ rfl _ _ 77 rfl base 106 i1 (.agg #[.int .i64 0, .int .i64 0, .int .i64 0, .int .i64 0]) 4 32 Try.underlying77 hi z0 z1 z2 rfl (by decide) _ _ _ rfl (HR3.out.alloc _) ⟨w3.heap.size, 0, none⟩ 1 1 [.int .i64 a, .int .i64 b, .int .i64 c, .int .i64 d] rfl rfl (cell_four_new _ _ _ _ _ _) (fun x hx => by simp at hx; rcases hx with rfl | rfl | rfl | rfl <;> rfl) (by unfold maxLen; omega) (by omega) (by simp; omega) ?_); intro v' w4 hown4 hg4 hnil4 hat4; obtain ⟨A2, c2, rfl⟩ := own_len hown4; have HR4 := Lib.hid hown4; have HG4 : Hid ((w3.alloc (.cells #[.int .i64 a, .int .i64 b, .int .i64 c, .int .i64 d] 106)).grownBy w4 (Value.slice la K.length lc).ownBlock) := hg4; have HA4 : Hid ((Value.slice A2 (K.length + 1) c2).ownBlock = (Value.slice la K.length lc).ownBlock ∨ (Value.slice A2 (K.length + 1) c2).ownBlock = some (w3.alloc (.cells #[.int .i64 a, .int .i64 b, .int .i64 c, .int .i64 d] 106)).heap.size) := hat4; have HL4 : Hid (w4.heap[bl]? = some (.cells #[.slice la K.length lc] 77 (0, 0))) := (hg4.block bl (by simp; omega) (row_ne HR3.out HL3.out (by decide))).trans (block_alloc HL3.out _); have l4 := cell_of_one HL4.out; have hz5 := lt_of_block HL4.out; have f4' := free_of_one HL4.out; clear hown4 hg4 hnil4 hat4)
    | fail)
  have s1 := HB1.out.size
  have s3 := HG3.out.size
  have s4 := HG4.out.size
  simp at s3 s4
  have e1 : some bM ≠ (Value.slice la K.length lc).ownBlock := fun k => by
    obtain ⟨_, cur, hc⟩ := row_lt HR3.out k.symm
    exact map_ne HO3.out hc rfl
  have e2 : w4.heap[bM]? = w3.heap[bM]? := (HG4.out.block bM (by simp; omega) e1).trans ((below1 w3 _).block bM (by omega))
  go_ret
  refine ⟨rfl, _, one_setCell HL4.out, World.ownsMap.setCell (map_keep HO3.out e2) (by simp; omega) _, row_keep HR4.out (fun g hg => set_ne rfl (fun k => ?_) _), ?_, ?_, ?_, ?_, ?_, fun i hi h1 h2 h3 => ?_⟩
  · subst k
    exact row_ne HR4.out HL4.out (by decide) hg.symm
  · rcases HA4.out with h | h
    · exact .inl h
    · exact .inr ⟨_, h, by simp; omega⟩
  · simp; omega
  · exact HG4.out.os.trans (HG3.out.os.trans HB1.out.os)
  · exact HG4.out.tape.trans (HG3.out.tape.trans HB1.out.tape)
  · exact HG4.out.output.trans (HG3.out.output.trans HB1.out.output)
  · exact set_ne ((HG4.out.block i (by simp; omega) h3).trans (((below1 w3 _).block i (by omega)).trans ((HG3.out.block i (by simp; omega) (by simp; omega)).trans (((below1 w1 _).block i (by omega)).trans (HB1.out.block i hi))))) h2 _
end Go.Proofs.Ytmikhkolbkdnpaa
namespace Go.Proofs.Ytmikhkolbkdnpaa
open Go.RowKit
open Go.Maps (Keyed)
set_option linter.unusedVariables false

/-- What visit reads and writes: the group, the map, the list. -/
structure VS (w : World) (base bg bm bl bM : Nat) (k n : Int) (K : List K4) (v : Value) (xs : List Value) : Prop where
  g : w.heap[bg]? = some (.cells #[.int .i64 k, .int .i64 n] 51 (0, 0))
  m : w.heap[bm]? = some (.cells #[.map (some bM)] 109 (0, 0))
  l : w.heap[bl]? = some (.cells #[v] 77 (0, 0))
  own : ∃ D, IsMp w bM K.length D ∧ MD D K
  row : w.ownsRow base 106 4 v K.length xs
  bs : base ≤ w.heap.size
  len : K.length ≤ 100000
/-- What visit leaves alone. -/
structure FR (w w' : World) (bl bM : Nat) (v v' : Value) : Prop where
  at_ : v'.ownBlock = v.ownBlock ∨ ∃ g, v'.ownBlock = some g ∧ w.heap.size ≤ g
  grown : w.heap.size ≤ w'.heap.size
  os : w'.os = w.os
  tape : w'.tape = w.tape
  out : w'.output = w.output
  rest : ∀ i, i < w.heap.size → i ≠ bM → i ≠ bl → some i ≠ v.ownBlock → w'.heap[i]? = w.heap[i]?
section
variable {w w' : World} {base bg bm bl bM : Nat} {k n : Int} {K : List K4} {v v' : Value} {xs : List Value}
theorem VS.below (h : VS w base bg bm bl bM k n K v xs) (hb : Below w.heap.size w w') : VS w' base bg bm bl bM k n K v xs := by
  obtain ⟨D, h1, h2⟩ := h.own
  exact ⟨block_below h.g hb, block_below h.m hb, block_below h.l hb, ⟨D, map_below h1 hb, h2⟩, row_below h.row hb, Nat.le_trans h.bs hb.size, h.len⟩
theorem FR.of_below (hb : Below w.heap.size w w') : FR w w' bl bM v v := ⟨.inl rfl, hb.size, hb.os, hb.tape, hb.output, fun i hi _ _ _ => hb.block i hi⟩
theorem FR.below {B : Nat} (h : FR w w' bl bM v v') (hl : B ≤ bl) (hM : B ≤ bM) (hr : w.ownsRow B 106 4 v K.length xs) (hB : B ≤ w.heap.size) : Below B w w' :=
  ⟨h.os, h.tape, h.out, h.grown, fun i hi => h.rest i (by omega) (by omega) (by omega) fun e => by have := (row_lt hr e.symm).1; omega⟩
end
/-- The list of keys behind a visit. -/
def kNext (K : List K4) (x : K4) : List K4 := if K.contains x = true then K else K ++ [x]
def xNext (K : List K4) (x : K4) (xs new : List Value) : List Value := if K.contains x = true then xs else xs ++ new
theorem idx_next (K : List K4) (x : K4) : (kNext K x).idxOf x = if K.contains x = true then K.idxOf x else K.length := by
  unfold kNext
  by_cases h : K.contains x = true
  · rw [if_pos h, if_pos h]
  · rw [if_neg h, if_neg h, List.idxOf_append, if_neg (by simpa using h)]
    simp
theorem visit_any {k n a b c d x1 x2 x3 x4 : Int} {base bg bm bl bM : Nat} {K : List K4} {v : Value} {xs : List Value} (w : World) (h : VS w base bg bm bl bM k n K v xs) (hl : K.length < 100000) (hx : wf4 (x1, x2, x3, x4)) (HC : CosC k n a b c d x1 x2 x3 x4) :
    Calls Try.prog 73 #[.agg #[.int .i64 a, .int .i64 b, .int .i64 c, .int .i64 d], .pointer (some ⟨bg, 0, none⟩), .pointer (some ⟨bm, 0, none⟩), .pointer (some ⟨bl, 0, none⟩)] w fun e w' => ∃ v', e = .returned (.int .i64 ((kNext K (x1, x2, x3, x4)).idxOf (x1, x2, x3, x4) : Nat)) ∧
      VS w' base bg bm bl bM k n (kNext K (x1, x2, x3, x4)) v' (xNext K (x1, x2, x3, x4) xs [.int .i64 a, .int .i64 b, .int .i64 c, .int .i64 d]) ∧ FR w w' bl bM v v' := by
  obtain ⟨D, hO, hD⟩ := h.own
  rw [idx_next]
  unfold kNext xNext
  by_cases hc : K.contains (x1, x2, x3, x4) = true
  · simp only [if_pos hc]
    refine (visit_old w h.g h.m hO hD hx hc HC).mono ?_
    rintro e w' ⟨rfl, hb⟩
    exact ⟨v, rfl, h.below hb, .of_below hb⟩
  · simp only [if_neg hc]
    have hc' : K.contains (x1, x2, x3, x4) = false := by simpa using hc
    refine (visit_new w h.g h.m h.l h.row h.len h.len h.bs hO hD hx hc' HC).mono ?_
    rintro e w' ⟨rfl, v', hV⟩
    have hr : FR w w' bl bM v v' := ⟨hV.at_, hV.grown, hV.os, hV.tape, hV.out, hV.rest⟩
    have cell : ∀ i (cs : Array Value) (t : TypeId), w.heap[i]? = some (.cells cs t (0, 0)) → i ≠ bl → t ≠ 106 → w'.heap[i]? = some (.cells cs t (0, 0)) := fun i cs t hi hil ht =>
      (hV.rest i (lt_of_block hi) (map_ne hO hi) hil (row_ne h.row hi ht)).trans hi
    have gl : bg ≠ bl := by
      rintro rfl
      have := h.g.symm.trans h.l
      simp at this
    have ml : bm ≠ bl := by
      rintro rfl
      have := h.m.symm.trans h.l
      simp at this
    refine ⟨v', rfl, ⟨cell _ _ _ h.g gl (by decide), cell _ _ _ h.m ml (by decide), hV.l, ⟨_, by rw [List.length_append]; exact hV.own, hD.put hx hc'⟩, by rw [List.length_append]; exact hV.row, Nat.le_trans h.bs hV.grown, by rw [List.length_append]; simp; omega⟩, hr⟩
end Go.Proofs.Ytmikhkolbkdnpaa
