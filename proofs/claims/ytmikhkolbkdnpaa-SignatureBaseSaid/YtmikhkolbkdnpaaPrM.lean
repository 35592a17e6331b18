/- Maps from [2]int to int: what a key reads as; a map that holds the places of a list of keys. The closure of intersection: the place of a pair of points, put at the end if it is new. The closure of intersection in one piece: the list of pairs goes on, the answer is the pair's place. Plain mathematics: maps between actions; the orbit of a point as an action; pairs of points. Plain mathematics: the search over pairs in the words of the list of pairs. One round of the search over pairs, in plain numbers. The world within intersection: what its boxes and rows are, kept through changes elsewhere (after wip/sg/SrS). The world within intersection's round (after wip/sg/SrN). The world before intersection's loop. -/
import Derived.Test.YtmikhkolbkdnpaaMapM
import Derived.Test.YtmikhkolbkdnpaaCgL
import Derived.Test.YtmikhkolbkdnpaaEuN
import Derived.Test.YtmikhkolbkdnpaaMvA
import Derived.Deep.RegionHeld3
import Derived.Deep.DeepCutAuto
import Derived.Deep.CutBlock
import Derived.Deep.AppendLies
namespace Go.Proofs.Ytmikhkolbkdnpaa
open Go.RowKit
open Go.Maps (Keyed)
set_option linter.unusedVariables false

abbrev K2 := Int × Int
def kv2 (x : K2) : Value := .agg #[.int .i64 x.1, .int .i64 x.2]
def kl2 (x : K2) : Lit := .string (keyBytes [.int .i64 x.1, .int .i64 x.2])
def wf2 (x : K2) : Prop := (Lit.int .i64 x.1).wf = true ∧ (Lit.int .i64 x.2).wf = true
theorem law2 : Keyed Try.prog 91 := Keyed.of_law (deep_law_laid laidOutP (m := 2) (by omega) (of_decide_eq_true (by kernel_rfl)) (by kernel_rfl) (by kernel_rfl))
theorem keyLits_two {P : Program} {k e : TypeId} (hk : P.underlying k = some (.array 2 e)) (he : P.underlying e = some (.int .i64)) (ck : P.cellsOf k = 2) (ce : P.cellsOf e = 1) (d : Nat) {x : K2} (h : wf2 x) :
    P.keyLits (d + 2) k [.int .i64 x.1, .int .i64 x.2] = some [.int .i64 x.1, .int .i64 x.2] := by
  obtain ⟨h1, h2⟩ := h
  have hr : List.range 2 = [0, 1] := rfl
  unfold Program.keyLits
  simp [hk, ck, ce, hr, keyLits_int he d h1, keyLits_int he d h2]
set_option maxRecDepth 1000000 in
theorem key_of2 {x : K2} (h : wf2 x) : keyOf Try.prog 91 (kv2 x) = some (kl2 x) := by
  have hc : (kv2 x).cells.toList = [.int .i64 x.1, .int .i64 x.2] := by simp [kv2, Value.cells]
  obtain ⟨m, hm⟩ : ∃ m, Try.prog.types.size = m + 1 := ⟨Try.prog.types.size - 1, by have h0 : 0 < Try.prog.types.size := of_decide_eq_true (by kernel_rfl); omega⟩
  have hf : (kv2 x).formed Try.prog 91 = true := by
    simp [kv2, Value.formed, Try.underlying91]
    exact (by kernel_rfl : 2 = Try.prog.cellsOf 91)
  have ht : Try.prog.keyType 91 = true := by kernel_rfl
  unfold keyOf
  rw [Try.underlying91]
  simp only [ht, hf, Bool.and_self, if_true, hc]
  rw [hm, keyLits_two Try.underlying91 Try.underlying3 (by kernel_rfl) (by kernel_rfl) m h]
  rfl
theorem kl_inj2 {x y : K2} (hx : wf2 x) (hy : wf2 y) (h : kl2 x = kl2 y) : x = y := by
  have e := law2.inj (key_of2 hx) (by rw [h]; exact key_of2 hy)
  obtain ⟨a, b⟩ := x
  obtain ⟨a', b'⟩ := y
  simp [kv2] at e
  obtain ⟨rfl, rfl⟩ := e
  rfl
theorem kl_key2 (x : K2) : WideAt.IsKeyLit (kl2 x) := trivial
/-- The datum holds the places of the keys of a list. -/
structure MD2 {H : Type} (D : DataW H) (K : List K2) : Prop where
  im : Maps.IsMap D
  has : ∀ x, wf2 x → Maps.has D (kl2 x) = K.contains x
  at_ : ∀ x, wf2 x → x ∈ K → D.atKey (kl2 x) (.lit (.int .i64 0)) = .lit (.int .i64 (K.idxOf x : Nat))
theorem MD2.nil {H : Type} : MD2 (.map [] : DataW H) [] := ⟨⟨[], rfl⟩, fun x hx => by rfl, fun x _ h => by simp at h⟩
theorem MD2.put {H : Type} {D : DataW H} {K : List K2} (h : MD2 D K) {x : K2} (hx : wf2 x) (hn : K.contains x = false) : MD2 (D.put (kl2 x) (.lit (.int .i64 (K.length : Nat)))) (K ++ [x]) := by
  have hne : x ∉ K := by simpa using hn
  refine ⟨?_, fun y hy => ?_, fun y hy hm => ?_⟩
  · obtain ⟨es, rfl⟩ := h.im
    exact ⟨_, rfl⟩
  · by_cases e : y = x
    · subst e
      rw [Maps.has_put_same h.im (kl_key2 y)]
      simp
    · have hk : kl2 y ≠ kl2 x := fun k => e (kl_inj2 hy hx k)
      rw [Maps.has_put_other hk, h.has y hy]
      simp [e]
  · by_cases e : y = x
    · subst e
      rw [Maps.atKey_put_same h.im (kl_key2 y)]
      rw [List.idxOf_append, if_neg hne]
      simp
    · have hk : kl2 y ≠ kl2 x := fun k => e (kl_inj2 hy hx k)
      have hm' : y ∈ K := by simpa [e] using hm
      rw [Maps.atKey_put_other hk, h.at_ y hy hm', List.idxOf_append, if_pos hm']
end Go.Proofs.Ytmikhkolbkdnpaa
namespace Go.Proofs.Ytmikhkolbkdnpaa
open Go.RowKit
open Go.Maps (Keyed)
set_option linter.unusedVariables false
set_option linter.unusedSimpArgs false

theorem infoK2 : (Try.prog.info? 91).map (fun i => (i.zero, i.size, i.bytes)) = some (some (.agg #[.int .i64 0, .int .i64 0]), 2, 16) := by kernel_rfl
abbrev IsMpV (w : World) (b n : Nat) (D : DataW Unit) : Prop := w.ownsMap Try.prog 91 (plainElem Try.prog 3) b n D
theorem cell_two_newV (w : World) (a b : Value) (t : TypeId) : ∀ j u, [a, b][j]? = some u → (w.alloc (.cells #[a, b] t)).cell? ((⟨w.heap.size, 0, none⟩ : Addr).add j) = some u := by
  intro j u hj
  match j, hj with
  | 0, hj => simp at hj; subst hj; simp [Addr.add]
  | 1, hj => simp at hj; subst hj; simp [Addr.add]
set_option maxHeartbeats 1600000 in
set_option maxRecDepth 1000000 in
theorem pvisit_old {a b : Int} {bm bl bM cnt : Nat} {D : DataW Unit} {K : List K2} (w : World)
    (hM : w.heap[bm]? = some (.cells #[.map (some bM)] 93 (0, 0)))
    (hO : IsMpV w bM cnt D) (hD : MD2 D K) (hx : wf2 (a, b)) (hc : K.contains (a, b) = true) :
    Calls Try.prog 63 #[.agg #[.int .i64 a, .int .i64 b], .pointer (some ⟨bm, 0, none⟩), .pointer (some ⟨bl, 0, none⟩)] w fun e w' => e = .returned (.int .i64 (K.idxOf (a, b) : Nat)) ∧ w' = w.alloc (.cells #[.int .i64 a, .int .i64 b] 91) := by
  have HO : Hid (IsMpV (w.alloc (.cells #[.int .i64 a, .int .i64 b] 91)) bM cnt D) := hO.alloc _
  have HH : Hid (Maps.has D (kl2 (a, b)) = true) := by show _ = _; rw [hD.has _ hx, hc]
  have HA : Hid (D.atKey (kl2 (a, b)) (.lit (.int .i64 0)) = .lit (.int .i64 (K.idxOf (a, b) : Nat))) := by show _ = _; rw [hD.at_ _ hx (by simpa using hc)]
  have m1 := (box1 hM).1
  have hml := lt_of_block hM
  have HK := Lib.hid (key_of2 hx)
  clear hO hM hD hc hx
  go_enter Try.func63, Try.ntmps63
  go_wp2_with (first
    | (at_lookup; refine wpList_lookup_own_ok_int _ rfl _ _ 93 rfl 91 3 .i64 law2 Try.underlying93 Try.underlying3 (zeroIntC _) bM cnt D rfl HO.out (kv2 (a, b)) (kl2 (a, b)) rfl HK.out ?_; intro v hat hwc; rw [HH.out]; have HV := Lib.hid (hat.symm.trans HA.out); clear hat hwc)
    | fail)
  obtain rfl : v = (K.idxOf (a, b) : Nat) := by
    have := HV.out
    simpa using this
  go_wp2
  go_ret
  exact ⟨rfl, rfl⟩
/-- What a new pair leaves. -/
structure PvN (w w' : World) (base bl bM cnt : Nat) (D : DataW Unit) (v v' : Value) (m : Nat) (xs : List Value) : Prop where
  l : w'.heap[bl]? = some (.cells #[v'] 92 (0, 0))
  own : IsMpV w' bM cnt D
  row : w'.ownsRow base 91 2 v' m xs
  at_ : v'.ownBlock = v.ownBlock ∨ ∃ g, v'.ownBlock = some g ∧ w.heap.size ≤ g
  size : w.heap.size ≤ w'.heap.size
  os : w'.os = w.os
  tape : w'.tape = w.tape
  out : w'.output = w.output
  rest : ∀ i, i < w.heap.size → i ≠ bM → i ≠ bl → some i ≠ v.ownBlock → w'.heap[i]? = w.heap[i]?
set_option maxHeartbeats 3200000 in
set_option maxRecDepth 1000000 in
theorem pvisit_new {a b : Int} {base bm bl bM cnt : Nat} {D : DataW Unit} {K : List K2} {v : Value} {xs : List Value} (w : World)
    (hM : w.heap[bm]? = some (.cells #[.map (some bM)] 93 (0, 0))) (hL : w.heap[bl]? = some (.cells #[v] 92 (0, 0))) (hR : w.ownsRow base 91 2 v K.length xs) (hK : K.length ≤ 2000000) (hcnt : cnt ≤ 2000000) (hbase : base ≤ w.heap.size)
    (hO : IsMpV w bM cnt D) (hD : MD2 D K) (hx : wf2 (a, b)) (hc : K.contains (a, b) = false) :
    Calls Try.prog 63 #[.agg #[.int .i64 a, .int .i64 b], .pointer (some ⟨bm, 0, none⟩), .pointer (some ⟨bl, 0, none⟩)] w fun e w' => e = .returned (.int .i64 (K.length : Nat)) ∧
      ∃ v', PvN w w' base bl bM (cnt + 1) (D.put (kl2 (a, b)) (.lit (.int .i64 (K.length : Nat)))) v v' (K.length + 1) (xs ++ [.int .i64 a, .int .i64 b]) := by
  obtain ⟨la, lc, rfl⟩ : ∃ la lc, v = .slice la K.length lc := by
    rcases hR.2 with ⟨h, h'⟩ | ⟨g, cap, cur, h, _⟩
    · exact ⟨none, 0, by rw [h, h']⟩
    · exact ⟨_, _, h⟩
  obtain ⟨i1, hi1, z0, z1, z2⟩ := info_parts infoK2
  have HO : Hid (IsMpV (w.alloc (.cells #[.int .i64 a, .int .i64 b] 91)) bM cnt D) := hO.alloc _
  have HH : Hid (Maps.has D (kl2 (a, b)) = false) := by show _ = _; rw [hD.has _ hx, hc]
  have HM := Lib.hid hM
  have HL := Lib.hid hL
  have HR := Lib.hid hR
  have m1 := (box1 hM).1
  have m2 := (box1 hL).1
  have hml := lt_of_block hM
  have hll := lt_of_block hL
  have hMl := hO.lt
  have hNl := map_ne hO hL
  have hNm := map_ne hO hM
  have hlm : bl ≠ bm := by
    rintro rfl
    rw [hL] at hM
    simp at hM
  have HK := Lib.hid (key_of2 hx)
  have HX : Hid (w.heap.size = w.heap.size) := rfl
  clear hO hM hD hc hx hL hR
  go_enter Try.func63, Try.ntmps63
  go_wp2_with (first
    | (at_lookup; refine wpList_lookup_own_ok_int _ rfl _ _ 93 rfl 91 3 .i64 law2 Try.underlying93 Try.underlying3 (zeroIntC _) bM cnt D rfl HO.out (kv2 (a, b)) (kl2 (a, b)) rfl HK.out ?_; intro v hat hwc; rw [HH.out]; clear hat hwc)
    | (at_mapUpdate; refine wpList_mapUpdate_own _ rfl _ _ _ 93 rfl 91 3 law2 Try.underlying93 _ bM cnt D rfl HO.out (by unfold maxLen; omega) (kv2 (a, b)) _ (kl2 (a, b)) rfl rfl HK.out (.lit (.int .i64 (K.length : Nat))) [] (plainElem_int Try.underlying3 (by simp [Lit.wf, IntKind.min, IntKind.max, IntKind.signed, IntKind.bits]; omega)) ?_; intro w3 hown3 hg3; have HO3 := Lib.hid hown3; have HG3 := Lib.hid hg3; have HL3 : Hid (w3.heap[bl]? = some (.cells #[.slice la K.length lc] 92 (0, 0))) := (hg3.block bl (by simp; omega) (by simp; omega)).trans (block_alloc HL.out _); have HF3 : Hid (w3.heap[w.heap.size]? = some (.cells #[.int .i64 a, .int .i64 b] 91 (0, 0))) := (hg3.block _ (by simp) (by simp; omega)).trans (heap_alloc_new w _); have HR3 : Hid (w3.ownsRow base 91 2 (.slice la K.length lc) K.length xs) := row_grownC HR.out HO.out hg3; have l3 := (box1 HL3.out).1; obtain ⟨⟨f1, f2⟩, _⟩ := two_of_block HF3.out; have hz3 := lt_of_block HF3.out; have hz4 := lt_of_block HL3.out; clear hown3 hg3)
    | (at_builtin; (refine wpList_append_own_at _ rfl _ _ 92 rfl base 91 i1 (.agg #[.int .i64 0, .int .i64 0]) 2 16 Try.underlying92 hi1 z0 z1 z2 rfl (by decide) _ _ _ rfl (HR3.out.alloc _) ⟨w3.heap.size, 0, none⟩ 1 1 [.int .i64 a, .int .i64 b] rfl rfl (cell_two_newV _ _ _ _) (fun x hx => by simp at hx; rcases hx with rfl | rfl <;> rfl) (by unfold maxLen; omega) (by omega) (by simp; omega) ?_); intro v' w4 hown4 hg4 hnil4 hat4; obtain ⟨A2, c2, rfl⟩ := own_len hown4; have HR4 := Lib.hid hown4; have HG4 : Hid ((w3.alloc (.cells #[.int .i64 a, .int .i64 b] 91)).grownBy w4 (Value.slice la K.length lc).ownBlock) := hg4; have HA4 : Hid ((Value.slice A2 (K.length + 1) c2).ownBlock = (Value.slice la K.length lc).ownBlock ∨ (Value.slice A2 (K.length + 1) c2).ownBlock = some (w3.alloc (.cells #[.int .i64 a, .int .i64 b] 91)).heap.size) := hat4; have HL4 : Hid (w4.heap[bl]? = some (.cells #[.slice la K.length lc] 92 (0, 0))) := (hg4.block bl (by simp; omega) (row_neC HR3.out HL3.out (by decide))).trans (block_alloc HL3.out _); have l4 := (box1 HL4.out).1; have hz5 := lt_of_block HL4.out; have f4' := (box1 HL4.out).2; clear hown4 hg4 hnil4 hat4)
    | fail)
  have s3 := HG3.out.size
  have s4 := HG4.out.size
  simp at s3 s4
  have e1 : some bM ≠ (Value.slice la K.length lc).ownBlock := fun k => by
    obtain ⟨_, cur, hc⟩ := row_lt HR3.out k.symm
    exact map_ne HO3.out hc rfl
  have e2 : w4.heap[bM]? = w3.heap[bM]? := (HG4.out.block bM (by simp; omega) e1).trans ((below1 w3 _).block bM (by omega))
  go_ret
  refine ⟨rfl, _, heap_setCell_same _ bl 0 #[_] _ _ HL4.out, World.ownsMap.setCell (map_keep HO3.out e2) (by simp; omega) _, row_keep HR4.out (fun g hg => set_ne rfl (fun k => ?_) _), ?_, ?_, ?_, ?_, ?_, fun i hi h1 h2 h3 => ?_⟩
  · subst k
    exact row_neC HR4.out HL4.out (by decide) hg.symm
  · rcases HA4.out with h | h
    · exact .inl h
    · exact .inr ⟨_, h, by simp; omega⟩
  · simp; omega
  · exact HG4.out.os.trans HG3.out.os
  · exact HG4.out.tape.trans HG3.out.tape
  · exact HG4.out.output.trans HG3.out.output
  · exact set_ne ((HG4.out.block i (by simp; omega) h3).trans (((below1 w3 _).block i (by omega)).trans ((HG3.out.block i (by simp; omega) (by simp; omega)).trans ((below1 w _).block i (by omega))))) h2 _
end Go.Proofs.Ytmikhkolbkdnpaa
namespace Go.Proofs.Ytmikhkolbkdnpaa
open Go.RowKit
open Go.Maps (Keyed)
set_option linter.unusedVariables false

/-- A list of pairs as cells. -/
def pfl : List K2 → List Value
  | [] => []
  | x :: l => .int .i64 x.1 :: .int .i64 x.2 :: pfl l
theorem pfl_app : ∀ (l : List K2) (x : K2), pfl (l ++ [x]) = pfl l ++ [.int .i64 x.1, .int .i64 x.2]
  | [], x => rfl
  | y :: l, x => by show _ :: _ :: pfl (l ++ [x]) = _; rw [pfl_app l x]; rfl
theorem pfl_at : ∀ (l : List K2) (k : Nat), k < l.length → (pfl l)[2 * k]? = some (.int .i64 (l.getD k (0, 0)).1) ∧ (pfl l)[2 * k + 1]? = some (.int .i64 (l.getD k (0, 0)).2)
  | [], k, h => by simp at h
  | y :: l, 0, h => ⟨rfl, rfl⟩
  | y :: l, k + 1, h => by
    have := pfl_at l k (by simp at h; omega)
    rw [show 2 * (k + 1) = 2 * k + 1 + 1 by omega]
    exact this
/-- What visit reads and writes: the map, the list. -/
structure PVS (w : World) (base bm bl bM : Nat) (K : List K2) (v : Value) : Prop where
  m : w.heap[bm]? = some (.cells #[.map (some bM)] 93 (0, 0))
  l : w.heap[bl]? = some (.cells #[v] 92 (0, 0))
  own : ∃ D, IsMpV w bM K.length D ∧ MD2 D K
  row : w.ownsRow base 91 2 v K.length (pfl K)
  bs : base ≤ w.heap.size
  len : K.length ≤ 2000000
/-- What visit leaves alone. -/
structure PFR (w w' : World) (bl bM : Nat) (v v' : Value) : Prop where
  at_ : v'.ownBlock = v.ownBlock ∨ ∃ g, v'.ownBlock = some g ∧ w.heap.size ≤ g
  grown : w.heap.size ≤ w'.heap.size
  os : w'.os = w.os
  tape : w'.tape = w.tape
  out : w'.output = w.output
  rest : ∀ i, i < w.heap.size → i ≠ bM → i ≠ bl → some i ≠ v.ownBlock → w'.heap[i]? = w.heap[i]?
section
variable {w w' : World} {base bm bl bM : Nat} {K : List K2} {v v' : Value}
theorem PVS.below (h : PVS w base bm bl bM K v) (hb : Below w.heap.size w w') : PVS w' base bm bl bM K v := by
  obtain ⟨D, h1, h2⟩ := h.own
  exact ⟨block_below h.m hb, block_below h.l hb, ⟨D, map_below h1 hb, h2⟩, row_below h.row hb, Nat.le_trans h.bs hb.size, h.len⟩
theorem PFR.of_below (hb : Below w.heap.size w w') : PFR w w' bl bM v v := ⟨.inl rfl, hb.size, hb.os, hb.tape, hb.output, fun i hi _ _ _ => hb.block i hi⟩
theorem PFR.below {B : Nat} (h : PFR w w' bl bM v v') (hl : B ≤ bl) (hM : B ≤ bM) (hr : w.ownsRow B 91 2 v K.length (pfl K)) (hB : B ≤ w.heap.size) : Below B w w' :=
  ⟨h.os, h.tape, h.out, h.grown, fun i hi => h.rest i (by omega) (by omega) (by omega) fun e => by have := (row_lt hr e.symm).1; omega⟩
end
/-- The list of pairs behind a visit. -/
def pNext (K : List K2) (x : K2) : List K2 := if K.contains x = true then K else K ++ [x]
theorem pidx_next (K : List K2) (x : K2) : (pNext K x).idxOf x = if K.contains x = true then K.idxOf x else K.length := by
  unfold pNext
  by_cases h : K.contains x = true
  · rw [if_pos h, if_pos h]
  · rw [if_neg h, if_neg h, List.idxOf_append, if_neg (by simpa using h)]
    simp
theorem pvisit_any {a b : Int} {base bm bl bM : Nat} {K : List K2} {v : Value} (w : World) (h : PVS w base bm bl bM K v) (hl : K.length < 2000000) (hx : wf2 (a, b)) :
    Calls Try.prog 63 #[.agg #[.int .i64 a, .int .i64 b], .pointer (some ⟨bm, 0, none⟩), .pointer (some ⟨bl, 0, none⟩)] w fun e w' => ∃ v', e = .returned (.int .i64 ((pNext K (a, b)).idxOf (a, b) : Nat)) ∧
      PVS w' base bm bl bM (pNext K (a, b)) v' ∧ PFR w w' bl bM v v' := by
  obtain ⟨D, hO, hD⟩ := h.own
  rw [pidx_next]
  unfold pNext
  by_cases hc : K.contains (a, b) = true
  · simp only [if_pos hc]
    refine (pvisit_old w h.m hO hD hx hc).mono ?_
    rintro e w' ⟨rfl, rfl⟩
    have hb := below1 w (.cells #[.int .i64 a, .int .i64 b] 91)
    exact ⟨v, rfl, h.below hb, .of_below hb⟩
  · simp only [if_neg hc]
    have hc' : K.contains (a, b) = false := by simpa using hc
    refine (pvisit_new w h.m h.l h.row h.len h.len h.bs hO hD hx hc').mono ?_
    rintro e w' ⟨rfl, v', hV⟩
    have hr : PFR w w' bl bM v v' := ⟨hV.at_, hV.size, hV.os, hV.tape, hV.out, hV.rest⟩
    have cell : ∀ i (cs : Array Value) (t : TypeId), w.heap[i]? = some (.cells cs t (0, 0)) → i ≠ bl → t ≠ 91 → w'.heap[i]? = some (.cells cs t (0, 0)) := fun i cs t hi hil ht =>
      (hV.rest i (lt_of_block hi) (map_ne hO hi) hil (row_neC h.row hi ht)).trans hi
    have ml : bm ≠ bl := by
      rintro rfl
      have := h.m.symm.trans h.l
      simp at this
    refine ⟨v', rfl, ⟨cell _ _ _ h.m ml (by decide), hV.l, ⟨_, by rw [List.length_append]; exact hV.own, hD.put hx hc'⟩, by rw [List.length_append, pfl_app]; exact hV.row, Nat.le_trans h.bs hV.size, by rw [List.length_append]; simp; omega⟩, hr⟩
end Go.Proofs.Ytmikhkolbkdnpaa
namespace Go.Proofs.Ytmikhkolbkdnpaa
set_option linter.unusedVariables false

section
variable {g f g1 f1 φ : Nat → Nat} {n n1 : Nat}
/-- A map that commutes with both steps commutes with all powers. -/
theorem pwA_map (h : PAct g f n) (h1 : PAct g1 f1 n1) (hl : ∀ x, x < n → φ x < n1) (ef : ∀ x, x < n → φ (f x) = f1 (φ x)) {x : Nat} (hx : x < n) (e : Int) : φ (pwA f n x e) = pwA f1 n1 (φ x) e := by
  have up : ∀ k : Nat, φ (pwA f n x k) = pwA f1 n1 (φ x) k := fun k => by
    induction k with
    | zero => rw [show ((0 : Nat) : Int) = 0 from rfl, pwA_zero h hx, pwA_zero h1 (hl x hx)]
    | succ k ih =>
      rw [show ((k + 1 : Nat) : Int) = (k : Int) + 1 by omega, ← pwA_add h hx, ← pwA_add h1 (hl x hx), pwA_one h (pwA_lt h.fp hx _), pwA_one h1 (pwA_lt h1.fp (hl x hx) _), ef _ (pwA_lt h.fp hx _), ih]
  have down : ∀ k : Nat, φ (pwA f n x (-(k : Int))) = pwA f1 n1 (φ x) (-(k : Int)) := fun k => by
    induction k with
    | zero => exact up 0
    | succ k ih =>
      have a := pwA_add h hx (-((k + 1 : Nat) : Int)) 1
      have b := pwA_add h1 (hl x hx) (-((k + 1 : Nat) : Int)) 1
      rw [pwA_one h (pwA_lt h.fp hx _), show -((k + 1 : Nat) : Int) + 1 = -(k : Int) by omega] at a
      rw [pwA_one h1 (pwA_lt h1.fp (hl x hx) _), show -((k + 1 : Nat) : Int) + 1 = -(k : Int) by omega, ← ih, ← a, ef _ (pwA_lt h.fp hx _)] at b
      exact (h1.fp.inj _ _ (pwA_lt h1.fp (hl x hx) _) (hl _ (pwA_lt h.fp hx _)) b).symm
  rcases Int.le_total 0 e with h0 | h0
  · have := up e.toNat
    rwa [Int.toNat_of_nonneg h0] at this
  · have := down (-e).toNat
    rwa [Int.toNat_of_nonneg (by omega), Int.neg_neg] at this
theorem aw_map (h : PAct g f n) (h1 : PAct g1 f1 n1) (hl : ∀ x, x < n → φ x < n1) (eg : ∀ x, x < n → φ (g x) = g1 (φ x)) (ef : ∀ x, x < n → φ (f x) = f1 (φ x)) : ∀ (k : Nat) (m : M) (x : Nat), x < n → φ (aw g f n k m x) = aw g1 f1 n1 k m (φ x)
  | 0, m, x, hx => rfl
  | k + 1, m, x, hx => by
    unfold aw
    have p := fun e => pwA_map h h1 hl ef hx e
    have q := fun e => pwA_lt h.fp hx e
    by_cases hc : m.c = 0
    · rw [if_pos hc, if_pos hc]
      by_cases ha : m.a < 0
      · rw [if_pos ha, if_pos ha]
        show φ (g (g _)) = g1 (g1 _)
        rw [eg _ (h.gp.lt _ (q _)), eg _ (q _), p]
      · rw [if_neg ha, if_neg ha, p]
    · rw [if_neg hc, if_neg hc, aw_map h h1 hl eg ef k _ _ (h.gp.lt _ (q _)), eg _ (q _), p]
theorem aw_lt (h : PAct g f n) : ∀ (k : Nat) (m : M) (x : Nat), x < n → aw g f n k m x < n
  | 0, m, x, hx => hx
  | k + 1, m, x, hx => by
    unfold aw
    have q := fun e => pwA_lt h.fp hx e
    by_cases hc : m.c = 0
    · rw [if_pos hc]
      by_cases ha : m.a < 0
      · rw [if_pos ha]; exact h.gp.lt _ (h.gp.lt _ (q _))
      · rw [if_neg ha]; exact q _
    · rw [if_neg hc]; exact aw_lt h k _ _ (h.gp.lt _ (q _))
theorem av_ltP (h : PAct g f n) (m : M) {x : Nat} (hx : x < n) : av g f n m x < n := aw_lt h _ m x hx
/-- A map that commutes with both steps commutes with every matrix. -/
theorem av_map (h : PAct g f n) (h1 : PAct g1 f1 n1) (hl : ∀ x, x < n → φ x < n1) (eg : ∀ x, x < n → φ (g x) = g1 (φ x)) (ef : ∀ x, x < n → φ (f x) = f1 (φ x)) (m : M) {x : Nat} (hx : x < n) : φ (av g f n m x) = av g1 f1 n1 m (φ x) := aw_map h h1 hl eg ef _ m x hx
end

section
variable {g f : Nat → Nat} {n i : Nat}
/-- The number of points that can be reached from i, and their places. -/
def orbN (g f : Nat → Nat) (n i : Nat) : Nat := (bst g f i n).length
def plcR (g f : Nat → Nat) (n i : Nat) : Nat → Nat := plN (ordO g f n i) (orbN g f n i)
theorem orb_mem (k : Nat) (hk : k < orbN g f n i) : ordO g f n i k ∈ bst g f i n := getD_mem hk
theorem orb_inj (j k : Nat) (hj : j < orbN g f n i) (hk : k < orbN g f n i) (e : ordO g f n i j = ordO g f n i k) : j = k := by
  have hd := bst_nodup g f i n
  unfold orbN at hj hk
  unfold ordO at e
  rw [List.getD_eq_getElem?_getD, List.getD_eq_getElem?_getD, List.getElem?_eq_getElem hj, List.getElem?_eq_getElem hk] at e
  have hpw := List.pairwise_iff_getElem.1 hd
  have e' : (bst g f i n)[j] = (bst g f i n)[k] := e
  rcases Nat.lt_trichotomy j k with h1 | h1 | h1
  · exact absurd e' (hpw j k (by omega) (by omega) h1)
  · exact h1
  · exact absurd e'.symm (hpw k j (by omega) (by omega) h1)
theorem plcR_ord (k : Nat) (hk : k < orbN g f n i) : plcR g f n i (ordO g f n i k) = k := plN_at orb_inj _ (Nat.le_refl _) k hk
theorem orb_ex (x : Nat) (hx : x ∈ bst g f i n) : ∃ k, k < orbN g f n i ∧ ordO g f n i k = x := by
  obtain ⟨q, hq, e⟩ := List.mem_iff_getElem.1 hx
  refine ⟨q, hq, ?_⟩
  unfold ordO
  rw [List.getD_eq_getElem?_getD, List.getElem?_eq_getElem hq, ← e]; rfl
theorem plcR_lt (x : Nat) (hx : x ∈ bst g f i n) : plcR g f n i x < orbN g f n i := by
  obtain ⟨k, hk, rfl⟩ := orb_ex x hx
  rw [plcR_ord k hk]; exact hk
theorem ord_plcR (x : Nat) (hx : x ∈ bst g f i n) : ordO g f n i (plcR g f n i x) = x := by
  obtain ⟨k, hk, rfl⟩ := orb_ex x hx
  rw [plcR_ord k hk]
theorem orb_pos : 0 < orbN g f n i := bst_pos g f i n
theorem orb_first : ordO g f n i 0 = i := by
  obtain ⟨e, _⟩ := bst_get (g := g) (f := f) (i := i) n 0 (Nat.zero_le _) 0 (by simp [bst])
  unfold ordO; rw [e]; simp [bst]
/-- The lists of the orbit. -/
def rS (g f : Nat → Nat) (n i : Nat) : List Nat := (List.range (orbN g f n i)).map fun k => plcR g f n i (g (ordO g f n i k))
def rT (g f : Nat → Nat) (n i : Nat) : List Nat := (List.range (orbN g f n i)).map fun k => plcR g f n i (f (ordO g f n i k))
theorem rS_at (hg : Prm g n) (hf : Prm f n) (hi : i < n) (k : Nat) (hk : k < orbN g f n i) : fnz (iz (rS g f n i)) k < orbN g f n i ∧ ordO g f n i (fnz (iz (rS g f n i)) k) = g (ordO g f n i k) := by
  have hm := (bst_closed hg hf hi (orb_mem k hk)).1
  unfold rS
  rw [fnz_map hk]
  exact ⟨plcR_lt _ hm, ord_plcR _ hm⟩
theorem rT_at (hg : Prm g n) (hf : Prm f n) (hi : i < n) (k : Nat) (hk : k < orbN g f n i) : fnz (iz (rT g f n i)) k < orbN g f n i ∧ ordO g f n i (fnz (iz (rT g f n i)) k) = f (ordO g f n i k) := by
  have hm := (bst_closed hg hf hi (orb_mem k hk)).2
  unfold rT
  rw [fnz_map hk]
  exact ⟨plcR_lt _ hm, ord_plcR _ hm⟩
theorem ord_ltR (hg : Prm g n) (hf : Prm f n) (hi : i < n) (k : Nat) (hk : k < orbN g f n i) : ordO g f n i k < n := bst_lt hg hf hi n _ (orb_mem k hk)
/-- The orbit of a point is an action. -/
theorem orb_pact (hg : Prm g n) (hf : Prm f n) (hi : i < n) (zz : ∀ x, x < n → g (g (g (g x))) = x) (fc : ∀ x, x < n → f (g (g x)) = g (g (f x))) : PAct (fnz (iz (rS g f n i))) (fnz (iz (rT g f n i))) (orbN g f n i) := by
  have s := rS_at hg hf hi
  have t := rT_at hg hf hi
  have o := ord_ltR hg hf hi
  refine ⟨⟨fun k hk => (s k hk).1, fun j k hj hk e => ?_⟩, ⟨fun k hk => (t k hk).1, fun j k hj hk e => ?_⟩, orb_pos, fun k hk => ?_, fun k hk => rfl, fun k hk => ?_, fun Q q0 qg qf k hk => ?_⟩
  · exact orb_inj j k hj hk (hg.inj _ _ (o j hj) (o k hk) (by rw [← (s j hj).2, ← (s k hk).2, e]))
  · exact orb_inj j k hj hk (hf.inj _ _ (o j hj) (o k hk) (by rw [← (t j hj).2, ← (t k hk).2, e]))
  · have a := s k hk
    have b := s _ a.1
    have c := s _ b.1
    have d := s _ c.1
    exact orb_inj _ _ d.1 hk (by rw [d.2, c.2, b.2, a.2, zz _ (o k hk)])
  · have a := s k hk
    have b := s _ a.1
    have c := t _ b.1
    have a' := t k hk
    have b' := s _ a'.1
    have c' := s _ b'.1
    exact orb_inj _ _ c.1 c'.1 (by rw [c.2, b.2, a.2, c'.2, b'.2, a'.2, fc _ (o k hk)])
  · have hh := bst_alli hg hf hi (Q := fun y => y ∈ bst g f i n ∧ ∀ j, j < orbN g f n i → ordO g f n i j = y → Q j) ⟨by have := orb_mem (g := g) (f := f) (n := n) (i := i) 0 orb_pos; rwa [orb_first] at this, fun j hj e => by rw [orb_inj j 0 hj orb_pos (by rw [e, orb_first])]; exact q0⟩ (fun y hy hq => ?_) (fun y hy hq => ?_) n _ (orb_mem k hk)
    · exact hh.2 k hk rfl
    · refine ⟨(bst_closed hg hf hi hq.1).1, fun j hj e => ?_⟩
      obtain ⟨q, hq1, rfl⟩ := orb_ex y hq.1
      rw [orb_inj j _ hj (s q hq1).1 (by rw [e, (s q hq1).2])]
      exact qg q hq1 (hq.2 q hq1 rfl)
    · refine ⟨(bst_closed hg hf hi hq.1).2, fun j hj e => ?_⟩
      obtain ⟨q, hq1, rfl⟩ := orb_ex y hq.1
      rw [orb_inj j _ hj (t q hq1).1 (by rw [e, (t q hq1).2])]
      exact qf q hq1 (hq.2 q hq1 rfl)
end

/-- Both steps at once, on pairs of points written as one number. -/
def eG (g g' : Nat → Nat) (m p : Nat) : Nat := g (p / m) * m + g' (p % m)
section
variable {g g' : Nat → Nat} {n m : Nat}
theorem two_div {a b : Nat} (hb : b < m) : (a * m + b) / m = a := by
  rw [Nat.add_comm, Nat.add_mul_div_right _ _ (by omega), Nat.div_eq_of_lt hb]; omega
theorem two_mod {a b : Nat} (hb : b < m) : (a * m + b) % m = b := by
  rw [Nat.add_comm, Nat.add_mul_mod_self_right, Nat.mod_eq_of_lt hb]
theorem two_lt {a b : Nat} (ha : a < n) (hb : b < m) : a * m + b < n * m := by
  have := Nat.mul_le_mul_right m (show a + 1 ≤ n by omega)
  rw [Nat.add_mul] at this; omega
theorem fst_lt {p : Nat} (hp : p < n * m) : p / m < n := Nat.div_lt_of_lt_mul (by rwa [Nat.mul_comm] at hp)
theorem snd_lt {p : Nat} (hp : p < n * m) : p % m < m := Nat.mod_lt _ (Nat.pos_of_ne_zero fun h => by rw [h] at hp; simp at hp)
theorem two_ext {p q : Nat} (h1 : p / m = q / m) (h2 : p % m = q % m) : p = q := by
  rw [← Nat.div_add_mod p m, ← Nat.div_add_mod q m, h1, h2]
theorem eG_fst (hg' : Prm g' m) {p : Nat} (hp : p < n * m) : eG g g' m p / m = g (p / m) := two_div (hg'.lt _ (snd_lt hp))
theorem eG_snd (hg' : Prm g' m) {p : Nat} (hp : p < n * m) : eG g g' m p % m = g' (p % m) := two_mod (hg'.lt _ (snd_lt hp))
theorem eG_prm (hg : Prm g n) (hg' : Prm g' m) : Prm (eG g g' m) (n * m) := by
  refine ⟨fun p hp => two_lt (hg.lt _ (fst_lt hp)) (hg'.lt _ (snd_lt hp)), fun p q hp hq e => ?_⟩
  refine two_ext (hg.inj _ _ (fst_lt hp) (fst_lt hq) ?_) (hg'.inj _ _ (snd_lt hp) (snd_lt hq) ?_)
  · rw [← eG_fst (g := g) hg' hp, ← eG_fst (g := g) hg' hq, e]
  · rw [← eG_snd (g := g) hg' hp, ← eG_snd (g := g) hg' hq, e]
end

section
variable {g f g' f' : Nat → Nat} {n m : Nat}
theorem two_pact (h : PAct g f n) (h' : PAct g' f' m) : PAct (fnz (iz (rS (eG g g' m) (eG f f' m) (n * m) 0))) (fnz (iz (rT (eG g g' m) (eG f f' m) (n * m) 0))) (orbN (eG g g' m) (eG f f' m) (n * m) 0) := by
  have hG := eG_prm h.gp h'.gp
  have hF := eG_prm h.fp h'.fp
  refine orb_pact hG hF (Nat.mul_pos h.pos h'.pos) (fun x hx => ?_) (fun x hx => ?_)
  · have a := hG.lt x hx
    have b := hG.lt _ a
    have c := hG.lt _ b
    refine two_ext (m := m) ?_ ?_
    · rw [eG_fst h'.gp c, eG_fst h'.gp b, eG_fst h'.gp a, eG_fst h'.gp hx, h.zz _ (fst_lt hx)]
    · rw [eG_snd h'.gp c, eG_snd h'.gp b, eG_snd h'.gp a, eG_snd h'.gp hx, h'.zz _ (snd_lt hx)]
  · have a := hG.lt x hx
    have b := hG.lt _ a
    have a' := hF.lt x hx
    have b' := hG.lt _ a'
    refine two_ext (m := m) ?_ ?_
    · rw [eG_fst h'.fp b, eG_fst h'.gp a, eG_fst h'.gp hx, eG_fst h'.gp b', eG_fst h'.gp a', eG_fst h'.fp hx, h.fc _ (fst_lt hx)]
    · rw [eG_snd h'.fp b, eG_snd h'.gp a, eG_snd h'.gp hx, eG_snd h'.gp b', eG_snd h'.gp a', eG_snd h'.fp hx, h'.fc _ (snd_lt hx)]
/-- A matrix fixes the first pair if and only if it fixes both first points. -/
theorem two_fix (h : PAct g f n) (h' : PAct g' f' m) (x : M) :
    av (fnz (iz (rS (eG g g' m) (eG f f' m) (n * m) 0))) (fnz (iz (rT (eG g g' m) (eG f f' m) (n * m) 0))) (orbN (eG g g' m) (eG f f' m) (n * m) 0) x 0 = 0 ↔ av g f n x 0 = 0 ∧ av g' f' m x 0 = 0 := by
  have hP := two_pact h h'
  have hG := eG_prm h.gp h'.gp
  have hF := eG_prm h.fp h'.fp
  have h0 := Nat.mul_pos h.pos h'.pos
  have o := ord_ltR hG hF h0
  have s := rS_at hG hF h0
  have t := rT_at hG hF h0
  have a := av_map (φ := fun k => ordO (eG g g' m) (eG f f' m) (n * m) 0 k / m) hP h (fun k hk => fst_lt (o k hk)) (fun k hk => by show _ / m = g (_ / m); rw [(s k hk).2, eG_fst h'.gp (o k hk)]) (fun k hk => by show _ / m = f (_ / m); rw [(t k hk).2, eG_fst h'.fp (o k hk)]) x orb_pos
  have b := av_map (φ := fun k => ordO (eG g g' m) (eG f f' m) (n * m) 0 k % m) hP h' (fun k hk => snd_lt (o k hk)) (fun k hk => by show _ % m = g' (_ % m); rw [(s k hk).2, eG_snd h'.gp (o k hk)]) (fun k hk => by show _ % m = f' (_ % m); rw [(t k hk).2, eG_snd h'.fp (o k hk)]) x orb_pos
  simp only [orb_first, Nat.zero_div, Nat.zero_mod] at a b
  rw [← a, ← b]
  constructor
  · intro e
    rw [e, orb_first]
    exact ⟨Nat.zero_div _, Nat.zero_mod _⟩
  · rintro ⟨e1, e2⟩
    have hl := av_ltP hP x orb_pos
    exact orb_inj _ _ hl orb_pos (by rw [orb_first]; exact two_ext (m := m) (by rw [e1, Nat.zero_div]) (by rw [e2, Nat.zero_mod]))
/-- Where the second point is a map of the first, there are at most n pairs. -/
theorem two_graph (h : PAct g f n) (h' : PAct g' f' m) {φ : Nat → Nat} (p0 : φ 0 = 0) (pg : ∀ x, x < n → φ (g x) = g' (φ x)) (pf : ∀ x, x < n → φ (f x) = f' (φ x)) : orbN (eG g g' m) (eG f f' m) (n * m) 0 ≤ n := by
  have hG := eG_prm h.gp h'.gp
  have hF := eG_prm h.fp h'.fp
  have h0 := Nat.mul_pos h.pos h'.pos
  have hq := bst_alli hG hF h0 (Q := fun p => p % m = φ (p / m)) (by rw [Nat.zero_mod, Nat.zero_div, p0]) (fun p hp e => by rw [eG_snd h'.gp hp, eG_fst h'.gp hp, pg _ (fst_lt hp), e]) (fun p hp e => by rw [eG_snd h'.fp hp, eG_fst h'.fp hp, pf _ (fst_lt hp), e]) (n * m)
  have hn : ((bst (eG g g' m) (eG f f' m) 0 (n * m)).map (· / m)).Nodup := nodup_map_on (bst_nodup _ _ _ _) fun x hx y hy e => two_ext (m := m) e (by rw [hq x hx, hq y hy, e])
  have := List.Nodup.length_le_of_subset (l₁ := (bst (eG g g' m) (eG f f' m) 0 (n * m)).map (· / m)) (l₂ := List.range n) hn fun x hx => by
    obtain ⟨p, hp, rfl⟩ := List.mem_map.1 hx
    exact List.mem_range.2 (fst_lt (bst_lt hG hF h0 _ p hp))
  simpa [orbN] using this
end
section
variable {S T S' T' : List Int}
/-- The lists of the intersection's action. -/
def xS (S T S' T' : List Int) : List Int := iz (rS (eG (fnz S) (fnz S') S'.length) (eG (fnz T) (fnz T') S'.length) (S.length * S'.length) 0)
def xT (S T S' T' : List Int) : List Int := iz (rT (eG (fnz S) (fnz S') S'.length) (eG (fnz T) (fnz T') S'.length) (S.length * S'.length) 0)
def xN (S T S' T' : List Int) : Nat := orbN (eG (fnz S) (fnz S') S'.length) (eG (fnz T) (fnz T') S'.length) (S.length * S'.length) 0
theorem xS_len : (xS S T S' T').length = xN S T S' T' := by unfold xS xN; rw [iz_len]; unfold rS; simp
theorem xT_len : (xT S T S' T').length = xN S T S' T' := by unfold xT xN; rw [iz_len]; unfold rT; simp
/-- The orbit of the two first points is a coset action, if it is small enough. -/
theorem x_act (h : Act2 S T) (h' : Act2 S' T') (hl : xN S T S' T' ≤ 1152) : Act2 (xS S T S' T') (xT S T S' T') := by
  have hA := pact_of h
  have hB := pact_of h'
  have hP := two_pact hA hB
  have hG := eG_prm hA.gp hB.gp
  have hF := eG_prm hA.fp hB.fp
  have h0 := Nat.mul_pos hA.pos hB.pos
  have o := ord_ltR hG hF h0
  have s := rS_at hG hF h0
  have t := rT_at hG hF h0
  refine ⟨by rw [xS_len]; exact orb_pos, by rw [xS_len]; exact hl, by rw [xS_len, xT_len], okP_of ?_, okP_of ?_, ?_, ?_⟩
  · exact ⟨fun k hk => plcR_lt _ (bst_closed hG hF h0 (orb_mem k hk)).1, fun j k hj hk e => hP.gp.inj j k hj hk (by unfold rS; rw [fnz_map hj, fnz_map hk]; exact e)⟩
  · exact ⟨fun k hk => plcR_lt _ (bst_closed hG hF h0 (orb_mem k hk)).2, fun j k hj hk e => hP.fp.inj j k hj hk (by unfold rT; rw [fnz_map hj, fnz_map hk]; exact e)⟩
  · rw [xS_len]
    intro j hj
    have hj' : j < orbN (eG (fnz S) (fnz S') S'.length) (eG (fnz T) (fnz T') S'.length) (S.length * S'.length) 0 := hj
    refine ⟨hP.zz j hj, ?_⟩
    have a1 := s j hj'
    have a2 := t _ a1.1
    have a3 := s _ a2.1
    have a4 := t _ a3.1
    have a5 := s _ a4.1
    have a6 := t _ a5.1
    have b2 := s _ a1.1
    have k1 := hG.lt _ (o j hj')
    have k2 := hF.lt _ k1
    have k3 := hG.lt _ k2
    have k4 := hF.lt _ k3
    have k5 := hG.lt _ k4
    refine orb_inj _ _ a6.1 b2.1 ?_
    unfold xS xT
    rw [a6.2, a5.2, a4.2, a3.2, a2.2, b2.2, a1.2]
    refine two_ext (m := S'.length) ?_ ?_
    · rw [eG_fst hB.fp k5, eG_fst hB.gp k4, eG_fst hB.fp k3, eG_fst hB.gp k2, eG_fst hB.fp k1, eG_fst hB.gp (o j hj'), eG_fst hB.gp k1, eG_fst hB.gp (o j hj')]
      exact (h.rel _ (fst_lt (o j hj'))).2
    · rw [eG_snd hB.fp k5, eG_snd hB.gp k4, eG_snd hB.fp k3, eG_snd hB.gp k2, eG_snd hB.fp k1, eG_snd hB.gp (o j hj'), eG_snd hB.gp k1, eG_snd hB.gp (o j hj')]
      exact (h'.rel _ (snd_lt (o j hj'))).2
  · rw [xS_len]; exact bst_full hP hP.pos
end
/-- A search within a limit: it goes beyond it in some round if and only if the whole search does. -/
theorem bst_over {g f : Nat → Nat} {n i : Nat} (hg : Prm g n) (hf : Prm f n) (hi : i < n) {k lim : Nat} (hk : k < (bst g f i k).length) (h : lim < (bst g f i (k + 1)).length) : lim < orbN g f n i := by
  have hle := bst_le hg hf hi k
  have hkn : k + 1 ≤ n := by omega
  obtain ⟨_, b⟩ := bst_get (g := g) (f := f) (i := i) n (k + 1) hkn lim h
  exact b
theorem bst_done {g f : Nat → Nat} {n i : Nat} (hg : Prm g n) (hf : Prm f n) (hi : i < n) {k : Nat} (hk : (bst g f i k).length ≤ k) : bst g f i n = bst g f i k := by
  rcases Nat.le_total k n with h | h
  · exact bst_stay hk n h
  · have := bst_stay (g := g) (f := f) (i := i) (k := n) (bst_le hg hf hi n) k h
    exact this.symm
end Go.Proofs.Ytmikhkolbkdnpaa
namespace Go.Proofs.Ytmikhkolbkdnpaa
set_option linter.unusedVariables false

/-- The pair that a number stands for. -/
def dec (m p : Nat) : K2 := (((p / m : Nat) : Int), ((p % m : Nat) : Int))
theorem dec_inj {m p q : Nat} (h : dec m p = dec m q) : p = q := by
  have h1 := congrArg Prod.fst h
  have h2 := congrArg Prod.snd h
  simp only [dec] at h1 h2
  exact two_ext (m := m) (by omega) (by omega)
theorem dec_mem {m : Nat} {L : List Nat} {p : Nat} : dec m p ∈ L.map (dec m) ↔ p ∈ L := by
  constructor
  · intro h
    obtain ⟨q, hq, e⟩ := List.mem_map.1 h
    rw [← dec_inj e]; exact hq
  · exact fun h => List.mem_map.2 ⟨p, h, rfl⟩
theorem next_dec {m : Nat} {L : List Nat} {p : Nat} : pNext (L.map (dec m)) (dec m p) = (vis L p).map (dec m) := by
  unfold pNext vis
  by_cases h : p ∈ L
  · rw [if_pos (by simpa using dec_mem.2 h), if_pos (by simpa using h)]
  · rw [if_neg (by simpa using fun q hq e => h (by rw [← dec_inj e]; exact hq)), if_neg (by simpa using h)]
    simp
theorem idx_dec {m p : Nat} : ∀ L : List Nat, (L.map (dec m)).idxOf (dec m p) = L.idxOf p
  | [] => rfl
  | q :: L => by
    have e : (dec m q == dec m p) = (q == p) := by
      by_cases h : q = p
      · rw [h]; simp
      · have h' : dec m q ≠ dec m p := fun e => h (dec_inj e)
        rw [beq_eq_false_iff_ne.2 h, beq_eq_false_iff_ne.2 h']
    rw [List.map_cons, List.idxOf_cons, List.idxOf_cons, idx_dec L, e]
theorem vis_idx {L : List Nat} {p x : Nat} (h : p ∈ L) : (vis L x).idxOf p = L.idxOf p := by
  unfold vis
  split
  · rfl
  · rw [List.idxOf_append, if_pos h]
theorem idxOf_at : ∀ {L : List Nat} {p : Nat}, p ∈ L → L.idxOf p < L.length ∧ L.getD (L.idxOf p) 0 = p := by
  intro L p h
  have hl := List.idxOf_lt_length_iff.2 h
  refine ⟨hl, ?_⟩
  rw [List.getD_eq_getElem?_getD, List.getElem?_eq_getElem hl]
  simp
section
variable {g f : Nat → Nat} {n i : Nat}
/-- The place in an early list is the place in the whole. -/
theorem idx_plc {k p : Nat} (hk : k ≤ n) (hp : p ∈ bst g f i k) : (bst g f i k).idxOf p = plcR g f n i p := by
  obtain ⟨h1, h2⟩ := idxOf_at hp
  obtain ⟨e, hl⟩ := bst_get (g := g) (f := f) (i := i) n k hk _ h1
  have ho : ordO g f n i ((bst g f i k).idxOf p) = p := e.trans h2
  have := plcR_ord (g := g) (f := f) (n := n) (i := i) _ hl
  rw [ho] at this
  exact this.symm
theorem rS_len : (rS g f n i).length = orbN g f n i := by unfold rS; simp
theorem rT_len : (rT g f n i).length = orbN g f n i := by unfold rT; simp
theorem rS_take {k : Nat} (hk : k < orbN g f n i) : (rS g f n i).take (k + 1) = (rS g f n i).take k ++ [plcR g f n i (g (ordO g f n i k))] := by
  rw [List.take_add_one, List.getElem?_eq_getElem (by rw [rS_len]; exact hk)]
  unfold rS; simp
theorem rT_take {k : Nat} (hk : k < orbN g f n i) : (rT g f n i).take (k + 1) = (rT g f n i).take k ++ [plcR g f n i (f (ordO g f n i k))] := by
  rw [List.take_add_one, List.getElem?_eq_getElem (by rw [rT_len]; exact hk)]
  unfold rT; simp
/-- One round: the point that is read, and the two places that are put down. -/
theorem round_at (hg : Prm g n) (hf : Prm f n) (hi : i < n) {k : Nat} (hk : k < (bst g f i k).length) :
    k < orbN g f n i ∧ (bst g f i k).getD k 0 = ordO g f n i k ∧ (vis (bst g f i k) (g ((bst g f i k).getD k 0))).idxOf (g ((bst g f i k).getD k 0)) = plcR g f n i (g (ordO g f n i k)) ∧
      (bst g f i (k + 1)).idxOf (f ((bst g f i k).getD k 0)) = plcR g f n i (f (ordO g f n i k)) := by
  have hle := bst_le hg hf hi k
  obtain ⟨e, hl⟩ := bst_get (g := g) (f := f) (i := i) n k (by omega) k hk
  have e' : (bst g f i k).getD k 0 = ordO g f n i k := e.symm
  have hs := bst_step hk
  have m1 : g ((bst g f i k).getD k 0) ∈ vis (bst g f i k) (g ((bst g f i k).getD k 0)) := vis_mem.2 (.inr rfl)
  have m2 : f ((bst g f i k).getD k 0) ∈ bst g f i (k + 1) := by rw [hs]; exact vis_mem.2 (.inr rfl)
  have m3 : g ((bst g f i k).getD k 0) ∈ bst g f i (k + 1) := by rw [hs]; exact vis_mem.2 (.inl m1)
  refine ⟨hl, e', ?_, ?_⟩
  · rw [← e', ← idx_plc (n := n) (k := k + 1) (by omega) m3, hs]
    exact (vis_idx m1).symm
  · rw [← e']
    exact idx_plc (n := n) (by omega) m2
end
end Go.Proofs.Ytmikhkolbkdnpaa
namespace Go.Proofs.Ytmikhkolbkdnpaa
set_option linter.unusedVariables false

theorem getD_dec {m i : Nat} {L : List Nat} (h : i < L.length) : (L.map (dec m)).getD i (0, 0) = dec m (L.getD i 0) := by
  rw [List.getD_eq_getElem?_getD, List.getD_eq_getElem?_getD, List.getElem?_eq_getElem h, List.getElem?_eq_getElem (by simpa using h)]
  simp
section
variable {g f g' f' : Nat → Nat} {n m i : Nat}
theorem dec_eG (hg' : Prm g' m) {p : Nat} (hp : p < n * m) : dec m (eG g g' m p) = (((g (p / m) : Nat) : Int), ((g' (p % m) : Nat) : Int)) := by
  unfold dec
  rw [eG_fst hg' hp, eG_snd hg' hp]
/-- What one round reads and puts down. -/
theorem iround (hg : Prm g n) (hf : Prm f n) (hg' : Prm g' m) (hf' : Prm f' m) (h0 : 0 < n * m) (hi : i < (bst (eG g g' m) (eG f f' m) 0 i).length) :
    ∃ a b x y, a < n ∧ b < m ∧ i < orbN (eG g g' m) (eG f f' m) (n * m) 0 ∧ ((bst (eG g g' m) (eG f f' m) 0 i).map (dec m)).getD i (0, 0) = (((a : Nat) : Int), ((b : Nat) : Int)) ∧
      pNext (pNext ((bst (eG g g' m) (eG f f' m) 0 i).map (dec m)) (((g a : Nat) : Int), ((g' b : Nat) : Int))) (((f a : Nat) : Int), ((f' b : Nat) : Int)) = (bst (eG g g' m) (eG f f' m) 0 (i + 1)).map (dec m) ∧
      (pNext ((bst (eG g g' m) (eG f f' m) 0 i).map (dec m)) (((g a : Nat) : Int), ((g' b : Nat) : Int))).idxOf (((g a : Nat) : Int), ((g' b : Nat) : Int)) = x ∧
      (pNext (pNext ((bst (eG g g' m) (eG f f' m) 0 i).map (dec m)) (((g a : Nat) : Int), ((g' b : Nat) : Int))) (((f a : Nat) : Int), ((f' b : Nat) : Int))).idxOf (((f a : Nat) : Int), ((f' b : Nat) : Int)) = y ∧
      (rS (eG g g' m) (eG f f' m) (n * m) 0).take (i + 1) = (rS (eG g g' m) (eG f f' m) (n * m) 0).take i ++ [x] ∧ (rT (eG g g' m) (eG f f' m) (n * m) 0).take (i + 1) = (rT (eG g g' m) (eG f f' m) (n * m) 0).take i ++ [y] := by
  have hG := eG_prm hg hg'
  have hF := eG_prm hf hf'
  obtain ⟨r1, r2, r3, r4⟩ := round_at hG hF h0 hi
  have hp := ord_ltR hG hF h0 i r1
  have e1 := getD_dec (m := m) hi
  rw [r2] at e1 r3 r4
  have hs := bst_step hi
  rw [r2] at hs
  refine ⟨ordO (eG g g' m) (eG f f' m) (n * m) 0 i / m, ordO (eG g g' m) (eG f f' m) (n * m) 0 i % m, _, _, fst_lt hp, snd_lt hp, r1, e1, ?_, rfl, rfl, ?_, ?_⟩
  · rw [← dec_eG hg' hp, ← dec_eG hf' hp, next_dec, next_dec, hs]
  · rw [← dec_eG hg' hp, next_dec, idx_dec, r3, rS_take r1]

  · rw [← dec_eG hg' hp, ← dec_eG hf' hp, next_dec, next_dec, idx_dec, ← hs, r4, rT_take r1]

end
end Go.Proofs.Ytmikhkolbkdnpaa
namespace Go.Proofs.Ytmikhkolbkdnpaa
open Go.RowKit
set_option linter.unusedVariables false

/-- All old blocks are as they were but those of E. -/
structure CH (w w' : World) (E : Nat → Prop) : Prop where
  grown : w.heap.size ≤ w'.heap.size
  os : w'.os = w.os
  tape : w'.tape = w.tape
  out : w'.output = w.output
  rest : ∀ i, i < w.heap.size → ¬ E i → w'.heap[i]? = w.heap[i]?
section
variable {w w' w'' : World} {E : Nat → Prop} {base bm bl bM B ba : Nat} {K : List K2} {v v' vS vT : Value} {xs : List Value} {S T : List Nat}
theorem CH.of_below (hb : Below w.heap.size w w') : CH w w' E := ⟨hb.size, hb.os, hb.tape, hb.output, fun i hi _ => hb.block i hi⟩
theorem CH.of_fr (h : PFR w w' bl bM v v') : CH w w' (fun i => i = bM ∨ i = bl ∨ some i = v.ownBlock) := ⟨h.grown, h.os, h.tape, h.out, fun i hi he => h.rest i hi (fun e => he (.inl e)) (fun e => he (.inr (.inl e))) (fun e => he (.inr (.inr e)))⟩
theorem CH.trans (h : CH w w' E) (h' : CH w' w'' E) : CH w w'' E := ⟨Nat.le_trans h.grown h'.grown, h'.os.trans h.os, h'.tape.trans h.tape, h'.out.trans h.out, fun i hi he => (h'.rest i (Nat.lt_of_lt_of_le hi h.grown) he).trans (h.rest i hi he)⟩
theorem CH.below (h : CH w w' E) (hE : ∀ i, E i → B ≤ i) (hB : B ≤ w.heap.size) : Below B w w' := ⟨h.os, h.tape, h.out, h.grown, fun i hi => h.rest i (by omega) fun e => by have := hE i e; omega⟩
theorem CH.cells {cs : Array Value} {t : TypeId} {i : Nat} (h : CH w w' E) (hc : w.heap[i]? = some (.cells cs t (0, 0))) (hE : ¬ E i) : w'.heap[i]? = some (.cells cs t (0, 0)) := (h.rest i (lt_of_block hc) hE).trans hc
theorem CH.row {base m size : Nat} {e : TypeId} {v : Value} {xs : List Value} (h : CH w w' E) (hr : w.ownsRow base e size v m xs) (hE : ∀ g, v.ownBlock = some g → ¬ E g) : w'.ownsRow base e size v m xs :=
  row_keep hr fun g hg => by
    obtain ⟨_, cur, hc⟩ := row_lt hr hg
    exact h.rest g (lt_of_block hc) (hE g hg)
theorem PVS.ch (h : PVS w base bm bl bM K v) (hC : CH w w' E) (e2 : ¬ E bm) (e3 : ¬ E bl) (e4 : ¬ E bM) (e5 : ∀ g, v.ownBlock = some g → ¬ E g) : PVS w' base bm bl bM K v := by
  obtain ⟨D, h1, h2⟩ := h.own
  exact ⟨hC.cells h.m e2, hC.cells h.l e3, ⟨D, map_keep h1 (hC.rest _ h1.lt e4), h2⟩, hC.row h.row e5, Nat.le_trans h.bs hC.grown, h.len⟩
def is (S : List Nat) : List Value := S.map fun x => .int .i64 (x : Nat)
/-- The box of the coset action, its two rows. -/
structure AB (w : World) (B ba : Nat) (vS vT : Value) (S T : List Nat) : Prop where
  a : w.heap[ba]? = some (.cells #[vS, vT] 24 (0, 0))
  rS : w.ownsRow B 3 1 vS S.length (is S)
  rT : w.ownsRow B 3 1 vT T.length (is T)
  ap : ∀ g, vS.ownBlock = some g → vT.ownBlock ≠ some g
  ge : B ≤ ba
theorem AB.ch (h : AB w B ba vS vT S T) (hC : CH w w' E) (e1 : ¬ E ba) (e2 : ∀ g, vS.ownBlock = some g → ¬ E g) (e3 : ∀ g, vT.ownBlock = some g → ¬ E g) : AB w' B ba vS vT S T :=
  ⟨hC.cells h.a e1, hC.row h.rS e2, hC.row h.rT e3, h.ap, h.ge⟩
theorem ty_ne {i j : Nat} {cs cs' : Array Value} {t t' : TypeId} (h : w.heap[i]? = some (.cells cs t (0, 0))) (h' : w.heap[j]? = some (.cells cs' t' (0, 0))) (hne : t ≠ t') : i ≠ j := by
  rintro rfl
  rw [h] at h'
  cases h'
  exact hne rfl
theorem AB.below (h : AB w B ba vS vT S T) (hb : Below w.heap.size w w') : AB w' B ba vS vT S T := h.ch (E := fun _ => False) (.of_below hb) (fun h => h) (fun _ _ h => h) (fun _ _ h => h)
/-- A visit leaves the box and its rows alone. -/
theorem AB.fr (h : AB w B ba vS vT S T) (hV : PVS w base bm bl bM K v) (hF : PFR w w' bl bM v v') : AB w' B ba vS vT S T := by
  obtain ⟨D, hO, _⟩ := hV.own
  have int : ∀ {u : Value} {m : Nat} {ys : List Value}, w.ownsRow B 3 1 u m ys → ∀ g, u.ownBlock = some g → ¬ (g = bM ∨ g = bl ∨ some g = v.ownBlock) := fun hr g hg => by
    obtain ⟨_, cur, hc⟩ := row_lt hr hg
    rintro (e | e | e)
    · exact map_ne hO hc e
    · exact ty_ne hc hV.l (by decide) e
    · exact row_neC hV.row hc (by decide) e
  refine h.ch (.of_fr hF) ?_ (int h.rS) (int h.rT)
  rintro (e | e | e)
  · exact map_ne hO h.a e
  · exact ty_ne h.a hV.l (by decide) e
  · exact row_neC hV.row h.a (by decide) e
/-- A change of the box and of one of its rows leaves what visit uses alone. -/
theorem PVS.ab (hV : PVS w base bm bl bM K v) (h : AB w B ba vS vT S T) (hC : CH w w' (fun i => i = ba ∨ some i = vS.ownBlock ∨ some i = vT.ownBlock)) : PVS w' base bm bl bM K v := by
  obtain ⟨D, hO, _⟩ := hV.own
  have c : ∀ {i : Nat} {cs : Array Value} {t : TypeId}, w.heap[i]? = some (.cells cs t (0, 0)) → t ≠ 24 → t ≠ 3 → ¬ (i = ba ∨ some i = vS.ownBlock ∨ some i = vT.ownBlock) := fun hc h1 h2 => by
    rintro (e | e | e)
    · exact ty_ne hc h.a h1 e
    · exact row_neC h.rS hc h2 e
    · exact row_neC h.rT hc h2 e
  refine hV.ch hC (c hV.m (by decide) (by decide)) (c hV.l (by decide) (by decide)) ?_ (fun g hg => ?_)
  · rintro (e | e | e)
    · exact map_ne hO h.a e.symm
    · obtain ⟨_, cur, hc⟩ := row_lt h.rS e.symm
      exact map_ne hO hc rfl
    · obtain ⟨_, cur, hc⟩ := row_lt h.rT e.symm
      exact map_ne hO hc rfl
  · obtain ⟨_, cur, hc⟩ := row_lt hV.row hg
    exact c hc (by decide) (by decide)
end
end Go.Proofs.Ytmikhkolbkdnpaa
namespace Go.Proofs.Ytmikhkolbkdnpaa
open Go.RowKit
open Go.Maps (Keyed)
set_option linter.unusedVariables false

theorem infoIP : (Try.prog.info? 3).map (fun i => (i.zero, i.size, i.bytes)) = some (some (.int .i64 0), 1, 8) := by kernel_rfl
theorem pNext_le (K : List K2) (x : K2) : (pNext K x).length ≤ K.length + 1 := by
  unfold pNext
  by_cases h : K.contains x = true
  · rw [if_pos h]; omega
  · rw [if_neg h, List.length_append]; exact Nat.le_refl _
theorem prow_at {w : World} {B : Nat} {v : Value} {L : List K2} (h : w.ownsRow B 91 2 v L.length (pfl L)) {i : Nat} (hi : i < L.length) : ∃ g cap, v = .slice (some ⟨g, 0, none⟩) L.length cap ∧ g < w.heap.size ∧
    w.cell? ⟨g, i * 2, none⟩ = some (.int .i64 (L.getD i (0, 0)).1) ∧ w.cell? ⟨g, i * 2 + 1, none⟩ = some (.int .i64 (L.getD i (0, 0)).2) := by
  have h2 := h.2
  rcases h2 with ⟨_, h0⟩ | ⟨g, cap, cur, rfl, hb, hg, _⟩
  · omega
  · have hc : ∀ j u, (pfl L)[j]? = some u → w.cell? ((⟨g, 0, none⟩ : Addr).add j) = some u := h.cells (g := g) rfl
    obtain ⟨m1, m2⟩ := pfl_at L i hi
    have e : ∀ j, (⟨g, 0, none⟩ : Addr).add j = ⟨g, j, none⟩ := fun j => by unfold Addr.add; split <;> simp_all
    refine ⟨g, cap, rfl, lt_of_block hg, ?_, ?_⟩
    · rw [← e]; exact hc _ _ (by rw [Nat.mul_comm]; exact m1)
    · rw [← e]; exact hc _ _ (by rw [Nat.mul_comm]; exact m2)
/-- The world within the search: the boxes of both actions, of the answer, of the pairs, of the map, of the action that grows. -/
structure PW (w wr : World) (bm ba : Nat) (P Q : Array Value) (K : List K2) (S T : List Nat) (vl vS vT : Value) : Prop where
  v : PVS wr w.heap.size bm (w.heap.size + 1 + 1 + 1 + 1) (w.heap.size + 1 + 1 + 1 + 1 + 1) K vl
  a : AB wr w.heap.size ba vS vT S T
  bel : Below w.heap.size w wr
  pa : wr.heap[w.heap.size]? = some (.cells P 24 (0, 0))
  pb : wr.heap[w.heap.size + 1]? = some (.cells Q 24 (0, 0))
  res : wr.heap[w.heap.size + 1 + 1]? = some (.cells #[.slice none 0 0, .slice none 0 0] 24 (0, 0))
  nb : w.heap.size + 1 + 1 < ba
section
variable {w wr w' : World} {bm ba : Nat} {P Q : Array Value} {K K' : List K2} {S T : List Nat} {vl vl' vS vT : Value}
theorem PW.below (h : PW w wr bm ba P Q K S T vl vS vT) (hb : Below wr.heap.size wr w') : PW w w' bm ba P Q K S T vl vS vT :=
  ⟨h.v.below hb, h.a.below hb, h.bel.trans (hb.mono h.v.bs), block_below h.pa hb, block_below h.pb hb, block_below h.res hb, h.nb⟩
theorem PW.drew (h : PW w wr bm ba P Q K S T vl vS vT) : PW w wr.drew bm ba P Q K S T vl vS vT := h.below ((Below.refl _ wr).drew)
theorem PW.alloc (h : PW w wr bm ba P Q K S T vl vS vT) (o : Obj) : PW w (wr.alloc o) bm ba P Q K S T vl vS vT := h.below (below1 _ _)
theorem PW.visit (h : PW w wr bm ba P Q K S T vl vS vT) (hV : PVS w' w.heap.size bm (w.heap.size + 1 + 1 + 1 + 1) (w.heap.size + 1 + 1 + 1 + 1 + 1) K' vl') (hF : PFR wr w' (w.heap.size + 1 + 1 + 1 + 1) (w.heap.size + 1 + 1 + 1 + 1 + 1) vl vl') : PW w w' bm ba P Q K' S T vl' vS vT := by
  obtain ⟨D, hO, _⟩ := h.v.own
  have c : ∀ {i : Nat} {cs : Array Value}, wr.heap[i]? = some (.cells cs 24 (0, 0)) → w'.heap[i]? = some (.cells cs 24 (0, 0)) := fun hc =>
    (hF.rest _ (lt_of_block hc) (map_ne hO hc) (ty_ne hc h.v.l (by decide)) (row_neC h.v.row hc (by decide))).trans hc
  exact ⟨hV, h.a.fr h.v hF, h.bel.trans (hF.below (by omega) (by omega) h.v.row h.v.bs), c h.pa, c h.pb, c h.res, h.nb⟩
theorem pvisit_w {a b : Int} (hl : K.length < 2000000) (hx : wf2 (a, b)) (W : World) (h : PW w W bm ba P Q K S T vl vS vT) :
    Calls Try.prog 63 #[.agg #[.int .i64 a, .int .i64 b], .pointer (some ⟨bm, 0, none⟩), .pointer (some ⟨w.heap.size + 1 + 1 + 1 + 1, 0, none⟩)] W fun e w' => ∃ vl', e = .returned (.int .i64 ((pNext K (a, b)).idxOf (a, b) : Nat)) ∧
      PW w w' bm ba P Q (pNext K (a, b)) S T vl' vS vT := by
  refine (pvisit_any W h.v hl hx).mono ?_
  rintro e w' ⟨v', rfl, hV, hF⟩
  exact ⟨v', rfl, h.visit hV hF⟩
/-- An append to one of the rows: what the walk reads behind it. -/
theorem PW.app (h : PW w wr bm ba P Q K S T vl vS vT) {v : Value} (hv : v = vS ∨ v = vT) (hg : wr.grownBy w' v.ownBlock) : w'.heap[ba]? = some (.cells #[vS, vT] 24 (0, 0)) := by
  have c : ∀ {i : Nat} {cs : Array Value} {t : TypeId}, wr.heap[i]? = some (.cells cs t (0, 0)) → t ≠ 3 → w'.heap[i]? = some (.cells cs t (0, 0)) := fun hc ht => by
    refine (hg.block _ (lt_of_block hc) ?_).trans hc
    rcases hv with rfl | rfl
    · exact row_neC h.a.rS hc ht
    · exact row_neC h.a.rT hc ht
  exact c h.a.a (by decide)
theorem PW.pushS (h : PW w wr bm ba P Q K S T vl vS vT) {x : Nat} {g cap : Nat} (hown : w'.ownsRow w.heap.size 3 1 (.slice (some ⟨g, 0, none⟩) (S.length + 1) cap) (S.length + 1) (is S ++ [.int .i64 (x : Nat)])) (hg : wr.grownBy w' vS.ownBlock) (hat : vS.ownBlock = some g ∨ g = wr.heap.size) :
    PW w (w'.setCell ⟨ba, 0, none⟩ (.slice (some ⟨g, 0, none⟩) (S.length + 1) cap)) bm ba P Q K (S ++ [x]) T vl (.slice (some ⟨g, 0, none⟩) (S.length + 1) cap) vT := by
  have ha := h.app (.inl rfl) hg
  have hC : CH wr (w'.setCell ⟨ba, 0, none⟩ (.slice (some ⟨g, 0, none⟩) (S.length + 1) cap)) (fun i => i = ba ∨ some i = vS.ownBlock ∨ some i = vT.ownBlock) :=
    ⟨by have := hg.size; simpa using this, hg.os, hg.tape, hg.output, fun i hi he => set_ne (hg.block i hi (fun e => he (.inr (.inl e)))) (fun e => he (.inl e)) _⟩
  have nb : ∀ {i : Nat} {cs : Array Value} {t : TypeId}, w'.heap[i]? = some (.cells cs t (0, 0)) → t ≠ 24 → i ≠ ba := fun hc ht e => ty_ne hc ha ht e
  refine ⟨h.v.ab h.a hC, ⟨?_, ?_, ?_, fun g' h1 h2 => ?_, h.a.ge⟩, h.bel.trans (hC.below ?_ h.v.bs), hC.cells h.pa ?_, hC.cells h.pb ?_, hC.cells h.res ?_, h.nb⟩
  · exact heap_setCell_same _ ba 0 #[vS, vT] _ _ ha
  · rw [show (S ++ [x]).length = S.length + 1 from by simp, show is (S ++ [x]) = is S ++ [.int .i64 (x : Nat)] from by simp [is]]
    exact row_keep hown fun g' h1 => by
      obtain ⟨_, cur, hc⟩ := row_lt hown h1
      exact set_ne rfl (nb hc (by decide)) _
  · refine row_keep h.a.rT fun g' h1 => ?_
    obtain ⟨_, cur, hc⟩ := row_lt h.a.rT h1
    have h2 : some g' ≠ vS.ownBlock := fun e => h.a.ap g' e.symm h1
    have h3 := hg.block g' (lt_of_block hc) h2
    exact set_ne h3 (nb (h3.trans hc) (by decide)) _
  · cases h1
    obtain ⟨_, cur, hc⟩ := row_lt h.a.rT h2
    rcases hat with e | e
    · exact h.a.ap _ e h2
    · have h9 : g < wr.heap.size := lt_of_block hc
      omega
  · rintro i (e | e | e)
    · rw [e]; exact h.a.ge
    · exact (row_lt h.a.rS e.symm).1
    · exact (row_lt h.a.rT e.symm).1
  · have := h.nb
    rintro (e | e | e)
    · omega
    · exact row_neC h.a.rS h.pa (by decide) e
    · exact row_neC h.a.rT h.pa (by decide) e
  · have := h.nb
    rintro (e | e | e)
    · omega
    · exact row_neC h.a.rS h.pb (by decide) e
    · exact row_neC h.a.rT h.pb (by decide) e
  · have := h.nb
    rintro (e | e | e)
    · omega
    · exact row_neC h.a.rS h.res (by decide) e
    · exact row_neC h.a.rT h.res (by decide) e
theorem PW.pushT (h : PW w wr bm ba P Q K S T vl vS vT) {x : Nat} {g cap : Nat} (hown : w'.ownsRow w.heap.size 3 1 (.slice (some ⟨g, 0, none⟩) (T.length + 1) cap) (T.length + 1) (is T ++ [.int .i64 (x : Nat)])) (hg : wr.grownBy w' vT.ownBlock) (hat : vT.ownBlock = some g ∨ g = wr.heap.size) :
    PW w (w'.setCell ⟨ba, 1, none⟩ (.slice (some ⟨g, 0, none⟩) (T.length + 1) cap)) bm ba P Q K S (T ++ [x]) vl vS (.slice (some ⟨g, 0, none⟩) (T.length + 1) cap) := by
  have ha := h.app (.inr rfl) hg
  have hC : CH wr (w'.setCell ⟨ba, 1, none⟩ (.slice (some ⟨g, 0, none⟩) (T.length + 1) cap)) (fun i => i = ba ∨ some i = vS.ownBlock ∨ some i = vT.ownBlock) :=
    ⟨by have := hg.size; simpa using this, hg.os, hg.tape, hg.output, fun i hi he => set_ne (hg.block i hi (fun e => he (.inr (.inr e)))) (fun e => he (.inl e)) _⟩
  have nb : ∀ {i : Nat} {cs : Array Value} {t : TypeId}, w'.heap[i]? = some (.cells cs t (0, 0)) → t ≠ 24 → i ≠ ba := fun hc ht e => ty_ne hc ha ht e
  refine ⟨h.v.ab h.a hC, ⟨?_, ?_, ?_, fun g' h1 h2 => ?_, h.a.ge⟩, h.bel.trans (hC.below ?_ h.v.bs), hC.cells h.pa ?_, hC.cells h.pb ?_, hC.cells h.res ?_, h.nb⟩
  · exact heap_setCell_same _ ba 1 #[vS, vT] _ _ ha
  · refine row_keep h.a.rS fun g' h1 => ?_
    obtain ⟨_, cur, hc⟩ := row_lt h.a.rS h1
    have h2 : some g' ≠ vT.ownBlock := fun e => h.a.ap g' h1 e.symm
    have h3 := hg.block g' (lt_of_block hc) h2
    exact set_ne h3 (nb (h3.trans hc) (by decide)) _
  · rw [show (T ++ [x]).length = T.length + 1 from by simp, show is (T ++ [x]) = is T ++ [.int .i64 (x : Nat)] from by simp [is]]
    exact row_keep hown fun g' h1 => by
      obtain ⟨_, cur, hc⟩ := row_lt hown h1
      exact set_ne rfl (nb hc (by decide)) _
  · cases h2
    obtain ⟨_, cur, hc⟩ := row_lt h.a.rS h1
    rcases hat with e | e
    · exact h.a.ap _ h1 e
    · have h9 : g < wr.heap.size := lt_of_block hc
      omega
  · rintro i (e | e | e)
    · rw [e]; exact h.a.ge
    · exact (row_lt h.a.rS e.symm).1
    · exact (row_lt h.a.rT e.symm).1
  · have := h.nb
    rintro (e | e | e)
    · omega
    · exact row_neC h.a.rS h.pa (by decide) e
    · exact row_neC h.a.rT h.pa (by decide) e
  · have := h.nb
    rintro (e | e | e)
    · omega
    · exact row_neC h.a.rS h.pb (by decide) e
    · exact row_neC h.a.rT h.pb (by decide) e
  · have := h.nb
    rintro (e | e | e)
    · omega
    · exact row_neC h.a.rS h.res (by decide) e
    · exact row_neC h.a.rT h.res (by decide) e
end
theorem wpList_insert_own {H : Type} {P : Program} (w : World) {ops : Array Oper} {rest : List Oper} {o : Oper} {a : Act} {Q : Exit → Act → World → Prop}
    (hg : o.guard = none) (m x v : Operand) (t : TypeId) (hop : o.op = Op.insert t m x v)
    (k e : TypeId) (K : Keyed P k) (ht : P.underlying t = some (.map k e)) (R : Value → Option (DataW H × List MemPlace)) (b n : Nat) (D : DataW H)
    (hm : a.eval m = .map (some b)) (hown : w.ownsMap P k R b n D) (hn : n < maxLen) (key val : Value) (kl : Lit) (hx : a.eval x = key) (hv : a.eval v = val) (hkey : keyOf P k key = some kl)
    (d : DataW H) (ps : List MemPlace) (hval : R val = some (d, ps))
    (hK : ∀ w', w'.ownsMap P k R b (n + 1) (D.put kl d) → w.grownBy w' (some b) → wpList P ops Q rest (a.put o.dst undef) w') :
    wpList P ops Q (o :: rest) a w := by
  refine wpList_plain hg fun K' hK' => ?_
  obtain ⟨w', hrun, r1, r2⟩ := hown.update K ht hn hkey hval
  unfold Oper.wp
  simp [execOp, hop, hm, hx, hv, hrun, Result.andThen]
  exact hK' _ _ (hK w' r1 r2)
end Go.Proofs.Ytmikhkolbkdnpaa
namespace Go.Proofs.Ytmikhkolbkdnpaa
open Go.RowKit
open Go.Maps (Keyed)
set_option linter.unusedVariables false

def w7 (w : World) (P Q : Array Value) : World := (((((w.alloc (.cells P 24)).alloc (.cells Q 24)).alloc (.cells #[.slice none 0 0, .slice none 0 0] 24)).alloc (.cells #[.int .i64 0, .int .i64 0] 91)).alloc (.cells #[.slice (some ⟨w.heap.size + 1 + 1 + 1, 0, none⟩) 1 1] 92)).alloc (.map #[] 0)
theorem w7_size (w : World) (P Q : Array Value) : (w7 w P Q).heap.size = w.heap.size + 6 := by simp [w7]
theorem w7_at (w : World) (P Q : Array Value) : (w7 w P Q).heap[w.heap.size]? = some (.cells P 24 (0, 0)) ∧ (w7 w P Q).heap[w.heap.size + 1]? = some (.cells Q 24 (0, 0)) ∧ (w7 w P Q).heap[w.heap.size + 1 + 1]? = some (.cells #[.slice none 0 0, .slice none 0 0] 24 (0, 0)) ∧ (w7 w P Q).heap[w.heap.size + 1 + 1 + 1]? = some (.cells #[.int .i64 0, .int .i64 0] 91 (0, 0)) ∧
    (w7 w P Q).heap[w.heap.size + 1 + 1 + 1 + 1]? = some (.cells #[.slice (some ⟨w.heap.size + 1 + 1 + 1, 0, none⟩) 1 1] 92 (0, 0)) ∧ IsMpV (w7 w P Q) (w.heap.size + 1 + 1 + 1 + 1 + 1) 0 (.map []) ∧ Below w.heap.size w (w7 w P Q) := by
  have at_ : ∀ (W : World) (o : Obj) {g : Nat}, g = W.heap.size → (W.alloc o).heap[g]? = some o := fun W o g hg => by rw [hg]; exact heap_alloc_new W o
  refine ⟨?_, ?_, ?_, ?_, ?_, ?_, ?_⟩
  · exact block_alloc (block_alloc (block_alloc (block_alloc (block_alloc (at_ _ _ rfl) _) _) _) _) _
  · exact block_alloc (block_alloc (block_alloc (block_alloc (at_ _ _ (by simp)) _) _) _) _
  · exact block_alloc (block_alloc (block_alloc (at_ _ _ (by simp)) _) _) _
  · exact block_alloc (block_alloc (at_ _ _ (by simp)) _) _
  · exact block_alloc (at_ _ _ (by simp)) _
  · have := World.ownsMap_made (((((w.alloc (.cells P 24)).alloc (.cells Q 24)).alloc (.cells #[.slice none 0 0, .slice none 0 0] 24)).alloc (.cells #[.int .i64 0, .int .i64 0] 91)).alloc (.cells #[.slice (some ⟨w.heap.size + 1 + 1 + 1, 0, none⟩) 1 1] 92)) Try.prog 91 (plainElem (H := Unit) Try.prog 3)
    simpa [w7] using this
  · exact (below4 w _ _ _ _).trans ((below2 _ _ _).mono (by simp; omega))
/-- The loop's first world. -/
theorem pwA_start {P Q : Array Value} {w w2 : World} {D : DataW Unit} (hO : IsMpV w2 (w.heap.size + 1 + 1 + 1 + 1 + 1) 1 D) (hD : MD2 D [(0, 0)]) (hg : (w7 w P Q).grownBy w2 (some (w.heap.size + 1 + 1 + 1 + 1 + 1))) :
    PW w ((w2.alloc (.cells #[.map (some (w.heap.size + 1 + 1 + 1 + 1 + 1))] 93)).alloc (.cells #[.slice none 0 0, .slice none 0 0] 24)) w2.heap.size (w2.heap.size + 1) P Q [(0, 0)] [] [] (.slice (some ⟨w.heap.size + 1 + 1 + 1, 0, none⟩) 1 1) (.slice none 0 0) (.slice none 0 0) := by
  obtain ⟨h0, h1, h2, h3, h4, h6, h5⟩ := w7_at w P Q
  have s6 := w7_size w P Q
  have s2 := hg.size
  have go : ∀ {g : Nat} {o : Obj}, (w7 w P Q).heap[g]? = some o → g ≠ w.heap.size + 1 + 1 + 1 + 1 + 1 → w2.heap[g]? = some o := fun hc hne =>
    (hg.block _ (lt_of_block hc) (by simpa using hne)).trans hc
  have c0 := go h0 (by omega)
  have c1 := go h1 (by omega)
  have c2 := go h2 (by omega)
  have c3 := go h3 (by omega)
  have c4 := go h4 (by omega)
  have at_ : ∀ (W : World) (o : Obj) {g : Nat}, g = W.heap.size → (W.alloc o).heap[g]? = some o := fun W o g hg => by rw [hg]; exact heap_alloc_new W o
  refine ⟨⟨block_alloc (at_ _ _ rfl) _, block_alloc (block_alloc c4 _) _, ⟨D, (hO.alloc _).alloc _, hD⟩, ⟨rfl, .inr ⟨w.heap.size + 1 + 1 + 1, 1, _, rfl, by omega, block_alloc (block_alloc c3 _) _, Nat.le_refl 1, by unfold maxLen; omega, rfl, rfl⟩⟩, by simp; omega, by simp⟩,
    ⟨at_ _ _ (by simp), ⟨rfl, .inl ⟨rfl, rfl⟩⟩, ⟨rfl, .inl ⟨rfl, rfl⟩⟩, fun g hg => (by cases hg), by omega⟩, ?_, block_alloc (block_alloc c0 _) _, block_alloc (block_alloc c1 _) _, block_alloc (block_alloc c2 _) _, by omega⟩
  have hB2 : Below w.heap.size w w2 := ⟨hg.os.trans h5.os, hg.tape.trans h5.tape, hg.output.trans h5.output, by have := h5.size; omega, fun i hi => (hg.block i (by omega) (by simp; omega)).trans (h5.block i hi)⟩
  exact hB2.trans ((below2 w2 _ _).mono (by have := hB2.size; omega))
end Go.Proofs.Ytmikhkolbkdnpaa
