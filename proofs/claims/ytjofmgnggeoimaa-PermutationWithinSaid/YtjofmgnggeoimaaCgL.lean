/- The closure of containsPrincipal: a map from matrices modulo n to points. -/
import Derived.Test.YtjofmgnggeoimaaMapM
import Derived.Test.YtjofmgnggeoimaaBoxL
namespace Go.Proofs.Ytjofmgnggeoimaa
open Go.RowKit
open Go.Maps (Keyed)
set_option linter.unusedVariables false
set_option linter.unusedSimpArgs false

theorem zeroIntC (w : World) : (zeroValue 3).run Try.prog w = .ok (.int .i64 0) w := by kernel_rfl
theorem infoK4 : (Try.prog.info? 102).map (fun i => (i.zero, i.size, i.bytes)) = some (some (.agg #[.int .i64 0, .int .i64 0, .int .i64 0, .int .i64 0]), 4, 32) := by kernel_rfl
abbrev IsMpC (w : World) (b n : Nat) (D : DataW Unit) : Prop := w.ownsMap Try.prog 102 (plainElem Try.prog 3) b n D
/-- The datum holds for each key of K the number at its place in V. -/
structure MDV {H : Type} (D : DataW H) (K : List K4) (V : List Nat) : Prop where
  im : Maps.IsMap D
  len : V.length = K.length
  has : ∀ x, wf4 x → Maps.has D (kl x) = K.contains x
  at_ : ∀ x, wf4 x → x ∈ K → D.atKey (kl x) (.lit (.int .i64 0)) = .lit (.int .i64 (V.getD (K.idxOf x) 0 : Nat))
theorem MDV.nil {H : Type} : MDV (.map [] : DataW H) [] [] := ⟨⟨[], rfl⟩, rfl, fun x hx => by rfl, fun x _ h => by simp at h⟩
theorem MDV.put {H : Type} {D : DataW H} {K : List K4} {V : List Nat} (h : MDV D K V) {x : K4} {i : Nat} (hx : wf4 x) (hn : K.contains x = false) : MDV (D.put (kl x) (.lit (.int .i64 (i : Nat)))) (K ++ [x]) (V ++ [i]) := by
  have hne : x ∉ K := by simpa using hn
  refine ⟨?_, by simp [h.len], fun y hy => ?_, fun y hy hm => ?_⟩
  · obtain ⟨es, rfl⟩ := h.im
    exact ⟨_, rfl⟩
  · by_cases e : y = x
    · subst e
      rw [Maps.has_put_same h.im (kl_key y)]
      simp
    · have hk : kl y ≠ kl x := fun k => e (kl_inj hy hx k)
      rw [Maps.has_put_other hk, h.has y hy]
      simp [e]
  · by_cases e : y = x
    · subst e
      rw [Maps.atKey_put_same h.im (kl_key y)]
      rw [List.idxOf_append, if_neg hne, ← h.len]
      simp
    · have hk : kl y ≠ kl x := fun k => e (kl_inj hy hx k)
      have hm' : y ∈ K := by simpa [e] using hm
      have hlt := List.idxOf_lt_length_iff.2 hm'
      rw [Maps.atKey_put_other hk, h.at_ y hy hm', List.idxOf_append, if_pos hm']
      simp only [List.getD_eq_getElem?_getD]
      rw [List.getElem?_append_left (by rw [h.len]; exact hlt)]
theorem cell_four_newC (w : World) (a b c d : Value) (t : TypeId) : ∀ j u, [a, b, c, d][j]? = some u → (w.alloc (.cells #[a, b, c, d] t)).cell? ((⟨w.heap.size, 0, none⟩ : Addr).add j) = some u := by
  intro j u hj
  match j, hj with
  | 0, hj => simp at hj; subst hj; simp [Addr.add]
  | 1, hj => simp at hj; subst hj; simp [Addr.add]
  | 2, hj => simp at hj; subst hj; simp [Addr.add]
  | 3, hj => simp at hj; subst hj; simp [Addr.add]
theorem box1 {w : World} {g : Nat} {a : Value} {t : TypeId} (h : w.heap[g]? = some (.cells #[a] t (0, 0))) : w.cell? ⟨g, 0, none⟩ = some a ∧ ∀ j, w.frozen? ⟨g, j, none⟩ = false :=
  ⟨by rw [cell_of_row w g 0 _ t _ h]; rfl, fun j => frozen_of_row w g j _ t h⟩
set_option maxHeartbeats 1600000 in
set_option maxRecDepth 1000000 in
theorem agree_old {a b c d : Int} {bm bl bM cnt i : Nat} {D : DataW Unit} {K : List K4} {V : List Nat} (w : World)
    (hM : w.heap[bm]? = some (.cells #[.map (some bM)] 104 (0, 0)))
    (hO : IsMpC w bM cnt D) (hD : MDV D K V) (hx : wf4 (a, b, c, d)) (hc : K.contains (a, b, c, d) = true) (hV : V.getD (K.idxOf (a, b, c, d)) 0 = i) :
    Calls Try.prog 73 #[.agg #[.int .i64 a, .int .i64 b, .int .i64 c, .int .i64 d], .int .i64 (i : Nat), .pointer (some ⟨bm, 0, none⟩), .pointer (some ⟨bl, 0, none⟩)] w fun e w' => e = .returned (.bool true) ∧ w' = w.alloc (.cells #[.int .i64 a, .int .i64 b, .int .i64 c, .int .i64 d] 102) := by
  have HO : Hid (IsMpC (w.alloc (.cells #[.int .i64 a, .int .i64 b, .int .i64 c, .int .i64 d] 102)) bM cnt D) := hO.alloc _
  have HH : Hid (Maps.has D (kl (a, b, c, d)) = true) := by show _ = _; rw [hD.has _ hx, hc]
  have HA : Hid (D.atKey (kl (a, b, c, d)) (.lit (.int .i64 0)) = .lit (.int .i64 (i : Nat))) := by show _ = _; rw [hD.at_ _ hx (by simpa using hc), hV]
  have m1 := (box1 hM).1
  have hml := lt_of_block hM
  have HK := Lib.hid (key_of hx)
  clear hO hM hD hc hx hV
  go_enter Try.func73, Try.ntmps73
  go_wp2_with (first
    | (at_lookup; refine wpList_lookup_own_ok_int _ rfl _ _ 104 rfl 102 3 .i64 law4 Try.underlying104 Try.underlying3 (zeroIntC _) bM cnt D rfl HO.out (kv (a, b, c, d)) (kl (a, b, c, d)) rfl HK.out ?_; intro v hat hwc; rw [HH.out]; have HV := Lib.hid (hat.symm.trans HA.out); clear hat hwc)
    | fail)
  obtain rfl : v = (i : Nat) := by
    have := HV.out
    simpa using this
  go_wp2
  go_ret
  exact ⟨rfl, rfl⟩
theorem row_neC {w : World} {base n size g : Nat} {e t : TypeId} {v : Value} {xs : List Value} {cs : Array Value} {f : Nat × Nat} (h : w.ownsRow base e size v n xs) (hg : w.heap[g]? = some (.cells cs t f)) (hne : t ≠ e) : some g ≠ v.ownBlock := fun k => by
  obtain ⟨_, cur, hc⟩ := row_lt h k.symm
  rw [hc] at hg
  cases hg
  exact hne rfl
theorem row_grownC {w w' : World} {base n size b m : Nat} {e k : TypeId} {R : Value → Option (DataW Unit × List MemPlace)} {D : DataW Unit} {v : Value} {xs : List Value} {o : Obj} (h : w.ownsRow base e size v n xs) (hO : (w.alloc o).ownsMap Try.prog k R b m D) (hg : (w.alloc o).grownBy w' (some b)) : w'.ownsRow base e size v n xs :=
  row_keep h fun g hk => by
    obtain ⟨_, cur, hc⟩ := row_lt h hk
    have h1 := block_alloc hc o
    exact ((hg.block g (lt_of_block h1) (by have := map_ne hO h1; simpa using this)).trans h1).trans hc.symm
/-- What a new matrix leaves. -/
structure AgN (w w' : World) (base bl bM cnt : Nat) (D : DataW Unit) (v v' : Value) (m : Nat) (xs : List Value) : Prop where
  l : w'.heap[bl]? = some (.cells #[v'] 103 (0, 0))
  own : IsMpC w' bM cnt D
  row : w'.ownsRow base 102 4 v' m xs
  at_ : v'.ownBlock = v.ownBlock ∨ ∃ g, v'.ownBlock = some g ∧ w.heap.size ≤ g
  size : w.heap.size ≤ w'.heap.size
  os : w'.os = w.os
  tape : w'.tape = w.tape
  out : w'.output = w.output
  rest : ∀ i, i < w.heap.size → i ≠ bM → i ≠ bl → some i ≠ v.ownBlock → w'.heap[i]? = w.heap[i]?
set_option maxHeartbeats 3200000 in
set_option maxRecDepth 1000000 in
theorem agree_new {a b c d : Int} {base bm bl bM cnt i : Nat} {D : DataW Unit} {K : List K4} {V : List Nat} {v : Value} {xs : List Value} (w : World)
    (hM : w.heap[bm]? = some (.cells #[.map (some bM)] 104 (0, 0))) (hL : w.heap[bl]? = some (.cells #[v] 103 (0, 0))) (hR : w.ownsRow base 102 4 v K.length xs) (hK : K.length ≤ 100000) (hcnt : cnt ≤ 100000) (hbase : base ≤ w.heap.size)
    (hO : IsMpC w bM cnt D) (hD : MDV D K V) (hx : wf4 (a, b, c, d)) (hc : K.contains (a, b, c, d) = false) (hi : i ≤ 1152) :
    Calls Try.prog 73 #[.agg #[.int .i64 a, .int .i64 b, .int .i64 c, .int .i64 d], .int .i64 (i : Nat), .pointer (some ⟨bm, 0, none⟩), .pointer (some ⟨bl, 0, none⟩)] w fun e w' => e = .returned (.bool true) ∧
      ∃ v', AgN w w' base bl bM (cnt + 1) (D.put (kl (a, b, c, d)) (.lit (.int .i64 (i : Nat)))) v v' (K.length + 1) (xs ++ [.int .i64 a, .int .i64 b, .int .i64 c, .int .i64 d]) := by
  obtain ⟨la, lc, rfl⟩ : ∃ la lc, v = .slice la K.length lc := by
    rcases hR.2 with ⟨h, h'⟩ | ⟨g, cap, cur, h, _⟩
    · exact ⟨none, 0, by rw [h, h']⟩
    · exact ⟨_, _, h⟩
  obtain ⟨i1, hi1, z0, z1, z2⟩ := info_parts infoK4
  have HO : Hid (IsMpC (w.alloc (.cells #[.int .i64 a, .int .i64 b, .int .i64 c, .int .i64 d] 102)) bM cnt D) := hO.alloc _
  have HH : Hid (Maps.has D (kl (a, b, c, d)) = false) := by show _ = _; rw [hD.has _ hx, hc]
  have HM := Lib.hid hM
  have HL := Lib.hid hL
  have HR := Lib.hid hR
  have m1 := (box1 hM).1
  have hml := lt_of_block hM
  have hll := lt_of_block hL
  have hMl := hO.lt
  have hNl := map_ne hO hL
  have hNm := map_ne hO hM
  have hlm : bl ≠ bm := by
    rintro rfl
    rw [hL] at hM
    simp at hM
  have HK := Lib.hid (key_of hx)
  have HX : Hid (w.heap.size = w.heap.size) := rfl
  clear hO hM hD hc hx hL hR
  go_enter Try.func73, Try.ntmps73
  go_wp2_with (first
    | (at_lookup; refine wpList_lookup_own_ok_int _ rfl _ _ 104 rfl 102 3 .i64 law4 Try.underlying104 Try.underlying3 (zeroIntC _) bM cnt D rfl HO.out (kv (a, b, c, d)) (kl (a, b, c, d)) rfl HK.out ?_; intro v hat hwc; rw [HH.out]; clear hat hwc)
    | (at_mapUpdate; refine wpList_mapUpdate_own _ rfl _ _ _ 104 rfl 102 3 law4 Try.underlying104 _ bM cnt D rfl HO.out (by unfold maxLen; omega) (kv (a, b, c, d)) _ (kl (a, b, c, d)) rfl rfl HK.out (.lit (.int .i64 (i : Nat))) [] (plainElem_int Try.underlying3 (by simp [Lit.wf, IntKind.min, IntKind.max, IntKind.signed, IntKind.bits]; omega)) ?_; intro w3 hown3 hg3; have HO3 := Lib.hid hown3; have HG3 := Lib.hid hg3; have HL3 : Hid (w3.heap[bl]? = some (.cells #[.slice la K.length lc] 103 (0, 0))) := (hg3.block bl (by simp; omega) (by simp; omega)).trans (block_alloc HL.out _); have HF3 : Hid (w3.heap[w.heap.size]? = some (.cells #[.int .i64 a, .int .i64 b, .int .i64 c, .int .i64 d] 102 (0, 0))) := (hg3.block _ (by simp) (by simp; omega)).trans (heap_alloc_new w _); have HR3 : Hid (w3.ownsRow base 102 4 (.slice la K.length lc) K.length xs) := row_grownC HR.out HO.out hg3; have l3 := (box1 HL3.out).1; obtain ⟨⟨f1, f2, f3, f4⟩, _⟩ := four_of_block HF3.out; have hz3 := lt_of_block HF3.out; have hz4 := lt_of_block HL3.out; clear hown3 hg3)
    | (at_builtin; (refine wpList_append_own_at _ rfl _ _ 103 rfl base 102 i1 (.agg #[.int .i64 0, .int .i64 0, .int .i64 0, .int .i64 0]) 4 32 Try.underlying103 hi1 z0 z1 z2 rfl (by decide) _ _ _ rfl (HR3.out.alloc _) ⟨w3.heap.size, 0, none⟩ 1 1 [.int .i64 a, .int .i64 b, .int .i64 c, .int .i64 d] rfl rfl (cell_four_newC _ _ _ _ _ _) (fun x hx => by simp at hx; rcases hx with rfl | rfl | rfl | rfl <;> rfl) (by unfold maxLen; omega) (by omega) (by simp; omega) ?_); intro v' w4 hown4 hg4 hnil4 hat4; obtain ⟨A2, c2, rfl⟩ := own_len hown4; have HR4 := Lib.hid hown4; have HG4 : Hid ((w3.alloc (.cells #[.int .i64 a, .int .i64 b, .int .i64 c, .int .i64 d] 102)).grownBy w4 (Value.slice la K.length lc).ownBlock) := hg4; have HA4 : Hid ((Value.slice A2 (K.length + 1) c2).ownBlock = (Value.slice la K.length lc).ownBlock ∨ (Value.slice A2 (K.length + 1) c2).ownBlock = some (w3.alloc (.cells #[.int .i64 a, .int .i64 b, .int .i64 c, .int .i64 d] 102)).heap.size) := hat4; have HL4 : Hid (w4.heap[bl]? = some (.cells #[.slice la K.length lc] 103 (0, 0))) := (hg4.block bl (by simp; omega) (row_neC HR3.out HL3.out (by decide))).trans (block_alloc HL3.out _); have l4 := (box1 HL4.out).1; have hz5 := lt_of_block HL4.out; have f4' := (box1 HL4.out).2; clear hown4 hg4 hnil4 hat4)
    | fail)
  have s3 := HG3.out.size
  have s4 := HG4.out.size
  simp at s3 s4
  have e1 : some bM ≠ (Value.slice la K.length lc).ownBlock := fun k => by
    obtain ⟨_, cur, hc⟩ := row_lt HR3.out k.symm
    exact map_ne HO3.out hc rfl
  have e2 : w4.heap[bM]? = w3.heap[bM]? := (HG4.out.block bM (by simp; omega) e1).trans ((below1 w3 _).block bM (by omega))
  go_ret
  refine ⟨rfl, _, heap_setCell_same _ bl 0 #[_] _ _ HL4.out, World.ownsMap.setCell (map_keep HO3.out e2) (by simp; omega) _, row_keep HR4.out (fun g hg => set_ne rfl (fun k => ?_) _), ?_, ?_, ?_, ?_, ?_, fun i hi h1 h2 h3 => ?_⟩
  · subst k
    exact row_neC HR4.out HL4.out (by decide) hg.symm
  · rcases HA4.out with h | h
    · exact .inl h
    · exact .inr ⟨_, h, by simp; omega⟩
  · simp; omega
  · exact HG4.out.os.trans HG3.out.os
  · exact HG4.out.tape.trans HG3.out.tape
  · exact HG4.out.output.trans HG3.out.output
  · exact set_ne ((HG4.out.block i (by simp; omega) h3).trans (((below1 w3 _).block i (by omega)).trans ((HG3.out.block i (by simp; omega) (by simp; omega)).trans ((below1 w _).block i (by omega))))) h2 _
end Go.Proofs.Ytjofmgnggeoimaa
