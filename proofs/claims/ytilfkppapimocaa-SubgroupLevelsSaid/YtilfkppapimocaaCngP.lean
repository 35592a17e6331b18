/- The closure of containsPrincipal: a map from matrices modulo n to points. containsPrincipal, plain mathematics: the search over the matrices modulo n, and its run at the three points. The world within containsPrincipal, and its closure's contract in it. (for any action) containsPrincipal at the three points, modulo 2: true. -/
import Derived.Test.YtilfkppapimocaaMapM
import Derived.Test.YtilfkppapimocaaBoxL
import Derived.Test.YtilfkppapimocaaAcL
import Derived.Test.YtilfkppapimocaaChkL
import Derived.Test.YtilfkppapimocaaProL
import Derived.Test.YtilfkppapimocaaSeaL
import Derived.Deep.QuietTactic
import Derived.IntWalk
namespace Go.Proofs.Ytilfkppapimocaa
open Go.RowKit
open Go.Maps (Keyed)
set_option linter.unusedVariables false
set_option linter.unusedSimpArgs false

theorem zeroIntC (w : World) : (zeroValue 3).run Try.prog w = .ok (.int .i64 0) w := by kernel_rfl
theorem infoK4 : (Try.prog.info? 103).map (fun i => (i.zero, i.size, i.bytes)) = some (some (.agg #[.int .i64 0, .int .i64 0, .int .i64 0, .int .i64 0]), 4, 32) := by kernel_rfl
abbrev IsMpC (w : World) (b n : Nat) (D : DataW Unit) : Prop := w.ownsMap Try.prog 103 (plainElem Try.prog 3) b n D
/-- The datum holds for each key of K the number at its place in V. -/
structure MDV {H : Type} (D : DataW H) (K : List K4) (V : List Nat) : Prop where
  im : Maps.IsMap D
  len : V.length = K.length
  has : ∀ x, wf4 x → Maps.has D (kl x) = K.contains x
  at_ : ∀ x, wf4 x → x ∈ K → D.atKey (kl x) (.lit (.int .i64 0)) = .lit (.int .i64 (V.getD (K.idxOf x) 0 : Nat))
theorem MDV.nil {H : Type} : MDV (.map [] : DataW H) [] [] := ⟨⟨[], rfl⟩, rfl, fun x hx => by rfl, fun x _ h => by simp at h⟩
theorem MDV.put {H : Type} {D : DataW H} {K : List K4} {V : List Nat} (h : MDV D K V) {x : K4} {i : Nat} (hx : wf4 x) (hn : K.contains x = false) : MDV (D.put (kl x) (.lit (.int .i64 (i : Nat)))) (K ++ [x]) (V ++ [i]) := by
  have hne : x ∉ K := by simpa using hn
  refine ⟨?_, by simp [h.len], fun y hy => ?_, fun y hy hm => ?_⟩
  · obtain ⟨es, rfl⟩ := h.im
    exact ⟨_, rfl⟩
  · by_cases e : y = x
    · subst e
      rw [Maps.has_put_same h.im (kl_key y)]
      simp
    · have hk : kl y ≠ kl x := fun k => e (kl_inj hy hx k)
      rw [Maps.has_put_other hk, h.has y hy]
      simp [e]
  · by_cases e : y = x
    · subst e
      rw [Maps.atKey_put_same h.im (kl_key y)]
      rw [List.idxOf_append, if_neg hne, ← h.len]
      simp
    · have hk : kl y ≠ kl x := fun k => e (kl_inj hy hx k)
      have hm' : y ∈ K := by simpa [e] using hm
      have hlt := List.idxOf_lt_length_iff.2 hm'
      rw [Maps.atKey_put_other hk, h.at_ y hy hm', List.idxOf_append, if_pos hm']
      simp only [List.getD_eq_getElem?_getD]
      rw [List.getElem?_append_left (by rw [h.len]; exact hlt)]
theorem cell_four_newC (w : World) (a b c d : Value) (t : TypeId) : ∀ j u, [a, b, c, d][j]? = some u → (w.alloc (.cells #[a, b, c, d] t)).cell? ((⟨w.heap.size, 0, none⟩ : Addr).add j) = some u := by
  intro j u hj
  match j, hj with
  | 0, hj => simp at hj; subst hj; simp [Addr.add]
  | 1, hj => simp at hj; subst hj; simp [Addr.add]
  | 2, hj => simp at hj; subst hj; simp [Addr.add]
  | 3, hj => simp at hj; subst hj; simp [Addr.add]
theorem box1 {w : World} {g : Nat} {a : Value} {t : TypeId} (h : w.heap[g]? = some (.cells #[a] t (0, 0))) : w.cell? ⟨g, 0, none⟩ = some a ∧ ∀ j, w.frozen? ⟨g, j, none⟩ = false :=
  ⟨by rw [cell_of_row w g 0 _ t _ h]; rfl, fun j => frozen_of_row w g j _ t h⟩
set_option maxHeartbeats 1600000 in
set_option maxRecDepth 1000000 in
theorem agree_old {a b c d : Int} {bm bl bM cnt i : Nat} {D : DataW Unit} {K : List K4} {V : List Nat} (w : World)
    (hM : w.heap[bm]? = some (.cells #[.map (some bM)] 105 (0, 0)))
    (hO : IsMpC w bM cnt D) (hD : MDV D K V) (hx : wf4 (a, b, c, d)) (hc : K.contains (a, b, c, d) = true) (hV : V.getD (K.idxOf (a, b, c, d)) 0 = i) :
    Calls Try.prog 72 #[.agg #[.int .i64 a, .int .i64 b, .int .i64 c, .int .i64 d], .int .i64 (i : Nat), .pointer (some ⟨bm, 0, none⟩), .pointer (some ⟨bl, 0, none⟩)] w fun e w' => e = .returned (.bool true) ∧ w' = w.alloc (.cells #[.int .i64 a, .int .i64 b, .int .i64 c, .int .i64 d] 103) := by
  have HO : Hid (IsMpC (w.alloc (.cells #[.int .i64 a, .int .i64 b, .int .i64 c, .int .i64 d] 103)) bM cnt D) := hO.alloc _
  have HH : Hid (Maps.has D (kl (a, b, c, d)) = true) := by show _ = _; rw [hD.has _ hx, hc]
  have HA : Hid (D.atKey (kl (a, b, c, d)) (.lit (.int .i64 0)) = .lit (.int .i64 (i : Nat))) := by show _ = _; rw [hD.at_ _ hx (by simpa using hc), hV]
  have m1 := (box1 hM).1
  have hml := lt_of_block hM
  have HK := Lib.hid (key_of hx)
  clear hO hM hD hc hx hV
  go_enter Try.func72, Try.ntmps72
  go_wp2_with (first
    | (at_lookup; refine wpList_lookup_own_ok_int _ rfl _ _ 105 rfl 103 3 .i64 law4 Try.underlying105 Try.underlying3 (zeroIntC _) bM cnt D rfl HO.out (kv (a, b, c, d)) (kl (a, b, c, d)) rfl HK.out ?_; intro v hat hwc; rw [HH.out]; have HV := Lib.hid (hat.symm.trans HA.out); clear hat hwc)
    | fail)
  obtain rfl : v = (i : Nat) := by
    have := HV.out
    simpa using this
  go_wp2
  go_ret
  exact ⟨rfl, rfl⟩
theorem row_neC {w : World} {base n size g : Nat} {e t : TypeId} {v : Value} {xs : List Value} {cs : Array Value} {f : Nat × Nat} (h : w.ownsRow base e size v n xs) (hg : w.heap[g]? = some (.cells cs t f)) (hne : t ≠ e) : some g ≠ v.ownBlock := fun k => by
  obtain ⟨_, cur, hc⟩ := row_lt h k.symm
  rw [hc] at hg
  cases hg
  exact hne rfl
theorem row_grownC {w w' : World} {base n size b m : Nat} {e k : TypeId} {R : Value → Option (DataW Unit × List MemPlace)} {D : DataW Unit} {v : Value} {xs : List Value} {o : Obj} (h : w.ownsRow base e size v n xs) (hO : (w.alloc o).ownsMap Try.prog k R b m D) (hg : (w.alloc o).grownBy w' (some b)) : w'.ownsRow base e size v n xs :=
  row_keep h fun g hk => by
    obtain ⟨_, cur, hc⟩ := row_lt h hk
    have h1 := block_alloc hc o
    exact ((hg.block g (lt_of_block h1) (by have := map_ne hO h1; simpa using this)).trans h1).trans hc.symm
/-- What a new matrix leaves. -/
structure AgN (w w' : World) (base bl bM cnt : Nat) (D : DataW Unit) (v v' : Value) (m : Nat) (xs : List Value) : Prop where
  l : w'.heap[bl]? = some (.cells #[v'] 113 (0, 0))
  own : IsMpC w' bM cnt D
  row : w'.ownsRow base 103 4 v' m xs
  at_ : v'.ownBlock = v.ownBlock ∨ ∃ g, v'.ownBlock = some g ∧ w.heap.size ≤ g
  size : w.heap.size ≤ w'.heap.size
  os : w'.os = w.os
  tape : w'.tape = w.tape
  out : w'.output = w.output
  rest : ∀ i, i < w.heap.size → i ≠ bM → i ≠ bl → some i ≠ v.ownBlock → w'.heap[i]? = w.heap[i]?
set_option maxHeartbeats 3200000 in
set_option maxRecDepth 1000000 in
theorem agree_new {a b c d : Int} {base bm bl bM cnt i : Nat} {D : DataW Unit} {K : List K4} {V : List Nat} {v : Value} {xs : List Value} (w : World)
    (hM : w.heap[bm]? = some (.cells #[.map (some bM)] 105 (0, 0))) (hL : w.heap[bl]? = some (.cells #[v] 113 (0, 0))) (hR : w.ownsRow base 103 4 v K.length xs) (hK : K.length ≤ 400000) (hcnt : cnt ≤ 400000) (hbase : base ≤ w.heap.size)
    (hO : IsMpC w bM cnt D) (hD : MDV D K V) (hx : wf4 (a, b, c, d)) (hc : K.contains (a, b, c, d) = false) (hi : i ≤ 1152) :
    Calls Try.prog 72 #[.agg #[.int .i64 a, .int .i64 b, .int .i64 c, .int .i64 d], .int .i64 (i : Nat), .pointer (some ⟨bm, 0, none⟩), .pointer (some ⟨bl, 0, none⟩)] w fun e w' => e = .returned (.bool true) ∧
      ∃ v', AgN w w' base bl bM (cnt + 1) (D.put (kl (a, b, c, d)) (.lit (.int .i64 (i : Nat)))) v v' (K.length + 1) (xs ++ [.int .i64 a, .int .i64 b, .int .i64 c, .int .i64 d]) := by
  obtain ⟨la, lc, rfl⟩ : ∃ la lc, v = .slice la K.length lc := by
    rcases hR.2 with ⟨h, h'⟩ | ⟨g, cap, cur, h, _⟩
    · exact ⟨none, 0, by rw [h, h']⟩
    · exact ⟨_, _, h⟩
  obtain ⟨i1, hi1, z0, z1, z2⟩ := info_parts infoK4
  have HO : Hid (IsMpC (w.alloc (.cells #[.int .i64 a, .int .i64 b, .int .i64 c, .int .i64 d] 103)) bM cnt D) := hO.alloc _
  have HH : Hid (Maps.has D (kl (a, b, c, d)) = false) := by show _ = _; rw [hD.has _ hx, hc]
  have HM := Lib.hid hM
  have HL := Lib.hid hL
  have HR := Lib.hid hR
  have m1 := (box1 hM).1
  have hml := lt_of_block hM
  have hll := lt_of_block hL
  have hMl := hO.lt
  have hNl := map_ne hO hL
  have hNm := map_ne hO hM
  have hlm : bl ≠ bm := by
    rintro rfl
    rw [hL] at hM
    simp at hM
  have HK := Lib.hid (key_of hx)
  have HX : Hid (w.heap.size = w.heap.size) := rfl
  clear hO hM hD hc hx hL hR
  go_enter Try.func72, Try.ntmps72
  go_wp2_with (first
    | (at_lookup; refine wpList_lookup_own_ok_int _ rfl _ _ 105 rfl 103 3 .i64 law4 Try.underlying105 Try.underlying3 (zeroIntC _) bM cnt D rfl HO.out (kv (a, b, c, d)) (kl (a, b, c, d)) rfl HK.out ?_; intro v hat hwc; rw [HH.out]; clear hat hwc)
    | (at_mapUpdate; refine wpList_mapUpdate_own _ rfl _ _ _ 105 rfl 103 3 law4 Try.underlying105 _ bM cnt D rfl HO.out (by unfold maxLen; omega) (kv (a, b, c, d)) _ (kl (a, b, c, d)) rfl rfl HK.out (.lit (.int .i64 (i : Nat))) [] (plainElem_int Try.underlying3 (by simp [Lit.wf, IntKind.min, IntKind.max, IntKind.signed, IntKind.bits]; omega)) ?_; intro w3 hown3 hg3; have HO3 := Lib.hid hown3; have HG3 := Lib.hid hg3; have HL3 : Hid (w3.heap[bl]? = some (.cells #[.slice la K.length lc] 113 (0, 0))) := (hg3.block bl (by simp; omega) (by simp; omega)).trans (block_alloc HL.out _); have HF3 : Hid (w3.heap[w.heap.size]? = some (.cells #[.int .i64 a, .int .i64 b, .int .i64 c, .int .i64 d] 103 (0, 0))) := (hg3.block _ (by simp) (by simp; omega)).trans (heap_alloc_new w _); have HR3 : Hid (w3.ownsRow base 103 4 (.slice la K.length lc) K.length xs) := row_grownC HR.out HO.out hg3; have l3 := (box1 HL3.out).1; obtain ⟨⟨f1, f2, f3, f4⟩, _⟩ := four_of_block HF3.out; have hz3 := lt_of_block HF3.out; have hz4 := lt_of_block HL3.out; clear hown3 hg3)
    | (at_builtin; (refine wpList_append_own_at _ rfl _ _ 113 rfl base 103 i1 (.agg #[.int .i64 0, .int .i64 0, .int .i64 0, .int .i64 0]) 4 32 Try.underlying113 hi1 z0 z1 z2 rfl (by decide) _ _ _ rfl (HR3.out.alloc _) ⟨w3.heap.size, 0, none⟩ 1 1 [.int .i64 a, .int .i64 b, .int .i64 c, .int .i64 d] rfl rfl (cell_four_newC _ _ _ _ _ _) (fun x hx => by simp at hx; rcases hx with rfl | rfl | rfl | rfl <;> rfl) (by unfold maxLen; omega) (by omega) (by simp; omega) ?_); intro v' w4 hown4 hg4 hnil4 hat4; obtain ⟨A2, c2, rfl⟩ := own_len hown4; have HR4 := Lib.hid hown4; have HG4 : Hid ((w3.alloc (.cells #[.int .i64 a, .int .i64 b, .int .i64 c, .int .i64 d] 103)).grownBy w4 (Value.slice la K.length lc).ownBlock) := hg4; have HA4 : Hid ((Value.slice A2 (K.length + 1) c2).ownBlock = (Value.slice la K.length lc).ownBlock ∨ (Value.slice A2 (K.length + 1) c2).ownBlock = some (w3.alloc (.cells #[.int .i64 a, .int .i64 b, .int .i64 c, .int .i64 d] 103)).heap.size) := hat4; have HL4 : Hid (w4.heap[bl]? = some (.cells #[.slice la K.length lc] 113 (0, 0))) := (hg4.block bl (by simp; omega) (row_neC HR3.out HL3.out (by decide))).trans (block_alloc HL3.out _); have l4 := (box1 HL4.out).1; have hz5 := lt_of_block HL4.out; have f4' := (box1 HL4.out).2; clear hown4 hg4 hnil4 hat4)
    | fail)
  have s3 := HG3.out.size
  have s4 := HG4.out.size
  simp at s3 s4
  have e1 : some bM ≠ (Value.slice la K.length lc).ownBlock := fun k => by
    obtain ⟨_, cur, hc⟩ := row_lt HR3.out k.symm
    exact map_ne HO3.out hc rfl
  have e2 : w4.heap[bM]? = w3.heap[bM]? := (HG4.out.block bM (by simp; omega) e1).trans ((below1 w3 _).block bM (by omega))
  go_ret
  refine ⟨rfl, _, heap_setCell_same _ bl 0 #[_] _ _ HL4.out, World.ownsMap.setCell (map_keep HO3.out e2) (by simp; omega) _, row_keep HR4.out (fun g hg => set_ne rfl (fun k => ?_) _), ?_, ?_, ?_, ?_, ?_, fun i hi h1 h2 h3 => ?_⟩
  · subst k
    exact row_neC HR4.out HL4.out (by decide) hg.symm
  · rcases HA4.out with h | h
    · exact .inl h
    · exact .inr ⟨_, h, by simp; omega⟩
  · simp; omega
  · exact HG4.out.os.trans HG3.out.os
  · exact HG4.out.tape.trans HG3.out.tape
  · exact HG4.out.output.trans HG3.out.output
  · exact set_ne ((HG4.out.block i (by simp; omega) h3).trans (((below1 w3 _).block i (by omega)).trans ((HG3.out.block i (by simp; omega) (by simp; omega)).trans ((below1 w _).block i (by omega))))) h2 _
end Go.Proofs.Ytilfkppapimocaa
namespace Go.Proofs.Ytilfkppapimocaa
set_option linter.unusedVariables false

/-- The matrices found so far, and the point of each; one more. -/
def cpAdd (s : List K4 × List Nat) (x : K4) (j : Nat) : List K4 × List Nat := if s.1.contains x then s else (s.1 ++ [x], s.2 ++ [j])
def cpS (n : Int) (x : K4) : K4 := (x.2.1, (n - x.1) % n, x.2.2.2, (n - x.2.2.1) % n)
def cpT (n : Int) (x : K4) : K4 := (x.1, (x.1 + x.2.1) % n, x.2.2.1, (x.2.2.1 + x.2.2.2) % n)
/-- Behind k rounds. -/
def cpst (g f : Nat → Nat) (n : Int) : Nat → List K4 × List Nat
  | 0 => ([(1 % n, 0, 0, 1 % n)], [0])
  | k + 1 => cpAdd (cpAdd (cpst g f n k) (cpS n ((cpst g f n k).1.getD k (0, 0, 0, 0))) (g ((cpst g f n k).2.getD k 0))) (cpT n ((cpst g f n k).1.getD k (0, 0, 0, 0))) (f ((cpst g f n k).2.getD k 0))
/-- What holds in each round before the last: the matrix is there, its entries are small, and both neighbours agree. -/
def cpOk (g f : Nat → Nat) (n : Int) (m k : Nat) : Prop :=
  k < (cpst g f n k).1.length ∧ (cpst g f n k).1.length = (cpst g f n k).2.length ∧ (cpst g f n k).1.idxOf ((cpst g f n k).1.getD k (0, 0, 0, 0)) = k ∧ (cpst g f n k).2.getD k 0 < m ∧
  (∀ e ∈ [((cpst g f n k).1.getD k (0, 0, 0, 0)).1, ((cpst g f n k).1.getD k (0, 0, 0, 0)).2.1, ((cpst g f n k).1.getD k (0, 0, 0, 0)).2.2.1, ((cpst g f n k).1.getD k (0, 0, 0, 0)).2.2.2], 0 ≤ e ∧ e < n) ∧
  (cpAdd (cpst g f n k) (cpS n ((cpst g f n k).1.getD k (0, 0, 0, 0))) (g ((cpst g f n k).2.getD k 0))).2.getD ((cpAdd (cpst g f n k) (cpS n ((cpst g f n k).1.getD k (0, 0, 0, 0))) (g ((cpst g f n k).2.getD k 0))).1.idxOf (cpS n ((cpst g f n k).1.getD k (0, 0, 0, 0)))) 0 = g ((cpst g f n k).2.getD k 0) ∧
  (cpst g f n (k + 1)).2.getD ((cpst g f n (k + 1)).1.idxOf (cpT n ((cpst g f n k).1.getD k (0, 0, 0, 0)))) 0 = f ((cpst g f n k).2.getD k 0)
instance (g f : Nat → Nat) (n : Int) (m k : Nat) : Decidable (cpOk g f n m k) := by unfold cpOk; infer_instance
/-- At the three points modulo 2: six matrices, every one agrees. -/
theorem cp3 : (∀ k, k < 6 → cpOk (fnz [1, 0, 2]) (fnz [0, 2, 1]) 2 3 k) ∧ (cpst (fnz [1, 0, 2]) (fnz [0, 2, 1]) 2 6).1.length = 6 := by decide +kernel
/-- What a known matrix is told. -/
theorem cpAdd_old {s : List K4 × List Nat} {x : K4} {j : Nat} (h : s.1.contains x = true) : cpAdd s x j = s := if_pos h
theorem cpAdd_new {s : List K4 × List Nat} {x : K4} {j : Nat} (h : s.1.contains x = false) : cpAdd s x j = (s.1 ++ [x], s.2 ++ [j]) := if_neg (by rw [h]; decide)
end Go.Proofs.Ytilfkppapimocaa
namespace Go.Proofs.Ytilfkppapimocaa
open Go.RowKit
open Go.Maps (Keyed)
set_option linter.unusedVariables false

/-- The cells of a list of matrices. -/
def ks (K : List K4) : List Value := K.flatMap fun x => [.int .i64 x.1, .int .i64 x.2.1, .int .i64 x.2.2.1, .int .i64 x.2.2.2]
theorem ks_push (K : List K4) (x : K4) : ks (K ++ [x]) = ks K ++ [.int .i64 x.1, .int .i64 x.2.1, .int .i64 x.2.2.1, .int .i64 x.2.2.2] := by simp [ks]
/-- The boxes of containsPrincipal called in w: the action (w), the list's box (lb), the map (mb), its box (bm). -/
structure CGV (w wr : World) (bm lb mb : Nat) (xs : Array Value) (s : List K4 × List Nat) (vl : Value) : Prop where
  x : wr.heap[w.heap.size]? = some (.cells xs 47 (0, 0))
  l : wr.heap[lb]? = some (.cells #[vl] 113 (0, 0))
  m : wr.heap[bm]? = some (.cells #[.map (some (mb))] 105 (0, 0))
  own : ∃ D, IsMpC wr (mb) s.1.length D ∧ MDV D s.1 s.2
  row : wr.ownsRow w.heap.size 103 4 vl s.1.length (ks s.1)
  bel : Below w.heap.size w wr
  glb : w.heap.size ≤ lb
  gmb : w.heap.size ≤ mb
section
variable {w wr w' : World} {bm lb mb : Nat} {xs : Array Value} {s : List K4 × List Nat} {vl : Value}
theorem CGV.drew (h : CGV w wr bm lb mb xs s vl) : CGV w wr.drew bm lb mb xs s vl := ⟨h.x, h.l, h.m, by obtain ⟨D, h1, h2⟩ := h.own; exact ⟨D, map_keep h1 rfl, h2⟩, own_low h.row fun _ _ => rfl, h.bel.drew, h.glb, h.gmb⟩
theorem CGV.alloc (h : CGV w wr bm lb mb xs s vl) (o : Obj) : CGV w (wr.alloc o) bm lb mb xs s vl := ⟨block_alloc h.x _, block_alloc h.l _, block_alloc h.m _, by obtain ⟨D, h1, h2⟩ := h.own; exact ⟨D, h1.alloc _, h2⟩, h.row.alloc _, h.bel.alloc h.bel.size _, h.glb, h.gmb⟩
/-- The closure on a matrix that agrees: the state goes on, and every box of another type, and every younger one of the matrices' type, stays. -/
theorem cg_agree {y : K4} {j : Nat} (h : CGV w wr bm lb mb xs s vl) (hy : wf4 y) (hj : j ≤ 1152) (hK : s.1.length ≤ 400000) (ha : (cpAdd s y j).2.getD ((cpAdd s y j).1.idxOf y) 0 = j) :
    Calls Try.prog 72 #[.agg #[.int .i64 y.1, .int .i64 y.2.1, .int .i64 y.2.2.1, .int .i64 y.2.2.2], .int .i64 (j : Nat), .pointer (some ⟨bm, 0, none⟩), .pointer (some ⟨lb, 0, none⟩)] wr fun e w' => e = .returned (.bool true) ∧
      ∃ vl', CGV w w' bm lb mb xs (cpAdd s y j) vl' ∧ wr.heap.size ≤ w'.heap.size ∧ (vl'.ownBlock = vl.ownBlock ∨ ∃ g, vl'.ownBlock = some g ∧ wr.heap.size ≤ g) ∧ ∀ i, i < wr.heap.size → i ≠ mb → i ≠ lb → some i ≠ vl.ownBlock → w'.heap[i]? = wr.heap[i]? := by
  obtain ⟨D, hO, hD⟩ := h.own
  obtain ⟨a, b, c, d⟩ := y
  cases hc : s.1.contains (a, b, c, d) with
  | true =>
    rw [cpAdd_old hc] at ha ⊢
    refine (agree_old (bl := lb) wr h.m hO hD hy hc ha).mono ?_
    rintro e w' ⟨rfl, rfl⟩
    exact ⟨rfl, vl, h.alloc _, by simp, .inl rfl, fun i hi _ _ _ => Below.heap_alloc _ _ _ hi⟩
  | false =>
    rw [cpAdd_new hc] at ha ⊢
    have hsz := h.bel.size
    refine (agree_new wr h.m h.l h.row hK hK hsz hO hD hy hc hj).mono ?_
    rintro e w' ⟨rfl, v', hA⟩
    refine ⟨rfl, v', ⟨?_, hA.l, ?_, ⟨_, ?_, hD.put hy hc⟩, ?_, ⟨hA.os.trans h.bel.os, hA.tape.trans h.bel.tape, hA.out.trans h.bel.output, Nat.le_trans hsz hA.size, fun i hi => ?_⟩, h.glb, h.gmb⟩, hA.size, hA.at_, hA.rest⟩
    · exact (hA.rest _ (lt_of_block h.x) (map_ne hO h.x) (fun e => by have := h.x; rw [e, h.l] at this; simp at this) (row_neC h.row h.x (by decide))).trans h.x
    · exact (hA.rest _ (lt_of_block h.m) (map_ne hO h.m) (fun e => by have := h.m; rw [e, h.l] at this; simp at this) (row_neC h.row h.m (by decide))).trans h.m
    · show IsMpC w' _ (s.1 ++ [(a, b, c, d)]).length _
      rw [List.length_append]
      exact hA.own
    · show w'.ownsRow _ _ 4 v' (s.1 ++ [(a, b, c, d)]).length (ks (s.1 ++ [(a, b, c, d)]))
      rw [List.length_append, ks_push]
      exact hA.row
    · have g1 := h.glb
      have g2 := h.gmb
      refine (hA.rest i (by omega) (by omega) (by omega) ?_).trans (h.bel.block i hi)
      intro e
      have := (row_lt h.row e.symm).1
      omega
end
/-- The loop's first world. -/
theorem cg_start {w W1 w2 : World} {xs : Array Value} {D : DataW Unit} (hX : W1.heap[w.heap.size]? = some (.cells xs 47 (0, 0))) (hB : Below w.heap.size w W1) (hO : IsMpC w2 (W1.heap.size + 1 + 1) 1 D) (hD : MDV D [(1, 0, 0, 1)] [0])
    (hg : (((W1.alloc (.cells #[.int .i64 1, .int .i64 0, .int .i64 0, .int .i64 1] 103)).alloc (.cells #[.slice (some ⟨W1.heap.size, 0, none⟩) 1 1] 113)).alloc (.map #[] 0)).grownBy w2 (some (W1.heap.size + 1 + 1))) :
    CGV w (w2.alloc (.cells #[.map (some (W1.heap.size + 1 + 1))] 105)) w2.heap.size (W1.heap.size + 1) (W1.heap.size + 1 + 1) xs ([(1, 0, 0, 1)], [0]) (.slice (some ⟨W1.heap.size, 0, none⟩) 1 1) := by
  have hs1 := hB.size
  have hs2 := hg.size
  have hzz : (((W1.alloc (.cells #[.int .i64 1, .int .i64 0, .int .i64 0, .int .i64 1] 103)).alloc (.cells #[.slice (some ⟨W1.heap.size, 0, none⟩) 1 1] 113)).alloc (.map #[] 0)).heap.size = W1.heap.size + 3 := by simp
  have go : ∀ {g : Nat} {o : Obj}, (((W1.alloc (.cells #[.int .i64 1, .int .i64 0, .int .i64 0, .int .i64 1] 103)).alloc (.cells #[.slice (some ⟨W1.heap.size, 0, none⟩) 1 1] 113)).alloc (.map #[] 0)).heap[g]? = some o → g ≠ W1.heap.size + 1 + 1 → w2.heap[g]? = some o := fun hc hne =>
    (hg.block _ (lt_of_block hc) (by simpa using hne)).trans hc
  have lx := lt_of_block hX
  have hx := go (block_alloc (block_alloc (block_alloc hX _) _) _) (by omega)
  have hb := go (block_alloc (block_alloc (heap_alloc_new W1 (.cells #[.int .i64 1, .int .i64 0, .int .i64 0, .int .i64 1] 103)) _) _) (by omega)
  have hl0 := heap_alloc_new (W1.alloc (.cells #[.int .i64 1, .int .i64 0, .int .i64 0, .int .i64 1] 103)) (.cells #[.slice (some ⟨W1.heap.size, 0, none⟩) 1 1] 113)
  rw [show (W1.alloc (.cells #[.int .i64 1, .int .i64 0, .int .i64 0, .int .i64 1] 103)).heap.size = W1.heap.size + 1 by simp] at hl0
  have hl := go (block_alloc hl0 (.map #[] 0)) (by omega)
  refine ⟨block_alloc hx _, block_alloc hl _, heap_alloc_new w2 _, ⟨D, hO.alloc _, hD⟩, ⟨rfl, .inr ⟨W1.heap.size, 1, _, rfl, hs1, block_alloc hb _, Nat.le_refl 1, by unfold maxLen; omega, rfl, rfl⟩⟩, ?_, by omega, by omega⟩
  have h3 : Below w.heap.size w w2 := ⟨hg.os.trans hB.os, hg.tape.trans hB.tape, hg.output.trans hB.output, by omega, fun i hi => (hg.block i (by omega) (by simp; omega)).trans (((below1 _ _).block i (by simp; omega)).trans (((below2 W1 _ _).block i (by omega)).trans (hB.block i hi)))⟩
  exact h3.alloc h3.size _
end Go.Proofs.Ytilfkppapimocaa
namespace Go.Proofs.Ytilfkppapimocaa
open Go.RowKit
open Go.Maps (Keyed)
set_option linter.unusedVariables false
set_option linter.unusedSimpArgs false

theorem wpList_insert_ownC {H : Type} {P : Program} (w : World) {ops : Array Oper} {rest : List Oper} {o : Oper} {a : Act} {Q : Exit → Act → World → Prop}
    (hg : o.guard = none) (m x v : Operand) (t : TypeId) (hop : o.op = Op.insert t m x v)
    (k e : TypeId) (K : Keyed P k) (ht : P.underlying t = some (.map k e)) (R : Value → Option (DataW H × List MemPlace)) (b n : Nat) (D : DataW H)
    (hm : a.eval m = .map (some b)) (hown : w.ownsMap P k R b n D) (hn : n < maxLen) (key val : Value) (kl : Lit) (hx : a.eval x = key) (hv : a.eval v = val) (hkey : keyOf P k key = some kl)
    (d : DataW H) (ps : List MemPlace) (hval : R val = some (d, ps))
    (hK : ∀ w', w'.ownsMap P k R b (n + 1) (D.put kl d) → w.grownBy w' (some b) → wpList P ops Q rest (a.put o.dst undef) w') :
    wpList P ops Q (o :: rest) a w := by
  refine wpList_plain hg fun K' hK' => ?_
  obtain ⟨w', hrun, r1, r2⟩ := hown.update K ht hn hkey hval
  unfold Oper.wp
  simp [execOp, hop, hm, hx, hv, hrun, Result.andThen]
  exact hK' _ _ (hK w' r1 r2)
theorem ks_at : ∀ (L : List K4) {i : Nat} (h : i < L.length), (ks L)[i * 4]? = some (.int .i64 L[i].1) ∧ (ks L)[i * 4 + 1]? = some (.int .i64 L[i].2.1) ∧ (ks L)[i * 4 + 2]? = some (.int .i64 L[i].2.2.1) ∧ (ks L)[i * 4 + 3]? = some (.int .i64 L[i].2.2.2)
  | m :: L, 0, h => ⟨rfl, rfl, rfl, rfl⟩
  | m :: L, i + 1, h => by
    have e : ks (m :: L) = ([.int .i64 m.1, .int .i64 m.2.1, .int .i64 m.2.2.1, .int .i64 m.2.2.2] : List Value) ++ ks L := rfl
    have ih := ks_at L (i := i) (by simpa using h)
    have hl : ([.int .i64 m.1, .int .i64 m.2.1, .int .i64 m.2.2.1, .int .i64 m.2.2.2] : List Value).length = 4 := rfl
    rw [e]
    refine ⟨?_, ?_, ?_, ?_⟩
    · rw [List.getElem?_append_right (by omega), show (i + 1) * 4 - ([.int .i64 m.1, .int .i64 m.2.1, .int .i64 m.2.2.1, .int .i64 m.2.2.2] : List Value).length = i * 4 by omega]; exact ih.1
    · rw [List.getElem?_append_right (by omega), show (i + 1) * 4 + 1 - ([.int .i64 m.1, .int .i64 m.2.1, .int .i64 m.2.2.1, .int .i64 m.2.2.2] : List Value).length = i * 4 + 1 by omega]; exact ih.2.1
    · rw [List.getElem?_append_right (by omega), show (i + 1) * 4 + 2 - ([.int .i64 m.1, .int .i64 m.2.1, .int .i64 m.2.2.1, .int .i64 m.2.2.2] : List Value).length = i * 4 + 2 by omega]; exact ih.2.2.1
    · rw [List.getElem?_append_right (by omega), show (i + 1) * 4 + 3 - ([.int .i64 m.1, .int .i64 m.2.1, .int .i64 m.2.2.1, .int .i64 m.2.2.2] : List Value).length = i * 4 + 3 by omega]; exact ih.2.2.2
theorem krow_at {w : World} {B : Nat} {v : Value} {L : List K4} (h : w.ownsRow B 103 4 v L.length (ks L)) {i : Nat} (hi : i < L.length) : ∃ g cap, v = .slice (some ⟨g, 0, none⟩) L.length cap ∧ g < w.heap.size ∧
    w.cell? ⟨g, i * 4, none⟩ = some (.int .i64 L[i].1) ∧ w.cell? ⟨g, i * 4 + 1, none⟩ = some (.int .i64 L[i].2.1) ∧ w.cell? ⟨g, i * 4 + 2, none⟩ = some (.int .i64 L[i].2.2.1) ∧ w.cell? ⟨g, i * 4 + 3, none⟩ = some (.int .i64 L[i].2.2.2) := by
  have h2 := h.2
  rcases h2 with ⟨_, h0⟩ | ⟨g, cap, cur, rfl, hb, hg, _⟩
  · omega
  · have hc : ∀ j u, (ks L)[j]? = some u → w.cell? ((⟨g, 0, none⟩ : Addr).add j) = some u := h.cells (g := g) rfl
    obtain ⟨m1, m2, m3, m4⟩ := ks_at L hi
    have e : ∀ j, (⟨g, 0, none⟩ : Addr).add j = ⟨g, j, none⟩ := fun j => by unfold Addr.add; split <;> simp_all
    refine ⟨g, cap, rfl, lt_of_block hg, ?_, ?_, ?_, ?_⟩
    · rw [← e]; exact hc _ _ m1
    · rw [← e]; exact hc _ _ m2
    · rw [← e]; exact hc _ _ m3
    · rw [← e]; exact hc _ _ m4
theorem wfs {x : K4} (h : ∀ e ∈ [x.1, x.2.1, x.2.2.1, x.2.2.2], 0 ≤ e ∧ e < 1000) : wf4 x := by
  have h1 := h x.1 (by simp)
  have h2 := h x.2.1 (by simp)
  have h3 := h x.2.2.1 (by simp)
  have h4 := h x.2.2.2 (by simp)
  refine ⟨?_, ?_, ?_, ?_⟩ <;> (simp [Lit.wf, IntKind.min, IntKind.max, IntKind.signed, IntKind.bits]; omega)
/-- The world within a round: the boxes of both neighbours. -/
structure CGR (w W : World) (bm lb mb gs gt : Nat) (xs p q : Array Value) (s : List K4 × List Nat) (vl : Value) : Prop where
  v : CGV w W bm lb mb xs s vl
  s : W.heap[gs]? = some (.cells p 103 (0, 0))
  t : W.heap[gt]? = some (.cells q 103 (0, 0))
  ns : some gs ≠ vl.ownBlock
  nt : some gt ≠ vl.ownBlock
theorem CGR.drew {w W : World} {bm lb mb gs gt : Nat} {xs p q : Array Value} {s : List K4 × List Nat} {vl : Value} (h : CGR w W bm lb mb gs gt xs p q s vl) : CGR w W.drew bm lb mb gs gt xs p q s vl := ⟨h.v.drew, h.s, h.t, h.ns, h.nt⟩
theorem CGR.cells {gF fF : Nat → Nat} {m : Nat} {w W : World} {bm lb mb gs gt bS oS bT oT cS cT i : Nat} {a b c d a' b' c' d' : Value} {s : List K4 × List Nat} {vl : Value} (h : CGR w W bm lb mb gs gt #[.slice (some ⟨bS, oS, none⟩) m cS, .slice (some ⟨bT, oT, none⟩) m cT] #[a, b, c, d] #[a', b', c', d'] s vl) (hs : RdN w w.heap.size bS oS m gF) (ht : RdN w w.heap.size bT oT m fF) (hi : i < m) :
    (W.cell? ⟨w.heap.size, 0, none⟩ = some (.slice (some ⟨bS, oS, none⟩) m cS) ∧ W.cell? ⟨w.heap.size, 1, none⟩ = some (.slice (some ⟨bT, oT, none⟩) m cT)) ∧ (W.cell? ⟨gs, 0, none⟩ = some a ∧ W.cell? ⟨gs, 1, none⟩ = some b ∧ W.cell? ⟨gs, 2, none⟩ = some c ∧ W.cell? ⟨gs, 3, none⟩ = some d) ∧ (W.cell? ⟨gt, 0, none⟩ = some a' ∧ W.cell? ⟨gt, 1, none⟩ = some b' ∧ W.cell? ⟨gt, 2, none⟩ = some c' ∧ W.cell? ⟨gt, 3, none⟩ = some d') ∧ W.cell? ⟨bS, oS + i, none⟩ = some (.int .i64 (gF i : Nat)) ∧ W.cell? ⟨bT, oT + i, none⟩ = some (.int .i64 (fF i : Nat)) :=
  ⟨(two_of_block h.v.x).1, (four_of_block h.s).1, (four_of_block h.t).1, (h.v.bel.cell (p := ⟨bS, oS + i, none⟩) hs.1).trans (hs.2 i hi), (h.v.bel.cell (p := ⟨bT, oT + i, none⟩) ht.1).trans (ht.2 i hi)⟩
theorem cgr_agree {w W : World} {bm lb mb gs gt : Nat} {xs p q : Array Value} {s : List K4 × List Nat} {vl : Value} {y : K4} {j : Nat} (h : CGR w W bm lb mb gs gt xs p q s vl) (hy : wf4 y) (hj : j ≤ 1152) (hK : s.1.length ≤ 400000) (ha : (cpAdd s y j).2.getD ((cpAdd s y j).1.idxOf y) 0 = j) :
    Calls Try.prog 72 #[.agg #[.int .i64 y.1, .int .i64 y.2.1, .int .i64 y.2.2.1, .int .i64 y.2.2.2], .int .i64 (j : Nat), .pointer (some ⟨bm, 0, none⟩), .pointer (some ⟨lb, 0, none⟩)] W fun e w' => e = .returned (.bool true) ∧ ∃ vl', CGR w w' bm lb mb gs gt xs p q (cpAdd s y j) vl' := by
  refine (cg_agree h.v hy hj hK ha).mono ?_
  rintro e w' ⟨rfl, vl', hV, hsz, hat, hrest⟩
  obtain ⟨D, hO, _⟩ := h.v.own
  have l1 := lt_of_block h.s
  have l2 := lt_of_block h.t
  have n : ∀ g, some g ≠ vl.ownBlock → g < W.heap.size → some g ≠ vl'.ownBlock := fun g hg hl e => by
    rcases hat with e' | ⟨g', e', h'⟩
    · exact hg (e.trans e')
    · rw [e'] at e
      cases e
      omega
  exact ⟨rfl, vl', hV, (hrest gs l1 (map_ne hO h.s) (ty_ne2 h.s h.v.l (by decide)) h.ns).trans h.s, (hrest gt l2 (map_ne hO h.t) (ty_ne2 h.t h.v.l (by decide)) h.nt).trans h.t, n gs h.ns l1, n gt h.nt l2⟩
theorem cg_startG {o : Int} {w W1 w2 : World} {xs : Array Value} {D : DataW Unit} (hX : W1.heap[w.heap.size]? = some (.cells xs 47 (0, 0))) (hB : Below w.heap.size w W1) (hO : IsMpC w2 (W1.heap.size + 1 + 1) 1 D) (hD : MDV D [(o, 0, 0, o)] [0])
    (hg : (((W1.alloc (.cells #[.int .i64 o, .int .i64 0, .int .i64 0, .int .i64 o] 103)).alloc (.cells #[.slice (some ⟨W1.heap.size, 0, none⟩) 1 1] 113)).alloc (.map #[] 0)).grownBy w2 (some (W1.heap.size + 1 + 1))) :
    CGV w (w2.alloc (.cells #[.map (some (W1.heap.size + 1 + 1))] 105)) w2.heap.size (W1.heap.size + 1) (W1.heap.size + 1 + 1) xs ([(o, 0, 0, o)], [0]) (.slice (some ⟨W1.heap.size, 0, none⟩) 1 1) := by
  have hs1 := hB.size
  have hs2 := hg.size
  have hzz : (((W1.alloc (.cells #[.int .i64 o, .int .i64 0, .int .i64 0, .int .i64 o] 103)).alloc (.cells #[.slice (some ⟨W1.heap.size, 0, none⟩) 1 1] 113)).alloc (.map #[] 0)).heap.size = W1.heap.size + 3 := by simp
  have go : ∀ {g : Nat} {ob : Obj}, (((W1.alloc (.cells #[.int .i64 o, .int .i64 0, .int .i64 0, .int .i64 o] 103)).alloc (.cells #[.slice (some ⟨W1.heap.size, 0, none⟩) 1 1] 113)).alloc (.map #[] 0)).heap[g]? = some ob → g ≠ W1.heap.size + 1 + 1 → w2.heap[g]? = some ob := fun hc hne =>
    (hg.block _ (lt_of_block hc) (by simpa using hne)).trans hc
  have lx := lt_of_block hX
  have hx := go (block_alloc (block_alloc (block_alloc hX _) _) _) (by omega)
  have hb := go (block_alloc (block_alloc (heap_alloc_new W1 (.cells #[.int .i64 o, .int .i64 0, .int .i64 0, .int .i64 o] 103)) _) _) (by omega)
  have hl0 := heap_alloc_new (W1.alloc (.cells #[.int .i64 o, .int .i64 0, .int .i64 0, .int .i64 o] 103)) (.cells #[.slice (some ⟨W1.heap.size, 0, none⟩) 1 1] 113)
  rw [show (W1.alloc (.cells #[.int .i64 o, .int .i64 0, .int .i64 0, .int .i64 o] 103)).heap.size = W1.heap.size + 1 by simp] at hl0
  have hl := go (block_alloc hl0 (.map #[] 0)) (by omega)
  refine ⟨block_alloc hx _, block_alloc hl _, heap_alloc_new w2 _, ⟨D, hO.alloc _, hD⟩, ⟨rfl, .inr ⟨W1.heap.size, 1, _, rfl, hs1, block_alloc hb _, Nat.le_refl 1, by unfold maxLen; omega, rfl, rfl⟩⟩, ?_, by omega, by omega⟩
  have h3 : Below w.heap.size w w2 := ⟨hg.os.trans hB.os, hg.tape.trans hB.tape, hg.output.trans hB.output, by omega, fun i hi => (hg.block i (by omega) (by simp; omega)).trans (((below1 _ _).block i (by simp; omega)).trans (((below2 W1 _ _).block i (by omega)).trans (hB.block i hi)))⟩
  exact h3.alloc h3.size _
set_option maxHeartbeats 6400000 in
set_option maxRecDepth 1000000 in
theorem contains_gen {gF fF : Nat → Nat} {n : Int} {m R : Nat} {bS oS bT oT cS cT : Nat} (w : World) (n1 : 1 ≤ n) (n2 : n ≤ 24) (hm : m ≤ 1152) (hpS : Prm gF m) (hpT : Prm fF m) (hOk : ∀ k, k < R → cpOk gF fF n m k) (hRl : (cpst gF fF n R).1.length = R) (hR2 : ∀ k, k < R → (cpst gF fF n k).1.length ≤ 350000) (hs : RdN w w.heap.size bS oS m gF) (ht : RdN w w.heap.size bT oT m fF) :
    Calls Try.prog 59 #[.agg #[.slice (some ⟨bS, oS, none⟩) m cS, .slice (some ⟨bT, oT, none⟩) m cT], .int .i64 n] w fun e w' => e = .returned (.bool true) ∧ Below w.heap.size w w' := by
  have HS := Lib.hid hs
  have HT := Lib.hid ht
  have hmm := @run_makeMap Try.prog
  have HOk := Lib.hid hOk
  have HRl := Lib.hid hRl
  have HLen := Lib.hid hR2
  have HPr := Lib.hid (And.intro hpS hpT)
  obtain ⟨o, ho⟩ : ∃ o, o = 1 % n := ⟨_, rfl⟩
  have ho1 : (1 : Int).tmod n = o := by rw [ho]; exact Int.tmod_eq_emod_of_nonneg (by decide)
  have ho2 : 0 ≤ o := by rw [ho]; exact Int.emod_nonneg _ (by omega)
  have ho3 : o ≤ 1 := by
    rw [ho]
    by_cases e : n = 1
    · rw [e]; decide
    · rw [Int.emod_eq_of_lt (by decide) (by omega)]; exact Int.le_refl 1
  have HOn : Hid (cpst gF fF n 0 = ([(o, 0, 0, o)], [0])) := by show _ = _; rw [ho]; rfl
  have hn0 : ¬ n = 0 := by omega
  clear hOk hRl hR2 hpS hpT ho
  have hw1 : wf4 (o, 0, 0, o) := wfs (by simp; omega)
  have HKey := Lib.hid (key_of hw1)
  clear hs ht
  go_enter Try.func59, Try.ntmps59
  go_wp2
  go_region
  obtain ⟨W1, hW1⟩ : ∃ W1, W1 = ((w.alloc (.cells #[.slice (some ⟨bS, oS, none⟩) m cS, .slice (some ⟨bT, oT, none⟩) m cT] 47)).alloc (.cells #[.int .i64 o, .int .i64 0, .int .i64 0, .int .i64 o] 103)).drew := ⟨_, rfl⟩
  have HX1 : Hid (W1.heap[w.heap.size]? = some (.cells #[.slice (some ⟨bS, oS, none⟩) m cS, .slice (some ⟨bT, oT, none⟩) m cT] 47 (0, 0))) := by rw [hW1]; exact block_alloc (heap_alloc_new w _) _
  have HF1 : Hid (W1.heap[w.heap.size + 1]? = some (.cells #[.int .i64 o, .int .i64 0, .int .i64 0, .int .i64 o] 103 (0, 0))) := by
    have := heap_alloc_new (w.alloc (.cells #[.slice (some ⟨bS, oS, none⟩) m cS, .slice (some ⟨bT, oT, none⟩) m cT] 47)) (.cells #[.int .i64 o, .int .i64 0, .int .i64 0, .int .i64 o] 103)
    rw [show (w.alloc (.cells #[.slice (some ⟨bS, oS, none⟩) m cS, .slice (some ⟨bT, oT, none⟩) m cT] 47)).heap.size = w.heap.size + 1 by simp] at this
    rw [hW1]; exact this
  have hsz1 : W1.heap.size = w.heap.size + 2 := by rw [hW1]; show ((w.alloc _).alloc _).heap.size = _; simp
  have HB1 : Hid (Below w.heap.size w W1) := by rw [hW1]; exact (below2 w _ _).drew
  rw [← hW1]
  clear hW1
  obtain ⟨⟨f1, f2, f3, f4⟩, _⟩ := four_of_block HF1.out
  have hl1 := lt_of_block HF1.out
  have HM0 : Hid (IsMpC (((W1.alloc (.cells #[.int .i64 o, .int .i64 0, .int .i64 0, .int .i64 o] 103)).alloc (.cells #[.slice (some ⟨W1.heap.size, 0, none⟩) 1 1] 113)).alloc (.map #[] 0)) (W1.heap.size + 1 + 1) 0 (.map [])) := by
    have := World.ownsMap_made ((W1.alloc (.cells #[.int .i64 o, .int .i64 0, .int .i64 0, .int .i64 o] 103)).alloc (.cells #[.slice (some ⟨W1.heap.size, 0, none⟩) 1 1] 113)) Try.prog 103 (plainElem (H := Unit) Try.prog 3)
    show World.ownsMap _ _ _ _ _ _ _
    simpa using this
  have hF6 : (((W1.alloc (.cells #[.int .i64 o, .int .i64 0, .int .i64 0, .int .i64 o] 103)).alloc (.cells #[.slice (some ⟨W1.heap.size, 0, none⟩) 1 1] 113)).alloc (.map #[] 0)).heap[w.heap.size + 1]? = some (.cells #[.int .i64 o, .int .i64 0, .int .i64 0, .int .i64 o] 103 (0, 0)) := block_alloc (block_alloc (block_alloc HF1.out _) _) _
  obtain ⟨⟨k1, k2, k3, k4⟩, _⟩ := four_of_block hF6
  have HSz1 := Lib.hid hsz1
  clear hsz1
  go_wp2_with (first
    | (refine wpList_insert_ownC _ rfl _ _ _ 105 rfl 103 3 law4 Try.underlying105 _ (W1.heap.size + 1 + 1) 0 (.map []) rfl HM0.out (by decide) (kv (o, 0, 0, o)) _ (kl (o, 0, 0, o)) rfl rfl HKey.out (.lit (.int .i64 0)) [] (plainElem_int Try.underlying3 (by decide)) ?_; intro w2 hown2 hg2; have HO2 := Lib.hid hown2; have HG2 := Lib.hid hg2; clear hown2 hg2)
    | fail)
  have HC0 : Hid (CGV w (w2.alloc (.cells #[.map (some (W1.heap.size + 1 + 1))] 105)) w2.heap.size (W1.heap.size + 1) (W1.heap.size + 1 + 1) #[.slice (some ⟨bS, oS, none⟩) m cS, .slice (some ⟨bT, oT, none⟩) m cT] (cpst gF fF n 0) (.slice (some ⟨W1.heap.size, 0, none⟩) 1 1)) :=
    by rw [HOn.out]; exact Lib.hid (cg_startG HX1.out HB1.out HO2.out (MDV.nil.put (i := 0) hw1 rfl) HG2.out)
  go_loopw [9, 10, 11, 12, 13] (fun I _ _ _ _ wr => ∃ (k : Nat) (vl : Value), I = .int .i64 (k : Nat) ∧ k ≤ R ∧ Hid (CGV w wr w2.heap.size (W1.heap.size + 1) (W1.heap.size + 1 + 1) #[.slice (some ⟨bS, oS, none⟩) m cS, .slice (some ⟨bT, oT, none⟩) m cT] (cpst gF fF n k) vl)) (fun I _ _ _ _ _ => R - (intOf I).toNat)
  case atStart => exact ⟨0, _, rfl, Nat.zero_le _, HC0.out⟩
  case round =>
    clear HC0
    obtain ⟨k, vl, rfl, hk, HV⟩ := hrel
    by_cases hlt : k < R
    · obtain ⟨q1, q2, q3, q4, q5, q6, q7⟩ := HOk.out k hlt
      have hN : cpst gF fF n (k + 1) = cpAdd (cpAdd (cpst gF fF n k) (cpS n ((cpst gF fF n k).1.getD k (0, 0, 0, 0))) (gF ((cpst gF fF n k).2.getD k 0))) (cpT n ((cpst gF fF n k).1.getD k (0, 0, 0, 0))) (fF ((cpst gF fF n k).2.getD k 0)) := rfl
      rw [hN] at q7
      have HN := Lib.hid hN
      have hlen1 := HLen.out k hlt
      have hkb : (k : Int) ≤ 400000 := by omega
      clear hN
      generalize cpst gF fF n k = s at *
      obtain ⟨K, V⟩ := s
      dsimp only at q1 q2 q3 q4 q5 q6 q7 hlen1 HN
      rw [show K.getD k (0, 0, 0, 0) = K[k] by simp [List.getD, q1]] at q3 q5 q6 q7 HN
      have hrow := HV.out.row
      obtain ⟨g, cap, rfl, hg, r1, r2, r3, r4⟩ := krow_at hrow q1
      obtain ⟨⟨a, b, c, d⟩, hmK⟩ : ∃ x, x = K[k] := ⟨_, rfl⟩
      have HMem : Hid ((a, b, c, d) ∈ K) := by show _ ∈ _; rw [hmK]; exact List.getElem_mem _
      rw [← hmK] at q3 q5 q6 q7 HN r1 r2 r3 r4
      obtain ⟨a2, ha2⟩ : ∃ a2, a2 = (n - a) % n := ⟨_, rfl⟩
      obtain ⟨c2, hc2⟩ : ∃ c2, c2 = (n - c) % n := ⟨_, rfl⟩
      obtain ⟨ab, hab⟩ : ∃ ab, ab = (a + b) % n := ⟨_, rfl⟩
      obtain ⟨cd, hcd⟩ : ∃ cd, cd = (c + d) % n := ⟨_, rfl⟩
      have hcS : cpS n (a, b, c, d) = (b, a2, d, c2) := by rw [ha2, hc2]; rfl
      have hcT : cpT n (a, b, c, d) = (a, ab, c, cd) := by rw [hab, hcd]; rfl
      rw [hcS] at q6 q7 HN
      rw [hcT] at q7 HN
      clear hcS hcT
      have HQ3 := Lib.hid q3
      have HQ6 := Lib.hid q6
      have HQ7 := Lib.hid q7
      dsimp only at r1 r2 r3 r4 q5
      have HWf := Lib.hid (wfs (x := (a, b, c, d)) (fun e he => by have := q5 e he; omega))
      obtain ⟨D, hOD, hMD⟩ := HV.out.own
      have HOD := Lib.hid hOD
      have HAt : Hid (D.atKey (kl (a, b, c, d)) (.lit (.int .i64 0)) = .lit (.int .i64 (V.getD k 0 : Nat))) := by
        show _ = _
        rw [hMD.at_ _ HWf.out HMem.out]
        dsimp only
        rw [HQ3.out]
      have HKy := Lib.hid (key_of HWf.out)
      have qq1 := q5 a (by simp)
      have qq2 := q5 b (by simp)
      have qq3 := q5 c (by simp)
      have qq4 := q5 d (by simp)
      have HI := Lib.hid q4
      clear q2 q3 q4 q5 q6 q7 hmK hrow hOD hMD
      obtain ⟨l1, l2⟩ := box1 HV.out.l
      obtain ⟨m1, m2⟩ := box1 HV.out.m
      have hzl := lt_of_block HV.out.l
      have hzm := lt_of_block HV.out.m
      generalize V.getD k 0 = i at *
      have hki : (k : Int) < (K.length : Int) := by omega
      go_wp2_with (first
        | (at_lookup; refine wpList_lookup_own_int _ rfl _ _ 105 rfl 103 3 .i64 law4 Try.underlying105 Try.underlying3 (zeroIntC _) (W1.heap.size + 1 + 1) K.length D rfl (HOD.out.alloc _) (kv (a, b, c, d)) (kl (a, b, c, d)) rfl HKy.out ?_; intro v hat hwc; have HV9 := Lib.hid (hat.symm.trans HAt.out); clear hat hwc)
        | fail)
      obtain rfl : v = (i : Nat) := by
        have := HV9.out
        simpa using this
      clear HV9 m1 m2 l1 l2 r1 r2 r3 r4 hzl hzm
      have hsz := HV.out.bel.size
      have HV1 : Hid (CGV w (wr.alloc (.cells #[.int .i64 a, .int .i64 b, .int .i64 c, .int .i64 d] 103)) w2.heap.size (W1.heap.size + 1) (W1.heap.size + 1 + 1) #[.slice (some ⟨bS, oS, none⟩) m cS, .slice (some ⟨bT, oT, none⟩) m cT] (K, V) (.slice (some ⟨g, 0, none⟩) K.length cap)) := HV.out.alloc _
      have HF1 : Hid ((wr.alloc (.cells #[.int .i64 a, .int .i64 b, .int .i64 c, .int .i64 d] 103)).heap[wr.heap.size]? = some (.cells #[.int .i64 a, .int .i64 b, .int .i64 c, .int .i64 d] 103 (0, 0))) := heap_alloc_new wr _
      have HSz : Hid ((wr.alloc (.cells #[.int .i64 a, .int .i64 b, .int .i64 c, .int .i64 d] 103)).heap.size = wr.heap.size + 1) := by show _ = _; simp
      obtain ⟨W3, hW3⟩ : ∃ W3, W3 = wr.alloc (.cells #[.int .i64 a, .int .i64 b, .int .i64 c, .int .i64 d] 103) := ⟨_, rfl⟩
      rw [← hW3] at HV1 HF1 HSz ⊢
      clear hW3 HOD
      have hs3 := HSz.out
      obtain ⟨⟨f1, f2, f3, f4⟩, f5⟩ := four_of_block HF1.out
      have hz3 : wr.heap.size < W3.heap.size := by omega
      have bda : 0 ≤ a2 ∧ a2 < n := by rw [ha2]; exact ⟨Int.emod_nonneg _ (by omega), Int.emod_lt_of_pos _ (by omega)⟩
      have bdc : 0 ≤ c2 ∧ c2 < n := by rw [hc2]; exact ⟨Int.emod_nonneg _ (by omega), Int.emod_lt_of_pos _ (by omega)⟩
      have bdab : 0 ≤ ab ∧ ab < n := by rw [hab]; exact ⟨Int.emod_nonneg _ (by omega), Int.emod_lt_of_pos _ (by omega)⟩
      have bdcd : 0 ≤ cd ∧ cd < n := by rw [hcd]; exact ⟨Int.emod_nonneg _ (by omega), Int.emod_lt_of_pos _ (by omega)⟩
      have t1 : (n - a).tmod n = a2 := by rw [ha2]; exact Int.tmod_eq_emod_of_nonneg (by omega)
      have t2 : (n - c).tmod n = c2 := by rw [hc2]; exact Int.tmod_eq_emod_of_nonneg (by omega)
      have t3 : (a + b).tmod n = ab := by rw [hab]; exact Int.tmod_eq_emod_of_nonneg (by omega)
      have t4 : (c + d).tmod n = cd := by rw [hcd]; exact Int.tmod_eq_emod_of_nonneg (by omega)
      clear ha2 hc2 hab hcd
      obtain ⟨a0, a1⟩ := qq1
      obtain ⟨b0, b1⟩ := qq2
      obtain ⟨c0, c1⟩ := qq3
      obtain ⟨d0, d1⟩ := qq4
      clear hs3
      go_region
      have HV4 : Hid (CGV w ((W3.alloc (.cells #[.int .i64 b, .int .i64 a2, .int .i64 d, .int .i64 c2] 103)).drew) w2.heap.size (W1.heap.size + 1) (W1.heap.size + 1 + 1) #[.slice (some ⟨bS, oS, none⟩) m cS, .slice (some ⟨bT, oT, none⟩) m cT] (K, V) (.slice (some ⟨g, 0, none⟩) K.length cap)) := (HV1.out.alloc _).drew
      have HF4 : Hid (((W3.alloc (.cells #[.int .i64 b, .int .i64 a2, .int .i64 d, .int .i64 c2] 103)).drew).heap[wr.heap.size]? = some (.cells #[.int .i64 a, .int .i64 b, .int .i64 c, .int .i64 d] 103 (0, 0))) := block_alloc HF1.out _
      have HG4 : Hid (((W3.alloc (.cells #[.int .i64 b, .int .i64 a2, .int .i64 d, .int .i64 c2] 103)).drew).heap[W3.heap.size]? = some (.cells #[.int .i64 b, .int .i64 a2, .int .i64 d, .int .i64 c2] 103 (0, 0))) := heap_alloc_new W3 _
      have HZ4 : Hid (((W3.alloc (.cells #[.int .i64 b, .int .i64 a2, .int .i64 d, .int .i64 c2] 103)).drew).heap.size = W3.heap.size + 1) := by show (W3.alloc _).heap.size = _; simp
      obtain ⟨W4, hW4⟩ : ∃ W4, W4 = (W3.alloc (.cells #[.int .i64 b, .int .i64 a2, .int .i64 d, .int .i64 c2] 103)).drew := ⟨_, rfl⟩
      rw [← hW4] at HV4 HF4 HG4 HZ4 ⊢
      clear hW4 f1 f2 f3 f4 f5 hz3 t1 t2
      have hs3 := HSz.out
      have hs4 := HZ4.out
      obtain ⟨⟨f1, f2, f3, f4⟩, f5⟩ := four_of_block HF4.out
      have hz3 : wr.heap.size < W4.heap.size := by omega
      clear hs3 hs4
      have HV5 := Lib.hid HV4.out.drew
      have HF5 : Hid (W4.drew.heap[wr.heap.size]? = some (.cells #[.int .i64 a, .int .i64 b, .int .i64 c, .int .i64 d] 103 (0, 0))) := HF4.out
      have HG5 : Hid (W4.drew.heap[W3.heap.size]? = some (.cells #[.int .i64 b, .int .i64 a2, .int .i64 d, .int .i64 c2] 103 (0, 0))) := HG4.out
      have HZ5 : Hid (W4.drew.heap.size = W3.heap.size + 1) := HZ4.out
      have e1 : IntKind.i64.wrap (a + b) = a + b := IntWalk.i64_in _ (by omega)
      have e2 : IntKind.i64.wrap (c + d) = c + d := IntWalk.i64_in _ (by omega)
      have HGe : Hid (g < wr.heap.size) := hg
      have HLk : Hid (K.length ≤ 350000) := hlen1
      have HAll := Lib.hid (And.intro HS (And.intro HT (And.intro HN (And.intro HQ6 (And.intro HQ7 (And.intro HWf (And.intro HV4 (And.intro HF5 (And.intro HG4 (And.intro HZ4 (Lib.hid (And.intro HSz.out HGe.out))))))))))))
      go_upto_region 11 with fail
      go_cut [13] (fun s13 wx => s13 = .pointer (some ⟨W4.heap.size, 0, none⟩) ∧ Hid (CGR w wx w2.heap.size (W1.heap.size + 1) (W1.heap.size + 1 + 1) W3.heap.size W4.heap.size #[.slice (some ⟨bS, oS, none⟩) m cS, .slice (some ⟨bT, oT, none⟩) m cT] #[.int .i64 b, .int .i64 a2, .int .i64 d, .int .i64 c2] #[.int .i64 a, .int .i64 ab, .int .i64 c, .int .i64 cd] (K, V) (.slice (some ⟨g, 0, none⟩) K.length cap)))
      case first =>
        as_aux_lemma =>
          clear HOk HRl HPr HOn ho1 ho2 ho3 n2 hm hmm hw1 bda bdc
          clear HS HT HN HQ6 HQ7 HWf HV5 HF5 HG5 HZ5 HSz HKy HAt HMem HQ3 HX1 HF1 HB1 HM0 HO2 HG2 HKey HV4 HF4 HG4 HZ4 hlen1 HLen HV HV1 hsz q1 hki hlt hk
          let XHAll := type_of% @HAll
          have hHAll : XHAll := @HAll
          clear HAll
          refine region_E 20 (fun w' => w'.cell? ⟨wr.heap.size, 0, none⟩ = some (.int .i64 a) ∧ w'.cell? ⟨wr.heap.size, 1, none⟩ = some (.int .i64 b) ∧ w'.cell? ⟨wr.heap.size, 2, none⟩ = some (.int .i64 c) ∧ w'.cell? ⟨wr.heap.size, 3, none⟩ = some (.int .i64 d)) (by kernel_rfl) ?_
          have hHeld := (show W4.drew.cell? ⟨wr.heap.size, 0, none⟩ = some (.int .i64 a) ∧ W4.drew.cell? ⟨wr.heap.size, 1, none⟩ = some (.int .i64 b) ∧ W4.drew.cell? ⟨wr.heap.size, 2, none⟩ = some (.int .i64 c) ∧ W4.drew.cell? ⟨wr.heap.size, 3, none⟩ = some (.int .i64 d) from ⟨f1, f2, f3, f4⟩)
          refine take_E (n := 20) (i := 0) (v := ?v11_0) rfl (by kernel_rfl) (fun _ _ _ h => h) ?hy11_0 (by rfl) hHeld ?rest11_0
          case hy11_0 => (intro w9 hSw; (try dsimp only at hSw); go_simp <;> with_reducible rfl)
          simp only [List.getElem_toArray, List.getElem_cons_zero, List.getElem_cons_succ, Act.put, List.setIfInBounds_toArray, List.set_cons_zero, List.set_cons_succ]
          refine take_E (n := 20) (i := 1) (v := ?v11_1) rfl (by kernel_rfl) (fun _ _ _ h => h) ?hy11_1 (by rfl) hHeld ?rest11_1
          case hy11_1 => (intro w9 hSw; (try dsimp only at hSw); go_simp <;> with_reducible rfl)
          simp only [List.getElem_toArray, List.getElem_cons_zero, List.getElem_cons_succ, Act.put, List.setIfInBounds_toArray, List.set_cons_zero, List.set_cons_succ]
          refine take_E (n := 20) (i := 2) (v := ?v11_2) rfl (by kernel_rfl) (fun _ _ _ h => h) ?hy11_2 (by rfl) hHeld ?rest11_2
          case hy11_2 => (intro w9 hSw; (try dsimp only at hSw); go_simp <;> with_reducible rfl)
          simp only [List.getElem_toArray, List.getElem_cons_zero, List.getElem_cons_succ, Act.put, List.setIfInBounds_toArray, List.set_cons_zero, List.set_cons_succ]
          refine take_E (n := 20) (i := 3) (v := ?v11_3) rfl (by kernel_rfl) (fun _ _ _ h => h) ?hy11_3 (by rfl) hHeld ?rest11_3
          case hy11_3 => (intro w9 hSw; (try dsimp only at hSw); go_simp <;> with_reducible rfl)
          simp only [List.getElem_toArray, List.getElem_cons_zero, List.getElem_cons_succ, Act.put, List.setIfInBounds_toArray, List.set_cons_zero, List.set_cons_succ]
          refine take_E (n := 20) (i := 4) (v := ?v11_4) rfl (by kernel_rfl) (fun _ _ _ h => h) ?hy11_4 (by rfl) hHeld ?rest11_4
          case hy11_4 => (intro w9 hSw; (try dsimp only at hSw); go_simp <;> with_reducible rfl)
          simp only [List.getElem_toArray, List.getElem_cons_zero, List.getElem_cons_succ, Act.put, List.setIfInBounds_toArray, List.set_cons_zero, List.set_cons_succ]
          as_aux_lemma =>
            refine take_E (n := 20) (i := 5) (v := ?v11_5) rfl (by kernel_rfl) (fun _ _ _ h => h) ?hy11_5 (by rfl) hHeld ?rest11_5
            case hy11_5 => (intro w9 hSw; (try dsimp only at hSw); go_simp <;> with_reducible rfl)
            simp only [List.getElem_toArray, List.getElem_cons_zero, List.getElem_cons_succ, Act.put, List.setIfInBounds_toArray, List.set_cons_zero, List.set_cons_succ]
            refine take_E (n := 20) (i := 6) (v := ?v11_6) rfl (by kernel_rfl) (fun _ _ _ h => h) ?hy11_6 (by rfl) hHeld ?rest11_6
            case hy11_6 => (intro w9 hSw; (try dsimp only at hSw); go_simp <;> with_reducible rfl)
            simp only [List.getElem_toArray, List.getElem_cons_zero, List.getElem_cons_succ, Act.put, List.setIfInBounds_toArray, List.set_cons_zero, List.set_cons_succ]
            refine take_E (n := 20) (i := 7) (v := ?v11_7) rfl (by kernel_rfl) (fun _ _ _ h => h) ?hy11_7 (by rfl) hHeld ?rest11_7
            case hy11_7 => (intro w9 hSw; (try dsimp only at hSw); go_simp <;> with_reducible rfl)
            simp only [List.getElem_toArray, List.getElem_cons_zero, List.getElem_cons_succ, Act.put, List.setIfInBounds_toArray, List.set_cons_zero, List.set_cons_succ]
            refine take_E (n := 20) (i := 8) (v := ?v11_8) rfl (by kernel_rfl) (fun _ _ _ h => h) ?hy11_8 (by rfl) hHeld ?rest11_8
            case hy11_8 => (intro w9 hSw; (try dsimp only at hSw); go_simp <;> with_reducible rfl)
            simp only [List.getElem_toArray, List.getElem_cons_zero, List.getElem_cons_succ, Act.put, List.setIfInBounds_toArray, List.set_cons_zero, List.set_cons_succ]
            refine take_E (n := 20) (i := 9) (v := ?v11_9) rfl (by kernel_rfl) (fun _ _ _ h => h) ?hy11_9 (by rfl) hHeld ?rest11_9
            case hy11_9 => (intro w9 hSw; (try dsimp only at hSw); go_simp <;> with_reducible rfl)
            simp only [List.getElem_toArray, List.getElem_cons_zero, List.getElem_cons_succ, Act.put, List.setIfInBounds_toArray, List.set_cons_zero, List.set_cons_succ]
            as_aux_lemma =>
              refine take_E (n := 20) (i := 10) (v := ?v11_10) rfl (by kernel_rfl) (fun _ _ _ h => h) ?hy11_10 (by rfl) hHeld ?rest11_10
              case hy11_10 => (intro w9 hSw; (try dsimp only at hSw); go_simp <;> with_reducible rfl)
              simp only [List.getElem_toArray, List.getElem_cons_zero, List.getElem_cons_succ, Act.put, List.setIfInBounds_toArray, List.set_cons_zero, List.set_cons_succ]
              refine take_E (n := 20) (i := 11) (v := ?v11_11) rfl (by kernel_rfl) (fun _ _ _ h => h) ?hy11_11 (by rfl) hHeld ?rest11_11
              case hy11_11 => (intro w9 hSw; (try dsimp only at hSw); go_simp <;> with_reducible rfl)
              simp only [List.getElem_toArray, List.getElem_cons_zero, List.getElem_cons_succ, Act.put, List.setIfInBounds_toArray, List.set_cons_zero, List.set_cons_succ]
              refine take_E (n := 20) (i := 12) (v := ?v11_12) rfl (by kernel_rfl) (fun _ _ _ h => h) ?hy11_12 (by rfl) hHeld ?rest11_12
              case hy11_12 => (intro w9 hSw; (try dsimp only at hSw); go_simp <;> with_reducible rfl)
              simp only [List.getElem_toArray, List.getElem_cons_zero, List.getElem_cons_succ, Act.put, List.setIfInBounds_toArray, List.set_cons_zero, List.set_cons_succ]
              refine take_E (n := 20) (i := 13) (v := ?v11_13) rfl (by kernel_rfl) (fun _ _ _ h => h) ?hy11_13 (by rfl) hHeld ?rest11_13
              case hy11_13 => (intro w9 hSw; (try dsimp only at hSw); go_simp <;> with_reducible rfl)
              simp only [List.getElem_toArray, List.getElem_cons_zero, List.getElem_cons_succ, Act.put, List.setIfInBounds_toArray, List.set_cons_zero, List.set_cons_succ]
              refine take_E (n := 20) (i := 14) (v := ?v11_14) rfl (by kernel_rfl) (fun _ _ _ h => h) ?hy11_14 (by rfl) hHeld ?rest11_14
              case hy11_14 => (intro w9 hSw; (try dsimp only at hSw); go_simp <;> with_reducible rfl)
              simp only [List.getElem_toArray, List.getElem_cons_zero, List.getElem_cons_succ, Act.put, List.setIfInBounds_toArray, List.set_cons_zero, List.set_cons_succ]
              as_aux_lemma =>
                refine take_E (n := 20) (i := 15) (v := ?v11_15) rfl (by kernel_rfl) (fun _ _ _ h => h) ?hy11_15 (by rfl) hHeld ?rest11_15
                case hy11_15 => (intro w9 hSw; (try dsimp only at hSw); go_simp <;> with_reducible rfl)
                simp only [List.getElem_toArray, List.getElem_cons_zero, List.getElem_cons_succ, Act.put, List.setIfInBounds_toArray, List.set_cons_zero, List.set_cons_succ]
                refine take_E (n := 20) (i := 16) (v := ?v11_16) rfl (by kernel_rfl) (fun _ _ _ h => h) ?hy11_16 (by rfl) hHeld ?rest11_16
                case hy11_16 => (intro w9 hSw; (try dsimp only at hSw); go_simp <;> with_reducible rfl)
                simp only [List.getElem_toArray, List.getElem_cons_zero, List.getElem_cons_succ, Act.put, List.setIfInBounds_toArray, List.set_cons_zero, List.set_cons_succ]
                refine take_E (n := 20) (i := 17) (v := ?v11_17) rfl (by kernel_rfl) (fun _ _ _ h => h) ?hy11_17 (by rfl) hHeld ?rest11_17
                case hy11_17 => (intro w9 hSw; (try dsimp only at hSw); go_simp <;> with_reducible rfl)
                simp only [List.getElem_toArray, List.getElem_cons_zero, List.getElem_cons_succ, Act.put, List.setIfInBounds_toArray, List.set_cons_zero, List.set_cons_succ]
                refine take_E (n := 20) (i := 18) (v := ?v11_18) rfl (by kernel_rfl) (fun _ _ _ h => h) ?hy11_18 (by rfl) hHeld ?rest11_18
                case hy11_18 => (intro w9 hSw; (try dsimp only at hSw); go_simp <;> with_reducible rfl)
                simp only [List.getElem_toArray, List.getElem_cons_zero, List.getElem_cons_succ, Act.put, List.setIfInBounds_toArray, List.set_cons_zero, List.set_cons_succ]
                as_aux_lemma =>
                  refine one_E (n := 20) (i := 19) (by kernel_rfl) rfl (fun K' hK => ?_)
                  go_simp
                  refine hK.out _ _ (fun _ => (four_of_block (block_alloc (Hid.out hHAll).2.2.2.2.2.2.2.1.out _)).1) (fun hHeld19 => ?_)
                  clear hK K'
                  (try simp only [List.getElem_toArray, List.getElem_cons_zero, List.getElem_cons_succ, Act.put, List.setIfInBounds_toArray, List.set_cons_zero, List.set_cons_succ])
                  refine one_E (n := 20) (i := 20) (by kernel_rfl) rfl (fun K' hK => ?_)
                  go_simp
                  refine hK.out _ _ (fun h => absurd h (by decide)) (fun hHeld20 => ?_)
                  clear hK K'
                  (try simp only [List.getElem_toArray, List.getElem_cons_zero, List.getElem_cons_succ, Act.put, List.setIfInBounds_toArray, List.set_cons_zero, List.set_cons_succ])
                  refine done_E (by kernel_rfl) ?_ _
                  as_aux_lemma =>
                    go_wp2_with fail
                    go_meet
                    have h3 : W3.heap.size = wr.heap.size + 1 := (Hid.out hHAll).2.2.2.2.2.2.2.2.2.2.out.1
                    have h4 : W4.heap.size = W3.heap.size + 1 := (Hid.out hHAll).2.2.2.2.2.2.2.2.2.1.out
                    have hg' := (Hid.out hHAll).2.2.2.2.2.2.2.2.2.2.out.2
                    refine ⟨rfl, ((Hid.out hHAll).2.2.2.2.2.2.1.out.alloc _).drew, block_alloc (Hid.out hHAll).2.2.2.2.2.2.2.2.1.out _, heap_alloc_new W4 _, fun e => ?_, fun e => ?_⟩
                    · have h9 : W3.heap.size = g := by simpa [Value.ownBlock] using e
                      omega
                    · have h9 : W4.heap.size = g := by simpa [Value.ownBlock] using e
                      omega
      case rest =>
        as_aux_lemma =>
          obtain ⟨rfl, HR⟩ := hcut
          clear HV4 HF4 HG4 HZ4 HV5 HF5 HG5 HZ5 HAll HV1 HF1 HSz HV f1 f2 f3 f4 f5
          have hi3 : i < m := HI.out
          have HCells : Hid (∀ {W : World} {s : List K4 × List Nat} {vl : Value}, CGR w W w2.heap.size (W1.heap.size + 1) (W1.heap.size + 1 + 1) W3.heap.size W4.heap.size #[.slice (some ⟨bS, oS, none⟩) m cS, .slice (some ⟨bT, oT, none⟩) m cT] #[.int .i64 b, .int .i64 a2, .int .i64 d, .int .i64 c2] #[.int .i64 a, .int .i64 ab, .int .i64 c, .int .i64 cd] s vl → _) := fun {W s vl} h => CGR.cells h HS.out HT.out hi3
          have wS : wf4 (b, a2, d, c2) := wfs (by simp; omega)
          have wT : wf4 (a, ab, c, cd) := wfs (by simp; omega)
          have jS : gF i ≤ 1152 := by have := HPr.out.1.lt i hi3; omega
          have jT : fF i ≤ 1152 := by have := HPr.out.2.lt i hi3; omega
          have hL1 : (cpAdd (K, V) (b, a2, d, c2) (gF i)).1.length ≤ 400000 := by
            unfold cpAdd; split
            · show K.length ≤ _; omega
            · show (K ++ [_]).length ≤ _; rw [List.length_append]; simp; omega
          have hK0 : K.length ≤ 400000 := by omega
          have HC1 : Hid (∀ (W : World) (vl : Value), CGR w W w2.heap.size (W1.heap.size + 1) (W1.heap.size + 1 + 1) W3.heap.size W4.heap.size #[.slice (some ⟨bS, oS, none⟩) m cS, .slice (some ⟨bT, oT, none⟩) m cT] #[.int .i64 b, .int .i64 a2, .int .i64 d, .int .i64 c2] #[.int .i64 a, .int .i64 ab, .int .i64 c, .int .i64 cd] (K, V) vl → Calls Try.prog 72 #[.agg #[.int .i64 b, .int .i64 a2, .int .i64 d, .int .i64 c2], .int .i64 (gF i : Nat), .pointer (some ⟨w2.heap.size, 0, none⟩), .pointer (some ⟨W1.heap.size + 1, 0, none⟩)] W fun e w' => e = .returned (.bool true) ∧ ∃ vl', CGR w w' w2.heap.size (W1.heap.size + 1) (W1.heap.size + 1 + 1) W3.heap.size W4.heap.size #[.slice (some ⟨bS, oS, none⟩) m cS, .slice (some ⟨bT, oT, none⟩) m cT] #[.int .i64 b, .int .i64 a2, .int .i64 d, .int .i64 c2] #[.int .i64 a, .int .i64 ab, .int .i64 c, .int .i64 cd] (cpAdd (K, V) (b, a2, d, c2) (gF i)) vl') := fun W vl h => cgr_agree (y := (b, a2, d, c2)) h wS jS hK0 HQ6.out
          have HC2 : Hid (∀ (W : World) (vl : Value), CGR w W w2.heap.size (W1.heap.size + 1) (W1.heap.size + 1 + 1) W3.heap.size W4.heap.size #[.slice (some ⟨bS, oS, none⟩) m cS, .slice (some ⟨bT, oT, none⟩) m cT] #[.int .i64 b, .int .i64 a2, .int .i64 d, .int .i64 c2] #[.int .i64 a, .int .i64 ab, .int .i64 c, .int .i64 cd] (cpAdd (K, V) (b, a2, d, c2) (gF i)) vl → Calls Try.prog 72 #[.agg #[.int .i64 a, .int .i64 ab, .int .i64 c, .int .i64 cd], .int .i64 (fF i : Nat), .pointer (some ⟨w2.heap.size, 0, none⟩), .pointer (some ⟨W1.heap.size + 1, 0, none⟩)] W fun e w' => e = .returned (.bool true) ∧ ∃ vl', CGR w w' w2.heap.size (W1.heap.size + 1) (W1.heap.size + 1 + 1) W3.heap.size W4.heap.size #[.slice (some ⟨bS, oS, none⟩) m cS, .slice (some ⟨bT, oT, none⟩) m cT] #[.int .i64 b, .int .i64 a2, .int .i64 d, .int .i64 c2] #[.int .i64 a, .int .i64 ab, .int .i64 c, .int .i64 cd] (cpAdd (cpAdd (K, V) (b, a2, d, c2) (gF i)) (a, ab, c, cd) (fF i)) vl') := fun W vl h => cgr_agree (y := (a, ab, c, cd)) h wT jT hL1 (by have := HQ7.out; exact this)
          have V0 := Lib.hid HR.out.drew
          have hii : (i : Int) < (m : Int) := by omega
          clear HQ6 HQ7 wS wT jS jT hL1 hK0 HAt HMem HQ3 HKy HWf t3 t4
          generalize gF i = x at *
          generalize fF i = y at *
          generalize cpAdd (K, V) (b, a2, d, c2) x = s1 at *
          generalize cpAdd s1 (a, ab, c, cd) y = s2 at *
          go_upto_region 12 with fail
          try clear HOk
          try clear HRl
          try clear HLen
          try clear HPr
          try clear HOn
          try clear ho1
          try clear ho2
          try clear ho3
          try clear hn0
          try clear bda
          try clear bdc
          try clear bdab
          try clear bdcd
          try clear n1
          try clear n2
          try clear hm
          try clear hmm
          try clear hw1
          try clear HS
          try clear HT
          try clear HX1
          try clear HF1
          try clear HB1
          try clear HM0
          try clear HO2
          try clear HG2
          try clear HKey
          try clear HSz
          try clear HSz1
          try clear HGe
          try clear HLk
          try clear hki
          try clear hsz
          try clear HR
          try clear a0
          try clear a1
          try clear b0
          try clear b1
          try clear c0
          try clear c1
          try clear d0
          try clear d1
          try clear e1
          try clear e2
          try clear hlen1
          try clear hs3
          try clear hs4
          try clear hz3
          try clear hg
          try clear HI
          try clear hi3
          let XHC1 := type_of% @HC1
          have hHC1 : XHC1 := @HC1
          clear HC1
          let XHC2 := type_of% @HC2
          have hHC2 : XHC2 := @HC2
          clear HC2
          let XHCells := type_of% @HCells
          have hHCells : XHCells := @HCells
          clear HCells
          let XHN := type_of% @HN
          have hHN : XHN := @HN
          clear HN
          let XV0 := type_of% @V0
          have hV0 : XV0 := @V0
          clear V0
          as_aux_lemma =>
            refine region_E 17 (fun w' => (w'.cell? ⟨w.heap.size, 0, none⟩ = some (.slice (some ⟨bS, oS, none⟩) m cS) ∧ w'.cell? ⟨w.heap.size, 1, none⟩ = some (.slice (some ⟨bT, oT, none⟩) m cT)) ∧ (w'.cell? ⟨W3.heap.size, 0, none⟩ = some (.int .i64 b) ∧ w'.cell? ⟨W3.heap.size, 1, none⟩ = some (.int .i64 a2) ∧ w'.cell? ⟨W3.heap.size, 2, none⟩ = some (.int .i64 d) ∧ w'.cell? ⟨W3.heap.size, 3, none⟩ = some (.int .i64 c2)) ∧ (w'.cell? ⟨W4.heap.size, 0, none⟩ = some (.int .i64 a) ∧ w'.cell? ⟨W4.heap.size, 1, none⟩ = some (.int .i64 ab) ∧ w'.cell? ⟨W4.heap.size, 2, none⟩ = some (.int .i64 c) ∧ w'.cell? ⟨W4.heap.size, 3, none⟩ = some (.int .i64 cd)) ∧ w'.cell? ⟨bS, oS + i, none⟩ = some (.int .i64 (x : Nat)) ∧ w'.cell? ⟨bT, oT + i, none⟩ = some (.int .i64 (y : Nat))) (by kernel_rfl) ?_
            have hHeld := (Hid.out hHCells) (Hid.out hV0)
            refine take_E (n := 17) (i := 0) (v := ?vw12_0) rfl (by kernel_rfl) (fun _ _ _ h => h) ?hyw12_0 (by rfl) hHeld ?restw12_0
            case hyw12_0 => (intro w9 hSw; (try dsimp only at hSw); go_simp <;> with_reducible rfl)
            (try simp only [List.getElem_toArray, List.getElem_cons_zero, List.getElem_cons_succ, Act.put, List.setIfInBounds_toArray, List.set_cons_zero, List.set_cons_succ])
            refine take_E (n := 17) (i := 1) (v := ?vw12_1) rfl (by kernel_rfl) (fun _ _ _ h => h) ?hyw12_1 (by rfl) hHeld ?restw12_1
            case hyw12_1 => (intro w9 hSw; (try dsimp only at hSw); go_simp <;> with_reducible rfl)
            (try simp only [List.getElem_toArray, List.getElem_cons_zero, List.getElem_cons_succ, Act.put, List.setIfInBounds_toArray, List.set_cons_zero, List.set_cons_succ])
            refine take_E (n := 17) (i := 2) (v := ?vw12_2) rfl (by kernel_rfl) (fun _ _ _ h => h) ?hyw12_2 (by rfl) hHeld ?restw12_2
            case hyw12_2 => (intro w9 hSw; (try dsimp only at hSw); go_simp <;> with_reducible rfl)
            (try simp only [List.getElem_toArray, List.getElem_cons_zero, List.getElem_cons_succ, Act.put, List.setIfInBounds_toArray, List.set_cons_zero, List.set_cons_succ])
            refine take_E (n := 17) (i := 3) (v := ?vw12_3) rfl (by kernel_rfl) (fun _ _ _ h => h) ?hyw12_3 (by rfl) hHeld ?restw12_3
            case hyw12_3 => (intro w9 hSw; (try dsimp only at hSw); go_simp <;> with_reducible rfl)
            (try simp only [List.getElem_toArray, List.getElem_cons_zero, List.getElem_cons_succ, Act.put, List.setIfInBounds_toArray, List.set_cons_zero, List.set_cons_succ])
            as_aux_lemma =>
              refine take_E (n := 17) (i := 4) (v := ?vw12_4) rfl (by kernel_rfl) (fun _ _ _ h => h) ?hyw12_4 (by rfl) hHeld ?restw12_4
              case hyw12_4 => (intro w9 hSw; (try dsimp only at hSw); go_simp <;> with_reducible rfl)
              (try simp only [List.getElem_toArray, List.getElem_cons_zero, List.getElem_cons_succ, Act.put, List.setIfInBounds_toArray, List.set_cons_zero, List.set_cons_succ])
              refine take_E (n := 17) (i := 5) (v := ?vw12_5) rfl (by kernel_rfl) (fun _ _ _ h => h) ?hyw12_5 (by rfl) hHeld ?restw12_5
              case hyw12_5 => (intro w9 hSw; (try dsimp only at hSw); go_simp <;> with_reducible rfl)
              (try simp only [List.getElem_toArray, List.getElem_cons_zero, List.getElem_cons_succ, Act.put, List.setIfInBounds_toArray, List.set_cons_zero, List.set_cons_succ])
              refine take_E (n := 17) (i := 6) (v := ?vw12_6) rfl (by kernel_rfl) (fun _ _ _ h => h) ?hyw12_6 (by rfl) hHeld ?restw12_6
              case hyw12_6 => (intro w9 hSw; (try dsimp only at hSw); go_simp <;> with_reducible rfl)
              (try simp only [List.getElem_toArray, List.getElem_cons_zero, List.getElem_cons_succ, Act.put, List.setIfInBounds_toArray, List.set_cons_zero, List.set_cons_succ])
              as_aux_lemma =>
                refine one_E (n := 17) (i := 7) (by kernel_rfl) rfl (fun K' hK => ?_)
                go_simp
                go_at_call 72
                refine ((Hid.out hHC1) _ _ (Hid.out hV0)).mono ?_
                rintro e w4 ⟨rfl, vl1, h⟩
                have V1 := Lib.hid h
                clear h
                let XV1 := type_of% @V1
                have hV1 : XV1 := @V1
                clear V1
                refine hK.out _ _ (fun _ => (Hid.out hHCells) (Hid.out hV1)) (fun hHeld7 => ?_)
                clear hK K'
                (try simp only [List.getElem_toArray, List.getElem_cons_zero, List.getElem_cons_succ, Act.put, List.setIfInBounds_toArray, List.set_cons_zero, List.set_cons_succ])
                as_aux_lemma =>
                  refine take_E (n := 17) (i := 8) (v := ?vw12_8) rfl (by kernel_rfl) (fun _ _ _ h => h) ?hyw12_8 (by rfl) (hHeld7 (by decide)) ?restw12_8
                  case hyw12_8 => (intro w9 hSw; (try dsimp only at hSw); go_simp <;> with_reducible rfl)
                  (try simp only [List.getElem_toArray, List.getElem_cons_zero, List.getElem_cons_succ, Act.put, List.setIfInBounds_toArray, List.set_cons_zero, List.set_cons_succ])
                  refine take_E (n := 17) (i := 9) (v := ?vw12_9) rfl (by kernel_rfl) (fun _ _ _ h => h) ?hyw12_9 (by rfl) (hHeld7 (by decide)) ?restw12_9
                  case hyw12_9 => (intro w9 hSw; (try dsimp only at hSw); go_simp <;> with_reducible rfl)
                  (try simp only [List.getElem_toArray, List.getElem_cons_zero, List.getElem_cons_succ, Act.put, List.setIfInBounds_toArray, List.set_cons_zero, List.set_cons_succ])
                  refine take_E (n := 17) (i := 10) (v := ?vw12_10) rfl (by kernel_rfl) (fun _ _ _ h => h) ?hyw12_10 (by rfl) (hHeld7 (by decide)) ?restw12_10
                  case hyw12_10 => (intro w9 hSw; (try dsimp only at hSw); go_simp <;> with_reducible rfl)
                  (try simp only [List.getElem_toArray, List.getElem_cons_zero, List.getElem_cons_succ, Act.put, List.setIfInBounds_toArray, List.set_cons_zero, List.set_cons_succ])
                  refine take_E (n := 17) (i := 11) (v := ?vw12_11) rfl (by kernel_rfl) (fun _ _ _ h => h) ?hyw12_11 (by rfl) (hHeld7 (by decide)) ?restw12_11
                  case hyw12_11 => (intro w9 hSw; (try dsimp only at hSw); go_simp <;> with_reducible rfl)
                  (try simp only [List.getElem_toArray, List.getElem_cons_zero, List.getElem_cons_succ, Act.put, List.setIfInBounds_toArray, List.set_cons_zero, List.set_cons_succ])
                  as_aux_lemma =>
                    refine take_E (n := 17) (i := 12) (v := ?vw12_12) rfl (by kernel_rfl) (fun _ _ _ h => h) ?hyw12_12 (by rfl) (hHeld7 (by decide)) ?restw12_12
                    case hyw12_12 => (intro w9 hSw; (try dsimp only at hSw); go_simp <;> with_reducible rfl)
                    (try simp only [List.getElem_toArray, List.getElem_cons_zero, List.getElem_cons_succ, Act.put, List.setIfInBounds_toArray, List.set_cons_zero, List.set_cons_succ])
                    refine take_E (n := 17) (i := 13) (v := ?vw12_13) rfl (by kernel_rfl) (fun _ _ _ h => h) ?hyw12_13 (by rfl) (hHeld7 (by decide)) ?restw12_13
                    case hyw12_13 => (intro w9 hSw; (try dsimp only at hSw); go_simp <;> with_reducible rfl)
                    (try simp only [List.getElem_toArray, List.getElem_cons_zero, List.getElem_cons_succ, Act.put, List.setIfInBounds_toArray, List.set_cons_zero, List.set_cons_succ])
                    refine take_E (n := 17) (i := 14) (v := ?vw12_14) rfl (by kernel_rfl) (fun _ _ _ h => h) ?hyw12_14 (by rfl) (hHeld7 (by decide)) ?restw12_14
                    case hyw12_14 => (intro w9 hSw; (try dsimp only at hSw); go_simp <;> with_reducible rfl)
                    (try simp only [List.getElem_toArray, List.getElem_cons_zero, List.getElem_cons_succ, Act.put, List.setIfInBounds_toArray, List.set_cons_zero, List.set_cons_succ])
                    refine take_E (n := 17) (i := 15) (v := ?vw12_15) rfl (by kernel_rfl) (fun _ _ _ h => h) ?hyw12_15 (by rfl) (hHeld7 (by decide)) ?restw12_15
                    case hyw12_15 => (intro w9 hSw; (try dsimp only at hSw); go_simp <;> with_reducible rfl)
                    (try simp only [List.getElem_toArray, List.getElem_cons_zero, List.getElem_cons_succ, Act.put, List.setIfInBounds_toArray, List.set_cons_zero, List.set_cons_succ])
                    refine take_E (n := 17) (i := 16) (v := ?vw12_16) rfl (by kernel_rfl) (fun _ _ _ h => h) ?hyw12_16 (by rfl) (hHeld7 (by decide)) ?restw12_16
                    case hyw12_16 => (intro w9 hSw; (try dsimp only at hSw); go_simp <;> with_reducible rfl)
                    (try simp only [List.getElem_toArray, List.getElem_cons_zero, List.getElem_cons_succ, Act.put, List.setIfInBounds_toArray, List.set_cons_zero, List.set_cons_succ])
                    as_aux_lemma =>
                      refine one_E (n := 17) (i := 17) (by kernel_rfl) rfl (fun K' hK => ?_)
                      go_simp
                      go_at_call 72
                      refine ((Hid.out hHC2) _ _ (Hid.out hV1)).mono ?_
                      rintro e w5 ⟨rfl, vl2, h⟩
                      have V2 := Lib.hid h
                      clear h
                      refine hK.out _ _ (fun h => absurd h (by decide)) (fun hHeld17 => ?_)
                      clear hK K'
                      (try simp only [List.getElem_toArray, List.getElem_cons_zero, List.getElem_cons_succ, Act.put, List.setIfInBounds_toArray, List.set_cons_zero, List.set_cons_succ])
                      refine one_E (n := 17) (i := 18) (by kernel_rfl) rfl (fun K' hK => ?_)
                      go_simp
                      refine hK.out _ _ (fun h => absurd h (by decide)) (fun hHeld18 => ?_)
                      clear hK K'
                      (try simp only [List.getElem_toArray, List.getElem_cons_zero, List.getElem_cons_succ, Act.put, List.setIfInBounds_toArray, List.set_cons_zero, List.set_cons_succ])
                      refine one_E (n := 17) (i := 19) (by kernel_rfl) rfl (fun K' hK => ?_)
                      go_simp
                      refine hK.out _ _ (fun h => absurd h (by decide)) (fun hHeld19 => ?_)
                      clear hK K'
                      (try simp only [List.getElem_toArray, List.getElem_cons_zero, List.getElem_cons_succ, Act.put, List.setIfInBounds_toArray, List.set_cons_zero, List.set_cons_succ])
                      refine done_E (by kernel_rfl) ?_ _
                      go_wp2
                      go_roundw
                      case rel => exact ⟨k + 1, vl2, by go_num, by omega, by rw [(Hid.out hHN)]; exact V2.out.v⟩
                      case measure => simp [intOf]; omega
    · obtain rfl : k = R := by omega
      have hl6 := HRl.out
      have HB := Lib.hid HV.out.bel
      have l1 := (box1 HV.out.l).1
      have hzl := lt_of_block HV.out.l
      have hrow := HV.out.row
      rw [hl6] at hrow
      obtain ⟨la, lc, rfl⟩ := own_len hrow
      clear hrow HV hl6 HLen
      go_wp2
      go_ret
      exact ⟨rfl, HB.out⟩
end Go.Proofs.Ytilfkppapimocaa
