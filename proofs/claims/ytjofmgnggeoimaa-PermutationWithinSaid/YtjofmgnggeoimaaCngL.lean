/- containsPrincipal at the three points, modulo 2: true. -/
import Derived.Test.YtjofmgnggeoimaaCgS
import Derived.Test.YtjofmgnggeoimaaPmA
import Derived.Deep.QuietTactic
import Derived.IntWalk
namespace Go.Proofs.Ytjofmgnggeoimaa
open Go.RowKit
open Go.Maps (Keyed)
set_option linter.unusedVariables false
set_option linter.unusedSimpArgs false

theorem wpList_insert_ownC {H : Type} {P : Program} (w : World) {ops : Array Oper} {rest : List Oper} {o : Oper} {a : Act} {Q : Exit → Act → World → Prop}
    (hg : o.guard = none) (m x v : Operand) (t : TypeId) (hop : o.op = Op.insert t m x v)
    (k e : TypeId) (K : Keyed P k) (ht : P.underlying t = some (.map k e)) (R : Value → Option (DataW H × List MemPlace)) (b n : Nat) (D : DataW H)
    (hm : a.eval m = .map (some b)) (hown : w.ownsMap P k R b n D) (hn : n < maxLen) (key val : Value) (kl : Lit) (hx : a.eval x = key) (hv : a.eval v = val) (hkey : keyOf P k key = some kl)
    (d : DataW H) (ps : List MemPlace) (hval : R val = some (d, ps))
    (hK : ∀ w', w'.ownsMap P k R b (n + 1) (D.put kl d) → w.grownBy w' (some b) → wpList P ops Q rest (a.put o.dst undef) w') :
    wpList P ops Q (o :: rest) a w := by
  refine wpList_plain hg fun K' hK' => ?_
  obtain ⟨w', hrun, r1, r2⟩ := hown.update K ht hn hkey hval
  unfold Oper.wp
  simp [execOp, hop, hm, hx, hv, hrun, Result.andThen]
  exact hK' _ _ (hK w' r1 r2)
theorem ks_at : ∀ (L : List K4) {i : Nat} (h : i < L.length), (ks L)[i * 4]? = some (.int .i64 L[i].1) ∧ (ks L)[i * 4 + 1]? = some (.int .i64 L[i].2.1) ∧ (ks L)[i * 4 + 2]? = some (.int .i64 L[i].2.2.1) ∧ (ks L)[i * 4 + 3]? = some (.int .i64 L[i].2.2.2)
  | m :: L, 0, h => ⟨rfl, rfl, rfl, rfl⟩
  | m :: L, i + 1, h => by
    have e : ks (m :: L) = ([.int .i64 m.1, .int .i64 m.2.1, .int .i64 m.2.2.1, .int .i64 m.2.2.2] : List Value) ++ ks L := rfl
    have ih := ks_at L (i := i) (by simpa using h)
    have hl : ([.int .i64 m.1, .int .i64 m.2.1, .int .i64 m.2.2.1, .int .i64 m.2.2.2] : List Value).length = 4 := rfl
    rw [e]
    refine ⟨?_, ?_, ?_, ?_⟩
    · rw [List.getElem?_append_right (by omega), show (i + 1) * 4 - ([.int .i64 m.1, .int .i64 m.2.1, .int .i64 m.2.2.1, .int .i64 m.2.2.2] : List Value).length = i * 4 by omega]; exact ih.1
    · rw [List.getElem?_append_right (by omega), show (i + 1) * 4 + 1 - ([.int .i64 m.1, .int .i64 m.2.1, .int .i64 m.2.2.1, .int .i64 m.2.2.2] : List Value).length = i * 4 + 1 by omega]; exact ih.2.1
    · rw [List.getElem?_append_right (by omega), show (i + 1) * 4 + 2 - ([.int .i64 m.1, .int .i64 m.2.1, .int .i64 m.2.2.1, .int .i64 m.2.2.2] : List Value).length = i * 4 + 2 by omega]; exact ih.2.2.1
    · rw [List.getElem?_append_right (by omega), show (i + 1) * 4 + 3 - ([.int .i64 m.1, .int .i64 m.2.1, .int .i64 m.2.2.1, .int .i64 m.2.2.2] : List Value).length = i * 4 + 3 by omega]; exact ih.2.2.2
theorem krow_at {w : World} {B : Nat} {v : Value} {L : List K4} (h : w.ownsRow B 102 4 v L.length (ks L)) {i : Nat} (hi : i < L.length) : ∃ g cap, v = .slice (some ⟨g, 0, none⟩) L.length cap ∧ g < w.heap.size ∧
    w.cell? ⟨g, i * 4, none⟩ = some (.int .i64 L[i].1) ∧ w.cell? ⟨g, i * 4 + 1, none⟩ = some (.int .i64 L[i].2.1) ∧ w.cell? ⟨g, i * 4 + 2, none⟩ = some (.int .i64 L[i].2.2.1) ∧ w.cell? ⟨g, i * 4 + 3, none⟩ = some (.int .i64 L[i].2.2.2) := by
  have h2 := h.2
  rcases h2 with ⟨_, h0⟩ | ⟨g, cap, cur, rfl, hb, hg, _⟩
  · omega
  · have hc : ∀ j u, (ks L)[j]? = some u → w.cell? ((⟨g, 0, none⟩ : Addr).add j) = some u := h.cells (g := g) rfl
    obtain ⟨m1, m2, m3, m4⟩ := ks_at L hi
    have e : ∀ j, (⟨g, 0, none⟩ : Addr).add j = ⟨g, j, none⟩ := fun j => by unfold Addr.add; split <;> simp_all
    refine ⟨g, cap, rfl, lt_of_block hg, ?_, ?_, ?_, ?_⟩
    · rw [← e]; exact hc _ _ m1
    · rw [← e]; exact hc _ _ m2
    · rw [← e]; exact hc _ _ m3
    · rw [← e]; exact hc _ _ m4
theorem wfs {x : K4} (h : ∀ e ∈ [x.1, x.2.1, x.2.2.1, x.2.2.2], 0 ≤ e ∧ e < 2) : wf4 x := by
  have h1 := h x.1 (by simp)
  have h2 := h x.2.1 (by simp)
  have h3 := h x.2.2.1 (by simp)
  have h4 := h x.2.2.2 (by simp)
  refine ⟨?_, ?_, ?_, ?_⟩ <;> (simp [Lit.wf, IntKind.min, IntKind.max, IntKind.signed, IntKind.bits]; omega)
/-- The world within a round: the boxes of both neighbours. -/
structure CGR (w W : World) (bm lb mb gs gt : Nat) (xs p q : Array Value) (s : List K4 × List Nat) (vl : Value) : Prop where
  v : CGV w W bm lb mb xs s vl
  s : W.heap[gs]? = some (.cells p 102 (0, 0))
  t : W.heap[gt]? = some (.cells q 102 (0, 0))
  ns : some gs ≠ vl.ownBlock
  nt : some gt ≠ vl.ownBlock
theorem CGR.drew {w W : World} {bm lb mb gs gt : Nat} {xs p q : Array Value} {s : List K4 × List Nat} {vl : Value} (h : CGR w W bm lb mb gs gt xs p q s vl) : CGR w W.drew bm lb mb gs gt xs p q s vl := ⟨h.v.drew, h.s, h.t, h.ns, h.nt⟩
theorem CGR.cells {w W : World} {bm lb mb gs gt bS oS bT oT cS cT i : Nat} {a b c d a' b' c' d' : Value} {s : List K4 × List Nat} {vl : Value} (h : CGR w W bm lb mb gs gt #[.slice (some ⟨bS, oS, none⟩) 3 cS, .slice (some ⟨bT, oT, none⟩) 3 cT] #[a, b, c, d] #[a', b', c', d'] s vl) (hs : RdN w w.heap.size bS oS 3 (fnz [1, 0, 2])) (ht : RdN w w.heap.size bT oT 3 (fnz [0, 2, 1])) (hi : i < 3) :
    (W.cell? ⟨w.heap.size, 0, none⟩ = some (.slice (some ⟨bS, oS, none⟩) 3 cS) ∧ W.cell? ⟨w.heap.size, 1, none⟩ = some (.slice (some ⟨bT, oT, none⟩) 3 cT)) ∧ (W.cell? ⟨gs, 0, none⟩ = some a ∧ W.cell? ⟨gs, 1, none⟩ = some b ∧ W.cell? ⟨gs, 2, none⟩ = some c ∧ W.cell? ⟨gs, 3, none⟩ = some d) ∧ (W.cell? ⟨gt, 0, none⟩ = some a' ∧ W.cell? ⟨gt, 1, none⟩ = some b' ∧ W.cell? ⟨gt, 2, none⟩ = some c' ∧ W.cell? ⟨gt, 3, none⟩ = some d') ∧ W.cell? ⟨bS, oS + i, none⟩ = some (.int .i64 (fnz [1, 0, 2] i : Nat)) ∧ W.cell? ⟨bT, oT + i, none⟩ = some (.int .i64 (fnz [0, 2, 1] i : Nat)) :=
  ⟨(two_of_block h.v.x).1, (four_of_block h.s).1, (four_of_block h.t).1, (h.v.bel.cell (p := ⟨bS, oS + i, none⟩) hs.1).trans (hs.2 i hi), (h.v.bel.cell (p := ⟨bT, oT + i, none⟩) ht.1).trans (ht.2 i hi)⟩
theorem cgr_agree {w W : World} {bm lb mb gs gt : Nat} {xs p q : Array Value} {s : List K4 × List Nat} {vl : Value} {y : K4} {j : Nat} (h : CGR w W bm lb mb gs gt xs p q s vl) (hy : wf4 y) (hj : j ≤ 1152) (hK : s.1.length ≤ 100000) (ha : (cpAdd s y j).2.getD ((cpAdd s y j).1.idxOf y) 0 = j) :
    Calls Try.prog 73 #[.agg #[.int .i64 y.1, .int .i64 y.2.1, .int .i64 y.2.2.1, .int .i64 y.2.2.2], .int .i64 (j : Nat), .pointer (some ⟨bm, 0, none⟩), .pointer (some ⟨lb, 0, none⟩)] W fun e w' => e = .returned (.bool true) ∧ ∃ vl', CGR w w' bm lb mb gs gt xs p q (cpAdd s y j) vl' := by
  refine (cg_agree h.v hy hj hK ha).mono ?_
  rintro e w' ⟨rfl, vl', hV, hsz, hat, hrest⟩
  obtain ⟨D, hO, _⟩ := h.v.own
  have l1 := lt_of_block h.s
  have l2 := lt_of_block h.t
  have n : ∀ g, some g ≠ vl.ownBlock → g < W.heap.size → some g ≠ vl'.ownBlock := fun g hg hl e => by
    rcases hat with e' | ⟨g', e', h'⟩
    · exact hg (e.trans e')
    · rw [e'] at e
      cases e
      omega
  exact ⟨rfl, vl', hV, (hrest gs l1 (map_ne hO h.s) (ty_ne2 h.s h.v.l (by decide)) h.ns).trans h.s, (hrest gt l2 (map_ne hO h.t) (ty_ne2 h.t h.v.l (by decide)) h.nt).trans h.t, n gs h.ns l1, n gt h.nt l2⟩
set_option maxHeartbeats 6400000 in
set_option maxRecDepth 1000000 in
theorem contains3 {bS oS bT oT cS cT : Nat} (w : World) (hs : RdN w w.heap.size bS oS 3 (fnz [1, 0, 2])) (ht : RdN w w.heap.size bT oT 3 (fnz [0, 2, 1])) :
    Calls Try.prog 60 #[.agg #[.slice (some ⟨bS, oS, none⟩) 3 cS, .slice (some ⟨bT, oT, none⟩) 3 cT], .int .i64 2] w fun e w' => e = .returned (.bool true) ∧ Below w.heap.size w w' := by
  have HS := Lib.hid hs
  have HT := Lib.hid ht
  have hmm := @run_makeMap Try.prog
  have hw1 : wf4 (1, 0, 0, 1) := wfs (by decide)
  have HKey := Lib.hid (key_of hw1)
  clear hs ht
  go_enter Try.func60, Try.ntmps60
  go_wp2
  go_region
  obtain ⟨W1, hW1⟩ : ∃ W1, W1 = ((w.alloc (.cells #[.slice (some ⟨bS, oS, none⟩) 3 cS, .slice (some ⟨bT, oT, none⟩) 3 cT] 24)).alloc (.cells #[.int .i64 1, .int .i64 0, .int .i64 0, .int .i64 1] 102)).drew := ⟨_, rfl⟩
  have HX1 : Hid (W1.heap[w.heap.size]? = some (.cells #[.slice (some ⟨bS, oS, none⟩) 3 cS, .slice (some ⟨bT, oT, none⟩) 3 cT] 24 (0, 0))) := by rw [hW1]; exact block_alloc (heap_alloc_new w _) _
  have HF1 : Hid (W1.heap[w.heap.size + 1]? = some (.cells #[.int .i64 1, .int .i64 0, .int .i64 0, .int .i64 1] 102 (0, 0))) := by
    have := heap_alloc_new (w.alloc (.cells #[.slice (some ⟨bS, oS, none⟩) 3 cS, .slice (some ⟨bT, oT, none⟩) 3 cT] 24)) (.cells #[.int .i64 1, .int .i64 0, .int .i64 0, .int .i64 1] 102)
    rw [show (w.alloc (.cells #[.slice (some ⟨bS, oS, none⟩) 3 cS, .slice (some ⟨bT, oT, none⟩) 3 cT] 24)).heap.size = w.heap.size + 1 by simp] at this
    rw [hW1]; exact this
  have hsz1 : W1.heap.size = w.heap.size + 2 := by rw [hW1]; show ((w.alloc _).alloc _).heap.size = _; simp
  have HB1 : Hid (Below w.heap.size w W1) := by rw [hW1]; exact (below2 w _ _).drew
  rw [← hW1]
  clear hW1
  obtain ⟨⟨f1, f2, f3, f4⟩, _⟩ := four_of_block HF1.out
  have hl1 := lt_of_block HF1.out
  have HM0 : Hid (IsMpC (((W1.alloc (.cells #[.int .i64 1, .int .i64 0, .int .i64 0, .int .i64 1] 102)).alloc (.cells #[.slice (some ⟨W1.heap.size, 0, none⟩) 1 1] 103)).alloc (.map #[] 0)) (W1.heap.size + 1 + 1) 0 (.map [])) := by
    have := World.ownsMap_made ((W1.alloc (.cells #[.int .i64 1, .int .i64 0, .int .i64 0, .int .i64 1] 102)).alloc (.cells #[.slice (some ⟨W1.heap.size, 0, none⟩) 1 1] 103)) Try.prog 102 (plainElem (H := Unit) Try.prog 3)
    show World.ownsMap _ _ _ _ _ _ _
    simpa using this
  have hF6 : (((W1.alloc (.cells #[.int .i64 1, .int .i64 0, .int .i64 0, .int .i64 1] 102)).alloc (.cells #[.slice (some ⟨W1.heap.size, 0, none⟩) 1 1] 103)).alloc (.map #[] 0)).heap[w.heap.size + 1]? = some (.cells #[.int .i64 1, .int .i64 0, .int .i64 0, .int .i64 1] 102 (0, 0)) := block_alloc (block_alloc (block_alloc HF1.out _) _) _
  obtain ⟨⟨k1, k2, k3, k4⟩, _⟩ := four_of_block hF6
  have HSz1 := Lib.hid hsz1
  clear hsz1
  go_wp2_with (first
    | (refine wpList_insert_ownC _ rfl _ _ _ 104 rfl 102 3 law4 Try.underlying104 _ (W1.heap.size + 1 + 1) 0 (.map []) rfl HM0.out (by decide) (kv (1, 0, 0, 1)) _ (kl (1, 0, 0, 1)) rfl rfl HKey.out (.lit (.int .i64 0)) [] (plainElem_int Try.underlying3 (by decide)) ?_; intro w2 hown2 hg2; have HO2 := Lib.hid hown2; have HG2 := Lib.hid hg2; clear hown2 hg2)
    | fail)
  have HC0 : Hid (CGV w (w2.alloc (.cells #[.map (some (W1.heap.size + 1 + 1))] 104)) w2.heap.size (W1.heap.size + 1) (W1.heap.size + 1 + 1) #[.slice (some ⟨bS, oS, none⟩) 3 cS, .slice (some ⟨bT, oT, none⟩) 3 cT] (cpst (fnz [1, 0, 2]) (fnz [0, 2, 1]) 2 0) (.slice (some ⟨W1.heap.size, 0, none⟩) 1 1)) :=
    cg_start HX1.out HB1.out HO2.out (MDV.nil.put (i := 0) hw1 rfl) HG2.out
  have HLen := Lib.hid (by decide +kernel : ∀ k, k < 6 → (cpst (fnz [1, 0, 2]) (fnz [0, 2, 1]) 2 k).1.length ≤ 100)
  go_loopw [9, 10, 11, 12, 13] (fun I _ _ _ _ wr => ∃ (k : Nat) (vl : Value), I = .int .i64 (k : Nat) ∧ k ≤ 6 ∧ Hid (CGV w wr w2.heap.size (W1.heap.size + 1) (W1.heap.size + 1 + 1) #[.slice (some ⟨bS, oS, none⟩) 3 cS, .slice (some ⟨bT, oT, none⟩) 3 cT] (cpst (fnz [1, 0, 2]) (fnz [0, 2, 1]) 2 k) vl)) (fun I _ _ _ _ _ => 6 - (intOf I).toNat)
  case atStart => exact ⟨0, _, rfl, Nat.zero_le _, HC0.out⟩
  case round =>
    clear HC0
    obtain ⟨k, vl, rfl, hk, HV⟩ := hrel
    by_cases hlt : k < 6
    · obtain ⟨q1, q2, q3, q4, q5, q6, q7⟩ := cp3.1 k hlt
      have hN : cpst (fnz [1, 0, 2]) (fnz [0, 2, 1]) 2 (k + 1) = cpAdd (cpAdd (cpst (fnz [1, 0, 2]) (fnz [0, 2, 1]) 2 k) (cpS 2 ((cpst (fnz [1, 0, 2]) (fnz [0, 2, 1]) 2 k).1.getD k (0, 0, 0, 0))) (fnz [1, 0, 2] ((cpst (fnz [1, 0, 2]) (fnz [0, 2, 1]) 2 k).2.getD k 0))) (cpT 2 ((cpst (fnz [1, 0, 2]) (fnz [0, 2, 1]) 2 k).1.getD k (0, 0, 0, 0))) (fnz [0, 2, 1] ((cpst (fnz [1, 0, 2]) (fnz [0, 2, 1]) 2 k).2.getD k 0)) := rfl
      rw [hN] at q7
      have HN := Lib.hid hN
      have hlen1 := HLen.out k hlt
      clear hN
      generalize cpst (fnz [1, 0, 2]) (fnz [0, 2, 1]) 2 k = s at *
      obtain ⟨K, V⟩ := s
      dsimp only at q1 q2 q3 q4 q5 q6 q7 hlen1 HN
      rw [show K.getD k (0, 0, 0, 0) = K[k] by simp [List.getD, q1]] at q3 q5 q6 q7 HN
      have hrow := HV.out.row
      obtain ⟨g, cap, rfl, hg, r1, r2, r3, r4⟩ := krow_at hrow q1
      obtain ⟨⟨a, b, c, d⟩, hm⟩ : ∃ m, m = K[k] := ⟨_, rfl⟩
      have HMem : Hid ((a, b, c, d) ∈ K) := by show _ ∈ _; rw [hm]; exact List.getElem_mem _
      rw [← hm] at q3 q5 q6 q7 HN r1 r2 r3 r4
      have hcS : cpS 2 (a, b, c, d) = (b, a % 2, d, c % 2) := by
        have e1 : (2 - a) % 2 = a % 2 := by omega
        have e2 : (2 - c) % 2 = c % 2 := by omega
        show (b, (2 - a) % 2, d, (2 - c) % 2) = _
        rw [e1, e2]
      have hcT : cpT 2 (a, b, c, d) = (a, (a + b) % 2, c, (c + d) % 2) := rfl
      rw [hcS] at q6 q7 HN
      rw [hcT] at q7 HN
      clear hcS hcT
      have HQ3 := Lib.hid q3
      have HQ6 := Lib.hid q6
      have HQ7 := Lib.hid q7
      dsimp only at r1 r2 r3 r4 q5
      have HWf := Lib.hid (wfs (x := (a, b, c, d)) q5)
      obtain ⟨D, hOD, hMD⟩ := HV.out.own
      have HOD := Lib.hid hOD
      have HAt : Hid (D.atKey (kl (a, b, c, d)) (.lit (.int .i64 0)) = .lit (.int .i64 (V.getD k 0 : Nat))) := by
        show _ = _
        rw [hMD.at_ _ HWf.out HMem.out]
        dsimp only
        rw [HQ3.out]
      have HKy := Lib.hid (key_of HWf.out)
      have a1 := q5 a (by simp)
      have a2 := q5 b (by simp)
      have a3 := q5 c (by simp)
      have a4 := q5 d (by simp)
      have HI := Lib.hid q4
      clear q2 q3 q4 q5 q6 q7 hm hrow hOD hMD
      obtain ⟨l1, l2⟩ := box1 HV.out.l
      obtain ⟨m1, m2⟩ := box1 HV.out.m
      have hzl := lt_of_block HV.out.l
      have hzm := lt_of_block HV.out.m
      generalize V.getD k 0 = i at *
      have hki : (k : Int) < (K.length : Int) := by omega
      go_wp2_with (first
        | (at_lookup; refine wpList_lookup_own_int _ rfl _ _ 104 rfl 102 3 .i64 law4 Try.underlying104 Try.underlying3 (zeroIntC _) (W1.heap.size + 1 + 1) K.length D rfl (HOD.out.alloc _) (kv (a, b, c, d)) (kl (a, b, c, d)) rfl HKy.out ?_; intro v hat hwc; have HV9 := Lib.hid (hat.symm.trans HAt.out); clear hat hwc)
        | fail)
      obtain rfl : v = (i : Nat) := by
        have := HV9.out
        simpa using this
      clear HV9 m1 m2 l1 l2 r1 r2 r3 r4 hzl hzm
      have hsz := HV.out.bel.size
      have HV1 : Hid (CGV w (wr.alloc (.cells #[.int .i64 a, .int .i64 b, .int .i64 c, .int .i64 d] 102)) w2.heap.size (W1.heap.size + 1) (W1.heap.size + 1 + 1) #[.slice (some ⟨bS, oS, none⟩) 3 cS, .slice (some ⟨bT, oT, none⟩) 3 cT] (K, V) (.slice (some ⟨g, 0, none⟩) K.length cap)) := HV.out.alloc _
      have HF1 : Hid ((wr.alloc (.cells #[.int .i64 a, .int .i64 b, .int .i64 c, .int .i64 d] 102)).heap[wr.heap.size]? = some (.cells #[.int .i64 a, .int .i64 b, .int .i64 c, .int .i64 d] 102 (0, 0))) := heap_alloc_new wr _
      have HSz : Hid ((wr.alloc (.cells #[.int .i64 a, .int .i64 b, .int .i64 c, .int .i64 d] 102)).heap.size = wr.heap.size + 1) := by show _ = _; simp
      obtain ⟨W3, hW3⟩ : ∃ W3, W3 = wr.alloc (.cells #[.int .i64 a, .int .i64 b, .int .i64 c, .int .i64 d] 102) := ⟨_, rfl⟩
      rw [← hW3] at HV1 HF1 HSz ⊢
      clear hW3 HOD
      have hs3 := HSz.out
      obtain ⟨⟨f1, f2, f3, f4⟩, f5⟩ := four_of_block HF1.out
      have hz3 : wr.heap.size < W3.heap.size := by omega
      have t1 : (2 - a).tmod 2 = (2 - a) % 2 := Int.tmod_eq_emod_of_nonneg (by omega)
      have t2 : (2 - c).tmod 2 = (2 - c) % 2 := Int.tmod_eq_emod_of_nonneg (by omega)
      have t3 : (a + b).tmod 2 = (a + b) % 2 := Int.tmod_eq_emod_of_nonneg (by omega)
      have t4 : (c + d).tmod 2 = (c + d) % 2 := Int.tmod_eq_emod_of_nonneg (by omega)
      obtain ⟨a0, a1⟩ := a1
      obtain ⟨b0, b1⟩ := a2
      obtain ⟨c0, c1⟩ := a3
      obtain ⟨d0, d1⟩ := a4
      clear hs3
      go_region
      have HV4 : Hid (CGV w ((W3.alloc (.cells #[.int .i64 b, .int .i64 (a % 2), .int .i64 d, .int .i64 (c % 2)] 102)).drew) w2.heap.size (W1.heap.size + 1) (W1.heap.size + 1 + 1) #[.slice (some ⟨bS, oS, none⟩) 3 cS, .slice (some ⟨bT, oT, none⟩) 3 cT] (K, V) (.slice (some ⟨g, 0, none⟩) K.length cap)) := (HV1.out.alloc _).drew
      have HF4 : Hid (((W3.alloc (.cells #[.int .i64 b, .int .i64 (a % 2), .int .i64 d, .int .i64 (c % 2)] 102)).drew).heap[wr.heap.size]? = some (.cells #[.int .i64 a, .int .i64 b, .int .i64 c, .int .i64 d] 102 (0, 0))) := block_alloc HF1.out _
      have HG4 : Hid (((W3.alloc (.cells #[.int .i64 b, .int .i64 (a % 2), .int .i64 d, .int .i64 (c % 2)] 102)).drew).heap[W3.heap.size]? = some (.cells #[.int .i64 b, .int .i64 (a % 2), .int .i64 d, .int .i64 (c % 2)] 102 (0, 0))) := heap_alloc_new W3 _
      have HZ4 : Hid (((W3.alloc (.cells #[.int .i64 b, .int .i64 (a % 2), .int .i64 d, .int .i64 (c % 2)] 102)).drew).heap.size = W3.heap.size + 1) := by show (W3.alloc _).heap.size = _; simp
      obtain ⟨W4, hW4⟩ : ∃ W4, W4 = (W3.alloc (.cells #[.int .i64 b, .int .i64 (a % 2), .int .i64 d, .int .i64 (c % 2)] 102)).drew := ⟨_, rfl⟩
      rw [← hW4] at HV4 HF4 HG4 HZ4 ⊢
      clear hW4 f1 f2 f3 f4 f5 hz3 t1 t2
      have hs3 := HSz.out
      have hs4 := HZ4.out
      obtain ⟨⟨f1, f2, f3, f4⟩, f5⟩ := four_of_block HF4.out
      have hz3 : wr.heap.size < W4.heap.size := by omega
      clear hs3 hs4
      have HV5 := Lib.hid HV4.out.drew
      have HF5 : Hid (W4.drew.heap[wr.heap.size]? = some (.cells #[.int .i64 a, .int .i64 b, .int .i64 c, .int .i64 d] 102 (0, 0))) := HF4.out
      have HG5 : Hid (W4.drew.heap[W3.heap.size]? = some (.cells #[.int .i64 b, .int .i64 (a % 2), .int .i64 d, .int .i64 (c % 2)] 102 (0, 0))) := HG4.out
      have HZ5 : Hid (W4.drew.heap.size = W3.heap.size + 1) := HZ4.out
      have e1 : IntKind.i64.wrap (a + b) = a + b := IntWalk.i64_in _ (by omega)
      have e2 : IntKind.i64.wrap (c + d) = c + d := IntWalk.i64_in _ (by omega)
      have HGe : Hid (g < wr.heap.size) := hg
      have HLk : Hid (K.length ≤ 100) := hlen1
      have HAll := Lib.hid (And.intro HS (And.intro HT (And.intro HN (And.intro HQ6 (And.intro HQ7 (And.intro HWf (And.intro HV4 (And.intro HF5 (And.intro HG4 (And.intro HZ4 (Lib.hid (And.intro HSz.out HGe.out))))))))))))
      go_upto_region 11 with fail
      go_cut [13] (fun s13 wx => s13 = .pointer (some ⟨W4.heap.size, 0, none⟩) ∧ Hid (CGR w wx w2.heap.size (W1.heap.size + 1) (W1.heap.size + 1 + 1) W3.heap.size W4.heap.size #[.slice (some ⟨bS, oS, none⟩) 3 cS, .slice (some ⟨bT, oT, none⟩) 3 cT] #[.int .i64 b, .int .i64 (a % 2), .int .i64 d, .int .i64 (c % 2)] #[.int .i64 a, .int .i64 ((a + b) % 2), .int .i64 c, .int .i64 ((c + d) % 2)] (K, V) (.slice (some ⟨g, 0, none⟩) K.length cap)))
      case first =>
        clear HS HT HN HQ6 HQ7 HWf HV5 HF5 HG5 HZ5 HSz HKy HAt HMem HQ3 HX1 HF1 HB1 HM0 HO2 HG2 HKey HV4 HF4 HG4 HZ4 hlen1 HLen HV HV1 hsz q1 hki hlt hk
        refine region_E 20 (fun w' => w'.cell? ⟨wr.heap.size, 0, none⟩ = some (.int .i64 a) ∧ w'.cell? ⟨wr.heap.size, 1, none⟩ = some (.int .i64 b) ∧ w'.cell? ⟨wr.heap.size, 2, none⟩ = some (.int .i64 c) ∧ w'.cell? ⟨wr.heap.size, 3, none⟩ = some (.int .i64 d)) (by kernel_rfl) ?_
        have hHeld := (show W4.drew.cell? ⟨wr.heap.size, 0, none⟩ = some (.int .i64 a) ∧ W4.drew.cell? ⟨wr.heap.size, 1, none⟩ = some (.int .i64 b) ∧ W4.drew.cell? ⟨wr.heap.size, 2, none⟩ = some (.int .i64 c) ∧ W4.drew.cell? ⟨wr.heap.size, 3, none⟩ = some (.int .i64 d) from ⟨f1, f2, f3, f4⟩)
        refine take_E (n := 20) (i := 0) (v := ?v11_0) rfl (by kernel_rfl) (fun _ _ _ h => h) ?hy11_0 (by rfl) hHeld ?rest11_0
        case hy11_0 => (intro w9 hSw; (try dsimp only at hSw); go_simp <;> with_reducible rfl)
        simp only [List.getElem_toArray, List.getElem_cons_zero, List.getElem_cons_succ, Act.put, List.setIfInBounds_toArray, List.set_cons_zero, List.set_cons_succ]
        refine take_E (n := 20) (i := 1) (v := ?v11_1) rfl (by kernel_rfl) (fun _ _ _ h => h) ?hy11_1 (by rfl) hHeld ?rest11_1
        case hy11_1 => (intro w9 hSw; (try dsimp only at hSw); go_simp <;> with_reducible rfl)
        simp only [List.getElem_toArray, List.getElem_cons_zero, List.getElem_cons_succ, Act.put, List.setIfInBounds_toArray, List.set_cons_zero, List.set_cons_succ]
        refine take_E (n := 20) (i := 2) (v := ?v11_2) rfl (by kernel_rfl) (fun _ _ _ h => h) ?hy11_2 (by rfl) hHeld ?rest11_2
        case hy11_2 => (intro w9 hSw; (try dsimp only at hSw); go_simp <;> with_reducible rfl)
        simp only [List.getElem_toArray, List.getElem_cons_zero, List.getElem_cons_succ, Act.put, List.setIfInBounds_toArray, List.set_cons_zero, List.set_cons_succ]
        refine take_E (n := 20) (i := 3) (v := ?v11_3) rfl (by kernel_rfl) (fun _ _ _ h => h) ?hy11_3 (by rfl) hHeld ?rest11_3
        case hy11_3 => (intro w9 hSw; (try dsimp only at hSw); go_simp <;> with_reducible rfl)
        simp only [List.getElem_toArray, List.getElem_cons_zero, List.getElem_cons_succ, Act.put, List.setIfInBounds_toArray, List.set_cons_zero, List.set_cons_succ]
        refine take_E (n := 20) (i := 4) (v := ?v11_4) rfl (by kernel_rfl) (fun _ _ _ h => h) ?hy11_4 (by rfl) hHeld ?rest11_4
        case hy11_4 => (intro w9 hSw; (try dsimp only at hSw); go_simp <;> with_reducible rfl)
        simp only [List.getElem_toArray, List.getElem_cons_zero, List.getElem_cons_succ, Act.put, List.setIfInBounds_toArray, List.set_cons_zero, List.set_cons_succ]
        refine take_E (n := 20) (i := 5) (v := ?v11_5) rfl (by kernel_rfl) (fun _ _ _ h => h) ?hy11_5 (by rfl) hHeld ?rest11_5
        case hy11_5 => (intro w9 hSw; (try dsimp only at hSw); go_simp <;> with_reducible rfl)
        simp only [List.getElem_toArray, List.getElem_cons_zero, List.getElem_cons_succ, Act.put, List.setIfInBounds_toArray, List.set_cons_zero, List.set_cons_succ]
        refine take_E (n := 20) (i := 6) (v := ?v11_6) rfl (by kernel_rfl) (fun _ _ _ h => h) ?hy11_6 (by rfl) hHeld ?rest11_6
        case hy11_6 => (intro w9 hSw; (try dsimp only at hSw); go_simp <;> with_reducible rfl)
        simp only [List.getElem_toArray, List.getElem_cons_zero, List.getElem_cons_succ, Act.put, List.setIfInBounds_toArray, List.set_cons_zero, List.set_cons_succ]
        refine take_E (n := 20) (i := 7) (v := ?v11_7) rfl (by kernel_rfl) (fun _ _ _ h => h) ?hy11_7 (by rfl) hHeld ?rest11_7
        case hy11_7 => (intro w9 hSw; (try dsimp only at hSw); go_simp <;> with_reducible rfl)
        simp only [List.getElem_toArray, List.getElem_cons_zero, List.getElem_cons_succ, Act.put, List.setIfInBounds_toArray, List.set_cons_zero, List.set_cons_succ]
        refine take_E (n := 20) (i := 8) (v := ?v11_8) rfl (by kernel_rfl) (fun _ _ _ h => h) ?hy11_8 (by rfl) hHeld ?rest11_8
        case hy11_8 => (intro w9 hSw; (try dsimp only at hSw); go_simp <;> with_reducible rfl)
        simp only [List.getElem_toArray, List.getElem_cons_zero, List.getElem_cons_succ, Act.put, List.setIfInBounds_toArray, List.set_cons_zero, List.set_cons_succ]
        refine take_E (n := 20) (i := 9) (v := ?v11_9) rfl (by kernel_rfl) (fun _ _ _ h => h) ?hy11_9 (by rfl) hHeld ?rest11_9
        case hy11_9 => (intro w9 hSw; (try dsimp only at hSw); go_simp <;> with_reducible rfl)
        simp only [List.getElem_toArray, List.getElem_cons_zero, List.getElem_cons_succ, Act.put, List.setIfInBounds_toArray, List.set_cons_zero, List.set_cons_succ]
        refine take_E (n := 20) (i := 10) (v := ?v11_10) rfl (by kernel_rfl) (fun _ _ _ h => h) ?hy11_10 (by rfl) hHeld ?rest11_10
        case hy11_10 => (intro w9 hSw; (try dsimp only at hSw); go_simp <;> with_reducible rfl)
        simp only [List.getElem_toArray, List.getElem_cons_zero, List.getElem_cons_succ, Act.put, List.setIfInBounds_toArray, List.set_cons_zero, List.set_cons_succ]
        refine take_E (n := 20) (i := 11) (v := ?v11_11) rfl (by kernel_rfl) (fun _ _ _ h => h) ?hy11_11 (by rfl) hHeld ?rest11_11
        case hy11_11 => (intro w9 hSw; (try dsimp only at hSw); go_simp <;> with_reducible rfl)
        simp only [List.getElem_toArray, List.getElem_cons_zero, List.getElem_cons_succ, Act.put, List.setIfInBounds_toArray, List.set_cons_zero, List.set_cons_succ]
        refine take_E (n := 20) (i := 12) (v := ?v11_12) rfl (by kernel_rfl) (fun _ _ _ h => h) ?hy11_12 (by rfl) hHeld ?rest11_12
        case hy11_12 => (intro w9 hSw; (try dsimp only at hSw); go_simp <;> with_reducible rfl)
        simp only [List.getElem_toArray, List.getElem_cons_zero, List.getElem_cons_succ, Act.put, List.setIfInBounds_toArray, List.set_cons_zero, List.set_cons_succ]
        refine take_E (n := 20) (i := 13) (v := ?v11_13) rfl (by kernel_rfl) (fun _ _ _ h => h) ?hy11_13 (by rfl) hHeld ?rest11_13
        case hy11_13 => (intro w9 hSw; (try dsimp only at hSw); go_simp <;> with_reducible rfl)
        simp only [List.getElem_toArray, List.getElem_cons_zero, List.getElem_cons_succ, Act.put, List.setIfInBounds_toArray, List.set_cons_zero, List.set_cons_succ]
        refine take_E (n := 20) (i := 14) (v := ?v11_14) rfl (by kernel_rfl) (fun _ _ _ h => h) ?hy11_14 (by rfl) hHeld ?rest11_14
        case hy11_14 => (intro w9 hSw; (try dsimp only at hSw); go_simp <;> with_reducible rfl)
        simp only [List.getElem_toArray, List.getElem_cons_zero, List.getElem_cons_succ, Act.put, List.setIfInBounds_toArray, List.set_cons_zero, List.set_cons_succ]
        refine take_E (n := 20) (i := 15) (v := ?v11_15) rfl (by kernel_rfl) (fun _ _ _ h => h) ?hy11_15 (by rfl) hHeld ?rest11_15
        case hy11_15 => (intro w9 hSw; (try dsimp only at hSw); go_simp <;> with_reducible rfl)
        simp only [List.getElem_toArray, List.getElem_cons_zero, List.getElem_cons_succ, Act.put, List.setIfInBounds_toArray, List.set_cons_zero, List.set_cons_succ]
        refine take_E (n := 20) (i := 16) (v := ?v11_16) rfl (by kernel_rfl) (fun _ _ _ h => h) ?hy11_16 (by rfl) hHeld ?rest11_16
        case hy11_16 => (intro w9 hSw; (try dsimp only at hSw); go_simp <;> with_reducible rfl)
        simp only [List.getElem_toArray, List.getElem_cons_zero, List.getElem_cons_succ, Act.put, List.setIfInBounds_toArray, List.set_cons_zero, List.set_cons_succ]
        refine take_E (n := 20) (i := 17) (v := ?v11_17) rfl (by kernel_rfl) (fun _ _ _ h => h) ?hy11_17 (by rfl) hHeld ?rest11_17
        case hy11_17 => (intro w9 hSw; (try dsimp only at hSw); go_simp <;> with_reducible rfl)
        simp only [List.getElem_toArray, List.getElem_cons_zero, List.getElem_cons_succ, Act.put, List.setIfInBounds_toArray, List.set_cons_zero, List.set_cons_succ]
        refine take_E (n := 20) (i := 18) (v := ?v11_18) rfl (by kernel_rfl) (fun _ _ _ h => h) ?hy11_18 (by rfl) hHeld ?rest11_18
        case hy11_18 => (intro w9 hSw; (try dsimp only at hSw); go_simp <;> with_reducible rfl)
        simp only [List.getElem_toArray, List.getElem_cons_zero, List.getElem_cons_succ, Act.put, List.setIfInBounds_toArray, List.set_cons_zero, List.set_cons_succ]
        refine one_E (n := 20) (i := 19) (by kernel_rfl) rfl (fun K' hK => ?_)
        go_simp
        refine hK.out _ _ (fun _ => (four_of_block (block_alloc HAll.out.2.2.2.2.2.2.2.1.out _)).1) (fun hHeld19 => ?_)
        clear hK K'
        (try simp only [List.getElem_toArray, List.getElem_cons_zero, List.getElem_cons_succ, Act.put, List.setIfInBounds_toArray, List.set_cons_zero, List.set_cons_succ])
        refine one_E (n := 20) (i := 20) (by kernel_rfl) rfl (fun K' hK => ?_)
        go_simp
        refine hK.out _ _ (fun h => absurd h (by decide)) (fun hHeld20 => ?_)
        clear hK K'
        (try simp only [List.getElem_toArray, List.getElem_cons_zero, List.getElem_cons_succ, Act.put, List.setIfInBounds_toArray, List.set_cons_zero, List.set_cons_succ])
        refine done_E (by kernel_rfl) ?_ _
        go_wp2_with fail
        go_meet
        have h3 : W3.heap.size = wr.heap.size + 1 := HAll.out.2.2.2.2.2.2.2.2.2.2.out.1
        have h4 : W4.heap.size = W3.heap.size + 1 := HAll.out.2.2.2.2.2.2.2.2.2.1.out
        have hg' := HAll.out.2.2.2.2.2.2.2.2.2.2.out.2
        refine ⟨rfl, (HAll.out.2.2.2.2.2.2.1.out.alloc _).drew, block_alloc HAll.out.2.2.2.2.2.2.2.2.1.out _, heap_alloc_new W4 _, fun e => ?_, fun e => ?_⟩
        · have h9 : W3.heap.size = g := by simpa [Value.ownBlock] using e
          omega
        · have h9 : W4.heap.size = g := by simpa [Value.ownBlock] using e
          omega
      case rest =>
        obtain ⟨rfl, HR⟩ := hcut
        clear HV4 HF4 HG4 HZ4 HV5 HF5 HG5 HZ5 HAll HV1 HF1 HSz HV f1 f2 f3 f4 f5
        have hi3 : i < 3 := HI.out
        have HCells : Hid (∀ {W : World} {s : List K4 × List Nat} {vl : Value}, CGR w W w2.heap.size (W1.heap.size + 1) (W1.heap.size + 1 + 1) W3.heap.size W4.heap.size #[.slice (some ⟨bS, oS, none⟩) 3 cS, .slice (some ⟨bT, oT, none⟩) 3 cT] #[.int .i64 b, .int .i64 (a % 2), .int .i64 d, .int .i64 (c % 2)] #[.int .i64 a, .int .i64 ((a + b) % 2), .int .i64 c, .int .i64 ((c + d) % 2)] s vl → _) := fun {W s vl} h => CGR.cells h HS.out HT.out hi3
        have wS : wf4 (b, a % 2, d, c % 2) := wfs (by simp; omega)
        have wT : wf4 (a, (a + b) % 2, c, (c + d) % 2) := wfs (by simp; omega)
        have jS : fnz [1, 0, 2] i ≤ 1152 := by have := (prm3 act3.s rfl).lt i hi3; omega
        have jT : fnz [0, 2, 1] i ≤ 1152 := by have := (prm3 act3.t rfl).lt i hi3; omega
        have hL1 : (cpAdd (K, V) (b, a % 2, d, c % 2) (fnz [1, 0, 2] i)).1.length ≤ 100000 := by
          unfold cpAdd; split
          · show K.length ≤ _; omega
          · show (K ++ [_]).length ≤ _; rw [List.length_append]; simp; omega
        have hK0 : K.length ≤ 100000 := by omega
        have HC1 : Hid (∀ (W : World) (vl : Value), CGR w W w2.heap.size (W1.heap.size + 1) (W1.heap.size + 1 + 1) W3.heap.size W4.heap.size #[.slice (some ⟨bS, oS, none⟩) 3 cS, .slice (some ⟨bT, oT, none⟩) 3 cT] #[.int .i64 b, .int .i64 (a % 2), .int .i64 d, .int .i64 (c % 2)] #[.int .i64 a, .int .i64 ((a + b) % 2), .int .i64 c, .int .i64 ((c + d) % 2)] (K, V) vl → Calls Try.prog 73 #[.agg #[.int .i64 b, .int .i64 (a % 2), .int .i64 d, .int .i64 (c % 2)], .int .i64 (fnz [1, 0, 2] i : Nat), .pointer (some ⟨w2.heap.size, 0, none⟩), .pointer (some ⟨W1.heap.size + 1, 0, none⟩)] W fun e w' => e = .returned (.bool true) ∧ ∃ vl', CGR w w' w2.heap.size (W1.heap.size + 1) (W1.heap.size + 1 + 1) W3.heap.size W4.heap.size #[.slice (some ⟨bS, oS, none⟩) 3 cS, .slice (some ⟨bT, oT, none⟩) 3 cT] #[.int .i64 b, .int .i64 (a % 2), .int .i64 d, .int .i64 (c % 2)] #[.int .i64 a, .int .i64 ((a + b) % 2), .int .i64 c, .int .i64 ((c + d) % 2)] (cpAdd (K, V) (b, a % 2, d, c % 2) (fnz [1, 0, 2] i)) vl') := fun W vl h => cgr_agree (y := (b, a % 2, d, c % 2)) h wS jS hK0 HQ6.out
        have HC2 : Hid (∀ (W : World) (vl : Value), CGR w W w2.heap.size (W1.heap.size + 1) (W1.heap.size + 1 + 1) W3.heap.size W4.heap.size #[.slice (some ⟨bS, oS, none⟩) 3 cS, .slice (some ⟨bT, oT, none⟩) 3 cT] #[.int .i64 b, .int .i64 (a % 2), .int .i64 d, .int .i64 (c % 2)] #[.int .i64 a, .int .i64 ((a + b) % 2), .int .i64 c, .int .i64 ((c + d) % 2)] (cpAdd (K, V) (b, a % 2, d, c % 2) (fnz [1, 0, 2] i)) vl → Calls Try.prog 73 #[.agg #[.int .i64 a, .int .i64 ((a + b) % 2), .int .i64 c, .int .i64 ((c + d) % 2)], .int .i64 (fnz [0, 2, 1] i : Nat), .pointer (some ⟨w2.heap.size, 0, none⟩), .pointer (some ⟨W1.heap.size + 1, 0, none⟩)] W fun e w' => e = .returned (.bool true) ∧ ∃ vl', CGR w w' w2.heap.size (W1.heap.size + 1) (W1.heap.size + 1 + 1) W3.heap.size W4.heap.size #[.slice (some ⟨bS, oS, none⟩) 3 cS, .slice (some ⟨bT, oT, none⟩) 3 cT] #[.int .i64 b, .int .i64 (a % 2), .int .i64 d, .int .i64 (c % 2)] #[.int .i64 a, .int .i64 ((a + b) % 2), .int .i64 c, .int .i64 ((c + d) % 2)] (cpAdd (cpAdd (K, V) (b, a % 2, d, c % 2) (fnz [1, 0, 2] i)) (a, (a + b) % 2, c, (c + d) % 2) (fnz [0, 2, 1] i)) vl') := fun W vl h => cgr_agree (y := (a, (a + b) % 2, c, (c + d) % 2)) h wT jT hL1 (by have := HQ7.out; exact this)
        have V0 := Lib.hid HR.out.drew
        have hii : (i : Int) < 3 := by omega
        clear HQ6 HQ7 wS wT jS jT hL1 hK0 HAt HMem HQ3 HKy HWf t3 t4
        generalize fnz [1, 0, 2] i = x at *
        generalize fnz [0, 2, 1] i = y at *
        generalize cpAdd (K, V) (b, a % 2, d, c % 2) x = s1 at *
        generalize cpAdd s1 (a, (a + b) % 2, c, (c + d) % 2) y = s2 at *
        generalize (a + b) % 2 = ab at *
        generalize (c + d) % 2 = cd at *
        generalize a % 2 = a2 at *
        generalize c % 2 = c2 at *
        go_upto_region 12 with fail
        go_region_held3 (fun w' => (w'.cell? ⟨w.heap.size, 0, none⟩ = some (.slice (some ⟨bS, oS, none⟩) 3 cS) ∧ w'.cell? ⟨w.heap.size, 1, none⟩ = some (.slice (some ⟨bT, oT, none⟩) 3 cT)) ∧ (w'.cell? ⟨W3.heap.size, 0, none⟩ = some (.int .i64 b) ∧ w'.cell? ⟨W3.heap.size, 1, none⟩ = some (.int .i64 a2) ∧ w'.cell? ⟨W3.heap.size, 2, none⟩ = some (.int .i64 d) ∧ w'.cell? ⟨W3.heap.size, 3, none⟩ = some (.int .i64 c2)) ∧ (w'.cell? ⟨W4.heap.size, 0, none⟩ = some (.int .i64 a) ∧ w'.cell? ⟨W4.heap.size, 1, none⟩ = some (.int .i64 ab) ∧ w'.cell? ⟨W4.heap.size, 2, none⟩ = some (.int .i64 c) ∧ w'.cell? ⟨W4.heap.size, 3, none⟩ = some (.int .i64 cd)) ∧ w'.cell? ⟨bS, oS + i, none⟩ = some (.int .i64 (x : Nat)) ∧ w'.cell? ⟨bT, oT + i, none⟩ = some (.int .i64 (y : Nat)))
          (with_reducible first | exact HCells.out V2.out | exact HCells.out V1.out | exact HCells.out V0.out | fail)
          (first
            | (go_at_call 73; ((with_reducible refine (HC1.out _ _ V0.out).mono ?_); rintro e w4 ⟨rfl, vl1, h⟩; have V1 := Lib.hid h; clear h))
            | (go_at_call 73; ((with_reducible refine (HC2.out _ _ V1.out).mono ?_); rintro e w5 ⟨rfl, vl2, h⟩; have V2 := Lib.hid h; clear h))
            | fail)
        go_wp2
        go_roundw
        case rel => exact ⟨k + 1, vl2, by go_num, by omega, by rw [HN.out]; exact V2.out.v⟩
        case measure => simp [intOf]; omega
    · obtain rfl : k = 6 := by omega
      have hl6 := cp3.2
      have HB := Lib.hid HV.out.bel
      have l1 := (box1 HV.out.l).1
      have hzl := lt_of_block HV.out.l
      have hrow := HV.out.row
      rw [hl6] at hrow
      obtain ⟨la, lc, rfl⟩ := own_len hrow
      clear hrow HV hl6 HLen
      go_wp2
      go_ret
      exact ⟨rfl, HB.out⟩
end Go.Proofs.Ytjofmgnggeoimaa
