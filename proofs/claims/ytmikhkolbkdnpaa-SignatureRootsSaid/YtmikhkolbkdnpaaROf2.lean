/- The contract of the reference's Of. -/
import Derived.Test.YtmikhkolbkdnpaaOfL
namespace Go.Proofs.Ytmikhkolbkdnpaa
open Go.RowKit
set_option linter.unusedVariables false
set_option linter.unusedSimpArgs false

set_option maxHeartbeats 3200000 in
set_option maxRecDepth 1000000 in
theorem rgenus_any (ix gn n2 n3 cu ir : Int) (mi : Bool) (w : World) (h1 : 0 ≤ ix ∧ ix ≤ 100000) (h2 : 0 ≤ n2 ∧ n2 ≤ 100000) (h3 : 0 ≤ n3 ∧ n3 ≤ 100000) (h4 : 0 ≤ cu ∧ cu ≤ 100000) :
    Calls Try.prog 33 #[.agg #[.int .i64 ix, .int .i64 gn, .int .i64 n2, .int .i64 n3, .int .i64 cu, .int .i64 ir, .bool mi]] w fun e w' => e = .returned (.agg #[.int .i64 ix, .int .i64 ((12 + ix - 3 * n2 - 4 * n3 - 6 * cu).tdiv 12), .int .i64 n2, .int .i64 n3, .int .i64 cu, .int .i64 ir, .bool mi]) ∧ Below w.heap.size w w' := by
  obtain ⟨a1, a2⟩ := h1
  obtain ⟨b1, b2⟩ := h2
  obtain ⟨c1, c2⟩ := h3
  obtain ⟨d1, d2⟩ := h4
  go_enter Try.func33, Try.ntmps33
  go_wp2
  refine bodyPost_ret (v := .agg #[.int .i64 ix, .int .i64 ((12 + ix - 3 * n2 - 4 * n3 - 6 * cu).tdiv 12), .int .i64 n2, .int .i64 n3, .int .i64 cu, .int .i64 ir, .bool mi]) ?_ rfl ⟨rfl, below2 w _ _⟩
  simp [results, Try.results33, go_sem]
/-- The world in the loops of the reference's Of. -/
structure GR (w1 wr : World) (gb : Nat) (ix n2 n3 cu ir : Int) (mi : Bool) : Prop where
  blk : wr.heap[gb]? = some (.cells #[.int .i64 ix, .int .i64 0, .int .i64 n2, .int .i64 n3, .int .i64 cu, .int .i64 ir, .bool mi] 27 (0, 0))
  ge : w1.heap.size ≤ gb
  bel : Below w1.heap.size w1 wr
section
variable {w1 wr : World} {gb : Nat} {ix n2 n3 cu ir : Int} {mi : Bool}
theorem GR.set2 (h : GR w1 wr gb ix n2 n3 cu ir mi) (y : Int) : GR w1 (wr.setCell ⟨gb, 2, none⟩ (.int .i64 y)) gb ix y n3 cu ir mi := ⟨heap_setCell_same _ _ 2 #[.int .i64 ix, .int .i64 0, .int .i64 n2, .int .i64 n3, .int .i64 cu, .int .i64 ir, .bool mi] _ (.int .i64 y) h.blk, h.ge, h.bel.setCell h.ge _⟩
theorem GR.set3 (h : GR w1 wr gb ix n2 n3 cu ir mi) (y : Int) : GR w1 (wr.setCell ⟨gb, 3, none⟩ (.int .i64 y)) gb ix n2 y cu ir mi := ⟨heap_setCell_same _ _ 3 #[.int .i64 ix, .int .i64 0, .int .i64 n2, .int .i64 n3, .int .i64 cu, .int .i64 ir, .bool mi] _ (.int .i64 y) h.blk, h.ge, h.bel.setCell h.ge _⟩
theorem GR.set5 (h : GR w1 wr gb ix n2 n3 cu ir mi) (y : Int) : GR w1 (wr.setCell ⟨gb, 5, none⟩ (.int .i64 y)) gb ix n2 n3 cu y mi := ⟨heap_setCell_same _ _ 5 #[.int .i64 ix, .int .i64 0, .int .i64 n2, .int .i64 n3, .int .i64 cu, .int .i64 ir, .bool mi] _ (.int .i64 y) h.blk, h.ge, h.bel.setCell h.ge _⟩
theorem GR.below {w' : World} (h : GR w1 wr gb ix n2 n3 cu ir mi) (hb : Below wr.heap.size wr w') : GR w1 w' gb ix n2 n3 cu ir mi := ⟨block_below h.blk hb, h.ge, bel0 h.bel hb⟩
end
theorem rdn_set {w : World} {B g o n b j : Nat} {f : Nat → Nat} {v : Value} (hn : g ≠ b) (h : RdN w B g o n f) : RdN (w.setCell ⟨b, j, none⟩ v) B g o n f := ⟨h.1, fun i hi => (World.cell?_of_block (w := w) (Below.heap_setCell w ⟨b, j, none⟩ v g hn)).trans (h.2 i hi)⟩
set_option maxHeartbeats 6400000 in
set_option maxRecDepth 1000000 in
theorem rof_ok {S T : List Int} {B bS oS bT oT cS cT : Nat} (w : World) (h : AI w B bS oS bT oT S T cS cT) :
    Calls Try.prog 13 #[.agg #[.slice (some ⟨bS, oS, none⟩) S.length cS, .slice (some ⟨bT, oT, none⟩) S.length cT]] w fun e w' => e = .returned (.tuple #[sgA S T, .int .i64 0]) ∧ Below w.heap.size w w' := by
  obtain ⟨W0, hW0⟩ : ∃ W0, W0 = (w.alloc (.cells #[.slice (some ⟨bS, oS, none⟩) S.length cS, .slice (some ⟨bT, oT, none⟩) S.length cT] 24)).alloc (.cells #[.int .i64 0, .int .i64 0, .int .i64 0, .int .i64 0, .int .i64 0, .int .i64 0, .bool false] 27) := ⟨_, rfl⟩
  have hA := pact_of h.act
  have hm := hA.mle
  have hle := h.act.le
  have hpos := h.act.pos
  have hmp := hA.mpos
  have hz := rel_inv h.act.ps h.act.pt h.act.rel
  have hsl := hA.ps.lt
  have htl := hA.pt.lt
  obtain ⟨s1, s2, s3⟩ := hA.sbd hz
  have hcl : clP S T = (cst (uB (fnz T) (fun i => fnz S (fnz S i)) S.length) S.length).2 := clP_ok (chkA_ok h.act)
  have hcu : (clP S T).length = cuZ (fnz S) (fnz T) S.length := by rw [hcl]; rfl
  have T0 : Hid (W0.heap[w.heap.size]? = some (.cells #[.slice (some ⟨bS, oS, none⟩) S.length cS, .slice (some ⟨bT, oT, none⟩) S.length cT] 24 (0, 0))) := by
    show _ = _; rw [hW0]; exact block_alloc (heap_alloc_new w _) _
  have R0 : Hid (W0.heap[w.heap.size + 1]? = some (.cells #[.int .i64 0, .int .i64 0, .int .i64 0, .int .i64 0, .int .i64 0, .int .i64 0, .bool false] 27 (0, 0))) := by
    show _ = _; rw [hW0]; have := heap_alloc_new (w.alloc (.cells #[.slice (some ⟨bS, oS, none⟩) S.length cS, .slice (some ⟨bT, oT, none⟩) S.length cT] 24)) (.cells #[.int .i64 0, .int .i64 0, .int .i64 0, .int .i64 0, .int .i64 0, .int .i64 0, .bool false] 27); simpa using this
  have HB0 : Hid (Below w.heap.size w W0) := by show Below _ _ _; rw [hW0]; exact below2 w _ _
  have HCl : Hid (∀ W, Below w.heap.size w W → Calls Try.prog 29 #[.agg #[.slice (some ⟨bS, oS, none⟩) S.length cS, .slice (some ⟨bT, oT, none⟩) S.length cT]] W fun e w' => ∃ A c, e = .returned (.tuple #[.slice A (clP S T).length c, .int .i64 0]) ∧ w'.ownsRow W.heap.size 60 3 (.slice A (clP S T).length c) (clP S T).length (ccs (wdF S T) (rgF S T) (clP S T)) ∧ Below W.heap.size W w') := fun W hb => by
    have := rclasses2_any W (h.below hb).zs (h.below hb).zt (h.below hb).le
    rwa [chkA_ok h.act, h.act.len] at this
  have HPj : Hid (∀ W, Below w.heap.size w W → Calls Try.prog 30 #[.agg #[.slice (some ⟨bS, oS, none⟩) S.length cS, .slice (some ⟨bT, oT, none⟩) S.length cT]] W fun e w' => ∃ b o c b' o' c', e = .returned (.agg #[.slice (some ⟨b, o, none⟩) (mO (fnz S) S.length) c, .slice (some ⟨b', o', none⟩) (mO (fnz S) S.length) c']) ∧ RdN w' w'.heap.size b o (mO (fnz S) S.length) (sO (fnz S) S.length) ∧ RdN w' w'.heap.size b' o' (mO (fnz S) S.length) (tO (fnz S) (fnz T) S.length) ∧ Below W.heap.size W w') := fun W hb =>
    (rproj_ok W (h.below hb)).mono fun e w' ⟨A, c, A', c', he, r1, r2, hb'⟩ => by
      obtain ⟨b, o, rfl, q1⟩ := rdz_rdn r1 (pS_len _ _) hmp fun q hq => pS_at _ _ q hq
      obtain ⟨b', o', rfl, q2⟩ := rdz_rdn r2 (pT_len _ _ _) hmp fun q hq => pT_at _ _ _ q hq
      rw [pS_len, pT_len] at he
      exact ⟨b, o, c, b', o', c', he, q1, q2, hb'⟩
  have HMi : Hid (∀ W, Below w.heap.size w W → Calls Try.prog 31 #[.agg #[.slice (some ⟨bS, oS, none⟩) S.length cS, .slice (some ⟨bT, oT, none⟩) S.length cT]] W fun e w' => e = .returned (.bool (mnB S)) ∧ Below W.heap.size W w') := fun W hb => rminus_any W ((h.below hb).s.mono (h.below hb).le) h.act.ps (by omega) (mnB S) rfl
  have HTu : Hid (∀ (W : World) b o c b' o' c', RdN W W.heap.size b o (mO (fnz S) S.length) (sO (fnz S) S.length) → RdN W W.heap.size b' o' (mO (fnz S) S.length) (tO (fnz S) (fnz T) S.length) → Calls Try.prog 32 #[.agg #[.slice (some ⟨b, o, none⟩) (mO (fnz S) S.length) c, .slice (some ⟨b', o', none⟩) (mO (fnz S) S.length) c']] W fun e w' => ∃ g c, e = .returned (.slice (some ⟨g, 0, none⟩) (mO (fnz S) S.length) c) ∧ W.heap.size ≤ g ∧ RdN w' w'.heap.size g 0 (mO (fnz S) S.length) (fun i => tO (fnz S) (fnz T) S.length (sO (fnz S) S.length i)) ∧ Below W.heap.size W w') := fun W b o c b' o' c' r1 r2 =>
    (rturn_any W r1 r2 hsl (by omega)).mono fun e w' ⟨A, c, he, ho, hb⟩ => by
      obtain ⟨gl, rfl, hr⟩ := own_rdn ho (by simp) hmp
      obtain ⟨gl', e', hge⟩ := own_some ho hmp
      cases e'
      refine ⟨gl, c, he, by omega, ⟨hr.1, fun i hi => ?_⟩, hb⟩
      rw [hr.2 i hi]
      simp [List.getD, hi]
  have HGn : Hid (∀ W, Calls Try.prog 33 #[.agg #[.int .i64 (mO (fnz S) S.length : Nat), .int .i64 0, .int .i64 (n2Z (fnz S) S.length : Nat), .int .i64 (n3Z (fnz S) (fnz T) S.length : Nat), .int .i64 ((clP S T).length : Nat), .int .i64 (irL (rgF S T) (clP S T) : Nat), .bool (mnB S)]] W fun e w' => e = .returned (sgA S T) ∧ Below W.heap.size W w') := fun W => by
    have := rgenus_any (mO (fnz S) S.length : Nat) 0 (n2Z (fnz S) S.length : Nat) (n3Z (fnz S) (fnz T) S.length : Nat) ((clP S T).length : Nat) (irL (rgF S T) (clP S T) : Nat) (mnB S) W (by omega) (by omega) (by omega) (by omega)
    unfold sgA gnZ
    rw [← hcu]
    exact this
  have HE2 : Hid (cntB (fun q => decide (sO (fnz S) S.length q = q)) (mO (fnz S) S.length) = n2Z (fnz S) S.length) := rfl
  have HE3 : Hid (cntB (fun q => decide (tO (fnz S) (fnz T) S.length (sO (fnz S) S.length q) = q)) (mO (fnz S) S.length) = n3Z (fnz S) (fnz T) S.length) := rfl
  have HSg : Hid (sgA S T = .agg #[.int .i64 (mO (fnz S) S.length : Nat), .int .i64 (gnZ (fnz S) (fnz T) S.length), .int .i64 (n2Z (fnz S) S.length : Nat), .int .i64 (n3Z (fnz S) (fnz T) S.length : Nat), .int .i64 ((clP S T).length : Nat), .int .i64 (irL (rgF S T) (clP S T) : Nat), .bool (mnB S)]) := rfl
  have hpl : (clP S T).length ≤ 1152 := by omega
  clear h hA hz hcl hcu hsl htl hpos
  generalize hgE : gnZ (fnz S) (fnz T) S.length = gn at *
  clear hgE
  generalize n2Z (fnz S) S.length = N2 at *
  generalize n3Z (fnz S) (fnz T) S.length = N3 at *
  generalize sO (fnz S) S.length = s at *
  generalize tO (fnz S) (fnz T) S.length = t at *
  generalize mO (fnz S) S.length = m at *
  generalize clP S T = P at *
  generalize rgF S T = RG at *
  generalize wdF S T = WD at *
  generalize mnB S = mi at *
  generalize sgA S T = SG at *
  generalize S.length = n at *
  go_enter Try.func13, Try.ntmps13
  go_upto_region 1 with fail
  rw [← hW0]
  clear hW0
  obtain ⟨⟨p1, p2⟩, _⟩ := two_of_block T0.out
  go_upto_region 5 with (first
    | (go_at_call 29; ((with_reducible refine (HCl.out _ HB0.out).mono ?_); rintro e w1 ⟨A1, c1, rfl, ho, hb⟩; have HB1 := Lib.hid (bel0 HB0.out hb); have T1 := Lib.hid (block_below T0.out hb); have R1 := Lib.hid (block_below R0.out hb); have O1 := Lib.hid ho; clear p1 p2; obtain ⟨⟨p1, p2⟩, _⟩ := two_of_block T1.out; clear hb ho))
    | (go_at_call 30; ((with_reducible refine (HPj.out _ HB1.out).mono ?_); rintro e w2 ⟨b, o, c, b', o', c', rfl, r1, r2, hb⟩; have HB2 := Lib.hid (bel0 HB1.out hb); have T2 := Lib.hid (block_below T1.out hb); have R2 := Lib.hid (block_below R1.out hb); have Q1 := Lib.hid r1; have Q2 := Lib.hid r2; have HC2 := Lib.hid (fun k hk => cls_read O1.out k hk); have K2 := Lib.hid hb; clear hb r1 r2 p1 p2))
    | fail)
  clear HCl HPj T0 R0 T1 R1 O1 HB0 HB1
  have X2 := Lib.hid (heap_alloc_new w2 (.cells #[.slice (some ⟨b, o, none⟩) m c, .slice (some ⟨b', o', none⟩) m c'] 24))
  have A2 := Lib.hid (block_alloc T2.out (.cells #[.slice (some ⟨b, o, none⟩) m c, .slice (some ⟨b', o', none⟩) m c'] 24))
  have R3 := Lib.hid (block_alloc R2.out (.cells #[.slice (some ⟨b, o, none⟩) m c, .slice (some ⟨b', o', none⟩) m c'] 24))
  have HB3 := Lib.hid (HB2.out.alloc HB2.out.size (.cells #[.slice (some ⟨b, o, none⟩) m c, .slice (some ⟨b', o', none⟩) m c'] 24))
  have K3 := Lib.hid (below1 w2 (.cells #[.slice (some ⟨b, o, none⟩) m c, .slice (some ⟨b', o', none⟩) m c'] 24))
  obtain ⟨W2, hW2⟩ : ∃ W2, W2 = w2.alloc (.cells #[.slice (some ⟨b, o, none⟩) m c, .slice (some ⟨b', o', none⟩) m c'] 24) := ⟨_, rfl⟩
  rw [← hW2] at X2 A2 R3 HB3 K3 ⊢
  clear hW2
  have S3 : Hid (RdN W2 W2.heap.size b o m s) := (Q1.out.below K3.out).mono K3.out.size
  have T3 : Hid (RdN W2 W2.heap.size b' o' m t) := (Q2.out.below K3.out).mono K3.out.size
  have HC3 : Hid (∀ k (hk : k < P.length), ∃ g, A1 = some ⟨g, 0, none⟩ ∧ g < W2.heap.size ∧ W2.cell? ⟨g, k * 3, none⟩ = some (.int .i64 (P[k] : Nat)) ∧ W2.cell? ⟨g, k * 3 + 1, none⟩ = some (.int .i64 (WD P[k] : Nat)) ∧ W2.cell? ⟨g, k * 3 + 2, none⟩ = some (.bool (RG P[k]))) := fun k hk => by
    obtain ⟨g, e, _, hg, a1, a2, a3⟩ := HC2.out k hk
    have hb := K2.out.trans (K3.out.mono K2.out.size)
    exact ⟨g, e, Nat.lt_of_lt_of_le hg hb.size, (hb.cell (p := ⟨g, k * 3, none⟩) hg).trans a1, (hb.cell (p := ⟨g, k * 3 + 1, none⟩) hg).trans a2, (hb.cell (p := ⟨g, k * 3 + 2, none⟩) hg).trans a3⟩
  obtain ⟨pb, hpb⟩ : ∃ pb, pb = w2.heap.size := ⟨_, rfl⟩
  rw [← hpb] at X2 ⊢
  clear hpb Q1 Q2 K2 K3 HC2 T2 R2 HB2
  have HKp := Lib.hid (lt_of_block X2.out)
  have HKr := Lib.hid (lt_of_block R3.out)
  have HKa := Lib.hid (lt_of_block A2.out)
  have HKc : Hid (∀ W, Below W2.heap.size W2 W → (W.cell? ⟨w.heap.size, 0, none⟩ = some (.slice (some ⟨bS, oS, none⟩) n cS) ∧ W.cell? ⟨w.heap.size, 1, none⟩ = some (.slice (some ⟨bT, oT, none⟩) n cT)) ∧ W.cell? ⟨pb, 0, none⟩ = some (.slice (some ⟨b, o, none⟩) m c)) := fun W hb =>
    ⟨(two_of_block ((hb.block _ HKa.out).trans A2.out)).1, (two_of_block ((hb.block _ HKp.out).trans X2.out)).1.1⟩
  obtain ⟨⟨p1, p2⟩, p3⟩ := HKc.out W2 (Below.refl _ _)
  have hmi : (m : Int) ≤ 1152 := by omega
  have hpi : (P.length : Int) ≤ 1152 := by omega
  go_cut [7] (fun s7 wx => ∃ g : Nat, s7 = .pointer (some ⟨g, 0, none⟩) ∧ Hid (GR W2 wx g m 0 0 P.length 0 mi))
  case first =>
    have D0 : Hid (Below W2.heap.size W2 W2.drew) := Below.drew (Below.refl _ _)
    have D0a : Hid (Below W2.heap.size W2 (W2.alloc (.cells #[.int .i64 0, .int .i64 0, .int .i64 0, .int .i64 0, .int .i64 0, .int .i64 0, .bool false] 27)).drew) := Below.drew (below1 W2 _)
    have M0a : Hid ((W2.alloc (.cells #[.int .i64 0, .int .i64 0, .int .i64 0, .int .i64 0, .int .i64 0, .int .i64 0, .bool false] 27)).drew.heap[W2.heap.size]? = some (.cells #[.int .i64 0, .int .i64 0, .int .i64 0, .int .i64 0, .int .i64 0, .int .i64 0, .bool false] 27 (0, 0))) := heap_alloc_new W2 _
    go_region_held3 (fun w' => (w'.cell? ⟨w.heap.size, 0, none⟩ = some (.slice (some ⟨bS, oS, none⟩) n cS) ∧ w'.cell? ⟨w.heap.size, 1, none⟩ = some (.slice (some ⟨bT, oT, none⟩) n cT)) ∧ w'.cell? ⟨pb, 0, none⟩ = some (.slice (some ⟨b, o, none⟩) m c))
      (with_reducible first | exact HKc.out _ (seven_belB D1.out (Nat.le_refl _) _ _ _ _ _ _ _) | exact HKc.out _ (seven_belB (D1.out.alloc D1.out.size _) D1.out.size _ _ _ _ _ _ _) | exact HKc.out _ D0.out | exact HKc.out _ D0a.out | exact HKc.out _ D1.out | exact HKc.out _ (D1.out.alloc D1.out.size _) | fail)
      (first
        | (go_at_call 31; ((with_reducible refine (HMi.out _ (by with_reducible first | exact HB3.out.trans (D0.out.mono HB3.out.size) | exact HB3.out.trans (D0a.out.mono HB3.out.size) | fail)).mono ?_); rintro e z1 ⟨rfl, hb⟩; have D1 : Hid (Below W2.heap.size W2 z1) := (by with_reducible first | exact Lib.hid (bel0 D0.out hb) | exact Lib.hid (bel0 D0a.out hb) | fail); (try (with_reducible (first | (have M1 := Lib.hid (block_below M0a.out hb); obtain ⟨⟨g0, g1, g2, g3, g4, g5, g6⟩, gf⟩ := seven_of_block M1.out; have hlz := lt_of_block M1.out) | fail))); clear hb))
        | fail)
    all_goals
      go_wp2_with fail
      go_meet
      first
        | (have := M1.out; exact ⟨W2.heap.size, rfl, seven_set this _ _ _ _ _ _ _, Nat.le_refl _, seven_belB D1.out (Nat.le_refl _) _ _ _ _ _ _ _⟩)
        | exact ⟨z1.heap.size, rfl, heap_alloc_new z1 _, D1.out.size, D1.out.alloc D1.out.size _⟩
        | fail
  case rest =>
    obtain ⟨gb, rfl, HG4⟩ := hcut
    clear p1 p2 p3 HMi
    go_wp2
    go_loopw [8] (fun I wr => ∃ q : Nat, I = .int .i64 q ∧ q ≤ P.length ∧ Hid (GR W2 wr gb m 0 0 P.length (irL RG (P.take q) : Nat) mi)) (fun I _ => P.length - (intOf I).toNat)
    case atStart => exact ⟨0, rfl, Nat.zero_le _, HG4.out⟩
    case round =>
      clear HG4
      obtain ⟨q, rfl, hq, HV⟩ := hrel
      by_cases hqp : q < P.length
      · have hqi : (q : Int) < (P.length : Int) := by omega
        obtain ⟨g, rfl, hg, a1, a2, a3⟩ := HC3.out q hqp
        have x1 := (HV.out.bel.cell (p := ⟨g, q * 3, none⟩) hg).trans a1
        have x2 := (HV.out.bel.cell (p := ⟨g, q * 3 + 1, none⟩) hg).trans a2
        have x3 := (HV.out.bel.cell (p := ⟨g, q * 3 + 2, none⟩) hg).trans a3
        have hgw : g < wr.heap.size := Nat.lt_of_lt_of_le hg HV.out.bel.size
        have hIs := Lib.hid (irL_succ RG P q hqp)
        have hIl : irL RG (P.take q) ≤ 1152 := by
          have h1 := irL_le RG (P.take q)
          have h2 : (P.take q).length ≤ P.length := List.length_take_le' _ _
          omega
        have hIli : ((irL RG (P.take q) : Nat) : Int) ≤ 1152 := by omega
        clear a1 a2 a3
        generalize WD P[q] = wd at *
        generalize hrg : RG P[q] = rg at *
        generalize P[q] = pq at *
        generalize irL RG (P.take q) = ir at *
        clear hrg
        obtain ⟨⟨g0, g1, g2, g3, g4, g5, g6⟩, gf⟩ := seven_of_block HV.out.blk
        cases rg with
        | true =>
          go_wp2
          go_roundw
          case rel =>
            refine ⟨q + 1, by go_num, by omega, ?_⟩
            rw [hIs.out]
            exact HV.out
          case measure => simp [intOf]; omega
        | false =>
          go_wp2
          go_roundw
          case rel =>
            refine ⟨q + 1, by go_num, by omega, ?_⟩
            rw [hIs.out]
            exact HV.out.set5 ((ir : Int) + 1)
          case measure => simp [intOf]; omega
      · obtain rfl : q = P.length := by omega
        have hq3 : ¬ (P.length : Int) < (P.length : Int) := by omega
        rw [List.take_length] at HV
        have HX1 := (HV.out.bel.block pb HKp.out).trans X2.out
        obtain ⟨⟨p1, p2⟩, _⟩ := two_of_block HX1
        have HS4 := Lib.hid ((S3.out.below HV.out.bel).mono HV.out.bel.size)
        have HT4 := Lib.hid ((T3.out.below HV.out.bel).mono HV.out.bel.size)
        clear HX1
        have HIr : ((irL RG P : Nat) : Int) ≤ 1152 := by have := irL_le RG P; omega
        generalize irL RG P = ir at *
        go_upto_region 12 with (first
          | (go_at_call 32; ((with_reducible refine (HTu.out _ b o _ b' o' _ HS4.out HT4.out).mono ?_); rintro e w5 ⟨g5, cc5, rfl, hge, hr, hb⟩; have HNe : Hid (g5 ≠ gb) := (by have := lt_of_block HV.out.blk; show _ ≠ _; omega); have HV5 := Lib.hid (HV.out.below hb); have HU5 := Lib.hid hr; clear hr hb p1 p2))
          | fail)
        clear HTu HS4 HT4
        go_wp2
        go_loopw [10] (fun I wr => ∃ k : Nat, I = .int .i64 k ∧ k ≤ m ∧ Hid (GR W2 wr gb m (cntB (fun q => decide (s q = q)) k : Nat) (cntB (fun q => decide (t (s q) = q)) k : Nat) P.length ir mi) ∧ Hid (RdN wr w5.heap.size g5 0 m (fun i => t (s i))) ∧ Hid (w5.heap.size ≤ wr.heap.size)) (fun I _ => m - (intOf I).toNat)
        case atStart => exact ⟨0, rfl, Nat.zero_le _, HV5.out, HU5.out, Nat.le_refl _⟩
        case round =>
          clear HV5 HU5 HV
          obtain ⟨k, rfl, hk, HV, HU, HZ⟩ := hrel
          have hX := (HV.out.bel.block pb HKp.out).trans X2.out
          obtain ⟨⟨p1, p2⟩, _⟩ := two_of_block hX
          clear hX
          by_cases hkm : k < m
          · have hki : (k : Int) < (m : Int) := by omega
            have x1 : wr.cell? ⟨b, o + k, none⟩ = some (.int .i64 (s k : Nat)) := (HV.out.bel.cell (p := ⟨b, o + k, none⟩) S3.out.1).trans (S3.out.2 k hkm)
            have x2 : wr.cell? ⟨g5, k, none⟩ = some (.int .i64 (t (s k) : Nat)) := by have := HU.out.2 k hkm; rwa [Nat.zero_add] at this
            have hb1 : b < wr.heap.size := Nat.lt_of_lt_of_le S3.out.1 HV.out.bel.size
            have hb2 : g5 < wr.heap.size := Nat.lt_of_lt_of_le HU.out.1 HZ.out
            have hgb0 := lt_of_block HV.out.blk
            have hki2 : (k : Int) ≤ 1152 := by omega
            have hcl := cntB_leS (fun q => decide (s q = q)) k
            have hcl3 := cntB_leS (fun q => decide (t (s q) = q)) k
            have hC2 := Lib.hid (show cntB (fun q => decide (s q = q)) (k + 1) = cntB (fun q => decide (s q = q)) k + (if decide (s k = k) = true then 1 else 0) from rfl)
            have hC3 := Lib.hid (show cntB (fun q => decide (t (s q) = q)) (k + 1) = cntB (fun q => decide (t (s q) = q)) k + (if decide (t (s k) = k) = true then 1 else 0) from rfl)
            generalize cntB (fun q => decide (s q = q)) k = c2 at *
            generalize cntB (fun q => decide (t (s q) = q)) k = c3 at *
            have hc2i : (c2 : Int) ≤ 1152 := by omega
            have hc3i : (c3 : Int) ≤ 1152 := by omega
            by_cases e1 : s k = k
            · have b1 : (((s k : Nat) : Int) == (k : Int)) = true := by rw [beq_nat]; exact decide_eq_true e1
              have HC2 : Hid (cntB (fun q => decide (s q = q)) (k + 1) = c2 + 1) := by show _ = _; rw [hC2.out, if_pos (decide_eq_true e1)]
              by_cases e2 : t (s k) = k
              · have b2 : (((t (s k) : Nat) : Int) == (k : Int)) = true := by rw [beq_nat]; exact decide_eq_true e2
                have HC3 : Hid (cntB (fun q => decide (t (s q) = q)) (k + 1) = c3 + 1) := by show _ = _; rw [hC3.out, if_pos (decide_eq_true e2)]
                clear hC2 hC3 e1 e2
                generalize t (s k) = tk at b2 x2 ⊢
                generalize s k = sk at b1 x1 ⊢
                obtain ⟨⟨g0, g1, g2, g3, g4, g6, g7⟩, gf⟩ := seven_of_block HV.out.blk
                go_upto_region 17 with fail
                have HV1 := Lib.hid (HV.out.set2 ((c2 + 1 : Nat) : Int))
                have HU1 := Lib.hid (rdn_set (j := 2) (v := .int .i64 ((c2 : Int) + 1)) HNe.out HU.out)
                have hgs : (((c2 + 1 : Nat) : Int)) = (c2 : Int) + 1 := by omega
                rw [hgs] at HV1
                have HZ1 : Hid (w5.heap.size ≤ (wr.setCell ⟨gb, 2, none⟩ (.int .i64 ((c2 : Int) + 1))).heap.size) := by have := HZ.out; show _ ≤ _; simpa using this
                have y1 : (wr.setCell ⟨gb, 2, none⟩ (.int .i64 ((c2 : Int) + 1))).cell? ⟨g5, k, none⟩ = some (.int .i64 (tk : Nat)) := (World.cell?_of_block (w := wr) (Below.heap_setCell wr ⟨gb, 2, none⟩ _ g5 HNe.out)).trans x2
                obtain ⟨W5, hW5⟩ : ∃ W5, W5 = wr.setCell ⟨gb, 2, none⟩ (.int .i64 ((c2 : Int) + 1)) := ⟨_, rfl⟩
                rw [← hW5] at HV1 HU1 HZ1 y1 ⊢
                clear hW5 p1 p2 g0 g1 g2 g3 g4 g6 g7 gf x1 x2 hgs
                have hb3 := Nat.lt_of_lt_of_le HU1.out.1 HZ1.out
                have hX := (HV1.out.bel.block pb HKp.out).trans X2.out
                obtain ⟨⟨p1, p2⟩, _⟩ := two_of_block hX
                clear hX
                obtain ⟨⟨g0, g1, g2, g3, g4, g6, g7⟩, gf⟩ := seven_of_block HV1.out.blk
                go_wp2
                go_roundw
                case rel =>
                  refine ⟨k + 1, by go_num, by omega, ?_, rdn_set HNe.out HU1.out, by have := HZ1.out; show _ ≤ _; simpa using this⟩
                  rw [HC2.out, HC3.out]
                  have := HV1.out.set3 ((c3 : Int) + 1)
                  exact this
                case measure => simp [intOf]; omega
              · have b2 : (((t (s k) : Nat) : Int) == (k : Int)) = false := by rw [beq_nat]; exact decide_eq_false e2
                have HC3 : Hid (cntB (fun q => decide (t (s q) = q)) (k + 1) = c3) := by show _ = _; rw [hC3.out, if_neg (by simpa using e2)]; rfl
                clear hC2 hC3 e1 e2
                generalize t (s k) = tk at b2 x2 ⊢
                generalize s k = sk at b1 x1 ⊢
                obtain ⟨⟨g0, g1, g2, g3, g4, g6, g7⟩, gf⟩ := seven_of_block HV.out.blk
                go_upto_region 17 with fail
                have HV1 := Lib.hid (HV.out.set2 ((c2 + 1 : Nat) : Int))
                have HU1 := Lib.hid (rdn_set (j := 2) (v := .int .i64 ((c2 : Int) + 1)) HNe.out HU.out)
                have hgs : (((c2 + 1 : Nat) : Int)) = (c2 : Int) + 1 := by omega
                rw [hgs] at HV1
                have HZ1 : Hid (w5.heap.size ≤ (wr.setCell ⟨gb, 2, none⟩ (.int .i64 ((c2 : Int) + 1))).heap.size) := by have := HZ.out; show _ ≤ _; simpa using this
                have y1 : (wr.setCell ⟨gb, 2, none⟩ (.int .i64 ((c2 : Int) + 1))).cell? ⟨g5, k, none⟩ = some (.int .i64 (tk : Nat)) := (World.cell?_of_block (w := wr) (Below.heap_setCell wr ⟨gb, 2, none⟩ _ g5 HNe.out)).trans x2
                obtain ⟨W5, hW5⟩ : ∃ W5, W5 = wr.setCell ⟨gb, 2, none⟩ (.int .i64 ((c2 : Int) + 1)) := ⟨_, rfl⟩
                rw [← hW5] at HV1 HU1 HZ1 y1 ⊢
                clear hW5 p1 p2 g0 g1 g2 g3 g4 g6 g7 gf x1 x2 hgs
                have hb3 := Nat.lt_of_lt_of_le HU1.out.1 HZ1.out
                have hX := (HV1.out.bel.block pb HKp.out).trans X2.out
                obtain ⟨⟨p1, p2⟩, _⟩ := two_of_block hX
                clear hX
                obtain ⟨⟨g0, g1, g2, g3, g4, g6, g7⟩, gf⟩ := seven_of_block HV1.out.blk
                go_wp2
                go_roundw
                case rel =>
                  refine ⟨k + 1, by go_num, by omega, ?_, HU1.out, HZ1.out⟩
                  rw [HC2.out, HC3.out]
                  have := HV1.out
                  exact this
                case measure => simp [intOf]; omega
            · have b1 : (((s k : Nat) : Int) == (k : Int)) = false := by rw [beq_nat]; exact decide_eq_false e1
              have HC2 : Hid (cntB (fun q => decide (s q = q)) (k + 1) = c2) := by show _ = _; rw [hC2.out, if_neg (by simpa using e1)]; rfl
              by_cases e2 : t (s k) = k
              · have b2 : (((t (s k) : Nat) : Int) == (k : Int)) = true := by rw [beq_nat]; exact decide_eq_true e2
                have HC3 : Hid (cntB (fun q => decide (t (s q) = q)) (k + 1) = c3 + 1) := by show _ = _; rw [hC3.out, if_pos (decide_eq_true e2)]
                clear hC2 hC3 e1 e2
                generalize t (s k) = tk at b2 x2 ⊢
                generalize s k = sk at b1 x1 ⊢
                obtain ⟨⟨g0, g1, g2, g3, g4, g6, g7⟩, gf⟩ := seven_of_block HV.out.blk
                go_upto_region 17 with fail
                have HV1 : Hid (GR W2 wr gb m (c2 : Int) c3 P.length ir mi) := HV.out
                have HU1 := HU
                have HZ1 := HZ
                have y1 := x2
                clear p1 p2 g0 g1 g2 g3 g4 g6 g7 gf x1 x2
                have hb3 := Nat.lt_of_lt_of_le HU1.out.1 HZ1.out
                have hX := (HV1.out.bel.block pb HKp.out).trans X2.out
                obtain ⟨⟨p1, p2⟩, _⟩ := two_of_block hX
                clear hX
                obtain ⟨⟨g0, g1, g2, g3, g4, g6, g7⟩, gf⟩ := seven_of_block HV1.out.blk
                go_wp2
                go_roundw
                case rel =>
                  refine ⟨k + 1, by go_num, by omega, ?_, rdn_set HNe.out HU1.out, by have := HZ1.out; show _ ≤ _; simpa using this⟩
                  rw [HC2.out, HC3.out]
                  have := HV1.out.set3 ((c3 : Int) + 1)
                  exact this
                case measure => simp [intOf]; omega
              · have b2 : (((t (s k) : Nat) : Int) == (k : Int)) = false := by rw [beq_nat]; exact decide_eq_false e2
                have HC3 : Hid (cntB (fun q => decide (t (s q) = q)) (k + 1) = c3) := by show _ = _; rw [hC3.out, if_neg (by simpa using e2)]; rfl
                clear hC2 hC3 e1 e2
                generalize t (s k) = tk at b2 x2 ⊢
                generalize s k = sk at b1 x1 ⊢
                obtain ⟨⟨g0, g1, g2, g3, g4, g6, g7⟩, gf⟩ := seven_of_block HV.out.blk
                go_upto_region 17 with fail
                have HV1 : Hid (GR W2 wr gb m (c2 : Int) c3 P.length ir mi) := HV.out
                have HU1 := HU
                have HZ1 := HZ
                have y1 := x2
                clear p1 p2 g0 g1 g2 g3 g4 g6 g7 gf x1 x2
                have hb3 := Nat.lt_of_lt_of_le HU1.out.1 HZ1.out
                have hX := (HV1.out.bel.block pb HKp.out).trans X2.out
                obtain ⟨⟨p1, p2⟩, _⟩ := two_of_block hX
                clear hX
                obtain ⟨⟨g0, g1, g2, g3, g4, g6, g7⟩, gf⟩ := seven_of_block HV1.out.blk
                go_wp2
                go_roundw
                case rel =>
                  refine ⟨k + 1, by go_num, by omega, ?_, HU1.out, HZ1.out⟩
                  rw [HC2.out, HC3.out]
                  have := HV1.out
                  exact this
                case measure => simp [intOf]; omega
          · obtain rfl : k = m := by omega
            have hk3 : ¬ (k : Int) < (k : Int) := by omega
            rw [HE2.out, HE3.out] at HV
            have HRr := Lib.hid ((HV.out.bel.block (w.heap.size + 1) HKr.out).trans R3.out)
            have HB5 := Lib.hid (HB3.out.trans (HV.out.bel.mono HB3.out.size))
            have hsg := HSg.out
            clear HSg
            subst hsg
            obtain ⟨⟨g0, g1, g2, g3, g4, g6, g7⟩, gf⟩ := seven_of_block HV.out.blk
            go_wp2_with (first
              | (go_at_call 33; ((with_reducible refine (HGn.out _).mono ?_); rintro e w6 ⟨rfl, hb⟩; have HB6 := Lib.hid (bel0 HB5.out hb); have HR6 := Lib.hid (block_below HRr.out hb); clear g0 g1 g2 g3 g4 g6 g7 gf; obtain ⟨⟨g0, g1, g2, g3, g4, g6, g7⟩, gf⟩ := seven_of_block HR6.out; clear hb))
              | fail)
            obtain ⟨⟨y0, y1, y2, y3, y4, y5, y6⟩, _⟩ := seven_of_block (seven_set HR6.out (.int .i64 (k : Int)) (.int .i64 gn) (.int .i64 (N2 : Int)) (.int .i64 (N3 : Int)) (.int .i64 (P.length : Int)) (.int .i64 (ir : Int)) (.bool mi))
            refine bodyPost_ret (v := .tuple #[.agg #[.int .i64 (k : Int), .int .i64 gn, .int .i64 (N2 : Int), .int .i64 (N3 : Int), .int .i64 (P.length : Int), .int .i64 (ir : Int), .bool mi], .int .i64 0]) ?_ rfl ⟨rfl, seven_belB HB6.out (by omega) _ _ _ _ _ _ _⟩
            simp [results, Try.results13, go_sem, y0, y1, y2, y3, y4, y5, y6]
end Go.Proofs.Ytmikhkolbkdnpaa
