/- The contract of signature.Of. The contract of the reference's Of. -/
import Derived.Test.YtmikhkolbkdnpaaSgnA
import Derived.Test.YtmikhkolbkdnpaaSigM
import Derived.Test.YtmikhkolbkdnpaaEulL
import Derived.Test.YtmikhkolbkdnpaaClaM
import Derived.Deep.DeepCutAuto
import Derived.Deep.CutBlock
import Derived.Deep.RegionHeld3
import Derived.IntWalk
namespace Go.Proofs.Ytmikhkolbkdnpaa
open Go.RowKit
set_option linter.unusedVariables false
set_option linter.unusedSimpArgs false

/-- How many of the classes are irregular. -/
def irL (R : Nat → Bool) (P : List Nat) : Nat := (P.filter fun p => !R p).length
theorem irL_succ (R : Nat → Bool) (P : List Nat) (k : Nat) (h : k < P.length) : irL R (P.take (k + 1)) = irL R (P.take k) + (if R P[k] = true then 0 else 1) := by
  unfold irL
  rw [List.take_add_one, List.getElem?_eq_getElem h, Option.toList_some, List.filter_append, List.length_append]
  cases e : R P[k] <;> simp [e]
theorem irL_le (R : Nat → Bool) (P : List Nat) : irL R P ≤ P.length := List.length_filter_le _ _
/-- The signature of a coset action. -/
noncomputable def sgA (S T : List Int) : Value := .agg #[.int .i64 (mO (fnz S) S.length : Nat), .int .i64 (gnZ (fnz S) (fnz T) S.length), .int .i64 (n2Z (fnz S) S.length : Nat), .int .i64 (n3Z (fnz S) (fnz T) S.length : Nat), .int .i64 ((clP S T).length : Nat), .int .i64 (irL (rgF S T) (clP S T) : Nat), .bool (mnB S)]
def sg0 : Value := .agg #[.int .i64 0, .int .i64 0, .int .i64 0, .int .i64 0, .int .i64 0, .int .i64 0, .bool false]
theorem ccs_at (W : Nat → Nat) (R : Nat → Bool) : ∀ (P : List Nat) (k : Nat) (h : k < P.length), (ccs W R P)[k * 3]? = some (.int .i64 (P[k] : Nat)) ∧ (ccs W R P)[k * 3 + 1]? = some (.int .i64 (W P[k] : Nat)) ∧ (ccs W R P)[k * 3 + 2]? = some (.bool (R P[k]))
  | [], k, h => by simp at h
  | p :: P, 0, _ => by simp [ccs]
  | p :: P, k + 1, h => by
    have hk : k < P.length := by simpa using h
    obtain ⟨h1, h2, h3⟩ := ccs_at W R P k hk
    have e : ccs W R (p :: P) = [.int .i64 (p : Nat), .int .i64 (W p : Nat), .bool (R p)] ++ ccs W R P := by simp [ccs]
    have g : ∀ j, (ccs W R (p :: P))[j + 3]? = (ccs W R P)[j]? := fun j => by rw [e, List.getElem?_append_right (by simp)]; simp
    refine ⟨?_, ?_, ?_⟩
    · rw [show (k + 1) * 3 = k * 3 + 3 by omega, g]; simpa using h1
    · rw [show (k + 1) * 3 + 1 = k * 3 + 1 + 3 by omega, g]; simpa using h2
    · rw [show (k + 1) * 3 + 2 = k * 3 + 2 + 3 by omega, g]; simpa using h3
/-- What the list of classes reads as. -/
theorem cls_read {w : World} {B c : Nat} {A : Option Addr} {W : Nat → Nat} {R : Nat → Bool} {P : List Nat} (ho : w.ownsRow B 60 3 (.slice A P.length c) P.length (ccs W R P)) (k : Nat) (hk : k < P.length) :
    ∃ g, A = some ⟨g, 0, none⟩ ∧ B ≤ g ∧ g < w.heap.size ∧ w.cell? ⟨g, k * 3, none⟩ = some (.int .i64 (P[k] : Nat)) ∧ w.cell? ⟨g, k * 3 + 1, none⟩ = some (.int .i64 (W P[k] : Nat)) ∧ w.cell? ⟨g, k * 3 + 2, none⟩ = some (.bool (R P[k])) := by
  obtain ⟨g, rfl, hg⟩ := own_some ho (by omega)
  have h2 := (ho.lt g rfl).2
  obtain ⟨a, b, d⟩ := ccs_at W R P k hk
  have f := fun j v (h : (ccs W R P)[j]? = some v) => by
    have h0 := ho.cells (g := g) rfl j v h
    rw [addr_add] at h0
    exact h0
  exact ⟨g, rfl, hg, h2, f _ _ a, f _ _ b, f _ _ d⟩
/-- The world in the loops of Of. -/
structure GB (w1 wr : World) (ix n2 n3 cu ir : Int) (mi : Bool) : Prop where
  blk : wr.heap[w1.heap.size]? = some (.cells #[.int .i64 ix, .int .i64 0, .int .i64 n2, .int .i64 n3, .int .i64 cu, .int .i64 ir, .bool mi] 27 (0, 0))
  bel : Below w1.heap.size w1 wr
theorem GB.start (w1 : World) (ix cu : Int) (mi : Bool) : GB w1 (w1.alloc (.cells #[.int .i64 ix, .int .i64 0, .int .i64 0, .int .i64 0, .int .i64 cu, .int .i64 0, .bool mi] 27)) ix 0 0 cu 0 mi := ⟨heap_alloc_new w1 _, below1 w1 _⟩
section
variable {w1 wr : World} {ix n2 n3 cu ir : Int} {mi : Bool}
theorem GB.set2 (h : GB w1 wr ix n2 n3 cu ir mi) (y : Int) : GB w1 (wr.setCell ⟨w1.heap.size, 2, none⟩ (.int .i64 y)) ix y n3 cu ir mi := ⟨heap_setCell_same _ _ 2 #[.int .i64 ix, .int .i64 0, .int .i64 n2, .int .i64 n3, .int .i64 cu, .int .i64 ir, .bool mi] _ (.int .i64 y) h.blk, h.bel.setCell (Nat.le_refl _) _⟩
theorem GB.set3 (h : GB w1 wr ix n2 n3 cu ir mi) (y : Int) : GB w1 (wr.setCell ⟨w1.heap.size, 3, none⟩ (.int .i64 y)) ix n2 y cu ir mi := ⟨heap_setCell_same _ _ 3 #[.int .i64 ix, .int .i64 0, .int .i64 n2, .int .i64 n3, .int .i64 cu, .int .i64 ir, .bool mi] _ (.int .i64 y) h.blk, h.bel.setCell (Nat.le_refl _) _⟩
theorem GB.set5 (h : GB w1 wr ix n2 n3 cu ir mi) (y : Int) : GB w1 (wr.setCell ⟨w1.heap.size, 5, none⟩ (.int .i64 y)) ix n2 n3 cu y mi := ⟨heap_setCell_same _ _ 5 #[.int .i64 ix, .int .i64 0, .int .i64 n2, .int .i64 n3, .int .i64 cu, .int .i64 ir, .bool mi] _ (.int .i64 y) h.blk, h.bel.setCell (Nat.le_refl _) _⟩
theorem GB.alloc (h : GB w1 wr ix n2 n3 cu ir mi) (o : Obj) : GB w1 (wr.alloc o) ix n2 n3 cu ir mi := ⟨block_alloc h.blk _, h.bel.alloc h.bel.size _⟩
theorem GB.drewN (h : GB w1 wr ix n2 n3 cu ir mi) (m : Nat) : GB w1 (wr.drewN m) ix n2 n3 cu ir mi := ⟨h.blk, below_drewN h.bel m⟩
end
theorem beq_nat (a b : Nat) : ((a : Int) == (b : Int)) = decide (a = b) := by
  by_cases h : a = b
  · rw [decide_eq_true h, h]; simp
  · rw [decide_eq_false h, beq_eq_false_iff_ne]; omega
theorem seven_belB {B : Nat} {w0 w : World} {g : Nat} (h : Below B w0 w) (hg : B ≤ g) (y0 y1 y2 y3 y4 y5 y6 : Value) : Below B w0 (((((((w.setCell ⟨g, 0, none⟩ y0).setCell ⟨g, 1, none⟩ y1).setCell ⟨g, 2, none⟩ y2).setCell ⟨g, 3, none⟩ y3).setCell ⟨g, 4, none⟩ y4).setCell ⟨g, 5, none⟩ y5).setCell ⟨g, 6, none⟩ y6) :=
  ((((((h.setCell hg _).setCell hg _).setCell hg _).setCell hg _).setCell hg _).setCell hg _).setCell hg _
set_option maxHeartbeats 6400000 in
set_option maxRecDepth 1000000 in
theorem sof_ok {S T : List Int} {B bS oS bT oT cS cT : Nat} (w : World) (h : AI w B bS oS bT oT S T cS cT) :
    Calls Try.prog 11 #[.agg #[.slice (some ⟨bS, oS, none⟩) S.length cS, .slice (some ⟨bT, oT, none⟩) S.length cT]] w fun e w' => e = .returned (.tuple #[sgA S T, .int .i64 0]) ∧ Below w.heap.size w w' := by
  obtain ⟨W0, hW0⟩ : ∃ W0, W0 = (w.alloc (.cells #[.slice (some ⟨bS, oS, none⟩) S.length cS, .slice (some ⟨bT, oT, none⟩) S.length cT] 24)).alloc (.cells #[.int .i64 0, .int .i64 0, .int .i64 0, .int .i64 0, .int .i64 0, .int .i64 0, .bool false] 27) := ⟨_, rfl⟩
  have hA := pact_of h.act
  have hm := hA.mle
  have hle := h.act.le
  have hmp := hA.mpos
  have hz := rel_inv h.act.ps h.act.pt h.act.rel
  have hsl := hA.ps.lt
  obtain ⟨s1, s2, s3⟩ := hA.sbd hz
  have hcl : clP S T = (cst (uB (fnz T) (fun i => fnz S (fnz S i)) S.length) S.length).2 := clP_ok (chkA_ok h.act)
  have hcu : (clP S T).length = cuZ (fnz S) (fnz T) S.length := by rw [hcl]; rfl
  have T0 : Hid (W0.heap[w.heap.size]? = some (.cells #[.slice (some ⟨bS, oS, none⟩) S.length cS, .slice (some ⟨bT, oT, none⟩) S.length cT] 24 (0, 0))) := by
    show _ = _; rw [hW0]; exact block_alloc (heap_alloc_new w _) _
  have R0 : Hid (W0.heap[w.heap.size + 1]? = some (.cells #[.int .i64 0, .int .i64 0, .int .i64 0, .int .i64 0, .int .i64 0, .int .i64 0, .bool false] 27 (0, 0))) := by
    show _ = _; rw [hW0]; have := heap_alloc_new (w.alloc (.cells #[.slice (some ⟨bS, oS, none⟩) S.length cS, .slice (some ⟨bT, oT, none⟩) S.length cT] 24)) (.cells #[.int .i64 0, .int .i64 0, .int .i64 0, .int .i64 0, .int .i64 0, .int .i64 0, .bool false] 27); simpa using this
  have HB0 : Hid (Below w.heap.size w W0) := by show Below _ _ _; rw [hW0]; exact below2 w _ _
  have HCl : Hid (∀ W, Below w.heap.size w W → Calls Try.prog 25 #[.agg #[.slice (some ⟨bS, oS, none⟩) S.length cS, .slice (some ⟨bT, oT, none⟩) S.length cT]] W fun e w' => ∃ A c, e = .returned (.tuple #[.slice A (clP S T).length c, .int .i64 0]) ∧ w'.ownsRow W.heap.size 60 3 (.slice A (clP S T).length c) (clP S T).length (ccs (wdF S T) (rgF S T) (clP S T)) ∧ Below W.heap.size W w') := fun W hb => by
    have := cclasses_any W (h.below hb).zs (h.below hb).zt (h.below hb).le
    rwa [chkA_ok h.act, h.act.len] at this
  have HPj : Hid (∀ W, Below w.heap.size w W → Calls Try.prog 26 #[.agg #[.slice (some ⟨bS, oS, none⟩) S.length cS, .slice (some ⟨bT, oT, none⟩) S.length cT]] W fun e w' => ∃ b o c b' o' c', e = .returned (.tuple #[.agg #[.slice (some ⟨b, o, none⟩) (mO (fnz S) S.length) c, .slice (some ⟨b', o', none⟩) (mO (fnz S) S.length) c'], .int .i64 0]) ∧ RdN w' w'.heap.size b o (mO (fnz S) S.length) (sO (fnz S) S.length) ∧ RdN w' w'.heap.size b' o' (mO (fnz S) S.length) (tO (fnz S) (fnz T) S.length) ∧ Below W.heap.size W w') := fun W hb =>
    (pproj_ok W (h.below hb)).mono fun e w' ⟨A, c, A', c', he, r1, r2, hb'⟩ => by
      obtain ⟨b, o, rfl, q1⟩ := rdz_rdn r1 (pS_len _ _) hmp fun q hq => pS_at _ _ q hq
      obtain ⟨b', o', rfl, q2⟩ := rdz_rdn r2 (pT_len _ _ _) hmp fun q hq => pT_at _ _ _ q hq
      rw [pS_len, pT_len] at he
      exact ⟨b, o, c, b', o', c', he, q1, q2, hb'⟩
  have HMi : Hid (∀ W, Below w.heap.size w W → Calls Try.prog 27 #[.agg #[.slice (some ⟨bS, oS, none⟩) S.length cS, .slice (some ⟨bT, oT, none⟩) S.length cT]] W fun e w' => e = .returned (.tuple #[.bool (mnB S), .int .i64 0]) ∧ Below W.heap.size W w') := fun W hb => pminus_any W (h.below hb)
  have HGn : Hid (∀ W, Calls Try.prog 28 #[.agg #[.int .i64 (mO (fnz S) S.length : Nat), .int .i64 0, .int .i64 (n2Z (fnz S) S.length : Nat), .int .i64 (n3Z (fnz S) (fnz T) S.length : Nat), .int .i64 ((clP S T).length : Nat), .int .i64 (irL (rgF S T) (clP S T) : Nat), .bool (mnB S)]] W fun e w' => e = .returned (sgA S T) ∧ Below W.heap.size W w') := fun W => by
    have := genus_any (mO (fnz S) S.length : Nat) 0 (n2Z (fnz S) S.length : Nat) (n3Z (fnz S) (fnz T) S.length : Nat) ((clP S T).length : Nat) (irL (rgF S T) (clP S T) : Nat) (mnB S) W (by omega) (by omega) (by omega) (by omega)
    unfold sgA gnZ
    rw [← hcu]
    exact this
  have HE2 : Hid (cntB (fun q => decide (sO (fnz S) S.length q = q)) (mO (fnz S) S.length) = n2Z (fnz S) S.length) := rfl
  have HE3 : Hid (cntB (fun q => decide (tO (fnz S) (fnz T) S.length (sO (fnz S) S.length q) = q)) (mO (fnz S) S.length) = n3Z (fnz S) (fnz T) S.length) := rfl
  have HSg : Hid (sgA S T = .agg #[.int .i64 (mO (fnz S) S.length : Nat), .int .i64 (gnZ (fnz S) (fnz T) S.length), .int .i64 (n2Z (fnz S) S.length : Nat), .int .i64 (n3Z (fnz S) (fnz T) S.length : Nat), .int .i64 ((clP S T).length : Nat), .int .i64 (irL (rgF S T) (clP S T) : Nat), .bool (mnB S)]) := rfl
  have HSl := Lib.hid hsl
  have hpl : (clP S T).length ≤ 1152 := by omega
  clear h hA hz hcl hcu hsl
  generalize hgE : gnZ (fnz S) (fnz T) S.length = gn at *
  clear hgE
  generalize n2Z (fnz S) S.length = N2 at *
  generalize n3Z (fnz S) (fnz T) S.length = N3 at *
  generalize sO (fnz S) S.length = s at *
  generalize tO (fnz S) (fnz T) S.length = t at *
  generalize mO (fnz S) S.length = m at *
  generalize clP S T = P at *
  generalize rgF S T = RG at *
  generalize wdF S T = WD at *
  generalize mnB S = mi at *
  generalize sgA S T = SG at *
  generalize S.length = n at *
  go_enter Try.func11, Try.ntmps11
  go_upto_region 1 with fail
  rw [← hW0]
  clear hW0
  obtain ⟨⟨p1, p2⟩, _⟩ := two_of_block T0.out
  go_upto_region 7 with (first
    | (go_at_call 25; ((with_reducible refine (HCl.out _ HB0.out).mono ?_); rintro e w1 ⟨A1, c1, rfl, ho, hb⟩; have HB1 := Lib.hid (bel0 HB0.out hb); have T1 := Lib.hid (block_below T0.out hb); have R1 := Lib.hid (block_below R0.out hb); have O1 := Lib.hid ho; clear p1 p2; obtain ⟨⟨p1, p2⟩, _⟩ := two_of_block T1.out; clear hb ho))
    | (go_at_call 26; ((with_reducible refine (HPj.out _ HB1.out).mono ?_); rintro e w2 ⟨b, o, c, b', o', c', rfl, r1, r2, hb⟩; have HB2 := Lib.hid (bel0 HB1.out hb); have T2 := Lib.hid (block_below T1.out hb); have R2 := Lib.hid (block_below R1.out hb); have Q1 := Lib.hid r1; have Q2 := Lib.hid r2; have HC2 := Lib.hid (fun k hk => cls_read O1.out k hk); have K2 := Lib.hid hb; clear hb r1 r2 p1 p2; have T2' := Lib.hid (block_alloc T2.out (.cells #[.slice (some ⟨b, o, none⟩) m c, .slice (some ⟨b', o', none⟩) m c'] 24)); obtain ⟨⟨p1, p2⟩, _⟩ := two_of_block T2'.out))
    | (go_at_call 27; ((with_reducible refine (HMi.out _ (HB2.out.alloc HB2.out.size _)).mono ?_); rintro e w3 ⟨rfl, hb⟩; have HB3 := Lib.hid (bel0 (HB2.out.alloc HB2.out.size _) hb); have R3 := Lib.hid (block_below (block_alloc R2.out _) hb); have X3 := Lib.hid (block_below (heap_alloc_new w2 (.cells #[.slice (some ⟨b, o, none⟩) m c, .slice (some ⟨b', o', none⟩) m c'] 24)) hb); have K3 := Lib.hid ((below1 w2 (.cells #[.slice (some ⟨b, o, none⟩) m c, .slice (some ⟨b', o', none⟩) m c'] 24)).trans (hb.mono (by simp))); clear p1 p2; obtain ⟨⟨p1, p2⟩, _⟩ := two_of_block X3.out; clear hb))
    | fail)
  clear HCl HPj HMi T0 R0 T1 R1 T2 R2 T2' O1 p1 p2 HB0 HB1 HB2
  have HG4 := Lib.hid (GB.start w3 (m : Int) (P.length : Int) mi)
  have HR4 := Lib.hid (block_alloc R3.out (.cells #[.int .i64 (m : Int), .int .i64 0, .int .i64 0, .int .i64 0, .int .i64 (P.length : Int), .int .i64 0, .bool mi] 27))
  have X4 := Lib.hid (block_alloc X3.out (.cells #[.int .i64 (m : Int), .int .i64 0, .int .i64 0, .int .i64 0, .int .i64 (P.length : Int), .int .i64 0, .bool mi] 27))
  have HKp := Lib.hid (lt_of_block X3.out)
  have HKr := Lib.hid (lt_of_block R3.out)
  have S3 : Hid (RdN w3 w3.heap.size b o m s) := (Q1.out.below K3.out).mono K3.out.size
  have T3 : Hid (RdN w3 w3.heap.size b' o' m t) := (Q2.out.below K3.out).mono K3.out.size
  have HC3 : Hid (∀ k (hk : k < P.length), ∃ g, A1 = some ⟨g, 0, none⟩ ∧ g < w3.heap.size ∧ w3.cell? ⟨g, k * 3, none⟩ = some (.int .i64 (P[k] : Nat)) ∧ w3.cell? ⟨g, k * 3 + 1, none⟩ = some (.int .i64 (WD P[k] : Nat)) ∧ w3.cell? ⟨g, k * 3 + 2, none⟩ = some (.bool (RG P[k]))) := fun k hk => by
    obtain ⟨g, e, _, hg, a1, a2, a3⟩ := HC2.out k hk
    have hb := K2.out.trans (K3.out.mono K2.out.size)
    exact ⟨g, e, Nat.lt_of_lt_of_le hg hb.size, (hb.cell (p := ⟨g, k * 3, none⟩) hg).trans a1, (hb.cell (p := ⟨g, k * 3 + 1, none⟩) hg).trans a2, (hb.cell (p := ⟨g, k * 3 + 2, none⟩) hg).trans a3⟩
  clear Q1 Q2 K2 K3 HC2
  obtain ⟨W4, hW4⟩ : ∃ W4, W4 = w3.alloc (.cells #[.int .i64 (m : Int), .int .i64 0, .int .i64 0, .int .i64 0, .int .i64 (P.length : Int), .int .i64 0, .bool mi] 27) := ⟨_, rfl⟩
  rw [← hW4] at HG4 HR4 X4 ⊢
  clear hW4
  have hg0 := lt_of_block HG4.out.blk
  obtain ⟨⟨p1, p2⟩, _⟩ := two_of_block X4.out
  obtain ⟨gb, hgb⟩ : ∃ gb, gb = w3.heap.size := ⟨_, rfl⟩
  obtain ⟨pb, hpb⟩ : ∃ pb, pb = w2.heap.size := ⟨_, rfl⟩
  rw [← hpb] at X4 X3 HKp p1 p2 ⊢
  clear hpb
  have hmi : (m : Int) ≤ 1152 := by omega
  go_wp2
  go_loopw [11, 12, 44] (fun _ _ I wr => ∃ k : Nat, I = .int .i64 k ∧ k ≤ m ∧ Hid (GB w3 wr m (cntB (fun q => decide (s q = q)) k : Nat) (cntB (fun q => decide (t (s q) = q)) k : Nat) P.length 0 mi)) (fun _ _ I _ => m - (intOf I).toNat)
  case atStart => exact ⟨0, rfl, Nat.zero_le _, HG4.out⟩
  case round =>
    clear p1 p2 hg0
    obtain ⟨k, rfl, hk, HV⟩ := hrel
    have hX := (HV.out.bel.block pb (by have := HKp.out; omega)).trans X3.out
    obtain ⟨⟨p1, p2⟩, _⟩ := two_of_block hX
    clear hX
    by_cases hkm : k < m
    · have hki : (k : Int) < (m : Int) := by omega
      have hs := HSl.out k hkm
      have x1 : wr.cell? ⟨b, o + k, none⟩ = some (.int .i64 (s k : Nat)) := (HV.out.bel.cell (p := ⟨b, o + k, none⟩) S3.out.1).trans (S3.out.2 k hkm)
      have x2 : wr.cell? ⟨b', o' + s k, none⟩ = some (.int .i64 (t (s k) : Nat)) := (HV.out.bel.cell (p := ⟨b', o' + s k, none⟩) T3.out.1).trans (T3.out.2 _ hs)
      have hb1 : b < wr.heap.size := Nat.lt_of_lt_of_le S3.out.1 HV.out.bel.size
      have hb2 : b' < wr.heap.size := Nat.lt_of_lt_of_le T3.out.1 HV.out.bel.size
      have hgb0 := lt_of_block HV.out.blk
      have hki2 : (k : Int) ≤ 1152 := by omega
      have hcl := cntB_leS (fun q => decide (s q = q)) k
      have hcl3 := cntB_leS (fun q => decide (t (s q) = q)) k
      have hsi : (s k : Int) < (m : Int) := by omega
      have hC2 := Lib.hid (show cntB (fun q => decide (s q = q)) (k + 1) = cntB (fun q => decide (s q = q)) k + (if decide (s k = k) = true then 1 else 0) from rfl)
      have hC3 := Lib.hid (show cntB (fun q => decide (t (s q) = q)) (k + 1) = cntB (fun q => decide (t (s q) = q)) k + (if decide (t (s k) = k) = true then 1 else 0) from rfl)
      generalize cntB (fun q => decide (s q = q)) k = c2 at *
      generalize cntB (fun q => decide (t (s q) = q)) k = c3 at *
      have hc2i : (c2 : Int) ≤ 1152 := by omega
      have hc3i : (c3 : Int) ≤ 1152 := by omega
      by_cases e1 : s k = k
      · have b1 : (((s k : Nat) : Int) == (k : Int)) = true := by rw [beq_nat]; exact decide_eq_true e1
        have HC2 : Hid (cntB (fun q => decide (s q = q)) (k + 1) = c2 + 1) := by show _ = _; rw [hC2.out, if_pos (decide_eq_true e1)]
        by_cases e2 : t (s k) = k
        · have b2 : (((t (s k) : Nat) : Int) == (k : Int)) = true := by rw [beq_nat]; exact decide_eq_true e2
          have HC3 : Hid (cntB (fun q => decide (t (s q) = q)) (k + 1) = c3 + 1) := by show _ = _; rw [hC3.out, if_pos (decide_eq_true e2)]
          clear hC2 hC3 e1 e2
          generalize t (s k) = tk at *
          generalize s k = sk at *
          obtain ⟨⟨g0, g1, g2, g3, g4, g5, g6⟩, gf⟩ := seven_of_block HV.out.blk
          go_upto_region 12 with fail
          have HV1 := Lib.hid (HV.out.set2 ((c2 + 1 : Nat) : Int))
          have hgs : (((c2 + 1 : Nat) : Int)) = (c2 : Int) + 1 := by omega
          rw [hgs] at HV1
          obtain ⟨W5, hW5⟩ : ∃ W5, W5 = wr.setCell ⟨w3.heap.size, 2, none⟩ (.int .i64 ((c2 : Int) + 1)) := ⟨_, rfl⟩
          rw [← hW5] at HV1 ⊢
          have hT5 := (HV1.out.bel.cell (p := ⟨b', o' + sk, none⟩) T3.out.1)
          have hT4 := (HV.out.bel.cell (p := ⟨b', o' + sk, none⟩) T3.out.1)
          have y1 : W5.cell? ⟨b', o' + sk, none⟩ = some (.int .i64 (tk : Nat)) := hT5.trans (hT4.symm.trans x2)
          clear hW5 hT5 hT4 p1 p2 g0 g1 g2 g3 g4 g5 g6 gf x1 x2 hgs
          have hX := (HV1.out.bel.block pb (by have := HKp.out; omega)).trans X3.out
          obtain ⟨⟨p1, p2⟩, _⟩ := two_of_block hX
          clear hX
          obtain ⟨⟨g0, g1, g2, g3, g4, g5, g6⟩, gf⟩ := seven_of_block HV1.out.blk
          go_wp2
          go_roundw
          case rel =>
            refine ⟨k + 1, by go_num, by omega, ?_⟩
            rw [HC2.out, HC3.out]
            have := HV1.out.set3 ((c3 : Int) + 1)
            exact this
          case measure => simp [intOf]; omega
        · have b2 : (((t (s k) : Nat) : Int) == (k : Int)) = false := by rw [beq_nat]; exact decide_eq_false e2
          have HC3 : Hid (cntB (fun q => decide (t (s q) = q)) (k + 1) = c3) := by show _ = _; rw [hC3.out, if_neg (by simpa using e2)]; rfl
          clear hC2 hC3 e1 e2
          generalize t (s k) = tk at *
          generalize s k = sk at *
          obtain ⟨⟨g0, g1, g2, g3, g4, g5, g6⟩, gf⟩ := seven_of_block HV.out.blk
          go_upto_region 12 with fail
          have HV1 := Lib.hid (HV.out.set2 ((c2 + 1 : Nat) : Int))
          have hgs : (((c2 + 1 : Nat) : Int)) = (c2 : Int) + 1 := by omega
          rw [hgs] at HV1
          obtain ⟨W5, hW5⟩ : ∃ W5, W5 = wr.setCell ⟨w3.heap.size, 2, none⟩ (.int .i64 ((c2 : Int) + 1)) := ⟨_, rfl⟩
          rw [← hW5] at HV1 ⊢
          have hT5 := (HV1.out.bel.cell (p := ⟨b', o' + sk, none⟩) T3.out.1)
          have hT4 := (HV.out.bel.cell (p := ⟨b', o' + sk, none⟩) T3.out.1)
          have y1 : W5.cell? ⟨b', o' + sk, none⟩ = some (.int .i64 (tk : Nat)) := hT5.trans (hT4.symm.trans x2)
          clear hW5 hT5 hT4 p1 p2 g0 g1 g2 g3 g4 g5 g6 gf x1 x2 hgs
          have hX := (HV1.out.bel.block pb (by have := HKp.out; omega)).trans X3.out
          obtain ⟨⟨p1, p2⟩, _⟩ := two_of_block hX
          clear hX
          obtain ⟨⟨g0, g1, g2, g3, g4, g5, g6⟩, gf⟩ := seven_of_block HV1.out.blk
          go_wp2
          go_roundw
          case rel =>
            refine ⟨k + 1, by go_num, by omega, ?_⟩
            rw [HC2.out, HC3.out]
            have := HV1.out
            exact this
          case measure => simp [intOf]; omega
      · have b1 : (((s k : Nat) : Int) == (k : Int)) = false := by rw [beq_nat]; exact decide_eq_false e1
        have HC2 : Hid (cntB (fun q => decide (s q = q)) (k + 1) = c2) := by show _ = _; rw [hC2.out, if_neg (by simpa using e1)]; rfl
        by_cases e2 : t (s k) = k
        · have b2 : (((t (s k) : Nat) : Int) == (k : Int)) = true := by rw [beq_nat]; exact decide_eq_true e2
          have HC3 : Hid (cntB (fun q => decide (t (s q) = q)) (k + 1) = c3 + 1) := by show _ = _; rw [hC3.out, if_pos (decide_eq_true e2)]
          clear hC2 hC3 e1 e2
          generalize t (s k) = tk at *
          generalize s k = sk at *
          obtain ⟨⟨g0, g1, g2, g3, g4, g5, g6⟩, gf⟩ := seven_of_block HV.out.blk
          go_upto_region 12 with fail
          have HV1 : Hid (GB w3 wr m (c2 : Int) c3 P.length 0 mi) := HV.out
          have y1 := x2
          clear p1 p2 g0 g1 g2 g3 g4 g5 g6 gf x1 x2
          have hX := (HV1.out.bel.block pb (by have := HKp.out; omega)).trans X3.out
          obtain ⟨⟨p1, p2⟩, _⟩ := two_of_block hX
          clear hX
          obtain ⟨⟨g0, g1, g2, g3, g4, g5, g6⟩, gf⟩ := seven_of_block HV1.out.blk
          go_wp2
          go_roundw
          case rel =>
            refine ⟨k + 1, by go_num, by omega, ?_⟩
            rw [HC2.out, HC3.out]
            have := HV1.out.set3 ((c3 : Int) + 1)
            exact this
          case measure => simp [intOf]; omega
        · have b2 : (((t (s k) : Nat) : Int) == (k : Int)) = false := by rw [beq_nat]; exact decide_eq_false e2
          have HC3 : Hid (cntB (fun q => decide (t (s q) = q)) (k + 1) = c3) := by show _ = _; rw [hC3.out, if_neg (by simpa using e2)]; rfl
          clear hC2 hC3 e1 e2
          generalize t (s k) = tk at *
          generalize s k = sk at *
          obtain ⟨⟨g0, g1, g2, g3, g4, g5, g6⟩, gf⟩ := seven_of_block HV.out.blk
          go_upto_region 12 with fail
          have HV1 : Hid (GB w3 wr m (c2 : Int) c3 P.length 0 mi) := HV.out
          have y1 := x2
          clear p1 p2 g0 g1 g2 g3 g4 g5 g6 gf x1 x2
          have hX := (HV1.out.bel.block pb (by have := HKp.out; omega)).trans X3.out
          obtain ⟨⟨p1, p2⟩, _⟩ := two_of_block hX
          clear hX
          obtain ⟨⟨g0, g1, g2, g3, g4, g5, g6⟩, gf⟩ := seven_of_block HV1.out.blk
          go_wp2
          go_roundw
          case rel =>
            refine ⟨k + 1, by go_num, by omega, ?_⟩
            rw [HC2.out, HC3.out]
            have := HV1.out
            exact this
          case measure => simp [intOf]; omega
    · obtain rfl : k = m := by omega
      have hk3 : ¬ (k : Int) < (k : Int) := by omega
      rw [HE2.out, HE3.out] at HV
      clear p1 p2
      go_wp2
      go_loopw [14, 70] (fun _ I wr2 => ∃ q : Nat, I = .int .i64 q ∧ q ≤ P.length ∧ Hid (GB w3 wr2 k (N2 : Int) N3 P.length (irL RG (P.take q) : Nat) mi)) (fun _ I _ => P.length - (intOf I).toNat)
      case atStart => exact ⟨0, rfl, Nat.zero_le _, HV.out⟩
      case round =>
        clear HV
        obtain ⟨q, rfl, hq, HV⟩ := hrel
        by_cases hqp : q < P.length
        · have hqi : (q : Int) < (P.length : Int) := by omega
          obtain ⟨g, rfl, hg, a1, a2, a3⟩ := HC3.out q hqp
          have x1 := (HV.out.bel.cell (p := ⟨g, q * 3, none⟩) hg).trans a1
          have x2 := (HV.out.bel.cell (p := ⟨g, q * 3 + 1, none⟩) hg).trans a2
          have x3 := (HV.out.bel.cell (p := ⟨g, q * 3 + 2, none⟩) hg).trans a3
          have hgw : g < wr.heap.size := Nat.lt_of_lt_of_le hg HV.out.bel.size
          have hIs := Lib.hid (irL_succ RG P q hqp)
          have hIl : irL RG (P.take q) ≤ 1152 := by
            have h1 := irL_le RG (P.take q)
            have h2 : (P.take q).length ≤ P.length := List.length_take_le' _ _
            omega
          have hIli : ((irL RG (P.take q) : Nat) : Int) ≤ 1152 := by omega
          have hgb1 := HV.out.bel.size
          clear a1 a2 a3
          generalize WD P[q] = wd at *
          generalize hrg : RG P[q] = rg at *
          generalize P[q] = pq at *
          generalize irL RG (P.take q) = ir at *
          clear hrg
          go_upto_region 18 with fail
          have HV1 := Lib.hid (HV.out.alloc (.cells #[.int .i64 (pq : Nat), .int .i64 (wd : Nat), .bool rg] 60))
          have HN := heap_alloc_new wr (.cells #[.int .i64 (pq : Nat), .int .i64 (wd : Nat), .bool rg] 60)
          obtain ⟨W5, hW5⟩ : ∃ W5, W5 = wr.alloc (.cells #[.int .i64 (pq : Nat), .int .i64 (wd : Nat), .bool rg] 60) := ⟨_, rfl⟩
          rw [← hW5] at HV1 HN ⊢
          clear hW5 x1 x2 x3
          obtain ⟨nb, hnb⟩ : ∃ nb, nb = wr.heap.size := ⟨_, rfl⟩
          rw [← hnb] at HN hgb1 ⊢
          clear hnb
          obtain ⟨⟨c1, c2, c3⟩, _⟩ := threeC_of_block HN
          obtain ⟨⟨g0, g1, g2, g3, g4, g5, g6⟩, gf⟩ := seven_of_block HV1.out.blk
          cases rg with
          | true =>
            go_wp2
            go_roundw
            case rel =>
              refine ⟨q + 1, by go_num, by omega, ?_⟩
              rw [hIs.out]
              exact HV1.out
            case measure => simp [intOf]; omega
          | false =>
            go_wp2
            go_roundw
            case rel =>
              refine ⟨q + 1, by go_num, by omega, ?_⟩
              rw [hIs.out]
              exact HV1.out.set5 ((ir : Int) + 1)
            case measure => simp [intOf]; omega
        · obtain rfl : q = P.length := by omega
          have hq3 : ¬ (P.length : Int) < (P.length : Int) := by omega
          rw [List.take_length] at HV
          have HRr := Lib.hid ((HV.out.bel.block (w.heap.size + 1) (by have := HKr.out; omega)).trans R3.out)
          have HB5 := Lib.hid (HB3.out.trans (HV.out.bel.mono HB3.out.size))
          have hsg := HSg.out
          clear HSg
          subst hsg
          obtain ⟨⟨g0, g1, g2, g3, g4, g5, g6⟩, gf⟩ := seven_of_block HV.out.blk
          go_wp2_with (first
            | (go_at_call 28; ((with_reducible refine (HGn.out _).mono ?_); rintro e w6 ⟨rfl, hb⟩; have HB6 := Lib.hid (bel0 HB5.out hb); have HR6 := Lib.hid (block_below HRr.out hb); clear g0 g1 g2 g3 g4 g5 g6 gf; obtain ⟨⟨g0, g1, g2, g3, g4, g5, g6⟩, gf⟩ := seven_of_block HR6.out; clear hb))
            | fail)
          obtain ⟨⟨y0, y1, y2, y3, y4, y5, y6⟩, _⟩ := seven_of_block (seven_set HR6.out (.int .i64 (k : Int)) (.int .i64 gn) (.int .i64 (N2 : Int)) (.int .i64 (N3 : Int)) (.int .i64 (P.length : Int)) (.int .i64 (irL RG P : Nat)) (.bool mi))
          refine bodyPost_ret (v := .tuple #[.agg #[.int .i64 (k : Int), .int .i64 gn, .int .i64 (N2 : Int), .int .i64 (N3 : Int), .int .i64 (P.length : Int), .int .i64 (irL RG P : Nat), .bool mi], .int .i64 0]) ?_ rfl ⟨rfl, seven_belB HB6.out (by omega) _ _ _ _ _ _ _⟩
          simp [results, Try.results11, go_sem, y0, y1, y2, y3, y4, y5, y6]
end Go.Proofs.Ytmikhkolbkdnpaa
namespace Go.Proofs.Ytmikhkolbkdnpaa
open Go.RowKit
set_option linter.unusedVariables false
set_option linter.unusedSimpArgs false

set_option maxHeartbeats 3200000 in
set_option maxRecDepth 1000000 in
theorem rgenus_any (ix gn n2 n3 cu ir : Int) (mi : Bool) (w : World) (h1 : 0 ≤ ix ∧ ix ≤ 100000) (h2 : 0 ≤ n2 ∧ n2 ≤ 100000) (h3 : 0 ≤ n3 ∧ n3 ≤ 100000) (h4 : 0 ≤ cu ∧ cu ≤ 100000) :
    Calls Try.prog 33 #[.agg #[.int .i64 ix, .int .i64 gn, .int .i64 n2, .int .i64 n3, .int .i64 cu, .int .i64 ir, .bool mi]] w fun e w' => e = .returned (.agg #[.int .i64 ix, .int .i64 ((12 + ix - 3 * n2 - 4 * n3 - 6 * cu).tdiv 12), .int .i64 n2, .int .i64 n3, .int .i64 cu, .int .i64 ir, .bool mi]) ∧ Below w.heap.size w w' := by
  obtain ⟨a1, a2⟩ := h1
  obtain ⟨b1, b2⟩ := h2
  obtain ⟨c1, c2⟩ := h3
  obtain ⟨d1, d2⟩ := h4
  go_enter Try.func33, Try.ntmps33
  go_wp2
  refine bodyPost_ret (v := .agg #[.int .i64 ix, .int .i64 ((12 + ix - 3 * n2 - 4 * n3 - 6 * cu).tdiv 12), .int .i64 n2, .int .i64 n3, .int .i64 cu, .int .i64 ir, .bool mi]) ?_ rfl ⟨rfl, below2 w _ _⟩
  simp [results, Try.results33, go_sem]
/-- The world in the loops of the reference's Of. -/
structure GR (w1 wr : World) (gb : Nat) (ix n2 n3 cu ir : Int) (mi : Bool) : Prop where
  blk : wr.heap[gb]? = some (.cells #[.int .i64 ix, .int .i64 0, .int .i64 n2, .int .i64 n3, .int .i64 cu, .int .i64 ir, .bool mi] 27 (0, 0))
  ge : w1.heap.size ≤ gb
  bel : Below w1.heap.size w1 wr
section
variable {w1 wr : World} {gb : Nat} {ix n2 n3 cu ir : Int} {mi : Bool}
theorem GR.set2 (h : GR w1 wr gb ix n2 n3 cu ir mi) (y : Int) : GR w1 (wr.setCell ⟨gb, 2, none⟩ (.int .i64 y)) gb ix y n3 cu ir mi := ⟨heap_setCell_same _ _ 2 #[.int .i64 ix, .int .i64 0, .int .i64 n2, .int .i64 n3, .int .i64 cu, .int .i64 ir, .bool mi] _ (.int .i64 y) h.blk, h.ge, h.bel.setCell h.ge _⟩
theorem GR.set3 (h : GR w1 wr gb ix n2 n3 cu ir mi) (y : Int) : GR w1 (wr.setCell ⟨gb, 3, none⟩ (.int .i64 y)) gb ix n2 y cu ir mi := ⟨heap_setCell_same _ _ 3 #[.int .i64 ix, .int .i64 0, .int .i64 n2, .int .i64 n3, .int .i64 cu, .int .i64 ir, .bool mi] _ (.int .i64 y) h.blk, h.ge, h.bel.setCell h.ge _⟩
theorem GR.set5 (h : GR w1 wr gb ix n2 n3 cu ir mi) (y : Int) : GR w1 (wr.setCell ⟨gb, 5, none⟩ (.int .i64 y)) gb ix n2 n3 cu y mi := ⟨heap_setCell_same _ _ 5 #[.int .i64 ix, .int .i64 0, .int .i64 n2, .int .i64 n3, .int .i64 cu, .int .i64 ir, .bool mi] _ (.int .i64 y) h.blk, h.ge, h.bel.setCell h.ge _⟩
theorem GR.below {w' : World} (h : GR w1 wr gb ix n2 n3 cu ir mi) (hb : Below wr.heap.size wr w') : GR w1 w' gb ix n2 n3 cu ir mi := ⟨block_below h.blk hb, h.ge, bel0 h.bel hb⟩
end
theorem rdn_set {w : World} {B g o n b j : Nat} {f : Nat → Nat} {v : Value} (hn : g ≠ b) (h : RdN w B g o n f) : RdN (w.setCell ⟨b, j, none⟩ v) B g o n f := ⟨h.1, fun i hi => (World.cell?_of_block (w := w) (Below.heap_setCell w ⟨b, j, none⟩ v g hn)).trans (h.2 i hi)⟩
set_option maxHeartbeats 6400000 in
set_option maxRecDepth 1000000 in
theorem rof_ok {S T : List Int} {B bS oS bT oT cS cT : Nat} (w : World) (h : AI w B bS oS bT oT S T cS cT) :
    Calls Try.prog 13 #[.agg #[.slice (some ⟨bS, oS, none⟩) S.length cS, .slice (some ⟨bT, oT, none⟩) S.length cT]] w fun e w' => e = .returned (.tuple #[sgA S T, .int .i64 0]) ∧ Below w.heap.size w w' := by
  obtain ⟨W0, hW0⟩ : ∃ W0, W0 = (w.alloc (.cells #[.slice (some ⟨bS, oS, none⟩) S.length cS, .slice (some ⟨bT, oT, none⟩) S.length cT] 24)).alloc (.cells #[.int .i64 0, .int .i64 0, .int .i64 0, .int .i64 0, .int .i64 0, .int .i64 0, .bool false] 27) := ⟨_, rfl⟩
  have hA := pact_of h.act
  have hm := hA.mle
  have hle := h.act.le
  have hpos := h.act.pos
  have hmp := hA.mpos
  have hz := rel_inv h.act.ps h.act.pt h.act.rel
  have hsl := hA.ps.lt
  have htl := hA.pt.lt
  obtain ⟨s1, s2, s3⟩ := hA.sbd hz
  have hcl : clP S T = (cst (uB (fnz T) (fun i => fnz S (fnz S i)) S.length) S.length).2 := clP_ok (chkA_ok h.act)
  have hcu : (clP S T).length = cuZ (fnz S) (fnz T) S.length := by rw [hcl]; rfl
  have T0 : Hid (W0.heap[w.heap.size]? = some (.cells #[.slice (some ⟨bS, oS, none⟩) S.length cS, .slice (some ⟨bT, oT, none⟩) S.length cT] 24 (0, 0))) := by
    show _ = _; rw [hW0]; exact block_alloc (heap_alloc_new w _) _
  have R0 : Hid (W0.heap[w.heap.size + 1]? = some (.cells #[.int .i64 0, .int .i64 0, .int .i64 0, .int .i64 0, .int .i64 0, .int .i64 0, .bool false] 27 (0, 0))) := by
    show _ = _; rw [hW0]; have := heap_alloc_new (w.alloc (.cells #[.slice (some ⟨bS, oS, none⟩) S.length cS, .slice (some ⟨bT, oT, none⟩) S.length cT] 24)) (.cells #[.int .i64 0, .int .i64 0, .int .i64 0, .int .i64 0, .int .i64 0, .int .i64 0, .bool false] 27); simpa using this
  have HB0 : Hid (Below w.heap.size w W0) := by show Below _ _ _; rw [hW0]; exact below2 w _ _
  have HCl : Hid (∀ W, Below w.heap.size w W → Calls Try.prog 29 #[.agg #[.slice (some ⟨bS, oS, none⟩) S.length cS, .slice (some ⟨bT, oT, none⟩) S.length cT]] W fun e w' => ∃ A c, e = .returned (.tuple #[.slice A (clP S T).length c, .int .i64 0]) ∧ w'.ownsRow W.heap.size 60 3 (.slice A (clP S T).length c) (clP S T).length (ccs (wdF S T) (rgF S T) (clP S T)) ∧ Below W.heap.size W w') := fun W hb => by
    have := rclasses2_any W (h.below hb).zs (h.below hb).zt (h.below hb).le
    rwa [chkA_ok h.act, h.act.len] at this
  have HPj : Hid (∀ W, Below w.heap.size w W → Calls Try.prog 30 #[.agg #[.slice (some ⟨bS, oS, none⟩) S.length cS, .slice (some ⟨bT, oT, none⟩) S.length cT]] W fun e w' => ∃ b o c b' o' c', e = .returned (.agg #[.slice (some ⟨b, o, none⟩) (mO (fnz S) S.length) c, .slice (some ⟨b', o', none⟩) (mO (fnz S) S.length) c']) ∧ RdN w' w'.heap.size b o (mO (fnz S) S.length) (sO (fnz S) S.length) ∧ RdN w' w'.heap.size b' o' (mO (fnz S) S.length) (tO (fnz S) (fnz T) S.length) ∧ Below W.heap.size W w') := fun W hb =>
    (rproj_ok W (h.below hb)).mono fun e w' ⟨A, c, A', c', he, r1, r2, hb'⟩ => by
      obtain ⟨b, o, rfl, q1⟩ := rdz_rdn r1 (pS_len _ _) hmp fun q hq => pS_at _ _ q hq
      obtain ⟨b', o', rfl, q2⟩ := rdz_rdn r2 (pT_len _ _ _) hmp fun q hq => pT_at _ _ _ q hq
      rw [pS_len, pT_len] at he
      exact ⟨b, o, c, b', o', c', he, q1, q2, hb'⟩
  have HMi : Hid (∀ W, Below w.heap.size w W → Calls Try.prog 31 #[.agg #[.slice (some ⟨bS, oS, none⟩) S.length cS, .slice (some ⟨bT, oT, none⟩) S.length cT]] W fun e w' => e = .returned (.bool (mnB S)) ∧ Below W.heap.size W w') := fun W hb => rminus_any W ((h.below hb).s.mono (h.below hb).le) h.act.ps (by omega) (mnB S) rfl
  have HTu : Hid (∀ (W : World) b o c b' o' c', RdN W W.heap.size b o (mO (fnz S) S.length) (sO (fnz S) S.length) → RdN W W.heap.size b' o' (mO (fnz S) S.length) (tO (fnz S) (fnz T) S.length) → Calls Try.prog 32 #[.agg #[.slice (some ⟨b, o, none⟩) (mO (fnz S) S.length) c, .slice (some ⟨b', o', none⟩) (mO (fnz S) S.length) c']] W fun e w' => ∃ g c, e = .returned (.slice (some ⟨g, 0, none⟩) (mO (fnz S) S.length) c) ∧ W.heap.size ≤ g ∧ RdN w' w'.heap.size g 0 (mO (fnz S) S.length) (fun i => tO (fnz S) (fnz T) S.length (sO (fnz S) S.length i)) ∧ Below W.heap.size W w') := fun W b o c b' o' c' r1 r2 =>
    (rturn_any W r1 r2 hsl (by omega)).mono fun e w' ⟨A, c, he, ho, hb⟩ => by
      obtain ⟨gl, rfl, hr⟩ := own_rdn ho (by simp) hmp
      obtain ⟨gl', e', hge⟩ := own_some ho hmp
      cases e'
      refine ⟨gl, c, he, by omega, ⟨hr.1, fun i hi => ?_⟩, hb⟩
      rw [hr.2 i hi]
      simp [List.getD, hi]
  have HGn : Hid (∀ W, Calls Try.prog 33 #[.agg #[.int .i64 (mO (fnz S) S.length : Nat), .int .i64 0, .int .i64 (n2Z (fnz S) S.length : Nat), .int .i64 (n3Z (fnz S) (fnz T) S.length : Nat), .int .i64 ((clP S T).length : Nat), .int .i64 (irL (rgF S T) (clP S T) : Nat), .bool (mnB S)]] W fun e w' => e = .returned (sgA S T) ∧ Below W.heap.size W w') := fun W => by
    have := rgenus_any (mO (fnz S) S.length : Nat) 0 (n2Z (fnz S) S.length : Nat) (n3Z (fnz S) (fnz T) S.length : Nat) ((clP S T).length : Nat) (irL (rgF S T) (clP S T) : Nat) (mnB S) W (by omega) (by omega) (by omega) (by omega)
    unfold sgA gnZ
    rw [← hcu]
    exact this
  have HE2 : Hid (cntB (fun q => decide (sO (fnz S) S.length q = q)) (mO (fnz S) S.length) = n2Z (fnz S) S.length) := rfl
  have HE3 : Hid (cntB (fun q => decide (tO (fnz S) (fnz T) S.length (sO (fnz S) S.length q) = q)) (mO (fnz S) S.length) = n3Z (fnz S) (fnz T) S.length) := rfl
  have HSg : Hid (sgA S T = .agg #[.int .i64 (mO (fnz S) S.length : Nat), .int .i64 (gnZ (fnz S) (fnz T) S.length), .int .i64 (n2Z (fnz S) S.length : Nat), .int .i64 (n3Z (fnz S) (fnz T) S.length : Nat), .int .i64 ((clP S T).length : Nat), .int .i64 (irL (rgF S T) (clP S T) : Nat), .bool (mnB S)]) := rfl
  have hpl : (clP S T).length ≤ 1152 := by omega
  clear h hA hz hcl hcu hsl htl hpos
  generalize hgE : gnZ (fnz S) (fnz T) S.length = gn at *
  clear hgE
  generalize n2Z (fnz S) S.length = N2 at *
  generalize n3Z (fnz S) (fnz T) S.length = N3 at *
  generalize sO (fnz S) S.length = s at *
  generalize tO (fnz S) (fnz T) S.length = t at *
  generalize mO (fnz S) S.length = m at *
  generalize clP S T = P at *
  generalize rgF S T = RG at *
  generalize wdF S T = WD at *
  generalize mnB S = mi at *
  generalize sgA S T = SG at *
  generalize S.length = n at *
  go_enter Try.func13, Try.ntmps13
  go_upto_region 1 with fail
  rw [← hW0]
  clear hW0
  obtain ⟨⟨p1, p2⟩, _⟩ := two_of_block T0.out
  go_upto_region 5 with (first
    | (go_at_call 29; ((with_reducible refine (HCl.out _ HB0.out).mono ?_); rintro e w1 ⟨A1, c1, rfl, ho, hb⟩; have HB1 := Lib.hid (bel0 HB0.out hb); have T1 := Lib.hid (block_below T0.out hb); have R1 := Lib.hid (block_below R0.out hb); have O1 := Lib.hid ho; clear p1 p2; obtain ⟨⟨p1, p2⟩, _⟩ := two_of_block T1.out; clear hb ho))
    | (go_at_call 30; ((with_reducible refine (HPj.out _ HB1.out).mono ?_); rintro e w2 ⟨b, o, c, b', o', c', rfl, r1, r2, hb⟩; have HB2 := Lib.hid (bel0 HB1.out hb); have T2 := Lib.hid (block_below T1.out hb); have R2 := Lib.hid (block_below R1.out hb); have Q1 := Lib.hid r1; have Q2 := Lib.hid r2; have HC2 := Lib.hid (fun k hk => cls_read O1.out k hk); have K2 := Lib.hid hb; clear hb r1 r2 p1 p2))
    | fail)
  clear HCl HPj T0 R0 T1 R1 O1 HB0 HB1
  have X2 := Lib.hid (heap_alloc_new w2 (.cells #[.slice (some ⟨b, o, none⟩) m c, .slice (some ⟨b', o', none⟩) m c'] 24))
  have A2 := Lib.hid (block_alloc T2.out (.cells #[.slice (some ⟨b, o, none⟩) m c, .slice (some ⟨b', o', none⟩) m c'] 24))
  have R3 := Lib.hid (block_alloc R2.out (.cells #[.slice (some ⟨b, o, none⟩) m c, .slice (some ⟨b', o', none⟩) m c'] 24))
  have HB3 := Lib.hid (HB2.out.alloc HB2.out.size (.cells #[.slice (some ⟨b, o, none⟩) m c, .slice (some ⟨b', o', none⟩) m c'] 24))
  have K3 := Lib.hid (below1 w2 (.cells #[.slice (some ⟨b, o, none⟩) m c, .slice (some ⟨b', o', none⟩) m c'] 24))
  obtain ⟨W2, hW2⟩ : ∃ W2, W2 = w2.alloc (.cells #[.slice (some ⟨b, o, none⟩) m c, .slice (some ⟨b', o', none⟩) m c'] 24) := ⟨_, rfl⟩
  rw [← hW2] at X2 A2 R3 HB3 K3 ⊢
  clear hW2
  have S3 : Hid (RdN W2 W2.heap.size b o m s) := (Q1.out.below K3.out).mono K3.out.size
  have T3 : Hid (RdN W2 W2.heap.size b' o' m t) := (Q2.out.below K3.out).mono K3.out.size
  have HC3 : Hid (∀ k (hk : k < P.length), ∃ g, A1 = some ⟨g, 0, none⟩ ∧ g < W2.heap.size ∧ W2.cell? ⟨g, k * 3, none⟩ = some (.int .i64 (P[k] : Nat)) ∧ W2.cell? ⟨g, k * 3 + 1, none⟩ = some (.int .i64 (WD P[k] : Nat)) ∧ W2.cell? ⟨g, k * 3 + 2, none⟩ = some (.bool (RG P[k]))) := fun k hk => by
    obtain ⟨g, e, _, hg, a1, a2, a3⟩ := HC2.out k hk
    have hb := K2.out.trans (K3.out.mono K2.out.size)
    exact ⟨g, e, Nat.lt_of_lt_of_le hg hb.size, (hb.cell (p := ⟨g, k * 3, none⟩) hg).trans a1, (hb.cell (p := ⟨g, k * 3 + 1, none⟩) hg).trans a2, (hb.cell (p := ⟨g, k * 3 + 2, none⟩) hg).trans a3⟩
  obtain ⟨pb, hpb⟩ : ∃ pb, pb = w2.heap.size := ⟨_, rfl⟩
  rw [← hpb] at X2 ⊢
  clear hpb Q1 Q2 K2 K3 HC2 T2 R2 HB2
  have HKp := Lib.hid (lt_of_block X2.out)
  have HKr := Lib.hid (lt_of_block R3.out)
  have HKa := Lib.hid (lt_of_block A2.out)
  have HKc : Hid (∀ W, Below W2.heap.size W2 W → (W.cell? ⟨w.heap.size, 0, none⟩ = some (.slice (some ⟨bS, oS, none⟩) n cS) ∧ W.cell? ⟨w.heap.size, 1, none⟩ = some (.slice (some ⟨bT, oT, none⟩) n cT)) ∧ W.cell? ⟨pb, 0, none⟩ = some (.slice (some ⟨b, o, none⟩) m c)) := fun W hb =>
    ⟨(two_of_block ((hb.block _ HKa.out).trans A2.out)).1, (two_of_block ((hb.block _ HKp.out).trans X2.out)).1.1⟩
  obtain ⟨⟨p1, p2⟩, p3⟩ := HKc.out W2 (Below.refl _ _)
  have hmi : (m : Int) ≤ 1152 := by omega
  have hpi : (P.length : Int) ≤ 1152 := by omega
  go_cut [7] (fun s7 wx => ∃ g : Nat, s7 = .pointer (some ⟨g, 0, none⟩) ∧ Hid (GR W2 wx g m 0 0 P.length 0 mi))
  case first =>
    have D0 : Hid (Below W2.heap.size W2 W2.drew) := Below.drew (Below.refl _ _)
    have D0a : Hid (Below W2.heap.size W2 (W2.alloc (.cells #[.int .i64 0, .int .i64 0, .int .i64 0, .int .i64 0, .int .i64 0, .int .i64 0, .bool false] 27)).drew) := Below.drew (below1 W2 _)
    have M0a : Hid ((W2.alloc (.cells #[.int .i64 0, .int .i64 0, .int .i64 0, .int .i64 0, .int .i64 0, .int .i64 0, .bool false] 27)).drew.heap[W2.heap.size]? = some (.cells #[.int .i64 0, .int .i64 0, .int .i64 0, .int .i64 0, .int .i64 0, .int .i64 0, .bool false] 27 (0, 0))) := heap_alloc_new W2 _
    go_region_held3 (fun w' => (w'.cell? ⟨w.heap.size, 0, none⟩ = some (.slice (some ⟨bS, oS, none⟩) n cS) ∧ w'.cell? ⟨w.heap.size, 1, none⟩ = some (.slice (some ⟨bT, oT, none⟩) n cT)) ∧ w'.cell? ⟨pb, 0, none⟩ = some (.slice (some ⟨b, o, none⟩) m c))
      (with_reducible first | exact HKc.out _ (seven_belB D1.out (Nat.le_refl _) _ _ _ _ _ _ _) | exact HKc.out _ (seven_belB (D1.out.alloc D1.out.size _) D1.out.size _ _ _ _ _ _ _) | exact HKc.out _ D0.out | exact HKc.out _ D0a.out | exact HKc.out _ D1.out | exact HKc.out _ (D1.out.alloc D1.out.size _) | fail)
      (first
        | (go_at_call 31; ((with_reducible refine (HMi.out _ (by with_reducible first | exact HB3.out.trans (D0.out.mono HB3.out.size) | exact HB3.out.trans (D0a.out.mono HB3.out.size) | fail)).mono ?_); rintro e z1 ⟨rfl, hb⟩; have D1 : Hid (Below W2.heap.size W2 z1) := (by with_reducible first | exact Lib.hid (bel0 D0.out hb) | exact Lib.hid (bel0 D0a.out hb) | fail); (try (with_reducible (first | (have M1 := Lib.hid (block_below M0a.out hb); obtain ⟨⟨g0, g1, g2, g3, g4, g5, g6⟩, gf⟩ := seven_of_block M1.out; have hlz := lt_of_block M1.out) | fail))); clear hb))
        | fail)
    all_goals
      go_wp2_with fail
      go_meet
      first
        | (have := M1.out; exact ⟨W2.heap.size, rfl, seven_set this _ _ _ _ _ _ _, Nat.le_refl _, seven_belB D1.out (Nat.le_refl _) _ _ _ _ _ _ _⟩)
        | exact ⟨z1.heap.size, rfl, heap_alloc_new z1 _, D1.out.size, D1.out.alloc D1.out.size _⟩
        | fail
  case rest =>
    obtain ⟨gb, rfl, HG4⟩ := hcut
    clear p1 p2 p3 HMi
    go_wp2
    go_loopw [8] (fun I wr => ∃ q : Nat, I = .int .i64 q ∧ q ≤ P.length ∧ Hid (GR W2 wr gb m 0 0 P.length (irL RG (P.take q) : Nat) mi)) (fun I _ => P.length - (intOf I).toNat)
    case atStart => exact ⟨0, rfl, Nat.zero_le _, HG4.out⟩
    case round =>
      clear HG4
      obtain ⟨q, rfl, hq, HV⟩ := hrel
      by_cases hqp : q < P.length
      · have hqi : (q : Int) < (P.length : Int) := by omega
        obtain ⟨g, rfl, hg, a1, a2, a3⟩ := HC3.out q hqp
        have x1 := (HV.out.bel.cell (p := ⟨g, q * 3, none⟩) hg).trans a1
        have x2 := (HV.out.bel.cell (p := ⟨g, q * 3 + 1, none⟩) hg).trans a2
        have x3 := (HV.out.bel.cell (p := ⟨g, q * 3 + 2, none⟩) hg).trans a3
        have hgw : g < wr.heap.size := Nat.lt_of_lt_of_le hg HV.out.bel.size
        have hIs := Lib.hid (irL_succ RG P q hqp)
        have hIl : irL RG (P.take q) ≤ 1152 := by
          have h1 := irL_le RG (P.take q)
          have h2 : (P.take q).length ≤ P.length := List.length_take_le' _ _
          omega
        have hIli : ((irL RG (P.take q) : Nat) : Int) ≤ 1152 := by omega
        clear a1 a2 a3
        generalize WD P[q] = wd at *
        generalize hrg : RG P[q] = rg at *
        generalize P[q] = pq at *
        generalize irL RG (P.take q) = ir at *
        clear hrg
        obtain ⟨⟨g0, g1, g2, g3, g4, g5, g6⟩, gf⟩ := seven_of_block HV.out.blk
        cases rg with
        | true =>
          go_wp2
          go_roundw
          case rel =>
            refine ⟨q + 1, by go_num, by omega, ?_⟩
            rw [hIs.out]
            exact HV.out
          case measure => simp [intOf]; omega
        | false =>
          go_wp2
          go_roundw
          case rel =>
            refine ⟨q + 1, by go_num, by omega, ?_⟩
            rw [hIs.out]
            exact HV.out.set5 ((ir : Int) + 1)
          case measure => simp [intOf]; omega
      · obtain rfl : q = P.length := by omega
        have hq3 : ¬ (P.length : Int) < (P.length : Int) := by omega
        rw [List.take_length] at HV
        have HX1 := (HV.out.bel.block pb HKp.out).trans X2.out
        obtain ⟨⟨p1, p2⟩, _⟩ := two_of_block HX1
        have HS4 := Lib.hid ((S3.out.below HV.out.bel).mono HV.out.bel.size)
        have HT4 := Lib.hid ((T3.out.below HV.out.bel).mono HV.out.bel.size)
        clear HX1
        have HIr : ((irL RG P : Nat) : Int) ≤ 1152 := by have := irL_le RG P; omega
        generalize irL RG P = ir at *
        go_upto_region 12 with (first
          | (go_at_call 32; ((with_reducible refine (HTu.out _ b o _ b' o' _ HS4.out HT4.out).mono ?_); rintro e w5 ⟨g5, cc5, rfl, hge, hr, hb⟩; have HNe : Hid (g5 ≠ gb) := (by have := lt_of_block HV.out.blk; show _ ≠ _; omega); have HV5 := Lib.hid (HV.out.below hb); have HU5 := Lib.hid hr; clear hr hb p1 p2))
          | fail)
        clear HTu HS4 HT4
        go_wp2
        go_loopw [10] (fun I wr => ∃ k : Nat, I = .int .i64 k ∧ k ≤ m ∧ Hid (GR W2 wr gb m (cntB (fun q => decide (s q = q)) k : Nat) (cntB (fun q => decide (t (s q) = q)) k : Nat) P.length ir mi) ∧ Hid (RdN wr w5.heap.size g5 0 m (fun i => t (s i))) ∧ Hid (w5.heap.size ≤ wr.heap.size)) (fun I _ => m - (intOf I).toNat)
        case atStart => exact ⟨0, rfl, Nat.zero_le _, HV5.out, HU5.out, Nat.le_refl _⟩
        case round =>
          clear HV5 HU5 HV
          obtain ⟨k, rfl, hk, HV, HU, HZ⟩ := hrel
          have hX := (HV.out.bel.block pb HKp.out).trans X2.out
          obtain ⟨⟨p1, p2⟩, _⟩ := two_of_block hX
          clear hX
          by_cases hkm : k < m
          · have hki : (k : Int) < (m : Int) := by omega
            have x1 : wr.cell? ⟨b, o + k, none⟩ = some (.int .i64 (s k : Nat)) := (HV.out.bel.cell (p := ⟨b, o + k, none⟩) S3.out.1).trans (S3.out.2 k hkm)
            have x2 : wr.cell? ⟨g5, k, none⟩ = some (.int .i64 (t (s k) : Nat)) := by have := HU.out.2 k hkm; rwa [Nat.zero_add] at this
            have hb1 : b < wr.heap.size := Nat.lt_of_lt_of_le S3.out.1 HV.out.bel.size
            have hb2 : g5 < wr.heap.size := Nat.lt_of_lt_of_le HU.out.1 HZ.out
            have hgb0 := lt_of_block HV.out.blk
            have hki2 : (k : Int) ≤ 1152 := by omega
            have hcl := cntB_leS (fun q => decide (s q = q)) k
            have hcl3 := cntB_leS (fun q => decide (t (s q) = q)) k
            have hC2 := Lib.hid (show cntB (fun q => decide (s q = q)) (k + 1) = cntB (fun q => decide (s q = q)) k + (if decide (s k = k) = true then 1 else 0) from rfl)
            have hC3 := Lib.hid (show cntB (fun q => decide (t (s q) = q)) (k + 1) = cntB (fun q => decide (t (s q) = q)) k + (if decide (t (s k) = k) = true then 1 else 0) from rfl)
            generalize cntB (fun q => decide (s q = q)) k = c2 at *
            generalize cntB (fun q => decide (t (s q) = q)) k = c3 at *
            have hc2i : (c2 : Int) ≤ 1152 := by omega
            have hc3i : (c3 : Int) ≤ 1152 := by omega
            by_cases e1 : s k = k
            · have b1 : (((s k : Nat) : Int) == (k : Int)) = true := by rw [beq_nat]; exact decide_eq_true e1
              have HC2 : Hid (cntB (fun q => decide (s q = q)) (k + 1) = c2 + 1) := by show _ = _; rw [hC2.out, if_pos (decide_eq_true e1)]
              by_cases e2 : t (s k) = k
              · have b2 : (((t (s k) : Nat) : Int) == (k : Int)) = true := by rw [beq_nat]; exact decide_eq_true e2
                have HC3 : Hid (cntB (fun q => decide (t (s q) = q)) (k + 1) = c3 + 1) := by show _ = _; rw [hC3.out, if_pos (decide_eq_true e2)]
                clear hC2 hC3 e1 e2
                generalize t (s k) = tk at b2 x2 ⊢
                generalize s k = sk at b1 x1 ⊢
                obtain ⟨⟨g0, g1, g2, g3, g4, g6, g7⟩, gf⟩ := seven_of_block HV.out.blk
                go_upto_region 17 with fail
                have HV1 := Lib.hid (HV.out.set2 ((c2 + 1 : Nat) : Int))
                have HU1 := Lib.hid (rdn_set (j := 2) (v := .int .i64 ((c2 : Int) + 1)) HNe.out HU.out)
                have hgs : (((c2 + 1 : Nat) : Int)) = (c2 : Int) + 1 := by omega
                rw [hgs] at HV1
                have HZ1 : Hid (w5.heap.size ≤ (wr.setCell ⟨gb, 2, none⟩ (.int .i64 ((c2 : Int) + 1))).heap.size) := by have := HZ.out; show _ ≤ _; simpa using this
                have y1 : (wr.setCell ⟨gb, 2, none⟩ (.int .i64 ((c2 : Int) + 1))).cell? ⟨g5, k, none⟩ = some (.int .i64 (tk : Nat)) := (World.cell?_of_block (w := wr) (Below.heap_setCell wr ⟨gb, 2, none⟩ _ g5 HNe.out)).trans x2
                obtain ⟨W5, hW5⟩ : ∃ W5, W5 = wr.setCell ⟨gb, 2, none⟩ (.int .i64 ((c2 : Int) + 1)) := ⟨_, rfl⟩
                rw [← hW5] at HV1 HU1 HZ1 y1 ⊢
                clear hW5 p1 p2 g0 g1 g2 g3 g4 g6 g7 gf x1 x2 hgs
                have hb3 := Nat.lt_of_lt_of_le HU1.out.1 HZ1.out
                have hX := (HV1.out.bel.block pb HKp.out).trans X2.out
                obtain ⟨⟨p1, p2⟩, _⟩ := two_of_block hX
                clear hX
                obtain ⟨⟨g0, g1, g2, g3, g4, g6, g7⟩, gf⟩ := seven_of_block HV1.out.blk
                go_wp2
                go_roundw
                case rel =>
                  refine ⟨k + 1, by go_num, by omega, ?_, rdn_set HNe.out HU1.out, by have := HZ1.out; show _ ≤ _; simpa using this⟩
                  rw [HC2.out, HC3.out]
                  have := HV1.out.set3 ((c3 : Int) + 1)
                  exact this
                case measure => simp [intOf]; omega
              · have b2 : (((t (s k) : Nat) : Int) == (k : Int)) = false := by rw [beq_nat]; exact decide_eq_false e2
                have HC3 : Hid (cntB (fun q => decide (t (s q) = q)) (k + 1) = c3) := by show _ = _; rw [hC3.out, if_neg (by simpa using e2)]; rfl
                clear hC2 hC3 e1 e2
                generalize t (s k) = tk at b2 x2 ⊢
                generalize s k = sk at b1 x1 ⊢
                obtain ⟨⟨g0, g1, g2, g3, g4, g6, g7⟩, gf⟩ := seven_of_block HV.out.blk
                go_upto_region 17 with fail
                have HV1 := Lib.hid (HV.out.set2 ((c2 + 1 : Nat) : Int))
                have HU1 := Lib.hid (rdn_set (j := 2) (v := .int .i64 ((c2 : Int) + 1)) HNe.out HU.out)
                have hgs : (((c2 + 1 : Nat) : Int)) = (c2 : Int) + 1 := by omega
                rw [hgs] at HV1
                have HZ1 : Hid (w5.heap.size ≤ (wr.setCell ⟨gb, 2, none⟩ (.int .i64 ((c2 : Int) + 1))).heap.size) := by have := HZ.out; show _ ≤ _; simpa using this
                have y1 : (wr.setCell ⟨gb, 2, none⟩ (.int .i64 ((c2 : Int) + 1))).cell? ⟨g5, k, none⟩ = some (.int .i64 (tk : Nat)) := (World.cell?_of_block (w := wr) (Below.heap_setCell wr ⟨gb, 2, none⟩ _ g5 HNe.out)).trans x2
                obtain ⟨W5, hW5⟩ : ∃ W5, W5 = wr.setCell ⟨gb, 2, none⟩ (.int .i64 ((c2 : Int) + 1)) := ⟨_, rfl⟩
                rw [← hW5] at HV1 HU1 HZ1 y1 ⊢
                clear hW5 p1 p2 g0 g1 g2 g3 g4 g6 g7 gf x1 x2 hgs
                have hb3 := Nat.lt_of_lt_of_le HU1.out.1 HZ1.out
                have hX := (HV1.out.bel.block pb HKp.out).trans X2.out
                obtain ⟨⟨p1, p2⟩, _⟩ := two_of_block hX
                clear hX
                obtain ⟨⟨g0, g1, g2, g3, g4, g6, g7⟩, gf⟩ := seven_of_block HV1.out.blk
                go_wp2
                go_roundw
                case rel =>
                  refine ⟨k + 1, by go_num, by omega, ?_, HU1.out, HZ1.out⟩
                  rw [HC2.out, HC3.out]
                  have := HV1.out
                  exact this
                case measure => simp [intOf]; omega
            · have b1 : (((s k : Nat) : Int) == (k : Int)) = false := by rw [beq_nat]; exact decide_eq_false e1
              have HC2 : Hid (cntB (fun q => decide (s q = q)) (k + 1) = c2) := by show _ = _; rw [hC2.out, if_neg (by simpa using e1)]; rfl
              by_cases e2 : t (s k) = k
              · have b2 : (((t (s k) : Nat) : Int) == (k : Int)) = true := by rw [beq_nat]; exact decide_eq_true e2
                have HC3 : Hid (cntB (fun q => decide (t (s q) = q)) (k + 1) = c3 + 1) := by show _ = _; rw [hC3.out, if_pos (decide_eq_true e2)]
                clear hC2 hC3 e1 e2
                generalize t (s k) = tk at b2 x2 ⊢
                generalize s k = sk at b1 x1 ⊢
                obtain ⟨⟨g0, g1, g2, g3, g4, g6, g7⟩, gf⟩ := seven_of_block HV.out.blk
                go_upto_region 17 with fail
                have HV1 : Hid (GR W2 wr gb m (c2 : Int) c3 P.length ir mi) := HV.out
                have HU1 := HU
                have HZ1 := HZ
                have y1 := x2
                clear p1 p2 g0 g1 g2 g3 g4 g6 g7 gf x1 x2
                have hb3 := Nat.lt_of_lt_of_le HU1.out.1 HZ1.out
                have hX := (HV1.out.bel.block pb HKp.out).trans X2.out
                obtain ⟨⟨p1, p2⟩, _⟩ := two_of_block hX
                clear hX
                obtain ⟨⟨g0, g1, g2, g3, g4, g6, g7⟩, gf⟩ := seven_of_block HV1.out.blk
                go_wp2
                go_roundw
                case rel =>
                  refine ⟨k + 1, by go_num, by omega, ?_, rdn_set HNe.out HU1.out, by have := HZ1.out; show _ ≤ _; simpa using this⟩
                  rw [HC2.out, HC3.out]
                  have := HV1.out.set3 ((c3 : Int) + 1)
                  exact this
                case measure => simp [intOf]; omega
              · have b2 : (((t (s k) : Nat) : Int) == (k : Int)) = false := by rw [beq_nat]; exact decide_eq_false e2
                have HC3 : Hid (cntB (fun q => decide (t (s q) = q)) (k + 1) = c3) := by show _ = _; rw [hC3.out, if_neg (by simpa using e2)]; rfl
                clear hC2 hC3 e1 e2
                generalize t (s k) = tk at b2 x2 ⊢
                generalize s k = sk at b1 x1 ⊢
                obtain ⟨⟨g0, g1, g2, g3, g4, g6, g7⟩, gf⟩ := seven_of_block HV.out.blk
                go_upto_region 17 with fail
                have HV1 : Hid (GR W2 wr gb m (c2 : Int) c3 P.length ir mi) := HV.out
                have HU1 := HU
                have HZ1 := HZ
                have y1 := x2
                clear p1 p2 g0 g1 g2 g3 g4 g6 g7 gf x1 x2
                have hb3 := Nat.lt_of_lt_of_le HU1.out.1 HZ1.out
                have hX := (HV1.out.bel.block pb HKp.out).trans X2.out
                obtain ⟨⟨p1, p2⟩, _⟩ := two_of_block hX
                clear hX
                obtain ⟨⟨g0, g1, g2, g3, g4, g6, g7⟩, gf⟩ := seven_of_block HV1.out.blk
                go_wp2
                go_roundw
                case rel =>
                  refine ⟨k + 1, by go_num, by omega, ?_, HU1.out, HZ1.out⟩
                  rw [HC2.out, HC3.out]
                  have := HV1.out
                  exact this
                case measure => simp [intOf]; omega
          · obtain rfl : k = m := by omega
            have hk3 : ¬ (k : Int) < (k : Int) := by omega
            rw [HE2.out, HE3.out] at HV
            have HRr := Lib.hid ((HV.out.bel.block (w.heap.size + 1) HKr.out).trans R3.out)
            have HB5 := Lib.hid (HB3.out.trans (HV.out.bel.mono HB3.out.size))
            have hsg := HSg.out
            clear HSg
            subst hsg
            obtain ⟨⟨g0, g1, g2, g3, g4, g6, g7⟩, gf⟩ := seven_of_block HV.out.blk
            go_wp2_with (first
              | (go_at_call 33; ((with_reducible refine (HGn.out _).mono ?_); rintro e w6 ⟨rfl, hb⟩; have HB6 := Lib.hid (bel0 HB5.out hb); have HR6 := Lib.hid (block_below HRr.out hb); clear g0 g1 g2 g3 g4 g6 g7 gf; obtain ⟨⟨g0, g1, g2, g3, g4, g6, g7⟩, gf⟩ := seven_of_block HR6.out; clear hb))
              | fail)
            obtain ⟨⟨y0, y1, y2, y3, y4, y5, y6⟩, _⟩ := seven_of_block (seven_set HR6.out (.int .i64 (k : Int)) (.int .i64 gn) (.int .i64 (N2 : Int)) (.int .i64 (N3 : Int)) (.int .i64 (P.length : Int)) (.int .i64 (ir : Int)) (.bool mi))
            refine bodyPost_ret (v := .tuple #[.agg #[.int .i64 (k : Int), .int .i64 gn, .int .i64 (N2 : Int), .int .i64 (N3 : Int), .int .i64 (P.length : Int), .int .i64 (ir : Int), .bool mi], .int .i64 0]) ?_ rfl ⟨rfl, seven_belB HB6.out (by omega) _ _ _ _ _ _ _⟩
            simp [results, Try.results13, go_sem, y0, y1, y2, y3, y4, y5, y6]
end Go.Proofs.Ytmikhkolbkdnpaa
