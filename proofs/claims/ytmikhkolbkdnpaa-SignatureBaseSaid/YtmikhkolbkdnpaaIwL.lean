/- The contracts of permutation.checkBoth. The contract of permutation.intersection. Intersect and Within, of the program and of the reference. Plain mathematics: the projective action is an action; a group lies in itself and in that with -1. Within, of the program and of the reference. -/
import Derived.Test.YtmikhkolbkdnpaaChkL
import Derived.Test.YtmikhkolbkdnpaaLawK
import Derived.Test.YtmikhkolbkdnpaaPrM
import Derived.Test.YtmikhkolbkdnpaaHeadT
import Derived.Test.YtmikhkolbkdnpaaPPjL
import Derived.IntWalk
namespace Go.Proofs.Ytmikhkolbkdnpaa
open Go.RowKit
set_option linter.unusedVariables false
set_option linter.unusedSimpArgs false

/-- The first error of two actions. -/
noncomputable def chk2 (S T S' T' : List Int) : Int := if chkA S T = 0 then chkA S' T' else chkA S T
set_option maxHeartbeats 3200000 in
set_option maxRecDepth 1000000 in
theorem cboth_any {S T S' T' : List Int} {B cS cT cS' cT' : Nat} {AS AT AS' AT' : Option Addr} (w : World) (hS : RdZ w B AS cS S) (hT : RdZ w B AT cT T) (hS' : RdZ w B AS' cS' S') (hT' : RdZ w B AT' cT' T') (hB : B ≤ w.heap.size) :
    Calls Try.prog 39 #[.agg #[.slice AS S.length cS, .slice AT T.length cT], .agg #[.slice AS' S'.length cS', .slice AT' T'.length cT']] w fun e w' => e = .returned (.int .i64 (chk2 S T S' T')) ∧ Below w.heap.size w w' := by
  have T0 : Hid ((w.alloc (.cells #[.slice AS S.length cS, .slice AT T.length cT] 24)).heap[w.heap.size]? = some (.cells #[.slice AS S.length cS, .slice AT T.length cT] 24 (0, 0))) := heap_alloc_new w _
  have HB0 : Hid (Below w.heap.size w ((w.alloc (.cells #[.slice AS S.length cS, .slice AT T.length cT] 24)).alloc (.cells #[.slice AS' S'.length cS', .slice AT' T'.length cT'] 24))) := bel0 (below1 w _) (below1 _ _)
  have U0 : Hid (((w.alloc (.cells #[.slice AS S.length cS, .slice AT T.length cT] 24)).alloc (.cells #[.slice AS' S'.length cS', .slice AT' T'.length cT'] 24)).heap[w.heap.size + 1]? = some (.cells #[.slice AS' S'.length cS', .slice AT' T'.length cT'] 24 (0, 0))) := by
    have h1 : (w.alloc (.cells #[.slice AS S.length cS, .slice AT T.length cT] 24)).heap.size = w.heap.size + 1 := by simp
    show _ = _
    rw [← h1]
    exact heap_alloc_new _ _
  have HC : Hid (∀ W, Below w.heap.size w W → Calls Try.prog 34 #[.agg #[.slice AS S.length cS, .slice AT T.length cT]] W fun e w' => e = .returned (.int .i64 (chkA S T)) ∧ Below W.heap.size W w') := fun W hb => pcheck_any W (hS.below (hb.mono hB)) (hT.below (hb.mono hB)) (Nat.le_trans hB hb.size)
  have HD : Hid (∀ W, Below w.heap.size w W → Calls Try.prog 34 #[.agg #[.slice AS' S'.length cS', .slice AT' T'.length cT']] W fun e w' => e = .returned (.int .i64 (chkA S' T')) ∧ Below W.heap.size W w') := fun W hb => pcheck_any W (hS'.below (hb.mono hB)) (hT'.below (hb.mono hB)) (Nat.le_trans hB hb.size)
  clear hS hT hS' hT'
  unfold chk2
  by_cases h0 : chkA S T = 0
  · rw [if_pos h0]
    have hh := Lib.hid h0
    go_enter Try.func39, Try.ntmps39
    go_wp2_with (first
      | (go_at_call 34; ((with_reducible refine (HC.out _ HB0.out).mono ?_); rintro e w1 ⟨rfl, hb⟩; have HB1 := Lib.hid (bel0 HB0.out hb); have U1 := Lib.hid (block_below U0.out hb); obtain ⟨⟨t1, t2⟩, _⟩ := two_of_block U1.out; clear hb))
      | (go_at_call 34; ((with_reducible refine (HD.out _ HB1.out).mono ?_); rintro e w2 ⟨rfl, hb⟩; have HB2 := Lib.hid (bel0 HB1.out hb); clear hb))
      | fail)
    go_ret
    exact ⟨rfl, HB2.out⟩
  · rw [if_neg h0]
    go_enter Try.func39, Try.ntmps39
    go_wp2_with (first
      | (go_at_call 34; ((with_reducible refine (HC.out _ HB0.out).mono ?_); rintro e w1 ⟨rfl, hb⟩; have HB1 := Lib.hid (bel0 HB0.out hb); have U1 := Lib.hid (block_below U0.out hb); obtain ⟨⟨t1, t2⟩, _⟩ := two_of_block U1.out; clear hb))
      | fail)
    go_ret
    exact ⟨rfl, HB1.out⟩
end Go.Proofs.Ytmikhkolbkdnpaa
namespace Go.Proofs.Ytmikhkolbkdnpaa
open Go.RowKit
open Go.Maps (Keyed)
set_option linter.unusedVariables false
set_option linter.unusedSimpArgs false

/-- What intersection leaves: the action of the orbit of both first points, or nothing beyond the limit. -/
def IntEnd (G F : Nat → Nat) (N lim : Nat) (w : World) (e : Ending) (w' : World) : Prop :=
  Below w.heap.size w w' ∧ ((orbN G F N 0 ≤ lim ∧ ∃ vS vT, e = .returned (.tuple #[.agg #[vS, vT], .bool true]) ∧ w'.ownsRow w.heap.size 3 1 vS (orbN G F N 0) (is (rS G F N 0)) ∧ w'.ownsRow w.heap.size 3 1 vT (orbN G F N 0) (is (rT G F N 0))) ∨
    (lim < orbN G F N 0 ∧ e = .returned (.tuple #[.agg #[.slice none 0 0, .slice none 0 0], .bool false])))
theorem wf2_nat {a b : Nat} (ha : a ≤ 2000000) (hb : b ≤ 2000000) : wf2 (((a : Nat) : Int), ((b : Nat) : Int)) := by
  constructor <;> simp [Lit.wf, IntKind.min, IntKind.max, IntKind.signed, IntKind.bits] <;> omega
theorem PW.heldS {w wr : World} {bm ba n m cS cS' bS oS bS' oS' a b : Nat} {vT0 vT0' : Value} {K : List K2} {S T : List Nat} {vl vS vT : Value} {g g' : Nat → Nat} (h : PW w wr bm ba #[.slice (some ⟨bS, oS, none⟩) n cS, vT0] #[.slice (some ⟨bS', oS', none⟩) m cS', vT0'] K S T vl vS vT)
    (hs : RdN w w.heap.size bS oS n g) (hs' : RdN w w.heap.size bS' oS' m g') (ha : a < n) (hb : b < m) :
    (wr.cell? ⟨ba, 0, none⟩ = some vS ∧ wr.cell? ⟨w.heap.size, 0, none⟩ = some (.slice (some ⟨bS, oS, none⟩) n cS)) ∧ wr.cell? ⟨w.heap.size + 1, 0, none⟩ = some (.slice (some ⟨bS', oS', none⟩) m cS') ∧ wr.cell? ⟨bS, oS + a, none⟩ = some (.int .i64 (g a : Nat)) ∧ wr.cell? ⟨bS', oS' + b, none⟩ = some (.int .i64 (g' b : Nat)) :=
  ⟨⟨(two_of_block h.a.a).1.1, (two_of_block h.pa).1.1⟩, (two_of_block h.pb).1.1, (hs.below h.bel).2 a ha, (hs'.below h.bel).2 b hb⟩
theorem PW.heldT {w wr : World} {bm ba n m cS cS' bS oS bS' oS' a b : Nat} {vT0 vT0' : Value} {K : List K2} {S T : List Nat} {vl vS vT : Value} {g g' : Nat → Nat} (h : PW w wr bm ba #[vT0, .slice (some ⟨bS, oS, none⟩) n cS] #[vT0', .slice (some ⟨bS', oS', none⟩) m cS'] K S T vl vS vT)
    (hs : RdN w w.heap.size bS oS n g) (hs' : RdN w w.heap.size bS' oS' m g') (ha : a < n) (hb : b < m) :
    (wr.cell? ⟨ba, 1, none⟩ = some vT ∧ wr.cell? ⟨w.heap.size, 1, none⟩ = some (.slice (some ⟨bS, oS, none⟩) n cS)) ∧ wr.cell? ⟨w.heap.size + 1, 1, none⟩ = some (.slice (some ⟨bS', oS', none⟩) m cS') ∧ wr.cell? ⟨bS, oS + a, none⟩ = some (.int .i64 (g a : Nat)) ∧ wr.cell? ⟨bS', oS' + b, none⟩ = some (.int .i64 (g' b : Nat)) :=
  ⟨⟨(two_of_block h.a.a).1.2, (two_of_block h.pa).1.2⟩, (two_of_block h.pb).1.2, (hs.below h.bel).2 a ha, (hs'.below h.bel).2 b hb⟩
set_option maxHeartbeats 6400000 in
set_option maxRecDepth 1000000 in
theorem inter_any {g f g' f' : Nat → Nat} {n m lim bS oS bT oT bS' oS' bT' oT' cS cT cS' cT' : Nat} (w : World) (hg : Prm g n) (hf : Prm f n) (hg' : Prm g' m) (hf' : Prm f' m) (hn : n ≤ 1152) (hm : m ≤ 1152) (h0 : 0 < n) (h0' : 0 < m) (hl1 : 1 ≤ lim) (hl2 : lim ≤ 1152)
    (hS : RdN w w.heap.size bS oS n g) (hT : RdN w w.heap.size bT oT n f) (hS' : RdN w w.heap.size bS' oS' m g') (hT' : RdN w w.heap.size bT' oT' m f') :
    Calls Try.prog 40 #[.agg #[.slice (some ⟨bS, oS, none⟩) n cS, .slice (some ⟨bT, oT, none⟩) n cT], .agg #[.slice (some ⟨bS', oS', none⟩) m cS', .slice (some ⟨bT', oT', none⟩) m cT'], .int .i64 (lim : Nat)] w fun e w' => IntEnd (eG g g' m) (eG f f' m) (n * m) lim w e w' := by
  obtain ⟨i0, hi, z0, z1, z2⟩ := info_parts infoIP
  have HKey := Lib.hid (key_of2 (x := (0, 0)) ⟨by decide, by decide⟩)
  have hmm := @run_makeMap Try.prog
  have HOp := Lib.hid (w7_at w #[.slice (some ⟨bS, oS, none⟩) n cS, .slice (some ⟨bT, oT, none⟩) n cT] #[.slice (some ⟨bS', oS', none⟩) m cS', .slice (some ⟨bT', oT', none⟩) m cT']).2.2.2.2.2.1
  have HL := Lib.hid (And.intro hS (And.intro hT (And.intro hS' hT')))
  have HG := Lib.hid (And.intro hg (And.intro hf (And.intro hg' hf')))
  clear hS hT hS' hT' hg hf hg' hf'
  obtain ⟨P, hP⟩ : ∃ P : Array Value, P = #[.slice (some ⟨bS, oS, none⟩) n cS, .slice (some ⟨bT, oT, none⟩) n cT] := ⟨_, rfl⟩
  obtain ⟨Q, hQ⟩ : ∃ Q : Array Value, Q = #[.slice (some ⟨bS', oS', none⟩) m cS', .slice (some ⟨bT', oT', none⟩) m cT'] := ⟨_, rfl⟩
  obtain ⟨N, HN⟩ : ∃ N, Hid (N = n * m) := ⟨_, rfl⟩
  have hN0 : 0 < N := by rw [HN.out]; exact Nat.mul_pos h0 h0'
  rw [← HN.out]
  go_enter Try.func40, Try.ntmps40
  go_wp2_with (first
    | (refine wpList_insert_own _ rfl _ _ _ 93 rfl 91 3 law2 Try.underlying93 _ (w.heap.size + 1 + 1 + 1 + 1 + 1) 0 (.map []) rfl HOp.out (by decide) (kv2 (0, 0)) _ (kl2 (0, 0)) rfl rfl HKey.out (.lit (.int .i64 0)) [] (plainElem_int Try.underlying3 (by decide)) ?_; intro w2 hown2 hg2; have HO2 := Lib.hid hown2; have HG2 := Lib.hid hg2; clear hown2 hg2)
    | fail)
  have HSt := Lib.hid (pwA_start HO2.out (MD2.nil.put (x := (0, 0)) ⟨by decide, by decide⟩ rfl) HG2.out)
  clear HO2 HG2 HOp HKey hmm
  obtain ⟨X, HX⟩ : ∃ X, Hid (X = orbN (eG g g' m) (eG f f' m) N 0) := ⟨_, rfl⟩
  go_loopw [12, 13, 14] (fun I _ _ wr => ∃ (i : Nat) (vl vS vT : Value), I = .int .i64 (i : Nat) ∧ i ≤ X ∧ (bst (eG g g' m) (eG f f' m) 0 i).length ≤ lim ∧ Hid (PW w wr w2.heap.size (w2.heap.size + 1) P Q ((bst (eG g g' m) (eG f f' m) 0 i).map (dec m)) ((rS (eG g g' m) (eG f f' m) N 0).take i) ((rT (eG g g' m) (eG f f' m) N 0).take i) vl vS vT)) (fun I _ _ _ => X - (intOf I).toNat)
  case atStart =>
    have HS0 := HSt.out
    rw [← hP, ← hQ] at HS0
    refine ⟨0, .slice (some ⟨w.heap.size + 1 + 1 + 1, 0, none⟩) 1 1, .slice none 0 0, .slice none 0 0, rfl, Nat.zero_le _, by simpa [bst] using hl1, ?_⟩
    have e : ((bst (eG g g' m) (eG f f' m) 0 0).map (dec m)) = [(0, 0)] := by simp [bst, dec]
    rw [e, List.take_zero, List.take_zero]
    exact HS0
  case round =>
    obtain ⟨i, vl, vS, vT, rfl, hiX, hil, HS⟩ := hrel
    by_cases hlt : i < (bst (eG g g' m) (eG f f' m) 0 i).length
    · obtain ⟨a, b, x, y, ha, hb, hiN, hab, hK2, hx, hy, hrs, hrt⟩ := iround (n := n) HG.out.1 HG.out.2.1 HG.out.2.2.1 HG.out.2.2.2 (by rw [← HN.out]; exact hN0) hlt
      rw [← HN.out] at hiN hrs hrt
      rw [← HX.out] at hiN
      have HK2 := Lib.hid hK2
      have HRS := Lib.hid hrs
      have HRT := Lib.hid hrt
      clear hK2 hrs hrt
      have hsl : ((rS (eG g g' m) (eG f f' m) N 0).take i).length = i := by rw [List.length_take, rS_len, ← HX.out]; omega
      have htl : ((rT (eG g g' m) (eG f f' m) N 0).take i).length = i := by rw [List.length_take, rT_len, ← HX.out]; omega
      have HBn : Hid (∀ L, L = (bst (eG g g' m) (eG f f' m) 0 (i + 1)).map (dec m) → lim < L.length → lim < X) := fun L hL hlen => by
        rw [hL, List.length_map] at hlen
        rw [HX.out, HN.out]
        exact bst_over (eG_prm HG.out.1 HG.out.2.2.1) (eG_prm HG.out.2.1 HG.out.2.2.2) (by rw [← HN.out]; exact hN0) hlt hlen
      have hlK : ((bst (eG g g' m) (eG f f' m) 0 i).map (dec m)).length = (bst (eG g g' m) (eG f f' m) 0 i).length := List.length_map _
      have hKi : i < ((bst (eG g g' m) (eG f f' m) 0 i).map (dec m)).length := by omega
      have hKl : ((bst (eG g g' m) (eG f f' m) 0 i).map (dec m)).length ≤ lim := by omega
      have hil2 : i < lim := by omega
      have HGa := HG.out.1.lt a ha
      have HFa := HG.out.2.1.lt a ha
      have HGb := HG.out.2.2.1.lt b hb
      have HFb := HG.out.2.2.2.lt b hb
      have HHd0 : Hid (∀ {w' : World} {K : List K2} {S T : List Nat} {vl vS vT : Value}, PW w w' w2.heap.size (w2.heap.size + 1) P Q K S T vl vS vT → (w'.cell? ⟨w2.heap.size + 1, 0, none⟩ = some vS ∧ w'.cell? ⟨w.heap.size, 0, none⟩ = some (.slice (some ⟨bS, oS, none⟩) n cS)) ∧ w'.cell? ⟨w.heap.size + 1, 0, none⟩ = some (.slice (some ⟨bS', oS', none⟩) m cS') ∧ w'.cell? ⟨bS, oS + a, none⟩ = some (.int .i64 (g a : Nat)) ∧ w'.cell? ⟨bS', oS' + b, none⟩ = some (.int .i64 (g' b : Nat))) := fun h => by
        rw [hP, hQ] at h; exact h.heldS HL.out.1 HL.out.2.2.1 ha hb
      have HHd1 : Hid (∀ {w' : World} {K : List K2} {S T : List Nat} {vl vS vT : Value}, PW w w' w2.heap.size (w2.heap.size + 1) P Q K S T vl vS vT → (w'.cell? ⟨w2.heap.size + 1, 1, none⟩ = some vT ∧ w'.cell? ⟨w.heap.size, 1, none⟩ = some (.slice (some ⟨bT, oT, none⟩) n cT)) ∧ w'.cell? ⟨w.heap.size + 1, 1, none⟩ = some (.slice (some ⟨bT', oT', none⟩) m cT') ∧ w'.cell? ⟨bT, oT + a, none⟩ = some (.int .i64 (f a : Nat)) ∧ w'.cell? ⟨bT', oT' + b, none⟩ = some (.int .i64 (f' b : Nat))) := fun h => by
        rw [hP, hQ] at h; exact h.heldT HL.out.2.1 HL.out.2.2.2 ha hb
      have HV0 : Hid (∀ {W : World} {S T : List Nat} {vl vS vT : Value}, PW w W w2.heap.size (w2.heap.size + 1) P Q ((bst (eG g g' m) (eG f f' m) 0 i).map (dec m)) S T vl vS vT →
          Calls Try.prog 63 #[.agg #[.int .i64 (g a : Nat), .int .i64 (g' b : Nat)], .pointer (some ⟨w2.heap.size, 0, none⟩), .pointer (some ⟨w.heap.size + 1 + 1 + 1 + 1, 0, none⟩)] W fun e w' => ∃ vl', e = .returned (.int .i64 (x : Nat)) ∧
            PW w w' w2.heap.size (w2.heap.size + 1) P Q (pNext ((bst (eG g g' m) (eG f f' m) 0 i).map (dec m)) (((g a : Nat) : Int), ((g' b : Nat) : Int))) S T vl' vS vT) := fun {W S T vl vS vT} h => by
        rw [← hx]; exact pvisit_w (by omega) (wf2_nat (by omega) (by omega)) W h
      have HV1 : Hid (∀ {W : World} {S T : List Nat} {vl vS vT : Value}, PW w W w2.heap.size (w2.heap.size + 1) P Q (pNext ((bst (eG g g' m) (eG f f' m) 0 i).map (dec m)) (((g a : Nat) : Int), ((g' b : Nat) : Int))) S T vl vS vT →
          Calls Try.prog 63 #[.agg #[.int .i64 (f a : Nat), .int .i64 (f' b : Nat)], .pointer (some ⟨w2.heap.size, 0, none⟩), .pointer (some ⟨w.heap.size + 1 + 1 + 1 + 1, 0, none⟩)] W fun e w' => ∃ vl', e = .returned (.int .i64 (y : Nat)) ∧
            PW w w' w2.heap.size (w2.heap.size + 1) P Q ((bst (eG g g' m) (eG f f' m) 0 (i + 1)).map (dec m)) S T vl' vS vT) := fun {W S T vl vS vT} h => by
        rw [← hy, ← HK2.out]; exact pvisit_w (by have := pNext_le ((bst (eG g g' m) (eG f f' m) 0 i).map (dec m)) (((g a : Nat) : Int), ((g' b : Nat) : Int)); omega) (wf2_nat (by omega) (by omega)) W h
      have hK2l : ((bst (eG g g' m) (eG f f' m) 0 (i + 1)).map (dec m)).length ≤ lim + 2 := by
        rw [← HK2.out]
        have e1 := pNext_le ((bst (eG g g' m) (eG f f' m) 0 i).map (dec m)) (((g a : Nat) : Int), ((g' b : Nat) : Int))
        have e2 := pNext_le (pNext ((bst (eG g g' m) (eG f f' m) 0 i).map (dec m)) (((g a : Nat) : Int), ((g' b : Nat) : Int))) (((f a : Nat) : Int), ((f' b : Nat) : Int))
        omega
      have HLe : Hid (((bst (eG g g' m) (eG f f' m) 0 (i + 1)).map (dec m)).length ≤ lim → (bst (eG g g' m) (eG f f' m) 0 (i + 1)).length ≤ lim) := fun h => by rwa [List.length_map] at h
      clear hx hy HK2 hlK hlt hil
      generalize hK0 : (bst (eG g g' m) (eG f f' m) 0 i).map (dec m) = K0 at *
      obtain ⟨K2, HK2⟩ : ∃ K2, Hid (K2 = (bst (eG g g' m) (eG f f' m) 0 (i + 1)).map (dec m)) := ⟨_, rfl⟩
      rw [← HK2.out] at hK2l HV1 HLe
      have HBn' := HBn.out _ HK2.out
      have HBx := Lib.hid HBn'
      clear HBn HBn' hK0
      generalize pNext K0 (((g a : Nat) : Int), ((g' b : Nat) : Int)) = K1 at *
      generalize hS0 : (rS (eG g g' m) (eG f f' m) N 0).take i = S0 at *
      generalize hT0 : (rT (eG g g' m) (eG f f' m) N 0).take i = T0 at *
      clear hS0 hT0
      generalize g a = ga at *
      generalize g' b = gb at *
      generalize f a = fa at *
      generalize f' b = fb at *
      subst hsl
      have hTl := Lib.hid htl
      have hTl2 : T0.length ≤ 1152 := by omega
      have hSl2 : S0.length ≤ 1152 := by omega
      clear htl
      obtain ⟨gr, cap, rfl, hgr, r1, r2⟩ := prow_at HS.out.v.row hKi
      rw [hab] at r1 r2
      simp only at r1 r2
      have lc := cell_of_one HS.out.v.l
      have hzl := lt_of_block HS.out.v.l
      have hzi : (S0.length : Int) < (K0.length : Int) := by omega
      have han : (a : Int) < (n : Int) := by omega
      have hbm : (b : Int) < (m : Int) := by omega
      have M_a := Lib.hid HS.out.drew
      go_upto_region 8 with fail
      go_region
      go_upto_region 9 with fail
      go_cut [13, 14] (fun s13 s14 wx => s13 = .int .i64 (a : Nat) ∧ s14 = .int .i64 (b : Nat) ∧ ∃ vl' vS', Hid (PW w wx w2.heap.size (w2.heap.size + 1) P Q K1 (S0 ++ [x]) T0 vl' vS' vT))
      case first =>
        have M_0 := Lib.hid M_a.out.drew
        have hzb := lt_of_block HS.out.a.a
        refine region_E 16 (fun w' => (w'.cell? ⟨w2.heap.size + 1, 0, none⟩ = some vS ∧ w'.cell? ⟨w.heap.size, 0, none⟩ = some (.slice (some ⟨bS, oS, none⟩) n cS)) ∧ w'.cell? ⟨w.heap.size + 1, 0, none⟩ = some (.slice (some ⟨bS', oS', none⟩) m cS') ∧ w'.cell? ⟨bS, oS + a, none⟩ = some (.int .i64 (ga : Nat)) ∧ w'.cell? ⟨bS', oS' + b, none⟩ = some (.int .i64 (gb : Nat))) (by kernel_rfl) ?_
        have hHeld := HHd0.out M_0.out
        refine take_E (n := 16) (i := 0) (v := ?va_0) rfl (by kernel_rfl) (fun _ _ _ h => h) ?hya_0 (by rfl) hHeld ?resta_0
        case hya_0 => (intro w9 hSw; (try dsimp only at hSw); go_simp <;> with_reducible rfl)
        (try simp only [List.getElem_toArray, List.getElem_cons_zero, List.getElem_cons_succ, Act.put, List.setIfInBounds_toArray, List.set_cons_zero, List.set_cons_succ])
        refine take_E (n := 16) (i := 1) (v := ?va_1) rfl (by kernel_rfl) (fun _ _ _ h => h) ?hya_1 (by rfl) hHeld ?resta_1
        case hya_1 => (intro w9 hSw; (try dsimp only at hSw); go_simp <;> with_reducible rfl)
        (try simp only [List.getElem_toArray, List.getElem_cons_zero, List.getElem_cons_succ, Act.put, List.setIfInBounds_toArray, List.set_cons_zero, List.set_cons_succ])
        refine take_E (n := 16) (i := 2) (v := ?va_2) rfl (by kernel_rfl) (fun _ _ _ h => h) ?hya_2 (by rfl) hHeld ?resta_2
        case hya_2 => (intro w9 hSw; (try dsimp only at hSw); go_simp <;> with_reducible rfl)
        (try simp only [List.getElem_toArray, List.getElem_cons_zero, List.getElem_cons_succ, Act.put, List.setIfInBounds_toArray, List.set_cons_zero, List.set_cons_succ])
        refine take_E (n := 16) (i := 3) (v := ?va_3) rfl (by kernel_rfl) (fun _ _ _ h => h) ?hya_3 (by rfl) hHeld ?resta_3
        case hya_3 => (intro w9 hSw; (try dsimp only at hSw); go_simp <;> with_reducible rfl)
        (try simp only [List.getElem_toArray, List.getElem_cons_zero, List.getElem_cons_succ, Act.put, List.setIfInBounds_toArray, List.set_cons_zero, List.set_cons_succ])
        refine take_E (n := 16) (i := 4) (v := ?va_4) rfl (by kernel_rfl) (fun _ _ _ h => h) ?hya_4 (by rfl) hHeld ?resta_4
        case hya_4 => (intro w9 hSw; (try dsimp only at hSw); go_simp <;> with_reducible rfl)
        (try simp only [List.getElem_toArray, List.getElem_cons_zero, List.getElem_cons_succ, Act.put, List.setIfInBounds_toArray, List.set_cons_zero, List.set_cons_succ])
        refine take_E (n := 16) (i := 5) (v := ?va_5) rfl (by kernel_rfl) (fun _ _ _ h => h) ?hya_5 (by rfl) hHeld ?resta_5
        case hya_5 => (intro w9 hSw; (try dsimp only at hSw); go_simp <;> with_reducible rfl)
        (try simp only [List.getElem_toArray, List.getElem_cons_zero, List.getElem_cons_succ, Act.put, List.setIfInBounds_toArray, List.set_cons_zero, List.set_cons_succ])
        refine take_E (n := 16) (i := 6) (v := ?va_6) rfl (by kernel_rfl) (fun _ _ _ h => h) ?hya_6 (by rfl) hHeld ?resta_6
        case hya_6 => (intro w9 hSw; (try dsimp only at hSw); go_simp <;> with_reducible rfl)
        (try simp only [List.getElem_toArray, List.getElem_cons_zero, List.getElem_cons_succ, Act.put, List.setIfInBounds_toArray, List.set_cons_zero, List.set_cons_succ])
        refine take_E (n := 16) (i := 7) (v := ?va_7) rfl (by kernel_rfl) (fun _ _ _ h => h) ?hya_7 (by rfl) hHeld ?resta_7
        case hya_7 => (intro w9 hSw; (try dsimp only at hSw); go_simp <;> with_reducible rfl)
        (try simp only [List.getElem_toArray, List.getElem_cons_zero, List.getElem_cons_succ, Act.put, List.setIfInBounds_toArray, List.set_cons_zero, List.set_cons_succ])
        refine take_E (n := 16) (i := 8) (v := ?va_8) rfl (by kernel_rfl) (fun _ _ _ h => h) ?hya_8 (by rfl) hHeld ?resta_8
        case hya_8 => (intro w9 hSw; (try dsimp only at hSw); go_simp <;> with_reducible rfl)
        (try simp only [List.getElem_toArray, List.getElem_cons_zero, List.getElem_cons_succ, Act.put, List.setIfInBounds_toArray, List.set_cons_zero, List.set_cons_succ])
        refine take_E (n := 16) (i := 9) (v := ?va_9) rfl (by kernel_rfl) (fun _ _ _ h => h) ?hya_9 (by rfl) hHeld ?resta_9
        case hya_9 => (intro w9 hSw; (try dsimp only at hSw); go_simp <;> with_reducible rfl)
        (try simp only [List.getElem_toArray, List.getElem_cons_zero, List.getElem_cons_succ, Act.put, List.setIfInBounds_toArray, List.set_cons_zero, List.set_cons_succ])
        refine take_E (n := 16) (i := 10) (v := ?va_10) rfl (by kernel_rfl) (fun _ _ _ h => h) ?hya_10 (by rfl) hHeld ?resta_10
        case hya_10 => (intro w9 hSw; (try dsimp only at hSw); go_simp <;> with_reducible rfl)
        (try simp only [List.getElem_toArray, List.getElem_cons_zero, List.getElem_cons_succ, Act.put, List.setIfInBounds_toArray, List.set_cons_zero, List.set_cons_succ])
        refine take_E (n := 16) (i := 11) (v := ?va_11) rfl (by kernel_rfl) (fun _ _ _ h => h) ?hya_11 (by rfl) hHeld ?resta_11
        case hya_11 => (intro w9 hSw; (try dsimp only at hSw); go_simp <;> with_reducible rfl)
        (try simp only [List.getElem_toArray, List.getElem_cons_zero, List.getElem_cons_succ, Act.put, List.setIfInBounds_toArray, List.set_cons_zero, List.set_cons_succ])
        refine take_E (n := 16) (i := 12) (v := ?va_12) rfl (by kernel_rfl) (fun _ _ _ h => h) ?hya_12 (by rfl) hHeld ?resta_12
        case hya_12 => (intro w9 hSw; (try dsimp only at hSw); go_simp <;> with_reducible rfl)
        (try simp only [List.getElem_toArray, List.getElem_cons_zero, List.getElem_cons_succ, Act.put, List.setIfInBounds_toArray, List.set_cons_zero, List.set_cons_succ])
        refine take_E (n := 16) (i := 13) (v := ?va_13) rfl (by kernel_rfl) (fun _ _ _ h => h) ?hya_13 (by rfl) hHeld ?resta_13
        case hya_13 => (intro w9 hSw; (try dsimp only at hSw); go_simp <;> with_reducible rfl)
        (try simp only [List.getElem_toArray, List.getElem_cons_zero, List.getElem_cons_succ, Act.put, List.setIfInBounds_toArray, List.set_cons_zero, List.set_cons_succ])
        refine one_E (n := 16) (i := 14) (by kernel_rfl) rfl (fun K hK => ?_)
        go_simp
        go_at_call 63
        refine (HV0.out M_0.out).mono ?_
        rintro e p1 ⟨vl1, rfl, hM⟩
        have M_1 := Lib.hid hM
        have q1 := (two_of_block M_1.out.a.a).1.1
        have hz1 := lt_of_block M_1.out.a.a
        clear hM
        refine hK.out _ _ (fun _ => HHd0.out M_1.out) (fun hHeld14 => ?_)
        clear hK K
        (try simp only [List.getElem_toArray, List.getElem_cons_zero, List.getElem_cons_succ, Act.put, List.setIfInBounds_toArray, List.set_cons_zero, List.set_cons_succ])
        refine one_E (n := 16) (i := 15) (by kernel_rfl) rfl (fun K hK => ?_)
        go_simp
        refine hK.out _ _ (fun _ => HHd0.out (M_1.out.alloc _)) (fun hHeld15 => ?_)
        clear hK K
        (try simp only [List.getElem_toArray, List.getElem_cons_zero, List.getElem_cons_succ, Act.put, List.setIfInBounds_toArray, List.set_cons_zero, List.set_cons_succ])
        refine one_E (n := 16) (i := 16) (by kernel_rfl) rfl (fun K hK => ?_)
        refine step_append_lies _ (by rfl) _ _ _ (by rfl) w.heap.size 3 i0 _ 1 8 Try.underlying22 hi z0 z1 z2 rfl (by omega) vS S0.length (is S0) (by rfl) (M_1.out.alloc _).a.rS ⟨p1.heap.size, 0, none⟩ 1 1 [.int .i64 (x : Nat)] (by rfl) (by rfl) (World.news_of_block (cs := #[.int .i64 (x : Nat)]) (t := 3) (fr := (0, 0)) (heap_alloc_new p1 _)) (by simp [Value.oneCell']) (by omega) (by unfold maxLen; omega) (by omega) (M_1.out.alloc _).v.bs (p1.heap.size + 1) (by simp) ?_
        intro gg cap' p2 hown2 hgrow hat hlt3
        have HA2 := Lib.hid ((M_1.out.alloc _).app (.inl rfl) hgrow)
        have HE2 := Lib.hid (PW.pushS (M_1.out.alloc _) hown2 hgrow (by simpa using hat))
        have fz := (two_of_block HA2.out).2
        have qz := (two_of_block HA2.out).1
        clear hown2 hgrow hat
        refine hK.out _ _ (fun h => absurd h (by decide)) (fun hHeld16 => ?_)
        clear hK K
        (try simp only [List.getElem_toArray, List.getElem_cons_zero, List.getElem_cons_succ, Act.put, List.setIfInBounds_toArray, List.set_cons_zero, List.set_cons_succ])
        refine one_E (n := 16) (i := 17) (by kernel_rfl) rfl (fun K hK => ?_)
        go_simp
        refine hK.out _ _ (fun h => absurd h (by decide)) (fun hHeld17 => ?_)
        clear hK K
        (try simp only [List.getElem_toArray, List.getElem_cons_zero, List.getElem_cons_succ, Act.put, List.setIfInBounds_toArray, List.set_cons_zero, List.set_cons_succ])
        refine one_E (n := 16) (i := 18) (by kernel_rfl) rfl (fun K hK => ?_)
        go_simp
        refine hK.out _ _ (fun h => absurd h (by decide)) (fun hHeld18 => ?_)
        clear hK K
        (try simp only [List.getElem_toArray, List.getElem_cons_zero, List.getElem_cons_succ, Act.put, List.setIfInBounds_toArray, List.set_cons_zero, List.set_cons_succ])
        refine done_E (by kernel_rfl) ?_ _
        go_wp2_with fail
        go_meet
        exact ⟨rfl, rfl, _, _, HE2⟩
      case rest =>
        obtain ⟨rfl, rfl, vl', vS', HM1⟩ := hcut
        clear M_a HHd0 HV0
        go_upto_region 10 with fail
        go_cut [13] (fun s13 wx => s13 = .int .i64 (a : Nat) ∧ ∃ vl' vS' vT', Hid (PW w wx w2.heap.size (w2.heap.size + 1) P Q K2 (S0 ++ [x]) (T0 ++ [y]) vl' vS' vT'))
        case first =>
          have M_0 := Lib.hid HM1.out.drew
          have hzb := lt_of_block HM1.out.a.a
          refine region_E 16 (fun w' => (w'.cell? ⟨w2.heap.size + 1, 1, none⟩ = some vT ∧ w'.cell? ⟨w.heap.size, 1, none⟩ = some (.slice (some ⟨bT, oT, none⟩) n cT)) ∧ w'.cell? ⟨w.heap.size + 1, 1, none⟩ = some (.slice (some ⟨bT', oT', none⟩) m cT') ∧ w'.cell? ⟨bT, oT + a, none⟩ = some (.int .i64 (fa : Nat)) ∧ w'.cell? ⟨bT', oT' + b, none⟩ = some (.int .i64 (fb : Nat))) (by kernel_rfl) ?_
          have hHeld := HHd1.out M_0.out
          refine take_E (n := 16) (i := 0) (v := ?vb_0) rfl (by kernel_rfl) (fun _ _ _ h => h) ?hyb_0 (by rfl) hHeld ?restb_0
          case hyb_0 => (intro w9 hSw; (try dsimp only at hSw); go_simp <;> with_reducible rfl)
          (try simp only [List.getElem_toArray, List.getElem_cons_zero, List.getElem_cons_succ, Act.put, List.setIfInBounds_toArray, List.set_cons_zero, List.set_cons_succ])
          refine take_E (n := 16) (i := 1) (v := ?vb_1) rfl (by kernel_rfl) (fun _ _ _ h => h) ?hyb_1 (by rfl) hHeld ?restb_1
          case hyb_1 => (intro w9 hSw; (try dsimp only at hSw); go_simp <;> with_reducible rfl)
          (try simp only [List.getElem_toArray, List.getElem_cons_zero, List.getElem_cons_succ, Act.put, List.setIfInBounds_toArray, List.set_cons_zero, List.set_cons_succ])
          refine take_E (n := 16) (i := 2) (v := ?vb_2) rfl (by kernel_rfl) (fun _ _ _ h => h) ?hyb_2 (by rfl) hHeld ?restb_2
          case hyb_2 => (intro w9 hSw; (try dsimp only at hSw); go_simp <;> with_reducible rfl)
          (try simp only [List.getElem_toArray, List.getElem_cons_zero, List.getElem_cons_succ, Act.put, List.setIfInBounds_toArray, List.set_cons_zero, List.set_cons_succ])
          refine take_E (n := 16) (i := 3) (v := ?vb_3) rfl (by kernel_rfl) (fun _ _ _ h => h) ?hyb_3 (by rfl) hHeld ?restb_3
          case hyb_3 => (intro w9 hSw; (try dsimp only at hSw); go_simp <;> with_reducible rfl)
          (try simp only [List.getElem_toArray, List.getElem_cons_zero, List.getElem_cons_succ, Act.put, List.setIfInBounds_toArray, List.set_cons_zero, List.set_cons_succ])
          refine take_E (n := 16) (i := 4) (v := ?vb_4) rfl (by kernel_rfl) (fun _ _ _ h => h) ?hyb_4 (by rfl) hHeld ?restb_4
          case hyb_4 => (intro w9 hSw; (try dsimp only at hSw); go_simp <;> with_reducible rfl)
          (try simp only [List.getElem_toArray, List.getElem_cons_zero, List.getElem_cons_succ, Act.put, List.setIfInBounds_toArray, List.set_cons_zero, List.set_cons_succ])
          refine take_E (n := 16) (i := 5) (v := ?vb_5) rfl (by kernel_rfl) (fun _ _ _ h => h) ?hyb_5 (by rfl) hHeld ?restb_5
          case hyb_5 => (intro w9 hSw; (try dsimp only at hSw); go_simp <;> with_reducible rfl)
          (try simp only [List.getElem_toArray, List.getElem_cons_zero, List.getElem_cons_succ, Act.put, List.setIfInBounds_toArray, List.set_cons_zero, List.set_cons_succ])
          refine take_E (n := 16) (i := 6) (v := ?vb_6) rfl (by kernel_rfl) (fun _ _ _ h => h) ?hyb_6 (by rfl) hHeld ?restb_6
          case hyb_6 => (intro w9 hSw; (try dsimp only at hSw); go_simp <;> with_reducible rfl)
          (try simp only [List.getElem_toArray, List.getElem_cons_zero, List.getElem_cons_succ, Act.put, List.setIfInBounds_toArray, List.set_cons_zero, List.set_cons_succ])
          refine take_E (n := 16) (i := 7) (v := ?vb_7) rfl (by kernel_rfl) (fun _ _ _ h => h) ?hyb_7 (by rfl) hHeld ?restb_7
          case hyb_7 => (intro w9 hSw; (try dsimp only at hSw); go_simp <;> with_reducible rfl)
          (try simp only [List.getElem_toArray, List.getElem_cons_zero, List.getElem_cons_succ, Act.put, List.setIfInBounds_toArray, List.set_cons_zero, List.set_cons_succ])
          refine take_E (n := 16) (i := 8) (v := ?vb_8) rfl (by kernel_rfl) (fun _ _ _ h => h) ?hyb_8 (by rfl) hHeld ?restb_8
          case hyb_8 => (intro w9 hSw; (try dsimp only at hSw); go_simp <;> with_reducible rfl)
          (try simp only [List.getElem_toArray, List.getElem_cons_zero, List.getElem_cons_succ, Act.put, List.setIfInBounds_toArray, List.set_cons_zero, List.set_cons_succ])
          refine take_E (n := 16) (i := 9) (v := ?vb_9) rfl (by kernel_rfl) (fun _ _ _ h => h) ?hyb_9 (by rfl) hHeld ?restb_9
          case hyb_9 => (intro w9 hSw; (try dsimp only at hSw); go_simp <;> with_reducible rfl)
          (try simp only [List.getElem_toArray, List.getElem_cons_zero, List.getElem_cons_succ, Act.put, List.setIfInBounds_toArray, List.set_cons_zero, List.set_cons_succ])
          refine take_E (n := 16) (i := 10) (v := ?vb_10) rfl (by kernel_rfl) (fun _ _ _ h => h) ?hyb_10 (by rfl) hHeld ?restb_10
          case hyb_10 => (intro w9 hSw; (try dsimp only at hSw); go_simp <;> with_reducible rfl)
          (try simp only [List.getElem_toArray, List.getElem_cons_zero, List.getElem_cons_succ, Act.put, List.setIfInBounds_toArray, List.set_cons_zero, List.set_cons_succ])
          refine take_E (n := 16) (i := 11) (v := ?vb_11) rfl (by kernel_rfl) (fun _ _ _ h => h) ?hyb_11 (by rfl) hHeld ?restb_11
          case hyb_11 => (intro w9 hSw; (try dsimp only at hSw); go_simp <;> with_reducible rfl)
          (try simp only [List.getElem_toArray, List.getElem_cons_zero, List.getElem_cons_succ, Act.put, List.setIfInBounds_toArray, List.set_cons_zero, List.set_cons_succ])
          refine take_E (n := 16) (i := 12) (v := ?vb_12) rfl (by kernel_rfl) (fun _ _ _ h => h) ?hyb_12 (by rfl) hHeld ?restb_12
          case hyb_12 => (intro w9 hSw; (try dsimp only at hSw); go_simp <;> with_reducible rfl)
          (try simp only [List.getElem_toArray, List.getElem_cons_zero, List.getElem_cons_succ, Act.put, List.setIfInBounds_toArray, List.set_cons_zero, List.set_cons_succ])
          refine take_E (n := 16) (i := 13) (v := ?vb_13) rfl (by kernel_rfl) (fun _ _ _ h => h) ?hyb_13 (by rfl) hHeld ?restb_13
          case hyb_13 => (intro w9 hSw; (try dsimp only at hSw); go_simp <;> with_reducible rfl)
          (try simp only [List.getElem_toArray, List.getElem_cons_zero, List.getElem_cons_succ, Act.put, List.setIfInBounds_toArray, List.set_cons_zero, List.set_cons_succ])
          refine one_E (n := 16) (i := 14) (by kernel_rfl) rfl (fun K hK => ?_)
          go_simp
          go_at_call 63
          refine (HV1.out M_0.out).mono ?_
          rintro e p1 ⟨vl1, rfl, hM⟩
          have M_1 := Lib.hid hM
          have q1 := (two_of_block M_1.out.a.a).1.2
          have hz1 := lt_of_block M_1.out.a.a
          clear hM
          refine hK.out _ _ (fun _ => HHd1.out M_1.out) (fun hHeld14 => ?_)
          clear hK K
          (try simp only [List.getElem_toArray, List.getElem_cons_zero, List.getElem_cons_succ, Act.put, List.setIfInBounds_toArray, List.set_cons_zero, List.set_cons_succ])
          refine one_E (n := 16) (i := 15) (by kernel_rfl) rfl (fun K hK => ?_)
          go_simp
          refine hK.out _ _ (fun _ => HHd1.out (M_1.out.alloc _)) (fun hHeld15 => ?_)
          clear hK K
          (try simp only [List.getElem_toArray, List.getElem_cons_zero, List.getElem_cons_succ, Act.put, List.setIfInBounds_toArray, List.set_cons_zero, List.set_cons_succ])
          refine one_E (n := 16) (i := 16) (by kernel_rfl) rfl (fun K hK => ?_)
          refine step_append_lies _ (by rfl) _ _ _ (by rfl) w.heap.size 3 i0 _ 1 8 Try.underlying22 hi z0 z1 z2 rfl (by omega) vT T0.length (is T0) (by rfl) (M_1.out.alloc _).a.rT ⟨p1.heap.size, 0, none⟩ 1 1 [.int .i64 (y : Nat)] (by rfl) (by rfl) (World.news_of_block (cs := #[.int .i64 (y : Nat)]) (t := 3) (fr := (0, 0)) (heap_alloc_new p1 _)) (by simp [Value.oneCell']) (by omega) (by unfold maxLen; omega) (by omega) (M_1.out.alloc _).v.bs (p1.heap.size + 1) (by simp) ?_
          intro gg cap' p2 hown2 hgrow hat hlt3
          have HA2 := Lib.hid ((M_1.out.alloc _).app (.inr rfl) hgrow)
          have HE2 := Lib.hid (PW.pushT (M_1.out.alloc _) hown2 hgrow (by simpa using hat))
          have fz := (two_of_block HA2.out).2
          have qz := (two_of_block HA2.out).1
          clear hown2 hgrow hat
          refine hK.out _ _ (fun h => absurd h (by decide)) (fun hHeld16 => ?_)
          clear hK K
          (try simp only [List.getElem_toArray, List.getElem_cons_zero, List.getElem_cons_succ, Act.put, List.setIfInBounds_toArray, List.set_cons_zero, List.set_cons_succ])
          refine one_E (n := 16) (i := 17) (by kernel_rfl) rfl (fun K hK => ?_)
          go_simp
          refine hK.out _ _ (fun h => absurd h (by decide)) (fun hHeld17 => ?_)
          clear hK K
          (try simp only [List.getElem_toArray, List.getElem_cons_zero, List.getElem_cons_succ, Act.put, List.setIfInBounds_toArray, List.set_cons_zero, List.set_cons_succ])
          refine one_E (n := 16) (i := 18) (by kernel_rfl) rfl (fun K hK => ?_)
          go_simp
          refine hK.out _ _ (fun h => absurd h (by decide)) (fun hHeld18 => ?_)
          clear hK K
          (try simp only [List.getElem_toArray, List.getElem_cons_zero, List.getElem_cons_succ, Act.put, List.setIfInBounds_toArray, List.set_cons_zero, List.set_cons_succ])
          refine done_E (by kernel_rfl) ?_ _
          go_wp2_with fail
          go_meet
          exact ⟨rfl, _, _, _, HE2⟩
        case rest =>
          obtain ⟨rfl, vl2, vS2, vT2, HM2⟩ := hcut
          have hro := HM2.out.v.row
          obtain ⟨A2, c2, rfl⟩ := own_len hro
          have HRo := Lib.hid hro
          clear hro
          have lc2 := cell_of_one HM2.out.v.l
          have hzl2 := lt_of_block HM2.out.v.l
          by_cases hov : lim < K2.length
          · have hov' : (lim : Int) < (K2.length : Int) := by omega
            obtain ⟨⟨b1, b2⟩, fb⟩ := two_of_block HM2.out.res
            have hzr := lt_of_block HM2.out.res
            go_wp2
            have z0' : ((wc.setCell ⟨w.heap.size + 1 + 1, 0, none⟩ (.slice none 0 0)).setCell ⟨w.heap.size + 1 + 1, 1, none⟩ (.slice none 0 0)).heap[w.heap.size + 1 + 1]? = some (.cells #[.slice none 0 0, .slice none 0 0] 24 (0, 0)) :=
              heap_setCell_same _ (w.heap.size + 1 + 1) 1 #[.slice none 0 0, .slice none 0 0] _ _ (heap_setCell_same _ (w.heap.size + 1 + 1) 0 #[.slice none 0 0, .slice none 0 0] _ _ HM2.out.res)
            obtain ⟨⟨d1, d2⟩, _⟩ := two_of_block z0'
            refine bodyPost_ret (v := .tuple #[.agg #[.slice none 0 0, .slice none 0 0], .bool false]) ?_ rfl ⟨below_set2 HM2.out.bel (by omega) _ _, .inr ⟨by rw [← HX.out]; exact HBx.out hov, rfl⟩⟩
            simp [results, Try.results40, go_sem, d1, d2]
          · have hov' : ¬ (lim : Int) < (K2.length : Int) := by omega
            go_wp2
            go_roundw
            case rel => exact ⟨S0.length + 1, _, _, _, by go_num, hiN, HLe.out (by omega), by rw [HRS.out, HRT.out, ← HK2.out]; exact HM2⟩
            case measure => simp [intOf]; omega
    · have hd := bst_done (eG_prm HG.out.1 HG.out.2.2.1) (eG_prm HG.out.2.1 HG.out.2.2.2) (show 0 < n * m by rw [← HN.out]; exact hN0) (k := i) (by omega)
      rw [← HN.out] at hd
      have hXl : X = (bst (eG g g' m) (eG f f' m) 0 i).length := by rw [HX.out]; unfold orbN; rw [hd]
      obtain rfl : i = X := by omega
      have HXl := Lib.hid (show i ≤ lim by omega)
      have hrow := HS.out.v.row
      have hkl : ((bst (eG g g' m) (eG f f' m) 0 i).map (dec m)).length = i := by rw [List.length_map]; omega
      rw [hkl] at hrow
      have hrS := HS.out.a.rS
      have hrT := HS.out.a.rT
      have hS1 : (rS (eG g g' m) (eG f f' m) N 0).take i = rS (eG g g' m) (eG f f' m) N 0 := List.take_of_length_le (by rw [rS_len, ← HX.out]; exact Nat.le_refl _)
      have hT1 : (rT (eG g g' m) (eG f f' m) N 0).take i = rT (eG g g' m) (eG f f' m) N 0 := List.take_of_length_le (by rw [rT_len, ← HX.out]; exact Nat.le_refl _)
      rw [hS1, rS_len, ← HX.out] at hrS
      rw [hT1, rT_len, ← HX.out] at hrT
      obtain ⟨A, c', rfl⟩ := own_len hrow
      obtain ⟨AS, cS1, rfl⟩ := own_len hrS
      obtain ⟨AT, cT1, rfl⟩ := own_len hrT
      have HRS := Lib.hid hrS
      have HRT := Lib.hid hrT
      have lc := cell_of_one HS.out.v.l
      have hzl := lt_of_block HS.out.v.l
      obtain ⟨⟨a1, a2⟩, _⟩ := two_of_block HS.out.a.a
      have hzb := lt_of_block HS.out.a.a
      obtain ⟨⟨b1, b2⟩, fb⟩ := two_of_block HS.out.res
      have hzr := lt_of_block HS.out.res
      have hk3 : ¬ (i : Int) < (i : Int) := by omega
      clear hrow hrS hrT hS1 hT1 hXl hd hkl hlt hil hiX
      go_wp2
      have z0' : ((wr.setCell ⟨w.heap.size + 1 + 1, 0, none⟩ (.slice AS i cS1)).setCell ⟨w.heap.size + 1 + 1, 1, none⟩ (.slice AT i cT1)).heap[w.heap.size + 1 + 1]? = some (.cells #[.slice AS i cS1, .slice AT i cT1] 24 (0, 0)) :=
        heap_setCell_same _ (w.heap.size + 1 + 1) 1 #[.slice AS i cS1, .slice none 0 0] _ _ (heap_setCell_same _ (w.heap.size + 1 + 1) 0 #[.slice none 0 0, .slice none 0 0] _ _ HS.out.res)
      obtain ⟨⟨d1, d2⟩, _⟩ := two_of_block z0'
      have keep : ∀ {base n size : Nat} {e : TypeId} {v : Value} {xs : List Value}, wr.ownsRow base e size v n xs → e ≠ 24 → ((wr.setCell ⟨w.heap.size + 1 + 1, 0, none⟩ (.slice AS i cS1)).setCell ⟨w.heap.size + 1 + 1, 1, none⟩ (.slice AT i cT1)).ownsRow base e size v n xs := fun h he => row_keep h fun g hg => by
        obtain ⟨_, cur, hc⟩ := row_lt h hg
        have hne : g ≠ w.heap.size + 1 + 1 := ty_ne hc HS.out.res he
        exact set_ne (set_ne rfl hne _) hne _
      refine bodyPost_ret (v := .tuple #[.agg #[.slice AS i cS1, .slice AT i cT1], .bool true]) ?_ rfl ⟨below_set2 HS.out.bel (by omega) _ _, .inl ⟨by rw [← HX.out]; exact HXl.out, .slice AS i cS1, .slice AT i cT1, rfl, by rw [← HX.out]; exact keep HRS.out (by decide), by rw [← HX.out]; exact keep HRT.out (by decide)⟩⟩
      simp [results, Try.results40, go_sem, d1, d2]
end Go.Proofs.Ytmikhkolbkdnpaa
namespace Go.Proofs.Ytmikhkolbkdnpaa
open Go.RowKit
set_option linter.unusedVariables false
set_option linter.unusedSimpArgs false

/-- Two boxes of coset actions and a third one. -/
structure B3 (w W : World) (P Q R : Array Value) : Prop where
  p : W.heap[w.heap.size]? = some (.cells P 24 (0, 0))
  q : W.heap[w.heap.size + 1]? = some (.cells Q 24 (0, 0))
  r : W.heap[w.heap.size + 1 + 1]? = some (.cells R 24 (0, 0))
  bel : Below w.heap.size w W
structure B2 (w W : World) (P Q : Array Value) : Prop where
  p : W.heap[w.heap.size]? = some (.cells P 24 (0, 0))
  q : W.heap[w.heap.size + 1]? = some (.cells Q 24 (0, 0))
  bel : Below w.heap.size w W
theorem at_size (W : World) (o : Obj) {g : Nat} (hg : g = W.heap.size) : (W.alloc o).heap[g]? = some o := by rw [hg]; exact heap_alloc_new W o
theorem B3.start (w : World) (P Q R : Array Value) : B3 w (((w.alloc (.cells P 24)).alloc (.cells Q 24)).alloc (.cells R 24)) P Q R :=
  ⟨block_alloc (block_alloc (at_size _ _ rfl) _) _, block_alloc (at_size _ _ (by simp)) _, at_size _ _ (by simp), below3 w _ _ _⟩
theorem B2.start (w : World) (P Q : Array Value) : B2 w ((w.alloc (.cells P 24)).alloc (.cells Q 24)) P Q :=
  ⟨block_alloc (at_size _ _ rfl) _, at_size _ _ (by simp), below2 w _ _⟩
theorem B3.below {w W W' : World} {P Q R : Array Value} (h : B3 w W P Q R) (hb : Below W.heap.size W W') : B3 w W' P Q R := ⟨block_below h.p hb, block_below h.q hb, block_below h.r hb, bel0 h.bel hb⟩
theorem B2.below {w W W' : World} {P Q : Array Value} (h : B2 w W P Q) (hb : Below W.heap.size W W') : B2 w W' P Q := ⟨block_below h.p hb, block_below h.q hb, bel0 h.bel hb⟩
theorem is_zs (L : List Nat) : is L = zs (iz L) := by simp [is, zs, iz]
/-- The list of nothing. -/
theorem rdz_nil (w : World) (B : Nat) : RdZ w B none 0 [] := ⟨by simp, by unfold maxLen; omega, fun h0 => by simp at h0, fun _ h0 => by cases h0⟩
/-- The error of an intersection and its two lists. -/
noncomputable def xk (S T S' T' : List Int) : Int := if chk2 S T S' T' = 0 then (if xN S T S' T' ≤ 1152 then 0 else 7) else chk2 S T S' T'
noncomputable def xl (S T S' T' : List Int) : List Int := if xk S T S' T' = 0 then xS S T S' T' else []
noncomputable def xr (S T S' T' : List Int) : List Int := if xk S T S' T' = 0 then xT S T S' T' else []
theorem chk2_ok {S T S' T' : List Int} (h : chk2 S T S' T' = 0) : Act2 S T ∧ Act2 S' T' := by
  unfold chk2 at h
  by_cases h0 : chkA S T = 0
  · rw [if_pos h0] at h
    exact ⟨chkA_zero h0, chkA_zero h⟩
  · rw [if_neg h0] at h
    exact absurd h h0
/-- What Intersect leaves. -/
def IntOut (k : Int) (L L' : List Int) (w : World) (e : Ending) (w' : World) : Prop :=
  ∃ A c A' c', e = .returned (.tuple #[.agg #[.slice A L.length c, .slice A' L'.length c'], .int .i64 k]) ∧ RdZ w' w'.heap.size A c L ∧ RdZ w' w'.heap.size A' c' L' ∧ Below w.heap.size w w'
end Go.Proofs.Ytmikhkolbkdnpaa
namespace Go.Proofs.Ytmikhkolbkdnpaa
set_option linter.unusedVariables false

theorem pact_congr {g f g' f' : Nat → Nat} {n : Nat} (h : PAct g f n) (eg : ∀ x, x < n → g' x = g x) (ef : ∀ x, x < n → f' x = f x) : PAct g' f' n := by
  have hgl := h.gp.lt
  have hfl := h.fp.lt
  have cg : ∀ x, x < n → g' x < n := fun x hx => by rw [eg x hx]; exact hgl x hx
  refine ⟨⟨cg, fun i j hi hj e => h.gp.inj i j hi hj (by rw [← eg i hi, ← eg j hj, e])⟩, ⟨fun x hx => by rw [ef x hx]; exact hfl x hx, fun i j hi hj e => h.fp.inj i j hi hj (by rw [← ef i hi, ← ef j hj, e])⟩, h.pos, fun i hi => ?_, fun i hi => rfl, fun i hi => ?_, fun Q q0 qg qf x hx => h.full Q q0 (fun y hy hq => ?_) (fun y hy hq => ?_) x hx⟩
  · rw [eg i hi, eg _ (hgl i hi), eg _ (hgl _ (hgl i hi)), eg _ (hgl _ (hgl _ (hgl i hi)))]; exact h.zz i hi
  · rw [eg i hi, eg _ (hgl i hi), ef _ (hgl _ (hgl i hi)), ef i hi, eg _ (hfl i hi), eg _ (hgl _ (hfl i hi))]; exact h.fc i hi
  · rw [← eg y hy]; exact qg y hy hq
  · rw [← ef y hy]; exact qf y hy hq
section
variable {g f : Nat → Nat} {n : Nat}
theorem PAct.proj (h : PAct g f n) : PAct (sO g n) (tO g f n) (mO g n) := by
  refine ⟨h.ps, h.pt, h.mpos, fun j hj => ?_, fun j hj => rfl, fun j hj => ?_, fun Q q0 qg qf x hx => h.all Q q0 qg qf x hx⟩
  · obtain ⟨i, hi, rfl⟩ := h.onto j hj
    have a := h.gp.lt i hi
    have b := h.gp.lt _ a
    rw [h.ds i hi, h.ds _ a, h.ds _ b, h.ds _ (h.gp.lt _ b), h.zz i hi]
  · obtain ⟨i, hi, rfl⟩ := h.onto j hj
    have a := h.gp.lt i hi
    have b := h.gp.lt _ a
    have c := h.fp.lt i hi
    rw [h.ds i hi, h.ds _ a, h.dt _ b, h.dt i hi, h.ds _ c, h.ds _ (h.gp.lt _ c), h.fc i hi]
theorem map_range {L : List Nat} (F : Nat → Nat) : L.map F = (List.range L.length).map fun q => F (L.getD q 0) := by
  apply List.ext_getElem
  · simp
  · intro k h1 h2
    have hk : k < L.length := by simpa using h1
    simp [List.getD_eq_getElem?_getD, hk]
theorem pS_range : pS g n = (List.range (mO g n)).map (sO g n) := by
  have := map_range (L := (pjN (zOf g) n).2) (fun i => phO g n (g i))
  exact this
theorem pT_range : pT g f n = (List.range (mO g n)).map (tO g f n) := by
  have := map_range (L := (pjN (zOf g) n).2) (fun i => phO g n (f i))
  exact this
end
section
variable {S T : List Int}
/-- The lists of the projective action are a coset action. -/
theorem proj_act (h : Act2 S T) : Act2 (iz (pS (fnz S) S.length)) (iz (pT (fnz S) (fnz T) S.length)) := by
  have hA := pact_of h
  have hP := hA.proj
  have hQ : PAct (fnz (iz (pS (fnz S) S.length))) (fnz (iz (pT (fnz S) (fnz T) S.length))) (mO (fnz S) S.length) := pact_congr hP (fun x hx => by rw [pS_range]; exact fnz_map hx) (fun x hx => by rw [pT_range]; exact fnz_map hx)
  have l1 : (iz (pS (fnz S) S.length)).length = mO (fnz S) S.length := by rw [iz_len, pS_range]; simp
  have l2 : (iz (pT (fnz S) (fnz T) S.length)).length = mO (fnz S) S.length := by rw [iz_len, pT_range]; simp
  have hm := hA.mle
  have hle := h.le
  refine ⟨by rw [l1]; exact hA.mpos, by rw [l1]; omega, by rw [l1, l2], by rw [pS_range]; exact okP_of hP.gp, by rw [pT_range]; exact okP_of hP.fp, ?_, ?_⟩
  · rw [l1]
    intro j hj
    refine ⟨hQ.zz j hj, ?_⟩
    have es : ∀ x, x < mO (fnz S) S.length → fnz (iz (pS (fnz S) S.length)) x = sO (fnz S) S.length x := fun x hx => by rw [pS_range]; exact fnz_map hx
    have et : ∀ x, x < mO (fnz S) S.length → fnz (iz (pT (fnz S) (fnz T) S.length)) x = tO (fnz S) (fnz T) S.length x := fun x hx => by rw [pT_range]; exact fnz_map hx
    obtain ⟨i, hi, rfl⟩ := hA.onto j hj
    have k1 := hA.gp.lt i hi
    have k2 := hA.fp.lt _ k1
    have k3 := hA.gp.lt _ k2
    have k4 := hA.fp.lt _ k3
    have k5 := hA.gp.lt _ k4
    have ql := hA.quo.lt
    rw [es _ (ql i hi), hA.ds i hi, et _ (ql _ k1), hA.dt _ k1, es _ (ql _ k2), hA.ds _ k2, et _ (ql _ k3), hA.dt _ k3, es _ (ql _ k4), hA.ds _ k4, et _ (ql _ k5), hA.dt _ k5, es _ (ql _ k1), hA.ds _ k1, (h.rel i hi).2]
  · rw [l1]; exact bst_full hQ hQ.pos
/-- A group lies within itself. -/
theorem x_self (h : Act2 S T) : xN S T S T ≤ S.length := by
  have hA := pact_of h
  exact two_graph hA hA (φ := fun x => x) rfl (fun _ _ => rfl) (fun _ _ => rfl)
/-- A group lies within that with -1. -/
theorem x_proj (h : Act2 S T) : xN S T (iz (pS (fnz S) S.length)) (iz (pT (fnz S) (fnz T) S.length)) ≤ S.length := by
  have hA := pact_of h
  have hB := pact_of (proj_act h)
  have l1 : (iz (pS (fnz S) S.length)).length = mO (fnz S) S.length := by rw [iz_len, pS_range]; simp
  refine two_graph hA hB (φ := phO (fnz S) S.length) (hA.quo.zero hA.pos) (fun x hx => ?_) (fun x hx => ?_)
  · rw [pS_range, fnz_map (hA.quo.lt x hx), hA.ds x hx]
  · rw [pT_range, fnz_map (hA.quo.lt x hx), hA.dt x hx]
end
end Go.Proofs.Ytmikhkolbkdnpaa
namespace Go.Proofs.Ytmikhkolbkdnpaa
open Go.RowKit
set_option linter.unusedVariables false
set_option linter.unusedSimpArgs false

/-- What intersection and together leave for Within. -/
def WEnd (q : Bool) (w : World) (e : Ending) (w' : World) : Prop :=
  ∃ A n c A' n' c', e = .returned (.tuple #[.agg #[.slice A n c, .slice A' n' c'], .bool q]) ∧ Below w.heap.size w w'
theorem wend_of {G F : Nat → Nat} {N lim : Nat} {w w' : World} {e : Ending} (h : IntEnd G F N lim w e w') : WEnd (decide (orbN G F N 0 ≤ lim)) w e w' := by
  obtain ⟨hb, ⟨h1, vS, vT, rfl, r1, r2⟩ | ⟨h1, rfl⟩⟩ := h
  · obtain ⟨A, c, rfl⟩ := own_len r1
    obtain ⟨A', c', rfl⟩ := own_len r2
    rw [decide_eq_true h1]
    exact ⟨A, _, c, A', _, c', rfl, hb⟩
  · rw [decide_eq_false (Nat.not_le.2 h1)]
    exact ⟨none, 0, 0, none, 0, 0, rfl, hb⟩
theorem pwA_tog {S T S' T' : List Int} {cS cT cS' cT' : Nat} {AS AT AS' AT' : Option Addr} (w : World) (hS : RdZ w w.heap.size AS cS S) (hT : RdZ w w.heap.size AT cT T) (hS' : RdZ w w.heap.size AS' cS' S') (hT' : RdZ w w.heap.size AT' cT' T') (ha : Act2 S T) (hb : Act2 S' T') (W : World) (h : Below w.heap.size w W) :
    Calls Try.prog 40 #[.agg #[.slice AS S.length cS, .slice AT T.length cT], .agg #[.slice AS' S'.length cS', .slice AT' T'.length cT'], .int .i64 (S.length : Nat)] W fun e w' => WEnd (decide (xN S T S' T' ≤ S.length)) W e w' := by
  obtain ⟨b1, o1, rfl, R1⟩ := ((hS.below h).mono h.size).rdn ha.s (by have := ha.pos; omega)
  obtain ⟨b2, o2, rfl, R2⟩ := ((hT.below h).mono h.size).rdn ha.t (by have := ha.pos; have := ha.len; omega)
  obtain ⟨b3, o3, rfl, R3⟩ := ((hS'.below h).mono h.size).rdn hb.s (by have := hb.pos; omega)
  obtain ⟨b4, o4, rfl, R4⟩ := ((hT'.below h).mono h.size).rdn hb.t (by have := hb.pos; have := hb.len; omega)
  rw [ha.len, hb.len]
  exact (inter_any W ha.ps ha.pt hb.ps hb.pt ha.le hb.le ha.pos hb.pos (lim := S.length) ha.pos ha.le R1 (by rw [← ha.len]; exact R2) R3 (by rw [← hb.len]; exact R4)).mono fun e w' h => wend_of h
set_option maxHeartbeats 3200000 in
set_option maxRecDepth 1000000 in
theorem pwithin_bad {S T S' T' : List Int} {cS cT cS' cT' : Nat} {AS AT AS' AT' : Option Addr} (w : World) (hS : RdZ w w.heap.size AS cS S) (hT : RdZ w w.heap.size AT cT T) (hS' : RdZ w w.heap.size AS' cS' S') (hT' : RdZ w w.heap.size AT' cT' T') (z : Int) (hz : chk2 S T S' T' = z) (hz0 : z ≠ 0) :
    Calls Try.prog 16 #[.agg #[.slice AS S.length cS, .slice AT T.length cT], .agg #[.slice AS' S'.length cS', .slice AT' T'.length cT']] w fun e w' => e = .returned (.tuple #[.bool false, .int .i64 z]) ∧ Below w.heap.size w w' := by
  have HCk : Hid (∀ W, Below w.heap.size w W → Calls Try.prog 39 #[.agg #[.slice AS S.length cS, .slice AT T.length cT], .agg #[.slice AS' S'.length cS', .slice AT' T'.length cT']] W fun e w' => e = .returned (.int .i64 z) ∧ Below W.heap.size W w') := fun W hb => by
    rw [← hz]; exact cboth_any W (hS.below hb) (hT.below hb) (hS'.below hb) (hT'.below hb) hb.size
  have HB0 := Lib.hid (B2.start w #[.slice AS S.length cS, .slice AT T.length cT] #[.slice AS' S'.length cS', .slice AT' T'.length cT'])
  have hzb : (z == 0) = false := by simpa using hz0
  clear hS hT hS' hT' hz
  go_enter Try.func16, Try.ntmps16
  go_wp2_with (first
    | (go_at_call 39; ((with_reducible refine (HCk.out _ HB0.out.bel).mono ?_); rintro e w1 ⟨rfl, hb⟩; have HB1 := Lib.hid (HB0.out.below hb); clear hb))
    | fail)
  go_ret2
  exact ⟨rfl, HB1.out.bel⟩
set_option maxHeartbeats 3200000 in
set_option maxRecDepth 1000000 in
theorem pwithin_ok {S T S' T' : List Int} {cS cT cS' cT' : Nat} {AS AT AS' AT' : Option Addr} (w : World) (hS : RdZ w w.heap.size AS cS S) (hT : RdZ w w.heap.size AT cT T) (hS' : RdZ w w.heap.size AS' cS' S') (hT' : RdZ w w.heap.size AT' cT' T') (hz : chk2 S T S' T' = 0) :
    Calls Try.prog 16 #[.agg #[.slice AS S.length cS, .slice AT T.length cT], .agg #[.slice AS' S'.length cS', .slice AT' T'.length cT']] w fun e w' => e = .returned (.tuple #[.bool (decide (xN S T S' T' ≤ S.length)), .int .i64 0]) ∧ Below w.heap.size w w' := by
  have HCk : Hid (∀ W, Below w.heap.size w W → Calls Try.prog 39 #[.agg #[.slice AS S.length cS, .slice AT T.length cT], .agg #[.slice AS' S'.length cS', .slice AT' T'.length cT']] W fun e w' => e = .returned (.int .i64 0) ∧ Below W.heap.size W w') := fun W hb => by
    rw [← hz]; exact cboth_any W (hS.below hb) (hT.below hb) (hS'.below hb) (hT'.below hb) hb.size
  have HB0 := Lib.hid (B2.start w #[.slice AS S.length cS, .slice AT T.length cT] #[.slice AS' S'.length cS', .slice AT' T'.length cT'])
  obtain ⟨ha, hb⟩ := chk2_ok hz
  have HI := Lib.hid (fun W (h : Below w.heap.size w W) => pwA_tog w hS hT hS' hT' ha hb W h)
  generalize decide (xN S T S' T' ≤ S.length) = q at *
  clear hS hT hS' hT' hz ha hb
  go_enter Try.func16, Try.ntmps16
  go_wp2_with (first
    | (go_at_call 39; ((with_reducible refine (HCk.out _ HB0.out.bel).mono ?_); rintro e w1 ⟨rfl, hb⟩; have HB1 := Lib.hid (HB0.out.below hb); obtain ⟨⟨p1, p2⟩, _⟩ := two_of_block HB1.out.p; obtain ⟨⟨q1, q2⟩, _⟩ := two_of_block HB1.out.q; clear hb))
    | (go_at_call 40; ((with_reducible refine (HI.out _ HB1.out.bel).mono ?_); rintro e w2 ⟨A, n, c, A', n', c', rfl, hb⟩; have HB2 := Lib.hid (HB1.out.below hb); clear hb))
    | fail)
  go_ret2
  exact ⟨rfl, (HB2.out.below (below1 _ _)).bel⟩
theorem pwithin_any {S T S' T' : List Int} {cS cT cS' cT' : Nat} {AS AT AS' AT' : Option Addr} (w : World) (hS : RdZ w w.heap.size AS cS S) (hT : RdZ w w.heap.size AT cT T) (hS' : RdZ w w.heap.size AS' cS' S') (hT' : RdZ w w.heap.size AT' cT' T') :
    Calls Try.prog 16 #[.agg #[.slice AS S.length cS, .slice AT T.length cT], .agg #[.slice AS' S'.length cS', .slice AT' T'.length cT']] w fun e w' => e = .returned (.tuple #[.bool (decide (chk2 S T S' T' = 0 ∧ xN S T S' T' ≤ S.length)), .int .i64 (chk2 S T S' T')]) ∧ Below w.heap.size w w' := by
  by_cases hz : chk2 S T S' T' = 0
  · have e1 : decide (chk2 S T S' T' = 0 ∧ xN S T S' T' ≤ S.length) = decide (xN S T S' T' ≤ S.length) := by simp [hz]
    rw [e1, hz]
    exact pwithin_ok w hS hT hS' hT' hz
  · have e1 : decide (chk2 S T S' T' = 0 ∧ xN S T S' T' ≤ S.length) = false := by simp [hz]
    rw [e1]
    exact pwithin_bad w hS hT hS' hT' _ rfl hz
end Go.Proofs.Ytmikhkolbkdnpaa
