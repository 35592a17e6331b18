/- The contract of permutation.intersection. -/
import Derived.Test.YtjhdpcbkdeagnaaPvI
import Derived.Test.YtjhdpcbkdeagnaaHeadT
import Derived.Test.YtjhdpcbkdeagnaaLawK
import Derived.IntWalk
namespace Go.Proofs.Ytjhdpcbkdeagnaa
open Go.RowKit
open Go.Maps (Keyed)
set_option linter.unusedVariables false
set_option linter.unusedSimpArgs false

/-- What intersection leaves: the action of the orbit of both first points, or nothing beyond the limit. -/
def IntEnd (G F : Nat → Nat) (N lim : Nat) (w : World) (e : Ending) (w' : World) : Prop :=
  Below w.heap.size w w' ∧ ((orbN G F N 0 ≤ lim ∧ ∃ vS vT, e = .returned (.tuple #[.agg #[vS, vT], .bool true]) ∧ w'.ownsRow w.heap.size 3 1 vS (orbN G F N 0) (isI (rS G F N 0)) ∧ w'.ownsRow w.heap.size 3 1 vT (orbN G F N 0) (isI (rT G F N 0))) ∨
    (lim < orbN G F N 0 ∧ e = .returned (.tuple #[.agg #[.slice none 0 0, .slice none 0 0], .bool false])))
theorem wf2_nat {a b : Nat} (ha : a ≤ 2000000) (hb : b ≤ 2000000) : wf2 (((a : Nat) : Int), ((b : Nat) : Int)) := by
  constructor <;> simp [Lit.wf, IntKind.min, IntKind.max, IntKind.signed, IntKind.bits] <;> omega
theorem PW.heldS {w wr : World} {bm ba n m cS cS' bS oS bS' oS' a b : Nat} {vT0 vT0' : Value} {K : List K2} {S T : List Nat} {vl vS vT : Value} {g g' : Nat → Nat} (h : PW w wr bm ba #[.slice (some ⟨bS, oS, none⟩) n cS, vT0] #[.slice (some ⟨bS', oS', none⟩) m cS', vT0'] K S T vl vS vT)
    (hs : RdN w w.heap.size bS oS n g) (hs' : RdN w w.heap.size bS' oS' m g') (ha : a < n) (hb : b < m) :
    (wr.cell? ⟨ba, 0, none⟩ = some vS ∧ wr.cell? ⟨w.heap.size, 0, none⟩ = some (.slice (some ⟨bS, oS, none⟩) n cS)) ∧ wr.cell? ⟨w.heap.size + 1, 0, none⟩ = some (.slice (some ⟨bS', oS', none⟩) m cS') ∧ wr.cell? ⟨bS, oS + a, none⟩ = some (.int .i64 (g a : Nat)) ∧ wr.cell? ⟨bS', oS' + b, none⟩ = some (.int .i64 (g' b : Nat)) :=
  ⟨⟨(two_of_block h.a.a).1.1, (two_of_block h.pa).1.1⟩, (two_of_block h.pb).1.1, (hs.below h.bel).2 a ha, (hs'.below h.bel).2 b hb⟩
theorem PW.heldT {w wr : World} {bm ba n m cS cS' bS oS bS' oS' a b : Nat} {vT0 vT0' : Value} {K : List K2} {S T : List Nat} {vl vS vT : Value} {g g' : Nat → Nat} (h : PW w wr bm ba #[vT0, .slice (some ⟨bS, oS, none⟩) n cS] #[vT0', .slice (some ⟨bS', oS', none⟩) m cS'] K S T vl vS vT)
    (hs : RdN w w.heap.size bS oS n g) (hs' : RdN w w.heap.size bS' oS' m g') (ha : a < n) (hb : b < m) :
    (wr.cell? ⟨ba, 1, none⟩ = some vT ∧ wr.cell? ⟨w.heap.size, 1, none⟩ = some (.slice (some ⟨bS, oS, none⟩) n cS)) ∧ wr.cell? ⟨w.heap.size + 1, 1, none⟩ = some (.slice (some ⟨bS', oS', none⟩) m cS') ∧ wr.cell? ⟨bS, oS + a, none⟩ = some (.int .i64 (g a : Nat)) ∧ wr.cell? ⟨bS', oS' + b, none⟩ = some (.int .i64 (g' b : Nat)) :=
  ⟨⟨(two_of_block h.a.a).1.2, (two_of_block h.pa).1.2⟩, (two_of_block h.pb).1.2, (hs.below h.bel).2 a ha, (hs'.below h.bel).2 b hb⟩
set_option maxHeartbeats 6400000 in
set_option maxRecDepth 1000000 in
theorem inter_any {g f g' f' : Nat → Nat} {n m lim bS oS bT oT bS' oS' bT' oT' cS cT cS' cT' : Nat} (w : World) (hg : Prm g n) (hf : Prm f n) (hg' : Prm g' m) (hf' : Prm f' m) (hn : n ≤ 1152) (hm : m ≤ 1152) (h0 : 0 < n) (h0' : 0 < m) (hl1 : 1 ≤ lim) (hl2 : lim ≤ 1152)
    (hS : RdN w w.heap.size bS oS n g) (hT : RdN w w.heap.size bT oT n f) (hS' : RdN w w.heap.size bS' oS' m g') (hT' : RdN w w.heap.size bT' oT' m f') :
    Calls Try.prog 61 #[.agg #[.slice (some ⟨bS, oS, none⟩) n cS, .slice (some ⟨bT, oT, none⟩) n cT], .agg #[.slice (some ⟨bS', oS', none⟩) m cS', .slice (some ⟨bT', oT', none⟩) m cT'], .int .i64 (lim : Nat)] w fun e w' => IntEnd (eG g g' m) (eG f f' m) (n * m) lim w e w' := by
  obtain ⟨i0, hi, z0, z1, z2⟩ := info_parts infoIP
  have HKey := Lib.hid (key_of2 (x := (0, 0)) ⟨by decide, by decide⟩)
  have hmm := @run_makeMap Try.prog
  have HOp := Lib.hid (w7_at w #[.slice (some ⟨bS, oS, none⟩) n cS, .slice (some ⟨bT, oT, none⟩) n cT] #[.slice (some ⟨bS', oS', none⟩) m cS', .slice (some ⟨bT', oT', none⟩) m cT']).2.2.2.2.2.1
  have HL := Lib.hid (And.intro hS (And.intro hT (And.intro hS' hT')))
  have HG := Lib.hid (And.intro hg (And.intro hf (And.intro hg' hf')))
  clear hS hT hS' hT' hg hf hg' hf'
  obtain ⟨P, hP⟩ : ∃ P : Array Value, P = #[.slice (some ⟨bS, oS, none⟩) n cS, .slice (some ⟨bT, oT, none⟩) n cT] := ⟨_, rfl⟩
  obtain ⟨Q, hQ⟩ : ∃ Q : Array Value, Q = #[.slice (some ⟨bS', oS', none⟩) m cS', .slice (some ⟨bT', oT', none⟩) m cT'] := ⟨_, rfl⟩
  obtain ⟨N, HN⟩ : ∃ N, Hid (N = n * m) := ⟨_, rfl⟩
  have hN0 : 0 < N := by rw [HN.out]; exact Nat.mul_pos h0 h0'
  rw [← HN.out]
  go_enter Try.func61, Try.ntmps61
  go_wp2_with (first
    | (refine wpList_insert_ownI _ rfl _ _ _ 117 rfl 115 3 law2 Try.underlying117 _ (w.heap.size + 1 + 1 + 1 + 1 + 1) 0 (.map []) rfl HOp.out (by decide) (kv2 (0, 0)) _ (kl2 (0, 0)) rfl rfl HKey.out (.lit (.int .i64 0)) [] (plainElem_int Try.underlying3 (by decide)) ?_; intro w2 hown2 hg2; have HO2 := Lib.hid hown2; have HG2 := Lib.hid hg2; clear hown2 hg2)
    | fail)
  have HSt := Lib.hid (pw_start HO2.out (MD2.nil.put (x := (0, 0)) ⟨by decide, by decide⟩ rfl) HG2.out)
  clear HO2 HG2 HOp HKey hmm
  obtain ⟨X, HX⟩ : ∃ X, Hid (X = orbN (eG g g' m) (eG f f' m) N 0) := ⟨_, rfl⟩
  go_loopw [12, 13, 14] (fun I _ _ wr => ∃ (i : Nat) (vl vS vT : Value), I = .int .i64 (i : Nat) ∧ i ≤ X ∧ (bst (eG g g' m) (eG f f' m) 0 i).length ≤ lim ∧ Hid (PW w wr w2.heap.size (w2.heap.size + 1) P Q ((bst (eG g g' m) (eG f f' m) 0 i).map (dec m)) ((rS (eG g g' m) (eG f f' m) N 0).take i) ((rT (eG g g' m) (eG f f' m) N 0).take i) vl vS vT)) (fun I _ _ _ => X - (intOf I).toNat)
  case atStart =>
    have HS0 := HSt.out
    rw [← hP, ← hQ] at HS0
    refine ⟨0, .slice (some ⟨w.heap.size + 1 + 1 + 1, 0, none⟩) 1 1, .slice none 0 0, .slice none 0 0, rfl, Nat.zero_le _, by simpa [bst] using hl1, ?_⟩
    have e : ((bst (eG g g' m) (eG f f' m) 0 0).map (dec m)) = [(0, 0)] := by simp [bst, dec]
    rw [e, List.take_zero, List.take_zero]
    exact HS0
  case round =>
    obtain ⟨i, vl, vS, vT, rfl, hiX, hil, HS⟩ := hrel
    by_cases hlt : i < (bst (eG g g' m) (eG f f' m) 0 i).length
    · obtain ⟨a, b, x, y, ha, hb, hiN, hab, hK2, hx, hy, hrs, hrt⟩ := iround (n := n) HG.out.1 HG.out.2.1 HG.out.2.2.1 HG.out.2.2.2 (by rw [← HN.out]; exact hN0) hlt
      rw [← HN.out] at hiN hrs hrt
      rw [← HX.out] at hiN
      have HK2 := Lib.hid hK2
      have HRS := Lib.hid hrs
      have HRT := Lib.hid hrt
      clear hK2 hrs hrt
      have hsl : ((rS (eG g g' m) (eG f f' m) N 0).take i).length = i := by rw [List.length_take, rS_len, ← HX.out]; omega
      have htl : ((rT (eG g g' m) (eG f f' m) N 0).take i).length = i := by rw [List.length_take, rT_len, ← HX.out]; omega
      have HBn : Hid (∀ L, L = (bst (eG g g' m) (eG f f' m) 0 (i + 1)).map (dec m) → lim < L.length → lim < X) := fun L hL hlen => by
        rw [hL, List.length_map] at hlen
        rw [HX.out, HN.out]
        exact bst_over (eG_prm HG.out.1 HG.out.2.2.1) (eG_prm HG.out.2.1 HG.out.2.2.2) (by rw [← HN.out]; exact hN0) hlt hlen
      have hlK : ((bst (eG g g' m) (eG f f' m) 0 i).map (dec m)).length = (bst (eG g g' m) (eG f f' m) 0 i).length := List.length_map _
      have hKi : i < ((bst (eG g g' m) (eG f f' m) 0 i).map (dec m)).length := by omega
      have hKl : ((bst (eG g g' m) (eG f f' m) 0 i).map (dec m)).length ≤ lim := by omega
      have hil2 : i < lim := by omega
      have HGa := HG.out.1.lt a ha
      have HFa := HG.out.2.1.lt a ha
      have HGb := HG.out.2.2.1.lt b hb
      have HFb := HG.out.2.2.2.lt b hb
      have HHd0 : Hid (∀ {w' : World} {K : List K2} {S T : List Nat} {vl vS vT : Value}, PW w w' w2.heap.size (w2.heap.size + 1) P Q K S T vl vS vT → (w'.cell? ⟨w2.heap.size + 1, 0, none⟩ = some vS ∧ w'.cell? ⟨w.heap.size, 0, none⟩ = some (.slice (some ⟨bS, oS, none⟩) n cS)) ∧ w'.cell? ⟨w.heap.size + 1, 0, none⟩ = some (.slice (some ⟨bS', oS', none⟩) m cS') ∧ w'.cell? ⟨bS, oS + a, none⟩ = some (.int .i64 (g a : Nat)) ∧ w'.cell? ⟨bS', oS' + b, none⟩ = some (.int .i64 (g' b : Nat))) := fun h => by
        rw [hP, hQ] at h; exact h.heldS HL.out.1 HL.out.2.2.1 ha hb
      have HHd1 : Hid (∀ {w' : World} {K : List K2} {S T : List Nat} {vl vS vT : Value}, PW w w' w2.heap.size (w2.heap.size + 1) P Q K S T vl vS vT → (w'.cell? ⟨w2.heap.size + 1, 1, none⟩ = some vT ∧ w'.cell? ⟨w.heap.size, 1, none⟩ = some (.slice (some ⟨bT, oT, none⟩) n cT)) ∧ w'.cell? ⟨w.heap.size + 1, 1, none⟩ = some (.slice (some ⟨bT', oT', none⟩) m cT') ∧ w'.cell? ⟨bT, oT + a, none⟩ = some (.int .i64 (f a : Nat)) ∧ w'.cell? ⟨bT', oT' + b, none⟩ = some (.int .i64 (f' b : Nat))) := fun h => by
        rw [hP, hQ] at h; exact h.heldT HL.out.2.1 HL.out.2.2.2 ha hb
      have HV0 : Hid (∀ {W : World} {S T : List Nat} {vl vS vT : Value}, PW w W w2.heap.size (w2.heap.size + 1) P Q ((bst (eG g g' m) (eG f f' m) 0 i).map (dec m)) S T vl vS vT →
          Calls Try.prog 73 #[.agg #[.int .i64 (g a : Nat), .int .i64 (g' b : Nat)], .pointer (some ⟨w2.heap.size, 0, none⟩), .pointer (some ⟨w.heap.size + 1 + 1 + 1 + 1, 0, none⟩)] W fun e w' => ∃ vl', e = .returned (.int .i64 (x : Nat)) ∧
            PW w w' w2.heap.size (w2.heap.size + 1) P Q (pNext ((bst (eG g g' m) (eG f f' m) 0 i).map (dec m)) (((g a : Nat) : Int), ((g' b : Nat) : Int))) S T vl' vS vT) := fun {W S T vl vS vT} h => by
        rw [← hx]; exact pvisit_w (by omega) (wf2_nat (by omega) (by omega)) W h
      have HV1 : Hid (∀ {W : World} {S T : List Nat} {vl vS vT : Value}, PW w W w2.heap.size (w2.heap.size + 1) P Q (pNext ((bst (eG g g' m) (eG f f' m) 0 i).map (dec m)) (((g a : Nat) : Int), ((g' b : Nat) : Int))) S T vl vS vT →
          Calls Try.prog 73 #[.agg #[.int .i64 (f a : Nat), .int .i64 (f' b : Nat)], .pointer (some ⟨w2.heap.size, 0, none⟩), .pointer (some ⟨w.heap.size + 1 + 1 + 1 + 1, 0, none⟩)] W fun e w' => ∃ vl', e = .returned (.int .i64 (y : Nat)) ∧
            PW w w' w2.heap.size (w2.heap.size + 1) P Q ((bst (eG g g' m) (eG f f' m) 0 (i + 1)).map (dec m)) S T vl' vS vT) := fun {W S T vl vS vT} h => by
        rw [← hy, ← HK2.out]; exact pvisit_w (by have := pNext_le ((bst (eG g g' m) (eG f f' m) 0 i).map (dec m)) (((g a : Nat) : Int), ((g' b : Nat) : Int)); omega) (wf2_nat (by omega) (by omega)) W h
      have hK2l : ((bst (eG g g' m) (eG f f' m) 0 (i + 1)).map (dec m)).length ≤ lim + 2 := by
        rw [← HK2.out]
        have e1 := pNext_le ((bst (eG g g' m) (eG f f' m) 0 i).map (dec m)) (((g a : Nat) : Int), ((g' b : Nat) : Int))
        have e2 := pNext_le (pNext ((bst (eG g g' m) (eG f f' m) 0 i).map (dec m)) (((g a : Nat) : Int), ((g' b : Nat) : Int))) (((f a : Nat) : Int), ((f' b : Nat) : Int))
        omega
      have HLe : Hid (((bst (eG g g' m) (eG f f' m) 0 (i + 1)).map (dec m)).length ≤ lim → (bst (eG g g' m) (eG f f' m) 0 (i + 1)).length ≤ lim) := fun h => by rwa [List.length_map] at h
      clear hx hy HK2 hlK hlt hil
      generalize hK0 : (bst (eG g g' m) (eG f f' m) 0 i).map (dec m) = K0 at *
      obtain ⟨K2, HK2⟩ : ∃ K2, Hid (K2 = (bst (eG g g' m) (eG f f' m) 0 (i + 1)).map (dec m)) := ⟨_, rfl⟩
      rw [← HK2.out] at hK2l HV1 HLe
      have HBn' := HBn.out _ HK2.out
      have HBx := Lib.hid HBn'
      clear HBn HBn' hK0
      generalize pNext K0 (((g a : Nat) : Int), ((g' b : Nat) : Int)) = K1 at *
      generalize hS0 : (rS (eG g g' m) (eG f f' m) N 0).take i = S0 at *
      generalize hT0 : (rT (eG g g' m) (eG f f' m) N 0).take i = T0 at *
      clear hS0 hT0
      generalize g a = ga at *
      generalize g' b = gb at *
      generalize f a = fa at *
      generalize f' b = fb at *
      subst hsl
      have hTl := Lib.hid htl
      have hTl2 : T0.length ≤ 1152 := by omega
      have hSl2 : S0.length ≤ 1152 := by omega
      clear htl
      obtain ⟨gr, cap, rfl, hgr, r1, r2⟩ := prow_at HS.out.v.row hKi
      rw [hab] at r1 r2
      simp only at r1 r2
      have lc := cell_of_one HS.out.v.l
      have hzl := lt_of_block HS.out.v.l
      have hzi : (S0.length : Int) < (K0.length : Int) := by omega
      have han : (a : Int) < (n : Int) := by omega
      have hbm : (b : Int) < (m : Int) := by omega
      have M_a := Lib.hid HS.out.drew
      go_upto_region 8 with fail
      go_region
      go_upto_region 9 with fail
      go_cut [13, 14] (fun s13 s14 wx => s13 = .int .i64 (a : Nat) ∧ s14 = .int .i64 (b : Nat) ∧ ∃ vl' vS', Hid (PW w wx w2.heap.size (w2.heap.size + 1) P Q K1 (S0 ++ [x]) T0 vl' vS' vT))
      case first =>
        have M_0 := Lib.hid M_a.out.drew
        have hzb := lt_of_block HS.out.a.a
        refine region_E 16 (fun w' => (w'.cell? ⟨w2.heap.size + 1, 0, none⟩ = some vS ∧ w'.cell? ⟨w.heap.size, 0, none⟩ = some (.slice (some ⟨bS, oS, none⟩) n cS)) ∧ w'.cell? ⟨w.heap.size + 1, 0, none⟩ = some (.slice (some ⟨bS', oS', none⟩) m cS') ∧ w'.cell? ⟨bS, oS + a, none⟩ = some (.int .i64 (ga : Nat)) ∧ w'.cell? ⟨bS', oS' + b, none⟩ = some (.int .i64 (gb : Nat))) (by kernel_rfl) ?_
        have hHeld := HHd0.out M_0.out
        refine take_E (n := 16) (i := 0) (v := ?va_0) rfl (by kernel_rfl) (fun _ _ _ h => h) ?hya_0 (by rfl) hHeld ?resta_0
        case hya_0 => (intro w9 hSw; (try dsimp only at hSw); go_simp <;> with_reducible rfl)
        (try simp only [List.getElem_toArray, List.getElem_cons_zero, List.getElem_cons_succ, Act.put, List.setIfInBounds_toArray, List.set_cons_zero, List.set_cons_succ])
        refine take_E (n := 16) (i := 1) (v := ?va_1) rfl (by kernel_rfl) (fun _ _ _ h => h) ?hya_1 (by rfl) hHeld ?resta_1
        case hya_1 => (intro w9 hSw; (try dsimp only at hSw); go_simp <;> with_reducible rfl)
        (try simp only [List.getElem_toArray, List.getElem_cons_zero, List.getElem_cons_succ, Act.put, List.setIfInBounds_toArray, List.set_cons_zero, List.set_cons_succ])
        refine take_E (n := 16) (i := 2) (v := ?va_2) rfl (by kernel_rfl) (fun _ _ _ h => h) ?hya_2 (by rfl) hHeld ?resta_2
        case hya_2 => (intro w9 hSw; (try dsimp only at hSw); go_simp <;> with_reducible rfl)
        (try simp only [List.getElem_toArray, List.getElem_cons_zero, List.getElem_cons_succ, Act.put, List.setIfInBounds_toArray, List.set_cons_zero, List.set_cons_succ])
        refine take_E (n := 16) (i := 3) (v := ?va_3) rfl (by kernel_rfl) (fun _ _ _ h => h) ?hya_3 (by rfl) hHeld ?resta_3
        case hya_3 => (intro w9 hSw; (try dsimp only at hSw); go_simp <;> with_reducible rfl)
        (try simp only [List.getElem_toArray, List.getElem_cons_zero, List.getElem_cons_succ, Act.put, List.setIfInBounds_toArray, List.set_cons_zero, List.set_cons_succ])
        refine take_E (n := 16) (i := 4) (v := ?va_4) rfl (by kernel_rfl) (fun _ _ _ h => h) ?hya_4 (by rfl) hHeld ?resta_4
        case hya_4 => (intro w9 hSw; (try dsimp only at hSw); go_simp <;> with_reducible rfl)
        (try simp only [List.getElem_toArray, List.getElem_cons_zero, List.getElem_cons_succ, Act.put, List.setIfInBounds_toArray, List.set_cons_zero, List.set_cons_succ])
        refine take_E (n := 16) (i := 5) (v := ?va_5) rfl (by kernel_rfl) (fun _ _ _ h => h) ?hya_5 (by rfl) hHeld ?resta_5
        case hya_5 => (intro w9 hSw; (try dsimp only at hSw); go_simp <;> with_reducible rfl)
        (try simp only [List.getElem_toArray, List.getElem_cons_zero, List.getElem_cons_succ, Act.put, List.setIfInBounds_toArray, List.set_cons_zero, List.set_cons_succ])
        refine take_E (n := 16) (i := 6) (v := ?va_6) rfl (by kernel_rfl) (fun _ _ _ h => h) ?hya_6 (by rfl) hHeld ?resta_6
        case hya_6 => (intro w9 hSw; (try dsimp only at hSw); go_simp <;> with_reducible rfl)
        (try simp only [List.getElem_toArray, List.getElem_cons_zero, List.getElem_cons_succ, Act.put, List.setIfInBounds_toArray, List.set_cons_zero, List.set_cons_succ])
        refine take_E (n := 16) (i := 7) (v := ?va_7) rfl (by kernel_rfl) (fun _ _ _ h => h) ?hya_7 (by rfl) hHeld ?resta_7
        case hya_7 => (intro w9 hSw; (try dsimp only at hSw); go_simp <;> with_reducible rfl)
        (try simp only [List.getElem_toArray, List.getElem_cons_zero, List.getElem_cons_succ, Act.put, List.setIfInBounds_toArray, List.set_cons_zero, List.set_cons_succ])
        refine take_E (n := 16) (i := 8) (v := ?va_8) rfl (by kernel_rfl) (fun _ _ _ h => h) ?hya_8 (by rfl) hHeld ?resta_8
        case hya_8 => (intro w9 hSw; (try dsimp only at hSw); go_simp <;> with_reducible rfl)
        (try simp only [List.getElem_toArray, List.getElem_cons_zero, List.getElem_cons_succ, Act.put, List.setIfInBounds_toArray, List.set_cons_zero, List.set_cons_succ])
        refine take_E (n := 16) (i := 9) (v := ?va_9) rfl (by kernel_rfl) (fun _ _ _ h => h) ?hya_9 (by rfl) hHeld ?resta_9
        case hya_9 => (intro w9 hSw; (try dsimp only at hSw); go_simp <;> with_reducible rfl)
        (try simp only [List.getElem_toArray, List.getElem_cons_zero, List.getElem_cons_succ, Act.put, List.setIfInBounds_toArray, List.set_cons_zero, List.set_cons_succ])
        refine take_E (n := 16) (i := 10) (v := ?va_10) rfl (by kernel_rfl) (fun _ _ _ h => h) ?hya_10 (by rfl) hHeld ?resta_10
        case hya_10 => (intro w9 hSw; (try dsimp only at hSw); go_simp <;> with_reducible rfl)
        (try simp only [List.getElem_toArray, List.getElem_cons_zero, List.getElem_cons_succ, Act.put, List.setIfInBounds_toArray, List.set_cons_zero, List.set_cons_succ])
        refine take_E (n := 16) (i := 11) (v := ?va_11) rfl (by kernel_rfl) (fun _ _ _ h => h) ?hya_11 (by rfl) hHeld ?resta_11
        case hya_11 => (intro w9 hSw; (try dsimp only at hSw); go_simp <;> with_reducible rfl)
        (try simp only [List.getElem_toArray, List.getElem_cons_zero, List.getElem_cons_succ, Act.put, List.setIfInBounds_toArray, List.set_cons_zero, List.set_cons_succ])
        refine take_E (n := 16) (i := 12) (v := ?va_12) rfl (by kernel_rfl) (fun _ _ _ h => h) ?hya_12 (by rfl) hHeld ?resta_12
        case hya_12 => (intro w9 hSw; (try dsimp only at hSw); go_simp <;> with_reducible rfl)
        (try simp only [List.getElem_toArray, List.getElem_cons_zero, List.getElem_cons_succ, Act.put, List.setIfInBounds_toArray, List.set_cons_zero, List.set_cons_succ])
        refine take_E (n := 16) (i := 13) (v := ?va_13) rfl (by kernel_rfl) (fun _ _ _ h => h) ?hya_13 (by rfl) hHeld ?resta_13
        case hya_13 => (intro w9 hSw; (try dsimp only at hSw); go_simp <;> with_reducible rfl)
        (try simp only [List.getElem_toArray, List.getElem_cons_zero, List.getElem_cons_succ, Act.put, List.setIfInBounds_toArray, List.set_cons_zero, List.set_cons_succ])
        refine one_E (n := 16) (i := 14) (by kernel_rfl) rfl (fun K hK => ?_)
        go_simp
        go_at_call 73
        refine (HV0.out M_0.out).mono ?_
        rintro e p1 ⟨vl1, rfl, hM⟩
        have M_1 := Lib.hid hM
        have q1 := (two_of_block M_1.out.a.a).1.1
        have hz1 := lt_of_block M_1.out.a.a
        clear hM
        refine hK.out _ _ (fun _ => HHd0.out M_1.out) (fun hHeld14 => ?_)
        clear hK K
        (try simp only [List.getElem_toArray, List.getElem_cons_zero, List.getElem_cons_succ, Act.put, List.setIfInBounds_toArray, List.set_cons_zero, List.set_cons_succ])
        refine one_E (n := 16) (i := 15) (by kernel_rfl) rfl (fun K hK => ?_)
        go_simp
        refine hK.out _ _ (fun _ => HHd0.out (M_1.out.alloc _)) (fun hHeld15 => ?_)
        clear hK K
        (try simp only [List.getElem_toArray, List.getElem_cons_zero, List.getElem_cons_succ, Act.put, List.setIfInBounds_toArray, List.set_cons_zero, List.set_cons_succ])
        refine one_E (n := 16) (i := 16) (by kernel_rfl) rfl (fun K hK => ?_)
        refine step_append_lies _ (by rfl) _ _ _ (by rfl) w.heap.size 3 i0 _ 1 8 Try.underlying45 hi z0 z1 z2 rfl (by omega) vS S0.length (isI S0) (by rfl) (M_1.out.alloc _).a.rS ⟨p1.heap.size, 0, none⟩ 1 1 [.int .i64 (x : Nat)] (by rfl) (by rfl) (World.news_of_block (cs := #[.int .i64 (x : Nat)]) (t := 3) (fr := (0, 0)) (heap_alloc_new p1 _)) (by simp [Value.oneCell']) (by omega) (by unfold maxLen; omega) (by omega) (M_1.out.alloc _).v.bs (p1.heap.size + 1) (by simp) ?_
        intro gg cap' p2 hown2 hgrow hat hlt3
        have HA2 := Lib.hid ((M_1.out.alloc _).app (.inl rfl) hgrow)
        have HE2 := Lib.hid (PW.pushS (M_1.out.alloc _) hown2 hgrow (by simpa using hat))
        have fz := (two_of_block HA2.out).2
        have qz := (two_of_block HA2.out).1
        clear hown2 hgrow hat
        refine hK.out _ _ (fun h => absurd h (by decide)) (fun hHeld16 => ?_)
        clear hK K
        (try simp only [List.getElem_toArray, List.getElem_cons_zero, List.getElem_cons_succ, Act.put, List.setIfInBounds_toArray, List.set_cons_zero, List.set_cons_succ])
        refine one_E (n := 16) (i := 17) (by kernel_rfl) rfl (fun K hK => ?_)
        go_simp
        refine hK.out _ _ (fun h => absurd h (by decide)) (fun hHeld17 => ?_)
        clear hK K
        (try simp only [List.getElem_toArray, List.getElem_cons_zero, List.getElem_cons_succ, Act.put, List.setIfInBounds_toArray, List.set_cons_zero, List.set_cons_succ])
        refine one_E (n := 16) (i := 18) (by kernel_rfl) rfl (fun K hK => ?_)
        go_simp
        refine hK.out _ _ (fun h => absurd h (by decide)) (fun hHeld18 => ?_)
        clear hK K
        (try simp only [List.getElem_toArray, List.getElem_cons_zero, List.getElem_cons_succ, Act.put, List.setIfInBounds_toArray, List.set_cons_zero, List.set_cons_succ])
        refine done_E (by kernel_rfl) ?_ _
        go_wp2_with fail
        go_meet
        exact ⟨rfl, rfl, _, _, HE2⟩
      case rest =>
        obtain ⟨rfl, rfl, vl', vS', HM1⟩ := hcut
        clear M_a HHd0 HV0
        go_upto_region 10 with fail
        go_cut [13] (fun s13 wx => s13 = .int .i64 (a : Nat) ∧ ∃ vl' vS' vT', Hid (PW w wx w2.heap.size (w2.heap.size + 1) P Q K2 (S0 ++ [x]) (T0 ++ [y]) vl' vS' vT'))
        case first =>
          have M_0 := Lib.hid HM1.out.drew
          have hzb := lt_of_block HM1.out.a.a
          refine region_E 16 (fun w' => (w'.cell? ⟨w2.heap.size + 1, 1, none⟩ = some vT ∧ w'.cell? ⟨w.heap.size, 1, none⟩ = some (.slice (some ⟨bT, oT, none⟩) n cT)) ∧ w'.cell? ⟨w.heap.size + 1, 1, none⟩ = some (.slice (some ⟨bT', oT', none⟩) m cT') ∧ w'.cell? ⟨bT, oT + a, none⟩ = some (.int .i64 (fa : Nat)) ∧ w'.cell? ⟨bT', oT' + b, none⟩ = some (.int .i64 (fb : Nat))) (by kernel_rfl) ?_
          have hHeld := HHd1.out M_0.out
          refine take_E (n := 16) (i := 0) (v := ?vb_0) rfl (by kernel_rfl) (fun _ _ _ h => h) ?hyb_0 (by rfl) hHeld ?restb_0
          case hyb_0 => (intro w9 hSw; (try dsimp only at hSw); go_simp <;> with_reducible rfl)
          (try simp only [List.getElem_toArray, List.getElem_cons_zero, List.getElem_cons_succ, Act.put, List.setIfInBounds_toArray, List.set_cons_zero, List.set_cons_succ])
          refine take_E (n := 16) (i := 1) (v := ?vb_1) rfl (by kernel_rfl) (fun _ _ _ h => h) ?hyb_1 (by rfl) hHeld ?restb_1
          case hyb_1 => (intro w9 hSw; (try dsimp only at hSw); go_simp <;> with_reducible rfl)
          (try simp only [List.getElem_toArray, List.getElem_cons_zero, List.getElem_cons_succ, Act.put, List.setIfInBounds_toArray, List.set_cons_zero, List.set_cons_succ])
          refine take_E (n := 16) (i := 2) (v := ?vb_2) rfl (by kernel_rfl) (fun _ _ _ h => h) ?hyb_2 (by rfl) hHeld ?restb_2
          case hyb_2 => (intro w9 hSw; (try dsimp only at hSw); go_simp <;> with_reducible rfl)
          (try simp only [List.getElem_toArray, List.getElem_cons_zero, List.getElem_cons_succ, Act.put, List.setIfInBounds_toArray, List.set_cons_zero, List.set_cons_succ])
          refine take_E (n := 16) (i := 3) (v := ?vb_3) rfl (by kernel_rfl) (fun _ _ _ h => h) ?hyb_3 (by rfl) hHeld ?restb_3
          case hyb_3 => (intro w9 hSw; (try dsimp only at hSw); go_simp <;> with_reducible rfl)
          (try simp only [List.getElem_toArray, List.getElem_cons_zero, List.getElem_cons_succ, Act.put, List.setIfInBounds_toArray, List.set_cons_zero, List.set_cons_succ])
          refine take_E (n := 16) (i := 4) (v := ?vb_4) rfl (by kernel_rfl) (fun _ _ _ h => h) ?hyb_4 (by rfl) hHeld ?restb_4
          case hyb_4 => (intro w9 hSw; (try dsimp only at hSw); go_simp <;> with_reducible rfl)
          (try simp only [List.getElem_toArray, List.getElem_cons_zero, List.getElem_cons_succ, Act.put, List.setIfInBounds_toArray, List.set_cons_zero, List.set_cons_succ])
          refine take_E (n := 16) (i := 5) (v := ?vb_5) rfl (by kernel_rfl) (fun _ _ _ h => h) ?hyb_5 (by rfl) hHeld ?restb_5
          case hyb_5 => (intro w9 hSw; (try dsimp only at hSw); go_simp <;> with_reducible rfl)
          (try simp only [List.getElem_toArray, List.getElem_cons_zero, List.getElem_cons_succ, Act.put, List.setIfInBounds_toArray, List.set_cons_zero, List.set_cons_succ])
          refine take_E (n := 16) (i := 6) (v := ?vb_6) rfl (by kernel_rfl) (fun _ _ _ h => h) ?hyb_6 (by rfl) hHeld ?restb_6
          case hyb_6 => (intro w9 hSw; (try dsimp only at hSw); go_simp <;> with_reducible rfl)
          (try simp only [List.getElem_toArray, List.getElem_cons_zero, List.getElem_cons_succ, Act.put, List.setIfInBounds_toArray, List.set_cons_zero, List.set_cons_succ])
          refine take_E (n := 16) (i := 7) (v := ?vb_7) rfl (by kernel_rfl) (fun _ _ _ h => h) ?hyb_7 (by rfl) hHeld ?restb_7
          case hyb_7 => (intro w9 hSw; (try dsimp only at hSw); go_simp <;> with_reducible rfl)
          (try simp only [List.getElem_toArray, List.getElem_cons_zero, List.getElem_cons_succ, Act.put, List.setIfInBounds_toArray, List.set_cons_zero, List.set_cons_succ])
          refine take_E (n := 16) (i := 8) (v := ?vb_8) rfl (by kernel_rfl) (fun _ _ _ h => h) ?hyb_8 (by rfl) hHeld ?restb_8
          case hyb_8 => (intro w9 hSw; (try dsimp only at hSw); go_simp <;> with_reducible rfl)
          (try simp only [List.getElem_toArray, List.getElem_cons_zero, List.getElem_cons_succ, Act.put, List.setIfInBounds_toArray, List.set_cons_zero, List.set_cons_succ])
          refine take_E (n := 16) (i := 9) (v := ?vb_9) rfl (by kernel_rfl) (fun _ _ _ h => h) ?hyb_9 (by rfl) hHeld ?restb_9
          case hyb_9 => (intro w9 hSw; (try dsimp only at hSw); go_simp <;> with_reducible rfl)
          (try simp only [List.getElem_toArray, List.getElem_cons_zero, List.getElem_cons_succ, Act.put, List.setIfInBounds_toArray, List.set_cons_zero, List.set_cons_succ])
          refine take_E (n := 16) (i := 10) (v := ?vb_10) rfl (by kernel_rfl) (fun _ _ _ h => h) ?hyb_10 (by rfl) hHeld ?restb_10
          case hyb_10 => (intro w9 hSw; (try dsimp only at hSw); go_simp <;> with_reducible rfl)
          (try simp only [List.getElem_toArray, List.getElem_cons_zero, List.getElem_cons_succ, Act.put, List.setIfInBounds_toArray, List.set_cons_zero, List.set_cons_succ])
          refine take_E (n := 16) (i := 11) (v := ?vb_11) rfl (by kernel_rfl) (fun _ _ _ h => h) ?hyb_11 (by rfl) hHeld ?restb_11
          case hyb_11 => (intro w9 hSw; (try dsimp only at hSw); go_simp <;> with_reducible rfl)
          (try simp only [List.getElem_toArray, List.getElem_cons_zero, List.getElem_cons_succ, Act.put, List.setIfInBounds_toArray, List.set_cons_zero, List.set_cons_succ])
          refine take_E (n := 16) (i := 12) (v := ?vb_12) rfl (by kernel_rfl) (fun _ _ _ h => h) ?hyb_12 (by rfl) hHeld ?restb_12
          case hyb_12 => (intro w9 hSw; (try dsimp only at hSw); go_simp <;> with_reducible rfl)
          (try simp only [List.getElem_toArray, List.getElem_cons_zero, List.getElem_cons_succ, Act.put, List.setIfInBounds_toArray, List.set_cons_zero, List.set_cons_succ])
          refine take_E (n := 16) (i := 13) (v := ?vb_13) rfl (by kernel_rfl) (fun _ _ _ h => h) ?hyb_13 (by rfl) hHeld ?restb_13
          case hyb_13 => (intro w9 hSw; (try dsimp only at hSw); go_simp <;> with_reducible rfl)
          (try simp only [List.getElem_toArray, List.getElem_cons_zero, List.getElem_cons_succ, Act.put, List.setIfInBounds_toArray, List.set_cons_zero, List.set_cons_succ])
          refine one_E (n := 16) (i := 14) (by kernel_rfl) rfl (fun K hK => ?_)
          go_simp
          go_at_call 73
          refine (HV1.out M_0.out).mono ?_
          rintro e p1 ⟨vl1, rfl, hM⟩
          have M_1 := Lib.hid hM
          have q1 := (two_of_block M_1.out.a.a).1.2
          have hz1 := lt_of_block M_1.out.a.a
          clear hM
          refine hK.out _ _ (fun _ => HHd1.out M_1.out) (fun hHeld14 => ?_)
          clear hK K
          (try simp only [List.getElem_toArray, List.getElem_cons_zero, List.getElem_cons_succ, Act.put, List.setIfInBounds_toArray, List.set_cons_zero, List.set_cons_succ])
          refine one_E (n := 16) (i := 15) (by kernel_rfl) rfl (fun K hK => ?_)
          go_simp
          refine hK.out _ _ (fun _ => HHd1.out (M_1.out.alloc _)) (fun hHeld15 => ?_)
          clear hK K
          (try simp only [List.getElem_toArray, List.getElem_cons_zero, List.getElem_cons_succ, Act.put, List.setIfInBounds_toArray, List.set_cons_zero, List.set_cons_succ])
          refine one_E (n := 16) (i := 16) (by kernel_rfl) rfl (fun K hK => ?_)
          refine step_append_lies _ (by rfl) _ _ _ (by rfl) w.heap.size 3 i0 _ 1 8 Try.underlying45 hi z0 z1 z2 rfl (by omega) vT T0.length (isI T0) (by rfl) (M_1.out.alloc _).a.rT ⟨p1.heap.size, 0, none⟩ 1 1 [.int .i64 (y : Nat)] (by rfl) (by rfl) (World.news_of_block (cs := #[.int .i64 (y : Nat)]) (t := 3) (fr := (0, 0)) (heap_alloc_new p1 _)) (by simp [Value.oneCell']) (by omega) (by unfold maxLen; omega) (by omega) (M_1.out.alloc _).v.bs (p1.heap.size + 1) (by simp) ?_
          intro gg cap' p2 hown2 hgrow hat hlt3
          have HA2 := Lib.hid ((M_1.out.alloc _).app (.inr rfl) hgrow)
          have HE2 := Lib.hid (PW.pushT (M_1.out.alloc _) hown2 hgrow (by simpa using hat))
          have fz := (two_of_block HA2.out).2
          have qz := (two_of_block HA2.out).1
          clear hown2 hgrow hat
          refine hK.out _ _ (fun h => absurd h (by decide)) (fun hHeld16 => ?_)
          clear hK K
          (try simp only [List.getElem_toArray, List.getElem_cons_zero, List.getElem_cons_succ, Act.put, List.setIfInBounds_toArray, List.set_cons_zero, List.set_cons_succ])
          refine one_E (n := 16) (i := 17) (by kernel_rfl) rfl (fun K hK => ?_)
          go_simp
          refine hK.out _ _ (fun h => absurd h (by decide)) (fun hHeld17 => ?_)
          clear hK K
          (try simp only [List.getElem_toArray, List.getElem_cons_zero, List.getElem_cons_succ, Act.put, List.setIfInBounds_toArray, List.set_cons_zero, List.set_cons_succ])
          refine one_E (n := 16) (i := 18) (by kernel_rfl) rfl (fun K hK => ?_)
          go_simp
          refine hK.out _ _ (fun h => absurd h (by decide)) (fun hHeld18 => ?_)
          clear hK K
          (try simp only [List.getElem_toArray, List.getElem_cons_zero, List.getElem_cons_succ, Act.put, List.setIfInBounds_toArray, List.set_cons_zero, List.set_cons_succ])
          refine done_E (by kernel_rfl) ?_ _
          go_wp2_with fail
          go_meet
          exact ⟨rfl, _, _, _, HE2⟩
        case rest =>
          obtain ⟨rfl, vl2, vS2, vT2, HM2⟩ := hcut
          have hro := HM2.out.v.row
          obtain ⟨A2, c2, rfl⟩ := own_len hro
          have HRo := Lib.hid hro
          clear hro
          have lc2 := cell_of_one HM2.out.v.l
          have hzl2 := lt_of_block HM2.out.v.l
          by_cases hov : lim < K2.length
          · have hov' : (lim : Int) < (K2.length : Int) := by omega
            obtain ⟨⟨b1, b2⟩, fb⟩ := two_of_block HM2.out.res
            have hzr := lt_of_block HM2.out.res
            go_wp2
            have z0' : ((wc.setCell ⟨w.heap.size + 1 + 1, 0, none⟩ (.slice none 0 0)).setCell ⟨w.heap.size + 1 + 1, 1, none⟩ (.slice none 0 0)).heap[w.heap.size + 1 + 1]? = some (.cells #[.slice none 0 0, .slice none 0 0] 47 (0, 0)) :=
              heap_setCell_same _ (w.heap.size + 1 + 1) 1 #[.slice none 0 0, .slice none 0 0] _ _ (heap_setCell_same _ (w.heap.size + 1 + 1) 0 #[.slice none 0 0, .slice none 0 0] _ _ HM2.out.res)
            obtain ⟨⟨d1, d2⟩, _⟩ := two_of_block z0'
            refine bodyPost_ret (v := .tuple #[.agg #[.slice none 0 0, .slice none 0 0], .bool false]) ?_ rfl ⟨below_set2 HM2.out.bel (by omega) _ _, .inr ⟨by rw [← HX.out]; exact HBx.out hov, rfl⟩⟩
            simp [results, Try.results61, go_sem, d1, d2]
          · have hov' : ¬ (lim : Int) < (K2.length : Int) := by omega
            go_wp2
            go_roundw
            case rel => exact ⟨S0.length + 1, _, _, _, by go_num, hiN, HLe.out (by omega), by rw [HRS.out, HRT.out, ← HK2.out]; exact HM2⟩
            case measure => simp [intOf]; omega
    · have hd := bst_done (eG_prm HG.out.1 HG.out.2.2.1) (eG_prm HG.out.2.1 HG.out.2.2.2) (show 0 < n * m by rw [← HN.out]; exact hN0) (k := i) (by omega)
      rw [← HN.out] at hd
      have hXl : X = (bst (eG g g' m) (eG f f' m) 0 i).length := by rw [HX.out]; unfold orbN; rw [hd]
      obtain rfl : i = X := by omega
      have HXl := Lib.hid (show i ≤ lim by omega)
      have hrow := HS.out.v.row
      have hkl : ((bst (eG g g' m) (eG f f' m) 0 i).map (dec m)).length = i := by rw [List.length_map]; omega
      rw [hkl] at hrow
      have hrS := HS.out.a.rS
      have hrT := HS.out.a.rT
      have hS1 : (rS (eG g g' m) (eG f f' m) N 0).take i = rS (eG g g' m) (eG f f' m) N 0 := List.take_of_length_le (by rw [rS_len, ← HX.out]; exact Nat.le_refl _)
      have hT1 : (rT (eG g g' m) (eG f f' m) N 0).take i = rT (eG g g' m) (eG f f' m) N 0 := List.take_of_length_le (by rw [rT_len, ← HX.out]; exact Nat.le_refl _)
      rw [hS1, rS_len, ← HX.out] at hrS
      rw [hT1, rT_len, ← HX.out] at hrT
      obtain ⟨A, c', rfl⟩ := own_len hrow
      obtain ⟨AS, cS1, rfl⟩ := own_len hrS
      obtain ⟨AT, cT1, rfl⟩ := own_len hrT
      have HRS := Lib.hid hrS
      have HRT := Lib.hid hrT
      have lc := cell_of_one HS.out.v.l
      have hzl := lt_of_block HS.out.v.l
      obtain ⟨⟨a1, a2⟩, _⟩ := two_of_block HS.out.a.a
      have hzb := lt_of_block HS.out.a.a
      obtain ⟨⟨b1, b2⟩, fb⟩ := two_of_block HS.out.res
      have hzr := lt_of_block HS.out.res
      have hk3 : ¬ (i : Int) < (i : Int) := by omega
      clear hrow hrS hrT hS1 hT1 hXl hd hkl hlt hil hiX
      go_wp2
      have z0' : ((wr.setCell ⟨w.heap.size + 1 + 1, 0, none⟩ (.slice AS i cS1)).setCell ⟨w.heap.size + 1 + 1, 1, none⟩ (.slice AT i cT1)).heap[w.heap.size + 1 + 1]? = some (.cells #[.slice AS i cS1, .slice AT i cT1] 47 (0, 0)) :=
        heap_setCell_same _ (w.heap.size + 1 + 1) 1 #[.slice AS i cS1, .slice none 0 0] _ _ (heap_setCell_same _ (w.heap.size + 1 + 1) 0 #[.slice none 0 0, .slice none 0 0] _ _ HS.out.res)
      obtain ⟨⟨d1, d2⟩, _⟩ := two_of_block z0'
      have keep : ∀ {base n size : Nat} {e : TypeId} {v : Value} {xs : List Value}, wr.ownsRow base e size v n xs → e ≠ 47 → ((wr.setCell ⟨w.heap.size + 1 + 1, 0, none⟩ (.slice AS i cS1)).setCell ⟨w.heap.size + 1 + 1, 1, none⟩ (.slice AT i cT1)).ownsRow base e size v n xs := fun h he => row_keep h fun g hg => by
        obtain ⟨_, cur, hc⟩ := row_lt h hg
        have hne : g ≠ w.heap.size + 1 + 1 := ty_neI hc HS.out.res he
        exact set_ne (set_ne rfl hne _) hne _
      refine bodyPost_ret (v := .tuple #[.agg #[.slice AS i cS1, .slice AT i cT1], .bool true]) ?_ rfl ⟨below_set2 HS.out.bel (by omega) _ _, .inl ⟨by rw [← HX.out]; exact HXl.out, .slice AS i cS1, .slice AT i cT1, rfl, by rw [← HX.out]; exact keep HRS.out (by decide), by rw [← HX.out]; exact keep HRT.out (by decide)⟩⟩
      simp [results, Try.results61, go_sem, d1, d2]
end Go.Proofs.Ytjhdpcbkdeagnaa
