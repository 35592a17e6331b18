/- An action in memory; the contract of isAction. -/
import Derived.Test.YtmikhkolbkdnpaaPermL
import Derived.Deep.QuietTactic
namespace Go.Proofs.Ytmikhkolbkdnpaa
open Go.RowKit
set_option linter.unusedVariables false
set_option linter.unusedSimpArgs false

/-- The entry of a list at i, as a point. -/
def fnz (S : List Int) (i : Nat) : Nat := (S.getD i 0).toNat
theorem okP_get {S : List Int} (h : okP S) {i : Nat} (hi : i < S.length) : S[i] = (fnz S i : Int) := by
  have := (h.1 _ (List.getElem_mem hi)).1
  unfold fnz
  rw [List.getD_eq_getElem?_getD, List.getElem?_eq_getElem hi]
  simp; omega
theorem okP_prm {S : List Int} (h : okP S) : Prm (fnz S) S.length where
  lt i hi := by
    have := (h.1 _ (List.getElem_mem hi)).2
    rw [okP_get h hi] at this
    omega
  inj i j hi hj e := by
    have h1 : S[i] = S[j] := by rw [okP_get h hi, okP_get h hj, e]
    have h2 := List.pairwise_iff_getElem.1 h.2
    rcases Nat.lt_trichotomy i j with e' | e' | e'
    · exact absurd h1 (h2 i j hi hj e')
    · exact e'
    · exact absurd h1.symm (h2 j i hj hi e')
/-- The cells from o on in block b hold f 0, .., f (n-1). -/
def RdN (w : World) (B b o n : Nat) (f : Nat → Nat) : Prop := b < B ∧ ∀ i, i < n → w.cell? ⟨b, o + i, none⟩ = some (.int .i64 (f i : Nat))
theorem RdN.below {w w' : World} {B b o n : Nat} {f : Nat → Nat} (h : RdN w B b o n f) (hb : Below B w w') : RdN w' B b o n f := ⟨h.1, fun i hi => (hb.cell (p := ⟨b, o + i, none⟩) h.1).trans (h.2 i hi)⟩
theorem RdN.mono {w : World} {B B' b o n : Nat} {f : Nat → Nat} (h : RdN w B b o n f) (hB : B ≤ B') : RdN w B' b o n f := ⟨Nat.lt_of_lt_of_le h.1 hB, h.2⟩
theorem RdN.up {w w' : World} {b o n : Nat} {f : Nat → Nat} (h : RdN w w.heap.size b o n f) (hb : Below w.heap.size w w') : RdN w' w'.heap.size b o n f := (h.below hb).mono hb.size
theorem RdZ.rdn {w : World} {B c : Nat} {A : Option Addr} {S : List Int} (h : RdZ w B A c S) (hp : okP S) (h0 : 0 < S.length) : ∃ b o, A = some ⟨b, o, none⟩ ∧ RdN w B b o S.length (fnz S) := by
  obtain ⟨b, o, e, hb, hc⟩ := h.2.2.1 h0
  exact ⟨b, o, e, hb, fun i hi => by rw [hc i hi, okP_get hp hi]⟩
/-- The relations of SL2(Z) at the point i. -/
def relI (g f : Nat → Nat) (i : Nat) : Prop := g (g (g (g i))) = i ∧ f (g (f (g (f (g i))))) = g (g i)
instance (g f : Nat → Nat) (i : Nat) : Decidable (relI g f i) := inferInstanceAs (Decidable (_ ∧ _))
def relA (g f : Nat → Nat) (n : Nat) : Prop := ∀ i, i < n → relI g f i
instance (g f : Nat → Nat) (n : Nat) : Decidable (relA g f n) := inferInstanceAs (Decidable (∀ i, i < n → _))
theorem relA_no {g f : Nat → Nat} {n i : Nat} (hi : i < n) (h : ¬ (g (g (g (g i))) = i ∧ f (g (f (g (f (g i))))) = g (g i))) : ¬ relA g f n := fun hr => h (hr i hi)
/-- The box of an action, and its lists. -/
structure AR (w : World) (B p bS oS bT oT cS cT n : Nat) (g f : Nat → Nat) : Prop where
  box : w.heap[p]? = some (.cells #[.slice (some ⟨bS, oS, none⟩) n cS, .slice (some ⟨bT, oT, none⟩) n cT] 24 (0, 0))
  s : RdN w B bS oS n g
  t : RdN w B bT oT n f
theorem AR.below {w w' : World} {B p bS oS bT oT cS cT n : Nat} {g f : Nat → Nat} (h : AR w B p bS oS bT oT cS cT n g f) (hb : Below w.heap.size w w') (hB : B ≤ w.heap.size) : AR w' B p bS oS bT oT cS cT n g f :=
  ⟨block_below h.box hb, h.s.below (hb.mono hB), h.t.below (hb.mono hB)⟩
theorem AR.drewN {w : World} {B p bS oS bT oT cS cT n : Nat} {g f : Nat → Nat} (h : AR w B p bS oS bT oT cS cT n g f) (m : Nat) : AR (w.drewN m) B p bS oS bT oT cS cT n g f := ⟨h.box, h.s, h.t⟩
theorem AR.start {w : World} {bS oS bT oT cS cT n : Nat} {g f : Nat → Nat} (hs : RdN w w.heap.size bS oS n g) (ht : RdN w w.heap.size bT oT n f) :
    AR (w.alloc (.cells #[.slice (some ⟨bS, oS, none⟩) n cS, .slice (some ⟨bT, oT, none⟩) n cT] 24)) w.heap.size w.heap.size bS oS bT oT cS cT n g f :=
  ⟨heap_alloc_new w _, hs.below (below1 _ _), ht.below (below1 _ _)⟩
theorem cast3 (k : Nat) : ((k : Int) < 3) ↔ k < 3 := by omega
set_option maxHeartbeats 3200000 in
set_option maxRecDepth 1000000 in
theorem isact_any {g f : Nat → Nat} {n bS oS bT oT cS cT : Nat} (w : World) (hs : RdN w w.heap.size bS oS n g) (ht : RdN w w.heap.size bT oT n f) (hg : Prm g n) (hf : Prm f n) (hn : n ≤ 1152) :
    Calls Try.prog 61 #[.agg #[.slice (some ⟨bS, oS, none⟩) n cS, .slice (some ⟨bT, oT, none⟩) n cT]] w fun e w' => e = .returned (.bool (decide (relA g f n))) ∧ Below w.heap.size w w' := by
  have HA := Lib.hid (AR.start (cS := cS) (cT := cT) hs ht)
  have HB := Lib.hid (below1 w (.cells #[.slice (some ⟨bS, oS, none⟩) n cS, .slice (some ⟨bT, oT, none⟩) n cT] 24))
  obtain ⟨v, hv⟩ : ∃ v, v = decide (relA g f n) := ⟨_, rfl⟩
  rw [← hv]
  have HV : Hid (v = decide (relA g f n)) := hv
  have HG := Lib.hid hg
  have HF := Lib.hid hf
  clear hs ht hg hf hv
  go_enter Try.func61, Try.ntmps61
  go_wp2
  obtain ⟨W0, hW0⟩ : ∃ W0, W0 = w.alloc (.cells #[.slice (some ⟨bS, oS, none⟩) n cS, .slice (some ⟨bT, oT, none⟩) n cT] 24) := ⟨_, rfl⟩
  rw [← hW0] at HA HB ⊢
  clear hW0
  obtain ⟨⟨t1, t2⟩, _⟩ := two_of_block HA.out.box
  go_loopw [3, 4, 5, 9] (fun _ _ _ I wr => ∃ (k m : Nat), I = .int .i64 k ∧ k ≤ n ∧ wr = W0.drewN m ∧ Hid (∀ i, i < k → relI g f i)) (fun _ _ _ I _ => n - (intOf I).toNat)
  case atStart => exact ⟨0, 0, rfl, Nat.zero_le _, rfl, fun i h => by omega⟩
  case round =>
    obtain ⟨k, m, rfl, hk, rfl, HR⟩ := hrel
    by_cases hlt : k < n
    · have hlti : (k : Int) < (n : Int) := by omega
      have u1 := fun N => (show (W0.drewN N).cell? ⟨w.heap.size, 0, none⟩ = _ from t1)
      have u2 := fun N => (show (W0.drewN N).cell? ⟨w.heap.size, 1, none⟩ = _ from t2)
      clear t1 t2
      go_wp2
      go_loopw [4, 13] (fun X J wi => ∃ (j m : Nat), J = .int .i64 j ∧ j ≤ 3 ∧ X = .int .i64 (itr (fun x => f (g x)) j k : Nat) ∧ wi = W0.drewN m) (fun _ J _ => 3 - (intOf J).toNat)
      case atStart => exact ⟨0, m, rfl, by omega, rfl, rfl⟩
      case round =>
        obtain ⟨j, m, rfl, hj, rfl, rfl⟩ := hrel
        by_cases hj3 : j < 3
        · have hj3i : (j : Int) < 3 := by omega
          have hx : itr (fun x => f (g x)) j k < n := Prm.itr_lt (f := fun x => f (g x)) ⟨fun i hi => HF.out.lt _ (HG.out.lt _ hi), fun i j hi hj e => HG.out.inj _ _ hi hj (HF.out.inj _ _ (HG.out.lt _ hi) (HG.out.lt _ hj) e)⟩ hlt j
          have e1 : itr (fun x => f (g x)) (j + 1) k = f (g (itr (fun x => f (g x)) j k)) := rfl
          have HE := Lib.hid e1
          clear e1
          generalize itr (fun x => f (g x)) j k = x at *
          have hy := HG.out.lt x hx
          have hz := HF.out.lt _ hy
          have c1 := fun N => (show (W0.drewN N).cell? ⟨bS, oS + x, none⟩ = _ from HA.out.s.2 x hx)
          have c2 := fun N => (show (W0.drewN N).cell? ⟨bT, oT + g x, none⟩ = _ from HA.out.t.2 (g x) hy)
          generalize g x = y at *
          have hxi : (x : Int) < (n : Int) := by omega
          have hyi : (y : Int) < (n : Int) := by omega
          go_wp2
          go_quiet (fail)
          go_wp2
          go_roundw
          case rel => exact ⟨j + 1, _, by go_num, by omega, by rw [HE.out], rfl⟩
          case measure => simp [intOf]; omega
        · obtain rfl : j = 3 := by omega
          have h33 : ¬ (3 : Int) < 3 := by omega
          have e3 : itr (fun x => f (g x)) 3 k = f (g (f (g (f (g k))))) := rfl
          rw [e3]
          have HX : Hid (f (g (f (g (f (g k))))) < n) := HF.out.lt _ (HG.out.lt _ (HF.out.lt _ (HG.out.lt _ (HF.out.lt _ (HG.out.lt _ hlt)))))
          have h1 := HG.out.lt k hlt
          have h2 := HG.out.lt _ h1
          have h3 := HG.out.lt _ h2
          have h4 := HG.out.lt _ h3
          have c1 := fun N => (show (W0.drewN N).cell? ⟨bS, oS + k, none⟩ = _ from HA.out.s.2 k hlt)
          have c2 := fun N => (show (W0.drewN N).cell? ⟨bS, oS + g k, none⟩ = _ from HA.out.s.2 _ h1)
          have c3 := fun N => (show (W0.drewN N).cell? ⟨bS, oS + g (g k), none⟩ = _ from HA.out.s.2 _ h2)
          have c4 := fun N => (show (W0.drewN N).cell? ⟨bS, oS + g (g (g k)), none⟩ = _ from HA.out.s.2 _ h3)
          have HNo := Lib.hid (relA_no (g := g) (f := f) hlt)
          have HYes : Hid (g (g (g (g k))) = k → f (g (f (g (f (g k))))) = g (g k) → ∀ i, i < k + 1 → relI g f i) := fun a b i hi => by
            rcases Nat.lt_or_ge i k with h | h
            · exact HR.out i h
            · obtain rfl : i = k := by omega
              exact ⟨a, b⟩
          generalize f (g (f (g (f (g k))))) = x at *
          generalize g (g (g (g k))) = y4 at *
          generalize g (g (g k)) = y3 at *
          generalize g (g k) = y2 at *
          generalize g k = y1 at *
          have i1 : (y1 : Int) < (n : Int) := by omega
          have i2 : (y2 : Int) < (n : Int) := by omega
          have i3 : (y3 : Int) < (n : Int) := by omega
          by_cases ha : y4 = k
          · by_cases hb : x = y2
            · have HN := Lib.hid (HYes.out ha hb)
              subst ha hb
              go_wp2
              go_quiet (fail)
              go_wp2
              go_quiet (fail)
              go_wp2
              go_roundw
              case rel => exact ⟨y4 + 1, _, by go_num, by omega, rfl, HN.out⟩
              case measure => simp [intOf]; omega
            · have HF1 : Hid (v = false) := HV.out.trans (by simpa using HNo.out fun e => hb e.2)
              have hb' : ¬ (x : Int) = (y2 : Int) := by omega
              subst ha
              go_wp2
              go_quiet (fail)
              go_wp2
              go_quiet (fail)
              go_wp2
              go_ret
              exact ⟨by rw [HF1.out]; rfl, below_drewN (below_drewN (below_drewN HB.out _) _) _⟩
          · have HF1 : Hid (v = false) := HV.out.trans (by simpa using HNo.out fun e => ha e.1)
            have ha' : ¬ (y4 : Int) = (k : Int) := by omega
            go_wp2
            go_quiet (fail)
            go_wp2
            go_quiet (fail)
            go_wp2
            go_ret
            exact ⟨by rw [HF1.out]; rfl, below_drewN (below_drewN (below_drewN HB.out _) _) _⟩
    · obtain rfl : k = n := by omega
      have hk2 : ¬ (k : Int) < (k : Int) := by omega
      have HF1 : Hid (v = true) := HV.out.trans (decide_eq_true (p := relA g f k) HR.out)
      go_wp2
      go_ret
      exact ⟨by rw [HF1.out]; rfl, below_drewN HB.out _⟩
end Go.Proofs.Ytmikhkolbkdnpaa
