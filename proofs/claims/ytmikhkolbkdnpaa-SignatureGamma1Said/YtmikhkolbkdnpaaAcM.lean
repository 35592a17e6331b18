/- The contracts of isPermutation and of the reference's permutes. An action in memory; the contract of isAction. The contracts of the two breadth-first searches. The contract of the reference's breadth-first search. -/
import Derived.Test.YtmikhkolbkdnpaaActM
import Derived.Test.YtmikhkolbkdnpaaBoxL
import Derived.Test.YtmikhkolbkdnpaaLawK
import Derived.Deep.OwnRows
import Derived.Laws.MakeOwn
import Derived.Deep.Cut
import Derived.WalkSmall
import Derived.Deep.QuietTactic
import Derived.Laws.OwnMore
import Derived.StillTailTactics
namespace Go.Proofs.Ytmikhkolbkdnpaa
open Go.RowKit
set_option linter.unusedVariables false
set_option linter.unusedSimpArgs false

theorem Try.infoBool2 : (Try.prog.info? 4).map (fun i => (i.zero, i.size, i.bytes)) = some (some (.bool false), 1, 1) := by kernel_rfl
/-- A list of integers that is a permutation of its indices. -/
def okP (S : List Int) : Prop := (∀ x ∈ S, 0 ≤ x ∧ x < S.length) ∧ S.Nodup
instance (S : List Int) : Decidable (okP S) := inferInstanceAs (Decidable (_ ∧ _))
/-- The same of the first entries, of all of which there are n. -/
def okT (T : List Int) (n : Nat) : Prop := (∀ x ∈ T, 0 ≤ x ∧ x < n) ∧ T.Nodup
theorem okT_nil (n : Nat) : okT [] n := ⟨fun x h => absurd h (by simp), List.nodup_nil⟩
theorem take_push {S : List Int} {k : Nat} (h : k < S.length) : S.take (k + 1) = S.take k ++ [S[k]] := List.take_succ_eq_append_getElem h
theorem okT_push {S : List Int} {n k : Nat} (h : k < S.length) (ho : okT (S.take k) n) (h1 : 0 ≤ S[k]) (h2 : S[k] < n) (h3 : S[k] ∉ S.take k) : okT (S.take (k + 1)) n := by
  rw [take_push h]
  refine ⟨fun x hx => ?_, ?_⟩
  · rcases List.mem_append.1 hx with hx | hx
    · exact ho.1 x hx
    · rw [List.mem_singleton.1 hx]; exact ⟨h1, h2⟩
  · rw [List.nodup_append]
    refine ⟨ho.2, by simp, fun a ha b hb e => ?_⟩
    rw [List.mem_singleton] at hb
    subst hb; subst e
    exact h3 ha
theorem okP_no {S : List Int} {k : Nat} (h : k < S.length) (hb : S[k] < 0 ∨ (S.length : Int) ≤ S[k] ∨ S[k] ∈ S.take k) : ¬ okP S := by
  rintro ⟨h1, h2⟩
  have h3 := h1 _ (List.getElem_mem h)
  rcases hb with hb | hb | hb
  · omega
  · omega
  · have h4 : (S.take (k + 1)).Nodup := h2.sublist (List.take_sublist _ _)
    rw [take_push h, List.nodup_append] at h4
    exact h4.2.2 _ hb _ (List.mem_singleton.2 rfl) rfl
theorem okT_full {S : List Int} (h : okT (S.take S.length) S.length) : okP S := by
  rw [List.take_length] at h; exact h
/-- What the loop knows: the box of flags, and that nothing else changed. -/
structure PI (w wr : World) (S : List Int) (k : Nat) : Prop where
  row : wr.rowIs w.heap.size 4 S.length (fun j => .bool (decide ((j : Int) ∈ S.take k)))
  bel : Below w.heap.size w wr
theorem PI.start (w : World) (S : List Int) : PI w (w.alloc (.cells (madeCells #[.bool false] S.length) 4)) S 0 :=
  ⟨World.rowIs.congr (World.rowIs_made w (.bool false) S.length 4) fun j _ => by simp, below1 _ _⟩
theorem PI.push {w wr : World} {S : List Int} {k r : Nat} (h : PI w wr S k) (hk : k < S.length) (hr : S[k] = (r : Int)) : PI w (wr.setCell ⟨w.heap.size, r, none⟩ (.bool true)) S (k + 1) := by
  refine ⟨World.rowIs.congr (h.row.set r (.bool true)) fun j _ => ?_, h.bel.setCell (Nat.le_refl _) _⟩
  simp only [take_push hk]
  by_cases e : j = r
  · subst e; simp [hr]
  · rw [if_neg e]
    have : ¬ (j : Int) = S[k] := by omega
    simp only [List.mem_append, List.mem_singleton, this, or_false]
theorem PI.drewN {w wr : World} {S : List Int} {k : Nat} (h : PI w wr S k) (m : Nat) : PI w (wr.drewN m) S k := ⟨h.row.of_block rfl, below_drewN h.bel m⟩
theorem mk_bool (n : Nat) (W : World) (hn : n ≤ 1152) : (Instr.makeSlice 89 (.int .i64 (n : Int)) (.int .i64 (n : Int))).run Try.prog W = .ok (.slice (some ⟨W.heap.size, 0, none⟩) n n) (W.alloc (.cells (madeCells #[.bool false] n) 4)) := by
  obtain ⟨i1, hj, y0, y1, y2⟩ := info_parts Try.infoBool2
  have h := run_make (P := Try.prog) W 89 4 i1 (.bool false) Try.underlying89 hj y0 .i64 .i64 (n : Int) (n : Int) (by omega) (by omega) (by rw [y2]; omega) (by omega)
  rw [show ((n : Int)).toNat = n by omega, y1, Nat.mul_one] at h
  exact h
set_option maxHeartbeats 3200000 in
set_option maxRecDepth 1000000 in
theorem isperm_any {S : List Int} {B c : Nat} {A : Option Addr} (w : World) (h : RdZ w B A c S) (hB : B ≤ w.heap.size) (hn : S.length ≤ 1152) :
    Calls Try.prog 60 #[.slice A S.length c] w fun e w' => e = .returned (.bool (decide (okP S))) ∧ Below w.heap.size w w' := by
  have H := Lib.hid h
  have hmk := fun W => mk_bool S.length W hn
  obtain ⟨v, hv⟩ : ∃ v, v = decide (okP S) := ⟨_, rfl⟩
  rw [← hv]
  have HV : Hid (v = decide (okP S)) := hv
  clear h hv
  go_enter Try.func60, Try.ntmps60
  go_wp2
  clear hmk
  have HP := Lib.hid (PI.start w S)
  have HO := Lib.hid (okT_nil S.length)
  go_loopw [5, 11] (fun _ I wr => ∃ (k : Nat), I = .int .i64 k ∧ k ≤ S.length ∧ Hid (PI w wr S k) ∧ Hid (okT (S.take k) S.length)) (fun _ I _ => S.length - (intOf I).toNat)
  case atStart => exact ⟨0, rfl, Nat.zero_le _, HP.out, HO.out⟩
  case round =>
    clear HP HO
    obtain ⟨k, rfl, hk, HP, HO⟩ := hrel
    by_cases hlt : k < S.length
    · have hlti : (k : Int) < (S.length : Int) := by omega
      obtain ⟨b1, o1, rfl, hb1, x1⟩ := H.out.at_ hlt
      have y1 : wr.cell? ⟨b1, o1 + k, none⟩ = some (.int .i64 S[k]) := (HP.out.bel.cell (p := ⟨b1, o1 + k, none⟩) (Nat.lt_of_lt_of_le hb1 hB)).trans x1
      clear x1
      have HNo := Lib.hid (okP_no hlt)
      have HYes := Lib.hid (okT_push (n := S.length) hlt HO.out)
      obtain ⟨q, hq⟩ : ∃ q, q = S[k] := ⟨_, rfl⟩
      have HQ := Lib.hid hq
      rw [← hq] at y1 HNo HYes
      clear hq
      by_cases hq0 : q < 0
      · have HF : Hid (v = false) := HV.out.trans (by simpa using HNo.out (.inl hq0))
        go_wp2
        go_ret
        exact ⟨by rw [HF.out]; rfl, HP.out.bel⟩
      · by_cases hq1 : (S.length : Int) ≤ q
        · have HF : Hid (v = false) := HV.out.trans (by simpa using HNo.out (.inr (.inl hq1)))
          go_wp2
          go_ret
          exact ⟨by rw [HF.out]; rfl, HP.out.bel⟩
        · obtain ⟨r, rfl⟩ : ∃ r : Nat, q = r := ⟨q.toNat, by omega⟩
          have hr : r < S.length := by omega
          have hri : (r : Int) < (S.length : Int) := by omega
          have hcs := HP.out.row.cell (i := r) hr
          have hfz := HP.out.row.frozen r
          by_cases hm : (r : Int) ∈ S.take k
          · have HF : Hid (v = false) := HV.out.trans (by simpa using HNo.out (.inr (.inr hm)))
            rw [show decide ((r : Int) ∈ S.take k) = true from by simpa using hm] at hcs
            clear hm
            go_wp2
            go_ret
            exact ⟨by rw [HF.out]; rfl, HP.out.bel⟩
          · rw [show decide ((r : Int) ∈ S.take k) = false from by simpa using hm] at hcs
            have HO2 := Lib.hid (HYes.out (by omega) (by omega) hm)
            have HP2 := Lib.hid (HP.out.push hlt HQ.out.symm)
            clear hm
            go_wp2
            go_roundw
            case rel => exact ⟨k + 1, by go_num, hlt, HP2.out, HO2.out⟩
            case measure => simp [intOf]; omega
    · obtain rfl : k = S.length := by omega
      have hk2 : ¬ (S.length : Int) < (S.length : Int) := by omega
      have HF : Hid (v = true) := HV.out.trans (by simpa using okT_full HO.out)
      go_wp2
      go_ret
      exact ⟨by rw [HF.out]; rfl, HP.out.bel⟩
set_option maxHeartbeats 3200000 in
set_option maxRecDepth 1000000 in
theorem rpermutes_any {S : List Int} {B c : Nat} {A : Option Addr} (w : World) (h : RdZ w B A c S) (hB : B ≤ w.heap.size) (hn : S.length ≤ 1152) :
    Calls Try.prog 75 #[.slice A S.length c] w fun e w' => e = .returned (.bool (decide (okP S))) ∧ Below w.heap.size w w' := by
  have H := Lib.hid h
  have hmk := fun W => mk_bool S.length W hn
  obtain ⟨v, hv⟩ : ∃ v, v = decide (okP S) := ⟨_, rfl⟩
  rw [← hv]
  have HV : Hid (v = decide (okP S)) := hv
  clear h hv
  go_enter Try.func75, Try.ntmps75
  go_wp2
  clear hmk
  have HP := Lib.hid (PI.start w S)
  have HO := Lib.hid (okT_nil S.length)
  go_loopw [4] (fun I wr => ∃ (k : Nat), I = .int .i64 k ∧ k ≤ S.length ∧ Hid (PI w wr S k) ∧ Hid (okT (S.take k) S.length)) (fun I _ => S.length - (intOf I).toNat)
  case atStart => exact ⟨0, rfl, Nat.zero_le _, HP.out, HO.out⟩
  case round =>
    clear HP HO
    obtain ⟨k, rfl, hk, HP, HO⟩ := hrel
    by_cases hlt : k < S.length
    · have hlti : (k : Int) < (S.length : Int) := by omega
      obtain ⟨b1, o1, rfl, hb1, x1⟩ := H.out.at_ hlt
      have y1 : wr.cell? ⟨b1, o1 + k, none⟩ = some (.int .i64 S[k]) := (HP.out.bel.cell (p := ⟨b1, o1 + k, none⟩) (Nat.lt_of_lt_of_le hb1 hB)).trans x1
      clear x1
      have HNo := Lib.hid (okP_no hlt)
      have HYes := Lib.hid (okT_push (n := S.length) hlt HO.out)
      obtain ⟨q, hq⟩ : ∃ q, q = S[k] := ⟨_, rfl⟩
      have HQ := Lib.hid hq
      rw [← hq] at y1 HNo HYes
      clear hq
      by_cases hq0 : q < 0
      · have HF : Hid (v = false) := HV.out.trans (by simpa using HNo.out (.inl hq0))
        go_wp2
        go_ret
        exact ⟨by rw [HF.out]; rfl, HP.out.bel⟩
      · by_cases hq1 : (S.length : Int) ≤ q
        · have HF : Hid (v = false) := HV.out.trans (by simpa using HNo.out (.inr (.inl hq1)))
          go_wp2
          go_ret
          exact ⟨by rw [HF.out]; rfl, HP.out.bel⟩
        · obtain ⟨r, rfl⟩ : ∃ r : Nat, q = r := ⟨q.toNat, by omega⟩
          have hr : r < S.length := by omega
          have hri : (r : Int) < (S.length : Int) := by omega
          have hcs := HP.out.row.cell (i := r) hr
          have hfz := HP.out.row.frozen r
          by_cases hm : (r : Int) ∈ S.take k
          · have HF : Hid (v = false) := HV.out.trans (by simpa using HNo.out (.inr (.inr hm)))
            rw [show decide ((r : Int) ∈ S.take k) = true from by simpa using hm] at hcs
            clear hm
            go_wp2
            go_ret
            exact ⟨by rw [HF.out]; rfl, HP.out.bel⟩
          · rw [show decide ((r : Int) ∈ S.take k) = false from by simpa using hm] at hcs
            have HO2 := Lib.hid (HYes.out (by omega) (by omega) hm)
            have HP2 := Lib.hid (HP.out.push hlt HQ.out.symm)
            clear hm
            go_wp2
            go_roundw
            case rel => exact ⟨k + 1, by go_num, hlt, HP2.out, HO2.out⟩
            case measure => simp [intOf]; omega
    · obtain rfl : k = S.length := by omega
      have hk2 : ¬ (S.length : Int) < (S.length : Int) := by omega
      have HF : Hid (v = true) := HV.out.trans (by simpa using okT_full HO.out)
      go_wp2
      go_ret
      exact ⟨by rw [HF.out]; rfl, HP.out.bel⟩
end Go.Proofs.Ytmikhkolbkdnpaa
namespace Go.Proofs.Ytmikhkolbkdnpaa
open Go.RowKit
set_option linter.unusedVariables false
set_option linter.unusedSimpArgs false

/-- The entry of a list at i, as a point. -/
def fnz (S : List Int) (i : Nat) : Nat := (S.getD i 0).toNat
theorem okP_get {S : List Int} (h : okP S) {i : Nat} (hi : i < S.length) : S[i] = (fnz S i : Int) := by
  have := (h.1 _ (List.getElem_mem hi)).1
  unfold fnz
  rw [List.getD_eq_getElem?_getD, List.getElem?_eq_getElem hi]
  simp; omega
theorem okP_prm {S : List Int} (h : okP S) : Prm (fnz S) S.length where
  lt i hi := by
    have := (h.1 _ (List.getElem_mem hi)).2
    rw [okP_get h hi] at this
    omega
  inj i j hi hj e := by
    have h1 : S[i] = S[j] := by rw [okP_get h hi, okP_get h hj, e]
    have h2 := List.pairwise_iff_getElem.1 h.2
    rcases Nat.lt_trichotomy i j with e' | e' | e'
    · exact absurd h1 (h2 i j hi hj e')
    · exact e'
    · exact absurd h1.symm (h2 j i hj hi e')
/-- The cells from o on in block b hold f 0, .., f (n-1). -/
def RdN (w : World) (B b o n : Nat) (f : Nat → Nat) : Prop := b < B ∧ ∀ i, i < n → w.cell? ⟨b, o + i, none⟩ = some (.int .i64 (f i : Nat))
theorem RdN.below {w w' : World} {B b o n : Nat} {f : Nat → Nat} (h : RdN w B b o n f) (hb : Below B w w') : RdN w' B b o n f := ⟨h.1, fun i hi => (hb.cell (p := ⟨b, o + i, none⟩) h.1).trans (h.2 i hi)⟩
theorem RdN.mono {w : World} {B B' b o n : Nat} {f : Nat → Nat} (h : RdN w B b o n f) (hB : B ≤ B') : RdN w B' b o n f := ⟨Nat.lt_of_lt_of_le h.1 hB, h.2⟩
theorem RdN.up {w w' : World} {b o n : Nat} {f : Nat → Nat} (h : RdN w w.heap.size b o n f) (hb : Below w.heap.size w w') : RdN w' w'.heap.size b o n f := (h.below hb).mono hb.size
theorem RdZ.rdn {w : World} {B c : Nat} {A : Option Addr} {S : List Int} (h : RdZ w B A c S) (hp : okP S) (h0 : 0 < S.length) : ∃ b o, A = some ⟨b, o, none⟩ ∧ RdN w B b o S.length (fnz S) := by
  obtain ⟨b, o, e, hb, hc⟩ := h.2.2.1 h0
  exact ⟨b, o, e, hb, fun i hi => by rw [hc i hi, okP_get hp hi]⟩
/-- The relations of SL2(Z) at the point i. -/
def relI (g f : Nat → Nat) (i : Nat) : Prop := g (g (g (g i))) = i ∧ f (g (f (g (f (g i))))) = g (g i)
instance (g f : Nat → Nat) (i : Nat) : Decidable (relI g f i) := inferInstanceAs (Decidable (_ ∧ _))
def relA (g f : Nat → Nat) (n : Nat) : Prop := ∀ i, i < n → relI g f i
instance (g f : Nat → Nat) (n : Nat) : Decidable (relA g f n) := inferInstanceAs (Decidable (∀ i, i < n → _))
theorem relA_no {g f : Nat → Nat} {n i : Nat} (hi : i < n) (h : ¬ (g (g (g (g i))) = i ∧ f (g (f (g (f (g i))))) = g (g i))) : ¬ relA g f n := fun hr => h (hr i hi)
/-- The box of an action, and its lists. -/
structure AR (w : World) (B p bS oS bT oT cS cT n : Nat) (g f : Nat → Nat) : Prop where
  box : w.heap[p]? = some (.cells #[.slice (some ⟨bS, oS, none⟩) n cS, .slice (some ⟨bT, oT, none⟩) n cT] 24 (0, 0))
  s : RdN w B bS oS n g
  t : RdN w B bT oT n f
theorem AR.below {w w' : World} {B p bS oS bT oT cS cT n : Nat} {g f : Nat → Nat} (h : AR w B p bS oS bT oT cS cT n g f) (hb : Below w.heap.size w w') (hB : B ≤ w.heap.size) : AR w' B p bS oS bT oT cS cT n g f :=
  ⟨block_below h.box hb, h.s.below (hb.mono hB), h.t.below (hb.mono hB)⟩
theorem AR.drewN {w : World} {B p bS oS bT oT cS cT n : Nat} {g f : Nat → Nat} (h : AR w B p bS oS bT oT cS cT n g f) (m : Nat) : AR (w.drewN m) B p bS oS bT oT cS cT n g f := ⟨h.box, h.s, h.t⟩
theorem AR.start {w : World} {bS oS bT oT cS cT n : Nat} {g f : Nat → Nat} (hs : RdN w w.heap.size bS oS n g) (ht : RdN w w.heap.size bT oT n f) :
    AR (w.alloc (.cells #[.slice (some ⟨bS, oS, none⟩) n cS, .slice (some ⟨bT, oT, none⟩) n cT] 24)) w.heap.size w.heap.size bS oS bT oT cS cT n g f :=
  ⟨heap_alloc_new w _, hs.below (below1 _ _), ht.below (below1 _ _)⟩
theorem cast3 (k : Nat) : ((k : Int) < 3) ↔ k < 3 := by omega
set_option maxHeartbeats 3200000 in
set_option maxRecDepth 1000000 in
theorem isact_any {g f : Nat → Nat} {n bS oS bT oT cS cT : Nat} (w : World) (hs : RdN w w.heap.size bS oS n g) (ht : RdN w w.heap.size bT oT n f) (hg : Prm g n) (hf : Prm f n) (hn : n ≤ 1152) :
    Calls Try.prog 61 #[.agg #[.slice (some ⟨bS, oS, none⟩) n cS, .slice (some ⟨bT, oT, none⟩) n cT]] w fun e w' => e = .returned (.bool (decide (relA g f n))) ∧ Below w.heap.size w w' := by
  have HA := Lib.hid (AR.start (cS := cS) (cT := cT) hs ht)
  have HB := Lib.hid (below1 w (.cells #[.slice (some ⟨bS, oS, none⟩) n cS, .slice (some ⟨bT, oT, none⟩) n cT] 24))
  obtain ⟨v, hv⟩ : ∃ v, v = decide (relA g f n) := ⟨_, rfl⟩
  rw [← hv]
  have HV : Hid (v = decide (relA g f n)) := hv
  have HG := Lib.hid hg
  have HF := Lib.hid hf
  clear hs ht hg hf hv
  go_enter Try.func61, Try.ntmps61
  go_wp2
  obtain ⟨W0, hW0⟩ : ∃ W0, W0 = w.alloc (.cells #[.slice (some ⟨bS, oS, none⟩) n cS, .slice (some ⟨bT, oT, none⟩) n cT] 24) := ⟨_, rfl⟩
  rw [← hW0] at HA HB ⊢
  clear hW0
  obtain ⟨⟨t1, t2⟩, _⟩ := two_of_block HA.out.box
  go_loopw [3, 4, 5, 9] (fun _ _ _ I wr => ∃ (k m : Nat), I = .int .i64 k ∧ k ≤ n ∧ wr = W0.drewN m ∧ Hid (∀ i, i < k → relI g f i)) (fun _ _ _ I _ => n - (intOf I).toNat)
  case atStart => exact ⟨0, 0, rfl, Nat.zero_le _, rfl, fun i h => by omega⟩
  case round =>
    obtain ⟨k, m, rfl, hk, rfl, HR⟩ := hrel
    by_cases hlt : k < n
    · have hlti : (k : Int) < (n : Int) := by omega
      have u1 := fun N => (show (W0.drewN N).cell? ⟨w.heap.size, 0, none⟩ = _ from t1)
      have u2 := fun N => (show (W0.drewN N).cell? ⟨w.heap.size, 1, none⟩ = _ from t2)
      clear t1 t2
      go_wp2
      go_loopw [4, 13] (fun X J wi => ∃ (j m : Nat), J = .int .i64 j ∧ j ≤ 3 ∧ X = .int .i64 (itr (fun x => f (g x)) j k : Nat) ∧ wi = W0.drewN m) (fun _ J _ => 3 - (intOf J).toNat)
      case atStart => exact ⟨0, m, rfl, by omega, rfl, rfl⟩
      case round =>
        obtain ⟨j, m, rfl, hj, rfl, rfl⟩ := hrel
        by_cases hj3 : j < 3
        · have hj3i : (j : Int) < 3 := by omega
          have hx : itr (fun x => f (g x)) j k < n := Prm.itr_lt (f := fun x => f (g x)) ⟨fun i hi => HF.out.lt _ (HG.out.lt _ hi), fun i j hi hj e => HG.out.inj _ _ hi hj (HF.out.inj _ _ (HG.out.lt _ hi) (HG.out.lt _ hj) e)⟩ hlt j
          have e1 : itr (fun x => f (g x)) (j + 1) k = f (g (itr (fun x => f (g x)) j k)) := rfl
          have HE := Lib.hid e1
          clear e1
          generalize itr (fun x => f (g x)) j k = x at *
          have hy := HG.out.lt x hx
          have hz := HF.out.lt _ hy
          have c1 := fun N => (show (W0.drewN N).cell? ⟨bS, oS + x, none⟩ = _ from HA.out.s.2 x hx)
          have c2 := fun N => (show (W0.drewN N).cell? ⟨bT, oT + g x, none⟩ = _ from HA.out.t.2 (g x) hy)
          generalize g x = y at *
          have hxi : (x : Int) < (n : Int) := by omega
          have hyi : (y : Int) < (n : Int) := by omega
          go_wp2
          go_quiet (fail)
          go_wp2
          go_roundw
          case rel => exact ⟨j + 1, _, by go_num, by omega, by rw [HE.out], rfl⟩
          case measure => simp [intOf]; omega
        · obtain rfl : j = 3 := by omega
          have h33 : ¬ (3 : Int) < 3 := by omega
          have e3 : itr (fun x => f (g x)) 3 k = f (g (f (g (f (g k))))) := rfl
          rw [e3]
          have HX : Hid (f (g (f (g (f (g k))))) < n) := HF.out.lt _ (HG.out.lt _ (HF.out.lt _ (HG.out.lt _ (HF.out.lt _ (HG.out.lt _ hlt)))))
          have h1 := HG.out.lt k hlt
          have h2 := HG.out.lt _ h1
          have h3 := HG.out.lt _ h2
          have h4 := HG.out.lt _ h3
          have c1 := fun N => (show (W0.drewN N).cell? ⟨bS, oS + k, none⟩ = _ from HA.out.s.2 k hlt)
          have c2 := fun N => (show (W0.drewN N).cell? ⟨bS, oS + g k, none⟩ = _ from HA.out.s.2 _ h1)
          have c3 := fun N => (show (W0.drewN N).cell? ⟨bS, oS + g (g k), none⟩ = _ from HA.out.s.2 _ h2)
          have c4 := fun N => (show (W0.drewN N).cell? ⟨bS, oS + g (g (g k)), none⟩ = _ from HA.out.s.2 _ h3)
          have HNo := Lib.hid (relA_no (g := g) (f := f) hlt)
          have HYes : Hid (g (g (g (g k))) = k → f (g (f (g (f (g k))))) = g (g k) → ∀ i, i < k + 1 → relI g f i) := fun a b i hi => by
            rcases Nat.lt_or_ge i k with h | h
            · exact HR.out i h
            · obtain rfl : i = k := by omega
              exact ⟨a, b⟩
          generalize f (g (f (g (f (g k))))) = x at *
          generalize g (g (g (g k))) = y4 at *
          generalize g (g (g k)) = y3 at *
          generalize g (g k) = y2 at *
          generalize g k = y1 at *
          have i1 : (y1 : Int) < (n : Int) := by omega
          have i2 : (y2 : Int) < (n : Int) := by omega
          have i3 : (y3 : Int) < (n : Int) := by omega
          by_cases ha : y4 = k
          · by_cases hb : x = y2
            · have HN := Lib.hid (HYes.out ha hb)
              subst ha hb
              go_wp2
              go_quiet (fail)
              go_wp2
              go_quiet (fail)
              go_wp2
              go_roundw
              case rel => exact ⟨y4 + 1, _, by go_num, by omega, rfl, HN.out⟩
              case measure => simp [intOf]; omega
            · have HF1 : Hid (v = false) := HV.out.trans (by simpa using HNo.out fun e => hb e.2)
              have hb' : ¬ (x : Int) = (y2 : Int) := by omega
              subst ha
              go_wp2
              go_quiet (fail)
              go_wp2
              go_quiet (fail)
              go_wp2
              go_ret
              exact ⟨by rw [HF1.out]; rfl, below_drewN (below_drewN (below_drewN HB.out _) _) _⟩
          · have HF1 : Hid (v = false) := HV.out.trans (by simpa using HNo.out fun e => ha e.1)
            have ha' : ¬ (y4 : Int) = (k : Int) := by omega
            go_wp2
            go_quiet (fail)
            go_wp2
            go_quiet (fail)
            go_wp2
            go_ret
            exact ⟨by rw [HF1.out]; rfl, below_drewN (below_drewN (below_drewN HB.out _) _) _⟩
    · obtain rfl : k = n := by omega
      have hk2 : ¬ (k : Int) < (k : Int) := by omega
      have HF1 : Hid (v = true) := HV.out.trans (decide_eq_true (p := relA g f k) HR.out)
      go_wp2
      go_ret
      exact ⟨by rw [HF1.out]; rfl, below_drewN HB.out _⟩
end Go.Proofs.Ytmikhkolbkdnpaa
namespace Go.Proofs.Ytmikhkolbkdnpaa
open Go.RowKit
set_option linter.unusedVariables false
set_option linter.unusedSimpArgs false

/-- A list of points as integers. -/
def iz (L : List Nat) : List Int := L.map fun x : Nat => (x : Int)
theorem iz_len (L : List Nat) : (iz L).length = L.length := by simp [iz]
theorem iz_append (L M : List Nat) : iz (L ++ M) = iz L ++ iz M := by simp [iz]
/-- The search's points (in an own row), the flags. -/
structure SV (w wr : World) (bb n : Nat) (v : Value) (L : List Nat) : Prop where
  own : wr.ownsRow w.heap.size 3 1 v L.length (zs (iz L))
  row : wr.rowIs bb 4 n (fun j => .bool (decide (j ∈ L)))
  bel : Below w.heap.size w wr
  lb : w.heap.size ≤ bb
section
variable {w wr w' : World} {bb n : Nat} {v v' : Value} {L : List Nat}
theorem SV.ne (h : SV w wr bb n v L) : some bb ≠ v.ownBlock := by
  intro e
  obtain ⟨_, hn | ⟨g', cap', cur, hv, _, hg2, _⟩⟩ := h.own
  · rw [hn.1] at e; cases e
  · subst hv
    injection e with e
    subst e
    obtain ⟨c, hc, _⟩ := h.row
    rw [hc] at hg2
    injection hg2 with h2
    injection h2 with _ h3
    exact absurd h3 (by decide)
theorem SV.get (h : SV w wr bb n v L) {k : Nat} (hk : k < L.length) : ∃ g c, v = .slice (some ⟨g, 0, none⟩) L.length c ∧ g < wr.heap.size ∧ wr.cell? ⟨g, k, none⟩ = some (.int .i64 (L.getD k 0 : Nat)) := by
  rcases h.own.2 with ⟨_, hn⟩ | ⟨g, cap, cur, rfl, hb, hg, hn, hc, hs, ht⟩
  · omega
  · have c1 := h.own.cells (g := g) rfl _ _ (zs_get (iz L) k (by rw [iz_len]; exact hk))
    have e : (⟨g, 0, none⟩ : Addr).add k = ⟨g, 0 + k, none⟩ := by unfold Addr.add; split <;> simp_all
    rw [e, Nat.zero_add] at c1
    refine ⟨g, cap, rfl, lt_of_block hg, ?_⟩
    rw [c1, List.getD_eq_getElem?_getD, List.getElem?_eq_getElem hk]
    simp [iz]
theorem SV.drewN (h : SV w wr bb n v L) (m : Nat) : SV w (wr.drewN m) bb n v L := ⟨own_low h.own fun _ _ => rfl, h.row.of_block rfl, below_drewN h.bel m, h.lb⟩
theorem SV.seen (h : SV w wr bb n v L) {x : Nat} (hx : x ∈ L) : vis L x = L := if_pos hx
/-- A point that was not seen: its flag is set, and it is appended. -/
theorem SV.push (h : SV w wr bb n v L) {x : Nat} {o : Obj} (hx : x ∉ L) (hown : w'.ownsRow w.heap.size 3 1 v' (L.length + 1) (zs (iz L) ++ [.int .i64 (x : Nat)])) (hg : ((wr.setCell ⟨bb, x, none⟩ (.bool true)).alloc o).grownBy w' v.ownBlock) :
    SV w w' bb n v' (vis L x) := by
  have hv : vis L x = L ++ [x] := if_neg hx
  have hlt := h.row.lt
  have hrow : (wr.setCell ⟨bb, x, none⟩ (.bool true)).rowIs bb 4 n (fun j => .bool (decide (j ∈ L ++ [x]))) := World.rowIs.congr (h.row.set x (.bool true)) fun j _ => by
    by_cases e : j = x
    · subst e; simp
    · rw [if_neg e]; simp [e]
  rw [hv]
  refine ⟨by rw [List.length_append, iz_append, zs_append]; exact hown, ?_, ?_, h.lb⟩
  · refine hrow.of_block ?_
    rw [hg.block bb (by simp; omega) h.ne, Below.heap_alloc _ _ _ (by simpa using hlt)]
  · have h0 : Below w.heap.size w (wr.setCell ⟨bb, x, none⟩ (.bool true)) := h.bel.setCell h.lb _
    have h1 := h0.alloc (by have := h.bel.size; simpa using this) o
    exact h1.grown hg (by have := h.bel.size; simp; omega) fun j hj => (h.own.lt j hj).1
end
/-- The boxes of the closure over the points. -/
structure VB (w wr : World) (xs : Array Value) (bp bs bb n : Nat) (v : Value) (L : List Nat) : Prop where
  sv : SV w wr bb n v L
  p : wr.heap[bp]? = some (.cells #[v] 22 (0, 0))
  s : wr.heap[bs]? = some (.cells #[.slice (some ⟨bb, 0, none⟩) n n] 89 (0, 0))
  lp : w.heap.size ≤ bp
  x : wr.heap[w.heap.size]? = some (.cells xs 24 (0, 0))
theorem one_of_block {w : World} {g : Nat} {a : Value} {t : TypeId} (h : w.heap[g]? = some (.cells #[a] t (0, 0))) : w.cell? ⟨g, 0, none⟩ = some a ∧ ∀ j, w.frozen? ⟨g, j, none⟩ = false :=
  ⟨by rw [cell_of_row w g 0 _ t _ h]; rfl, fun j => frozen_of_row w g j _ t h⟩
theorem VB.push {w wr w' : World} {xs : Array Value} {bp bs bb n x g c : Nat} {v : Value} {L : List Nat} (h : VB w wr xs bp bs bb n v L) (hx : x ∉ L) {o : Obj} (hown : w'.ownsRow w.heap.size 3 1 (.slice (some ⟨g, 0, none⟩) (L.length + 1) c) (L.length + 1) (zs (iz L) ++ [.int .i64 (x : Nat)]))
    (hg : ((wr.setCell ⟨bb, x, none⟩ (.bool true)).alloc o).grownBy w' v.ownBlock) : VB w (w'.setCell ⟨bp, 0, none⟩ (.slice (some ⟨g, 0, none⟩) (L.length + 1) c)) xs bp bs bb n (.slice (some ⟨g, 0, none⟩) (L.length + 1) c) (vis L x) := by
  have hV := h.sv.push hx hown hg
  have go : ∀ {k : Nat} {cs : Array Value} {t : TypeId}, wr.heap[k]? = some (.cells cs t (0, 0)) → t ≠ 3 → t ≠ 4 → w'.heap[k]? = some (.cells cs t (0, 0)) := fun {k cs t} hc h1 h2 => by
    have hkb : k ≠ bb := by
      intro e
      subst e
      obtain ⟨c', hc', _⟩ := h.sv.row
      rw [hc] at hc'
      injection hc' with hc'
      injection hc' with _ h3
      exact h2 h3
    have hc1 := set_ne (j := x) hc hkb (.bool true)
    have hk := lt_of_block hc1
    refine (hg.block k (by simp at hk ⊢; omega) ?_).trans (block_alloc hc1 o)
    intro e
    obtain ⟨_, hn | ⟨g', cap', cur, hv, _, hg2, _⟩⟩ := h.sv.own
    · rw [hn.1] at e; cases e
    · subst hv
      injection e with e
      subst e
      rw [hc] at hg2
      injection hg2 with h2
      injection h2 with _ h3
      exact h1 h3
  have hp := go h.p (by decide) (by decide)
  have hs := go h.s (by decide) (by decide)
  have hx2 := go h.x (by decide) (by decide)
  have nb : ∀ {k : Nat} {cs : Array Value} {t : TypeId}, w'.heap[k]? = some (.cells cs t (0, 0)) → t ≠ 22 → k ≠ bp := fun {k cs t} hc ht e => by
    subst e
    rw [hc] at hp
    injection hp with hp
    injection hp with _ h3
    exact ht h3
  have hrow : (w'.setCell ⟨bp, 0, none⟩ (.slice (some ⟨g, 0, none⟩) (L.length + 1) c)).rowIs bb 4 n (fun j => .bool (decide (j ∈ vis L x))) := by
    obtain ⟨c', hc', h1, h2⟩ := hV.row
    exact ⟨c', set_ne hc' (nb hc' (by decide)) _, h1, h2⟩
  have hvl : (vis L x).length = L.length + 1 := by rw [show vis L x = L ++ [x] from if_neg hx]; simp
  have hown' : (w'.setCell ⟨bp, 0, none⟩ (.slice (some ⟨g, 0, none⟩) (L.length + 1) c)).ownsRow w.heap.size 3 1 (.slice (some ⟨g, 0, none⟩) (L.length + 1) c) (vis L x).length (zs (iz (vis L x))) := by
    obtain ⟨h1, h2 | ⟨g', cap, cur, hv, hb, hg', hn, hc, hs', ht⟩⟩ := hV.own
    · exact ⟨h1, .inl h2⟩
    · exact ⟨h1, .inr ⟨g', cap, cur, hv, hb, set_ne hg' (nb hg' (by decide)) _, hn, hc, hs', ht⟩⟩
  exact ⟨⟨hown', hrow, hV.bel.setCell h.lp _, hV.lb⟩, heap_setCell_same _ bp 0 #[v] 22 _ hp, set_ne hs (nb hs (by decide)) _, h.lp, set_ne hx2 (nb hx2 (by decide)) _⟩
set_option maxHeartbeats 3200000 in
set_option maxRecDepth 1000000 in
theorem svisit_any {w wr : World} {xs : Array Value} {bp bs bb n x : Nat} {v : Value} {L : List Nat} (h : VB w wr xs bp bs bb n v L) (hx : x < n) (hn : n ≤ 1152) (hL : L.length ≤ 1152) :
    Calls Try.prog 62 #[.int .i64 (x : Nat), .pointer (some ⟨bs, 0, none⟩), .pointer (some ⟨bp, 0, none⟩)] wr fun e w' => ∃ v', e = .returned (.tuple #[]) ∧ VB w w' xs bp bs bb n v' (vis L x) := by
  obtain ⟨i0, hi, z0, z1, z2⟩ := info_parts Try.infoInt
  have hxi : (x : Int) < (n : Int) := by omega
  have H := Lib.hid h
  obtain ⟨s1, s2⟩ := one_of_block h.s
  have hcs := h.sv.row.cell (i := x) hx
  have hfz := h.sv.row.frozen x
  obtain ⟨A0, c0, rfl⟩ := own_len h.sv.own
  clear h
  go_enter Try.func62, Try.ntmps62
  by_cases hm : x ∈ L
  · rw [show decide (x ∈ L) = true from decide_eq_true hm] at hcs
    have HM := Lib.hid (H.out.sv.seen hm)
    clear hm
    go_wp2
    go_end0
    exact ⟨_, rfl, by rw [HM.out]; exact H.out⟩
  · rw [show decide (x ∈ L) = false from decide_eq_false hm] at hcs
    have HM := Lib.hid hm
    clear hm
    have hbp : bp ≠ bb := by
      intro e
      obtain ⟨c', hc', _⟩ := H.out.sv.row
      rw [← e, H.out.p] at hc'
      injection hc' with hc'
      injection hc' with _ h3
      exact absurd h3 (by decide)
    obtain ⟨p1, p2⟩ := one_of_block (set_ne (j := x) H.out.p hbp (.bool true))
    have hlp := lt_of_block H.out.p
    have hown : (wr.setCell ⟨bb, x, none⟩ (.bool true)).ownsRow w.heap.size 3 1 (.slice A0 L.length c0) L.length (zs (iz L)) := by
      refine H.out.sv.own.kept (row := some bb) ⟨rfl, rfl, rfl, by simp, fun k _ hk => Below.heap_setCell wr ⟨bb, x, none⟩ _ k (fun e => hk (by rw [e]))⟩ (.inr fun e => H.out.sv.ne e.symm)
    have hsz := H.out.sv.bel.size
    have hzz : (wr.setCell ⟨bb, x, none⟩ (.bool true)).heap.size = wr.heap.size := by simp
    obtain ⟨W, hW⟩ : ∃ W, W = wr.setCell ⟨bb, x, none⟩ (.bool true) := ⟨_, rfl⟩
    have HW := Lib.hid hW
    rw [← hW] at p1 p2 hown hzz
    have HPP : Hid (∀ {w4 : World}, (W.alloc (.cells #[.int .i64 (x : Nat)] 3)).grownBy w4 (Value.slice A0 L.length c0).ownBlock → w4.heap[bp]? = some (.cells #[.slice A0 L.length c0] 22 (0, 0))) := fun {w4} hg => by
      have hc : W.heap[bp]? = some (.cells #[.slice A0 L.length c0] 22 (0, 0)) := by rw [hW]; exact set_ne H.out.p hbp _
      refine (hg.block bp (by have := lt_of_block hc; simp; omega) ?_).trans (block_alloc hc _)
      intro e
      obtain ⟨_, hn | ⟨g', cap', cur, hv, _, hg2, _⟩⟩ := H.out.sv.own
      · rw [hn.1] at e; cases e
      · rw [hv] at e
        injection e with e
        subst e
        rw [H.out.p] at hg2
        injection hg2 with h2
        injection h2 with _ h3
        exact absurd h3 (by decide)
    go_upto_region 2 with fail
    rw [← hW]
    clear hW
    have hlp2 : bp < W.heap.size := by omega
    go_wp2_with (first
      | (at_builtin; (refine wpList_append_own_at _ rfl _ _ 22 rfl w.heap.size 3 i0 (.int .i64 0) 1 8 Try.underlying22 hi z0 z1 z2 rfl (by decide) _ _ _ rfl (hown.alloc _) ⟨wr.heap.size, 0, none⟩ 1 1 [.int .i64 (x : Nat)] rfl rfl (by rw [← hzz]; exact cell_one_new' _ _ _) (fun x hx => by simp at hx; rw [hx]; rfl) (by unfold maxLen; omega) (by omega) (by simp; omega) ?_); intro v' w4 hown4 hg4 hnil4 hat4; obtain ⟨A2, c2, rfl⟩ := own_len hown4; have HR4 := Lib.hid hown4; have HG4 : Hid ((W.alloc (.cells #[.int .i64 (x : Nat)] 3)).grownBy w4 (Value.slice A0 L.length c0).ownBlock) := hg4; have HP4 : Hid (w4.heap[bp]? = some (.cells #[.slice A0 L.length c0] 22 (0, 0))) := HPP.out hg4; have l4 := (one_of_block HP4.out).1; have f4 := (one_of_block HP4.out).2; have hz4 := lt_of_block HP4.out; clear hown4 hg4 hnil4 hat4)
      | fail)
    have hA2 : ∃ g, A2 = some ⟨g, 0, none⟩ := by
      rcases HR4.out.2 with ⟨_, h⟩ | ⟨g, _, _, h, _⟩
      · omega
      · cases h; exact ⟨g, rfl⟩
    obtain ⟨g, rfl⟩ := hA2
    have hWe := HW.out
    subst hWe
    go_end0
    exact ⟨_, rfl, H.out.push HM.out HR4.out HG4.out⟩
theorem VB.drew {w wr : World} {xs : Array Value} {bp bs bb n : Nat} {v : Value} {L : List Nat} (h : VB w wr xs bp bs bb n v L) : VB w wr.drew xs bp bs bb n v L := ⟨⟨own_low h.sv.own fun _ _ => rfl, h.sv.row.of_block rfl, h.sv.bel.drew, h.sv.lb⟩, h.p, h.s, h.lp, h.x⟩
theorem VB.load {w wr : World} {xs : Array Value} {bp bs bb n k : Nat} {v : Value} {L : List Nat} (h : VB w wr xs bp bs bb n v L) (hk : k < L.length) : ∃ g c, v = .slice (some ⟨g, 0, none⟩) L.length c ∧ wr.cell? ⟨bp, 0, none⟩ = some (.slice (some ⟨g, 0, none⟩) L.length c) ∧ wr.cell? ⟨g, k, none⟩ = some (.int .i64 (L.getD k 0 : Nat)) := by
  obtain ⟨g, c, rfl, _, h2⟩ := h.sv.get hk
  exact ⟨g, c, rfl, (one_of_block h.p).1, h2⟩
/-- The world before the loop, its first flag not yet set. -/
def sw5 (w : World) (a b : Value) (i n : Nat) : World := ((((w.alloc (.cells #[a, b] 24)).alloc (.cells #[.int .i64 (i : Nat)] 3)).alloc (.cells #[.slice (some ⟨w.heap.size + 1, 0, none⟩) 1 1] 22)).alloc (.cells (madeCells #[.bool false] n) 4)).alloc (.cells #[.slice (some ⟨w.heap.size + 1 + 1 + 1, 0, none⟩) n n] 89)
theorem sw5_row (w : World) (a b : Value) (i n : Nat) : (sw5 w a b i n).rowIs (w.heap.size + 1 + 1 + 1) 4 n (fun _ => .bool false) := by
  have hr := World.rowIs_made (((w.alloc (.cells #[a, b] 24)).alloc (.cells #[.int .i64 (i : Nat)] 3)).alloc (.cells #[.slice (some ⟨w.heap.size + 1, 0, none⟩) 1 1] 22)) (.bool false) n 4
  have := hr.alloc (.cells #[.slice (some ⟨w.heap.size + 1 + 1 + 1, 0, none⟩) n n] 89)
  simpa [sw5] using this
theorem sw5_s (w : World) (a b : Value) (i n : Nat) : (sw5 w a b i n).heap[w.heap.size + 1 + 1 + 1 + 1]? = some (.cells #[.slice (some ⟨w.heap.size + 1 + 1 + 1, 0, none⟩) n n] 89 (0, 0)) := by
  have := heap_alloc_new ((((w.alloc (.cells #[a, b] 24)).alloc (.cells #[.int .i64 (i : Nat)] 3)).alloc (.cells #[.slice (some ⟨w.heap.size + 1, 0, none⟩) 1 1] 22)).alloc (.cells (madeCells #[.bool false] n) 4)) (.cells #[.slice (some ⟨w.heap.size + 1 + 1 + 1, 0, none⟩) n n] 89)
  simpa [sw5] using this
theorem sw5_vb (w : World) (a b : Value) (i n : Nat) : VB w ((sw5 w a b i n).setCell ⟨w.heap.size + 1 + 1 + 1, i, none⟩ (.bool true)) #[a, b] (w.heap.size + 1 + 1) (w.heap.size + 1 + 1 + 1 + 1) (w.heap.size + 1 + 1 + 1) n (.slice (some ⟨w.heap.size + 1, 0, none⟩) 1 1) [i] := by
  have at_ : ∀ (W : World) (o : Obj) {g : Nat}, g = W.heap.size → (W.alloc o).heap[g]? = some o := fun W o g hg => by rw [hg]; exact heap_alloc_new W o
  have k0 : (sw5 w a b i n).heap[w.heap.size]? = some (.cells #[a, b] 24 (0, 0)) := block_alloc (block_alloc (block_alloc (block_alloc (at_ _ _ rfl) _) _) _) _
  have k1 : (sw5 w a b i n).heap[w.heap.size + 1]? = some (.cells #[.int .i64 (i : Nat)] 3 (0, 0)) := block_alloc (block_alloc (block_alloc (at_ _ _ (by simp)) _) _) _
  have k2 : (sw5 w a b i n).heap[w.heap.size + 1 + 1]? = some (.cells #[.slice (some ⟨w.heap.size + 1, 0, none⟩) 1 1] 22 (0, 0)) := block_alloc (block_alloc (at_ _ _ (by simp)) _) _
  have k4 : (sw5 w a b i n).heap[w.heap.size + 1 + 1 + 1 + 1]? = some (.cells #[.slice (some ⟨w.heap.size + 1 + 1 + 1, 0, none⟩) n n] 89 (0, 0)) := at_ _ _ (by simp)
  have kb : Below w.heap.size w (sw5 w a b i n) := ((below2 w _ _).trans ((below2 _ _ _).mono (by simp; omega))).trans ((below1 _ _).mono (by simp; omega))
  have hr2 : ((sw5 w a b i n).setCell ⟨w.heap.size + 1 + 1 + 1, i, none⟩ (.bool true)).rowIs (w.heap.size + 1 + 1 + 1) 4 n (fun j => .bool (decide (j ∈ [i]))) := by
    refine World.rowIs.congr (World.rowIs.set (sw5_row w a b i n) i (.bool true)) fun j _ => ?_
    by_cases e : j = i
    · simp [e]
    · simp [e]
  exact ⟨⟨⟨rfl, .inr ⟨w.heap.size + 1, 1, _, rfl, by omega, set_ne k1 (by omega) _, by simp, by unfold maxLen; omega, rfl, rfl⟩⟩, hr2, kb.setCell (by show _ ≤ w.heap.size + 1 + 1 + 1; omega) _, by omega⟩, set_ne k2 (by omega) _, set_ne k4 (by omega) _, by omega, set_ne k0 (by omega) _⟩
set_option maxHeartbeats 3200000 in
set_option maxRecDepth 1000000 in
theorem bsearch_any {g f : Nat → Nat} {n bS oS bT oT cS cT i : Nat} (w : World) (hs : RdN w w.heap.size bS oS n g) (ht : RdN w w.heap.size bT oT n f) (hg : Prm g n) (hf : Prm f n) (hi : i < n) (hn : n ≤ 1152) :
    Calls Try.prog 38 #[.agg #[.slice (some ⟨bS, oS, none⟩) n cS, .slice (some ⟨bT, oT, none⟩) n cT], .int .i64 (i : Nat)] w fun e w' => ∃ A c, e = .returned (.slice A (bst g f i n).length c) ∧ w'.ownsRow w.heap.size 3 1 (.slice A (bst g f i n).length c) (bst g f i n).length (zs (iz (bst g f i n))) ∧ Below w.heap.size w w' := by
  have hmk := fun W => mk_bool n W hn
  have HG := Lib.hid hg
  have HF := Lib.hid hf
  have hii : (i : Int) < (n : Int) := by omega
  have HV := Lib.hid (sw5_vb w (.slice (some ⟨bS, oS, none⟩) n cS) (.slice (some ⟨bT, oT, none⟩) n cT) i n)
  have HS := Lib.hid hs
  have HT := Lib.hid ht
  clear hs ht hg hf
  go_enter Try.func38, Try.ntmps38
  have HR0 := Lib.hid (sw5_row w (.slice (some ⟨bS, oS, none⟩) n cS) (.slice (some ⟨bT, oT, none⟩) n cT) i n)
  have HS0 := Lib.hid (sw5_s w (.slice (some ⟨bS, oS, none⟩) n cS) (.slice (some ⟨bT, oT, none⟩) n cT) i n)
  go_upto_region 3 with fail
  obtain ⟨W1, hW1⟩ : ∃ W1, W1 = sw5 w (.slice (some ⟨bS, oS, none⟩) n cS) (.slice (some ⟨bT, oT, none⟩) n cT) i n := ⟨_, rfl⟩
  have hW1' := hW1
  unfold sw5 at hW1'
  rw [← hW1'] 
  rw [← hW1] at HV HR0 HS0
  clear hW1 hW1' hmk
  have hcs := HR0.out.cell (i := i) hi
  have hfz := HR0.out.frozen i
  have hrlt := HR0.out.lt
  have l1 := (one_of_block HS0.out).1
  go_wp2
  obtain ⟨W2, hW2⟩ : ∃ W2, W2 = W1.setCell ⟨w.heap.size + 1 + 1 + 1, i, none⟩ (.bool true) := ⟨_, rfl⟩
  rw [← hW2] at HV ⊢
  clear hW2 hcs hfz hrlt l1 HR0 HS0
  have hsz2 := HV.out.sv.bel.size
  go_loopw [8] (fun I wr => ∃ (k : Nat) (v : Value), I = .int .i64 k ∧ k ≤ (bst g f i k).length ∧ Hid (VB w wr #[.slice (some ⟨bS, oS, none⟩) n cS, .slice (some ⟨bT, oT, none⟩) n cT] (w.heap.size + 1 + 1) (w.heap.size + 1 + 1 + 1 + 1) (w.heap.size + 1 + 1 + 1) n v (bst g f i k))) (fun I _ => n - (intOf I).toNat)
  case atStart => exact ⟨0, _, rfl, Nat.zero_le _, HV.out⟩
  case round =>
    clear HV hsz2
    obtain ⟨k, v, rfl, hk, HV⟩ := hrel
    have hle := bst_le HG.out HF.out hi k
    have hp1 := (one_of_block HV.out.p).1
    by_cases hlt : k < (bst g f i k).length
    · obtain ⟨g1, c1, rfl, q1, q2⟩ := HV.out.load hlt
      have HStep := Lib.hid (bst_step hlt)
      have hx := bst_lt HG.out HF.out hi k _ (getD_mem hlt)
      have hL1 := vis_len (bst g f i k) (g ((bst g f i k).getD k 0))
      have hL2 := vis_len (vis (bst g f i k) (g ((bst g f i k).getD k 0))) (f ((bst g f i k).getD k 0))
      have hx2 := vis_get (x := g ((bst g f i k).getD k 0)) hlt
      have hle2 := bst_le HG.out HF.out hi (k + 1)
      rw [HStep.out] at hle2
      generalize bst g f i k = L at *
      generalize L.getD k 0 = x at *
      have hy := HG.out.lt x hx
      have hz := HF.out.lt x hx
      have HL1 : Hid (vis L (g x) = vis L (g x)) := Lib.hid rfl
      obtain ⟨M, hM⟩ : ∃ M, M = vis L (g x) := ⟨_, rfl⟩
      rw [← hM] at hL1 hL2 hx2 HStep hle2
      have HC1 : Hid (∀ W v, VB w W #[.slice (some ⟨bS, oS, none⟩) n cS, .slice (some ⟨bT, oT, none⟩) n cT] (w.heap.size + 1 + 1) (w.heap.size + 1 + 1 + 1 + 1) (w.heap.size + 1 + 1 + 1) n v L → Calls Try.prog 62 #[.int .i64 (g x : Nat), .pointer (some ⟨w.heap.size + 1 + 1 + 1 + 1, 0, none⟩), .pointer (some ⟨w.heap.size + 1 + 1, 0, none⟩)] W fun e w' => ∃ v', e = .returned (.tuple #[]) ∧ VB w w' #[.slice (some ⟨bS, oS, none⟩) n cS, .slice (some ⟨bT, oT, none⟩) n cT] (w.heap.size + 1 + 1) (w.heap.size + 1 + 1 + 1 + 1) (w.heap.size + 1 + 1 + 1) n v' M) := fun W v h => by rw [hM]; exact svisit_any h hy hn (by omega)
      have HC2 : Hid (∀ W v, VB w W #[.slice (some ⟨bS, oS, none⟩) n cS, .slice (some ⟨bT, oT, none⟩) n cT] (w.heap.size + 1 + 1) (w.heap.size + 1 + 1 + 1 + 1) (w.heap.size + 1 + 1 + 1) n v M → Calls Try.prog 62 #[.int .i64 (f x : Nat), .pointer (some ⟨w.heap.size + 1 + 1 + 1 + 1, 0, none⟩), .pointer (some ⟨w.heap.size + 1 + 1, 0, none⟩)] W fun e w' => ∃ v', e = .returned (.tuple #[]) ∧ VB w w' #[.slice (some ⟨bS, oS, none⟩) n cS, .slice (some ⟨bT, oT, none⟩) n cT] (w.heap.size + 1 + 1) (w.heap.size + 1 + 1 + 1 + 1) (w.heap.size + 1 + 1 + 1) n v' (bst g f i (k + 1))) := fun W v h => by rw [HStep.out]; exact svisit_any h hz hn (by omega)
      have hxn : (x : Int) < (n : Int) := by omega
      have HV1 := Lib.hid HV.out.drew
      obtain ⟨⟨t1, t2⟩, _⟩ := two_of_block HV1.out.x
      have s1 : wr.drew.cell? ⟨bS, oS + x, none⟩ = some (.int .i64 (g x : Nat)) := (HV1.out.sv.bel.cell (p := ⟨bS, oS + x, none⟩) HS.out.1).trans (HS.out.2 x hx)
      have q1' : wr.drew.cell? ⟨w.heap.size + 1 + 1, 0, none⟩ = some (.slice (some ⟨g1, 0, none⟩) L.length c1) := q1
      have q2' : wr.drew.cell? ⟨g1, k, none⟩ = some (.int .i64 (x : Nat)) := q2
      have hki : (k : Int) < (L.length : Int) := by omega
      have hkM : k < M.length := by omega
      clear hM HL1
      go_wp2
      clear q1 q2 hp1
      refine wp_region_still_tail 9 (by kernel_rfl) (by kernel_rfl) ?_
      simp only [List.take_succ_cons, List.take_zero, List.drop_succ_cons, List.drop_zero]
      change wpStill _ _ (World.drew _) (fun a' => wpList _ _ _ _ a' (World.drew _)) _ _
      repeat still_step
      refine wpStill_nil ?_
      go_wp2_with (first
        | (go_at_call 62; (refine (HC1.out _ _ HV1.out).mono ?_); rintro e w1 ⟨v1, rfl, h1⟩; have HV2 := Lib.hid h1.drew; obtain ⟨g2, c2, rfl, r1, r2⟩ := h1.load hkM; clear h1)
        | fail)
      obtain ⟨⟨t1', t2'⟩, _⟩ := two_of_block HV2.out.x
      have s2 : w1.drew.cell? ⟨bT, oT + x, none⟩ = some (.int .i64 (f x : Nat)) := (HV2.out.sv.bel.cell (p := ⟨bT, oT + x, none⟩) HT.out.1).trans (HT.out.2 x hx)
      rw [hx2] at r2
      have r1' : w1.drew.cell? ⟨w.heap.size + 1 + 1, 0, none⟩ = some (.slice (some ⟨g2, 0, none⟩) M.length c2) := r1
      have r2' : w1.drew.cell? ⟨g2, k, none⟩ = some (.int .i64 (x : Nat)) := r2
      have hkMi : (k : Int) < (M.length : Int) := by omega
      clear r1 r2 q1' q2' t1 t2 s1
      refine wp_region_still_tail 9 (by kernel_rfl) (by kernel_rfl) ?_
      simp only [List.take_succ_cons, List.take_zero, List.drop_succ_cons, List.drop_zero]
      change wpStill _ _ (World.drew _) (fun a' => wpList _ _ _ _ a' (World.drew _)) _ _
      repeat still_step
      refine wpStill_nil ?_
      go_wp2_with (first
        | (go_at_call 62; (refine (HC2.out _ _ HV2.out).mono ?_); rintro e w2 ⟨v2, rfl, h2⟩; have HV3 := Lib.hid h2; clear h2)
        | fail)
      go_roundw
      case rel => exact ⟨k + 1, v2, by go_num, by rw [HStep.out]; omega, HV3.out⟩
      case measure => simp [intOf]; omega
    · have hkL : k = (bst g f i k).length := by omega
      have hst : bst g f i n = bst g f i k := bst_stay (by omega) n (by omega)
      obtain ⟨A, c, rfl⟩ := own_len HV.out.sv.own
      have hk2 : ¬ (k : Int) < ((bst g f i k).length : Int) := by omega
      have HE := Lib.hid hst
      clear hst
      generalize bst g f i k = L at *
      subst hkL
      clear hk hle hlt
      go_wp2
      refine bodyPost_ret (v := .slice A L.length c) ?_ rfl ⟨A, c, by rw [HE.out], by rw [HE.out]; exact HV.out.sv.own, HV.out.sv.bel⟩
      simp [results, Try.results38, go_sem]
theorem cell_one_new2 (w : World) (a : Value) (t : TypeId) {g : Nat} (hg : g = w.heap.size) : ∀ j u, [a][j]? = some u → (w.alloc (.cells #[a] t)).cell? ((⟨g, 0, none⟩ : Addr).add j) = some u := by
  subst hg; exact cell_one_new' w a t
end Go.Proofs.Ytmikhkolbkdnpaa
namespace Go.Proofs.Ytmikhkolbkdnpaa
open Go.RowKit
set_option linter.unusedVariables false
set_option linter.unusedSimpArgs false

structure VR (w wr : World) (xs : Array Value) (bb n : Nat) (v : Value) (L : List Nat) : Prop where
  sv : SV w wr bb n v L
  x : wr.heap[w.heap.size]? = some (.cells xs 24 (0, 0))
theorem VR.drewN {w wr : World} {xs : Array Value} {bb n : Nat} {v : Value} {L : List Nat} (h : VR w wr xs bb n v L) (m : Nat) : VR w (wr.drewN m) xs bb n v L := ⟨h.sv.drewN m, h.x⟩
theorem VR.push {w wr w' : World} {xs : Array Value} {bb n x : Nat} {v v' : Value} {L : List Nat} {o : Obj} (h : VR w wr xs bb n v L) (hx : x ∉ L) (hown : w'.ownsRow w.heap.size 3 1 v' (L.length + 1) (zs (iz L) ++ [.int .i64 (x : Nat)])) (hg : ((wr.setCell ⟨bb, x, none⟩ (.bool true)).alloc o).grownBy w' v.ownBlock) : VR w w' xs bb n v' (vis L x) := by
  refine ⟨h.sv.push hx hown hg, ?_⟩
  have hkb : w.heap.size ≠ bb := by
    intro e
    obtain ⟨c', hc', _⟩ := h.sv.row
    rw [← e, h.x] at hc'
    injection hc' with hc'
    injection hc' with _ h3
    exact absurd h3 (by decide)
  have hc1 := set_ne (j := x) h.x hkb (.bool true)
  have hk := lt_of_block hc1
  refine (hg.block _ (by simp at hk ⊢; omega) ?_).trans (block_alloc hc1 o)
  intro e
  obtain ⟨_, hn | ⟨g', cap', cur, hv, _, hg2, _⟩⟩ := h.sv.own
  · rw [hn.1] at e; cases e
  · subst hv
    injection e with e
    subst e
    rw [h.x] at hg2
    injection hg2 with h2
    injection h2 with _ h3
    exact absurd h3 (by decide)
def rs3 (w : World) (a b : Value) (n : Nat) : World := (w.alloc (.cells #[a, b] 24)).alloc (.cells (madeCells #[.bool false] n) 4)
theorem rs3_row (w : World) (a b : Value) (n : Nat) : (rs3 w a b n).rowIs (w.heap.size + 1) 4 n (fun _ => .bool false) := by
  have hr := World.rowIs_made (w.alloc (.cells #[a, b] 24)) (.bool false) n 4
  simpa [rs3] using hr
theorem rs3_vr (w : World) (a b : Value) (i n : Nat) : VR w (((rs3 w a b n).setCell ⟨w.heap.size + 1, i, none⟩ (.bool true)).alloc (.cells #[.int .i64 (i : Nat)] 3)) #[a, b] (w.heap.size + 1) n (.slice (some ⟨w.heap.size + 1 + 1, 0, none⟩) 1 1) [i] := by
  have k0 : (rs3 w a b n).heap[w.heap.size]? = some (.cells #[a, b] 24 (0, 0)) := block_alloc (heap_alloc_new _ _) _
  have ks : (rs3 w a b n).heap.size = w.heap.size + 1 + 1 := by simp [rs3]
  have kb : Below w.heap.size w (rs3 w a b n) := below2 w _ _
  have hr2 : ((rs3 w a b n).setCell ⟨w.heap.size + 1, i, none⟩ (.bool true)).rowIs (w.heap.size + 1) 4 n (fun j => .bool (decide (j ∈ [i]))) := by
    refine World.rowIs.congr (World.rowIs.set (rs3_row w a b n) i (.bool true)) fun j _ => ?_
    by_cases e : j = i
    · simp [e]
    · simp [e]
  have k1 : (((rs3 w a b n).setCell ⟨w.heap.size + 1, i, none⟩ (.bool true)).alloc (.cells #[.int .i64 (i : Nat)] 3)).heap[w.heap.size + 1 + 1]? = some (.cells #[.int .i64 (i : Nat)] 3 (0, 0)) := by
    have := heap_alloc_new ((rs3 w a b n).setCell ⟨w.heap.size + 1, i, none⟩ (.bool true)) (.cells #[.int .i64 (i : Nat)] 3)
    simpa [ks] using this
  exact ⟨⟨⟨rfl, .inr ⟨w.heap.size + 1 + 1, 1, _, rfl, by omega, k1, by simp, by unfold maxLen; omega, rfl, rfl⟩⟩, hr2.alloc _, (kb.setCell (by show _ ≤ w.heap.size + 1; omega) _).alloc (by simp [ks]; omega) _, by omega⟩, block_alloc (set_ne k0 (by omega) _) _⟩
/-- The list behind j of the round's two steps. -/
def lst2 (g f : Nat → Nat) (L : List Nat) (x : Nat) : Nat → List Nat
  | 0 => L
  | 1 => vis L (g x)
  | _ => vis (vis L (g x)) (f x)
def to2 (g f : Nat → Nat) (x : Nat) : Nat → Nat
  | 0 => g x
  | _ => f x
theorem lst2_step (g f : Nat → Nat) (L : List Nat) (x : Nat) : ∀ j, j < 2 → lst2 g f L x (j + 1) = vis (lst2 g f L x j) (to2 g f x j)
  | 0, _ => rfl
  | 1, _ => rfl
theorem lst2_len (g f : Nat → Nat) (L : List Nat) (x : Nat) : ∀ j, j ≤ 2 → L.length ≤ (lst2 g f L x j).length ∧ (lst2 g f L x j).length ≤ (vis (vis L (g x)) (f x)).length
  | 0, _ => ⟨Nat.le_refl _, Nat.le_trans (vis_len _ _) (vis_len _ _)⟩
  | 1, _ => ⟨vis_len _ _, vis_len _ _⟩
  | 2, _ => ⟨Nat.le_trans (vis_len _ _) (vis_len _ _), Nat.le_refl _⟩
theorem lst2_get {g f : Nat → Nat} {L : List Nat} {x k : Nat} (hk : k < L.length) : ∀ j, j ≤ 2 → (lst2 g f L x j).getD k 0 = L.getD k 0
  | 0, _ => rfl
  | 1, _ => vis_get hk
  | 2, _ => (vis_get (Nat.lt_of_lt_of_le hk (vis_len _ _))).trans (vis_get hk)
set_option maxHeartbeats 3200000 in
set_option maxRecDepth 1000000 in
theorem rsearch_any {g f : Nat → Nat} {n bS oS bT oT cS cT i : Nat} (w : World) (hs : RdN w w.heap.size bS oS n g) (ht : RdN w w.heap.size bT oT n f) (hg : Prm g n) (hf : Prm f n) (hi : i < n) (hn : n ≤ 1152) :
    Calls Try.prog 76 #[.agg #[.slice (some ⟨bS, oS, none⟩) n cS, .slice (some ⟨bT, oT, none⟩) n cT], .int .i64 (i : Nat)] w fun e w' => ∃ A c, e = .returned (.slice A (bst g f i n).length c) ∧ w'.ownsRow w.heap.size 3 1 (.slice A (bst g f i n).length c) (bst g f i n).length (zs (iz (bst g f i n))) ∧ Below w.heap.size w w' := by
  obtain ⟨i0, hi0, z0, z1, z2⟩ := info_parts Try.infoInt
  have hmk := fun W => mk_bool n W hn
  have HG := Lib.hid hg
  have HF := Lib.hid hf
  have hii : (i : Int) < (n : Int) := by omega
  have HV := Lib.hid (rs3_vr w (.slice (some ⟨bS, oS, none⟩) n cS) (.slice (some ⟨bT, oT, none⟩) n cT) i n)
  have HS := Lib.hid hs
  have HT := Lib.hid ht
  clear hs ht hg hf
  go_enter Try.func76, Try.ntmps76
  have HR0 := Lib.hid (rs3_row w (.slice (some ⟨bS, oS, none⟩) n cS) (.slice (some ⟨bT, oT, none⟩) n cT) n)
  go_upto_region 2 with fail
  obtain ⟨W1, hW1⟩ : ∃ W1, W1 = rs3 w (.slice (some ⟨bS, oS, none⟩) n cS) (.slice (some ⟨bT, oT, none⟩) n cT) n := ⟨_, rfl⟩
  have hW1' := hW1
  have hWs : W1.heap.size = w.heap.size + 1 + 1 := by rw [hW1]; simp [rs3]
  unfold rs3 at hW1'
  rw [← hW1']
  rw [← hW1] at HV HR0
  clear hW1 hW1' hmk
  have hcs := HR0.out.cell (i := i) hi
  have hfz := HR0.out.frozen i
  have hrlt := HR0.out.lt
  go_wp2
  obtain ⟨W2, hW2⟩ : ∃ W2, W2 = (W1.setCell ⟨w.heap.size + 1, i, none⟩ (.bool true)).alloc (.cells #[.int .i64 (i : Nat)] 3) := ⟨_, rfl⟩
  rw [← hW2] at HV ⊢
  clear hW2 hcs hfz hrlt HR0 hWs
  go_loopw [6, 7, 8, 9] (fun V I _ _ wr => ∃ (k : Nat) (A : Option Addr) (c : Nat), V = .slice A (bst g f i k).length c ∧ I = .int .i64 k ∧ k ≤ (bst g f i k).length ∧ Hid (VR w wr #[.slice (some ⟨bS, oS, none⟩) n cS, .slice (some ⟨bT, oT, none⟩) n cT] (w.heap.size + 1) n (.slice A (bst g f i k).length c) (bst g f i k))) (fun _ I _ _ _ => n - (intOf I).toNat)
  case atStart => exact ⟨0, _, _, rfl, rfl, Nat.zero_le _, HV.out⟩
  case round =>
    clear HV
    obtain ⟨k, A, c, rfl, rfl, hk, HV⟩ := hrel
    have hle := bst_le HG.out HF.out hi k
    by_cases hlt : k < (bst g f i k).length
    · have HStep := Lib.hid (bst_step hlt)
      have hx := bst_lt HG.out HF.out hi k _ (getD_mem hlt)
      have hle2 := bst_le HG.out HF.out hi (k + 1)
      rw [HStep.out] at hle2
      generalize bst g f i k = L at *
      obtain ⟨x, hxe⟩ : ∃ x, x = L.getD k 0 := ⟨_, rfl⟩
      rw [← hxe] at hx hle2 HStep
      have HXe := Lib.hid hxe
      clear hxe
      have hki : (k : Int) < (L.length : Int) := by omega
      have hy := HG.out.lt x hx
      have hz := HF.out.lt x hx
      go_wp2
      go_loopw [6, 8, 9] (fun V J _ wi => ∃ (j : Nat) (A : Option Addr) (c : Nat), V = .slice A (lst2 g f L x j).length c ∧ J = .int .i64 j ∧ j ≤ 2 ∧ Hid (VR w wi #[.slice (some ⟨bS, oS, none⟩) n cS, .slice (some ⟨bT, oT, none⟩) n cT] (w.heap.size + 1) n (.slice A (lst2 g f L x j).length c) (lst2 g f L x j))) (fun _ J _ _ => 2 - (intOf J).toNat)
      case atStart => exact ⟨0, _, _, rfl, rfl, by omega, HV.out⟩
      case round =>
        clear HV
        obtain ⟨j, A', c', rfl, rfl, hj, HV⟩ := hrel
        obtain ⟨hl1, hl2⟩ := lst2_len g f L x j hj
        have hgt := lst2_get (g := g) (f := f) (x := x) hlt j hj
        rw [← HXe.out] at hgt
        by_cases hj2 : j < 2
        · have hji : (j : Int) < 2 := by omega
          have HNext := Lib.hid (lst2_step g f L x j hj2)
          have HTo : Hid (j = 0 ∧ to2 g f x j = g x ∨ j = 1 ∧ to2 g f x j = f x) := by
            rcases Nat.lt_or_ge 0 j with h | h
            · obtain rfl : j = 1 := by omega
              exact .inr ⟨rfl, rfl⟩
            · obtain rfl : j = 0 := by omega
              exact .inl ⟨rfl, rfl⟩
          have hto : to2 g f x j < n := by rcases HTo.out with ⟨_, e⟩ | ⟨_, e⟩ <;> rw [e] <;> assumption
          generalize lst2 g f L x j = M at *
          generalize to2 g f x j = y at *
          have hkM : k < M.length := by omega
          obtain ⟨g1, c1, hv1, _, q2⟩ := HV.out.sv.get hkM
          obtain ⟨rfl, rfl⟩ : A' = some ⟨g1, 0, none⟩ ∧ c' = c1 := by simpa using hv1
          clear hv1
          rw [hgt] at q2
          have q2' := fun N => (show (wr.drewN N).cell? ⟨g1, k, none⟩ = _ from q2)
          have b1 := fun N => (show (wr.drewN N).cell? ⟨w.heap.size, 0, none⟩ = _ from (two_of_block HV.out.x).1.1)
          have b2 := fun N => (show (wr.drewN N).cell? ⟨w.heap.size, 1, none⟩ = _ from (two_of_block HV.out.x).1.2)
          have s1 := fun N => (show (wr.drewN N).cell? ⟨bS, oS + x, none⟩ = some (.int .i64 (g x : Nat)) from (HV.out.sv.bel.cell (p := ⟨bS, oS + x, none⟩) HS.out.1).trans (HS.out.2 x hx))
          have s2 := fun N => (show (wr.drewN N).cell? ⟨bT, oT + x, none⟩ = some (.int .i64 (f x : Nat)) from (HV.out.sv.bel.cell (p := ⟨bT, oT + x, none⟩) HT.out.1).trans (HT.out.2 x hx))
          have hkMi : (k : Int) < (M.length : Int) := by omega
          have hxi : (x : Int) < (n : Int) := by omega
          have hyi : (y : Int) < (n : Int) := by omega
          have hcs := fun N => (show (wr.drewN N).cell? ⟨w.heap.size + 1, y, none⟩ = _ from HV.out.sv.row.cell (i := y) hto)
          have hfz := fun N j => (show (wr.drewN N).frozen? ⟨w.heap.size + 1, j, none⟩ = false from HV.out.sv.row.frozen j)
          rcases HTo.out with ⟨rfl, rfl⟩ | ⟨rfl, rfl⟩
          · have HDone := Lib.hid HTo.out
            by_cases hm : g x ∈ M
            · rw [show decide (g x ∈ M) = true from decide_eq_true hm] at hcs
              have HM := Lib.hid (show vis M (g x) = M from if_pos hm)
              clear hm
              go_wp2
              go_quiet (fail)
              go_wp2
              go_roundw
              case rel => exact ⟨1, some ⟨g1, 0, none⟩, c', by rw [HNext.out, HM.out], by go_num, by omega, by rw [HNext.out, HM.out]; exact HV.out.drewN _⟩
              case measure => simp [intOf]
            · rw [show decide (g x ∈ M) = false from decide_eq_false hm] at hcs
              have HM := Lib.hid hm
              have HMl : Hid ((vis M (g x)).length = M.length + 1) := by show _ = _; rw [show vis M (g x) = M ++ [g x] from if_neg hm]; simp
              clear hm
              have hown : ∀ N, ((wr.drewN N).setCell ⟨w.heap.size + 1, g x, none⟩ (.bool true)).ownsRow w.heap.size 3 1 (.slice (some ⟨g1, 0, none⟩) M.length c') M.length (zs (iz M)) := fun N => by
                refine (HV.out.drewN N).sv.own.kept (row := some (w.heap.size + 1)) ⟨rfl, rfl, rfl, by simp, fun k _ hk => Below.heap_setCell (wr.drewN N) ⟨w.heap.size + 1, _, none⟩ _ k (fun e => hk (by rw [e]))⟩ (.inr fun e => HV.out.sv.ne e.symm)
              have hwz := HV.out.sv.bel.size
              go_wp2
              go_quiet (fail)
              go_wp2_with (first
                | (at_builtin; (refine wpList_append_own_at _ rfl _ _ 22 rfl w.heap.size 3 i0 (.int .i64 0) 1 8 Try.underlying22 hi0 z0 z1 z2 rfl (by decide) _ _ _ rfl ((hown _).alloc _) ⟨wr.heap.size, 0, none⟩ 1 1 [.int .i64 (g x : Nat)] rfl rfl (cell_one_new2 _ _ _ (by simp)) (fun x hx => by simp at hx; rw [hx]; rfl) (by unfold maxLen; omega) (by omega) (by simp; omega) ?_); intro v' w4 hown4 hg4 hnil4 hat4; obtain ⟨A2, c2, rfl⟩ := own_len hown4; have HN := Lib.hid ((HV.out.drewN _).push HM.out hown4 hg4); clear hown4 hg4 hnil4 hat4)
                | fail)
              go_roundw
              case rel => exact ⟨1, A2, c2, by rw [HNext.out, HMl.out], by go_num, by omega, by rw [HNext.out, HMl.out]; exact HN.out⟩
              case measure => simp [intOf]
          · have HDone := Lib.hid HTo.out
            by_cases hm : f x ∈ M
            · rw [show decide (f x ∈ M) = true from decide_eq_true hm] at hcs
              have HM := Lib.hid (show vis M (f x) = M from if_pos hm)
              clear hm
              go_wp2
              go_quiet (fail)
              go_wp2
              go_quiet (fail)
              go_wp2
              go_roundw
              case rel => exact ⟨2, some ⟨g1, 0, none⟩, c', by rw [HNext.out, HM.out], by go_num, by omega, by rw [HNext.out, HM.out]; exact HV.out.drewN _⟩
              case measure => simp [intOf]
            · rw [show decide (f x ∈ M) = false from decide_eq_false hm] at hcs
              have HM := Lib.hid hm
              have HMl : Hid ((vis M (f x)).length = M.length + 1) := by show _ = _; rw [show vis M (f x) = M ++ [f x] from if_neg hm]; simp
              clear hm
              have hown : ∀ N, ((wr.drewN N).setCell ⟨w.heap.size + 1, f x, none⟩ (.bool true)).ownsRow w.heap.size 3 1 (.slice (some ⟨g1, 0, none⟩) M.length c') M.length (zs (iz M)) := fun N => by
                refine (HV.out.drewN N).sv.own.kept (row := some (w.heap.size + 1)) ⟨rfl, rfl, rfl, by simp, fun k _ hk => Below.heap_setCell (wr.drewN N) ⟨w.heap.size + 1, _, none⟩ _ k (fun e => hk (by rw [e]))⟩ (.inr fun e => HV.out.sv.ne e.symm)
              have hwz := HV.out.sv.bel.size
              go_wp2
              go_quiet (fail)
              go_wp2
              go_quiet (fail)
              go_wp2_with (first
                | (at_builtin; (refine wpList_append_own_at _ rfl _ _ 22 rfl w.heap.size 3 i0 (.int .i64 0) 1 8 Try.underlying22 hi0 z0 z1 z2 rfl (by decide) _ _ _ rfl ((hown _).alloc _) ⟨wr.heap.size, 0, none⟩ 1 1 [.int .i64 (f x : Nat)] rfl rfl (cell_one_new2 _ _ _ (by simp)) (fun x hx => by simp at hx; rw [hx]; rfl) (by unfold maxLen; omega) (by omega) (by simp; omega) ?_); intro v' w4 hown4 hg4 hnil4 hat4; obtain ⟨A2, c2, rfl⟩ := own_len hown4; have HN := Lib.hid ((HV.out.drewN _).push HM.out hown4 hg4); clear hown4 hg4 hnil4 hat4)
                | fail)
              go_roundw
              case rel => exact ⟨2, A2, c2, by rw [HNext.out, HMl.out], by go_num, by omega, by rw [HNext.out, HMl.out]; exact HN.out⟩
              case measure => simp [intOf]
        · obtain rfl : j = 2 := by omega
          have h22 : ¬ (2 : Int) < 2 := by omega
          have HE : Hid (bst g f i (k + 1) = lst2 g f L x 2) := HStep
          go_wp2
          go_roundw
          case rel => exact ⟨k + 1, A', c', by rw [HE.out], by go_num, by rw [HE.out]; omega, by rw [HE.out]; exact HV.out⟩
          case measure => simp [intOf]; omega
    · have hkL : k = (bst g f i k).length := by omega
      have hst : bst g f i n = bst g f i k := bst_stay (by omega) n (by omega)
      have HE := Lib.hid hst
      clear hst
      generalize bst g f i k = L at *
      subst hkL
      clear hk hle hlt
      go_wp2
      go_ret
      exact ⟨A, c, by rw [HE.out]; rfl, by rw [HE.out]; exact HV.out.sv.own, HV.out.sv.bel⟩
end Go.Proofs.Ytmikhkolbkdnpaa
