/- The contracts of isPermutation and of the reference's permutes. -/
import Derived.Test.YtmikhkolbkdnpaaActM
import Derived.Test.YtmikhkolbkdnpaaBoxL
import Derived.Test.YtmikhkolbkdnpaaLawK
import Derived.Deep.OwnRows
import Derived.Laws.MakeOwn
import Derived.Deep.Cut
import Derived.WalkSmall
namespace Go.Proofs.Ytmikhkolbkdnpaa
open Go.RowKit
set_option linter.unusedVariables false
set_option linter.unusedSimpArgs false

theorem Try.infoBool2 : (Try.prog.info? 4).map (fun i => (i.zero, i.size, i.bytes)) = some (some (.bool false), 1, 1) := by kernel_rfl
/-- A list of integers that is a permutation of its indices. -/
def okP (S : List Int) : Prop := (∀ x ∈ S, 0 ≤ x ∧ x < S.length) ∧ S.Nodup
instance (S : List Int) : Decidable (okP S) := inferInstanceAs (Decidable (_ ∧ _))
/-- The same of the first entries, of all of which there are n. -/
def okT (T : List Int) (n : Nat) : Prop := (∀ x ∈ T, 0 ≤ x ∧ x < n) ∧ T.Nodup
theorem okT_nil (n : Nat) : okT [] n := ⟨fun x h => absurd h (by simp), List.nodup_nil⟩
theorem take_push {S : List Int} {k : Nat} (h : k < S.length) : S.take (k + 1) = S.take k ++ [S[k]] := List.take_succ_eq_append_getElem h
theorem okT_push {S : List Int} {n k : Nat} (h : k < S.length) (ho : okT (S.take k) n) (h1 : 0 ≤ S[k]) (h2 : S[k] < n) (h3 : S[k] ∉ S.take k) : okT (S.take (k + 1)) n := by
  rw [take_push h]
  refine ⟨fun x hx => ?_, ?_⟩
  · rcases List.mem_append.1 hx with hx | hx
    · exact ho.1 x hx
    · rw [List.mem_singleton.1 hx]; exact ⟨h1, h2⟩
  · rw [List.nodup_append]
    refine ⟨ho.2, by simp, fun a ha b hb e => ?_⟩
    rw [List.mem_singleton] at hb
    subst hb; subst e
    exact h3 ha
theorem okP_no {S : List Int} {k : Nat} (h : k < S.length) (hb : S[k] < 0 ∨ (S.length : Int) ≤ S[k] ∨ S[k] ∈ S.take k) : ¬ okP S := by
  rintro ⟨h1, h2⟩
  have h3 := h1 _ (List.getElem_mem h)
  rcases hb with hb | hb | hb
  · omega
  · omega
  · have h4 : (S.take (k + 1)).Nodup := h2.sublist (List.take_sublist _ _)
    rw [take_push h, List.nodup_append] at h4
    exact h4.2.2 _ hb _ (List.mem_singleton.2 rfl) rfl
theorem okT_full {S : List Int} (h : okT (S.take S.length) S.length) : okP S := by
  rw [List.take_length] at h; exact h
/-- What the loop knows: the box of flags, and that nothing else changed. -/
structure PI (w wr : World) (S : List Int) (k : Nat) : Prop where
  row : wr.rowIs w.heap.size 4 S.length (fun j => .bool (decide ((j : Int) ∈ S.take k)))
  bel : Below w.heap.size w wr
theorem PI.start (w : World) (S : List Int) : PI w (w.alloc (.cells (madeCells #[.bool false] S.length) 4)) S 0 :=
  ⟨World.rowIs.congr (World.rowIs_made w (.bool false) S.length 4) fun j _ => by simp, below1 _ _⟩
theorem PI.push {w wr : World} {S : List Int} {k r : Nat} (h : PI w wr S k) (hk : k < S.length) (hr : S[k] = (r : Int)) : PI w (wr.setCell ⟨w.heap.size, r, none⟩ (.bool true)) S (k + 1) := by
  refine ⟨World.rowIs.congr (h.row.set r (.bool true)) fun j _ => ?_, h.bel.setCell (Nat.le_refl _) _⟩
  simp only [take_push hk]
  by_cases e : j = r
  · subst e; simp [hr]
  · rw [if_neg e]
    have : ¬ (j : Int) = S[k] := by omega
    simp only [List.mem_append, List.mem_singleton, this, or_false]
theorem PI.drewN {w wr : World} {S : List Int} {k : Nat} (h : PI w wr S k) (m : Nat) : PI w (wr.drewN m) S k := ⟨h.row.of_block rfl, below_drewN h.bel m⟩
theorem mk_bool (n : Nat) (W : World) (hn : n ≤ 1152) : (Instr.makeSlice 89 (.int .i64 (n : Int)) (.int .i64 (n : Int))).run Try.prog W = .ok (.slice (some ⟨W.heap.size, 0, none⟩) n n) (W.alloc (.cells (madeCells #[.bool false] n) 4)) := by
  obtain ⟨i1, hj, y0, y1, y2⟩ := info_parts Try.infoBool2
  have h := run_make (P := Try.prog) W 89 4 i1 (.bool false) Try.underlying89 hj y0 .i64 .i64 (n : Int) (n : Int) (by omega) (by omega) (by rw [y2]; omega) (by omega)
  rw [show ((n : Int)).toNat = n by omega, y1, Nat.mul_one] at h
  exact h
set_option maxHeartbeats 3200000 in
set_option maxRecDepth 1000000 in
theorem isperm_any {S : List Int} {B c : Nat} {A : Option Addr} (w : World) (h : RdZ w B A c S) (hB : B ≤ w.heap.size) (hn : S.length ≤ 1152) :
    Calls Try.prog 60 #[.slice A S.length c] w fun e w' => e = .returned (.bool (decide (okP S))) ∧ Below w.heap.size w w' := by
  have H := Lib.hid h
  have hmk := fun W => mk_bool S.length W hn
  obtain ⟨v, hv⟩ : ∃ v, v = decide (okP S) := ⟨_, rfl⟩
  rw [← hv]
  have HV : Hid (v = decide (okP S)) := hv
  clear h hv
  go_enter Try.func60, Try.ntmps60
  go_wp2
  clear hmk
  have HP := Lib.hid (PI.start w S)
  have HO := Lib.hid (okT_nil S.length)
  go_loopw [5, 11] (fun _ I wr => ∃ (k : Nat), I = .int .i64 k ∧ k ≤ S.length ∧ Hid (PI w wr S k) ∧ Hid (okT (S.take k) S.length)) (fun _ I _ => S.length - (intOf I).toNat)
  case atStart => exact ⟨0, rfl, Nat.zero_le _, HP.out, HO.out⟩
  case round =>
    clear HP HO
    obtain ⟨k, rfl, hk, HP, HO⟩ := hrel
    by_cases hlt : k < S.length
    · have hlti : (k : Int) < (S.length : Int) := by omega
      obtain ⟨b1, o1, rfl, hb1, x1⟩ := H.out.at_ hlt
      have y1 : wr.cell? ⟨b1, o1 + k, none⟩ = some (.int .i64 S[k]) := (HP.out.bel.cell (p := ⟨b1, o1 + k, none⟩) (Nat.lt_of_lt_of_le hb1 hB)).trans x1
      clear x1
      have HNo := Lib.hid (okP_no hlt)
      have HYes := Lib.hid (okT_push (n := S.length) hlt HO.out)
      obtain ⟨q, hq⟩ : ∃ q, q = S[k] := ⟨_, rfl⟩
      have HQ := Lib.hid hq
      rw [← hq] at y1 HNo HYes
      clear hq
      by_cases hq0 : q < 0
      · have HF : Hid (v = false) := HV.out.trans (by simpa using HNo.out (.inl hq0))
        go_wp2
        go_ret
        exact ⟨by rw [HF.out]; rfl, HP.out.bel⟩
      · by_cases hq1 : (S.length : Int) ≤ q
        · have HF : Hid (v = false) := HV.out.trans (by simpa using HNo.out (.inr (.inl hq1)))
          go_wp2
          go_ret
          exact ⟨by rw [HF.out]; rfl, HP.out.bel⟩
        · obtain ⟨r, rfl⟩ : ∃ r : Nat, q = r := ⟨q.toNat, by omega⟩
          have hr : r < S.length := by omega
          have hri : (r : Int) < (S.length : Int) := by omega
          have hcs := HP.out.row.cell (i := r) hr
          have hfz := HP.out.row.frozen r
          by_cases hm : (r : Int) ∈ S.take k
          · have HF : Hid (v = false) := HV.out.trans (by simpa using HNo.out (.inr (.inr hm)))
            rw [show decide ((r : Int) ∈ S.take k) = true from by simpa using hm] at hcs
            clear hm
            go_wp2
            go_ret
            exact ⟨by rw [HF.out]; rfl, HP.out.bel⟩
          · rw [show decide ((r : Int) ∈ S.take k) = false from by simpa using hm] at hcs
            have HO2 := Lib.hid (HYes.out (by omega) (by omega) hm)
            have HP2 := Lib.hid (HP.out.push hlt HQ.out.symm)
            clear hm
            go_wp2
            go_roundw
            case rel => exact ⟨k + 1, by go_num, hlt, HP2.out, HO2.out⟩
            case measure => simp [intOf]; omega
    · obtain rfl : k = S.length := by omega
      have hk2 : ¬ (S.length : Int) < (S.length : Int) := by omega
      have HF : Hid (v = true) := HV.out.trans (by simpa using okT_full HO.out)
      go_wp2
      go_ret
      exact ⟨by rw [HF.out]; rfl, HP.out.bel⟩
set_option maxHeartbeats 3200000 in
set_option maxRecDepth 1000000 in
theorem rpermutes_any {S : List Int} {B c : Nat} {A : Option Addr} (w : World) (h : RdZ w B A c S) (hB : B ≤ w.heap.size) (hn : S.length ≤ 1152) :
    Calls Try.prog 75 #[.slice A S.length c] w fun e w' => e = .returned (.bool (decide (okP S))) ∧ Below w.heap.size w w' := by
  have H := Lib.hid h
  have hmk := fun W => mk_bool S.length W hn
  obtain ⟨v, hv⟩ : ∃ v, v = decide (okP S) := ⟨_, rfl⟩
  rw [← hv]
  have HV : Hid (v = decide (okP S)) := hv
  clear h hv
  go_enter Try.func75, Try.ntmps75
  go_wp2
  clear hmk
  have HP := Lib.hid (PI.start w S)
  have HO := Lib.hid (okT_nil S.length)
  go_loopw [4] (fun I wr => ∃ (k : Nat), I = .int .i64 k ∧ k ≤ S.length ∧ Hid (PI w wr S k) ∧ Hid (okT (S.take k) S.length)) (fun I _ => S.length - (intOf I).toNat)
  case atStart => exact ⟨0, rfl, Nat.zero_le _, HP.out, HO.out⟩
  case round =>
    clear HP HO
    obtain ⟨k, rfl, hk, HP, HO⟩ := hrel
    by_cases hlt : k < S.length
    · have hlti : (k : Int) < (S.length : Int) := by omega
      obtain ⟨b1, o1, rfl, hb1, x1⟩ := H.out.at_ hlt
      have y1 : wr.cell? ⟨b1, o1 + k, none⟩ = some (.int .i64 S[k]) := (HP.out.bel.cell (p := ⟨b1, o1 + k, none⟩) (Nat.lt_of_lt_of_le hb1 hB)).trans x1
      clear x1
      have HNo := Lib.hid (okP_no hlt)
      have HYes := Lib.hid (okT_push (n := S.length) hlt HO.out)
      obtain ⟨q, hq⟩ : ∃ q, q = S[k] := ⟨_, rfl⟩
      have HQ := Lib.hid hq
      rw [← hq] at y1 HNo HYes
      clear hq
      by_cases hq0 : q < 0
      · have HF : Hid (v = false) := HV.out.trans (by simpa using HNo.out (.inl hq0))
        go_wp2
        go_ret
        exact ⟨by rw [HF.out]; rfl, HP.out.bel⟩
      · by_cases hq1 : (S.length : Int) ≤ q
        · have HF : Hid (v = false) := HV.out.trans (by simpa using HNo.out (.inr (.inl hq1)))
          go_wp2
          go_ret
          exact ⟨by rw [HF.out]; rfl, HP.out.bel⟩
        · obtain ⟨r, rfl⟩ : ∃ r : Nat, q = r := ⟨q.toNat, by omega⟩
          have hr : r < S.length := by omega
          have hri : (r : Int) < (S.length : Int) := by omega
          have hcs := HP.out.row.cell (i := r) hr
          have hfz := HP.out.row.frozen r
          by_cases hm : (r : Int) ∈ S.take k
          · have HF : Hid (v = false) := HV.out.trans (by simpa using HNo.out (.inr (.inr hm)))
            rw [show decide ((r : Int) ∈ S.take k) = true from by simpa using hm] at hcs
            clear hm
            go_wp2
            go_ret
            exact ⟨by rw [HF.out]; rfl, HP.out.bel⟩
          · rw [show decide ((r : Int) ∈ S.take k) = false from by simpa using hm] at hcs
            have HO2 := Lib.hid (HYes.out (by omega) (by omega) hm)
            have HP2 := Lib.hid (HP.out.push hlt HQ.out.symm)
            clear hm
            go_wp2
            go_roundw
            case rel => exact ⟨k + 1, by go_num, hlt, HP2.out, HO2.out⟩
            case measure => simp [intOf]; omega
    · obtain rfl : k = S.length := by omega
      have hk2 : ¬ (S.length : Int) < (S.length : Int) := by omega
      have HF : Hid (v = true) := HV.out.trans (by simpa using okT_full HO.out)
      go_wp2
      go_ret
      exact ⟨by rw [HF.out]; rfl, HP.out.bel⟩
end Go.Proofs.Ytmikhkolbkdnpaa
