/- Contracts of slices.Clone at digits, and of difference. -/
import Derived.Test.YtbijjiadokgmoaaDoorSub
import Derived.Test.YtbijjiadokgmoaaDoorShelf
import Derived.OwnWalk
namespace Go.Proofs.YtbijjiadokgmoaaDoor
open Go.RowKit

theorem Tryd.infoU : (Tryd.prog.info? 64).map (fun i => (i.zero, i.size, i.bytes)) = some (some (.int .u32 0), 1, 4) := by kernel_rfl
/-- The cells of digits. -/
def dval (l : List Nat) : List Value := l.map fun (d : Nat) => Value.int .u32 (d : Int)
/-- A new row of digits. -/
def NewD (w w' : World) (A : Option Addr) (c : Nat) (ds : List Nat) : Prop :=
  ((A = none ∧ c = 0 ∧ ds = []) ∨ ∃ g, A = some ⟨g, 0, none⟩ ∧ w.heap.size ≤ g ∧ Own w' g 0 ds) ∧ ds.length ≤ c ∧ c ≤ maxLen
theorem NewD.rd {w w' : World} {A : Option Addr} {c : Nat} {ds : List Nat} (h : NewD w w' A c ds) : Rd w' w'.heap.size A c ds := by
  obtain ⟨⟨rfl, rfl, rfl⟩ | ⟨g, rfl, hg, ho⟩, hc, hm⟩ := h
  · exact Rd.nil _ _
  · exact ho.rd hc hm ho.lt
theorem own_of_row {w : World} {base g cap n : Nat} {cur : Array Value} {ds : List Nat} (_ : base ≤ g) (hd : Dgs ds) (hg : w.heap[g]? = some (.cells cur 64 (0, 0))) (hn : n = ds.length) (hc : n ≤ cap) (hs : cur.size = cap * 1) (ht : cur.toList.take (n * 1) = dval ds) : Own w g 0 ds := by
  refine ⟨hd, cur, hg, by omega, fun k hk => ?_⟩
  rw [Nat.zero_add, ← Array.getElem?_toList]
  have h1 : (cur.toList.take (n * 1))[k]? = (dval ds)[k]? := by rw [ht]
  rw [List.getElem?_take, if_pos (by omega), dval, List.getElem?_map, List.getElem?_eq_getElem hk] at h1
  exact h1
set_option maxRecDepth 1000000 in
theorem clone_any {B c : Nat} {A : Option Addr} {ds : List Nat} (w : World) (h : Rd w B A c ds) (hn : ds.length ≤ 1000000) :
    Calls Tryd.prog 61 #[.slice A ds.length c] w fun e w' => ∃ A' c', e = .returned (.slice A' ds.length c') ∧ NewD w w' A' c' ds ∧ Below w.heap.size w w' := by
  obtain ⟨i0, hi, hz0, hz1, hz2⟩ := info_parts Tryd.infoU
  cases A with
  | none =>
    have hds : ds = [] := by
      rcases Nat.eq_zero_or_pos ds.length with h0 | h0
      · exact List.eq_nil_of_length_eq_zero h0
      · obtain ⟨b, o, e, _⟩ := h.at_ h0; cases e
    subst hds
    exact (Tryd.slices_Clone_nil _ _ w).mono fun e w' ⟨he, hw⟩ => ⟨none, 0, he, ⟨.inl ⟨rfl, rfl, rfl⟩, Nat.le_refl _, by unfold maxLen; omega⟩, by rw [hw]; exact Below.refl _ _⟩
  | some a =>
    obtain ⟨b, o, rfl⟩ := h.2.2.2.2 a rfl
    have hcell : ∀ j u, (dval ds)[j]? = some u → w.cell? ⟨b, o + j, none⟩ = some u := fun j u hu => by
      rw [dval, List.getElem?_map] at hu
      rcases Nat.lt_or_ge j ds.length with hj | hj
      · obtain ⟨b', o', e, _, hc⟩ := h.at_ hj
        injection e with e
        injection e with e1 e2
        subst e1; subst e2
        rw [List.getElem?_eq_getElem hj] at hu
        simp at hu
        rw [hc, hu]
      · rw [List.getElem?_eq_none hj] at hu; cases hu
    refine (Tryd.slices_Clone i0 (.int .u32 0) 1 4 hi hz0 hz1 hz2 rfl (by omega) (fun w => by kernel_rfl) b o ds.length c (dval ds) w (by simp [dval]) (by unfold maxLen; omega) (by omega) hcell (fun u hu => by obtain ⟨d, _, rfl⟩ := List.mem_map.1 hu; rfl)).mono fun e w' ⟨v', he, ho, hne, hb⟩ => ?_
    obtain ⟨_, hnil | ⟨g, cap, cur, hv, hbg, hg, hnc, hcm, hs, ht⟩⟩ := ho
    · exact absurd hnil.1 hne
    · exact ⟨some ⟨g, 0, none⟩, cap, by rw [he, hv], ⟨.inr ⟨g, rfl, hbg, own_of_row hbg h.dgs hg rfl hnc hs ht⟩, hnc, hcm⟩, hb⟩

theorem val_inj : ∀ {l m : List Nat}, Dgs l → Dgs m → l.length = m.length → val l = val m → l = m := by
  intro l
  induction l with
  | nil => intro m _ _ h _; exact (List.eq_nil_of_length_eq_zero h.symm).symm
  | cons a l ih =>
    intro m hl hm h hv
    cases m with
    | nil => cases h
    | cons b m =>
      have h1 := hl.cons
      have h2 := hm.cons
      simp only [val] at hv
      have h3 : val l = val m := by omega
      rw [ih h1.2 h2.2 (by simpa using h) h3]
      congr 1
      omega
theorem digs_take {l : List Nat} (h : Dgs l) : digs (val l) = l.take (digs (val l)).length := by
  have hk := digs_len (val_lt h)
  have e : digs (val l) ++ List.replicate (l.length - (digs (val l)).length) 0 = l :=
    val_inj (dgs_append (dgs_digs _) (dgs_zeros _)) h (by rw [List.length_append, List.length_replicate]; omega) (by rw [val_append, val_digs, val_zeros]; omega)
  conv => rhs; arg 2; rw [← e]
  rw [List.take_left]
/-- A magnitude in new memory. -/
def MagRet (w : World) (r : Nat) (e : Ending) (w' : World) : Prop := ∃ A c, e = .returned (.slice A (digs r).length c) ∧ Rd w' w'.heap.size A c (digs r) ∧ (∀ a, A = some a → w.heap.size ≤ a.block) ∧ Below w.heap.size w w'

set_option maxHeartbeats 800000 in
set_option maxRecDepth 1000000 in
theorem subFrom_nil {c1 c2 : Nat} {A2 : Option Addr} (w : World) :
    Calls Tryd.prog 94 #[.slice none 0 c1, .slice A2 0 c2] w fun e w' => e = .returned (.int .u32 0) ∧ w = w' := by
  go_enter Tryd.func94, Tryd.ntmps94
  go_wp2
  refine wp_loop_rounds 1 ?_
  rw [rounds_succ]
  go_wp2
  refine wp_loop_rounds 1 ?_
  rw [rounds_succ]
  go_wp2
  go_ret
  exact ⟨rfl, rfl⟩

set_option maxHeartbeats 1600000 in
set_option maxRecDepth 1000000 in
theorem difference_any {B m n c1 c2 : Nat} {A1 A2 : Option Addr} (w : World) (h1 : Rd w B A1 c1 (digs m)) (h2 : Rd w B A2 c2 (digs n)) (hB : B ≤ w.heap.size) (hle : n ≤ m) (hl : (digs m).length ≤ 1000000) :
    Calls Tryd.prog 72 #[.slice A1 (digs m).length c1, .slice A2 (digs n).length c2] w (MagRet w (m - n)) := by
  have HCL := Lib.hid (clone_any w h1 hl)
  have H2 := Lib.hid h2
  have hlen := digs_len_mono hle
  clear h1 h2
  go_enter Tryd.func72, Tryd.ntmps72
  go_wp2_with (go_at_call 61; fail)
  refine HCL.out.mono ?_
  rintro e w1 ⟨A', c', rfl, hnd, hb⟩
  have HB := Lib.hid hb
  have hs1 := hb.size
  have H2b := Lib.hid (H2.out.below (hb.mono hB))
  clear hb HCL
  obtain ⟨⟨rfl, rfl, hds⟩ | ⟨g, rfl, hg, ho⟩, hc, hcm⟩ := hnd
  · obtain rfl : m = 0 := digs_eq_nil.1 hds
    obtain rfl : n = 0 := by omega
    have HT : Hid (∀ W : World, Calls Tryd.prog 55 #[.slice none 0 0] W fun e w' => e = .returned (.slice none 0 0) ∧ W = w') := fun W => by
      have := trim_any W (Rd.nil W 0) (by simp)
      simp only [val, digs_zero, List.length_nil] at this
      exact this
    have HRES : Hid (MagRet w (0 - 0) (.returned (.slice none 0 0)) w1) := by
      have e0 : digs (0 - 0) = [] := digs_zero
      refine ⟨none, 0, by rw [e0]; rfl, by rw [e0]; exact Rd.nil _ _, (fun a ha => by cases ha), HB.out⟩
    simp only [digs_zero, List.length_nil]
    clear H2b H2 hds hlen hl
    go_wp2_with (first
      | (go_at_call 94; ((with_reducible refine (subFrom_nil _).mono ?_); rintro e w' ⟨rfl, rfl⟩))
      | (go_at_call 55; ((with_reducible refine (HT.out _).mono ?_); rintro e w' ⟨rfl, rfl⟩)))
    go_ret
    exact HRES.out
  · have HSF := Lib.hid (subFrom_any (c1 := c') w1 ho H2b.out (by omega) hlen hl)
    clear ho
    go_wp2_with (go_at_call 94; fail)
    refine HSF.out.mono ?_
    rintro e w2 ⟨cc, zi, rfl, hcc, hzl, hval, hown, hwr⟩
    rw [val_digs, val_digs] at hval
    obtain ⟨_, hvz⟩ := Subs.exact (z := digs m) (y := digs n) hown.dgs hzl hcc (by rw [val_digs, val_digs]; exact hval) (by rw [val_digs, val_digs]; exact hle)
    rw [val_digs, val_digs] at hvz
    have HT : Hid (Calls Tryd.prog 55 #[.slice (some ⟨g, 0, none⟩) (digs m).length c'] w2 fun e w' => e = .returned (.slice (some ⟨g, 0, none⟩) (digs (m - n)).length c') ∧ w2 = w') := by
      have := trim_any w2 (hown.rd (c := c') (B := w2.heap.size) (by omega) hcm hown.lt) (by omega)
      rwa [hzl, hvz] at this
    have HRES : Hid (Rd w2 w2.heap.size (some ⟨g, 0, none⟩) c' (digs (m - n))) := by
      have h5 := (hown.rd (c := c') (B := w2.heap.size) (by omega) hcm hown.lt)
      have h6 : digs (m - n) = zi.take (digs (m - n)).length := by
        have := digs_take hown.dgs
        rwa [hvz] at this
      rw [h6]; exact h5.take _
    have HB2 := Lib.hid (HB.out.trans (hwr.below (B := w.heap.size) hg hs1))
    clear hval hvz hown hwr HSF
    go_wp2_with (go_at_call 55; ((with_reducible refine HT.out.mono ?_); rintro e w' ⟨rfl, rfl⟩))
    go_ret
    exact ⟨_, _, rfl, HRES.out, fun a ha => by injection ha with ha; rw [← ha]; exact hg, HB2.out⟩
end Go.Proofs.YtbijjiadokgmoaaDoor
