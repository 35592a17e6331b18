/- Contracts of signed and addSigned: integers by value. -/
import Derived.Test.YtbijjiadokgmoaaDoorSum
namespace Go.Proofs.YtbijjiadokgmoaaDoor
open Go.RowKit

set_option maxHeartbeats 400000 in
theorem signed_zero {c : Nat} {A : Option Addr} (neg : Bool) (w : World) :
    Calls Tryd.prog 57 #[.bool neg, .slice A 0 c] w fun e w' => e = .returned (.agg #[.bool false, .slice none 0 0]) ∧ Below w.heap.size w w' := by
  go_enter Tryd.func57, Tryd.ntmps57
  go_wp2
  exact bodyPost_ret (v := .agg #[.bool false, .slice none 0 0]) (by simp [results, Tryd.results57, go_sem]) rfl ⟨rfl, (Below.refl _ _).alloc (Nat.le_refl _) _⟩
set_option maxHeartbeats 400000 in
theorem signed_pos {n c : Nat} {A : Option Addr} (neg : Bool) (w : World) (hn : 0 < n) :
    Calls Tryd.prog 57 #[.bool neg, .slice A n c] w fun e w' => e = .returned (.agg #[.bool neg, .slice A n c]) ∧ Below w.heap.size w w' := by
  have h0 : ((n : Int) == 0) = false := by rw [beq_eq_false_iff_ne]; omega
  go_enter Tryd.func57, Tryd.ntmps57
  go_wp2
  exact bodyPost_ret (v := .agg #[.bool neg, .slice A n c]) (by simp [results, Tryd.results57, go_sem]) rfl ⟨rfl, (Below.refl _ _).alloc (Nat.le_refl _) _⟩
/-- The integer with a sign and a magnitude. -/
def sgn (neg : Bool) (r : Nat) : Int := if neg then -(r : Int) else r
/-- An integer, normalized, whose digits lie in memory made since w0. -/
def IntIn (w0 w : World) (v : Value) (z : Int) : Prop := ∃ A c, v = .agg #[.bool (decide (z < 0)), .slice A (digs z.natAbs).length c] ∧ Rd w w.heap.size A c (digs z.natAbs) ∧ ∀ a, A = some a → w0.heap.size ≤ a.block
theorem IntIn.below {w0 w w' : World} {v : Value} {z : Int} (h : IntIn w0 w v z) (hb : Below w.heap.size w w') : IntIn w0 w' v z := by
  obtain ⟨A, c, h1, h2, h3⟩ := h
  exact ⟨A, c, h1, (h2.below hb).mono hb.size, h3⟩
theorem sgn_abs (neg : Bool) (r : Nat) : (sgn neg r).natAbs = r := by unfold sgn; split <;> omega
theorem sgn_neg {neg : Bool} {r : Nat} (h : 0 < r) : decide (sgn neg r < 0) = neg := by
  unfold sgn
  cases neg <;> simp <;> omega
theorem signed_any {c r : Nat} {A : Option Addr} (neg : Bool) (w0 w : World) (h : Rd w w.heap.size A c (digs r)) (hf : ∀ a, A = some a → w0.heap.size ≤ a.block) :
    Calls Tryd.prog 57 #[.bool neg, .slice A (digs r).length c] w fun e w' => ∃ v, e = .returned v ∧ IntIn w0 w' v (sgn neg r) ∧ Below w.heap.size w w' := by
  rcases Nat.eq_zero_or_pos r with h0 | h0
  · subst h0
    have hs : sgn neg 0 = 0 := by unfold sgn; split <;> rfl
    have := signed_zero (c := c) (A := A) neg w
    rw [digs_zero]
    exact this.mono fun e w' ⟨he, hb⟩ => ⟨_, he, ⟨none, 0, by rw [hs, Int.natAbs_zero, digs_zero]; rfl, by rw [hs, Int.natAbs_zero, digs_zero]; exact Rd.nil _ _, fun a ha => by cases ha⟩, hb⟩
  · have hl : 0 < (digs r).length := by
      rcases Nat.eq_zero_or_pos (digs r).length with h1 | h1
      · have := digs_eq_nil.1 (List.eq_nil_of_length_eq_zero h1); omega
      · exact h1
    exact (signed_pos neg w hl).mono fun e w' ⟨he, hb⟩ => ⟨_, he, ⟨A, c, by rw [sgn_abs, sgn_neg h0], by rw [sgn_abs]; exact (h.below hb).mono hb.size, hf⟩, hb⟩

/-- What a function leaves that returns a new integer. -/
def IntRet (w : World) (z : Int) (e : Ending) (w' : World) : Prop := ∃ v, e = .returned v ∧ IntIn w w' v z ∧ Below w.heap.size w w'
theorem bcell {W w1 : World} {B : Nat} (hb : Below B W w1) : (∀ b o, b < B → w1.cell? ⟨b, o, none⟩ = W.cell? ⟨b, o, none⟩) ∧ (∀ b o, b < B → w1.frozen? ⟨b, o, none⟩ = W.frozen? ⟨b, o, none⟩) :=
  ⟨fun b o h => hb.cell (p := ⟨b, o, none⟩) h, fun b o h => hb.frozen (p := ⟨b, o, none⟩) h⟩

theorem Rd.far {w : World} {B c : Nat} {A : Option Addr} {ds : List Nat} (h : Rd w B A c ds) {p : Addr} (hne : ∀ a, A = some a → a.block ≠ p.block) (u : Value) : Rd (w.setCell p u) B A c ds :=
  ⟨h.1, h.2.1, h.2.2.1, fun hn => by
    obtain ⟨b, o, e, hb, hc⟩ := h.2.2.2.1 hn
    refine ⟨b, o, e, hb, fun k hk => ?_⟩
    rw [World.cell?_setCell_other w p _ u (fun e2 => hne _ e (by rw [e2]))]
    exact hc k hk, h.2.2.2.2⟩
theorem two_of_block {w : World} {g : Nat} {a b : Value} {t : TypeId} (h : w.heap[g]? = some (.cells #[a, b] t (0, 0))) : w.cell? ⟨g, 0, none⟩ = some a ∧ w.cell? ⟨g, 1, none⟩ = some b ∧ w.frozen? ⟨g, 0, none⟩ = false ∧ w.frozen? ⟨g, 1, none⟩ = false :=
  ⟨by rw [cell_of_row w g 0 _ t _ h]; rfl, by rw [cell_of_row w g 1 _ t _ h]; rfl, frozen_of_row w g 0 _ t h, frozen_of_row w g 1 _ t h⟩
/-- Behind the store of a result into the result's own cell. -/
theorem IntIn.stored {w w2 : World} {v : Value} {z : Int} {ob : Obj} (h : IntIn (w.alloc ob) w2 v z) (x y : Value) : IntIn w ((w2.setCell ⟨w.heap.size, 0, none⟩ x).setCell ⟨w.heap.size, 1, none⟩ y) v z := by
  obtain ⟨A, c, h1, h2, h3⟩ := h
  have h4 : ∀ a, A = some a → w.heap.size + 1 ≤ a.block := fun a ha => by have := h3 a ha; simpa using this
  refine ⟨A, c, h1, ?_, fun a ha => by have := h4 a ha; omega⟩
  have := (h2.far (p := ⟨w.heap.size, 0, none⟩) (fun a ha => by have := h4 a ha; simp; omega) x).far (p := ⟨w.heap.size, 1, none⟩) (fun a ha => by have := h4 a ha; simp; omega) y
  simpa [World.setCell] using this

set_option maxHeartbeats 1600000 in
set_option maxRecDepth 1000000 in
theorem addSigned_same {B m n c1 c2 : Nat} {A1 A2 : Option Addr} (neg : Bool) (w : World) (h1 : Rd w B A1 c1 (digs m)) (h2 : Rd w B A2 c2 (digs n)) (hB : B ≤ w.heap.size) (hm : (digs m).length ≤ 1000000) (hn : (digs n).length ≤ 1000000) :
    Calls Tryd.prog 64 #[.bool neg, .slice A1 (digs m).length c1, .bool neg, .slice A2 (digs n).length c2] w (IntRet w (sgn neg (m + n))) := by
  have HS := Lib.hid (fun (W : World) (hb : Below w.heap.size w W) => sum_any W (h1.below (hb.mono hB)) (h2.below (hb.mono hB)) (by have := hb.size; omega) hm hn)
  clear h1 h2
  go_enter Tryd.func64, Tryd.ntmps64
  go_wp2_with fail
  refine (HS.out _ ((Below.refl _ _).alloc (Nat.le_refl _) _)).mono ?_
  rintro e w1 ⟨A, c, rfl, hr, hf, hb⟩
  have HG := Lib.hid (signed_any neg (w.alloc (.cells #[.bool false, .slice none 0 0] 24)) w1 hr hf)
  have HB := Lib.hid hb
  have hs1 := hb.size
  simp only [World.size_alloc] at hs1
  clear hr hf hb HS
  go_wp2_with (go_at_call 57; fail)
  refine HG.out.mono ?_
  rintro e w2 ⟨v, rfl, hi, hb2⟩
  have HI := Lib.hid hi
  obtain ⟨A', c', rfl, _, _⟩ := hi
  have hs2 := hb2.size
  have hx0 : w2.heap[w.heap.size]? = some (.cells #[.bool false, .slice none 0 0] 24 (0, 0)) := by
    rw [hb2.block _ (by omega), HB.out.block _ (by simp)]
    exact heap_alloc_new w _
  obtain ⟨x1, x2, x3, x4⟩ := two_of_block hx0
  have HB2 : Hid (Below w.heap.size w w2) := (((Below.refl _ _).alloc (Nat.le_refl _) _).trans (HB.out.mono (by simp))).trans (hb2.mono (by omega))
  clear hb2 hx0 HG HB
  go_wp2
  refine bodyPost_ret (v := .agg #[.bool (decide (sgn neg (m + n) < 0)), .slice A' (digs (sgn neg (m + n)).natAbs).length c']) ?_ rfl ⟨_, rfl, HI.out.stored _ _, (HB2.out.setCell (Nat.le_refl _) _).setCell (Nat.le_refl _) _⟩
  simp [results, Tryd.results64, go_sem, x1, x2]
theorem below_drewN {B : Nat} {a w : World} (h : Below B a w) (n : Nat) : Below B a (w.drewN n) := ⟨h.os, h.tape, h.output, h.size, h.block⟩

set_option maxHeartbeats 1600000 in
set_option maxRecDepth 1000000 in
theorem addSigned_lt {B m n c1 c2 : Nat} {A1 A2 : Option Addr} (neg neg2 : Bool) (w : World) (hbb : (neg == neg2) = false) (h1 : Rd w B A1 c1 (digs m)) (h2 : Rd w B A2 c2 (digs n)) (hB : B ≤ w.heap.size) (hm : (digs m).length ≤ 1000000) (hn : (digs n).length ≤ 1000000) (hle : m < n) :
    Calls Tryd.prog 64 #[.bool neg, .slice A1 (digs m).length c1, .bool neg2, .slice A2 (digs n).length c2] w (IntRet w (sgn neg2 (n - m))) := by
  have HC : Hid (∀ W : World, Below w.heap.size w W → Calls Tryd.prog 69 #[.slice A1 (digs m).length c1, .slice A2 (digs n).length c2] W fun e w' => ∃ k : Int, e = .returned (.int .i64 k) ∧ k < 0 ∧ ∃ q, w' = W.drewN q) := fun W hb =>
    (compare_any W (h1.below (hb.mono hB)) (h2.below (hb.mono hB)) hm).mono fun e w' ⟨he, hq⟩ => ⟨_, he, by unfold cmpV; split <;> (try split) <;> omega, hq⟩
  have HS := Lib.hid (fun (W : World) (hb : Below w.heap.size w W) => difference_any W (h2.below (hb.mono hB)) (h1.below (hb.mono hB)) (by have := hb.size; omega) (show m ≤ n by omega) hn)
  have HBB := Lib.hid hbb
  clear h1 h2 hbb
  go_enter Tryd.func64, Tryd.ntmps64
  have hbb := HBB.out
  go_wp2_with fail
  refine (HC.out _ ((Below.refl _ _).alloc (Nat.le_refl _) _)).mono ?_
  rintro e w0 ⟨k, rfl, hk, q, rfl⟩
  have hk2 : decide (k < 0) = true := by simp; omega
  have HBQ : Hid (Below w.heap.size w ((w.alloc (.cells #[.bool false, .slice none 0 0] 24)).drewN q)) := below_drewN ((Below.refl _ _).alloc (Nat.le_refl _) _) q
  clear hk HC
  go_wp2_with (go_at_call 72; fail)
  refine (HS.out _ HBQ.out).mono ?_
  rintro e w1 ⟨A, c, rfl, hr, hf, hb⟩
  have HG := Lib.hid (signed_any neg2 (w.alloc (.cells #[.bool false, .slice none 0 0] 24)) w1 hr hf)
  have HB := Lib.hid hb
  have hs1 : w.heap.size + 1 ≤ w1.heap.size := by have := hb.size; simpa [World.drewN] using this
  clear hr hf hb HS
  go_wp2_with (go_at_call 57; fail)
  refine HG.out.mono ?_
  rintro e w2 ⟨v, rfl, hi, hb2⟩
  have HI := Lib.hid hi
  obtain ⟨A', c', rfl, _, _⟩ := hi
  have hs2 := hb2.size
  have hx0 : w2.heap[w.heap.size]? = some (.cells #[.bool false, .slice none 0 0] 24 (0, 0)) := by
    rw [hb2.block _ (by omega), HB.out.block _ (by simp [World.drewN])]
    exact heap_alloc_new w _
  obtain ⟨x1, x2, x3, x4⟩ := two_of_block hx0
  have HB2 : Hid (Below w.heap.size w w2) := (HBQ.out.trans (HB.out.mono (by simp [World.drewN]))).trans (hb2.mono (by omega))
  clear hb2 hx0 HG HB HBQ
  go_wp2
  refine bodyPost_ret (v := .agg #[.bool (decide (sgn neg2 (n - m) < 0)), .slice A' (digs (sgn neg2 (n - m)).natAbs).length c']) ?_ rfl ⟨_, rfl, HI.out.stored _ _, (HB2.out.setCell (Nat.le_refl _) _).setCell (Nat.le_refl _) _⟩
  simp [results, Tryd.results64, go_sem, x1, x2]

set_option maxHeartbeats 1600000 in
set_option maxRecDepth 1000000 in
theorem addSigned_ge {B m n c1 c2 : Nat} {A1 A2 : Option Addr} (neg neg2 : Bool) (w : World) (hbb : (neg == neg2) = false) (h1 : Rd w B A1 c1 (digs m)) (h2 : Rd w B A2 c2 (digs n)) (hB : B ≤ w.heap.size) (hm : (digs m).length ≤ 1000000) (hle : n ≤ m) :
    Calls Tryd.prog 64 #[.bool neg, .slice A1 (digs m).length c1, .bool neg2, .slice A2 (digs n).length c2] w (IntRet w (sgn neg (m - n))) := by
  have HC : Hid (∀ W : World, Below w.heap.size w W → Calls Tryd.prog 69 #[.slice A1 (digs m).length c1, .slice A2 (digs n).length c2] W fun e w' => ∃ k : Int, e = .returned (.int .i64 k) ∧ 0 ≤ k ∧ ∃ q, w' = W.drewN q) := fun W hb =>
    (compare_any W (h1.below (hb.mono hB)) (h2.below (hb.mono hB)) hm).mono fun e w' ⟨he, hq⟩ => ⟨_, he, by unfold cmpV; split <;> (try split) <;> omega, hq⟩
  have HS := Lib.hid (fun (W : World) (hb : Below w.heap.size w W) => difference_any W (h1.below (hb.mono hB)) (h2.below (hb.mono hB)) (by have := hb.size; omega) (show n ≤ m by omega) hm)
  have HBB := Lib.hid hbb
  clear h1 h2 hbb
  go_enter Tryd.func64, Tryd.ntmps64
  have hbb := HBB.out
  go_wp2_with fail
  refine (HC.out _ ((Below.refl _ _).alloc (Nat.le_refl _) _)).mono ?_
  rintro e w0 ⟨k, rfl, hk, q, rfl⟩
  have hk2 : decide (k < 0) = false := by simp; omega
  have HBQ : Hid (Below w.heap.size w ((w.alloc (.cells #[.bool false, .slice none 0 0] 24)).drewN q)) := below_drewN ((Below.refl _ _).alloc (Nat.le_refl _) _) q
  clear hk HC
  go_wp2_with (go_at_call 72; fail)
  refine (HS.out _ HBQ.out).mono ?_
  rintro e w1 ⟨A, c, rfl, hr, hf, hb⟩
  have HG := Lib.hid (signed_any neg (w.alloc (.cells #[.bool false, .slice none 0 0] 24)) w1 hr hf)
  have HB := Lib.hid hb
  have hs1 : w.heap.size + 1 ≤ w1.heap.size := by have := hb.size; simpa [World.drewN] using this
  clear hr hf hb HS
  go_wp2_with (go_at_call 57; fail)
  refine HG.out.mono ?_
  rintro e w2 ⟨v, rfl, hi, hb2⟩
  have HI := Lib.hid hi
  obtain ⟨A', c', rfl, _, _⟩ := hi
  have hs2 := hb2.size
  have hx0 : w2.heap[w.heap.size]? = some (.cells #[.bool false, .slice none 0 0] 24 (0, 0)) := by
    rw [hb2.block _ (by omega), HB.out.block _ (by simp [World.drewN])]
    exact heap_alloc_new w _
  obtain ⟨x1, x2, x3, x4⟩ := two_of_block hx0
  have HB2 : Hid (Below w.heap.size w w2) := (HBQ.out.trans (HB.out.mono (by simp [World.drewN]))).trans (hb2.mono (by omega))
  clear hb2 hx0 HG HB HBQ
  go_wp2
  refine bodyPost_ret (v := .agg #[.bool (decide (sgn neg (m - n) < 0)), .slice A' (digs (sgn neg (m - n)).natAbs).length c']) ?_ rfl ⟨_, rfl, HI.out.stored _ _, (HB2.out.setCell (Nat.le_refl _) _).setCell (Nat.le_refl _) _⟩
  simp [results, Tryd.results64, go_sem, x1, x2]

theorem addSigned_any {B m n c1 c2 : Nat} {A1 A2 : Option Addr} (neg neg2 : Bool) (w : World) (h1 : Rd w B A1 c1 (digs m)) (h2 : Rd w B A2 c2 (digs n)) (hB : B ≤ w.heap.size) (hm : (digs m).length ≤ 1000000) (hn : (digs n).length ≤ 1000000) :
    Calls Tryd.prog 64 #[.bool neg, .slice A1 (digs m).length c1, .bool neg2, .slice A2 (digs n).length c2] w (IntRet w (sgn neg m + sgn neg2 n)) := by
  by_cases hbb : neg = neg2
  · subst hbb
    rw [show sgn neg m + sgn neg n = sgn neg (m + n) by unfold sgn; split <;> omega]
    exact addSigned_same neg w h1 h2 hB hm hn
  · have hbf : (neg == neg2) = false := by rw [beq_eq_false_iff_ne]; exact hbb
    rcases Nat.lt_or_ge m n with h | h
    · rw [show sgn neg m + sgn neg2 n = sgn neg2 (n - m) by cases neg <;> cases neg2 <;> simp_all [sgn] <;> omega]
      exact addSigned_lt neg neg2 w hbf h1 h2 hB hm hn h
    · rw [show sgn neg m + sgn neg2 n = sgn neg (m - n) by cases neg <;> cases neg2 <;> simp_all [sgn] <;> omega]
      exact addSigned_ge neg neg2 w hbf h1 h2 hB hm h
end Go.Proofs.YtbijjiadokgmoaaDoor
