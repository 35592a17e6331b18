/- Contracts of the reference's Sign and Small. -/
import Derived.Test.YtbijjiadokgmoaaDoorSmallI
namespace Go.Proofs.YtbijjiadokgmoaaDoor
open Go.RowKit

theorem rnorm_raw {w : World} {B l1 : Nat} {v1 : Value} {a : Int} (h1 : Raw w B v1 a l1) (hB : B ≤ w.heap.size) (b1 : l1 ≤ 1000000) : Calls Tryd.prog 21 #[v1] w (IntRet w a) := by
  obtain ⟨n, A, c, xs, rfl, r1, rfl, k1⟩ := h1
  exact rnorm_any n w r1 hB (by omega)

set_option maxHeartbeats 1600000 in
set_option maxRecDepth 1000000 in
theorem rsign_any {c1 l1 : Nat} {A1 : Option Addr} {n1 : Bool} {a : Int} (w : World) (HN : Hid (∀ W : World, Below w.heap.size w W → Calls Tryd.prog 21 #[.agg #[.bool n1, .slice A1 l1 c1]] W (IntRet W a))) :
    Calls Tryd.prog 23 #[.agg #[.bool n1, .slice A1 l1 c1]] w fun e w' => e = .returned (.int .i64 a.sign) ∧ Below w.heap.size w w' := by
  rcases Int.lt_trichotomy a 0 with h | h | h
  · have hb1 : decide (a < 0) = true := decide_eq_true h
    have hb2 : (((digs a.natAbs).length : Int) == 0) = false := by
      have := digs_pos_len (r := a.natAbs) (by omega)
      rw [beq_eq_false_iff_ne]; omega
    have HS : Hid (a.sign = -1) := Int.sign_eq_neg_one_of_neg h
    clear h
    go_enter Tryd.func23, Tryd.ntmps23
    go_wp2_with (go_at_call 21; fail)
    refine (HN.out _ ((Below.refl _ _).alloc (Nat.le_refl _) _)).mono ?_
    rintro e w1 ⟨v, rfl, ⟨A, c, rfl, _, _⟩, hb⟩
    have HB : Hid (Below w.heap.size w w1) := ((Below.refl _ _).alloc (Nat.le_refl _) _).trans (hb.mono (by simp))
    have hs := HB.out.size
    clear hb
    go_wp2
    go_ret
    exact ⟨by rw [HS.out]; rfl, HB.out.alloc hs _⟩
  · have HS : Hid (a.sign = 0) := by show _ = _; rw [h]; rfl
    have hz : (digs a.natAbs).length = 0 := by rw [h]; simp [digs_zero]
    have hzi : (((digs a.natAbs).length : Int) == 0) = true := by rw [hz]; rfl
    clear h hz
    go_enter Tryd.func23, Tryd.ntmps23
    go_wp2_with (go_at_call 21; fail)
    refine (HN.out _ ((Below.refl _ _).alloc (Nat.le_refl _) _)).mono ?_
    rintro e w1 ⟨v, rfl, ⟨A, c, rfl, _, _⟩, hb⟩
    have HB : Hid (Below w.heap.size w w1) := ((Below.refl _ _).alloc (Nat.le_refl _) _).trans (hb.mono (by simp))
    have hs := HB.out.size
    clear hb
    go_wp2
    go_ret
    exact ⟨by rw [HS.out]; rfl, HB.out.alloc hs _⟩
  · have hb1 : decide (a < 0) = false := decide_eq_false (by omega)
    have hb2 : (((digs a.natAbs).length : Int) == 0) = false := by
      have := digs_pos_len (r := a.natAbs) (by omega)
      rw [beq_eq_false_iff_ne]; omega
    have HS : Hid (a.sign = 1) := Int.sign_eq_one_of_pos h
    clear h
    go_enter Tryd.func23, Tryd.ntmps23
    go_wp2_with (go_at_call 21; fail)
    refine (HN.out _ ((Below.refl _ _).alloc (Nat.le_refl _) _)).mono ?_
    rintro e w1 ⟨v, rfl, ⟨A, c, rfl, _, _⟩, hb⟩
    have HB : Hid (Below w.heap.size w w1) := ((Below.refl _ _).alloc (Nat.le_refl _) _).trans (hb.mono (by simp))
    have hs := HB.out.size
    clear hb
    go_wp2
    go_ret
    exact ⟨by rw [HS.out]; rfl, HB.out.alloc hs _⟩
theorem rsign_raw {w : World} {B l1 : Nat} {v1 : Value} {a : Int} (h1 : Raw w B v1 a l1) (hB : B ≤ w.heap.size) (b1 : l1 ≤ 1000000) : Calls Tryd.prog 23 #[v1] w fun e w' => e = .returned (.int .i64 a.sign) ∧ Below w.heap.size w w' := by
  obtain ⟨n, A, c, xs, rfl, r1, rfl, k1⟩ := h1
  exact rsign_any w (fun W hb => rnorm_any n W (r1.below (hb.mono hB)) (by have := hb.size; omega) (by omega))

set_option maxHeartbeats 1600000 in
set_option maxRecDepth 1000000 in
theorem rsmall_long {c1 l1 : Nat} {A1 : Option Addr} {n1 : Bool} {a : Int} (w : World) (HN : Hid (∀ W : World, Below w.heap.size w W → Calls Tryd.prog 21 #[.agg #[.bool n1, .slice A1 l1 c1]] W (IntRet W a))) (hl : 2 < (digs a.natAbs).length) :
    Calls Tryd.prog 17 #[.agg #[.bool n1, .slice A1 l1 c1]] w (SmallRet w a) := by
  have hbig := long_big hl
  obtain ⟨e1, e2⟩ := small_no (a := a) (by omega)
  have HR : Hid (∀ w', Below w.heap.size w w' → SmallRet w a (.returned (.tuple #[.int .i64 0, .bool false])) w') := fun w' hb => ⟨by rw [e1, e2], hb⟩
  have hb2 : decide ((2 : Int) < ((digs a.natAbs).length : Int)) = true := decide_eq_true (by omega)
  clear hbig hl e1 e2
  go_enter Tryd.func17, Tryd.ntmps17
  go_wp2_with (go_at_call 21; fail)
  refine (HN.out _ ((Below.refl _ _).alloc (Nat.le_refl _) _)).mono ?_
  rintro e w1 ⟨v, rfl, ⟨A, c, rfl, _, _⟩, hb⟩
  have HB : Hid (Below w.heap.size w w1) := ((Below.refl _ _).alloc (Nat.le_refl _) _).trans (hb.mono (by simp))
  have hs := HB.out.size
  clear hb
  go_wp2
  go_ret2
  exact HR.out _ (HB.out.alloc hs _)

set_option maxHeartbeats 3200000 in
set_option maxRecDepth 1000000 in
theorem rsm2_n_y {c1 l1 d0 d1 M : Nat} {A1 : Option Addr} {n1 : Bool} {a r p : Int} (w : World) (HN : Hid (∀ W : World, Below w.heap.size w W → Calls Tryd.prog 21 #[.agg #[.bool n1, .slice A1 l1 c1]] W (IntRet W a))) (hd : digs a.natAbs = [d0, d1]) (b0 : d0 < 4294967296) (b1 : d1 < 4294967296)
    (hs : decide (a < 0) = true) (em : (d1 : Int) * 4294967296 + (d0 : Int) = (M : Int)) (k : decide ((M : Int) ≤ 9223372036854775808) = true) (q1 : IntKind.u64.wrap (-(M : Int)) = p) (q2 : IntKind.i64.wrap p = r) (HR : Hid (∀ w', Below w.heap.size w w' → SmallRet w a (.returned (.tuple #[.int .i64 r, .bool true])) w')) :
    Calls Tryd.prog 17 #[.agg #[.bool n1, .slice A1 l1 c1]] w (SmallRet w a) := by
  go_enter Tryd.func17, Tryd.ntmps17
  go_wp2_with (go_at_call 21; fail)
  refine (HN.out _ ((Below.refl _ _).alloc (Nat.le_refl _) _)).mono ?_
  rintro e w1 ⟨v, rfl, ⟨A, c, rfl, hr, _⟩, hb⟩
  rw [hd] at hr
  obtain ⟨b, o, rfl, hbb, hc0⟩ := hr.at_ (k := 0) (by simp)
  have e0 := fun ob => (World.cell?_alloc_lt w1 ob ⟨b, o, none⟩ hbb).trans hc0
  replace e0 : ∀ ob, (w1.alloc ob).cell? ⟨b, o, none⟩ = some (.int .u32 (d0 : Int)) := e0
  obtain ⟨b', o', e, _, hc1⟩ := hr.at_ (k := 1) (by simp)
  injection e with e
  injection e with e1 e2
  subst e1; subst e2
  have e1 : ∀ ob, (w1.alloc ob).cell? ⟨b, o + 1, none⟩ = some (.int .u32 (d1 : Int)) := fun ob => (World.cell?_alloc_lt w1 ob ⟨b, o + 1, none⟩ hbb).trans hc1
  clear hc1
  clear hc0
  have HB : Hid (Below w.heap.size w w1) := ((Below.refl _ _).alloc (Nat.le_refl _) _).trans (hb.mono (by simp))
  have hsz := HB.out.size
  have hln : (digs a.natAbs).length = 2 := by rw [hd]; rfl
  rw [hs, hln]
  clear hb hr hd hs hln
  go_wp2
  refine wp_loop_rounds 3 ?_
  rw [rounds_succ]
  go_wp2
  rw [rounds_succ]
  go_wp2
  rw [rounds_succ]
  go_wp2
  go_ret2
  exact HR.out _ (HB.out.alloc hsz _)

set_option maxHeartbeats 3200000 in
set_option maxRecDepth 1000000 in
theorem rsm2_n_n {c1 l1 d0 d1 M : Nat} {A1 : Option Addr} {n1 : Bool} {a : Int} (w : World) (HN : Hid (∀ W : World, Below w.heap.size w W → Calls Tryd.prog 21 #[.agg #[.bool n1, .slice A1 l1 c1]] W (IntRet W a))) (hd : digs a.natAbs = [d0, d1]) (b0 : d0 < 4294967296) (b1 : d1 < 4294967296)
    (hs : decide (a < 0) = true) (em : (d1 : Int) * 4294967296 + (d0 : Int) = (M : Int)) (k : decide ((M : Int) ≤ 9223372036854775808) = false) (HR : Hid (∀ w', Below w.heap.size w w' → SmallRet w a (.returned (.tuple #[.int .i64 0, .bool false])) w')) :
    Calls Tryd.prog 17 #[.agg #[.bool n1, .slice A1 l1 c1]] w (SmallRet w a) := by
  go_enter Tryd.func17, Tryd.ntmps17
  go_wp2_with (go_at_call 21; fail)
  refine (HN.out _ ((Below.refl _ _).alloc (Nat.le_refl _) _)).mono ?_
  rintro e w1 ⟨v, rfl, ⟨A, c, rfl, hr, _⟩, hb⟩
  rw [hd] at hr
  obtain ⟨b, o, rfl, hbb, hc0⟩ := hr.at_ (k := 0) (by simp)
  have e0 := fun ob => (World.cell?_alloc_lt w1 ob ⟨b, o, none⟩ hbb).trans hc0
  replace e0 : ∀ ob, (w1.alloc ob).cell? ⟨b, o, none⟩ = some (.int .u32 (d0 : Int)) := e0
  obtain ⟨b', o', e, _, hc1⟩ := hr.at_ (k := 1) (by simp)
  injection e with e
  injection e with e1 e2
  subst e1; subst e2
  have e1 : ∀ ob, (w1.alloc ob).cell? ⟨b, o + 1, none⟩ = some (.int .u32 (d1 : Int)) := fun ob => (World.cell?_alloc_lt w1 ob ⟨b, o + 1, none⟩ hbb).trans hc1
  clear hc1
  clear hc0
  have HB : Hid (Below w.heap.size w w1) := ((Below.refl _ _).alloc (Nat.le_refl _) _).trans (hb.mono (by simp))
  have hsz := HB.out.size
  have hln : (digs a.natAbs).length = 2 := by rw [hd]; rfl
  rw [hs, hln]
  clear hb hr hd hs hln
  go_wp2
  refine wp_loop_rounds 3 ?_
  rw [rounds_succ]
  go_wp2
  rw [rounds_succ]
  go_wp2
  rw [rounds_succ]
  go_wp2
  go_ret2
  exact HR.out _ (HB.out.alloc hsz _)

set_option maxHeartbeats 3200000 in
set_option maxRecDepth 1000000 in
theorem rsm2_p_y {c1 l1 d0 d1 M : Nat} {A1 : Option Addr} {n1 : Bool} {a r : Int} (w : World) (HN : Hid (∀ W : World, Below w.heap.size w W → Calls Tryd.prog 21 #[.agg #[.bool n1, .slice A1 l1 c1]] W (IntRet W a))) (hd : digs a.natAbs = [d0, d1]) (b0 : d0 < 4294967296) (b1 : d1 < 4294967296)
    (hs : decide (a < 0) = false) (em : (d1 : Int) * 4294967296 + (d0 : Int) = (M : Int)) (k : decide ((M : Int) ≤ 9223372036854775807) = true) (q2 : IntKind.i64.wrap (M : Int) = r) (HR : Hid (∀ w', Below w.heap.size w w' → SmallRet w a (.returned (.tuple #[.int .i64 r, .bool true])) w')) :
    Calls Tryd.prog 17 #[.agg #[.bool n1, .slice A1 l1 c1]] w (SmallRet w a) := by
  go_enter Tryd.func17, Tryd.ntmps17
  go_wp2_with (go_at_call 21; fail)
  refine (HN.out _ ((Below.refl _ _).alloc (Nat.le_refl _) _)).mono ?_
  rintro e w1 ⟨v, rfl, ⟨A, c, rfl, hr, _⟩, hb⟩
  rw [hd] at hr
  obtain ⟨b, o, rfl, hbb, hc0⟩ := hr.at_ (k := 0) (by simp)
  have e0 := fun ob => (World.cell?_alloc_lt w1 ob ⟨b, o, none⟩ hbb).trans hc0
  replace e0 : ∀ ob, (w1.alloc ob).cell? ⟨b, o, none⟩ = some (.int .u32 (d0 : Int)) := e0
  obtain ⟨b', o', e, _, hc1⟩ := hr.at_ (k := 1) (by simp)
  injection e with e
  injection e with e1 e2
  subst e1; subst e2
  have e1 : ∀ ob, (w1.alloc ob).cell? ⟨b, o + 1, none⟩ = some (.int .u32 (d1 : Int)) := fun ob => (World.cell?_alloc_lt w1 ob ⟨b, o + 1, none⟩ hbb).trans hc1
  clear hc1
  clear hc0
  have HB : Hid (Below w.heap.size w w1) := ((Below.refl _ _).alloc (Nat.le_refl _) _).trans (hb.mono (by simp))
  have hsz := HB.out.size
  have hln : (digs a.natAbs).length = 2 := by rw [hd]; rfl
  rw [hs, hln]
  clear hb hr hd hs hln
  go_wp2
  refine wp_loop_rounds 3 ?_
  rw [rounds_succ]
  go_wp2
  rw [rounds_succ]
  go_wp2
  rw [rounds_succ]
  go_wp2
  go_ret2
  exact HR.out _ (HB.out.alloc hsz _)

set_option maxHeartbeats 3200000 in
set_option maxRecDepth 1000000 in
theorem rsm2_p_n {c1 l1 d0 d1 M : Nat} {A1 : Option Addr} {n1 : Bool} {a : Int} (w : World) (HN : Hid (∀ W : World, Below w.heap.size w W → Calls Tryd.prog 21 #[.agg #[.bool n1, .slice A1 l1 c1]] W (IntRet W a))) (hd : digs a.natAbs = [d0, d1]) (b0 : d0 < 4294967296) (b1 : d1 < 4294967296)
    (hs : decide (a < 0) = false) (em : (d1 : Int) * 4294967296 + (d0 : Int) = (M : Int)) (k : decide ((M : Int) ≤ 9223372036854775807) = false) (HR : Hid (∀ w', Below w.heap.size w w' → SmallRet w a (.returned (.tuple #[.int .i64 0, .bool false])) w')) :
    Calls Tryd.prog 17 #[.agg #[.bool n1, .slice A1 l1 c1]] w (SmallRet w a) := by
  go_enter Tryd.func17, Tryd.ntmps17
  go_wp2_with (go_at_call 21; fail)
  refine (HN.out _ ((Below.refl _ _).alloc (Nat.le_refl _) _)).mono ?_
  rintro e w1 ⟨v, rfl, ⟨A, c, rfl, hr, _⟩, hb⟩
  rw [hd] at hr
  obtain ⟨b, o, rfl, hbb, hc0⟩ := hr.at_ (k := 0) (by simp)
  have e0 := fun ob => (World.cell?_alloc_lt w1 ob ⟨b, o, none⟩ hbb).trans hc0
  replace e0 : ∀ ob, (w1.alloc ob).cell? ⟨b, o, none⟩ = some (.int .u32 (d0 : Int)) := e0
  obtain ⟨b', o', e, _, hc1⟩ := hr.at_ (k := 1) (by simp)
  injection e with e
  injection e with e1 e2
  subst e1; subst e2
  have e1 : ∀ ob, (w1.alloc ob).cell? ⟨b, o + 1, none⟩ = some (.int .u32 (d1 : Int)) := fun ob => (World.cell?_alloc_lt w1 ob ⟨b, o + 1, none⟩ hbb).trans hc1
  clear hc1
  clear hc0
  have HB : Hid (Below w.heap.size w w1) := ((Below.refl _ _).alloc (Nat.le_refl _) _).trans (hb.mono (by simp))
  have hsz := HB.out.size
  have hln : (digs a.natAbs).length = 2 := by rw [hd]; rfl
  rw [hs, hln]
  clear hb hr hd hs hln
  go_wp2
  refine wp_loop_rounds 3 ?_
  rw [rounds_succ]
  go_wp2
  rw [rounds_succ]
  go_wp2
  rw [rounds_succ]
  go_wp2
  go_ret2
  exact HR.out _ (HB.out.alloc hsz _)

set_option maxHeartbeats 3200000 in
set_option maxRecDepth 1000000 in
theorem rsm1_n_y {c1 l1 d0 : Nat} {A1 : Option Addr} {n1 : Bool} {a r p : Int} (w : World) (HN : Hid (∀ W : World, Below w.heap.size w W → Calls Tryd.prog 21 #[.agg #[.bool n1, .slice A1 l1 c1]] W (IntRet W a))) (hd : digs a.natAbs = [d0]) (b0 : d0 < 4294967296)
    (hs : decide (a < 0) = true) (q1 : IntKind.u64.wrap (-(d0 : Int)) = p) (q2 : IntKind.i64.wrap p = r) (HR : Hid (∀ w', Below w.heap.size w w' → SmallRet w a (.returned (.tuple #[.int .i64 r, .bool true])) w')) :
    Calls Tryd.prog 17 #[.agg #[.bool n1, .slice A1 l1 c1]] w (SmallRet w a) := by
  go_enter Tryd.func17, Tryd.ntmps17
  go_wp2_with (go_at_call 21; fail)
  refine (HN.out _ ((Below.refl _ _).alloc (Nat.le_refl _) _)).mono ?_
  rintro e w1 ⟨v, rfl, ⟨A, c, rfl, hr, _⟩, hb⟩
  rw [hd] at hr
  obtain ⟨b, o, rfl, hbb, hc0⟩ := hr.at_ (k := 0) (by simp)
  have e0 := fun ob => (World.cell?_alloc_lt w1 ob ⟨b, o, none⟩ hbb).trans hc0
  replace e0 : ∀ ob, (w1.alloc ob).cell? ⟨b, o, none⟩ = some (.int .u32 (d0 : Int)) := e0
  clear hc0
  have HB : Hid (Below w.heap.size w w1) := ((Below.refl _ _).alloc (Nat.le_refl _) _).trans (hb.mono (by simp))
  have hsz := HB.out.size
  have hln : (digs a.natAbs).length = 1 := by rw [hd]; rfl
  rw [hs, hln]
  clear hb hr hd hs hln
  go_wp2
  refine wp_loop_rounds 2 ?_
  rw [rounds_succ]
  go_wp2
  rw [rounds_succ]
  go_wp2
  go_ret2
  exact HR.out _ (HB.out.alloc hsz _)

set_option maxHeartbeats 3200000 in
set_option maxRecDepth 1000000 in
theorem rsm1_p_y {c1 l1 d0 : Nat} {A1 : Option Addr} {n1 : Bool} {a : Int} (w : World) (HN : Hid (∀ W : World, Below w.heap.size w W → Calls Tryd.prog 21 #[.agg #[.bool n1, .slice A1 l1 c1]] W (IntRet W a))) (hd : digs a.natAbs = [d0]) (b0 : d0 < 4294967296)
    (hs : decide (a < 0) = false)  (HR : Hid (∀ w', Below w.heap.size w w' → SmallRet w a (.returned (.tuple #[.int .i64 (d0 : Int), .bool true])) w')) :
    Calls Tryd.prog 17 #[.agg #[.bool n1, .slice A1 l1 c1]] w (SmallRet w a) := by
  go_enter Tryd.func17, Tryd.ntmps17
  go_wp2_with (go_at_call 21; fail)
  refine (HN.out _ ((Below.refl _ _).alloc (Nat.le_refl _) _)).mono ?_
  rintro e w1 ⟨v, rfl, ⟨A, c, rfl, hr, _⟩, hb⟩
  rw [hd] at hr
  obtain ⟨b, o, rfl, hbb, hc0⟩ := hr.at_ (k := 0) (by simp)
  have e0 := fun ob => (World.cell?_alloc_lt w1 ob ⟨b, o, none⟩ hbb).trans hc0
  replace e0 : ∀ ob, (w1.alloc ob).cell? ⟨b, o, none⟩ = some (.int .u32 (d0 : Int)) := e0
  clear hc0
  have HB : Hid (Below w.heap.size w w1) := ((Below.refl _ _).alloc (Nat.le_refl _) _).trans (hb.mono (by simp))
  have hsz := HB.out.size
  have hln : (digs a.natAbs).length = 1 := by rw [hd]; rfl
  rw [hs, hln]
  clear hb hr hd hs hln
  go_wp2
  refine wp_loop_rounds 2 ?_
  rw [rounds_succ]
  go_wp2
  rw [rounds_succ]
  go_wp2
  go_ret2
  exact HR.out _ (HB.out.alloc hsz _)

set_option maxHeartbeats 3200000 in
set_option maxRecDepth 1000000 in
theorem rsm0_p_y {c1 l1  : Nat} {A1 : Option Addr} {n1 : Bool} {a : Int} (w : World) (HN : Hid (∀ W : World, Below w.heap.size w W → Calls Tryd.prog 21 #[.agg #[.bool n1, .slice A1 l1 c1]] W (IntRet W a))) (hd : digs a.natAbs = []) 
    (hs : decide (a < 0) = false)  (HR : Hid (∀ w', Below w.heap.size w w' → SmallRet w a (.returned (.tuple #[.int .i64 0, .bool true])) w')) :
    Calls Tryd.prog 17 #[.agg #[.bool n1, .slice A1 l1 c1]] w (SmallRet w a) := by
  go_enter Tryd.func17, Tryd.ntmps17
  go_wp2_with (go_at_call 21; fail)
  refine (HN.out _ ((Below.refl _ _).alloc (Nat.le_refl _) _)).mono ?_
  rintro e w1 ⟨v, rfl, ⟨A, c, rfl, hr, _⟩, hb⟩
  rw [hd] at hr
  have HB : Hid (Below w.heap.size w w1) := ((Below.refl _ _).alloc (Nat.le_refl _) _).trans (hb.mono (by simp))
  have hsz := HB.out.size
  have hln : (digs a.natAbs).length = 0 := by rw [hd]; rfl
  rw [hs, hln]
  clear hb hr hd hs hln
  go_wp2
  refine wp_loop_rounds 1 ?_
  rw [rounds_succ]
  go_wp2
  go_ret2
  exact HR.out _ (HB.out.alloc hsz _)

theorem rsmall_raw {w : World} {B l1 : Nat} {v1 : Value} {a : Int} (h1 : Raw w B v1 a l1) (hB : B ≤ w.heap.size) (b1 : l1 ≤ 1000000) : Calls Tryd.prog 17 #[v1] w (SmallRet w a) := by
  obtain ⟨n, A, c, xs, rfl, r1, rfl, k1⟩ := h1
  have HN : Hid (∀ W : World, Below w.heap.size w W → Calls Tryd.prog 21 #[.agg #[.bool n, .slice A xs.length c]] W (IntRet W (sgn n (val xs)))) := fun W hb => rnorm_any n W (r1.below (hb.mono hB)) (by have := hb.size; omega) (by omega)
  generalize sgn n (val xs) = a at *
  rcases Nat.lt_or_ge 2 (digs a.natAbs).length with hl | hl
  · exact rsmall_long w HN hl
  · rcases (show (digs a.natAbs).length = 0 ∨ (digs a.natAbs).length = 1 ∨ (digs a.natAbs).length = 2 by omega) with h0 | h0 | h0
    · have hz := digs_len0 h0
      have ha : a = 0 := by omega
      obtain ⟨e1, e2⟩ := small_yes (a := a) (by omega)
      exact rsm0_p_y w HN (by rw [hz, digs_zero]) (decide_eq_false (by omega)) (fun w' hb => ⟨by rw [e1, e2, ha], hb⟩)
    · obtain ⟨p1, p2⟩ := digs_len1 h0
      obtain ⟨e1, e2⟩ := small_yes (a := a) (by omega)
      rcases Int.lt_or_le a 0 with hn | hn
      · exact rsm1_n_y (r := a) w HN (digs_one p1 p2) p2 (decide_eq_true hn) rfl (by rw [IntKind.wrap_u64, IntKind.wrap_i64]; omega) (fun w' hb => ⟨by rw [e1, e2], hb⟩)
      · exact rsm1_p_y w HN (digs_one p1 p2) p2 (decide_eq_false (by omega)) (fun w' hb => ⟨by rw [e1, e2, show (a.natAbs : Int) = a by omega], hb⟩)
    · obtain ⟨p1, p2⟩ := digs_len2 h0
      have em : ((a.natAbs / 4294967296 : Nat) : Int) * 4294967296 + ((a.natAbs % 4294967296 : Nat) : Int) = (a.natAbs : Int) := by omega
      rcases Int.lt_or_le a 0 with hn | hn
      · rcases Int.lt_or_le a (-9223372036854775808) with h | h
        · obtain ⟨e1, e2⟩ := small_no (a := a) (.inl h)
          exact rsm2_n_n w HN (digs_two p1 p2) (by omega) (by omega) (decide_eq_true hn) em (decide_eq_false (by omega)) (fun w' hb => ⟨by rw [e1, e2], hb⟩)
        · obtain ⟨e1, e2⟩ := small_yes (a := a) (by omega)
          exact rsm2_n_y (r := a) w HN (digs_two p1 p2) (by omega) (by omega) (decide_eq_true hn) em (decide_eq_true (by omega)) rfl (by rw [IntKind.wrap_u64, IntKind.wrap_i64]; omega) (fun w' hb => ⟨by rw [e1, e2], hb⟩)
      · rcases Int.lt_or_le 9223372036854775807 a with h | h
        · obtain ⟨e1, e2⟩ := small_no (a := a) (.inr h)
          exact rsm2_p_n w HN (digs_two p1 p2) (by omega) (by omega) (decide_eq_false (by omega)) em (decide_eq_false (by omega)) (fun w' hb => ⟨by rw [e1, e2], hb⟩)
        · obtain ⟨e1, e2⟩ := small_yes (a := a) (by omega)
          exact rsm2_p_y (r := a) w HN (digs_two p1 p2) (by omega) (by omega) (decide_eq_false (by omega)) em (decide_eq_true (by omega)) (by rw [IntKind.wrap_i64]; omega) (fun w' hb => ⟨by rw [e1, e2], hb⟩)
end Go.Proofs.YtbijjiadokgmoaaDoor
