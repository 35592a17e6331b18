/- Contracts of toWord and fromWord. -/
import Derived.Test.YtbijjiadokgmoaaDoorDiff
import Derived.Laws.BitsAllLaws
namespace Go.Proofs.YtbijjiadokgmoaaDoor
open Go.RowKit

theorem digs_len0 {n : Nat} (h : (digs n).length = 0) : n = 0 := digs_eq_nil.1 (List.eq_nil_of_length_eq_zero h)
theorem digs_len1 {n : Nat} (h : (digs n).length = 1) : 0 < n ∧ n < 4294967296 := by
  have h1 := lt_digs n
  rw [h, Nat.pow_one] at h1
  refine ⟨Nat.pos_of_ne_zero fun e => ?_, h1⟩
  rw [e, digs_zero] at h; cases h
theorem digs_len2 {n : Nat} (h : (digs n).length = 2) : 4294967296 ≤ n ∧ n < 18446744073709551616 := by
  have h1 := lt_digs n
  rw [h] at h1
  refine ⟨?_, h1⟩
  rcases Nat.lt_or_ge n 4294967296 with h2 | h2
  · exfalso
    rcases Nat.eq_zero_or_pos n with h0 | h0
    · rw [h0, digs_zero] at h; cases h
    · rw [digs_one h0 h2] at h; cases h
  · exact h2

set_option maxHeartbeats 800000 in
set_option maxRecDepth 1000000 in
theorem toWord_0 {c : Nat} {A : Option Addr} (w : World) :
    Calls Tryd.prog 56 #[.slice A 0 c] w fun e w' => e = .returned (.int .u64 0) ∧ w = w' := by
  go_enter Tryd.func56, Tryd.ntmps56
  go_wp2
  go_ret
  exact ⟨rfl, rfl⟩
set_option maxHeartbeats 800000 in
set_option maxRecDepth 1000000 in
theorem toWord_1 {b o c x : Nat} (w : World) (hx : x < 4294967296) (hc : w.cell? ⟨b, o, none⟩ = some (.int .u32 (x : Int))) :
    Calls Tryd.prog 56 #[.slice (some ⟨b, o, none⟩) 1 c] w fun e w' => e = .returned (.int .u64 (x : Int)) ∧ w = w' := by
  have hc0 : w.cell? ⟨b, o + 0, none⟩ = some (.int .u32 (x : Int)) := hc
  go_enter Tryd.func56, Tryd.ntmps56
  go_wp2
  go_ret
  exact ⟨rfl, rfl⟩
set_option maxHeartbeats 800000 in
set_option maxRecDepth 1000000 in
theorem toWord_2 {b o c x y : Nat} (w : World) (hx : x < 4294967296) (hy : y < 4294967296) (hc : w.cell? ⟨b, o, none⟩ = some (.int .u32 (x : Int))) (hc1 : w.cell? ⟨b, o + 1, none⟩ = some (.int .u32 (y : Int))) :
    Calls Tryd.prog 56 #[.slice (some ⟨b, o, none⟩) 2 c] w fun e w' => e = .returned (.int .u64 ((4294967296 * y + x : Nat) : Int)) ∧ ∃ q, w' = w.drewN q := by
  have hor : bits BinOp.or IntKind.u64 ((y : Int) * 4294967296) (x : Int) = ((4294967296 * y + x : Nat) : Int) := by
    rw [show ((y : Int) * 4294967296) = ((y * 4294967296 : Nat) : Int) by omega, u64_or_nat _ _ (by omega) (by omega), show (4294967296 : Nat) = 2 ^ 32 by rfl, ← Nat.shiftLeft_eq, ← Nat.shiftLeft_add_eq_or_of_lt (by omega), Nat.shiftLeft_eq, Nat.mul_comm]
  have HOR := Lib.hid hor
  clear hor
  have d0 := fun N => (show (w.drewN N).cell? ⟨b, o, none⟩ = _ from hc)
  have d1 := fun N => (show (w.drewN N).cell? ⟨b, o + 1, none⟩ = _ from hc1)
  go_enter Tryd.func56, Tryd.ntmps56
  go_wp2
  go_quiet (fail)
  go_wp2

  go_ret
  exact ⟨by rw [← HOR.out]; rfl, _, rfl⟩

set_option maxHeartbeats 800000 in
set_option maxRecDepth 1000000 in
theorem fromWord_1 {x : Nat} (w : World) (h0 : 0 < x) (hx : x < 4294967296) :
    Calls Tryd.prog 58 #[.int .u64 x] w fun e w' => e = .returned (.slice (some ⟨w.heap.size, 0, none⟩) 1 1) ∧ w' = w.alloc (.cells #[.int .u32 x] 64) := by
  have hb0 : ((x : Int) == 0) = false := by rw [beq_eq_false_iff_ne]; omega
  have hb1 : ((x : Int) / 4294967296 == 0) = true := by rw [beq_iff_eq]; omega
  go_enter Tryd.func58, Tryd.ntmps58
  go_wp2

  go_ret
  exact ⟨rfl, rfl⟩
set_option maxHeartbeats 800000 in
set_option maxRecDepth 1000000 in
theorem fromWord_2 {x d0 d1 : Nat} (w : World) (h0 : 0 < d1) (hy : d1 < 4294967296) (hd0 : IntKind.u32.wrap (x : Int) = (d0 : Int)) (hd1 : (x : Int) / 4294967296 = (d1 : Int)) (hne : ((x : Int) == 0) = false) :
    Calls Tryd.prog 58 #[.int .u64 x] w fun e w' => e = .returned (.slice (some ⟨w.heap.size, 0, none⟩) 2 2) ∧ w' = w.alloc (.cells #[.int .u32 d0, .int .u32 d1] 64) := by
  have hb0 : ((d1 : Int) == 0) = false := by rw [beq_eq_false_iff_ne]; omega
  go_enter Tryd.func58, Tryd.ntmps58
  go_wp2

  go_ret
  exact ⟨rfl, rfl⟩

set_option maxHeartbeats 800000 in
set_option maxRecDepth 1000000 in
theorem fromWord_0 (w : World) : Calls Tryd.prog 58 #[.int .u64 0] w fun e w' => e = .returned (.slice none 0 0) ∧ w' = w := by
  go_enter Tryd.func58, Tryd.ntmps58
  go_wp2
  go_ret
  exact ⟨rfl, rfl⟩

theorem own_new (w : World) {ds : List Nat} {cs : Array Value} (hd : Dgs ds) (hcs : cs = (dval ds).toArray) : Own (w.alloc (.cells cs 64)) w.heap.size 0 ds := by
  refine ⟨hd, _, heap_alloc_new _ _, by rw [hcs]; simp [dval], fun k hk => ?_⟩
  rw [hcs, Nat.zero_add, List.getElem?_toArray, dval, List.getElem?_map, List.getElem?_eq_getElem hk]
  rfl
theorem MagRet.new {w : World} {r : Nat} {cs : Array Value} (hcs : cs = (dval (digs r)).toArray) (hl : (digs r).length ≤ 1000000) : MagRet w r (.returned (.slice (some ⟨w.heap.size, 0, none⟩) (digs r).length (digs r).length)) (w.alloc (.cells cs 64)) :=
  ⟨_, _, rfl, (own_new w (dgs_digs r) hcs).rd (Nat.le_refl _) (by unfold maxLen; omega) (by simp), fun a ha => by injection ha with ha; rw [← ha]; exact Nat.le_refl _, (Below.refl _ _).alloc (Nat.le_refl _) _⟩
theorem MagRet.zero (w : World) : MagRet w 0 (.returned (.slice none 0 0)) w :=
  ⟨none, 0, by rw [digs_zero]; rfl, by rw [digs_zero]; exact Rd.nil _ _, (fun a ha => by cases ha), Below.refl _ _⟩

theorem fromWord_any {x : Nat} (w : World) (hx : x < 18446744073709551616) : Calls Tryd.prog 58 #[.int .u64 x] w (MagRet w x) := by
  rcases Nat.eq_zero_or_pos x with h0 | h0
  · subst h0
    exact (fromWord_0 w).mono fun e w' ⟨he, hw⟩ => by rw [he, hw]; exact MagRet.zero w
  · rcases Nat.lt_or_ge x 4294967296 with h1 | h1
    · have hd := digs_one h0 h1
      exact (fromWord_1 w h0 h1).mono fun e w' ⟨he, hw⟩ => by
        rw [he, hw]
        have := MagRet.new (w := w) (r := x) (cs := #[.int .u32 x]) (by rw [hd]; rfl) (by rw [hd]; simp)
        rw [hd] at this
        exact this
    · have hd := digs_two h1 hx
      have e0 : IntKind.u32.wrap (x : Int) = ((x % 4294967296 : Nat) : Int) := by rw [IntKind.wrap_u32]; omega
      exact (fromWord_2 (d0 := x % 4294967296) (d1 := x / 4294967296) w (by omega) (by omega) e0 (by omega) (by rw [beq_eq_false_iff_ne]; omega)).mono fun e w' ⟨he, hw⟩ => by
        rw [he, hw]
        have := MagRet.new (w := w) (r := x) (cs := #[.int .u32 (x % 4294967296 : Nat), .int .u32 (x / 4294967296 : Nat)]) (by rw [hd]; rfl) (by rw [hd]; simp)
        rw [hd] at this
        exact this

/-- A number of at most two digits, read by toWord. -/
theorem toWord_any {B n c : Nat} {A : Option Addr} (w : World) (h : Rd w B A c (digs n)) (hl : (digs n).length ≤ 2) :
    Calls Tryd.prog 56 #[.slice A (digs n).length c] w fun e w' => e = .returned (.int .u64 (n : Int)) ∧ ∃ q, w' = w.drewN q := by
  rcases (show (digs n).length = 0 ∨ (digs n).length = 1 ∨ (digs n).length = 2 by omega) with h0 | h0 | h0
  · obtain rfl := digs_len0 h0
    rw [digs_zero]
    exact (toWord_0 w).mono fun e w' ⟨he, hw⟩ => ⟨he, 0, hw.symm⟩
  · obtain ⟨p1, p2⟩ := digs_len1 h0
    have hd := digs_one p1 p2
    rw [hd] at h ⊢
    obtain ⟨b, o, rfl, _, hc⟩ := h.at_ (k := 0) (by simp)
    exact (toWord_1 w p2 hc).mono fun e w' ⟨he, hw⟩ => ⟨he, 0, hw.symm⟩
  · obtain ⟨p1, p2⟩ := digs_len2 h0
    have hd := digs_two p1 p2
    rw [hd] at h ⊢
    obtain ⟨b, o, rfl, _, hc⟩ := h.at_ (k := 0) (by simp)
    obtain ⟨b', o', e, _, hc1⟩ := h.at_ (k := 1) (by simp)
    injection e with e
    injection e with e1 e2
    subst e1; subst e2
    refine (toWord_2 (x := n % 4294967296) (y := n / 4294967296) w (Nat.mod_lt n (by omega)) (by omega) hc hc1).mono fun e w' ⟨he, hw⟩ => ⟨?_, hw⟩
    rw [he, Nat.div_add_mod]
end Go.Proofs.YtbijjiadokgmoaaDoor
