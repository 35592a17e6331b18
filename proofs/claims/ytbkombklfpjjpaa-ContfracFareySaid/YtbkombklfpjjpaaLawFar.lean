/- ContfracFarey answers true for all integers: what it does to the world. -/
import Derived.Test.YtbkombklfpjjpaaLawPath
import Derived.Test.YtbkombklfpjjpaaRFarL
import Derived.Test.YtbkombklfpjjpaaFarK1
import Derived.Test.YtbkombklfpjjpaaFarK2
namespace Go.Proofs.Ytbkombklfpjjpaa
open Go.RowKit

theorem ok_all (q : Nat) (h1 : 1 ≤ q) (h2 : q ≤ 60) : okQ q = true := by
  have key : ∀ c : Nat, (List.range 6).all (fun i => okQ (i + c)) = true → c ≤ q → q < c + 6 → okQ q = true := by
    intro c h k1 k2
    have := List.all_eq_true.1 h (q - c) (List.mem_range.2 (by omega))
    rwa [show q - c + c = q by omega] at this
  by_cases k1 : q < 7
  · exact key 1 ok_1 (by omega) (by omega)
  by_cases k2 : q < 13
  · exact key 7 ok_7 (by omega) (by omega)
  by_cases k3 : q < 19
  · exact key 13 ok_13 (by omega) (by omega)
  by_cases k4 : q < 25
  · exact key 19 ok_19 (by omega) (by omega)
  by_cases k5 : q < 31
  · exact key 25 ok_25 (by omega) (by omega)
  by_cases k6 : q < 37
  · exact key 31 ok_31 (by omega) (by omega)
  by_cases k7 : q < 43
  · exact key 37 ok_37 (by omega) (by omega)
  by_cases k8 : q < 49
  · exact key 43 ok_43 (by omega) (by omega)
  by_cases k9 : q < 55
  · exact key 49 ok_49 (by omega) (by omega)
  · exact key 55 ok_55 (by omega) (by omega)
theorem nbsB_nbs : ∀ {C : List (Int × Int)}, nbsB C = true → (∀ i (h : i + 1 < C.length), C[i].1 * C[i + 1].2 - C[i + 1].1 * C[i].2 = 1 ∨ C[i].1 * C[i + 1].2 - C[i + 1].1 * C[i].2 = -1) ∧ ∀ x ∈ C, inE x.1 = true ∧ inE x.2 = true
  | [], _ => ⟨fun i h => by simp at h, fun x hx => by cases hx⟩
  | [u], h => by
    unfold nbsB at h
    rw [decide_eq_true_eq] at h
    refine ⟨fun i h => by simp at h, fun x hx => ?_⟩
    simp at hx
    subst hx
    exact ⟨inE_yes (by omega) (by omega), inE_yes (by omega) (by omega)⟩
  | u :: v :: l, h => by
    unfold nbsB at h
    rw [Bool.and_eq_true, Bool.and_eq_true, decide_eq_true_eq, decide_eq_true_eq] at h
    obtain ⟨i1, i2⟩ := nbsB_nbs h.2
    refine ⟨fun i hi => ?_, fun x hx => ?_⟩
    · match i, hi with
      | 0, _ => exact h.1.1
      | i + 1, hi => exact i1 i (by simpa using hi)
    · rcases List.mem_cons.1 hx with e | hx
      · subst e
        exact ⟨inE_yes (by omega) (by omega), inE_yes (by omega) (by omega)⟩
      · exact i2 x hx
theorem farey_no (n : Int) (w : World) (h : n < 1 ∨ 60 < n) : Calls Try.prog 35 #[.int .i64 n] w fun e w' => e = .returned (.tuple #[.slice none 0 0, .int .i64 2]) ∧ w = w' := by
  by_cases h1 : n < 1
  · go_enter Try.func35, Try.ntmps35
    go_wp2
    go_ret2
    exact ⟨rfl, rfl⟩
  · have h2 : 60 < n := by omega
    clear h
    go_enter Try.func35, Try.ntmps35
    go_wp2
    go_ret2
    exact ⟨rfl, rfl⟩
theorem rfarey_no (n : Int) (w : World) (h : n < 1 ∨ 60 < n) : Calls Try.prog 36 #[.int .i64 n] w fun e w' => e = .returned (.tuple #[.slice none 0 0, .int .i64 2]) ∧ w = w' := by
  by_cases h1 : n < 1
  · go_enter Try.func36, Try.ntmps36
    go_wp2
    go_ret2
    exact ⟨rfl, rfl⟩
  · have h2 : 60 < n := by omega
    clear h
    go_enter Try.func36, Try.ntmps36
    go_wp2
    go_ret2
    exact ⟨rfl, rfl⟩
set_option maxHeartbeats 3200000 in
set_option maxRecDepth 1000000 in
theorem farey_walk (n : Int) (w : World) :
    Calls Try.prog 12 #[.int .i64 n] w fun e w' => e = .returned (.bool true) ∧ Below w.heap.size w w' := by
  by_cases h : 1 ≤ n ∧ n ≤ 60
  · obtain ⟨n1, n2⟩ := h
    obtain ⟨q, rfl⟩ : ∃ q : Nat, n = (q : Int) := ⟨n.toNat, by omega⟩
    have hq := ok_parts (ok_all q (by omega) (by omega))
    have hS := sR_far ok_all q (by omega) (by omega)
    obtain ⟨L, hL⟩ : ∃ L, (far q).length = L := ⟨_, rfl⟩
    have HN : Hid (Nbs (far q)) := ⟨(nbsB_nbs hq.2.2.1).1, (nbsB_nbs hq.2.2.1).2⟩
    have HA := Lib.hid (fun W => (farey_any q W n1 n2 (by have := hq.2.2.2; omega) hq.2.1).mono fun e w' hh => CusTup.n hL hh)
    have HR : Hid (∀ W, Calls Try.prog 36 #[.int .i64 q] W (TupN W L 0 (far q))) := by
      intro W
      have := rfarey_any q W n1 n2
      rw [Int.toNat_natCast, hS, List.reverse_reverse] at this
      exact this.mono fun e w' hh => CusTup.n hL hh
    have HLL := Lib.hid hL
    clear hq hS hL
    generalize far q = C at *
    go_enter Try.func12, Try.ntmps12
    go_wp2_with (first
      | (go_at_call 13; ((with_reducible refine (awake_any _).mono ?_); rintro e w1 ⟨rfl, hb⟩; have HB1 := Lib.hid hb; clear hb))
      | (go_at_call 35; ((with_reducible refine (HA.out _).mono ?_); rintro e w2 ⟨A1, c1, rfl, hr, hb⟩; have R1 := Lib.hid hr; have HB2 : Hid (Below w.heap.size w w2) := bel0 HB1.out hb; clear hr hb))
      | (go_at_call 36; ((with_reducible refine (HR.out _).mono ?_); rintro e w3 ⟨A2, c2, rfl, hr, hb⟩; have R2 := Lib.hid hr; have R3 := Lib.hid (R1.out.below hb); have HB3 : Hid (Below w.heap.size w w3) := bel0 HB2.out hb; clear hr hb))
      | (go_at_call 20; ((with_reducible refine (same_n _ HLL.out R3.out R2.out).mono ?_); rintro e w4 ⟨rfl, n4, hw⟩; have R4 : Hid (RdC w4 w2.heap.size A1 c1 C) := (by rw [hw]; exact R3.out); have HB4 : Hid (Below w.heap.size w w4) := (by rw [hw]; exact below_drewN HB3.out _); clear hw))
      | (go_at_call 24; ((with_reducible refine (nbs_n _ HLL.out R4.out HN.out).mono ?_); rintro e w5 ⟨rfl, n5, hw⟩; have HB5 : Hid (Below w.heap.size w w5) := (by rw [hw]; exact below_drewN HB4.out _); clear hw))
      | fail)
    go_ret
    exact ⟨rfl, HB5.out⟩
  · have h2 : n < 1 ∨ 60 < n := by omega
    have HA := Lib.hid (fun W => farey_no n W h2)
    have HR := Lib.hid (fun W => rfarey_no n W h2)
    have HN : Hid (Nbs []) := ⟨fun i h => by simp at h, fun x hx => by cases hx⟩
    clear h h2
    go_enter Try.func12, Try.ntmps12
    go_wp2_with (first
      | (go_at_call 13; ((with_reducible refine (awake_any _).mono ?_); rintro e w1 ⟨rfl, hb⟩; have HB1 := Lib.hid hb; clear hb))
      | (go_at_call 35; ((with_reducible refine (HA.out _).mono ?_); rintro e w2 ⟨rfl, rfl⟩))
      | (go_at_call 36; ((with_reducible refine (HR.out _).mono ?_); rintro e w3 ⟨rfl, rfl⟩))
      | (go_at_call 20; ((with_reducible refine (same_n _ List.length_nil (rdc_nil w1 0) (rdc_nil w1 0)).mono ?_); rintro e w4 ⟨rfl, n4, hw⟩; have HB4 : Hid (Below w.heap.size w w4) := (by rw [hw]; exact below_drewN HB1.out _); clear hw))
      | (go_at_call 24; ((with_reducible refine (nbs_n _ List.length_nil (rdc_nil w4 0) HN.out).mono ?_); rintro e w5 ⟨rfl, n5, hw⟩; have HB5 : Hid (Below w.heap.size w w5) := (by rw [hw]; exact below_drewN HB4.out _); clear hw))
      | fail)
    go_ret
    exact ⟨rfl, HB5.out⟩
end Go.Proofs.Ytbkombklfpjjpaa
