/- CorrespondenceCosets: the law. -/
import Derived.Test.YthkhdbngeifenaaCorS
namespace Go.Proofs.Ythkhdbngeifenaa
open Go.RowKit
set_option linter.unusedVariables false
set_option linter.unusedSimpArgs false

theorem rd_of {w w' : World} {C c1 c2 : Nat} {w2 : World} {A1 A2 : Option Addr} {L : List (Nat × Nat × Nat)} {F : List Int} (h : CW C w2 w' (.slice A1 L.length c1) (.slice A2 F.length c2) L F) : RdK w' A1 L ∧ RdZ w' w'.heap.size A2 c2 F := by
  obtain ⟨A9, c9, e9, hr⟩ := own_rdz h.r2
  injection e9 with e8 _ e7
  subst e8
  subst e7
  exact ⟨RdK.of h.r1, hr⟩
theorem rdz_nil0 (w : World) (B : Nat) : RdZ w B none 0 [] := ⟨by simp, by unfold maxLen; omega, fun h0 => by simp at h0, fun _ h0 => by cases h0⟩
set_option maxHeartbeats 3200000 in
set_option maxRecDepth 1000000 in
theorem ccosets_walk (N W D n : Int) (w : World) : Calls Try.prog 3 #[.agg #[.int .i64 N, .int .i64 W, .int .i64 D], .int .i64 n] w fun e w' => e = .returned (.bool true) ∧ Below w.heap.size w w' := by
  have T : Hid ((w.alloc (.cells #[.int .i64 N, .int .i64 W, .int .i64 D] 23)).heap[w.heap.size]? = some (.cells #[.int .i64 N, .int .i64 W, .int .i64 D] 23 (0, 0))) := heap_alloc_new w _
  have HB : Hid (Below w.heap.size w (w.alloc (.cells #[.int .i64 N, .int .i64 W, .int .i64 D] 23))) := below1 w _
  obtain ⟨⟨c0, c1, c2⟩, _⟩ := three_of_blockD T.out
  have HA := Lib.hid awake46_any
  have key : ∃ (M : List (Nat × Nat × Nat)) (F : List Int) (k : Int), M.length ≤ 100000 ∧ (∀ V, Calls Try.prog 6 #[.agg #[.int .i64 N, .int .i64 W, .int .i64 D], .int .i64 n] V fun e w' => ∃ A1 c1 A2 c2, e = .returned (.tuple #[.slice A1 M.length c1, .slice A2 F.length c2, .int .i64 k]) ∧ RdK w' A1 M ∧ RdZ w' w'.heap.size A2 c2 F ∧ Below V.heap.size V w') ∧
      (∀ V, Calls Try.prog 7 #[.agg #[.int .i64 N, .int .i64 W, .int .i64 D], .int .i64 n] V fun e w' => ∃ A1 c1 A2 c2, e = .returned (.tuple #[.slice A1 M.length c1, .slice A2 F.length c2, .int .i64 k]) ∧ RdK w' A1 M ∧ RdZ w' w'.heap.size A2 c2 F ∧ Below V.heap.size V w') := by
    have nilk : ∀ V : World, RdK V none [] := fun V k hk => by simp at hk
    by_cases h : ckV N W D = 0
    · obtain ⟨⟨n1, n2⟩, _⟩ := ckV_ok h
      obtain ⟨m, rfl⟩ : ∃ m : Nat, N = m := ⟨N.toNat, by omega⟩
      by_cases hn : n < 1 ∨ 128 < n
      · refine ⟨[], [], 2, by simp, fun V => (cosets_far m W D n V h hn).mono fun e w' ⟨he, hb⟩ => ⟨none, 0, none, 0, he, nilk _, rdz_nil0 _ _, hb⟩, fun V => (rcosets_far m W D n V h hn).mono fun e w' ⟨he, hb⟩ => ⟨none, 0, none, 0, he, nilk _, rdz_nil0 _ _, hb⟩⟩
      · obtain ⟨x, rfl⟩ : ∃ x : Nat, n = x := ⟨n.toNat, by omega⟩
        have hl : (dvN x).length ≤ 129 := (dvN_bd128 (by omega) (by omega)).1
        have hM := coM_bd m x (by omega) (dvN x)
        refine ⟨coM m x (dvN x), coF m x D (dvN x), 0, by omega, fun V => (cosets_ok m x W D V h (by omega) (by omega)).mono fun e w' ⟨A1, c1, A2, c2, he, hq⟩ => ?_, fun V => (rcosets_ok m x W D V h (by omega) (by omega)).mono fun e w' ⟨A1, c1, A2, c2, he, hq⟩ => ?_⟩
        · exact ⟨A1, c1, A2, c2, he, (rd_of (w := V) hq).1, (rd_of (w := V) hq).2, hq.bel⟩
        · exact ⟨A1, c1, A2, c2, he, (rd_of (w := V) hq).1, (rd_of (w := V) hq).2, hq.bel⟩
    · refine ⟨[], [], ckV N W D, by simp, fun V => (cosets_bad N W D n _ V rfl h).mono fun e w' ⟨he, hb⟩ => ⟨none, 0, none, 0, he, nilk _, rdz_nil0 _ _, hb⟩, fun V => (rcosets_bad N W D n _ V rfl h).mono fun e w' ⟨he, hb⟩ => ⟨none, 0, none, 0, he, nilk _, rdz_nil0 _ _, hb⟩⟩
  obtain ⟨M, F, k, hM, hP, hR⟩ := key
  have HP := Lib.hid hP
  have HR := Lib.hid hR
  have HS : Hid (∀ (A1 A2 : Option Addr) (c1 c2 : Nat) (V : World), RdK V A1 M → RdK V A2 M → Calls Try.prog 8 #[.slice A1 M.length c1, .slice A2 M.length c2] V fun e w' => e = .returned (.bool true) ∧ Below V.heap.size V w') := fun A1 A2 c1 c2 V h1 h2 =>
    (msame_any (L := M) V h1 h2 hM).mono fun e w' ⟨he, n, hd⟩ => ⟨he, by rw [hd]; exact below_drewN (Below.refl _ _) n⟩
  have HI : Hid (∀ (A1 A2 : Option Addr) (c1 c2 B1 B2 : Nat) (V : World), RdZ V B1 A1 c1 F → RdZ V B2 A2 c2 F → Calls Try.prog 9 #[.slice A1 F.length c1, .slice A2 F.length c2] V fun e w' => e = .returned (.bool true) ∧ Below V.heap.size V w') := fun A1 A2 c1 c2 B1 B2 V h1 h2 =>
    (ints_same (l := F) V h1 h2).mono fun e w' ⟨he, n, hd⟩ => ⟨he, by rw [hd]; exact below_drewN (Below.refl _ _) n⟩
  clear hP hR
  go_enter Try.func3, Try.ntmps3
  go_wp2_with (first
    | (go_at_call 5; ((with_reducible refine (HA.out _).mono ?_); rintro e v ⟨rfl, hb⟩; have HB1 := Lib.hid (bel0 HB.out hb); have T1 := Lib.hid (block_below T.out hb); clear c0 c1 c2 hb; obtain ⟨⟨c0, c1, c2⟩, _⟩ := three_of_blockD T1.out))
    | (go_at_call 6; ((with_reducible refine (HP.out _).mono ?_); rintro e w1 ⟨A1, k1, A2, k2, rfl, hk, hz, hb⟩; have HB2 := Lib.hid (bel0 HB1.out hb); have T2 := Lib.hid (block_below T1.out hb); have K1 := Lib.hid hk; have Z1 := Lib.hid hz; clear c0 c1 c2 hb hk hz; obtain ⟨⟨c0, c1, c2⟩, _⟩ := three_of_blockD T2.out))
    | (go_at_call 7; ((with_reducible refine (HR.out _).mono ?_); rintro e w2 ⟨A3, k3, A4, k4, rfl, hk, hz, hb⟩; have HB3 := Lib.hid (bel0 HB2.out hb); have K2 := Lib.hid (K1.out.on hb); have Z2 := Lib.hid (Z1.out.below hb); have K3 := Lib.hid hk; have Z3 := Lib.hid hz; have hs12 := hb.size; clear c0 c1 c2 hb hk hz))
    | (go_at_call 8; ((with_reducible refine (HS.out _ _ _ _ _ K2.out K3.out).mono ?_); rintro e w3 ⟨rfl, hb⟩; have HB4 := Lib.hid (bel0 HB3.out hb); have Z4 := Lib.hid (Z2.out.below (hb.mono hs12)); have Z5 := Lib.hid (Z3.out.below hb); clear hb))
    | (go_at_call 9; ((with_reducible refine (HI.out _ _ _ _ _ _ _ Z4.out Z5.out).mono ?_); rintro e w4 ⟨rfl, hb⟩; have HB5 := Lib.hid (bel0 HB4.out hb); clear hb))
    | fail)
  go_ret
  exact ⟨by first | rfl | simp, HB5.out⟩
end Go.Proofs.Ythkhdbngeifenaa
