/- ContfracChains answers true for all pairs of cusps: what it does to the world. -/
import Derived.Test.YtbkombklfpjjpaaLawPath
import Derived.Test.YtbkombklfpjjpaaRChnL
import Derived.Test.YtbkombklfpjjpaaChN
namespace Go.Proofs.Ytbkombklfpjjpaa
open Go.RowKit

structure ChOk (a b c d : Int) (Z : List (Int × Int)) (L : Nat) : Prop where
  len : Z.length = L + 1
  fst : Z[0]? = some (a, b)
  lst : Z[L]? = some (c, d)
  nbs : Nbs Z
  rev : chn (pthl c d) (pthl a b) = Z.reverse
theorem chn_ok {a b c d : Int} (g1 : cuspI a b = 0) (g2 : cuspI c d = 0) : ∃ L, ChOk a b c d (chn (pthl a b) (pthl c d)) L := by
  obtain ⟨_, X, eX⟩ := pthl_facts g1
  obtain ⟨_, Y, eY⟩ := pthl_facts g2
  have hm := cpl_pos eX eY
  obtain ⟨L1, l1, _, t1⟩ := pthl_ends g1
  obtain ⟨L2, l2, _, t2⟩ := pthl_ends g2
  have n1 := nbs_pthl g1
  have n2 := nbs_pthl g2
  obtain ⟨L, hL⟩ := chn_len hm
  have e1 : (pthl a b).getLast? = some (a, b) := by rw [List.getLast?_eq_getElem?, l1]; exact t1
  have e2 : (pthl c d).getLast? = some (c, d) := by rw [List.getLast?_eq_getElem?, l2]; exact t2
  refine ⟨L, hL, (chn_first hm).trans e1, ?_, ⟨fun i hi => ?_, fun z hz => ?_⟩, chn_rev hm⟩
  · have := (chn_last hm).trans e2
    rw [List.getLast?_eq_getElem?, hL] at this
    exact this
  · exact NbL.at_ (chn_nb hm (NbL.of n1.det) (NbL.of n2.det)) i hi
  · rcases chn_mem hz with h | h
    · exact n1.rng _ h
    · exact n2.rng _ h
theorem both_comm {a b c d : Int} (h : bothI a b c d = 0) : bothI c d a b = 0 := by
  obtain ⟨g1, g2⟩ := both_ok h
  rw [bothI_good g2]; exact g1
set_option maxHeartbeats 6400000 in
set_option maxRecDepth 1000000 in
theorem chains_walk (a b c d : Int) (w : World) :
    Calls Try.prog 8 #[.agg #[.int .i64 a, .int .i64 b], .agg #[.int .i64 c, .int .i64 d]] w fun e w' => e = .returned (.bool true) ∧ Below w.heap.size w w' := by
  by_cases h : bothI a b c d = 0
  · obtain ⟨g1, g2⟩ := both_ok h
    obtain ⟨L, hO⟩ := chn_ok g1 g2
    have HA := Lib.hid (fun W => (chain_any a b c d W).mono fun e w' hh => CusTup.n (n := L + 1) (by rw [chnL_yes h]; exact hO.len) hh)
    have HR := Lib.hid (fun W => (rchain_any a b c d W).mono fun e w' hh => CusTup.n (n := L + 1) (by rw [chnL_yes h]; exact hO.len) hh)
    have HT := Lib.hid (fun W => (chain_any c d a b W).mono fun e w' hh => CusTup.n (n := L + 1) (by rw [chnL_yes (both_comm h), hO.rev, List.length_reverse]; exact hO.len) hh)
    rw [h, chnL_yes h] at HA HR
    rw [both_comm h, chnL_yes (both_comm h), hO.rev] at HT
    clear h g1 g2
    generalize chn (pthl a b) (pthl c d) = Z at *
    have HO := Lib.hid hO
    clear hO
    go_enter Try.func8, Try.ntmps8
    go_wp2_with (first
      | (go_at_call 13; ((with_reducible refine (awake_any _).mono ?_); rintro e w1 ⟨rfl, hb⟩; have T1 := Lib.hid ((TwoB.start w a b c d).below hb); have HB_w1 : Hid (Below w.heap.size w w1) := bel2 (Below.refl _ _) hb; obtain ⟨p0, p1, p2, p3⟩ := T1.out.cells; obtain ⟨hz0, hz1⟩ : w.heap.size < w1.heap.size ∧ w.heap.size + 1 < w1.heap.size := (by have := hb.size; simp at this; omega); clear hb))
      | (go_at_call 25; ((with_reducible refine (HA.out _).mono ?_); rintro e w2 ⟨A1, c1, rfl, hr, hb⟩; have R1 := Lib.hid hr; have T2 := Lib.hid (T1.out.below hb); have HB_w2 : Hid (Below w.heap.size w w2) := bel0 HB_w1.out hb; obtain ⟨q0, q1, q2, q3⟩ := T2.out.cells; obtain ⟨hz2, hz3⟩ : w.heap.size < w2.heap.size ∧ w.heap.size + 1 < w2.heap.size := (by have := hb.size; omega); clear hr hb))
      | (go_at_call 26; ((with_reducible refine (HR.out _).mono ?_); rintro e w3 ⟨A2, c2, rfl, hr, hb⟩; have R2 := Lib.hid hr; have R3 := Lib.hid (R1.out.below hb); have T3 := Lib.hid (T2.out.below hb); have HB_w3 : Hid (Below w.heap.size w w3) := bel0 HB_w2.out hb; have hz4 : w2.heap.size ≤ w3.heap.size := hb.size; clear hr hb))
      | (go_at_call 20; ((with_reducible refine (same_n _ HO.out.len R3.out R2.out).mono ?_); rintro e w4 ⟨rfl, n4, hw⟩; have R4 : Hid (RdC w4 w2.heap.size A1 c1 Z) := (by rw [hw]; exact R3.out); have T4 : Hid (TwoB w4 w.heap.size a b c d) := (by rw [hw]; exact T3.out); have HB_w4 : Hid (Below w.heap.size w w4) := (by rw [hw]; exact below_drewN HB_w3.out _); have hz5 : w2.heap.size ≤ w4.heap.size := (by rw [hw]; exact hz4); obtain ⟨r0, r1, r2, r3⟩ := T4.out.cells; clear hw))
      | (go_at_call 25; ((with_reducible refine (HT.out _).mono ?_); rintro e w5 ⟨A3, c3, rfl, hr, hb⟩; have R6 := Lib.hid hr; have R5 : Hid (RdC w5 w2.heap.size A1 c1 Z) := R4.out.below (hb.mono hz5); have T5 := Lib.hid (T4.out.below hb); have HB_w5 : Hid (Below w.heap.size w w5) := bel0 HB_w4.out hb; clear hr hb))
      | fail)
    have hp0 : 0 < Z.length := by rw [HO.out.len]; omega
    have hp1 : 0 < Z.reverse.length := by rw [List.length_reverse]; exact hp0
    obtain ⟨b1, o1, rfl, hb1⟩ := R5.out.some_ hp0
    obtain ⟨b3, o3, rfl, hb3⟩ := R6.out.some_ hp1
    obtain ⟨x0, x1⟩ := R5.out.get HO.out.fst
    obtain ⟨x2, x3⟩ := R5.out.get HO.out.lst
    obtain ⟨s0, s1, s2, s3⟩ := T5.out.cells
    have y0 := fun N => (show (w5.drewN N).cell? ⟨b1, o1, none⟩ = some (.int .i64 a) from by simpa using x0)
    have y1 := fun N => (show (w5.drewN N).cell? ⟨b1, o1 + 1, none⟩ = some (.int .i64 b) from by simpa using x1)
    have y2 := fun N => (show (w5.drewN N).cell? ⟨b1, o1 + L * 2, none⟩ = some (.int .i64 c) from x2)
    have y3 := fun N => (show (w5.drewN N).cell? ⟨b1, o1 + L * 2 + 1, none⟩ = some (.int .i64 d) from x3)
    have t0 := fun N => (show (w5.drewN N).cell? ⟨w.heap.size, 0, none⟩ = some (.int .i64 a) from s0)
    have t1 := fun N => (show (w5.drewN N).cell? ⟨w.heap.size, 1, none⟩ = some (.int .i64 b) from s1)
    have t2 := fun N => (show (w5.drewN N).cell? ⟨w.heap.size + 1, 0, none⟩ = some (.int .i64 c) from s2)
    have t3 := fun N => (show (w5.drewN N).cell? ⟨w.heap.size + 1, 1, none⟩ = some (.int .i64 d) from s3)
    have HNB := Lib.hid (fun W (h : RdC W w2.heap.size (some ⟨b1, o1, none⟩) c1 Z) => nbs_n W HO.out.len h HO.out.nbs)
    have HLL : (L : Int) + 1 ≤ 9223372036854775807 := by have := R5.out.len; have := HO.out.len; omega
    have hne : ((L : Int) + 1 == 0) = false := by rw [beq_eq_false_iff_ne]; omega
    clear x0 x1 x2 x3 s0 s1 s2 s3 hp0 hp1 p0 p1 p2 p3 q0 q1 q2 q3 r0 r1 r2 r3
    go_quiet ((go_at_call 24; exact Calls.quiet_of (HNB.out _ R5.out)))
    clear y0 y1 y2 y3 t0 t1 t2 t3
    go_wp2
    go_loopw [11] (fun i wr => ∃ k n : Nat, i = .int .i64 k ∧ Hid (k ≤ L + 1) ∧ wr = w5.drewN n) (fun i _ => L + 1 - (intOf i).toNat)
    case atStart => exact ⟨0, nq, rfl, Nat.zero_le _, rfl⟩
    case round =>
      obtain ⟨k, n, rfl, hk, rfl⟩ := hrel
      have hk' := hk.out
      by_cases hlt : k < L + 1
      · obtain ⟨j, hj⟩ : ∃ j, j + k = L := ⟨L - k, by omega⟩
        have hzl := HO.out.len
        obtain ⟨x, hx⟩ : ∃ x, Z[j]? = some x := ⟨_, List.getElem?_eq_getElem (by omega)⟩
        have hx2 : Z.reverse[k]? = some x := by
          rw [List.getElem?_reverse (by omega), show Z.length - 1 - k = j by omega]; exact hx
        obtain ⟨x0, x1⟩ := R5.out.get hx
        obtain ⟨x2, x3⟩ := R6.out.get hx2
        have y0 := fun N => (show (w5.drewN N).cell? ⟨b1, o1 + j * 2, none⟩ = some (.int .i64 x.1) from x0)
        have y1 := fun N => (show (w5.drewN N).cell? ⟨b1, o1 + j * 2 + 1, none⟩ = some (.int .i64 x.2) from x1)
        have y2 := fun N => (show (w5.drewN N).cell? ⟨b3, o3 + k * 2, none⟩ = some (.int .i64 x.1) from x2)
        have y3 := fun N => (show (w5.drewN N).cell? ⟨b3, o3 + k * 2 + 1, none⟩ = some (.int .i64 x.2) from x3)
        have h1 : (k : Int) < (L : Int) + 1 := by omega
        have h2 : 0 ≤ (L : Int) - (k : Int) := by omega
        have h3 : (L : Int) - (k : Int) < (L : Int) + 1 := by omega
        have h4 : ((L : Int) - (k : Int)).toNat = j := by omega
        clear x0 x1 x2 x3 hx hx2 hzl hj
        generalize x.1 = P at *
        generalize x.2 = Q at *
        go_wp2
        go_quiet (fail)
        go_wp2
        go_roundw
        case rel => exact ⟨k + 1, n + nq, by go_num, hlt, by first | rfl | exact World.drewN_drewN w5 n nq⟩
        case measure => simp [intOf]; omega
      · obtain rfl : k = L + 1 := by omega
        clear hk' hlt hk
        go_wp2
        go_ret
        exact ⟨rfl, below_drewN HB_w5.out n⟩
  · have hs : Hid (∀ W, Calls Try.prog 25 #[.agg #[.int .i64 a, .int .i64 b], .agg #[.int .i64 c, .int .i64 d]] W (TupN W 0 (bothI a b c d) [])) := by
      intro W
      have := (chain_any a b c d W).mono fun e w' hh => CusTup.n (n := 0) (by rw [chnL_no h]; rfl) hh
      rw [chnL_no h] at this
      exact this
    have hr : Hid (∀ W, Calls Try.prog 26 #[.agg #[.int .i64 a, .int .i64 b], .agg #[.int .i64 c, .int .i64 d]] W (TupN W 0 (bothI a b c d) [])) := by
      intro W
      have := (rchain_any a b c d W).mono fun e w' hh => CusTup.n (n := 0) (by rw [chnL_no h]; rfl) hh
      rw [chnL_no h] at this
      exact this
    have hk1 : (bothI a b c d != 0) = true := by simpa using h
    clear h
    generalize bothI a b c d = k at *
    go_enter Try.func8, Try.ntmps8
    go_wp2_with (first
      | (go_at_call 13; ((with_reducible refine (awake_any _).mono ?_); rintro e w1 ⟨rfl, hb⟩; have T1 := Lib.hid ((TwoB.start w a b c d).below hb); have HB_w1 : Hid (Below w.heap.size w w1) := bel2 (Below.refl _ _) hb; obtain ⟨p0, p1, p2, p3⟩ := T1.out.cells; obtain ⟨hz0, hz1⟩ : w.heap.size < w1.heap.size ∧ w.heap.size + 1 < w1.heap.size := (by have := hb.size; simp at this; omega); clear hb))
      | (go_at_call 25; ((with_reducible refine (hs.out _).mono ?_); rintro e w2 ⟨A1, c1, rfl, hr, hb⟩; have R1 := Lib.hid hr; have T2 := Lib.hid (T1.out.below hb); have HB_w2 : Hid (Below w.heap.size w w2) := bel0 HB_w1.out hb; obtain ⟨q0, q1, q2, q3⟩ := T2.out.cells; obtain ⟨hz2, hz3⟩ : w.heap.size < w2.heap.size ∧ w.heap.size + 1 < w2.heap.size := (by have := hb.size; omega); clear hr hb))
      | (go_at_call 26; ((with_reducible refine (hr.out _).mono ?_); rintro e w3 ⟨A2, c2, rfl, hr, hb⟩; have R2 := Lib.hid hr; have R3 := Lib.hid (R1.out.below hb); have HB_w3 : Hid (Below w.heap.size w w3) := bel0 HB_w2.out hb; clear hr hb))
      | (go_at_call 20; ((with_reducible refine (same_n _ List.length_nil R3.out R2.out).mono ?_); rintro e w4 ⟨rfl, n4, hw⟩; have HB_w4 : Hid (Below w.heap.size w w4) := (by rw [hw]; exact below_drewN HB_w3.out _); clear hw))
      | fail)
    go_ret
    exact ⟨rfl, HB_w4.out⟩
end Go.Proofs.Ytbkombklfpjjpaa
