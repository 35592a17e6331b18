/- ArithCrt answers true for every list of congruences: what it does to the world. -/
import Derived.Test.YtdhlkffblipbmaaRefCrt
import Derived.Test.YtdhlkffblipbmaaAwake
namespace Go.Proofs.Ytdhlkffblipbmaa
open Go.RowKit

theorem comb_sound {ar am br bm r m : Int} (h : CombIs ar am br bm r m 0) : (1 ≤ bm ∧ bm ≤ 2147483647) ∧ am ∣ m ∧ bm ∣ m ∧ am ∣ r - ar ∧ bm ∣ r - br := by
  rcases h with ⟨_, _, _, h⟩ | ⟨_, _, _, _, h⟩ | ⟨_, _, _, _, _, h⟩ | ⟨h0, h1, h2, h3, h4, h5, h6, _⟩
  · omega
  · omega
  · omega
  · refine ⟨h0, ⟨_, h2⟩, ?_, h5, h6⟩
    obtain ⟨a', hA⟩ := Int.gcd_dvd_left am bm
    have hg : 0 < Int.gcd am bm := Int.gcd_pos_of_ne_zero_right am (by omega)
    have hgb : (Int.gcd am bm : Int) * (bm / (Int.gcd am bm : Int)) = bm := Int.mul_ediv_cancel' (Int.gcd_dvd_right am bm)
    refine ⟨a', ?_⟩
    generalize bm / (Int.gcd am bm : Int) = q at *
    generalize (Int.gcd am bm : Int) = g at *
    rw [h2, hA]
    conv => rhs; rw [← hgb]
    grind
theorem crt_sound {L : List (Int × Int)} : ∀ {ar am r m : Int}, CrtIs L ar am r m 0 → (0 ≤ ar ∧ ar < am ∧ am ≤ 2147483647) →
    am ∣ m ∧ am ∣ r - ar ∧ (0 ≤ r ∧ r < m ∧ m ≤ 2147483647) ∧ ∀ p ∈ L, (1 ≤ p.2 ∧ p.2 ≤ 2147483647) ∧ p.2 ∣ m ∧ p.2 ∣ r - p.1 := by
  induction L with
  | nil =>
    intro ar am r m h h0
    obtain ⟨rfl, rfl, _⟩ := h
    exact ⟨Int.dvd_refl _, by simp, h0, by simp⟩
  | cons q L ih =>
    intro ar am r m h h0
    obtain ⟨br, bm⟩ := q
    rcases h with ⟨h, _⟩ | ⟨r', m', h1, h2⟩
    · omega
    · obtain ⟨s1, s2, s3, s4, s5⟩ := comb_sound h1
      obtain ⟨i1, i2, i3, i4⟩ := ih h2 h1.good
      refine ⟨Int.dvd_trans s2 i1, ?_, i3, ?_⟩
      · have := Int.dvd_add (Int.dvd_trans s2 i2) s4
        rwa [show r - r' + (r' - ar) = r - ar by omega] at this
      · intro p hp
        rcases List.mem_cons.1 hp with rfl | hp
        · refine ⟨s1, Int.dvd_trans s3 i1, ?_⟩
          have := Int.dvd_add (Int.dvd_trans s3 i2) s5
          rwa [show r - r' + (r' - br) = r - br by omega] at this
        · exact i4 p hp
theorem CrtIs.unique {L : List (Int × Int)} : ∀ {ar am r m e r' m' e' : Int}, CrtIs L ar am r m e → CrtIs L ar am r' m' e' → r = r' ∧ m = m' ∧ e = e' := by
  induction L with
  | nil =>
    intro ar am r m e r' m' e' h k
    obtain ⟨rfl, rfl, rfl⟩ := h
    obtain ⟨rfl, rfl, rfl⟩ := k
    exact ⟨rfl, rfl, rfl⟩
  | cons q L ih =>
    intro ar am r m e r' m' e' h k
    obtain ⟨br, bm⟩ := q
    rcases h with ⟨h0, rfl, rfl, h⟩ | ⟨r1, m1, h1, h2⟩ <;> rcases k with ⟨k0, rfl, rfl, k⟩ | ⟨r2, m2, k1, k2⟩
    · exact ⟨rfl, rfl, (h.unique k).2.2⟩
    · exact absurd (h.unique k1).2.2 h0
    · exact absurd (k.unique h1).2.2 k0
    · obtain ⟨rfl, rfl, _⟩ := h1.unique k1
      exact ih h2 k2

set_option maxHeartbeats 1600000 in
set_option maxRecDepth 1000000 in
theorem crt_walk (L : List (Int × Int)) (a : Addr) (cap : Nat) (w : World) (hcap : L.length ≤ cap) (hcap2 : (cap : Int) ≤ 9223372036854775807) (hab : Hid (0 < L.length → a.block < w.heap.size))
    (hc : Hid (∀ k (hk : k < L.length), w.cell? (a.add (k * 2)) = some (.int .i64 L[k].1) ∧ w.cell? (a.add (k * 2 + 1)) = some (.int .i64 L[k].2))) :
    Calls Try.prog 13 #[.slice (some a) L.length cap] w fun e w' => e = .returned (.bool true) ∧ Below w.heap.size w w' := by
  have hcel : ∀ w1, Below w.heap.size w w1 → Hid (∀ k (hk : k < L.length), w1.cell? (a.add (k * 2)) = some (.int .i64 L[k].1) ∧ w1.cell? (a.add (k * 2 + 1)) = some (.int .i64 L[k].2)) := fun w1 hb k hk =>
    ⟨(hb.cell (p := a.add (k * 2)) (by rw [add_block]; exact hab.out (by omega))).trans (hc.out k hk).1, (hb.cell (p := a.add (k * 2 + 1)) (by rw [add_block]; exact hab.out (by omega))).trans (hc.out k hk).2⟩
  have HCEL := Lib.hid hcel
  have HAB : Hid (∀ W1 : World, w.heap.size ≤ W1.heap.size → Hid (0 < L.length → a.block < W1.heap.size)) := fun W1 hs h => Nat.lt_of_lt_of_le (hab.out h) hs
  clear hcel
  by_cases hlen : 20 < L.length
  · have hl2 : 20 < (L.length : Int) := by omega
    go_enter Try.func13, Try.ntmps13
    go_wp2_with (first | (go_at_call 15; ((with_reducible refine (awake_any _).mono ?_); rintro e w1 ⟨rfl, hb1⟩; have HB := Lib.hid hb1; clear hb1)))
    go_ret
    exact ⟨rfl, HB.out⟩
  · have hl2 : (L.length : Int) ≤ 20 := by omega
    go_enter Try.func13, Try.ntmps13
    go_wp2_with (first
      | (go_at_call 15; ((with_reducible refine (awake_any _).mono ?_); rintro e w1 ⟨rfl, hb1⟩; have HB := Lib.hid hb1; have hs1 := hb1.size; clear hb1))
      | (go_at_call 51; ((with_reducible refine (crt_some L a cap _ hcap hcap2 (HAB.out _ hs1) (HCEL.out _ HB.out)).mono ?_); rintro e w2 ⟨r, m, e0, rfl, hcr, hb2⟩; have HC := Lib.hid hcr; have hs2 := hb2.size; have HB2 := Lib.hid (HB.out.trans (hb2.mono hs1)); clear hcr hb2)))
    have hA2 := heap_alloc_new w2 (.cells #[.int .i64 r, .int .i64 m] 67)
    have hbW : Below w.heap.size w (w2.alloc (.cells #[.int .i64 r, .int .i64 m] 67)) := HB2.out.alloc (by omega) _
    refine (refCrt_some L a cap _ hcap hcap2 (HAB.out _ (by simp; omega)) (HCEL.out _ hbW)).mono ?_
    rintro e w3 ⟨r', m', e', rfl, hcr, hb3⟩
    obtain ⟨rfl, rfl, rfl⟩ := HC.out.unique hcr
    have hs3 := hb3.size
    simp only [World.size_alloc] at hs3
    have hA3 : w3.heap[w2.heap.size]? = some (.cells #[.int .i64 r, .int .i64 m] 67 (0, 0)) := by
      rw [hb3.block w2.heap.size (by simp)]; exact hA2
    have HB3 := Lib.hid (hbW.trans (hb3.mono (by simp; omega)))
    have hA4 : (w3.alloc (.cells #[.int .i64 r, .int .i64 m] 67)).heap[w2.heap.size]? = some (.cells #[.int .i64 r, .int .i64 m] 67 (0, 0)) := by
      rw [Below.heap_alloc _ _ _ (by omega)]; exact hA3
    have HB4 := Lib.hid (HB3.out.alloc (by omega) (.cells #[.int .i64 r, .int .i64 m] 67))
    obtain ⟨x1, x2, x3, x4⟩ := two_cells hA4
    clear hcr hb3 hA2 hbW hA3 hA4
    have hx1 := fun n => (show ((w3.alloc (.cells #[.int .i64 r, .int .i64 m] 67)).drewN n).cell? ⟨w2.heap.size, 0, none⟩ = some (.int .i64 r) from x1)
    by_cases he : e0 = 0
    · subst he
      have HS := Lib.hid (crt_sound HC.out (by omega))
      obtain ⟨r1, r2, r3⟩ := HS.out.2.2.1
      clear hx1
      go_wp2
      go_loopw [7] (fun i wr => ∃ (k n : Nat), k ≤ L.length ∧ i = .int .i64 k ∧ wr = (w3.alloc (.cells #[.int .i64 r, .int .i64 m] 67)).drewN n) (fun i _ => L.length - (intOf i).toNat)
      case atStart => exact ⟨0, 0, Nat.zero_le _, rfl, rfl⟩
      case round =>
        obtain ⟨k, n, hk, rfl, rfl⟩ := hrel
        by_cases hlt : k < L.length
        · obtain ⟨c1, c2⟩ := (HCEL.out _ HB4.out).out k hlt
          have c3 := c2
          rw [add_succ] at c2
          obtain ⟨⟨q1, q2⟩, q3, q4⟩ := HS.out.2.2.2 _ (List.getElem_mem hlt)
          have hlt2 : (k : Int) < (L.length : Int) := by omega
          generalize L[k].fst = br at *
          generalize L[k].snd = bm at *
          have d1 : (m % bm == 0) = true := by rw [beq_iff_eq]; exact Int.emod_eq_zero_of_dvd q3
          have d2 : br % bm = r % bm := by
            obtain ⟨t, ht⟩ := q4
            rw [show r = br + bm * t by omega, Int.add_mul_emod_self_left]
          have d4 : (m % bm != 0) = false := by rw [bne_eq_false_iff_eq]; exact Int.emod_eq_zero_of_dvd q3
          have d5 : (br % bm != r % bm) = false := by rw [bne_eq_false_iff_eq]; exact d2
          have d3 : (br % bm == r % bm) = true := by rw [beq_iff_eq]; exact d2
          have D2 := Lib.hid d2
          clear d2 q3 q4
          go_wp2
          go_quiet ((go_at_call 50; first | exact quiet_left (refMod_any br bm _ q1 (by omega)) | exact quiet_add_left (refMod_any br bm _ q1 (by omega))))
          go_wp2
          go_roundw
          case rel => exact ⟨k + 1, _, hlt, by go_num, rfl⟩
          case measure => simp [intOf]; omega
        · have hkl : k = L.length := by omega
          subst hkl
          go_wp2
          go_ret
          exact ⟨by simp, below_drewN HB4.out _⟩
    · have he0 : (e0 == 0) = false := by simpa using he
      have he1 : (e0 != 0) = true := by simpa using he
      clear hx1
      go_wp2
      refine wp_loop_rounds 1 ?_
      rw [rounds_succ]
      by_cases hl0 : 0 < L.length
      · have hl3 : 0 < (L.length : Int) := by omega
        go_wp2
        go_ret
        exact ⟨by simp, HB4.out⟩
      · have hl3 : ¬ 0 < (L.length : Int) := by omega
        have hl4 : decide (0 < (L.length : Int)) = false := by simpa using hl3
        go_wp2
        go_ret
        exact ⟨by simp, HB4.out⟩

set_option maxHeartbeats 1600000 in
set_option maxRecDepth 1000000 in
theorem crt_none (w : World) : Calls Try.prog 51 #[.slice none 0 0] w fun e w' => e = .returned (.tuple #[.agg #[.int .i64 0, .int .i64 1], .int .i64 0]) ∧ Below w.heap.size w w' := by
  go_enter Try.func51, Try.ntmps51
  go_wp2
  refine wp_loop_rounds 1 ?_
  rw [rounds_succ]
  go_wp2
  refine bodyPost_ret (v := .tuple #[.agg #[.int .i64 0, .int .i64 1], .int .i64 0]) (by simp [results, Try.results51, go_sem]) rfl ⟨rfl, ?_⟩
  repeat' (first | exact Below.refl _ _ | (refine Below.setCell ?_ ?_ _) | (refine below_drewN ?_ _) | (refine Below.alloc ?_ ?_ _))
  all_goals (first | (simp; done) | (simp; omega))
set_option maxHeartbeats 1600000 in
set_option maxRecDepth 1000000 in
theorem refCrt_none (w : World) : Calls Try.prog 52 #[.slice none 0 0] w fun e w' => e = .returned (.tuple #[.agg #[.int .i64 0, .int .i64 1], .int .i64 0]) ∧ Below w.heap.size w w' := by
  go_enter Try.func52, Try.ntmps52
  go_wp2
  refine wp_loop_rounds 1 ?_
  rw [rounds_succ]
  go_wp2
  refine bodyPost_ret (v := .tuple #[.agg #[.int .i64 0, .int .i64 1], .int .i64 0]) (by simp [results, Try.results52, go_sem]) rfl ⟨rfl, ?_⟩
  repeat' (first | exact Below.refl _ _ | (refine Below.setCell ?_ ?_ _) | (refine below_drewN ?_ _) | (refine Below.alloc ?_ ?_ _))
  all_goals (first | (simp; done) | (simp; omega))
set_option maxHeartbeats 1600000 in
set_option maxRecDepth 1000000 in
theorem crt_walk_none (w : World) : Calls Try.prog 13 #[.slice none 0 0] w fun e w' => e = .returned (.bool true) ∧ Below w.heap.size w w' := by
  go_enter Try.func13, Try.ntmps13
  go_wp2_with (first
      | (go_at_call 15; ((with_reducible refine (awake_any _).mono ?_); rintro e w1 ⟨rfl, hb1⟩; have HB := Lib.hid hb1; have hs1 := hb1.size; clear hb1))
      | (go_at_call 51; ((with_reducible refine (crt_none _).mono ?_); rintro e w2 ⟨rfl, hb2⟩; have hs2 := hb2.size; have HB2 := Lib.hid (HB.out.trans (hb2.mono hs1)); clear hb2)))
  have hA2 := heap_alloc_new w2 (.cells #[.int .i64 0, .int .i64 1] 67)
  have hbW : Below w.heap.size w (w2.alloc (.cells #[.int .i64 0, .int .i64 1] 67)) := HB2.out.alloc (by omega) _
  refine (refCrt_none _).mono ?_
  rintro e w3 ⟨rfl, hb3⟩
  have hs3 := hb3.size
  simp only [World.size_alloc] at hs3
  have hA3 : w3.heap[w2.heap.size]? = some (.cells #[.int .i64 0, .int .i64 1] 67 (0, 0)) := by
    rw [hb3.block w2.heap.size (by simp)]; exact hA2
  have HB3 := Lib.hid (hbW.trans (hb3.mono (by simp; omega)))
  have hA4 : (w3.alloc (.cells #[.int .i64 0, .int .i64 1] 67)).heap[w2.heap.size]? = some (.cells #[.int .i64 0, .int .i64 1] 67 (0, 0)) := by
    rw [Below.heap_alloc _ _ _ (by omega)]; exact hA3
  have HB4 := Lib.hid (HB3.out.alloc (by omega) (.cells #[.int .i64 0, .int .i64 1] 67))
  obtain ⟨x1, x2, x3, x4⟩ := two_cells hA4
  clear hb3 hA2 hbW hA3 hA4
  go_wp2
  refine wp_loop_rounds 1 ?_
  rw [rounds_succ]
  go_wp2
  go_ret
  exact ⟨by simp, HB4.out⟩
end Go.Proofs.Ytdhlkffblipbmaa
