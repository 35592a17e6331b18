/- The contract of the reference's Equal0. -/
import Derived.Test.YtcjkdcbminpjlaaREq0L
import Derived.Deep.RegionHeld3
import Derived.Deep.DeepCutAuto
import Derived.Deep.CutBlock
namespace Go.Proofs.Ytcjkdcbminpjlaa
open Go.RowKit
set_option linter.unusedVariables false

theorem wit_times {A B C D E F G H k m1 m2 m3 m4 : Int} (h : Bd A B C D) (h' : Bd E F G H) (k0 : 0 ≤ k) (k2 : k ≤ 120) (hm : witM A B C D E F G H k = ⟨m1, m2, m3, m4⟩) : ∃ s1 s2 s3 s4 : Int,
    (∀ W, Calls Try.prog 22 #[.agg #[.int .i64 E, .int .i64 F, .int .i64 G, .int .i64 H], .agg #[.int .i64 1, .int .i64 k, .int .i64 0, .int .i64 1]] W fun e w' => e = .returned (.agg #[.int .i64 s1, .int .i64 s2, .int .i64 s3, .int .i64 s4]) ∧ Below W.heap.size W w') ∧
    (∀ W, Calls Try.prog 22 #[.agg #[.int .i64 s1, .int .i64 s2, .int .i64 s3, .int .i64 s4], .agg #[.int .i64 D, .int .i64 (-B), .int .i64 (-C), .int .i64 A]] W fun e w' => e = .returned (.agg #[.int .i64 m1, .int .i64 m2, .int .i64 m3, .int .i64 m4]) ∧ Below W.heap.size W w') := by
  obtain ⟨⟨a1, a2⟩, ⟨b1, b2⟩, ⟨c1, c2⟩, ⟨d1, d2⟩⟩ := h
  obtain ⟨⟨e1, e2⟩, ⟨f1, f2⟩, ⟨g1, g2⟩, ⟨h1, h2⟩⟩ := h'
  obtain ⟨p1, p2⟩ := mulb E k 1001 120 (by omega) e1 e2 (by omega) k2
  obtain ⟨p3, p4⟩ := mulb G k 1001 120 (by omega) g1 g2 (by omega) k2
  have hb : fitB (E * 1 + F * 0) (E * k + F * 1) (G * 1 + H * 0) (G * k + H * 1) = true := fitB_iff.2 (by omega)
  refine ⟨_, _, _, _, fun W => times_yes E F G H 1 k 0 1 W (fitB_iff.2 (by omega)) (fitB_iff.2 (by omega)), fun W => ?_⟩
  have ht := times_yes (E * 1 + F * 0) (E * k + F * 1) (G * 1 + H * 0) (G * k + H * 1) D (-B) (-C) A W hb (fitB_iff.2 (by omega))
  have x1 : (witM A B C D E F G H k).a = m1 := by rw [hm]
  have x2 : (witM A B C D E F G H k).b = m2 := by rw [hm]
  have x3 : (witM A B C D E F G H k).c = m3 := by rw [hm]
  have x4 : (witM A B C D E F G H k).d = m4 := by rw [hm]
  rw [← x1, ← x2, ← x3, ← x4]
  exact ht
/-- The round's box of m, still zero, beyond the others. -/
structure MB (w wx : World) (g : Nat) : Prop where
  box : Four wx g 0 0 0 0
  far : w.heap.size + 2 < g
theorem RB.belowA {w wr w' : World} {p q p' q' : Int} {o : Obj} (h : RB w wr p q p' q') (hb : Below (wr.alloc o).heap.size (wr.alloc o) w') : RB w w' p q p' q' := (h.alloc o).below hb
theorem MB.below {w wr w' : World} {g : Nat} (h : MB w wr g) (hb : Below wr.heap.size wr w') : MB w w' g := ⟨h.box.below hb, h.far⟩
theorem MB.start {w wr : World} {p q p' q' : Int} (h : RB w wr p q p' q') : MB w (wr.alloc (.cells #[.int .i64 0, .int .i64 0, .int .i64 0, .int .i64 0] 26)) wr.heap.size := ⟨Four.at wr rfl 0 0 0 0, h.res.lt⟩
theorem MB.drew {w wr : World} {g : Nat} (h : MB w wr g) : MB w wr.drew g := ⟨h.box.drew, h.far⟩
theorem MB.belowA {w wr w' : World} {p q p' q' : Int} (h : RB w wr p q p' q') (hb : Below (wr.alloc (.cells #[.int .i64 0, .int .i64 0, .int .i64 0, .int .i64 0] 26)).heap.size (wr.alloc (.cells #[.int .i64 0, .int .i64 0, .int .i64 0, .int .i64 0] 26)) w') : MB w w' wr.heap.size := (MB.start h).below hb
theorem RB.set {w wr : World} {p q p' q' : Int} {g : Nat} (h : RB w wr p q p' q') (hg : w.heap.size + 2 < g) (v0 v1 v2 v3 : Value) : RB w ((((wr.setCell ⟨g, 0, none⟩ v0).setCell ⟨g, 1, none⟩ v1).setCell ⟨g, 2, none⟩ v2).setCell ⟨g, 3, none⟩ v3) p q p' q' :=
  ⟨set4_ne h.bx (by omega) _ _ _ _, set4_ne h.by_ (by omega) _ _ _ _, h.res.other (by omega) _ _ _ _, below_set4 h.bel (by omega) _ _ _ _⟩
set_option maxHeartbeats 6400000 in
set_option maxRecDepth 1000000 in
theorem requal0_at {n p q p' q' : Int} {t : Bool} {m1 m2 m3 m4 z : Int} (w : World) (h : EqE n p q p' q' t m1 m2 m3 m4 z) (hK : ckI n p q p' q' = 0) : Calls Try.prog 8 #[.int .i64 n, .agg #[.int .i64 p, .int .i64 q], .agg #[.int .i64 p', .int .i64 q']] w fun e w' => e = .returned (.tuple #[.bool t, .agg #[.int .i64 m1, .int .i64 m2, .int .i64 m3, .int .i64 m4], .int .i64 z]) ∧ Below w.heap.size w w' := by
  obtain ⟨⟨n1, n2⟩, ⟨g1, b1, b2, b3⟩, ⟨g2, b4, b5, b6⟩⟩ := ck_zero hK
  have HL := Lib.hid (fun W => level_any n W)
  rw [lv_yes n1 n2] at HL
  have hc := ck_chain hK
  obtain ⟨k1, k2⟩ : ck1 p q = 0 ∧ ck1 p' q' = 0 := by
    rcases hc with ⟨h1, h2⟩ | ⟨h1, h2, h3⟩ | ⟨h1, h2, h3⟩
    · exact absurd h2.symm h1
    · exact absurd h3.symm h2
    · exact ⟨h2, h3.symm⟩
  have H1 := Lib.hid (fun W => rck_any p q W)
  have H2 := Lib.hid (fun W => rck_any p' q' W)
  rw [k1] at H1
  rw [k2] at H2
  obtain ⟨A, B, C, D, E, F, G, H, N, hA, hB, N0, Nn, hno, hyes⟩ : ∃ A B C D E F G H N, MatIs p q A B C D ∧ MatIs p' q' E F G H ∧ 0 ≤ N ∧ N ≤ n ∧ (∀ j, 0 ≤ j → j < N → ¬ (witM A B C D E F G H j).c.tmod n = 0) ∧ ((N < n ∧ witM A B C D E F G H N = ⟨m1, m2, m3, m4⟩ ∧ m3.tmod n = 0 ∧ t = true ∧ z = 0) ∨ (N = n ∧ t = false ∧ m1 = 0 ∧ m2 = 0 ∧ m3 = 0 ∧ m4 = 0 ∧ z = 0)) := by
    cases h with
    | err h => exact absurd hK h
    | yes A B C D E F G H k _ _ _ _ _ hA hB k0 kn hno hw hm => exact ⟨A, B, C, D, E, F, G, H, k, hA, hB, k0, by omega, hno, .inl ⟨kn, hw, hm, rfl, rfl⟩⟩
    | no A B C D E F G H _ hA hB hno => exact ⟨A, B, C, D, E, F, G, H, n, hA, hB, by omega, by omega, hno, .inr ⟨rfl, rfl, rfl, rfl, rfl, rfl, rfl⟩⟩
  have HOx := Lib.hid (fun W => of_at W hA g1 b1 b2 b3)
  have HOy := Lib.hid (fun W => of_at W hB g2 b4 b5 b6)
  have HBx := Lib.hid (hA.bd b3 b1 b2).1
  have HBy := Lib.hid (hB.bd b6 b4 b5).1
  have HBk := Lib.hid (fun W => back_any A B C D W (by obtain ⟨⟨a1, a2⟩, ⟨b1, b2⟩, ⟨c1, c2⟩, ⟨d1, d2⟩⟩ := (hA.bd b3 b1 b2).1; exact fitB_iff.2 (by omega)))
  have HNo := Lib.hid hno
  have HYes := Lib.hid hyes
  clear hno hyes hA hB g1 g2 b1 b2 b3 b4 b5 b6
  have R0 := Lib.hid (RB.start w p q p' q')
  clear hc k1 k2 hK h
  go_enter Try.func8, Try.ntmps8
  go_wp2_with (first
    | (go_at_call 20; ((with_reducible refine (HL.out _).mono ?_); rintro e w1 ⟨rfl, rfl⟩))
    | (go_at_call 21; ((with_reducible refine (H1.out _).mono ?_); rintro e w1 ⟨rfl, hb⟩; have R1 := Lib.hid (R0.out.below hb); have hc := R1.out.cells; obtain ⟨⟨c1, c2⟩, c3, c4⟩ := hc; have hz := R1.out.res.lt; clear hb))
    | (go_at_call 21; ((with_reducible refine (H2.out _).mono ?_); rintro e w2 ⟨rfl, hb⟩; have R2 := Lib.hid (R1.out.below hb); clear c1 c2 c3 c4 hb hz))
    | fail)
  go_loopw [10, 11] (fun K _ wr => ∃ k : Int, K = .int .i64 k ∧ 0 ≤ k ∧ k ≤ N ∧ Hid (RB w wr p q p' q')) (fun K _ _ => (n - intOf K).toNat)
  case atStart => exact ⟨0, rfl, by omega, N0, R2.out⟩
  case round =>
    obtain ⟨k, rfl, k0, kN, HR⟩ := hrel
    clear R2 R1 R0
    by_cases hkn : k < n
    · obtain ⟨⟨u1, u2, u3, u4⟩, hu⟩ : ∃ u, u = witM A B C D E F G H k := ⟨_, rfl⟩
      obtain ⟨s1, s2, s3, s4, hT1, hT2⟩ := wit_times HBx.out HBy.out k0 (by omega) hu.symm
      have HT1 := Lib.hid hT1
      have HT2 := Lib.hid hT2
      have HT := Lib.hid (fun W => t_any k W)
      have HU := Lib.hid hu
      clear hT1 hT2 hu
      go_upto_region 11 with fail
      have hz0 := HR.out.res.lt
      go_cut [11] (fun s11 wx => ∃ g : Nat, s11 = .pointer (some ⟨g, 0, none⟩) ∧ Hid (w.heap.size + 2 < g) ∧ Hid (RB w wx p q p' q') ∧ Hid (Four wx g u1 u2 u3 u4))
      case first =>
        have R_0 : Hid (RB w wr.drew p q p' q') := HR.out.drew
        have R_0a : Hid (RB w (wr.alloc (.cells #[.int .i64 0, .int .i64 0, .int .i64 0, .int .i64 0] 26)).drew p q p' q') := (HR.out.alloc _).drew
        have M_0a : Hid (MB w (wr.alloc (.cells #[.int .i64 0, .int .i64 0, .int .i64 0, .int .i64 0] 26)).drew wr.heap.size) := (MB.start HR.out).drew
        go_region_held3 (fun w' => (w'.cell? ⟨w.heap.size, 0, none⟩ = some (.int .i64 p) ∧ w'.cell? ⟨w.heap.size, 1, none⟩ = some (.int .i64 q)) ∧ (w'.cell? ⟨w.heap.size + 1, 0, none⟩ = some (.int .i64 p') ∧ w'.cell? ⟨w.heap.size + 1, 1, none⟩ = some (.int .i64 q')))
          (with_reducible first | exact RB.cells (RB.set R_6.out M_6.out.far _ _ _ _) | exact RB.cells (RB.set (RB.alloc R_6.out _) R_6.out.res.lt _ _ _ _) | exact RB.cells R_0.out | exact RB.cells R_0a.out | exact RB.cells R_1.out | exact RB.cells (RB.alloc R_1.out _) | exact RB.cells R_2.out | exact RB.cells (RB.alloc R_2.out _) | exact RB.cells R_3.out | exact RB.cells (RB.alloc R_3.out _) | exact RB.cells R_4.out | exact RB.cells (RB.alloc R_4.out _) | exact RB.cells R_5.out | exact RB.cells (RB.alloc R_5.out _) | exact RB.cells R_6.out | exact RB.cells (RB.alloc R_6.out _) | fail)
          (first
            | (go_at_call 23; ((with_reducible refine (HOy.out _).mono ?_); rintro e z1 ⟨rfl, hb⟩; have R_1 : Hid (RB w z1 p q p' q') := (by with_reducible first | exact Lib.hid (RB.below R_0.out hb) | exact Lib.hid (RB.below R_0a.out hb) | fail); (try (with_reducible (first | have M_1 := Lib.hid (MB.below M_0a.out hb) | fail))); clear hb))
            | (go_at_call 24; ((with_reducible refine (HT.out _).mono ?_); rintro e z2 ⟨rfl, hb⟩; have R_2 : Hid (RB w z2 p q p' q') := (by with_reducible first | exact Lib.hid (RB.below R_1.out hb) | exact Lib.hid (RB.belowA R_1.out hb) | fail); (try (with_reducible (first | have M_2 := Lib.hid (MB.below M_1.out hb) | have M_2 := Lib.hid (MB.belowA R_1.out hb) | fail))); clear hb))
            | (go_at_call 22; ((with_reducible refine (HT1.out _).mono ?_); rintro e z3 ⟨rfl, hb⟩; have R_3 : Hid (RB w z3 p q p' q') := (by with_reducible first | exact Lib.hid (RB.below R_2.out hb) | exact Lib.hid (RB.belowA R_2.out hb) | fail); (try (with_reducible (first | have M_3 := Lib.hid (MB.below M_2.out hb) | have M_3 := Lib.hid (MB.belowA R_2.out hb) | fail))); clear hb))
            | (go_at_call 23; ((with_reducible refine (HOx.out _).mono ?_); rintro e z4 ⟨rfl, hb⟩; have R_4 : Hid (RB w z4 p q p' q') := (by with_reducible first | exact Lib.hid (RB.below R_3.out hb) | exact Lib.hid (RB.belowA R_3.out hb) | fail); (try (with_reducible (first | have M_4 := Lib.hid (MB.below M_3.out hb) | have M_4 := Lib.hid (MB.belowA R_3.out hb) | fail))); clear hb))
            | (go_at_call 25; ((with_reducible refine (HBk.out _).mono ?_); rintro e z5 ⟨rfl, hb⟩; have R_5 : Hid (RB w z5 p q p' q') := (by with_reducible first | exact Lib.hid (RB.below R_4.out hb) | exact Lib.hid (RB.belowA R_4.out hb) | fail); (try (with_reducible (first | have M_5 := Lib.hid (MB.below M_4.out hb) | have M_5 := Lib.hid (MB.belowA R_4.out hb) | fail))); clear hb))
            | (go_at_call 22; ((with_reducible refine (HT2.out _).mono ?_); rintro e z6 ⟨rfl, hb⟩; have R_6 : Hid (RB w z6 p q p' q') := (by with_reducible first | exact Lib.hid (RB.below R_5.out hb) | exact Lib.hid (RB.belowA R_5.out hb) | fail); (try (with_reducible (first | have M_6 := Lib.hid (MB.below M_5.out hb) | have M_6 := Lib.hid (MB.belowA R_5.out hb) | fail))); (try (have m0 := M_6.out.box.cells; obtain ⟨k1, k2, k3, k4⟩ := m0; have mf := M_6.out.box.free)); clear hb))
            | fail)
        all_goals
          go_wp2_with fail
          go_meet
          first
            | exact ⟨_, rfl, by show _ < _; have := R_6.out.res.lt; omega, R_6.out.alloc _, Four.at z6 rfl u1 u2 u3 u4⟩
            | exact ⟨_, rfl, M_6.out.far, RB.set R_6.out M_6.out.far _ _ _ _, M_6.out.box.set u1 u2 u3 u4⟩
            | fail
      case rest =>
        obtain ⟨g, rfl, HG, HR2, HM⟩ := hcut
        obtain ⟨c1, c2, c3, c4⟩ := HM.out.cells
        have hzg := HM.out.lt
        have hzr := HR2.out.res.lt
        have hg := HG.out
        by_cases hm : u3.tmod n = 0
        · obtain ⟨rfl, ⟨rfl, rfl, rfl, rfl⟩, rfl, rfl⟩ : k = N ∧ (u1 = m1 ∧ u2 = m2 ∧ u3 = m3 ∧ u4 = m4) ∧ t = true ∧ z = 0 := by
            have e1 : k = N := by
              rcases Int.lt_or_le k N with h | h
              · exact absurd (by rw [← HU.out]; exact hm) (HNo.out k k0 h)
              · omega
            subst e1
            rcases HYes.out with ⟨h1, h2, h3, h4, h5⟩ | ⟨h1, _⟩
            · rw [← HU.out] at h2
              cases h2
              exact ⟨rfl, ⟨rfl, rfl, rfl, rfl⟩, h4, h5⟩
            · omega
          clear HNo HYes HU
          obtain ⟨r1, r2, r3, r4⟩ := HR2.out.res.cells
          have f2 := HR2.out.res.free
          go_upto_region 13 with fail
          go_region
          go_wp2
          have HZ := (HR2.out.res.set u1 u2 u3 u4).drew
          obtain ⟨d1, d2, d3, d4⟩ := HZ.cells
          refine bodyPost_ret (v := .tuple #[.bool true, .agg #[.int .i64 u1, .int .i64 u2, .int .i64 u3, .int .i64 u4], .int .i64 0]) ?_ rfl ⟨rfl, ?_⟩
          · simp [results, Try.results8, go_sem, *]
          · exact (below_set4 HR2.out.bel (by omega) _ _ _ _).drew
        · have hkN : k < N := by
            rcases HYes.out with ⟨h1, h2, h3, h4, h5⟩ | ⟨h1, _⟩
            · rcases Int.lt_or_le k N with h | h
              · exact h
              · obtain rfl : k = N := by omega
                rw [← HU.out] at h2
                cases h2
                exact absurd h3 hm
            · omega
          clear HNo HYes HU
          go_wp2
          go_roundw
          case rel => exact ⟨k + 1, by go_num, by omega, by omega, HR2.out⟩
          case measure => simp [intOf]; omega
    · obtain ⟨rfl, rfl⟩ : k = n ∧ N = n := by omega
      obtain ⟨rfl, rfl, rfl, rfl, rfl, rfl⟩ : t = false ∧ m1 = 0 ∧ m2 = 0 ∧ m3 = 0 ∧ m4 = 0 ∧ z = 0 := by
        rcases HYes.out with ⟨h1, _⟩ | ⟨_, h⟩
        · omega
        · exact h
      have hc := HR.out.res.cells
      obtain ⟨c1, c2, c3, c4⟩ := hc
      have f6 := HR.out.res.free
      go_wp2
      have HZ := HR.out.res.set 0 0 0 0
      have hc := HZ.cells
      obtain ⟨d1, d2, d3, d4⟩ := hc
      refine bodyPost_ret (v := .tuple #[.bool false, .agg #[.int .i64 0, .int .i64 0, .int .i64 0, .int .i64 0], .int .i64 0]) ?_ rfl ⟨rfl, ?_⟩
      · simp [results, Try.results8, go_sem, d1, d2, d3, d4]
      · exact below_set4 HR.out.bel (by omega) _ _ _ _
theorem requal0_any {n p q p' q' : Int} {t : Bool} {m1 m2 m3 m4 z : Int} (w : World) (h : EqE n p q p' q' t m1 m2 m3 m4 z) : Calls Try.prog 8 #[.int .i64 n, .agg #[.int .i64 p, .int .i64 q], .agg #[.int .i64 p', .int .i64 q']] w fun e w' => e = .returned (.tuple #[.bool t, .agg #[.int .i64 m1, .int .i64 m2, .int .i64 m3, .int .i64 m4], .int .i64 z]) ∧ Below w.heap.size w w' := by
  by_cases hK : ckI n p q p' q' = 0
  · exact requal0_at w h hK
  · cases h with
    | err _ => exact requal0_err w hK
    | yes _ _ _ _ _ _ _ _ _ _ _ _ _ e => exact absurd e hK
    | no _ _ _ _ _ _ _ _ e => exact absurd e hK
end Go.Proofs.Ytcjkdcbminpjlaa
