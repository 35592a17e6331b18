/- Contracts of the reference's Power. -/
import Derived.Test.YtnccamhajndkjaaPowL
namespace Go.Proofs.Ytnccamhajndkjaa
open Go.RowKit

set_option maxHeartbeats 3200000 in
set_option maxRecDepth 1000000 in
theorem rpower_bad (a b c d n p q r s k : Int) (w : World) (h : ¬ chkI a b c d = 0) (hp : powE ⟨a, b, c, d⟩ n = (⟨p, q, r, s⟩, k)) :
    Calls Try.prog 22 #[.agg #[.int .i64 a, .int .i64 b, .int .i64 c, .int .i64 d], .int .i64 n] w fun e w' => e = .returned (.tuple #[.agg #[.int .i64 p, .int .i64 q, .int .i64 r, .int .i64 s], .int .i64 k]) ∧ Below w.heap.size w w' := by
  rw [powE_bad h] at hp
  have HC := Lib.hid (fun W => rcheck_any a b c d W)
  have hk1 : (chkI a b c d != 0) = true := by simpa using h
  clear h
  unfold M.zero at hp
  dsimp only at hp
  cases hp
  generalize chkI a b c d = kk at *
  go_enter Try.func22, Try.ntmps22
  go_wp2_with (first
    | (go_at_call 18; ((with_reducible refine (HC.out _).mono ?_); rintro e w1 ⟨rfl, hb⟩; have P0 := Lib.hid ((((Four.at w rfl a b c d)).alloc _).below hb); have R0 := Lib.hid ((Four.at (w.alloc _) (g := w.heap.size + 1) (by simp) 0 0 0 0).below hb); have HB1 : Hid (Below w.heap.size w w1) := bel2 (Below.refl _ _) hb; obtain ⟨x0, x1, x2, x3⟩ := P0.out.cells; have xf := P0.out.free; have xl := P0.out.lt; obtain ⟨y0, y1, y2, y3⟩ := R0.out.cells; have yf := R0.out.free; have yl := R0.out.lt; clear hb))
    | fail)
  refine bodyPost_ret (v := .tuple #[.agg #[.int .i64 0, .int .i64 0, .int .i64 0, .int .i64 0], .int .i64 kk]) ?_ rfl ⟨rfl, ?_⟩
  · simp [results, Try.results22, go_sem, *]
  · exact below_set4 HB1.out (by omega) _ _ _ _
set_option maxHeartbeats 3200000 in
set_option maxRecDepth 1000000 in
theorem rpower_out (a b c d n p q r s k : Int) (w : World) (h : chkI a b c d = 0) (hn : n < -1000 ∨ 1000 < n) (hp : powE ⟨a, b, c, d⟩ n = (⟨p, q, r, s⟩, k)) :
    Calls Try.prog 22 #[.agg #[.int .i64 a, .int .i64 b, .int .i64 c, .int .i64 d], .int .i64 n] w fun e w' => e = .returned (.tuple #[.agg #[.int .i64 p, .int .i64 q, .int .i64 r, .int .i64 s], .int .i64 k]) ∧ Below w.heap.size w w' := by
  rw [powE_out h hn] at hp
  have HC := Lib.hid (fun W => rcheck_any a b c d W)
  rw [h] at HC
  clear h
  unfold M.zero at hp
  cases hp
  rcases (show n < -1000 ∨ (-1000 ≤ n ∧ 1000 < n) by omega) with h | ⟨h1, h2⟩
  all_goals
    clear hn
    go_enter Try.func22, Try.ntmps22
    go_wp2_with (first
      | (go_at_call 18; ((with_reducible refine (HC.out _).mono ?_); rintro e w1 ⟨rfl, hb⟩; have P0 := Lib.hid ((((Four.at w rfl a b c d)).alloc _).below hb); have R0 := Lib.hid ((Four.at (w.alloc _) (g := w.heap.size + 1) (by simp) 0 0 0 0).below hb); have HB1 : Hid (Below w.heap.size w w1) := bel2 (Below.refl _ _) hb; obtain ⟨x0, x1, x2, x3⟩ := P0.out.cells; have xf := P0.out.free; have xl := P0.out.lt; obtain ⟨y0, y1, y2, y3⟩ := R0.out.cells; have yf := R0.out.free; have yl := R0.out.lt; clear hb))
      | fail)
    refine bodyPost_ret (v := .tuple #[.agg #[.int .i64 0, .int .i64 0, .int .i64 0, .int .i64 0], .int .i64 2]) ?_ rfl ⟨rfl, ?_⟩
    · simp [results, Try.results22, go_sem, *]
    · exact below_set4 HB1.out (by omega) _ _ _ _
set_option maxHeartbeats 3200000 in
set_option maxRecDepth 1000000 in
theorem rpower_pos (a b c d p q r s k : Int) (n : Nat) (w : World) (h : chkI a b c d = 0) (hn : n ≤ 1000) (hp : powF ⟨a, b, c, d⟩ n = (⟨p, q, r, s⟩, k)) :
    Calls Try.prog 22 #[.agg #[.int .i64 a, .int .i64 b, .int .i64 c, .int .i64 d], .int .i64 (n : Int)] w fun e w' => e = .returned (.tuple #[.agg #[.int .i64 p, .int .i64 q, .int .i64 r, .int .i64 s], .int .i64 k]) ∧ Below w.heap.size w w' := by
  have HC := Lib.hid (fun W => rcheck_any a b c d W)
  have HFB : Hid ((M.mk a b c d).ok = true) := by rcases chk_cases a b c d with ⟨_, h⟩ | ⟨h, _⟩ | ⟨h, _⟩ <;> first | exact h | omega
  have HP := Lib.hid hp
  have hni : (n : Int) ≤ 1000 := by omega
  rw [h] at HC
  clear h hp hn
  go_enter Try.func22, Try.ntmps22
  go_wp2_with (first
    | (go_at_call 18; ((with_reducible refine (HC.out _).mono ?_); rintro e w1 ⟨rfl, hb⟩; have P0 := Lib.hid ((((Four.at w rfl a b c d)).alloc _).below hb); have R0 := Lib.hid ((Four.at (w.alloc _) (g := w.heap.size + 1) (by simp) 0 0 0 0).below hb); have HB1 : Hid (Below w.heap.size w w1) := bel2 (Below.refl _ _) hb; obtain ⟨x0, x1, x2, x3⟩ := P0.out.cells; have xf := P0.out.free; have xl := P0.out.lt; obtain ⟨y0, y1, y2, y3⟩ := R0.out.cells; have yf := R0.out.free; have yl := R0.out.lt; clear hb))
    | (go_at_call 40; ((with_reducible refine (rOne_any _).mono ?_); rintro e w3 ⟨rfl, hb⟩; have HPS : Hid (PS w.heap.size w3.heap.size w (w3.alloc (.cells #[.int .i64 1, .int .i64 0, .int .i64 0, .int .i64 1] 23)) ⟨a, b, c, d⟩ .one) := ⟨(P0.out.below hb).alloc _, (R0.out.below hb).alloc _, Four.at w3 rfl 1 0 0 1, bel0 (bel0 HB1.out hb) (below1 _ _), (by have := hb.size; omega)⟩; clear hb))
    | fail)
  clear P0 R0 HC HB1 x0 x1 x2 x3 xf y0 y1 y2 y3 yf
  obtain ⟨g, hgg⟩ : ∃ g, g = w3.heap.size := ⟨_, rfl⟩
  rw [← hgg] at HPS ⊢
  clear hgg
  go_loopw [8, 9, 10] (fun I _ _ wr => ∃ (j : Nat) (y : M), I = .int .i64 j ∧ j ≤ n ∧ Hid (y = (M.mk (a) (b) (c) (d)).pow j) ∧ Hid ((M.mk (a) (b) (c) (d)).powOk j = true) ∧ Hid (PS w.heap.size g w wr ⟨a, b, c, d⟩ y)) (fun I _ _ _ => n - (intOf I).toNat)
  case atStart => exact ⟨0, .one, rfl, Nat.zero_le _, rfl, rfl, HPS.out⟩
  case round =>
    clear HPS
    obtain ⟨j, ⟨y1, y2, y3, y4⟩, rfl, hj, HY, HO, HS⟩ := hrel
    have hg2 := HS.out.hg
    obtain ⟨u0, u1, u2, u3⟩ := HS.out.base.cells
    obtain ⟨v0, v1, v2, v3⟩ := HS.out.pow.cells
    obtain ⟨z0, z1, z2, z3⟩ := HS.out.res.cells
    have ul := HS.out.base.lt
    have vl := HS.out.pow.lt
    have zl := HS.out.res.lt
    have vf := HS.out.pow.free
    have zf := HS.out.res.free
    dsimp only at u0 u1 u2 u3 v0 v1 v2 v3
    by_cases hlt : j < n
    · have hlt2 : (j : Int) < (n : Int) := by omega
      have hyo : (M.mk y1 y2 y3 y4).ok = true := by have := M.powOk_ok HO.out; rw [← HY.out] at this; exact this
      have HNX : Hid ((M.mk y1 y2 y3 y4).mul ⟨a, b, c, d⟩ = (M.mk a b c d).pow (j + 1)) := by show _ = _; rw [HY.out]; rfl
      obtain ⟨⟨t1, t2, t3, t4⟩, ht⟩ : ∃ t, t = (M.mk y1 y2 y3 y4).mul ⟨a, b, c, d⟩ := ⟨_, rfl⟩
      cases ho : (M.mk t1 t2 t3 t4).ok with
      | false =>
        have HM := Lib.hid (fun W => rmul_any y1 y2 y3 y4 a b c d 0 0 0 0 7 W (mulE_large hyo HFB.out (by rw [← ht]; exact ho)))
        have HSTOP : Hid ((M.mk a b c d).powOk (j + 1) = false) := powOk_stop (by rw [← HNX.out, ← ht]; exact ho)
        rw [powF_no HSTOP.out (show j + 1 ≤ n by omega)] at HP
        clear ho ht hyo
        have hp := HP.out
        unfold M.zero at hp
        cases hp
        go_wp2_with (first
          | (go_at_call 16; ((with_reducible refine (HM.out _).mono ?_); rintro e w3 ⟨rfl, hb⟩; have S1 := Lib.hid (HS.out.below hb); obtain ⟨z0, z1, z2, z3⟩ := S1.out.res.cells; have zf := S1.out.res.free; have zl := S1.out.res.lt; clear hb))
          | fail)
        refine bodyPost_ret (v := .tuple #[.agg #[.int .i64 0, .int .i64 0, .int .i64 0, .int .i64 0], .int .i64 7]) ?_ rfl ⟨rfl, ?_⟩
        · simp [results, Try.results22, go_sem, *]
        · exact below_set4a S1.out.bel (by omega) (by omega) _ _ _ _ _
      | true =>
        have HM := Lib.hid (fun W => rmul_any y1 y2 y3 y4 a b c d t1 t2 t3 t4 0 W (by rw [ht]; exact mulE_ok hyo HFB.out (by rw [← ht]; exact ho)))
        have HGO : Hid ((M.mk a b c d).powOk (j + 1) = true) := powOk_next HO.out (by rw [← HNX.out, ← ht]; exact ho)
        have HNY : Hid (M.mk t1 t2 t3 t4 = (M.mk a b c d).pow (j + 1)) := ht.trans HNX.out
        clear ho ht hyo
        go_wp2_with (first
          | (go_at_call 16; ((with_reducible refine (HM.out _).mono ?_); rintro e w3 ⟨rfl, hb⟩; have S1 := Lib.hid (HS.out.below hb); obtain ⟨v0, v1, v2, v3⟩ := S1.out.pow.cells; have vf := S1.out.pow.free; have vl := S1.out.pow.lt; clear hb))
          | fail)
        go_roundw
        case rel => exact ⟨j + 1, ⟨t1, t2, t3, t4⟩, by go_num, hlt, HNY.out, HGO.out, (S1.out.set t1 t2 t3 t4).alloc _⟩
        case measure => simp [intOf]; omega
    · have hje : j = n := by omega
      subst hje
      rw [powF_yes HO.out, ← HY.out] at HP
      have hp := HP.out
      cases hp
      go_wp2
      refine bodyPost_ret (v := .tuple #[.agg #[.int .i64 p, .int .i64 q, .int .i64 r, .int .i64 s], .int .i64 0]) ?_ rfl ⟨rfl, ?_⟩
      · simp [results, Try.results22, go_sem, *]
      · exact below_set4 HS.out.bel (by omega) _ _ _ _
set_option maxHeartbeats 3200000 in
set_option maxRecDepth 1000000 in
theorem rpower_neg (a b c d p q r s k : Int) (n : Nat) (w : World) (h : chkI a b c d = 0) (h0 : 1 ≤ n) (hn : n ≤ 1000) (hp : powF ⟨d, -b, -c, a⟩ n = (⟨p, q, r, s⟩, k)) :
    Calls Try.prog 22 #[.agg #[.int .i64 a, .int .i64 b, .int .i64 c, .int .i64 d], .int .i64 (-(n : Int))] w fun e w' => e = .returned (.tuple #[.agg #[.int .i64 p, .int .i64 q, .int .i64 r, .int .i64 s], .int .i64 k]) ∧ Below w.heap.size w w' := by
  have HC := Lib.hid (fun W => rcheck_any a b c d W)
  have hf : fitB a b c d = true := by rcases chk_cases a b c d with ⟨_, h⟩ | ⟨h, _⟩ | ⟨h, _⟩ <;> first | exact h | omega
  have HBK := Lib.hid (fun W => back_any a b c d W hf)
  have HFB : Hid ((M.mk d (-b) (-c) a).ok = true) := M.ok_inv (m := ⟨a, b, c, d⟩) hf
  have HP := Lib.hid hp
  have hni : (n : Int) ≤ 1000 := by omega
  have hn0 : 1 ≤ (n : Int) := by omega
  have hneg : decide (0 < n) = true := decide_eq_true (by omega)
  have hd1 : decide (1000 < (n : Int)) = false := decide_eq_false (by omega)
  have hd2 : decide (1000 < -(n : Int)) = false := decide_eq_false (by omega)
  rw [h] at HC
  clear h hp hn h0 hf
  go_enter Try.func22, Try.ntmps22
  go_wp2_with (first
    | (go_at_call 18; ((with_reducible refine (HC.out _).mono ?_); rintro e w1 ⟨rfl, hb⟩; have P0 := Lib.hid ((((Four.at w rfl a b c d)).alloc _).below hb); have R0 := Lib.hid ((Four.at (w.alloc _) (g := w.heap.size + 1) (by simp) 0 0 0 0).below hb); have HB1 : Hid (Below w.heap.size w w1) := bel2 (Below.refl _ _) hb; obtain ⟨x0, x1, x2, x3⟩ := P0.out.cells; have xf := P0.out.free; have xl := P0.out.lt; obtain ⟨y0, y1, y2, y3⟩ := R0.out.cells; have yf := R0.out.free; have yl := R0.out.lt; clear hb))
    | (go_at_call 19; ((with_reducible refine (HBK.out _).mono ?_); rintro e w2 ⟨rfl, hb⟩; have P0 := Lib.hid (P0.out.below hb); have R0 := Lib.hid (R0.out.below hb); have HB1 := Lib.hid (bel0 HB1.out hb); obtain ⟨x0, x1, x2, x3⟩ := P0.out.cells; have xf := P0.out.free; have xl := P0.out.lt; obtain ⟨y0, y1, y2, y3⟩ := R0.out.cells; have yf := R0.out.free; have yl := R0.out.lt; clear hb))
    | (go_at_call 40; ((with_reducible refine (rOne_any _).mono ?_); rintro e w3 ⟨rfl, hb⟩; have HPS : Hid (PS w.heap.size w3.heap.size w (w3.alloc (.cells #[.int .i64 1, .int .i64 0, .int .i64 0, .int .i64 1] 23)) ⟨d, -b, -c, a⟩ .one) := ⟨((P0.out.set d (-b) (-c) a).below hb).alloc _, ((R0.out.other (by omega) _ _ _ _).below hb).alloc _, Four.at w3 rfl 1 0 0 1, bel0 (bel0 (below_set4 HB1.out (by omega) _ _ _ _) hb) (below1 _ _), (by have := hb.size; simp [World.setCell] at this; omega)⟩; clear hb))
    | fail)
  clear P0 R0 HC HB1 x0 x1 x2 x3 xf y0 y1 y2 y3 yf hneg hn0 hd1 hd2
  obtain ⟨g, hgg⟩ : ∃ g, g = w3.heap.size := ⟨_, rfl⟩
  rw [← hgg] at HPS ⊢
  clear hgg
  go_loopw [8, 9, 10] (fun I _ _ wr => ∃ (j : Nat) (y : M), I = .int .i64 j ∧ j ≤ n ∧ Hid (y = (M.mk (d) (-b) (-c) (a)).pow j) ∧ Hid ((M.mk (d) (-b) (-c) (a)).powOk j = true) ∧ Hid (PS w.heap.size g w wr ⟨d, -b, -c, a⟩ y)) (fun I _ _ _ => n - (intOf I).toNat)
  case atStart => exact ⟨0, .one, rfl, Nat.zero_le _, rfl, rfl, HPS.out⟩
  case round =>
    clear HPS
    obtain ⟨j, ⟨y1, y2, y3, y4⟩, rfl, hj, HY, HO, HS⟩ := hrel
    have hg2 := HS.out.hg
    obtain ⟨u0, u1, u2, u3⟩ := HS.out.base.cells
    obtain ⟨v0, v1, v2, v3⟩ := HS.out.pow.cells
    obtain ⟨z0, z1, z2, z3⟩ := HS.out.res.cells
    have ul := HS.out.base.lt
    have vl := HS.out.pow.lt
    have zl := HS.out.res.lt
    have vf := HS.out.pow.free
    have zf := HS.out.res.free
    dsimp only at u0 u1 u2 u3 v0 v1 v2 v3
    by_cases hlt : j < n
    · have hlt2 : (j : Int) < (n : Int) := by omega
      have hyo : (M.mk y1 y2 y3 y4).ok = true := by have := M.powOk_ok HO.out; rw [← HY.out] at this; exact this
      have HNX : Hid ((M.mk y1 y2 y3 y4).mul ⟨d, -b, -c, a⟩ = (M.mk d (-b) (-c) a).pow (j + 1)) := by show _ = _; rw [HY.out]; rfl
      obtain ⟨⟨t1, t2, t3, t4⟩, ht⟩ : ∃ t, t = (M.mk y1 y2 y3 y4).mul ⟨d, -b, -c, a⟩ := ⟨_, rfl⟩
      cases ho : (M.mk t1 t2 t3 t4).ok with
      | false =>
        have HM := Lib.hid (fun W => rmul_any y1 y2 y3 y4 d (-b) (-c) a 0 0 0 0 7 W (mulE_large hyo HFB.out (by rw [← ht]; exact ho)))
        have HSTOP : Hid ((M.mk d (-b) (-c) a).powOk (j + 1) = false) := powOk_stop (by rw [← HNX.out, ← ht]; exact ho)
        rw [powF_no HSTOP.out (show j + 1 ≤ n by omega)] at HP
        clear ho ht hyo
        have hp := HP.out
        unfold M.zero at hp
        cases hp
        go_wp2_with (first
          | (go_at_call 16; ((with_reducible refine (HM.out _).mono ?_); rintro e w3 ⟨rfl, hb⟩; have S1 := Lib.hid (HS.out.below hb); obtain ⟨z0, z1, z2, z3⟩ := S1.out.res.cells; have zf := S1.out.res.free; have zl := S1.out.res.lt; clear hb))
          | fail)
        refine bodyPost_ret (v := .tuple #[.agg #[.int .i64 0, .int .i64 0, .int .i64 0, .int .i64 0], .int .i64 7]) ?_ rfl ⟨rfl, ?_⟩
        · simp [results, Try.results22, go_sem, *]
        · exact below_set4a S1.out.bel (by omega) (by omega) _ _ _ _ _
      | true =>
        have HM := Lib.hid (fun W => rmul_any y1 y2 y3 y4 d (-b) (-c) a t1 t2 t3 t4 0 W (by rw [ht]; exact mulE_ok hyo HFB.out (by rw [← ht]; exact ho)))
        have HGO : Hid ((M.mk d (-b) (-c) a).powOk (j + 1) = true) := powOk_next HO.out (by rw [← HNX.out, ← ht]; exact ho)
        have HNY : Hid (M.mk t1 t2 t3 t4 = (M.mk d (-b) (-c) a).pow (j + 1)) := ht.trans HNX.out
        clear ho ht hyo
        go_wp2_with (first
          | (go_at_call 16; ((with_reducible refine (HM.out _).mono ?_); rintro e w3 ⟨rfl, hb⟩; have S1 := Lib.hid (HS.out.below hb); obtain ⟨v0, v1, v2, v3⟩ := S1.out.pow.cells; have vf := S1.out.pow.free; have vl := S1.out.pow.lt; clear hb))
          | fail)
        go_roundw
        case rel => exact ⟨j + 1, ⟨t1, t2, t3, t4⟩, by go_num, hlt, HNY.out, HGO.out, (S1.out.set t1 t2 t3 t4).alloc _⟩
        case measure => simp [intOf]; omega
    · have hje : j = n := by omega
      subst hje
      rw [powF_yes HO.out, ← HY.out] at HP
      have hp := HP.out
      cases hp
      go_wp2
      refine bodyPost_ret (v := .tuple #[.agg #[.int .i64 p, .int .i64 q, .int .i64 r, .int .i64 s], .int .i64 0]) ?_ rfl ⟨rfl, ?_⟩
      · simp [results, Try.results22, go_sem, *]
      · exact below_set4 HS.out.bel (by omega) _ _ _ _
theorem rpower_any (a b c d n p q r s k : Int) (w : World) (hp : powE ⟨a, b, c, d⟩ n = (⟨p, q, r, s⟩, k)) :
    Calls Try.prog 22 #[.agg #[.int .i64 a, .int .i64 b, .int .i64 c, .int .i64 d], .int .i64 n] w fun e w' => e = .returned (.tuple #[.agg #[.int .i64 p, .int .i64 q, .int .i64 r, .int .i64 s], .int .i64 k]) ∧ Below w.heap.size w w' := by
  by_cases h : chkI a b c d = 0
  · by_cases hn : n < -1000 ∨ 1000 < n
    · exact rpower_out a b c d n p q r s k w h hn hp
    · rcases Int.lt_or_le n 0 with h0 | h0
      · rw [powE_neg h h0 (by omega)] at hp
        obtain ⟨j, rfl⟩ : ∃ j : Nat, n = -(j : Int) := ⟨n.natAbs, by omega⟩
        rw [Int.natAbs_neg, Int.natAbs_natCast] at hp
        exact rpower_neg a b c d p q r s k j w h (by omega) (by omega) hp
      · rw [powE_pos h h0 (by omega)] at hp
        obtain ⟨j, rfl⟩ : ∃ j : Nat, n = (j : Int) := ⟨n.natAbs, by omega⟩
        rw [Int.natAbs_natCast] at hp
        exact rpower_pos a b c d p q r s k j w h (by omega) hp
  · exact rpower_bad a b c d n p q r s k w h hp
end Go.Proofs.Ytnccamhajndkjaa
