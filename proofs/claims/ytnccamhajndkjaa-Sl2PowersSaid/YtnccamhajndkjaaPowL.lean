/- Contracts of both Power. -/
import Derived.Test.YtnccamhajndkjaaLawK
import Derived.Test.YtnccamhajndkjaaRGenL
namespace Go.Proofs.Ytnccamhajndkjaa
open Go.RowKit

/-- The answer of Power. -/
def powE (m : M) (n : Int) : M × Int :=
  if ¬ chkI m.a m.b m.c m.d = 0 then (.zero, chkI m.a m.b m.c m.d) else if n < -1000 ∨ 1000 < n then (.zero, 2) else
  if (if n < 0 then m.inv else m).powOk n.natAbs then ((if n < 0 then m.inv else m).pow n.natAbs, 0) else (.zero, 7)
theorem powE_bad {m : M} {n : Int} (h : ¬ chkI m.a m.b m.c m.d = 0) : powE m n = (.zero, chkI m.a m.b m.c m.d) := if_pos h
theorem powE_out {m : M} {n : Int} (h : chkI m.a m.b m.c m.d = 0) (k : n < -1000 ∨ 1000 < n) : powE m n = (.zero, 2) := by
  unfold powE; rw [if_neg (by omega), if_pos k]
/-- The power of the base x, if no power on the way is too great. -/
def powF (x : M) (k : Nat) : M × Int := if x.powOk k then (x.pow k, 0) else (.zero, 7)
theorem powF_yes {x : M} {k : Nat} (h : x.powOk k = true) : powF x k = (x.pow k, 0) := if_pos h
theorem powF_no {x : M} {k j : Nat} (h : x.powOk j = false) (hk : j ≤ k) : powF x k = (.zero, 7) := if_neg fun c => by rw [M.powOk_mono c hk] at h; cases h
theorem powE_pos {m : M} {n : Int} (h : chkI m.a m.b m.c m.d = 0) (h1 : 0 ≤ n) (h2 : n ≤ 1000) : powE m n = powF m n.natAbs := by
  unfold powE
  have e : (if n < 0 then m.inv else m) = m := if_neg (by omega)
  rw [if_neg (by omega), if_neg (by omega), e]; rfl
theorem powE_neg {m : M} {n : Int} (h : chkI m.a m.b m.c m.d = 0) (h1 : n < 0) (h2 : -1000 ≤ n) : powE m n = powF m.inv n.natAbs := by
  unfold powE
  have e : (if n < 0 then m.inv else m) = m.inv := if_pos h1
  rw [if_neg (by omega), if_neg (by omega), e]; rfl
/-- The world on the way: the base's box B, the result's box B + 1, the power's box g. -/
structure PS (B g : Nat) (w0 wr : World) (x y : M) : Prop where
  base : Four wr B x.a x.b x.c x.d
  res : Four wr (B + 1) 0 0 0 0
  pow : Four wr g y.a y.b y.c y.d
  bel : Below B w0 wr
  hg : B + 2 ≤ g
theorem PS.below {B g : Nat} {w0 wr w' : World} {x y : M} (h : PS B g w0 wr x y) (hb : Below wr.heap.size wr w') : PS B g w0 w' x y :=
  ⟨h.base.below hb, h.res.below hb, h.pow.below hb, h.bel.trans (hb.mono (by have := h.base.lt; omega)), h.hg⟩
theorem PS.set {B g : Nat} {w0 wr : World} {x y : M} (h : PS B g w0 wr x y) (a b c d : Int) :
    PS B g w0 ((((wr.setCell ⟨g, 0, none⟩ (.int .i64 a)).setCell ⟨g, 1, none⟩ (.int .i64 b)).setCell ⟨g, 2, none⟩ (.int .i64 c)).setCell ⟨g, 3, none⟩ (.int .i64 d)) x ⟨a, b, c, d⟩ := by
  have := h.hg
  exact ⟨h.base.other (by omega) _ _ _ _, h.res.other (by omega) _ _ _ _, h.pow.set _ _ _ _, below_set4 h.bel (by omega) _ _ _ _, h.hg⟩
theorem PS.alloc {B g : Nat} {w0 wr : World} {x y : M} (h : PS B g w0 wr x y) (o : Obj) : PS B g w0 (wr.alloc o) x y := h.below (below1 _ _)
theorem below_set4a {B g : Nat} {w W : World} (h : Below B w W) (hg : B ≤ g) (hB : B ≤ W.heap.size) (v0 v1 v2 v3 : Value) (o : Obj) : Below B w (((((W.setCell ⟨g, 0, none⟩ v0).setCell ⟨g, 1, none⟩ v1).setCell ⟨g, 2, none⟩ v2).setCell ⟨g, 3, none⟩ v3).alloc o) :=
  (below_set4 h hg v0 v1 v2 v3).alloc (by simp [World.setCell]; exact hB) o
theorem M.ok_inv_iff {m : M} (h : m.ok = true) : fitB m.inv.a m.inv.b m.inv.c m.inv.d = true := M.ok_inv h
theorem pow_next {x : M} {k : Nat} : (x.pow k).mul x = x.pow (k + 1) := rfl
theorem powOk_next {x : M} {k : Nat} (h : x.powOk k = true) (h2 : (x.pow (k + 1)).ok = true) : x.powOk (k + 1) = true := by unfold M.powOk; rw [h, h2]; rfl
theorem powOk_stop {x : M} {k : Nat} (h2 : (x.pow (k + 1)).ok = false) : x.powOk (k + 1) = false := by unfold M.powOk; rw [h2]; simp

set_option maxHeartbeats 3200000 in
set_option maxRecDepth 1000000 in
theorem power_bad (a b c d n p q r s k : Int) (w : World) (h : ¬ chkI a b c d = 0) (hp : powE ⟨a, b, c, d⟩ n = (⟨p, q, r, s⟩, k)) :
    Calls Try.prog 21 #[.agg #[.int .i64 a, .int .i64 b, .int .i64 c, .int .i64 d], .int .i64 n] w fun e w' => e = .returned (.tuple #[.agg #[.int .i64 p, .int .i64 q, .int .i64 r, .int .i64 s], .int .i64 k]) ∧ Below w.heap.size w w' := by
  rw [powE_bad h] at hp
  have hi : invE ⟨a, b, c, d⟩ = (⟨0, 0, 0, 0⟩, chkI a b c d) := by unfold invE; exact if_neg h
  have HI := Lib.hid (fun W => inverse_any a b c d 0 0 0 0 _ W hi)
  have hk1 : (chkI a b c d != 0) = true := by simpa using h
  clear hi h
  unfold M.zero at hp
  dsimp only at hp
  cases hp
  generalize chkI a b c d = kk at *
  go_enter Try.func21, Try.ntmps21
  go_wp2_with (first
    | (go_at_call 17; ((with_reducible refine (HI.out _).mono ?_); rintro e w1 ⟨rfl, hb⟩; have P0 := Lib.hid ((((Four.at w rfl a b c d)).alloc _).below hb); have R0 := Lib.hid ((Four.at (w.alloc _) (g := w.heap.size + 1) (by simp) 0 0 0 0).below hb); have HB1 : Hid (Below w.heap.size w w1) := bel2 (Below.refl _ _) hb; obtain ⟨x0, x1, x2, x3⟩ := P0.out.cells; have xf := P0.out.free; have xl := P0.out.lt; obtain ⟨y0, y1, y2, y3⟩ := R0.out.cells; have yf := R0.out.free; have yl := R0.out.lt; clear hb))
    | fail)
  refine bodyPost_ret (v := .tuple #[.agg #[.int .i64 0, .int .i64 0, .int .i64 0, .int .i64 0], .int .i64 kk]) ?_ rfl ⟨rfl, ?_⟩
  · simp [results, Try.results21, go_sem, *]
  · exact below_set4a HB1.out (by omega) HB1.out.size _ _ _ _ _
set_option maxHeartbeats 3200000 in
set_option maxRecDepth 1000000 in
theorem power_out (a b c d n p q r s k : Int) (w : World) (h : chkI a b c d = 0) (hn : n < -1000 ∨ 1000 < n) (hp : powE ⟨a, b, c, d⟩ n = (⟨p, q, r, s⟩, k)) :
    Calls Try.prog 21 #[.agg #[.int .i64 a, .int .i64 b, .int .i64 c, .int .i64 d], .int .i64 n] w fun e w' => e = .returned (.tuple #[.agg #[.int .i64 p, .int .i64 q, .int .i64 r, .int .i64 s], .int .i64 k]) ∧ Below w.heap.size w w' := by
  rw [powE_out h hn] at hp
  have hi : invE ⟨a, b, c, d⟩ = (⟨d, -b, -c, a⟩, 0) := by unfold invE; exact if_pos h
  have HI := Lib.hid (fun W => inverse_any a b c d _ _ _ _ _ W hi)
  clear hi h
  unfold M.zero at hp
  cases hp
  rcases (show n < -1000 ∨ (-1000 ≤ n ∧ 1000 < n) by omega) with h | ⟨h1, h2⟩
  all_goals
    clear hn
    go_enter Try.func21, Try.ntmps21
    go_wp2_with (first
      | (go_at_call 17; ((with_reducible refine (HI.out _).mono ?_); rintro e w1 ⟨rfl, hb⟩; have P0 := Lib.hid ((((Four.at w rfl a b c d)).alloc _).below hb); have R0 := Lib.hid ((Four.at (w.alloc _) (g := w.heap.size + 1) (by simp) 0 0 0 0).below hb); have HB1 : Hid (Below w.heap.size w w1) := bel2 (Below.refl _ _) hb; obtain ⟨x0, x1, x2, x3⟩ := P0.out.cells; have xf := P0.out.free; have xl := P0.out.lt; obtain ⟨y0, y1, y2, y3⟩ := R0.out.cells; have yf := R0.out.free; have yl := R0.out.lt; clear hb))
      | fail)
    refine bodyPost_ret (v := .tuple #[.agg #[.int .i64 0, .int .i64 0, .int .i64 0, .int .i64 0], .int .i64 2]) ?_ rfl ⟨rfl, ?_⟩
    · simp [results, Try.results21, go_sem, *]
    · exact below_set4a HB1.out (by omega) HB1.out.size _ _ _ _ _
set_option maxHeartbeats 3200000 in
set_option maxRecDepth 1000000 in
theorem power_pos (a b c d p q r s k : Int) (n : Nat) (w : World) (h : chkI a b c d = 0) (hn : n ≤ 1000) (hp : powF ⟨a, b, c, d⟩ n = (⟨p, q, r, s⟩, k)) :
    Calls Try.prog 21 #[.agg #[.int .i64 a, .int .i64 b, .int .i64 c, .int .i64 d], .int .i64 (n : Int)] w fun e w' => e = .returned (.tuple #[.agg #[.int .i64 p, .int .i64 q, .int .i64 r, .int .i64 s], .int .i64 k]) ∧ Below w.heap.size w w' := by
  have hi : invE ⟨a, b, c, d⟩ = (⟨d, -b, -c, a⟩, 0) := by unfold invE; exact if_pos h
  have HI := Lib.hid (fun W => inverse_any a b c d _ _ _ _ _ W hi)
  have HFB : Hid (fitB a b c d = true) := by rcases chk_cases a b c d with ⟨_, h⟩ | ⟨h, _⟩ | ⟨h, _⟩ <;> first | exact h | omega
  have HP := Lib.hid hp
  have hni : (n : Int) ≤ 1000 := by omega
  clear hi h hp hn
  go_enter Try.func21, Try.ntmps21
  go_wp2_with (first
    | (go_at_call 17; ((with_reducible refine (HI.out _).mono ?_); rintro e w1 ⟨rfl, hb⟩; have P0 := Lib.hid ((((Four.at w rfl a b c d)).alloc _).below hb); have R0 := Lib.hid ((Four.at (w.alloc _) (g := w.heap.size + 1) (by simp) 0 0 0 0).below hb); have HB1 : Hid (Below w.heap.size w w1) := bel2 (Below.refl _ _) hb; obtain ⟨x0, x1, x2, x3⟩ := P0.out.cells; have xf := P0.out.free; have xl := P0.out.lt; obtain ⟨y0, y1, y2, y3⟩ := R0.out.cells; have yf := R0.out.free; have yl := R0.out.lt; clear hb))
    | fail)
  have HPS : Hid (PS w.heap.size (w1.heap.size + 1) w (((w1.alloc (.cells #[.int .i64 d, .int .i64 (-b), .int .i64 (-c), .int .i64 a] 23))).alloc (.cells #[.int .i64 1, .int .i64 0, .int .i64 0, .int .i64 1] 23)) ⟨a, b, c, d⟩ .one) :=
    ⟨(P0.out.alloc _).alloc _, (R0.out.alloc _).alloc _, Four.at _ (by simp) 1 0 0 1, HB1.out.trans ((below2 _ _ _).mono HB1.out.size), by omega⟩
  clear P0 R0 HI HB1 x0 x1 x2 x3 xf y0 y1 y2 y3 yf
  obtain ⟨g, hgg⟩ : ∃ g, g = w1.heap.size + 1 := ⟨_, rfl⟩
  rw [← hgg] at HPS ⊢
  clear hgg
  go_loopw [32] (fun I wr => ∃ (j : Nat) (y : M), I = .int .i64 j ∧ j ≤ n ∧ Hid (y = (M.mk (a) (b) (c) (d)).pow j) ∧ Hid ((M.mk (a) (b) (c) (d)).powOk j = true) ∧ Hid (PS w.heap.size g w wr ⟨a, b, c, d⟩ y)) (fun I _ => n - (intOf I).toNat)
  case atStart => exact ⟨0, .one, rfl, Nat.zero_le _, rfl, rfl, HPS.out⟩
  case round =>
    clear HPS
    obtain ⟨j, ⟨y1, y2, y3, y4⟩, rfl, hj, HY, HO, HS⟩ := hrel
    have hg2 := HS.out.hg
    obtain ⟨u0, u1, u2, u3⟩ := HS.out.base.cells
    obtain ⟨v0, v1, v2, v3⟩ := HS.out.pow.cells
    obtain ⟨z0, z1, z2, z3⟩ := HS.out.res.cells
    have ul := HS.out.base.lt
    have vl := HS.out.pow.lt
    have zl := HS.out.res.lt
    have vf := HS.out.pow.free
    have zf := HS.out.res.free
    dsimp only at u0 u1 u2 u3 v0 v1 v2 v3
    by_cases hlt : j < n
    · have hlt2 : (j : Int) < (n : Int) := by omega
      have hyo : fitB y1 y2 y3 y4 = true := by have := M.powOk_ok HO.out; rw [← HY.out] at this; exact this
      have HM := Lib.hid (fun W => product_yes y1 y2 y3 y4 a b c d W hyo HFB.out)
      have HNX : Hid ((M.mk y1 y2 y3 y4).mul ⟨a, b, c, d⟩ = (M.mk a b c d).pow (j + 1)) := by show _ = _; rw [HY.out]; rfl
      unfold M.mul at HNX
      dsimp only at HNX
      clear hyo
      obtain ⟨t1, ht1⟩ : ∃ t, t = y1 * a + y2 * c := ⟨_, rfl⟩
      obtain ⟨t2, ht2⟩ : ∃ t, t = y1 * b + y2 * (d) := ⟨_, rfl⟩
      obtain ⟨t3, ht3⟩ : ∃ t, t = y3 * a + y4 * c := ⟨_, rfl⟩
      obtain ⟨t4, ht4⟩ : ∃ t, t = y3 * b + y4 * (d) := ⟨_, rfl⟩
      rw [← ht1, ← ht2, ← ht3, ← ht4] at HM HNX
      clear ht1 ht2 ht3 ht4
      have HA := Lib.hid (fun W => areEntries_any t1 t2 t3 t4 W)
      cases ho : fitB t1 t2 t3 t4 with
      | false =>
        have HSTOP : Hid ((M.mk a b c d).powOk (j + 1) = false) := powOk_stop (by rw [← HNX.out]; exact ho)
        rw [powF_no HSTOP.out (show j + 1 ≤ n by omega)] at HP
        rw [ho] at HA
        clear ho
        have hp := HP.out
        unfold M.zero at hp
        cases hp
        go_wp2_with (first
          | (go_at_call 38; ((with_reducible refine (HM.out _).mono ?_); rintro e w3 ⟨rfl, hb⟩; have S1 := Lib.hid (HS.out.below hb); obtain ⟨u0, u1, u2, u3⟩ := S1.out.base.cells; obtain ⟨v0, v1, v2, v3⟩ := S1.out.pow.cells; have vf := S1.out.pow.free; clear hb))
          | (go_at_call 36; ((with_reducible refine (HA.out _).mono ?_); rintro e w4 ⟨rfl, hb⟩; have S2 := Lib.hid ((S1.out.set t1 t2 t3 t4).below hb); obtain ⟨z0, z1, z2, z3⟩ := S2.out.res.cells; have zf := S2.out.res.free; clear hb))
          | fail)
        refine bodyPost_ret (v := .tuple #[.agg #[.int .i64 0, .int .i64 0, .int .i64 0, .int .i64 0], .int .i64 7]) ?_ rfl ⟨rfl, ?_⟩
        · simp [results, Try.results21, go_sem, *]
        · exact below_set4 S2.out.bel (by omega) _ _ _ _
      | true =>
        have HGO : Hid ((M.mk a b c d).powOk (j + 1) = true) := powOk_next HO.out (by rw [← HNX.out]; exact ho)
        rw [ho] at HA
        clear ho
        go_wp2_with (first
          | (go_at_call 38; ((with_reducible refine (HM.out _).mono ?_); rintro e w3 ⟨rfl, hb⟩; have S1 := Lib.hid (HS.out.below hb); obtain ⟨u0, u1, u2, u3⟩ := S1.out.base.cells; obtain ⟨v0, v1, v2, v3⟩ := S1.out.pow.cells; have vf := S1.out.pow.free; clear hb))
          | (go_at_call 36; ((with_reducible refine (HA.out _).mono ?_); rintro e w4 ⟨rfl, hb⟩; have S2 := Lib.hid ((S1.out.set t1 t2 t3 t4).below hb); clear hb))
          | fail)
        go_roundw
        case rel => exact ⟨j + 1, ⟨t1, t2, t3, t4⟩, by go_num, hlt, HNX.out, HGO.out, S2.out⟩
        case measure => simp [intOf]; omega
    · have hje : j = n := by omega
      subst hje
      rw [powF_yes HO.out, ← HY.out] at HP
      have hp := HP.out
      cases hp
      go_wp2
      refine bodyPost_ret (v := .tuple #[.agg #[.int .i64 p, .int .i64 q, .int .i64 r, .int .i64 s], .int .i64 0]) ?_ rfl ⟨rfl, ?_⟩
      · simp [results, Try.results21, go_sem, *]
      · exact below_set4 HS.out.bel (by omega) _ _ _ _
set_option maxHeartbeats 3200000 in
set_option maxRecDepth 1000000 in
theorem power_neg (a b c d p q r s k : Int) (n : Nat) (w : World) (h : chkI a b c d = 0) (h0 : 1 ≤ n) (hn : n ≤ 1000) (hp : powF ⟨d, -b, -c, a⟩ n = (⟨p, q, r, s⟩, k)) :
    Calls Try.prog 21 #[.agg #[.int .i64 a, .int .i64 b, .int .i64 c, .int .i64 d], .int .i64 (-(n : Int))] w fun e w' => e = .returned (.tuple #[.agg #[.int .i64 p, .int .i64 q, .int .i64 r, .int .i64 s], .int .i64 k]) ∧ Below w.heap.size w w' := by
  have hi : invE ⟨a, b, c, d⟩ = (⟨d, -b, -c, a⟩, 0) := by unfold invE; exact if_pos h
  have HI := Lib.hid (fun W => inverse_any a b c d _ _ _ _ _ W hi)
  have HFB : Hid (fitB d (-b) (-c) a = true) := by
    have hf : fitB a b c d = true := by rcases chk_cases a b c d with ⟨_, h⟩ | ⟨h, _⟩ | ⟨h, _⟩ <;> first | exact h | omega
    exact M.ok_inv (m := ⟨a, b, c, d⟩) hf
  have HP := Lib.hid hp
  have hni : (n : Int) ≤ 1000 := by omega
  have hn0 : 1 ≤ (n : Int) := by omega
  have hneg : decide (0 < n) = true := decide_eq_true (by omega)
  have hd1 : decide (1000 < (n : Int)) = false := decide_eq_false (by omega)
  have hd2 : decide (1000 < -(n : Int)) = false := decide_eq_false (by omega)
  clear hi h hp hn h0
  go_enter Try.func21, Try.ntmps21
  go_wp2_with (first
    | (go_at_call 17; ((with_reducible refine (HI.out _).mono ?_); rintro e w1 ⟨rfl, hb⟩; have P0 := Lib.hid ((((Four.at w rfl a b c d)).alloc _).below hb); have R0 := Lib.hid ((Four.at (w.alloc _) (g := w.heap.size + 1) (by simp) 0 0 0 0).below hb); have HB1 : Hid (Below w.heap.size w w1) := bel2 (Below.refl _ _) hb; obtain ⟨x0, x1, x2, x3⟩ := P0.out.cells; have xf := P0.out.free; have xl := P0.out.lt; obtain ⟨y0, y1, y2, y3⟩ := R0.out.cells; have yf := R0.out.free; have yl := R0.out.lt; clear hb))
    | fail)
  have HPS : Hid (PS w.heap.size (w1.heap.size + 1) w ((((((w1.setCell ⟨w.heap.size, 0, none⟩ (.int .i64 d)).setCell ⟨w.heap.size, 1, none⟩ (.int .i64 (-b))).setCell ⟨w.heap.size, 2, none⟩ (.int .i64 (-c))).setCell ⟨w.heap.size, 3, none⟩ (.int .i64 a)).alloc (.cells #[.int .i64 d, .int .i64 (-b), .int .i64 (-c), .int .i64 a] 23)).alloc (.cells #[.int .i64 1, .int .i64 0, .int .i64 0, .int .i64 1] 23)) ⟨d, -b, -c, a⟩ .one) :=
    ⟨((P0.out.set _ _ _ _).alloc _).alloc _, ((R0.out.other (by omega) _ _ _ _).alloc _).alloc _, Four.at _ (by simp [World.setCell]) 1 0 0 1, ((below_set4 HB1.out (by omega) _ _ _ _).trans ((below2 _ _ _).mono (by simp [World.setCell]; exact HB1.out.size))), by omega⟩
  clear P0 R0 HI HB1 x0 x1 x2 x3 xf y0 y1 y2 y3 yf hneg hn0 hd1 hd2
  obtain ⟨g, hgg⟩ : ∃ g, g = w1.heap.size + 1 := ⟨_, rfl⟩
  rw [← hgg] at HPS ⊢
  clear hgg
  go_loopw [32] (fun I wr => ∃ (j : Nat) (y : M), I = .int .i64 j ∧ j ≤ n ∧ Hid (y = (M.mk (d) (-b) (-c) (a)).pow j) ∧ Hid ((M.mk (d) (-b) (-c) (a)).powOk j = true) ∧ Hid (PS w.heap.size g w wr ⟨d, -b, -c, a⟩ y)) (fun I _ => n - (intOf I).toNat)
  case atStart => exact ⟨0, .one, rfl, Nat.zero_le _, rfl, rfl, HPS.out⟩
  case round =>
    clear HPS
    obtain ⟨j, ⟨y1, y2, y3, y4⟩, rfl, hj, HY, HO, HS⟩ := hrel
    have hg2 := HS.out.hg
    obtain ⟨u0, u1, u2, u3⟩ := HS.out.base.cells
    obtain ⟨v0, v1, v2, v3⟩ := HS.out.pow.cells
    obtain ⟨z0, z1, z2, z3⟩ := HS.out.res.cells
    have ul := HS.out.base.lt
    have vl := HS.out.pow.lt
    have zl := HS.out.res.lt
    have vf := HS.out.pow.free
    have zf := HS.out.res.free
    dsimp only at u0 u1 u2 u3 v0 v1 v2 v3
    by_cases hlt : j < n
    · have hlt2 : (j : Int) < (n : Int) := by omega
      have hyo : fitB y1 y2 y3 y4 = true := by have := M.powOk_ok HO.out; rw [← HY.out] at this; exact this
      have HM := Lib.hid (fun W => product_yes y1 y2 y3 y4 d (-b) (-c) a W hyo HFB.out)
      have HNX : Hid ((M.mk y1 y2 y3 y4).mul ⟨d, -b, -c, a⟩ = (M.mk d (-b) (-c) a).pow (j + 1)) := by show _ = _; rw [HY.out]; rfl
      unfold M.mul at HNX
      dsimp only at HNX
      clear hyo
      obtain ⟨t1, ht1⟩ : ∃ t, t = y1 * d + y2 * (-c) := ⟨_, rfl⟩
      obtain ⟨t2, ht2⟩ : ∃ t, t = y1 * (-b) + y2 * (a) := ⟨_, rfl⟩
      obtain ⟨t3, ht3⟩ : ∃ t, t = y3 * d + y4 * (-c) := ⟨_, rfl⟩
      obtain ⟨t4, ht4⟩ : ∃ t, t = y3 * (-b) + y4 * (a) := ⟨_, rfl⟩
      rw [← ht1, ← ht2, ← ht3, ← ht4] at HM HNX
      clear ht1 ht2 ht3 ht4
      have HA := Lib.hid (fun W => areEntries_any t1 t2 t3 t4 W)
      cases ho : fitB t1 t2 t3 t4 with
      | false =>
        have HSTOP : Hid ((M.mk d (-b) (-c) a).powOk (j + 1) = false) := powOk_stop (by rw [← HNX.out]; exact ho)
        rw [powF_no HSTOP.out (show j + 1 ≤ n by omega)] at HP
        rw [ho] at HA
        clear ho
        have hp := HP.out
        unfold M.zero at hp
        cases hp
        go_wp2_with (first
          | (go_at_call 38; ((with_reducible refine (HM.out _).mono ?_); rintro e w3 ⟨rfl, hb⟩; have S1 := Lib.hid (HS.out.below hb); obtain ⟨u0, u1, u2, u3⟩ := S1.out.base.cells; obtain ⟨v0, v1, v2, v3⟩ := S1.out.pow.cells; have vf := S1.out.pow.free; clear hb))
          | (go_at_call 36; ((with_reducible refine (HA.out _).mono ?_); rintro e w4 ⟨rfl, hb⟩; have S2 := Lib.hid ((S1.out.set t1 t2 t3 t4).below hb); obtain ⟨z0, z1, z2, z3⟩ := S2.out.res.cells; have zf := S2.out.res.free; clear hb))
          | fail)
        refine bodyPost_ret (v := .tuple #[.agg #[.int .i64 0, .int .i64 0, .int .i64 0, .int .i64 0], .int .i64 7]) ?_ rfl ⟨rfl, ?_⟩
        · simp [results, Try.results21, go_sem, *]
        · exact below_set4 S2.out.bel (by omega) _ _ _ _
      | true =>
        have HGO : Hid ((M.mk d (-b) (-c) a).powOk (j + 1) = true) := powOk_next HO.out (by rw [← HNX.out]; exact ho)
        rw [ho] at HA
        clear ho
        go_wp2_with (first
          | (go_at_call 38; ((with_reducible refine (HM.out _).mono ?_); rintro e w3 ⟨rfl, hb⟩; have S1 := Lib.hid (HS.out.below hb); obtain ⟨u0, u1, u2, u3⟩ := S1.out.base.cells; obtain ⟨v0, v1, v2, v3⟩ := S1.out.pow.cells; have vf := S1.out.pow.free; clear hb))
          | (go_at_call 36; ((with_reducible refine (HA.out _).mono ?_); rintro e w4 ⟨rfl, hb⟩; have S2 := Lib.hid ((S1.out.set t1 t2 t3 t4).below hb); clear hb))
          | fail)
        go_roundw
        case rel => exact ⟨j + 1, ⟨t1, t2, t3, t4⟩, by go_num, hlt, HNX.out, HGO.out, S2.out⟩
        case measure => simp [intOf]; omega
    · have hje : j = n := by omega
      subst hje
      rw [powF_yes HO.out, ← HY.out] at HP
      have hp := HP.out
      cases hp
      go_wp2
      refine bodyPost_ret (v := .tuple #[.agg #[.int .i64 p, .int .i64 q, .int .i64 r, .int .i64 s], .int .i64 0]) ?_ rfl ⟨rfl, ?_⟩
      · simp [results, Try.results21, go_sem, *]
      · exact below_set4 HS.out.bel (by omega) _ _ _ _
theorem power_any (a b c d n p q r s k : Int) (w : World) (hp : powE ⟨a, b, c, d⟩ n = (⟨p, q, r, s⟩, k)) :
    Calls Try.prog 21 #[.agg #[.int .i64 a, .int .i64 b, .int .i64 c, .int .i64 d], .int .i64 n] w fun e w' => e = .returned (.tuple #[.agg #[.int .i64 p, .int .i64 q, .int .i64 r, .int .i64 s], .int .i64 k]) ∧ Below w.heap.size w w' := by
  by_cases h : chkI a b c d = 0
  · by_cases hn : n < -1000 ∨ 1000 < n
    · exact power_out a b c d n p q r s k w h hn hp
    · rcases Int.lt_or_le n 0 with h0 | h0
      · rw [powE_neg h h0 (by omega)] at hp
        obtain ⟨j, rfl⟩ : ∃ j : Nat, n = -(j : Int) := ⟨n.natAbs, by omega⟩
        rw [Int.natAbs_neg, Int.natAbs_natCast] at hp
        exact power_neg a b c d p q r s k j w h (by omega) (by omega) hp
      · rw [powE_pos h h0 (by omega)] at hp
        obtain ⟨j, rfl⟩ : ∃ j : Nat, n = (j : Int) := ⟨n.natAbs, by omega⟩
        rw [Int.natAbs_natCast] at hp
        exact power_pos a b c d p q r s k j w h (by omega) hp
  · exact power_bad a b c d n p q r s k w h hp
end Go.Proofs.Ytnccamhajndkjaa
