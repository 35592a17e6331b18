/- The contract of the code's Equal0. -/
import Derived.Test.YtfojlanjhdifoaaMtL
import Derived.Test.YtfojlanjhdifoaaAtkN
namespace Go.Proofs.Ytfojlanjhdifoaa
open Go.RowKit
set_option linter.unusedVariables false

/-- The witness of number k: the matrix of y, T^k, the inverse of the matrix of x. -/
def witM (A B C D A' B' C' D' k : Int) : M := ((M.mk A' B' C' D').mul ⟨1, k, 0, 1⟩).mul ⟨D, -B, -C, A⟩
inductive EqE (n p q p' q' : Int) : Bool → Int → Int → Int → Int → Int → Prop
  | err : ¬ ckI n p q p' q' = 0 → EqE n p q p' q' false 0 0 0 0 (ckI n p q p' q')
  | yes (A B C D A' B' C' D' k m1 m2 m3 m4 : Int) : ckI n p q p' q' = 0 → MatIs p q A B C D → MatIs p' q' A' B' C' D' → 0 ≤ k → k < n →
      (∀ j, 0 ≤ j → j < k → ¬ (witM A B C D A' B' C' D' j).c.tmod n = 0) → witM A B C D A' B' C' D' k = ⟨m1, m2, m3, m4⟩ → m3.tmod n = 0 → EqE n p q p' q' true m1 m2 m3 m4 0
  | no (A B C D A' B' C' D' : Int) : ckI n p q p' q' = 0 → MatIs p q A B C D → MatIs p' q' A' B' C' D' →
      (∀ j, 0 ≤ j → j < n → ¬ (witM A B C D A' B' C' D' j).c.tmod n = 0) → EqE n p q p' q' false 0 0 0 0 0
theorem ck_zero {n p q p' q' : Int} (h : ckI n p q p' q' = 0) : (1 ≤ n ∧ n ≤ 120) ∧ (cuspI p q = 0 ∧ -1000 ≤ p ∧ p ≤ 1000 ∧ q ≤ 1000) ∧ (cuspI p' q' = 0 ∧ -1000 ≤ p' ∧ p' ≤ 1000 ∧ q' ≤ 1000) := by
  have C : ∀ x y, ck1 x y = 0 → cuspI x y = 0 ∧ -1000 ≤ x ∧ x ≤ 1000 ∧ y ≤ 1000 := fun x y h0 => by
    rcases ck1_cases x y with ⟨h, e⟩ | ⟨h, h1, e⟩ | ⟨h, h1, h2, e⟩ | ⟨h, h1, h2, h3, e⟩ | ⟨h, h1, h2, h3, e⟩
    · rw [e] at h0; exact absurd h0 h
    · omega
    · omega
    · omega
    · exact ⟨h, h1, h2, h3⟩
  unfold ckI at h
  by_cases hl : n < 1 ∨ 120 < n
  · rw [lv_no hl, if_neg (by decide)] at h; exact absurd h (by decide)
  · rw [lv_yes (by omega) (by omega), if_pos rfl] at h
    by_cases h1 : ck1 p q = 0
    · rw [if_pos h1] at h; exact ⟨by omega, C _ _ h1, C _ _ h⟩
    · rw [if_neg h1] at h; exact absurd h h1
theorem mulb (a b x y : Int) (hx : 0 ≤ x) (a1 : -x ≤ a) (a2 : a ≤ x) (b1 : -y ≤ b) (b2 : b ≤ y) : -(x * y) ≤ a * b ∧ a * b ≤ x * y := by
  have := Int.natAbs_mul a b
  have h1 : a.natAbs ≤ x.natAbs := by omega
  have h2 : b.natAbs ≤ y.natAbs := by omega
  have h3 := Nat.mul_le_mul h1 h2
  have h4 := Int.natAbs_mul x y
  have h5 : 0 ≤ x * y := Int.mul_nonneg hx (by omega)
  omega
structure Bd (A B C D : Int) : Prop where
  a : -1001 ≤ A ∧ A ≤ 1001
  b : -1001 ≤ B ∧ B ≤ 1001
  c : -1001 ≤ C ∧ C ≤ 1001
  d : -1001 ≤ D ∧ D ≤ 1001
theorem wit_step {A B C D A' B' C' D' k : Int} (h : Bd A B C D) (h' : Bd A' B' C' D') (k0 : 0 ≤ k) (k2 : k ≤ 120) : ∃ s1 s2 s3 s4 m1 m2 m3 m4 : Int,
    mulE ⟨A', B', C', D'⟩ ⟨1, k, 0, 1⟩ = (⟨s1, s2, s3, s4⟩, 0) ∧ mulE ⟨s1, s2, s3, s4⟩ ⟨D, -B, -C, A⟩ = (⟨m1, m2, m3, m4⟩, 0) ∧ witM A B C D A' B' C' D' k = ⟨m1, m2, m3, m4⟩ := by
  obtain ⟨⟨a1, a2⟩, ⟨b1, b2⟩, ⟨c1, c2⟩, ⟨d1, d2⟩⟩ := h
  obtain ⟨⟨a1', a2'⟩, ⟨b1', b2'⟩, ⟨c1', c2'⟩, ⟨d1', d2'⟩⟩ := h'
  have f1 : (M.mk A' B' C' D').ok = true := show fitB A' B' C' D' = true from fitB_iff.2 (by omega)
  have f2 : (M.mk 1 k 0 1).ok = true := show fitB 1 k 0 1 = true from fitB_iff.2 (by omega)
  obtain ⟨p1, p2⟩ := mulb A' k 1001 120 (by omega) a1' a2' (by omega) k2
  obtain ⟨p3, p4⟩ := mulb C' k 1001 120 (by omega) c1' c2' (by omega) k2
  have f3 : ((M.mk A' B' C' D').mul ⟨1, k, 0, 1⟩).ok = true := by
    show fitB (A' * 1 + B' * 0) (A' * k + B' * 1) (C' * 1 + D' * 0) (C' * k + D' * 1) = true
    exact fitB_iff.2 (by omega)
  have hb : ∀ x, x = A' * 1 + B' * 0 ∨ x = A' * k + B' * 1 ∨ x = C' * 1 + D' * 0 ∨ x = C' * k + D' * 1 → -121121 ≤ x ∧ x ≤ 121121 := by omega
  obtain ⟨s1, e1⟩ : ∃ s, s = A' * 1 + B' * 0 := ⟨_, rfl⟩
  obtain ⟨s2, e2⟩ : ∃ s, s = A' * k + B' * 1 := ⟨_, rfl⟩
  obtain ⟨s3, e3⟩ : ∃ s, s = C' * 1 + D' * 0 := ⟨_, rfl⟩
  obtain ⟨s4, e4⟩ : ∃ s, s = C' * k + D' * 1 := ⟨_, rfl⟩
  have hs : (M.mk A' B' C' D').mul ⟨1, k, 0, 1⟩ = ⟨s1, s2, s3, s4⟩ := by rw [e1, e2, e3, e4]; rfl
  obtain ⟨u1, v1⟩ := hb s1 (.inl e1)
  obtain ⟨u2, v2⟩ := hb s2 (.inr (.inl e2))
  obtain ⟨u3, v3⟩ := hb s3 (.inr (.inr (.inl e3)))
  obtain ⟨u4, v4⟩ := hb s4 (.inr (.inr (.inr e4)))
  clear e1 e2 e3 e4 hb p1 p2 p3 p4
  have g1 : (M.mk s1 s2 s3 s4).ok = true := show fitB s1 s2 s3 s4 = true from fitB_iff.2 (by omega)
  have g2 : (M.mk D (-B) (-C) A).ok = true := show fitB D (-B) (-C) A = true from fitB_iff.2 (by omega)
  have g3 : ((M.mk s1 s2 s3 s4).mul ⟨D, -B, -C, A⟩).ok = true := by
    show fitB (s1 * D + s2 * -C) (s1 * -B + s2 * A) (s3 * D + s4 * -C) (s3 * -B + s4 * A) = true
    have := mulb s1 D 121121 1001 (by omega) u1 v1 d1 d2
    have := mulb s2 (-C) 121121 1001 (by omega) u2 v2 (by omega) (by omega)
    have := mulb s1 (-B) 121121 1001 (by omega) u1 v1 (by omega) (by omega)
    have := mulb s2 A 121121 1001 (by omega) u2 v2 a1 a2
    have := mulb s3 D 121121 1001 (by omega) u3 v3 d1 d2
    have := mulb s4 (-C) 121121 1001 (by omega) u4 v4 (by omega) (by omega)
    have := mulb s3 (-B) 121121 1001 (by omega) u3 v3 (by omega) (by omega)
    have := mulb s4 A 121121 1001 (by omega) u4 v4 a1 a2
    exact fitB_iff.2 (by omega)
  refine ⟨s1, s2, s3, s4, _, _, _, _, ?_, mulE_ok g1 g2 g3, ?_⟩
  · rw [mulE_ok f1 f2 f3, hs]
  · unfold witM; rw [hs]; rfl
theorem inv_det {A B C D : Int} (h : Bd A B C D) (hd : A * D - B * C = 1) : invE ⟨A, B, C, D⟩ = (⟨D, -B, -C, A⟩, 0) := by
  obtain ⟨⟨a1, a2⟩, ⟨b1, b2⟩, ⟨c1, c2⟩, ⟨d1, d2⟩⟩ := h
  have hf : fitB A B C D = true := fitB_iff.2 (by omega)
  rcases chk_cases A B C D with ⟨h, _⟩ | ⟨_, _, k⟩ | ⟨_, h1, _⟩
  · rw [hf] at h; cases h
  · exact if_pos k
  · exact absurd hd h1
theorem MatIs.bd {p q A B C D : Int} (h : MatIs p q A B C D) (q2 : q ≤ 1000) (p1 : -1000 ≤ p) (p2 : p ≤ 1000) : Bd A B C D ∧ A * D - B * C = 1 := by
  obtain ⟨h1, h2, h3, h4, h5⟩ := h.bounds q2 p1 p2
  exact ⟨⟨h1, h2, by omega, by omega⟩, h5⟩
/-- The world within the loop: the result's box, from, to. -/
structure EW (B : Nat) (w0 wr : World) (g1 g2 : Nat) (A B' C D E F G H : Int) : Prop where
  res : Four wr (B + 2) 0 0 0 0
  from_ : Four wr g1 A B' C D
  to_ : Four wr g2 E F G H
  bel : Below B w0 wr
theorem EW.step {B : Nat} {w0 wr w' : World} {g1 g2 : Nat} {A B' C D E F G H : Int} (h : EW B w0 wr g1 g2 A B' C D E F G H) (hB : B ≤ wr.heap.size) (hb : Below wr.heap.size wr w') : EW B w0 w' g1 g2 A B' C D E F G H :=
  ⟨h.res.below hb, h.from_.below hb, h.to_.below hb, h.bel.trans (hb.mono hB)⟩
def EqRet (n p q p' q' : Int) (w : World) (e : Ending) (w' : World) : Prop :=
  ∃ t m1 m2 m3 m4 k, EqE n p q p' q' t m1 m2 m3 m4 k ∧ e = .returned (.tuple #[.bool t, .agg #[.int .i64 m1, .int .i64 m2, .int .i64 m3, .int .i64 m4], .int .i64 k]) ∧ Below w.heap.size w w'
theorem EW.alloc {B : Nat} {w0 wr : World} {g1 g2 : Nat} {A B' C D E F G H : Int} (h : EW B w0 wr g1 g2 A B' C D E F G H) (o : Obj) : EW B w0 (wr.alloc o) g1 g2 A B' C D E F G H :=
  h.step (by have := h.res.lt; omega) (below1 _ _)
set_option maxHeartbeats 6400000 in
set_option maxRecDepth 1000000 in
theorem equal0_any (n p q p' q' : Int) (w : World) : Calls Try.prog 10 #[.int .i64 n, .agg #[.int .i64 p, .int .i64 q], .agg #[.int .i64 p', .int .i64 q']] w (EqRet n p q p' q' w) := by
  by_cases hK : ckI n p q p' q' = 0
  case neg =>
    have HE : Hid (EqE n p q p' q' false 0 0 0 0 (ckI n p q p' q')) := .err hK
    have HC : Hid (∀ (W : World) (A : Option Addr) (B : Nat), RdC W B A 2 [(p, q), (p', q')] → B ≤ W.heap.size → Calls Try.prog 15 #[.int .i64 n, .slice A 2 2] W fun e w' => e = .returned (.int .i64 (ckI n p q p' q')) ∧ Below W.heap.size W w') := fun W A B h hB => check2_any n p q p' q' W h hB
    generalize ckI n p q p' q' = z at *
    go_enter Try.func10, Try.ntmps10
    go_wp2_with (first
      | (go_at_call 15; ((with_reducible refine (HC.out _ _ _ (rdc2 _ p q p' q' _ (by simp)) (by simp)).mono ?_); rintro e w1 ⟨rfl, hb⟩; have T3 : Hid (Four w1 (w.heap.size + 2) 0 0 0 0) := ((Four.at ((w.alloc _).alloc _) (by simp) 0 0 0 0).alloc _).below hb; have HB1 : Hid (Below w.heap.size w w1) := (below4 w _ _ _ _).trans (hb.mono (by simp; omega)); have hz1 : w.heap.size + 2 < w1.heap.size := T3.out.lt; have f1 := T3.out.free; have hc := T3.out.cells; obtain ⟨c1, c2, c3, c4⟩ := hc; clear hb))
      | fail)
    have HZ := T3.out.set 0 0 0 0
    have hc := HZ.cells
    obtain ⟨d1, d2, d3, d4⟩ := hc
    refine bodyPost_ret (v := .tuple #[.bool false, .agg #[.int .i64 0, .int .i64 0, .int .i64 0, .int .i64 0], .int .i64 z]) ?_ rfl ⟨_, _, _, _, _, _, HE.out, rfl, ?_⟩
    · simp [results, Try.results10, go_sem, d1, d2, d3, d4]
    · exact below_set4 HB1.out (by omega) _ _ _ _
  obtain ⟨⟨n1, n2⟩, ⟨g1, b1, b2, b3⟩, ⟨g2, b4, b5, b6⟩⟩ := ck_zero hK
  have HC : Hid (∀ (W : World) (A : Option Addr) (B : Nat), RdC W B A 2 [(p, q), (p', q')] → B ≤ W.heap.size → Calls Try.prog 15 #[.int .i64 n, .slice A 2 2] W fun e w' => e = .returned (.int .i64 0) ∧ Below W.heap.size W w') := fun W A B h hB => by have := check2_any n p q p' q' W h hB; rwa [hK] at this
  have HM1 := Lib.hid (fun W => matrix_any p q W g1 b1 b2 b3)
  have HM2 := Lib.hid (fun W => matrix_any p' q' W g2 b4 b5 b6)
  have HB0 := Lib.hid (And.intro (And.intro b1 (And.intro b2 b3)) (And.intro b4 (And.intro b5 b6)))
  have HK := Lib.hid hK
  clear hK g1 g2 b1 b2 b3 b4 b5 b6
  go_enter Try.func10, Try.ntmps10
  go_upto_region 6 with (first
    | (go_at_call 15; ((with_reducible refine (HC.out _ _ _ (rdc2 _ p q p' q' _ (by simp)) (by simp)).mono ?_); rintro e w1 ⟨rfl, hb⟩; have T1 : Hid (Two w1 w.heap.size p q) := ((((Two.at w rfl p q).alloc _).alloc _).alloc _).below hb; have T2 : Hid (Two w1 (w.heap.size + 1) p' q') := (((Two.at (w.alloc _) (by simp) p' q').alloc _).alloc _).below hb; have T3 : Hid (Four w1 (w.heap.size + 2) 0 0 0 0) := ((Four.at ((w.alloc _).alloc _) (by simp) 0 0 0 0).alloc _).below hb; have HB1 : Hid (Below w.heap.size w w1) := (below4 w _ _ _ _).trans (hb.mono (by simp; omega)); have hz1 : w.heap.size + 2 < w1.heap.size := T3.out.lt; have c1 := T1.out.cells.1; have c2 := T1.out.cells.2; clear hb HC))
    | (go_at_call 25; ((with_reducible refine (HM1.out _).mono ?_); rintro e w2 ⟨A, B, C, D, hA, rfl, hb⟩; have HA := Lib.hid hA; have HI := Lib.hid (fun W => inverse_any A B C D D (-B) (-C) A 0 W (inv_det (hA.bd HB0.out.1.2.2 HB0.out.1.1 HB0.out.1.2.1).1 (hA.bd HB0.out.1.2.2 HB0.out.1.1 HB0.out.1.2.1).2)); have HB2 : Hid (Below w.heap.size w w2) := bel0 HB1.out hb; have U2 : Hid (Two w2 (w.heap.size + 1) p' q') := T2.out.below hb; have U3 : Hid (Four w2 (w.heap.size + 2) 0 0 0 0) := T3.out.below hb; clear hb hA T2 T3 T1 c1 c2 HM1))
    | (go_at_call 24; ((with_reducible refine (HI.out _).mono ?_); rintro e w3 ⟨rfl, hb⟩; have HB3 : Hid (Below w.heap.size w w3) := bel0 HB2.out hb; have V2 : Hid (Two w3 (w.heap.size + 1) p' q') := U2.out.below hb; have V3 : Hid (Four w3 (w.heap.size + 2) 0 0 0 0) := U3.out.below hb; have hz3 : w.heap.size + 2 < w3.heap.size := V3.out.lt; have hz3' : w.heap.size + 1 < w3.heap.size := V2.out.lt; have c1 := V2.out.cells.1; have c2 := V2.out.cells.2; clear hb U2 U3 HI))
    | (go_at_call 25; ((with_reducible refine (HM2.out _).mono ?_); rintro e w4 ⟨E, F, G, H, hA2, rfl, hb⟩; have HA2 := Lib.hid hA2; have HB4 : Hid (Below w.heap.size w w4) := bel1 HB3.out hb; have W1 : Hid (Four w4 w3.heap.size D (-B) (-C) A) := (Four.at w3 rfl D (-B) (-C) A).below hb; have W3 : Hid (Four w4 (w.heap.size + 2) 0 0 0 0) := (V3.out.alloc _).below hb; have hz4 : w.heap.size + 2 < w4.heap.size := W3.out.lt; clear hb hA2 V2 V3 c1 c2 HM2))
    | fail)
  have HBD1 := Lib.hid (HA.out.bd HB0.out.1.2.2 HB0.out.1.1 HB0.out.1.2.1).1
  have HBD2 := Lib.hid (HA2.out.bd HB0.out.2.2.2 HB0.out.2.1 HB0.out.2.2.1).1
  have HEW : Hid (EW w.heap.size w (w4.alloc (.cells #[.int .i64 E, .int .i64 F, .int .i64 G, .int .i64 H] 39)) w3.heap.size w4.heap.size D (-B) (-C) A E F G H) := ⟨W3.out.alloc _, W1.out.alloc _, Four.at w4 rfl E F G H, HB4.out.alloc (by omega) _⟩
  obtain ⟨W0, hW0⟩ : ∃ W0, W0 = w4.alloc (.cells #[.int .i64 E, .int .i64 F, .int .i64 G, .int .i64 H] 39) := ⟨_, rfl⟩
  rw [← hW0] at HEW ⊢
  clear hW0 W1 W3 HB4 HB3 HB2 HB1
  obtain ⟨g1, hg1⟩ : ∃ g, g = w3.heap.size := ⟨_, rfl⟩
  obtain ⟨g2, hg2⟩ : ∃ g, g = w4.heap.size := ⟨_, rfl⟩
  rw [← hg1] at HEW hz3 hz3' ⊢
  rw [← hg2] at HEW hz4 ⊢
  clear hg1 hg2
  have d1 : decide (1 ≤ n) = true := by simp; omega
  go_wp2
  go_loopw [13, 14, 15, 16, 17, 36] (fun _ _ _ _ _ K wr => ∃ k : Int, K = .int .i64 k ∧ 0 ≤ k ∧ k ≤ n ∧ Hid (∀ j, 0 ≤ j → j < k → ¬ (witM A B C D E F G H j).c.tmod n = 0) ∧ Hid (EW w.heap.size w wr g1 g2 D (-B) (-C) A E F G H)) (fun _ _ _ _ _ K _ => (n - intOf K).toNat)
  case atStart => exact ⟨0, rfl, by omega, by omega, fun j h1 h2 => by omega, HEW.out⟩
  case round =>
    obtain ⟨k, rfl, k0, kn, HNO, HW⟩ := hrel
    clear HEW
    by_cases hkn : k < n
    · obtain ⟨s1, s2, s3, s4, m1, m2, m3, m4, e1, e2, e3⟩ := wit_step HBD1.out HBD2.out k0 (by omega)
      have HMu1 := Lib.hid (fun W => mul_any E F G H 1 k 0 1 s1 s2 s3 s4 0 W e1)
      have HMu2 := Lib.hid (fun W => mul_any s1 s2 s3 s4 D (-B) (-C) A m1 m2 m3 m4 0 W e2)
      have HE3 := Lib.hid e3
      clear e1 e2 e3
      have hc := HW.out.to_.cells
      obtain ⟨c1, c2, c3, c4⟩ := hc
      have hzz := HW.out.res.lt
      go_upto_region 11 with (first
        | (go_at_call 26; ((with_reducible refine (HMu1.out _).mono ?_); rintro e w5 ⟨rfl, hb⟩; have X5 := Lib.hid ((HW.out.step (by omega) hb).alloc (.cells #[.int .i64 s1, .int .i64 s2, .int .i64 s3, .int .i64 s4] 39)); have hz5 : g1 < w5.heap.size := (HW.out.step (by omega) hb).from_.lt; have hc := (HW.out.step (by omega) hb).from_.cells; clear c1 c2 c3 c4 hb; obtain ⟨c1, c2, c3, c4⟩ := hc))
        | (go_at_call 26; ((with_reducible refine (HMu2.out _).mono ?_); rintro e w6 ⟨rfl, hb⟩; have X6 := Lib.hid (X5.out.step (by have := X5.out.res.lt; omega) hb); clear c1 c2 c3 c4 hb; have hc := X6.out.res.cells; obtain ⟨c1, c2, c3, c4⟩ := hc; have f6 := X6.out.res.free; have hz6 : w.heap.size + 2 < w6.heap.size := X6.out.res.lt))
        | fail)
      by_cases hm : m3.tmod n = 0
      · have HR : Hid (EqE n p q p' q' true m1 m2 m3 m4 0) := .yes A B C D E F G H k m1 m2 m3 m4 HK.out HA.out HA2.out k0 hkn HNO.out HE3.out hm
        go_upto_region 12 with fail
        go_region
        go_wp2
        have HZ : Four (((((w6.setCell ⟨w.heap.size + 1 + 1, 0, none⟩ (.int .i64 m1)).setCell ⟨w.heap.size + 1 + 1, 1, none⟩ (.int .i64 m2)).setCell ⟨w.heap.size + 1 + 1, 2, none⟩ (.int .i64 m3)).setCell ⟨w.heap.size + 1 + 1, 3, none⟩ (.int .i64 m4)).alloc (.cells #[.int .i64 m1, .int .i64 m2, .int .i64 m3, .int .i64 m4] 39)).drew (w.heap.size + 1 + 1) m1 m2 m3 m4 := ((X6.out.res.set m1 m2 m3 m4).alloc _).drew
        have hc := HZ.cells
        obtain ⟨d1, d2, d3, d4⟩ := hc
        refine bodyPost_ret (v := .tuple #[.bool true, .agg #[.int .i64 m1, .int .i64 m2, .int .i64 m3, .int .i64 m4], .int .i64 0]) ?_ rfl ⟨_, _, _, _, _, _, HR.out, rfl, ?_⟩
        · simp [results, Try.results10, go_sem, d1, d2, d3, d4]
        · exact ((below_set4 X6.out.bel (by omega) _ _ _ _).alloc (by simp; omega) _).drew
      · have HN2 : Hid (∀ j, 0 ≤ j → j < k + 1 → ¬ (witM A B C D E F G H j).c.tmod n = 0) := fun j j0 j1 => by
          by_cases e : j = k
          · rw [e, HE3.out]; exact hm
          · exact HNO.out j j0 (by omega)
        go_wp2
        go_roundw
        case rel => exact ⟨k + 1, by go_num, by omega, by omega, HN2.out, X6.out.alloc _⟩
        case measure => simp [intOf]; omega
    · obtain rfl : k = n := by omega
      have HR : Hid (EqE k p q p' q' false 0 0 0 0 0) := .no A B C D E F G H HK.out HA.out HA2.out HNO.out
      have hc := HW.out.res.cells
      obtain ⟨c1, c2, c3, c4⟩ := hc
      have f6 := HW.out.res.free
      go_wp2
      have HZ := HW.out.res.set 0 0 0 0
      have hc := HZ.cells
      obtain ⟨d1, d2, d3, d4⟩ := hc
      refine bodyPost_ret (v := .tuple #[.bool false, .agg #[.int .i64 0, .int .i64 0, .int .i64 0, .int .i64 0], .int .i64 0]) ?_ rfl ⟨_, _, _, _, _, _, HR.out, rfl, ?_⟩
      · simp [results, Try.results10, go_sem, d1, d2, d3, d4]
      · exact below_set4 HW.out.bel (by omega) _ _ _ _
end Go.Proofs.Ytfojlanjhdifoaa
