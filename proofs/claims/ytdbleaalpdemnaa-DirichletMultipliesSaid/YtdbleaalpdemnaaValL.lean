/- dirichlet.Value, Even, Conductor of a character. -/
import Derived.Test.YtdbleaalpdemnaaExtL
namespace Go.Proofs.Ytdbleaalpdemnaa
open Go.RowKit
set_option linter.unusedVariables false
set_option linter.unusedSimpArgs false

/-- The value exp(2 pi i k/m), or 0 if k is -1. -/
def rouV (k : Int) (m : Nat) : Value := if k = -1 then .agg #[.bool true, .int .i64 0, .int .i64 0] else .agg #[.bool false, .int .i64 ((k.toNat / Nat.gcd k.toNat m : Nat) : Int), .int .i64 ((m / Nat.gcd k.toNat m : Nat) : Int)]
theorem three_setV {w : World} {g : Nat} {a b c : Value} {t : TypeId} (h : w.heap[g]? = some (.cells #[a, b, c] t (0, 0))) (u0 u1 u2 : Value) : (((w.setCell ⟨g, 0, none⟩ u0).setCell ⟨g, 1, none⟩ u1).setCell ⟨g, 2, none⟩ u2).heap[g]? = some (.cells #[u0, u1, u2] t (0, 0)) :=
  heap_setCell_same _ g 2 #[u0, u1, c] t u2 (heap_setCell_same _ g 1 #[u0, b, c] t u1 (heap_setCell_same _ g 0 #[a, b, c] t u0 h))
set_option maxHeartbeats 3200000 in
set_option maxRecDepth 1000000 in
theorem dval_any (n : Nat) (E : List Int) (a : Int) (A : Option Addr) (c : Nat) (w : World) (n1 : 1 ≤ n) (n2 : (n : Int) ≤ 60) (hE : RdZ w w.heap.size A c E) (hck : ckX n E = 0) (a1 : -1073741824 ≤ a) (a2 : a ≤ 1073741824) :
    Calls Try.prog 31 #[.agg #[.int .i64 (n : Int), .slice A E.length c], .int .i64 a] w fun e w' => e = .returned (.tuple #[rouV ((tbV n E).getD (a % (n : Int)).toNat 0) (tbM (gensV n)), .int .i64 0]) ∧ Below w.heap.size w w' := by
  have HCk := Lib.hid (fun (W : World) (h : RdZ W W.heap.size A c E) => dck_any n E A c W n1 n2 h)
  rw [hck] at HCk
  have HTb := Lib.hid (fun (W : World) (h : RdZ W W.heap.size A c E) => tabr_any n E A c W n1 n2 h hck)
  have hM := (tbc_le n1 (show n ≤ 60 by omega)).2 (gensV n).length (Nat.le_refl _)
  rw [List.take_length] at hM
  have HAt := Lib.hid (fun (T : List Int) (m : Int) (A1 : Option Addr) (c1 j : Nat) (x : Int) (W : World) h1 h2 h3 h4 => at_any T m a A1 c1 j x W h1 h2 a1 a2 h3 h4)
  have X0 : Hid (((w.alloc (.cells #[.int .i64 (n : Int), .slice A E.length c] 33)).alloc (.cells #[.bool false, .int .i64 0, .int .i64 0] 48)).heap[w.heap.size]? = some (.cells #[.int .i64 (n : Int), .slice A E.length c] 33 (0, 0))) := block_alloc (heap_alloc_new w _) _
  have R0 : Hid (((w.alloc (.cells #[.int .i64 (n : Int), .slice A E.length c] 33)).alloc (.cells #[.bool false, .int .i64 0, .int .i64 0] 48)).heap[w.heap.size + 1]? = some (.cells #[.bool false, .int .i64 0, .int .i64 0] 48 (0, 0))) := by
    have := heap_alloc_new (w.alloc (.cells #[.int .i64 (n : Int), .slice A E.length c] 33)) (.cells #[.bool false, .int .i64 0, .int .i64 0] 48)
    show _ = _; simpa using this
  have B0 : Hid (Below w.heap.size w ((w.alloc (.cells #[.int .i64 (n : Int), .slice A E.length c] 33)).alloc (.cells #[.bool false, .int .i64 0, .int .i64 0] 48))) := below2 w _ _
  have HE0 : Hid (∀ W, Below w.heap.size w W → RdZ W W.heap.size A c E) := fun W hW => (hE.below hW).mono hW.size
  obtain ⟨x0, x1, _⟩ := cells_two X0.out
  have hj0 : a % (n : Int) = (((a % (n : Int)).toNat : Nat) : Int) := by have := Int.emod_nonneg a (show (n : Int) ≠ 0 by omega); omega
  have hj1 : (a % (n : Int)).toNat < n := by have h1 := Int.emod_lt_of_pos a (show 0 < (n : Int) by omega); have := Int.emod_nonneg a (show (n : Int) ≠ 0 by omega); omega
  have hi1 : ¬ a < -1073741824 := by omega
  have hi2 : ¬ 1073741824 < a := by omega
  clear hE hck
  generalize tbV n E = T at *
  generalize tbM (gensV n) = m at *
  generalize (a % (n : Int)).toNat = j at *
  have HJ0 := Lib.hid hj0
  clear hj0
  generalize hk0 : T.getD j 0 = k
  have HKs := Lib.hid hk0
  clear hk0
  generalize hV0 : rouV k m = V
  have HV0 := Lib.hid hV0
  clear hV0
  go_enter Try.func31, Try.ntmps31
  go_upto_region 6 with (first
    | (go_at_call 24; ((with_reducible refine (HCk.out _ (HE0.out _ B0.out)).mono ?_); rintro e w1 ⟨rfl, hb⟩; have X1 := Lib.hid (block_below X0.out hb); have R1 := Lib.hid (block_below R0.out hb); have B1 := Lib.hid (B0.out.trans (hb.mono B0.out.size)); obtain ⟨y0, y1, _⟩ := cells_two X1.out; clear hb x0 x1))
    | fail)
  go_upto_region 7 with (first
    | (go_at_call 53; ((with_reducible refine (HTb.out _ (HE0.out _ B1.out)).mono ?_); rintro e w3 ⟨lb, rfl, hr, hl, hbd, hb⟩; have HR := Lib.hid hr; have HL := Lib.hid hl; have HBd := Lib.hid hbd; have R3 := Lib.hid (block_below R1.out hb); have B3 := Lib.hid (B1.out.trans (hb.mono B1.out.size)); clear hb hr hl hbd y0 y1))
    | (go_at_call 58; ((with_reducible refine (HAt.out T m _ _ j k _ HR.out (by rw [HL.out]; omega) (by rw [HL.out]; exact HJ0.out) (by rw [← HKs.out]; exact getD_some T j (by rw [HL.out]; exact hj1))).mono ?_); rintro e w4 ⟨rfl, hb⟩; have B4 := Lib.hid (B3.out.trans (hb.mono B3.out.size)); have R4 := Lib.hid (block_below R3.out hb); clear hb))
    | fail)
  have hkb := HBd.out j
  rw [HKs.out] at hkb
  clear HKs
  obtain ⟨⟨r0, r1, r2⟩, rf⟩ := three_of_blockD R4.out
  by_cases hk : k = -1
  · have hk2 : (k == -1) = true := by rw [beq_iff_eq]; exact hk
    have HV : Hid (V = .agg #[.bool true, .int .i64 0, .int .i64 0]) := by show _ = _; rw [← HV0.out]; unfold rouV; rw [if_pos hk]
    have R5 := Lib.hid (three_setV R4.out (.bool true) (.int .i64 0) (.int .i64 0))
    obtain ⟨⟨s0, s1, s2⟩, sf⟩ := three_of_blockD R5.out
    have HB5 := Lib.hid (((B4.out.setCell (p := ⟨w.heap.size + 1, 0, none⟩) (by show w.heap.size ≤ w.heap.size + 1; omega) (.bool true)).setCell (p := ⟨w.heap.size + 1, 1, none⟩) (by show w.heap.size ≤ w.heap.size + 1; omega) (.int .i64 0)).setCell (p := ⟨w.heap.size + 1, 2, none⟩) (by show w.heap.size ≤ w.heap.size + 1; omega) (.int .i64 0))
    clear hk
    go_wp2
    refine bodyPost_ret (v := .tuple #[.agg #[.bool true, .int .i64 0, .int .i64 0], .int .i64 0]) ?_ rfl ⟨by rw [HV.out], HB5.out⟩
    simp [results, Try.results31, go_sem, s0, s1, s2]
  · have hk2 : (k == -1) = false := by rw [beq_eq_false_iff_ne]; exact hk
    obtain ⟨kn, rfl⟩ : ∃ kn : Nat, k = (kn : Int) := ⟨k.toNat, by omega⟩
    have HV : Hid (V = .agg #[.bool false, .int .i64 ((kn / Nat.gcd kn m : Nat) : Int), .int .i64 ((m / Nat.gcd kn m : Nat) : Int)]) := by show _ = _; rw [← HV0.out]; unfold rouV; rw [if_neg hk]; rfl
    have HG := Lib.hid (fun W => gcd_any (kn : Int) (m : Int) W (by unfold Mid; omega) (by unfold Mid; omega))
    have hgi : Int.gcd (kn : Int) (m : Int) = Nat.gcd kn m := by simp [Int.gcd]
    rw [hgi] at HG
    have hg1 : 1 ≤ Nat.gcd kn m := Nat.gcd_pos_of_pos_right kn hM.1
    have hg2 : Nat.gcd kn m ≤ m := Nat.gcd_le_right kn hM.1
    clear hgi
    generalize Nat.gcd kn m = g at *
    have g0 : ((g : Int) == 0) = false := by rw [beq_eq_false_iff_ne]; omega
    have g0' : ¬ ((g : Int) = 0) := by omega
    have g0'' : ¬ (g = 0) := by omega
    have hq1 : kn / g ≤ kn := Nat.div_le_self _ _
    have hq2 : m / g ≤ m := Nat.div_le_self _ _
    have ht1 : Int.tdiv (kn : Int) (g : Int) = ((kn / g : Nat) : Int) := (Int.ofNat_tdiv _ _).symm
    have hd1 : (kn : Int) / (g : Int) = ((kn / g : Nat) : Int) := (Int.natCast_ediv _ _).symm
    have ht2 : Int.tdiv (m : Int) (g : Int) = ((m / g : Nat) : Int) := (Int.ofNat_tdiv _ _).symm
    have hd2 : (m : Int) / (g : Int) = ((m / g : Nat) : Int) := (Int.natCast_ediv _ _).symm
    generalize kn / g = q1 at *
    generalize m / g = q2 at *
    have hw1 : IntKind.i64.wrap (q1 : Int) = (q1 : Int) := IntWalk.i64_in _ (by omega)
    have hw2 : IntKind.i64.wrap (q2 : Int) = (q2 : Int) := IntWalk.i64_in _ (by omega)
    clear HV0
    go_upto_region 10 with (first
      | (go_at_call 52; ((with_reducible refine (HG.out _).mono ?_); rintro e w5 ⟨rfl, nn, rfl⟩))
      | fail)
    have R5 : Hid ((w4.drewN nn).heap[w.heap.size + 1]? = some (.cells #[.bool false, .int .i64 0, .int .i64 0] 48 (0, 0))) := R4.out
    have B5 : Hid (Below w.heap.size w (w4.drewN nn)) := below_drewN B4.out nn
    generalize w4.drewN nn = w5 at *
    clear r0 r1 r2 rf
    obtain ⟨⟨r0, r1, r2⟩, rf⟩ := three_of_blockD R5.out
    go_region
    have R6 : Hid (((((w5.setCell ⟨w.heap.size + 1, 0, none⟩ (.bool false)).setCell ⟨w.heap.size + 1, 1, none⟩ (.int .i64 (q1 : Int))).setCell ⟨w.heap.size + 1, 2, none⟩ (.int .i64 (q2 : Int))).drew).heap[w.heap.size + 1]? = some (.cells #[.bool false, .int .i64 (q1 : Int), .int .i64 (q2 : Int)] 48 (0, 0))) := three_setV R5.out (.bool false) (.int .i64 (q1 : Int)) (.int .i64 (q2 : Int))
    obtain ⟨⟨s0, s1, s2⟩, sf⟩ := three_of_blockD R6.out
    have HB6 := Lib.hid ((((B5.out.setCell (p := ⟨w.heap.size + 1, 0, none⟩) (by show w.heap.size ≤ w.heap.size + 1; omega) (.bool false)).setCell (p := ⟨w.heap.size + 1, 1, none⟩) (by show w.heap.size ≤ w.heap.size + 1; omega) (.int .i64 (q1 : Int))).setCell (p := ⟨w.heap.size + 1, 2, none⟩) (by show w.heap.size ≤ w.heap.size + 1; omega) (.int .i64 (q2 : Int))).drew)
    go_wp2
    refine bodyPost_ret (v := .tuple #[.agg #[.bool false, .int .i64 (q1 : Int), .int .i64 (q2 : Int)], .int .i64 0]) ?_ rfl ⟨by rw [HV.out], ?_⟩
    · simp [results, Try.results31, go_sem, s0, s1, s2]
    · exact HB6.out
/-- Numerator and denominator. -/
def rouN (k : Int) (m : Nat) : Int := if k = -1 then 0 else ((k.toNat / Nat.gcd k.toNat m : Nat) : Int)
def rouD (k : Int) (m : Nat) : Int := if k = -1 then 0 else ((m / Nat.gcd k.toNat m : Nat) : Int)
theorem rou_eq (k : Int) (m : Nat) : rouV k m = .agg #[.bool (decide (k = -1)), .int .i64 (rouN k m), .int .i64 (rouD k m)] := by
  unfold rouV rouN rouD
  by_cases h : k = -1
  · rw [if_pos h, if_pos h, if_pos h, decide_eq_true h]
  · rw [if_neg h, if_neg h, if_neg h, decide_eq_false h]
set_option maxHeartbeats 1600000 in
set_option maxRecDepth 1000000 in
theorem deven_any (n : Nat) (E : List Int) (A : Option Addr) (c : Nat) (w : World) (n1 : 1 ≤ n) (n2 : (n : Int) ≤ 60) (hE : RdZ w w.heap.size A c E) (hck : ckX n E = 0) :
    Calls Try.prog 22 #[.agg #[.int .i64 (n : Int), .slice A E.length c]] w fun e w' => e = .returned (.tuple #[.bool (decide (rouN ((tbV n E).getD (-1 % (n : Int)).toNat 0) (tbM (gensV n)) = 0)), .int .i64 0]) ∧ Below w.heap.size w w' := by
  have X0 : Hid ((w.alloc (.cells #[.int .i64 (n : Int), .slice A E.length c] 33)).heap[w.heap.size]? = some (.cells #[.int .i64 (n : Int), .slice A E.length c] 33 (0, 0))) := heap_alloc_new w _
  have B0 : Hid (Below w.heap.size w (w.alloc (.cells #[.int .i64 (n : Int), .slice A E.length c] 33))) := below1 w _
  obtain ⟨x0, x1, _⟩ := cells_two X0.out
  have HVa := Lib.hid (dval_any n E (-1) A c (w.alloc (.cells #[.int .i64 (n : Int), .slice A E.length c] 33)) n1 n2 ((hE.below B0.out).mono B0.out.size) hck (by omega) (by omega))
  rw [rou_eq] at HVa
  clear hE hck
  generalize (tbV n E).getD (-1 % (n : Int)).toNat 0 = k at *
  generalize tbM (gensV n) = m at *
  generalize rouN k m = x at *
  generalize rouD k m = y at *
  generalize decide (k = -1) = z at *
  go_enter Try.func22, Try.ntmps22
  go_upto_region 2 with (first
    | (go_at_call 31; ((with_reducible refine HVa.out.mono ?_); rintro e w1 ⟨rfl, hb⟩; have B1 := Lib.hid (B0.out.trans (hb.mono B0.out.size)); clear hb x0 x1))
    | fail)
  have V1 : Hid ((w1.alloc (.cells #[.bool z, .int .i64 x, .int .i64 y] 48)).heap[w1.heap.size]? = some (.cells #[.bool z, .int .i64 x, .int .i64 y] 48 (0, 0))) := heap_alloc_new w1 _
  have B2 : Hid (Below w.heap.size w (w1.alloc (.cells #[.bool z, .int .i64 x, .int .i64 y] 48))) := B1.out.alloc B1.out.size _
  obtain ⟨⟨s0, s1, s2⟩, sf⟩ := three_of_blockD V1.out
  by_cases hx : x = 0
  · have hx2 : (x == 0) = true := by rw [beq_iff_eq]; exact hx
    have HD := Lib.hid (decide_eq_true hx)
    clear hx
    go_wp2
    exact bodyPost_ret (results_tmp2 rfl _ _ _) rfl ⟨by rw [HD.out]; first | rfl | (rw [hx2]; rfl), B2.out⟩
  · have hx2 : (x == 0) = false := by rw [beq_eq_false_iff_ne]; exact hx
    have HD := Lib.hid (decide_eq_false hx)
    clear hx
    go_wp2
    exact bodyPost_ret (results_tmp2 rfl _ _ _) rfl ⟨by rw [HD.out]; first | rfl | (rw [hx2]; rfl), B2.out⟩
set_option maxHeartbeats 1600000 in
set_option maxRecDepth 1000000 in
theorem dcond_any (n C : Nat) (E : List Int) (A : Option Addr) (c : Nat) (w : World) (n1 : 1 ≤ n) (n2 : (n : Int) ≤ 60) (hE : RdZ w w.heap.size A c E) (hck : ckX n E = 0) (C1 : 1 ≤ C) (C2 : (C : Int) ≤ 60) (hC : pdV (tbV n E) C = true) (hl : ∀ f, 1 ≤ f → f < C → pdV (tbV n E) f = false) :
    Calls Try.prog 21 #[.agg #[.int .i64 (n : Int), .slice A E.length c]] w fun e w' => e = .returned (.tuple #[.int .i64 (C : Int), .int .i64 0]) ∧ Below w.heap.size w w' := by
  have HCk := Lib.hid (fun (W : World) (h : RdZ W W.heap.size A c E) => dck_any n E A c W n1 n2 h)
  rw [hck] at HCk
  have HTb := Lib.hid (fun (W : World) (h : RdZ W W.heap.size A c E) => tabr_any n E A c W n1 n2 h hck)
  have X0 : Hid ((w.alloc (.cells #[.int .i64 (n : Int), .slice A E.length c] 33)).heap[w.heap.size]? = some (.cells #[.int .i64 (n : Int), .slice A E.length c] 33 (0, 0))) := heap_alloc_new w _
  have B0 : Hid (Below w.heap.size w (w.alloc (.cells #[.int .i64 (n : Int), .slice A E.length c] 33))) := below1 w _
  have HE0 : Hid (∀ W, Below w.heap.size w W → RdZ W W.heap.size A c E) := fun W hW => (hE.below hW).mono hW.size
  obtain ⟨x0, x1, _⟩ := cells_two X0.out
  have HCd := Lib.hid (fun (m : Int) (A1 : Option Addr) (c1 : Nat) (W : World) h1 h2 h3 => tcond_any (tbV n E) m C A1 c1 W h1 h2 h3 C1 C2 hC hl)
  clear hE hck hC hl
  generalize tbV n E = T at *
  generalize tbM (gensV n) = m at *
  go_enter Try.func21, Try.ntmps21
  go_wp2_with (first
    | (go_at_call 24; ((with_reducible refine (HCk.out _ (HE0.out _ B0.out)).mono ?_); rintro e w1 ⟨rfl, hb⟩; have X1 := Lib.hid (block_below X0.out hb); have B1 := Lib.hid (B0.out.trans (hb.mono B0.out.size)); obtain ⟨y0, y1, _⟩ := cells_two X1.out; clear hb x0 x1))
    | (go_at_call 53; ((with_reducible refine (HTb.out _ (HE0.out _ B1.out)).mono ?_); rintro e w3 ⟨lb, rfl, hr, hl, hbd, hb⟩; have HR := Lib.hid hr; have HL := Lib.hid hl; have B3 := Lib.hid (B1.out.trans (hb.mono B1.out.size)); clear hb hr hl hbd))
    | (go_at_call 54; ((with_reducible refine (HCd.out m _ _ _ HR.out (by rw [HL.out]; exact n1) (by rw [HL.out]; omega)).mono ?_); rintro e w4 ⟨rfl, hb⟩; have B4 := Lib.hid (B3.out.trans (hb.mono B3.out.size)); clear hb))
    | fail)
  exact bodyPost_ret (results_tmp2 rfl _ _ _) rfl ⟨rfl, B4.out⟩
end Go.Proofs.Ytdbleaalpdemnaa
