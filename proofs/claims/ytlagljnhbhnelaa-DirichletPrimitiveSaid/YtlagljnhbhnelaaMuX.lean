/- Which error Check returns, for every modulus. DirichletMultiplies: a character is multiplicative, and periodic. -/
import Derived.Test.YtlagljnhbhnelaaTabXb
import Derived.Test.YtlagljnhbhnelaaRtX
import Derived.Test.YtlagljnhbhnelaaOrdX
namespace Go.Proofs.Ytlagljnhbhnelaa
open Go.RowKit
set_option linter.unusedVariables false

/-- The error of a character. -/
def chkV (n : Int) (E : List Int) : Int := if 1 ≤ n ∧ n ≤ 60 then ckX n.toNat E else 2
theorem dckv_any (n : Int) (E : List Int) (A : Option Addr) (c : Nat) (w : World) (hE : RdZ w w.heap.size A c E) :
    Calls Try.prog 24 #[.agg #[.int .i64 n, .slice A E.length c]] w fun e w' => e = .returned (.int .i64 (chkV n E)) ∧ Below w.heap.size w w' := by
  unfold chkV
  by_cases h : 1 ≤ n ∧ n ≤ 60
  · rw [if_pos h]
    obtain ⟨m, rfl⟩ : ∃ m : Nat, n = (m : Int) := ⟨n.toNat, by omega⟩
    rw [Int.toNat_natCast]
    exact dck_any m E A c w (by omega) h.2 hE
  · rw [if_neg h]
    exact dck_range n _ w h
end Go.Proofs.Ytlagljnhbhnelaa
namespace Go.Proofs.Ytlagljnhbhnelaa
open Go.RowKit
set_option linter.unusedVariables false
set_option linter.unusedSimpArgs false

set_option maxHeartbeats 1600000 in
set_option maxRecDepth 1000000 in
theorem dval_bad (n : Int) (E : List Int) (a : Int) (A : Option Addr) (c : Nat) (w : World) (hE : RdZ w w.heap.size A c E) (h : chkV n E ≠ 0) :
    Calls Try.prog 31 #[.agg #[.int .i64 n, .slice A E.length c], .int .i64 a] w fun e w' => e = .returned (.tuple #[.agg #[.bool false, .int .i64 0, .int .i64 0], .int .i64 (chkV n E)]) ∧ Below w.heap.size w w' := by
  have X0 : Hid (((w.alloc (.cells #[.int .i64 n, .slice A E.length c] 33)).alloc (.cells #[.bool false, .int .i64 0, .int .i64 0] 48)).heap[w.heap.size]? = some (.cells #[.int .i64 n, .slice A E.length c] 33 (0, 0))) := block_alloc (heap_alloc_new w _) _
  have R0 : Hid (((w.alloc (.cells #[.int .i64 n, .slice A E.length c] 33)).alloc (.cells #[.bool false, .int .i64 0, .int .i64 0] 48)).heap[w.heap.size + 1]? = some (.cells #[.bool false, .int .i64 0, .int .i64 0] 48 (0, 0))) := by
    have := heap_alloc_new (w.alloc (.cells #[.int .i64 n, .slice A E.length c] 33)) (.cells #[.bool false, .int .i64 0, .int .i64 0] 48)
    show _ = _; simpa using this
  have B0 : Hid (Below w.heap.size w ((w.alloc (.cells #[.int .i64 n, .slice A E.length c] 33)).alloc (.cells #[.bool false, .int .i64 0, .int .i64 0] 48))) := below2 w _ _
  have HCk := Lib.hid (dckv_any n E A c ((w.alloc (.cells #[.int .i64 n, .slice A E.length c] 33)).alloc (.cells #[.bool false, .int .i64 0, .int .i64 0] 48)) ((hE.below B0.out).mono B0.out.size))
  obtain ⟨x0, x1, _⟩ := cells_two X0.out
  have hk : (chkV n E != 0) = true := by rw [bne_iff_ne]; exact h
  clear h hE
  generalize chkV n E = K at *
  go_enter Try.func31, Try.ntmps31
  go_wp2_with (first
    | (go_at_call 24; ((with_reducible refine HCk.out.mono ?_); rintro e w1 ⟨rfl, hb⟩; have R1 := Lib.hid (block_below R0.out hb); have B1 := Lib.hid (B0.out.trans (hb.mono B0.out.size)); clear hb x0 x1; obtain ⟨⟨r0, r1, r2⟩, rf⟩ := three_of_blockD R1.out))
    | fail)
  have R6 := Lib.hid (three_setV R1.out (.bool false) (.int .i64 0) (.int .i64 0))
  obtain ⟨⟨s0, s1, s2⟩, sf⟩ := three_of_blockD R6.out
  have HB6 := Lib.hid (((B1.out.setCell (p := ⟨w.heap.size + 1, 0, none⟩) (by show _ ≤ w.heap.size + 1; omega) (.bool false)).setCell (p := ⟨w.heap.size + 1, 1, none⟩) (by show _ ≤ w.heap.size + 1; omega) (.int .i64 0)).setCell (p := ⟨w.heap.size + 1, 2, none⟩) (by show _ ≤ w.heap.size + 1; omega) (.int .i64 0))
  refine bodyPost_ret (v := .tuple #[.agg #[.bool false, .int .i64 0, .int .i64 0], .int .i64 K]) ?_ rfl ⟨rfl, HB6.out⟩
  simp [results, Try.results31, go_sem, s0, s1, s2]
set_option maxHeartbeats 6400000 in
set_option maxRecDepth 1000000 in
theorem dmu_walk (n : Int) (E : List Int) (a0 b0 k0 : Int) (A : Option Addr) (c : Nat) (w : World) (hE : RdZ w w.heap.size A c E) (ha : -32768 ≤ a0 ∧ a0 ≤ 32767) (hb : -32768 ≤ b0 ∧ b0 ≤ 32767) (hk : -128 ≤ k0 ∧ k0 ≤ 127) :
    Calls Try.prog 7 #[.agg #[.int .i64 n, .slice A E.length c], .agg #[.int .i16 a0, .int .i16 b0], .int .i8 k0] w fun e w' => e = .returned (.bool true) ∧ Below w.heap.size w w' := by
  have HA := Lib.hid awake28_any
  have hln := hE.len
  have X0 : Hid (((w.alloc (.cells #[.int .i64 n, .slice A E.length c] 33)).alloc (.cells #[.int .i16 a0, .int .i16 b0] 54)).heap[w.heap.size]? = some (.cells #[.int .i64 n, .slice A E.length c] 33 (0, 0))) := block_alloc (heap_alloc_new w _) _
  have B0 : Hid (Below w.heap.size w ((w.alloc (.cells #[.int .i64 n, .slice A E.length c] 33)).alloc (.cells #[.int .i16 a0, .int .i16 b0] 54))) := below2 w _ _
  have HE0 : Hid (∀ W, Below w.heap.size w W → RdZ W W.heap.size A c E) := fun W hW => (hE.below hW).mono hW.size
  obtain ⟨x0, x1, _⟩ := cells_two X0.out
  by_cases hl : 100 < E.length
  · have hli : 100 < (E.length : Int) := by omega
    clear hE
    go_enter Try.func7, Try.ntmps7
    go_wp2_with (first
      | (go_at_call 13; ((with_reducible refine (HA.out _).mono ?_); rintro e v1 ⟨rfl, hb⟩; have B1 := Lib.hid (B0.out.trans (hb.mono B0.out.size)); clear hb))
      | fail)
    go_ret
    exact ⟨rfl, B1.out⟩
  · have hli : ¬ 100 < (E.length : Int) := by omega
    have Y0 : Hid (((w.alloc (.cells #[.int .i64 n, .slice A E.length c] 33)).alloc (.cells #[.int .i16 a0, .int .i16 b0] 54)).heap[w.heap.size + 1]? = some (.cells #[.int .i16 a0, .int .i16 b0] 54 (0, 0))) := by
      have := heap_alloc_new (w.alloc (.cells #[.int .i64 n, .slice A E.length c] 33)) (.cells #[.int .i16 a0, .int .i16 b0] 54)
      show _ = _; simpa using this
    have ta1 := Int.tmod_lt_of_pos a0 (show (0 : Int) < 1000 by omega)
    have ta2 := Int.lt_tmod_of_pos a0 (show (0 : Int) < 1000 by omega)
    have tb1 := Int.tmod_lt_of_pos b0 (show (0 : Int) < 1000 by omega)
    have tb2 := Int.lt_tmod_of_pos b0 (show (0 : Int) < 1000 by omega)
    generalize hta : Int.tmod a0 1000 = a at *
    generalize htb : Int.tmod b0 1000 = b at *
    have wa0 : IntKind.i64.wrap a0 = a0 := IntWalk.i64_in _ (by omega)
    have wb0 : IntKind.i64.wrap b0 = b0 := IntWalk.i64_in _ (by omega)
    have wa : IntKind.i64.wrap a = a := IntWalk.i64_in _ (by omega)
    have wb : IntKind.i64.wrap b = b := IntWalk.i64_in _ (by omega)
    obtain ⟨ha1, ha2⟩ := ha
    obtain ⟨hb1, hb2⟩ := hb
    obtain ⟨hk1, hk2⟩ := hk
    by_cases hc : chkV n E = 0
    · have hn : 1 ≤ n ∧ n ≤ 60 := by
        unfold chkV at hc
        by_cases h : 1 ≤ n ∧ n ≤ 60
        · exact h
        · rw [if_neg h] at hc; cases hc
      obtain ⟨N, rfl⟩ : ∃ N : Nat, n = (N : Int) := ⟨n.toNat, by omega⟩
      have hck : ckX N E = 0 := by
        unfold chkV at hc
        rw [if_pos hn, Int.toNat_natCast] at hc; exact hc
      have hct := cht_of (show 1 ≤ N by omega) (show N ≤ 60 by omega) (ck_ok hck).1
      have hm := (tbc_le (show 1 ≤ N by omega) (show N ≤ 60 by omega)).2 (gensV N).length (Nat.le_refl _)
      rw [List.take_length] at hm
      have HV := Lib.hid (fun (x : Int) (h1 : -1073741824 ≤ x) (h2 : x ≤ 1073741824) (W : World) (hW : RdZ W W.heap.size A c E) => dval_any N E x A c W (by omega) hn.2 hW hck h1 h2)
      have hpr := hct.prod (show 1 ≤ N by omega) a b
      have hsh : (tbV N E).getD ((a + k0 * (N : Int)) % (N : Int)).toNat 0 = (tbV N E).getD (a % (N : Int)).toNat 0 := by rw [mod_shift]
      have hba := hct.bd (show 1 ≤ N by omega) a
      have hbb := hct.bd (show 1 ≤ N by omega) b
      generalize tbM (gensV N) = m at *
      have hab1 : -998001 ≤ a * b ∧ a * b ≤ 998001 := by
        have h1 : (a * b).natAbs ≤ 999 * 999 := by rw [Int.natAbs_mul]; exact Nat.mul_le_mul (by omega) (by omega)
        omega
      have hkn1 : -7680 ≤ k0 * (N : Int) ∧ k0 * (N : Int) ≤ 7680 := by
        have h1 : (k0 * (N : Int)).natAbs ≤ 128 * 60 := by rw [Int.natAbs_mul]; exact Nat.mul_le_mul (by omega) (by omega)
        omega
      have HVa := Lib.hid (HV.out a (by omega) (by omega))
      have HVb := Lib.hid (HV.out b (by omega) (by omega))
      have HVc := Lib.hid (HV.out (a * b) (by omega) (by omega))
      have HVd := Lib.hid (HV.out (a + k0 * (N : Int)) (by omega) (by omega))
      rw [hpr] at HVc
      rw [hsh] at HVd
      clear hpr hsh HV hct hck hc
      generalize (tbV N E).getD (a % (N : Int)).toNat 0 = ka at *
      generalize (tbV N E).getD (b % (N : Int)).toNat 0 = kb at *
      have HT := Lib.hid (fun W => times_any ka kb m W hm.1 hm.2 hba.1 hba.2 hbb.1 hbb.2)
      generalize lgM ka kb m = kc at *
      rw [rou_eq ka, rou_eq kb, rou_eq kc] at HT
      rw [rou_eq] at HVa HVb HVc HVd
      clear hba hbb hm
      generalize decide (ka = -1) = za at *
      generalize decide (kb = -1) = zb at *
      generalize decide (kc = -1) = zc at *
      generalize rouN ka m = xa at *
      generalize rouN kb m = xb at *
      generalize rouN kc m = xc at *
      generalize rouD ka m = ya at *
      generalize rouD kb m = yb at *
      generalize rouD kc m = yc at *
      generalize hab : a * b = ab at *
      generalize hkn : k0 * (N : Int) = kn at *
      have wab : IntKind.i64.wrap ab = ab := IntWalk.i64_in _ (by omega)
      have wk0 : IntKind.i64.wrap k0 = k0 := IntWalk.i64_in _ (by omega)
      have wkn : IntKind.i64.wrap kn = kn := IntWalk.i64_in _ (by omega)
      have wsn : IntKind.i64.wrap (a + kn) = a + kn := IntWalk.i64_in _ (by omega)
      generalize hsn : a + kn = sn at *
      clear hE
      go_enter Try.func7, Try.ntmps7
      go_upto_region 5 with (first
        | (go_at_call 13; ((with_reducible refine (HA.out _).mono ?_); rintro e v1 ⟨rfl, hb⟩; have B1 := Lib.hid (B0.out.trans (hb.mono B0.out.size)); have X1 := Lib.hid (block_below X0.out hb); have Y1 := Lib.hid (block_below Y0.out hb); clear x0 x1 hb))
        | fail)
      obtain ⟨y0, y1, _⟩ := cells_two Y1.out
      go_region
      have X2 : Hid (v1.drew.heap[w.heap.size]? = some (.cells #[.int .i64 (N : Int), .slice A E.length c] 33 (0, 0))) := X1.out
      have B2 := Lib.hid B1.out.drew
      clear y0 y1
      generalize v1.drew = v2 at *
      obtain ⟨x0, x1, _⟩ := cells_two X2.out
      go_upto_region 7 with (first
        | (go_at_call 31; ((with_reducible refine (HVa.out _ (HE0.out _ B2.out)).mono ?_); rintro e v3 ⟨rfl, hb⟩; have B3 := Lib.hid (B2.out.trans (hb.mono B2.out.size)); have X3 := Lib.hid (block_below X2.out hb); clear x0 x1 hb))
        | fail)
      have U4 : Hid ((v3.alloc (.cells #[.bool za, .int .i64 xa, .int .i64 ya] 48)).heap[v3.heap.size]? = some (.cells #[.bool za, .int .i64 xa, .int .i64 ya] 48 (0, 0))) := heap_alloc_new v3 _
      have B4 : Hid (Below w.heap.size w (v3.alloc (.cells #[.bool za, .int .i64 xa, .int .i64 ya] 48))) := B3.out.alloc B3.out.size _
      have X4 := Lib.hid (block_alloc X3.out (.cells #[.bool za, .int .i64 xa, .int .i64 ya] 48))
      generalize v3.alloc (.cells #[.bool za, .int .i64 xa, .int .i64 ya] 48) = v4 at *
      generalize v3.heap.size = ub at *
      obtain ⟨x0, x1, _⟩ := cells_two X4.out
      go_upto_region 8 with (first
        | (go_at_call 31; ((with_reducible refine (HVb.out _ (HE0.out _ B4.out)).mono ?_); rintro e v5 ⟨rfl, hb⟩; have B5 := Lib.hid (B4.out.trans (hb.mono B4.out.size)); have X5 := Lib.hid (block_below X4.out hb); have U5 := Lib.hid (block_below U4.out hb); clear x0 x1 hb))
        | fail)
      have V6 : Hid ((v5.alloc (.cells #[.bool zb, .int .i64 xb, .int .i64 yb] 48)).heap[v5.heap.size]? = some (.cells #[.bool zb, .int .i64 xb, .int .i64 yb] 48 (0, 0))) := heap_alloc_new v5 _
      have B6 : Hid (Below w.heap.size w (v5.alloc (.cells #[.bool zb, .int .i64 xb, .int .i64 yb] 48))) := B5.out.alloc B5.out.size _
      have X6 := Lib.hid (block_alloc X5.out (.cells #[.bool zb, .int .i64 xb, .int .i64 yb] 48))
      have U6 := Lib.hid (block_alloc U5.out (.cells #[.bool zb, .int .i64 xb, .int .i64 yb] 48))
      generalize v5.alloc (.cells #[.bool zb, .int .i64 xb, .int .i64 yb] 48) = v6 at *
      generalize v5.heap.size = vb at *
      obtain ⟨x0, x1, _⟩ := cells_two X6.out
      go_upto_region 11 with (first
        | (go_at_call 31; ((with_reducible refine (HVc.out _ (HE0.out _ B6.out)).mono ?_); rintro e v7 ⟨rfl, hb⟩; have B7 := Lib.hid (B6.out.trans (hb.mono B6.out.size)); have X7 := Lib.hid (block_below X6.out hb); have U7 := Lib.hid (block_below U6.out hb); have V7 := Lib.hid (block_below V6.out hb); clear x0 x1 hb))
        | fail)
      have C8 : Hid ((v7.alloc (.cells #[.bool zc, .int .i64 xc, .int .i64 yc] 48)).heap[v7.heap.size]? = some (.cells #[.bool zc, .int .i64 xc, .int .i64 yc] 48 (0, 0))) := heap_alloc_new v7 _
      have B8 : Hid (Below w.heap.size w (v7.alloc (.cells #[.bool zc, .int .i64 xc, .int .i64 yc] 48))) := B7.out.alloc B7.out.size _
      have X8 := Lib.hid (block_alloc X7.out (.cells #[.bool zc, .int .i64 xc, .int .i64 yc] 48))
      have U8 := Lib.hid (block_alloc U7.out (.cells #[.bool zc, .int .i64 xc, .int .i64 yc] 48))
      have V8 := Lib.hid (block_alloc V7.out (.cells #[.bool zc, .int .i64 xc, .int .i64 yc] 48))
      generalize v7.alloc (.cells #[.bool zc, .int .i64 xc, .int .i64 yc] 48) = v8 at *
      generalize v7.heap.size = cb at *
      obtain ⟨x0, x1, _⟩ := cells_two X8.out
      go_upto_region 12 with (first
        | (go_at_call 31; ((with_reducible refine (HVd.out _ (HE0.out _ B8.out)).mono ?_); rintro e v9 ⟨rfl, hb⟩; have B9 := Lib.hid (B8.out.trans (hb.mono B8.out.size)); have U9 := Lib.hid (block_below U8.out hb); have V9 := Lib.hid (block_below V8.out hb); have C9 := Lib.hid (block_below C8.out hb); clear x0 x1 hb))
        | fail)
      have W10 : Hid ((v9.alloc (.cells #[.bool za, .int .i64 xa, .int .i64 ya] 48)).heap[v9.heap.size]? = some (.cells #[.bool za, .int .i64 xa, .int .i64 ya] 48 (0, 0))) := heap_alloc_new v9 _
      have B10 : Hid (Below w.heap.size w (v9.alloc (.cells #[.bool za, .int .i64 xa, .int .i64 ya] 48))) := B9.out.alloc B9.out.size _
      have U10 := Lib.hid (block_alloc U9.out (.cells #[.bool za, .int .i64 xa, .int .i64 ya] 48))
      have V10 := Lib.hid (block_alloc V9.out (.cells #[.bool za, .int .i64 xa, .int .i64 ya] 48))
      have C10 := Lib.hid (block_alloc C9.out (.cells #[.bool za, .int .i64 xa, .int .i64 ya] 48))
      generalize v9.alloc (.cells #[.bool za, .int .i64 xa, .int .i64 ya] 48) = v10 at *
      generalize v9.heap.size = db at *
      have HKc : Hid (∀ W, Below v10.heap.size v10 W → (W.cell? ⟨cb, 0, none⟩ = some (.bool zc) ∧ W.cell? ⟨cb, 1, none⟩ = some (.int .i64 xc) ∧ W.cell? ⟨cb, 2, none⟩ = some (.int .i64 yc)) ∧ (W.cell? ⟨ub, 0, none⟩ = some (.bool za) ∧ W.cell? ⟨ub, 1, none⟩ = some (.int .i64 xa) ∧ W.cell? ⟨ub, 2, none⟩ = some (.int .i64 ya)) ∧ (W.cell? ⟨vb, 0, none⟩ = some (.bool zb) ∧ W.cell? ⟨vb, 1, none⟩ = some (.int .i64 xb) ∧ W.cell? ⟨vb, 2, none⟩ = some (.int .i64 yb)) ∧ (W.cell? ⟨db, 0, none⟩ = some (.bool za) ∧ W.cell? ⟨db, 1, none⟩ = some (.int .i64 xa) ∧ W.cell? ⟨db, 2, none⟩ = some (.int .i64 ya))) := fun W hW =>
        ⟨(three_of_blockD (block_below C10.out hW)).1, (three_of_blockD (block_below U10.out hW)).1, (three_of_blockD (block_below V10.out hW)).1, (three_of_blockD (block_below W10.out hW)).1⟩
      have D10 : Hid (Below v10.heap.size v10 v10.drew) := Below.drew (Below.refl _ _)
      go_region_held3 (fun W => (W.cell? ⟨cb, 0, none⟩ = some (.bool zc) ∧ W.cell? ⟨cb, 1, none⟩ = some (.int .i64 xc) ∧ W.cell? ⟨cb, 2, none⟩ = some (.int .i64 yc)) ∧ (W.cell? ⟨ub, 0, none⟩ = some (.bool za) ∧ W.cell? ⟨ub, 1, none⟩ = some (.int .i64 xa) ∧ W.cell? ⟨ub, 2, none⟩ = some (.int .i64 ya)) ∧ (W.cell? ⟨vb, 0, none⟩ = some (.bool zb) ∧ W.cell? ⟨vb, 1, none⟩ = some (.int .i64 xb) ∧ W.cell? ⟨vb, 2, none⟩ = some (.int .i64 yb)) ∧ (W.cell? ⟨db, 0, none⟩ = some (.bool za) ∧ W.cell? ⟨db, 1, none⟩ = some (.int .i64 xa) ∧ W.cell? ⟨db, 2, none⟩ = some (.int .i64 ya)))
        (with_reducible first | exact HKc.out _ D11.out | exact HKc.out _ D10.out | fail)
        (first
          | (go_at_call 34; ((with_reducible refine (HT.out _).mono ?_); rintro e v11 ⟨rfl, hb⟩; have D11 := Lib.hid (D10.out.trans (hb.mono D10.out.size)); clear hb))
          | fail)
      have HBf := Lib.hid (B10.out.trans (D11.out.mono B10.out.size))
      go_wp2
      go_ret
      exact ⟨by first | rfl | simp, HBf.out⟩
    · have HV := Lib.hid (fun (x : Int) (W : World) (hW : RdZ W W.heap.size A c E) => dval_bad n E x A c W hW hc)
      have hk0 : (chkV n E != 0) = true := by rw [bne_iff_ne]; exact hc
      clear hc hE
      generalize chkV n E = K at *
      go_enter Try.func7, Try.ntmps7
      go_upto_region 5 with (first
        | (go_at_call 13; ((with_reducible refine (HA.out _).mono ?_); rintro e v1 ⟨rfl, hb⟩; have B1 := Lib.hid (B0.out.trans (hb.mono B0.out.size)); have X1 := Lib.hid (block_below X0.out hb); have Y1 := Lib.hid (block_below Y0.out hb); clear x0 x1 hb))
        | fail)
      obtain ⟨y0, y1, _⟩ := cells_two Y1.out
      go_region
      have X2 : Hid (v1.drew.heap[w.heap.size]? = some (.cells #[.int .i64 n, .slice A E.length c] 33 (0, 0))) := X1.out
      have B2 := Lib.hid B1.out.drew
      clear y0 y1
      generalize v1.drew = v2 at *
      obtain ⟨x0, x1, _⟩ := cells_two X2.out
      go_upto_region 7 with (first
        | (go_at_call 31; ((with_reducible refine (HV.out _ _ (HE0.out _ B2.out)).mono ?_); rintro e v3 ⟨rfl, hb⟩; have B3 := Lib.hid (B2.out.trans (hb.mono B2.out.size)); have X3 := Lib.hid (block_below X2.out hb); clear x0 x1 hb))
        | fail)
      have B4 : Hid (Below w.heap.size w (v3.alloc (.cells #[.bool false, .int .i64 0, .int .i64 0] 48))) := B3.out.alloc B3.out.size _
      have X4 := Lib.hid (block_alloc X3.out (.cells #[.bool false, .int .i64 0, .int .i64 0] 48))
      generalize v3.alloc (.cells #[.bool false, .int .i64 0, .int .i64 0] 48) = v4 at *
      obtain ⟨x0, x1, _⟩ := cells_two X4.out
      go_wp2_with (first
        | (go_at_call 31; ((with_reducible refine (HV.out _ _ (HE0.out _ B4.out)).mono ?_); rintro e v5 ⟨rfl, hb⟩; have B5 := Lib.hid (B4.out.trans (hb.mono B4.out.size)); clear x0 x1 hb))
        | fail)
      go_ret
      exact ⟨by first | rfl | simp, B5.out.alloc B5.out.size _⟩
theorem dmu_law (n : Int) (E : List Int) (a0 b0 k0 : Int) (w : World) {A : Option Addr} {c : Nat} (hE : RdZ w w.heap.size A c E) (_ : A = none → c = 0) (ha : -32768 ≤ a0 ∧ a0 ≤ 32767) (hb : -32768 ≤ b0 ∧ b0 ≤ 32767) (hk : (Lit.int .i8 k0).wf = true) :
    Calls Try.prog 7 #[.agg #[.int .i64 n, .slice A E.length c], .agg #[.int .i16 a0, .int .i16 b0], .int .i8 k0] w fun e w' => e = .returned (.bool true) ∧ Below w.heap.size w w' :=
  dmu_walk n E a0 b0 k0 A c w hE ha hb (by
    simp [Lit.wf, IntKind.min, IntKind.max, IntKind.bits, IntKind.signed] at hk
    omega)
end Go.Proofs.Ytlagljnhbhnelaa
