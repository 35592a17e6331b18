/- DirichletValues: the value of a character is that of the reference, or the error is. -/
import Derived.Test.YtlagljnhbhnelaaVrX
import Derived.Test.YtlagljnhbhnelaaMuX
import Derived.Test.YtlagljnhbhnelaaEntL
namespace Go.Proofs.Ytlagljnhbhnelaa
open Go.RowKit
set_option linter.unusedVariables false
set_option linter.unusedSimpArgs false

theorem chkV_ok {n : Int} {E : List Int} (h : chkV n E = 0) : ∃ N : Nat, n = (N : Int) ∧ 1 ≤ N ∧ (N : Int) ≤ 60 ∧ ckX N E = 0 := by
  unfold chkV at h
  by_cases h1 : 1 ≤ n ∧ n ≤ 60
  · rw [if_pos h1] at h
    exact ⟨n.toNat, by omega, by omega, by omega, h⟩
  · rw [if_neg h1] at h; cases h
set_option maxHeartbeats 1600000 in
set_option maxRecDepth 1000000 in
theorem dval_far (n : Nat) (E : List Int) (a : Int) (A : Option Addr) (c : Nat) (w : World) (hE : RdZ w w.heap.size A c E) (h : chkV (n : Int) E = 0) (ha : a < -1073741824 ∨ 1073741824 < a) :
    Calls Try.prog 31 #[.agg #[.int .i64 (n : Int), .slice A E.length c], .int .i64 a] w fun e w' => e = .returned (.tuple #[.agg #[.bool false, .int .i64 0, .int .i64 0], .int .i64 2]) ∧ Below w.heap.size w w' := by
  have X0 : Hid (((w.alloc (.cells #[.int .i64 (n : Int), .slice A E.length c] 33)).alloc (.cells #[.bool false, .int .i64 0, .int .i64 0] 48)).heap[w.heap.size]? = some (.cells #[.int .i64 (n : Int), .slice A E.length c] 33 (0, 0))) := block_alloc (heap_alloc_new w _) _
  have R0 : Hid (((w.alloc (.cells #[.int .i64 (n : Int), .slice A E.length c] 33)).alloc (.cells #[.bool false, .int .i64 0, .int .i64 0] 48)).heap[w.heap.size + 1]? = some (.cells #[.bool false, .int .i64 0, .int .i64 0] 48 (0, 0))) := by
    have := heap_alloc_new (w.alloc (.cells #[.int .i64 (n : Int), .slice A E.length c] 33)) (.cells #[.bool false, .int .i64 0, .int .i64 0] 48)
    show _ = _; simpa using this
  have B0 : Hid (Below w.heap.size w ((w.alloc (.cells #[.int .i64 (n : Int), .slice A E.length c] 33)).alloc (.cells #[.bool false, .int .i64 0, .int .i64 0] 48))) := below2 w _ _
  have HCk := Lib.hid (dckv_any (n : Int) E A c ((w.alloc (.cells #[.int .i64 (n : Int), .slice A E.length c] 33)).alloc (.cells #[.bool false, .int .i64 0, .int .i64 0] 48)) ((hE.below B0.out).mono B0.out.size))
  rw [h] at HCk
  obtain ⟨x0, x1, _⟩ := cells_two X0.out
  clear h hE
  rcases ha with ha | ha
  · go_enter Try.func31, Try.ntmps31
    go_wp2_with (first
      | (go_at_call 24; ((with_reducible refine HCk.out.mono ?_); rintro e w1 ⟨rfl, hb⟩; have R1 := Lib.hid (block_below R0.out hb); have B1 := Lib.hid (B0.out.trans (hb.mono B0.out.size)); clear hb x0 x1; obtain ⟨⟨r0, r1, r2⟩, rf⟩ := three_of_blockD R1.out))
      | fail)
    have R6 := Lib.hid (three_setV R1.out (.bool false) (.int .i64 0) (.int .i64 0))
    obtain ⟨⟨s0, s1, s2⟩, sf⟩ := three_of_blockD R6.out
    have HB6 := Lib.hid (((B1.out.setCell (p := ⟨w.heap.size + 1, 0, none⟩) (by show _ ≤ w.heap.size + 1; omega) (.bool false)).setCell (p := ⟨w.heap.size + 1, 1, none⟩) (by show _ ≤ w.heap.size + 1; omega) (.int .i64 0)).setCell (p := ⟨w.heap.size + 1, 2, none⟩) (by show _ ≤ w.heap.size + 1; omega) (.int .i64 0))
    refine bodyPost_ret (v := .tuple #[.agg #[.bool false, .int .i64 0, .int .i64 0], .int .i64 2]) ?_ rfl ⟨rfl, HB6.out⟩
    simp [results, Try.results31, go_sem, s0, s1, s2]
  · have ha2 : ¬ a < -1073741824 := by omega
    go_enter Try.func31, Try.ntmps31
    go_wp2_with (first
      | (go_at_call 24; ((with_reducible refine HCk.out.mono ?_); rintro e w1 ⟨rfl, hb⟩; have R1 := Lib.hid (block_below R0.out hb); have B1 := Lib.hid (B0.out.trans (hb.mono B0.out.size)); clear hb x0 x1; obtain ⟨⟨r0, r1, r2⟩, rf⟩ := three_of_blockD R1.out))
      | fail)
    have R6 := Lib.hid (three_setV R1.out (.bool false) (.int .i64 0) (.int .i64 0))
    obtain ⟨⟨s0, s1, s2⟩, sf⟩ := three_of_blockD R6.out
    have HB6 := Lib.hid (((B1.out.setCell (p := ⟨w.heap.size + 1, 0, none⟩) (by show _ ≤ w.heap.size + 1; omega) (.bool false)).setCell (p := ⟨w.heap.size + 1, 1, none⟩) (by show _ ≤ w.heap.size + 1; omega) (.int .i64 0)).setCell (p := ⟨w.heap.size + 1, 2, none⟩) (by show _ ≤ w.heap.size + 1; omega) (.int .i64 0))
    refine bodyPost_ret (v := .tuple #[.agg #[.bool false, .int .i64 0, .int .i64 0], .int .i64 2]) ?_ rfl ⟨rfl, HB6.out⟩
    simp [results, Try.results31, go_sem, s0, s1, s2]
set_option maxHeartbeats 6400000 in
set_option maxRecDepth 1000000 in
theorem dvl_walk (n : Int) (E : List Int) (a : Int) (w : World) {A : Option Addr} {c : Nat} (hE : RdZ w w.heap.size A c E) (_ : A = none → c = 0) :
    Calls Try.prog 6 #[.agg #[.int .i64 n, .slice A E.length c], .int .i64 a] w fun e w' => e = .returned (.bool true) ∧ Below w.heap.size w w' := by
  have HA := Lib.hid awake28_any
  have hln := hE.len
  have X0 : Hid ((w.alloc (.cells #[.int .i64 n, .slice A E.length c] 33)).heap[w.heap.size]? = some (.cells #[.int .i64 n, .slice A E.length c] 33 (0, 0))) := heap_alloc_new w _
  have B0 : Hid (Below w.heap.size w (w.alloc (.cells #[.int .i64 n, .slice A E.length c] 33))) := below1 w _
  have HE0 : Hid (∀ W, Below w.heap.size w W → RdZ W W.heap.size A c E) := fun W hW => (hE.below hW).mono hW.size
  obtain ⟨x0, x1, _⟩ := cells_two X0.out
  by_cases hl : 100 < E.length
  · have hli : 100 < (E.length : Int) := by omega
    clear hE
    go_enter Try.func6, Try.ntmps6
    go_wp2_with (first
      | (go_at_call 13; ((with_reducible refine (HA.out _).mono ?_); rintro e v1 ⟨rfl, hb⟩; have B1 := Lib.hid (B0.out.trans (hb.mono B0.out.size)); clear hb))
      | fail)
    go_ret
    exact ⟨rfl, B1.out⟩
  have hli : ¬ 100 < (E.length : Int) := by omega
  have HRc := Lib.hid (fun (W : World) (h : RdZ W W.heap.size A c E) => rchk_any n E A c W h)
  have HIn := Lib.hid (fun W => rIn_any a W)
  by_cases hc : chkV n E = 0
  · rw [hc] at HRc
    obtain ⟨N, rfl, N1, N2, hck⟩ := chkV_ok hc
    by_cases ha : a < -1073741824 ∨ 1073741824 < a
    · rw [inE_no ha] at HIn
      have HV := Lib.hid (fun (W : World) (hW : RdZ W W.heap.size A c E) => dval_far N E a A c W hW hc ha)
      clear hc hE ha hck
      go_enter Try.func6, Try.ntmps6
      go_upto_region 6 with (first
        | (go_at_call 13; ((with_reducible refine (HA.out _).mono ?_); rintro e v1 ⟨rfl, hb⟩; have B1 := Lib.hid (B0.out.trans (hb.mono B0.out.size)); have X1 := Lib.hid (block_below X0.out hb); clear x0 x1 hb; obtain ⟨x0, x1, _⟩ := cells_two X1.out))
        | (go_at_call 31; ((with_reducible refine (HV.out _ (HE0.out _ B1.out)).mono ?_); rintro e v3 ⟨rfl, hb⟩; have B3 := Lib.hid (B1.out.trans (hb.mono B1.out.size)); have X3 := Lib.hid (block_below X1.out hb); clear x0 x1 hb))
        | fail)
      have U4 : Hid ((v3.alloc (.cells #[.bool false, .int .i64 0, .int .i64 0] 48)).heap[v3.heap.size]? = some (.cells #[.bool false, .int .i64 0, .int .i64 0] 48 (0, 0))) := heap_alloc_new v3 _
      have B4 : Hid (Below w.heap.size w (v3.alloc (.cells #[.bool false, .int .i64 0, .int .i64 0] 48))) := B3.out.alloc B3.out.size _
      have X4 := Lib.hid (block_alloc X3.out (.cells #[.bool false, .int .i64 0, .int .i64 0] 48))
      generalize v3.alloc (.cells #[.bool false, .int .i64 0, .int .i64 0] 48) = v4 at *
      generalize v3.heap.size = ub at *
      obtain ⟨x0, x1, _⟩ := cells_two X4.out
      go_wp2_with (first
        | (go_at_call 23; ((with_reducible refine (HRc.out _ (HE0.out _ B4.out)).mono ?_); rintro e v5 ⟨rfl, hb⟩; have B5 := Lib.hid (B4.out.trans (hb.mono B4.out.size)); have U5 := Lib.hid (block_below U4.out hb); clear x0 x1 hb; obtain ⟨⟨u0, u1, u2⟩, uf⟩ := three_of_blockD U5.out))
        | (go_at_call 32; ((with_reducible refine (HIn.out _).mono ?_); rintro e v6 ⟨rfl, rfl⟩))
        | fail)
      go_ret
      exact ⟨by first | rfl | simp, B5.out⟩
    · rw [inE_yes (by omega) (by omega)] at HIn
      have HV := Lib.hid (fun (W : World) (hW : RdZ W W.heap.size A c E) => dval_any N E a A c W N1 N2 hW hck (by omega) (by omega))
      have HR := Lib.hid (fun (W : World) (hW : RdZ W W.heap.size A c E) => rval_any N E a A c W N1 N2 hW hck (by omega) (by omega))
      rw [rou_eq] at HV HR
      clear hc hE ha hck
      generalize (tbV N E).getD (a % (N : Int)).toNat 0 = k at *
      generalize tbM (gensV N) = m at *
      generalize decide (k = -1) = z at *
      generalize rouN k m = x at *
      generalize rouD k m = y at *
      go_enter Try.func6, Try.ntmps6
      go_upto_region 6 with (first
        | (go_at_call 13; ((with_reducible refine (HA.out _).mono ?_); rintro e v1 ⟨rfl, hb⟩; have B1 := Lib.hid (B0.out.trans (hb.mono B0.out.size)); have X1 := Lib.hid (block_below X0.out hb); clear x0 x1 hb; obtain ⟨x0, x1, _⟩ := cells_two X1.out))
        | (go_at_call 31; ((with_reducible refine (HV.out _ (HE0.out _ B1.out)).mono ?_); rintro e v3 ⟨rfl, hb⟩; have B3 := Lib.hid (B1.out.trans (hb.mono B1.out.size)); have X3 := Lib.hid (block_below X1.out hb); clear x0 x1 hb))
        | fail)
      have U4 : Hid ((v3.alloc (.cells #[.bool z, .int .i64 x, .int .i64 y] 48)).heap[v3.heap.size]? = some (.cells #[.bool z, .int .i64 x, .int .i64 y] 48 (0, 0))) := heap_alloc_new v3 _
      have B4 : Hid (Below w.heap.size w (v3.alloc (.cells #[.bool z, .int .i64 x, .int .i64 y] 48))) := B3.out.alloc B3.out.size _
      have X4 := Lib.hid (block_alloc X3.out (.cells #[.bool z, .int .i64 x, .int .i64 y] 48))
      generalize v3.alloc (.cells #[.bool z, .int .i64 x, .int .i64 y] 48) = v4 at *
      generalize v3.heap.size = ub at *
      obtain ⟨x0, x1, _⟩ := cells_two X4.out
      go_upto_region 11 with (first
        | (go_at_call 23; ((with_reducible refine (HRc.out _ (HE0.out _ B4.out)).mono ?_); rintro e v5 ⟨rfl, hb⟩; have B5 := Lib.hid (B4.out.trans (hb.mono B4.out.size)); have U5 := Lib.hid (block_below U4.out hb); have X5 := Lib.hid (block_below X4.out hb); clear x0 x1 hb; obtain ⟨x0, x1, _⟩ := cells_two X5.out))
        | (go_at_call 32; ((with_reducible refine (HIn.out _).mono ?_); rintro e v6 ⟨rfl, rfl⟩))
        | fail)
      have D5 : Hid (Below v5.heap.size v5 v5.drew) := Below.drew (Below.refl _ _)
      have HKc : Hid (∀ W, Below v5.heap.size v5 W → (W.cell? ⟨ub, 0, none⟩ = some (.bool z) ∧ W.cell? ⟨ub, 1, none⟩ = some (.int .i64 x) ∧ W.cell? ⟨ub, 2, none⟩ = some (.int .i64 y)) ∧ (W.cell? ⟨w.heap.size, 0, none⟩ = some (.int .i64 (N : Int)) ∧ W.cell? ⟨w.heap.size, 1, none⟩ = some (.slice A E.length c))) := fun W hW =>
        ⟨(three_of_blockD (block_below U5.out hW)).1, (cells_two (block_below X5.out hW)).1, (cells_two (block_below X5.out hW)).2.1⟩
      clear x0 x1
      go_region_held3 (fun W => (W.cell? ⟨ub, 0, none⟩ = some (.bool z) ∧ W.cell? ⟨ub, 1, none⟩ = some (.int .i64 x) ∧ W.cell? ⟨ub, 2, none⟩ = some (.int .i64 y)) ∧ (W.cell? ⟨w.heap.size, 0, none⟩ = some (.int .i64 (N : Int)) ∧ W.cell? ⟨w.heap.size, 1, none⟩ = some (.slice A E.length c)))
        (with_reducible first | exact HKc.out _ D7.out | exact HKc.out _ D5.out | fail)
        (first
          | (go_at_call 33; ((with_reducible refine (HR.out _ (HE0.out _ (B5.out.trans (D5.out.mono B5.out.size)))).mono ?_); rintro e v7 ⟨rfl, hb⟩; have D7 := Lib.hid (D5.out.trans (hb.mono D5.out.size)); clear hb))
          | fail)
      have HBf := Lib.hid (B5.out.trans (D7.out.mono B5.out.size))
      go_wp2
      go_ret
      exact ⟨by first | rfl | simp, HBf.out⟩
  · have HV := Lib.hid (fun (W : World) (hW : RdZ W W.heap.size A c E) => dval_bad n E a A c W hW hc)
    have hk0 : (chkV n E != 0) = true := by rw [bne_iff_ne]; exact hc
    clear hc hE
    generalize chkV n E = K at *
    go_enter Try.func6, Try.ntmps6
    go_upto_region 6 with (first
      | (go_at_call 13; ((with_reducible refine (HA.out _).mono ?_); rintro e v1 ⟨rfl, hb⟩; have B1 := Lib.hid (B0.out.trans (hb.mono B0.out.size)); have X1 := Lib.hid (block_below X0.out hb); clear x0 x1 hb; obtain ⟨x0, x1, _⟩ := cells_two X1.out))
      | (go_at_call 31; ((with_reducible refine (HV.out _ (HE0.out _ B1.out)).mono ?_); rintro e v3 ⟨rfl, hb⟩; have B3 := Lib.hid (B1.out.trans (hb.mono B1.out.size)); have X3 := Lib.hid (block_below X1.out hb); clear x0 x1 hb))
      | fail)
    have U4 : Hid ((v3.alloc (.cells #[.bool false, .int .i64 0, .int .i64 0] 48)).heap[v3.heap.size]? = some (.cells #[.bool false, .int .i64 0, .int .i64 0] 48 (0, 0))) := heap_alloc_new v3 _
    have B4 : Hid (Below w.heap.size w (v3.alloc (.cells #[.bool false, .int .i64 0, .int .i64 0] 48))) := B3.out.alloc B3.out.size _
    have X4 := Lib.hid (block_alloc X3.out (.cells #[.bool false, .int .i64 0, .int .i64 0] 48))
    generalize v3.alloc (.cells #[.bool false, .int .i64 0, .int .i64 0] 48) = v4 at *
    generalize v3.heap.size = ub at *
    obtain ⟨x0, x1, _⟩ := cells_two X4.out
    go_wp2_with (first
      | (go_at_call 23; ((with_reducible refine (HRc.out _ (HE0.out _ B4.out)).mono ?_); rintro e v5 ⟨rfl, hb⟩; have B5 := Lib.hid (B4.out.trans (hb.mono B4.out.size)); have U5 := Lib.hid (block_below U4.out hb); clear x0 x1 hb; obtain ⟨⟨u0, u1, u2⟩, uf⟩ := three_of_blockD U5.out))
      | fail)
    go_ret
    exact ⟨by first | rfl | simp, B5.out⟩
end Go.Proofs.Ytlagljnhbhnelaa
