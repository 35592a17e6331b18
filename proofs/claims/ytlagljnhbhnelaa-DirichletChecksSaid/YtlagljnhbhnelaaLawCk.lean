/- DirichletChecks: characters are checked; order, conductor and parity are those of the reference, or the error is. -/
import Derived.Test.YtlagljnhbhnelaaCkX
namespace Go.Proofs.Ytlagljnhbhnelaa
open Go.RowKit
set_option linter.unusedVariables false
set_option linter.unusedSimpArgs false

set_option maxHeartbeats 6400000 in
set_option maxRecDepth 1000000 in
theorem dck_walk28 (n : Int) (E : List Int) (w : World) {A : Option Addr} {c : Nat} (hE : RdZ w w.heap.size A c E) (hA : A = none → c = 0) :
    Calls Try.prog 4 #[.agg #[.int .i64 n, .slice A E.length c]] w fun e w' => e = .returned (.bool true) ∧ Below w.heap.size w w' := by
  have HA := Lib.hid awake28_any
  have hln := hE.len
  have X0 : Hid ((w.alloc (.cells #[.int .i64 n, .slice A E.length c] 33)).heap[w.heap.size]? = some (.cells #[.int .i64 n, .slice A E.length c] 33 (0, 0))) := heap_alloc_new w _
  have B0 : Hid (Below w.heap.size w (w.alloc (.cells #[.int .i64 n, .slice A E.length c] 33))) := below1 w _
  have HEx : Hid (∀ W, Below w.heap.size w W → RdZ W W.heap.size A c E) := fun W hW => (hE.below hW).mono hW.size
  obtain ⟨x0, x1, _⟩ := cells_two X0.out
  by_cases hl : 100 < E.length
  · have hli : 100 < (E.length : Int) := by omega
    clear hE hA
    go_enter Try.func4, Try.ntmps4
    go_wp2_with (first
      | (go_at_call 13; ((with_reducible refine (HA.out _).mono ?_); rintro e v1 ⟨rfl, hb⟩; have B1 := Lib.hid (B0.out.trans (hb.mono B0.out.size)); clear hb))
      | fail)
    go_ret
    exact ⟨rfl, B1.out⟩
  have hli : ¬ 100 < (E.length : Int) := by omega
  have HCp := Lib.hid (fun (W : World) (h : RdZ W W.heap.size A c E) => rcopy28_any n E A c W h hA (by omega))
  have HRc := Lib.hid (fun (W : World) (h : RdZ W W.heap.size A c E) => rchk_any n E A c W h)
  have HCk : Hid (∀ (A2 : Option Addr) (c2 : Nat) (W : World) (h : RdZ W W.heap.size A2 c2 E), Calls Try.prog 24 #[.agg #[.int .i64 n, .slice A2 E.length c2]] W fun e w' => e = .returned (.int .i64 (chkV n E)) ∧ Below W.heap.size W w') := fun A2 c2 W h => dckv_any n E A2 c2 W h
  by_cases hc : chkV n E = 0
  · rw [hc] at HRc HCk
    obtain ⟨N, rfl, N1, N2, hck⟩ := chkV_okC hc
    obtain ⟨C, C1, C2, C3, C4⟩ := cond_ex N1 (show N ≤ 60 by omega) (ck_ok hck).1
    have HOr := Lib.hid (fun (A2 : Option Addr) (c2 : Nat) (W : World) (h : RdZ W W.heap.size A2 c2 E) => dorder_any N E A2 c2 W N1 N2 h hck)
    have HCo := Lib.hid (fun (A2 : Option Addr) (c2 : Nat) (W : World) (h : RdZ W W.heap.size A2 c2 E) => dcond_any N C E A2 c2 W N1 N2 h hck C1 (by omega) C3 C4)
    have HEv := Lib.hid (fun (A2 : Option Addr) (c2 : Nat) (W : World) (h : RdZ W W.heap.size A2 c2 E) => deven_any N E A2 c2 W N1 N2 h hck)
    have HRo := Lib.hid (fun (W : World) (h : RdZ W W.heap.size A c E) => rorder_any N E A c W N1 N2 h hck)
    have HRd := Lib.hid (fun (W : World) (h : RdZ W W.heap.size A c E) => rcond_any N C E A c W N1 N2 h hck C1 C2 C3 C4)
    have HRe := Lib.hid (fun (W : World) (h : RdZ W W.heap.size A c E) => reven_any N E A c W N1 N2 h hck)
    clear hc hE hA hck C3 C4
    generalize ordV N E = k at *
    generalize decide (rouN ((tbV N E).getD (-1 % (N : Int)).toNat 0) (tbM (gensV N)) = 0) = z at *
    go_enter Try.func4, Try.ntmps4
    go_upto_region 6 with (first
      | (go_at_call 13; ((with_reducible refine (HA.out _).mono ?_); rintro e v1 ⟨rfl, hb⟩; have B1 := Lib.hid (B0.out.trans (hb.mono B0.out.size)); have X1 := Lib.hid (block_below X0.out hb); clear x0 x1 hb; obtain ⟨x0, x1, _⟩ := cells_two X1.out))
      | (go_at_call 19; ((with_reducible refine (HCp.out _ (HEx.out _ B1.out)).mono ?_); rintro e v3 ⟨A2, c2, rfl, hr, hb⟩; have B3 := Lib.hid (B1.out.trans (hb.mono B1.out.size)); have X3 := Lib.hid (block_below X1.out hb); have HE3 := Lib.hid hr; clear x0 x1 hb hr))
      | fail)
    have Y4 : Hid ((v3.alloc (.cells #[.int .i64 (N : Int), .slice A2 E.length c2] 33)).heap[v3.heap.size]? = some (.cells #[.int .i64 (N : Int), .slice A2 E.length c2] 33 (0, 0))) := heap_alloc_new v3 _
    have B4 : Hid (Below w.heap.size w (v3.alloc (.cells #[.int .i64 (N : Int), .slice A2 E.length c2] 33))) := B3.out.alloc B3.out.size _
    have X4 := Lib.hid (block_alloc X3.out (.cells #[.int .i64 (N : Int), .slice A2 E.length c2] 33))
    have HE4 : Hid (RdZ (v3.alloc (.cells #[.int .i64 (N : Int), .slice A2 E.length c2] 33)) (v3.alloc (.cells #[.int .i64 (N : Int), .slice A2 E.length c2] 33)).heap.size A2 c2 E) := (HE3.out.below (below1 v3 _)).mono (by simp)
    generalize v3.alloc (.cells #[.int .i64 (N : Int), .slice A2 E.length c2] 33) = v4 at *
    generalize v3.heap.size = yb at *
    obtain ⟨x0, x1, _⟩ := cells_two X4.out
    obtain ⟨y0, y1, _⟩ := cells_two Y4.out
    go_wp2_with (first
      | (go_at_call 20; ((with_reducible refine (HOr.out _ _ _ HE4.out).mono ?_); rintro e v5 ⟨rfl, hb⟩; have B5 := Lib.hid (B4.out.trans (hb.mono B4.out.size)); have X5 := Lib.hid (block_below X4.out hb); have Y5 := Lib.hid (block_below Y4.out hb); have HE5 : Hid (RdZ v5 v5.heap.size A2 c2 E) := (HE4.out.below hb).mono hb.size; clear x0 x1 y0 y1 hb; obtain ⟨x0, x1, _⟩ := cells_two X5.out; obtain ⟨y0, y1, _⟩ := cells_two Y5.out))
      | (go_at_call 21; ((with_reducible refine (HCo.out _ _ _ HE5.out).mono ?_); rintro e v6 ⟨rfl, hb⟩; have B6 := Lib.hid (B5.out.trans (hb.mono B5.out.size)); have X6 := Lib.hid (block_below X5.out hb); have Y6 := Lib.hid (block_below Y5.out hb); have HE6 : Hid (RdZ v6 v6.heap.size A2 c2 E) := (HE5.out.below hb).mono hb.size; clear x0 x1 y0 y1 hb; obtain ⟨x0, x1, _⟩ := cells_two X6.out; obtain ⟨y0, y1, _⟩ := cells_two Y6.out))
      | (go_at_call 22; ((with_reducible refine (HEv.out _ _ _ HE6.out).mono ?_); rintro e v7 ⟨rfl, hb⟩; have B7 := Lib.hid (B6.out.trans (hb.mono B6.out.size)); have X7 := Lib.hid (block_below X6.out hb); have Y7 := Lib.hid (block_below Y6.out hb); have HE7 : Hid (RdZ v7 v7.heap.size A2 c2 E) := (HE6.out.below hb).mono hb.size; clear x0 x1 y0 y1 hb; obtain ⟨x0, x1, _⟩ := cells_two X7.out; obtain ⟨y0, y1, _⟩ := cells_two Y7.out))
      | (go_at_call 23; ((with_reducible refine (HRc.out _ (HEx.out _ B7.out)).mono ?_); rintro e v8 ⟨rfl, hb⟩; have B8 := Lib.hid (B7.out.trans (hb.mono B7.out.size)); have X8 := Lib.hid (block_below X7.out hb); have Y8 := Lib.hid (block_below Y7.out hb); have HE8 : Hid (RdZ v8 v8.heap.size A2 c2 E) := (HE7.out.below hb).mono hb.size; clear x0 x1 y0 y1 hb; obtain ⟨x0, x1, _⟩ := cells_two X8.out; obtain ⟨y0, y1, _⟩ := cells_two Y8.out))
      | (go_at_call 24; ((with_reducible refine (HCk.out _ _ _ HE8.out).mono ?_); rintro e v9 ⟨rfl, hb⟩; have B9 := Lib.hid (B8.out.trans (hb.mono B8.out.size)); have X9 := Lib.hid (block_below X8.out hb); have Y9 := Lib.hid (block_below Y8.out hb); have HE9 : Hid (RdZ v9 v9.heap.size A2 c2 E) := (HE8.out.below hb).mono hb.size; clear x0 x1 y0 y1 hb; obtain ⟨x0, x1, _⟩ := cells_two X9.out; obtain ⟨y0, y1, _⟩ := cells_two Y9.out))
      | (go_at_call 25; ((with_reducible refine (HRo.out _ (HEx.out _ B9.out)).mono ?_); rintro e v10 ⟨rfl, hb⟩; have B10 := Lib.hid (B9.out.trans (hb.mono B9.out.size)); have X10 := Lib.hid (block_below X9.out hb); have Y10 := Lib.hid (block_below Y9.out hb); have HE10 : Hid (RdZ v10 v10.heap.size A2 c2 E) := (HE9.out.below hb).mono hb.size; clear x0 x1 y0 y1 hb; obtain ⟨x0, x1, _⟩ := cells_two X10.out; obtain ⟨y0, y1, _⟩ := cells_two Y10.out))
      | (go_at_call 26; ((with_reducible refine (HRd.out _ (HEx.out _ B10.out)).mono ?_); rintro e v11 ⟨rfl, hb⟩; have B11 := Lib.hid (B10.out.trans (hb.mono B10.out.size)); have X11 := Lib.hid (block_below X10.out hb); have Y11 := Lib.hid (block_below Y10.out hb); have HE11 : Hid (RdZ v11 v11.heap.size A2 c2 E) := (HE10.out.below hb).mono hb.size; clear x0 x1 y0 y1 hb; obtain ⟨x0, x1, _⟩ := cells_two X11.out; obtain ⟨y0, y1, _⟩ := cells_two Y11.out))
      | (go_at_call 27; ((with_reducible refine (HRe.out _ (HEx.out _ B11.out)).mono ?_); rintro e v12 ⟨rfl, hb⟩; have B12 := Lib.hid (B11.out.trans (hb.mono B11.out.size)); have X12 := Lib.hid (block_below X11.out hb); have Y12 := Lib.hid (block_below Y11.out hb); have HE12 : Hid (RdZ v12 v12.heap.size A2 c2 E) := (HE11.out.below hb).mono hb.size; clear x0 x1 y0 y1 hb; obtain ⟨x0, x1, _⟩ := cells_two X12.out; obtain ⟨y0, y1, _⟩ := cells_two Y12.out))
      | fail)
    go_ret
    exact ⟨by first | rfl | simp, B12.out⟩
  · have HOr := Lib.hid (fun (A2 : Option Addr) (c2 : Nat) (W : World) (h : RdZ W W.heap.size A2 c2 E) => dorder_bad n E A2 c2 W h hc)
    have HCo := Lib.hid (fun (A2 : Option Addr) (c2 : Nat) (W : World) (h : RdZ W W.heap.size A2 c2 E) => dcond_bad n E A2 c2 W h hc)
    have HEv := Lib.hid (fun (A2 : Option Addr) (c2 : Nat) (W : World) (h : RdZ W W.heap.size A2 c2 E) => deven_bad n E A2 c2 W h hc)
    have hk0 : (chkV n E != 0) = true := by rw [bne_iff_ne]; exact hc
    clear hc hE hA
    generalize chkV n E = K at *
    go_enter Try.func4, Try.ntmps4
    go_upto_region 6 with (first
      | (go_at_call 13; ((with_reducible refine (HA.out _).mono ?_); rintro e v1 ⟨rfl, hb⟩; have B1 := Lib.hid (B0.out.trans (hb.mono B0.out.size)); have X1 := Lib.hid (block_below X0.out hb); clear x0 x1 hb; obtain ⟨x0, x1, _⟩ := cells_two X1.out))
      | (go_at_call 19; ((with_reducible refine (HCp.out _ (HEx.out _ B1.out)).mono ?_); rintro e v3 ⟨A2, c2, rfl, hr, hb⟩; have B3 := Lib.hid (B1.out.trans (hb.mono B1.out.size)); have X3 := Lib.hid (block_below X1.out hb); have HE3 := Lib.hid hr; clear x0 x1 hb hr))
      | fail)
    have Y4 : Hid ((v3.alloc (.cells #[.int .i64 n, .slice A2 E.length c2] 33)).heap[v3.heap.size]? = some (.cells #[.int .i64 n, .slice A2 E.length c2] 33 (0, 0))) := heap_alloc_new v3 _
    have B4 : Hid (Below w.heap.size w (v3.alloc (.cells #[.int .i64 n, .slice A2 E.length c2] 33))) := B3.out.alloc B3.out.size _
    have X4 := Lib.hid (block_alloc X3.out (.cells #[.int .i64 n, .slice A2 E.length c2] 33))
    have HE4 : Hid (RdZ (v3.alloc (.cells #[.int .i64 n, .slice A2 E.length c2] 33)) (v3.alloc (.cells #[.int .i64 n, .slice A2 E.length c2] 33)).heap.size A2 c2 E) := (HE3.out.below (below1 v3 _)).mono (by simp)
    generalize v3.alloc (.cells #[.int .i64 n, .slice A2 E.length c2] 33) = v4 at *
    generalize v3.heap.size = yb at *
    obtain ⟨x0, x1, _⟩ := cells_two X4.out
    obtain ⟨y0, y1, _⟩ := cells_two Y4.out
    go_wp2_with (first
      | (go_at_call 20; ((with_reducible refine (HOr.out _ _ _ HE4.out).mono ?_); rintro e v5 ⟨rfl, hb⟩; have B5 := Lib.hid (B4.out.trans (hb.mono B4.out.size)); have X5 := Lib.hid (block_below X4.out hb); have Y5 := Lib.hid (block_below Y4.out hb); have HE5 : Hid (RdZ v5 v5.heap.size A2 c2 E) := (HE4.out.below hb).mono hb.size; clear x0 x1 y0 y1 hb; obtain ⟨x0, x1, _⟩ := cells_two X5.out; obtain ⟨y0, y1, _⟩ := cells_two Y5.out))
      | (go_at_call 21; ((with_reducible refine (HCo.out _ _ _ HE5.out).mono ?_); rintro e v6 ⟨rfl, hb⟩; have B6 := Lib.hid (B5.out.trans (hb.mono B5.out.size)); have X6 := Lib.hid (block_below X5.out hb); have Y6 := Lib.hid (block_below Y5.out hb); have HE6 : Hid (RdZ v6 v6.heap.size A2 c2 E) := (HE5.out.below hb).mono hb.size; clear x0 x1 y0 y1 hb; obtain ⟨x0, x1, _⟩ := cells_two X6.out; obtain ⟨y0, y1, _⟩ := cells_two Y6.out))
      | (go_at_call 22; ((with_reducible refine (HEv.out _ _ _ HE6.out).mono ?_); rintro e v7 ⟨rfl, hb⟩; have B7 := Lib.hid (B6.out.trans (hb.mono B6.out.size)); have X7 := Lib.hid (block_below X6.out hb); have Y7 := Lib.hid (block_below Y6.out hb); have HE7 : Hid (RdZ v7 v7.heap.size A2 c2 E) := (HE6.out.below hb).mono hb.size; clear x0 x1 y0 y1 hb; obtain ⟨x0, x1, _⟩ := cells_two X7.out; obtain ⟨y0, y1, _⟩ := cells_two Y7.out))
      | (go_at_call 23; ((with_reducible refine (HRc.out _ (HEx.out _ B7.out)).mono ?_); rintro e v8 ⟨rfl, hb⟩; have B8 := Lib.hid (B7.out.trans (hb.mono B7.out.size)); have X8 := Lib.hid (block_below X7.out hb); have Y8 := Lib.hid (block_below Y7.out hb); have HE8 : Hid (RdZ v8 v8.heap.size A2 c2 E) := (HE7.out.below hb).mono hb.size; clear x0 x1 y0 y1 hb; obtain ⟨x0, x1, _⟩ := cells_two X8.out; obtain ⟨y0, y1, _⟩ := cells_two Y8.out))
      | (go_at_call 24; ((with_reducible refine (HCk.out _ _ _ HE8.out).mono ?_); rintro e v9 ⟨rfl, hb⟩; have B9 := Lib.hid (B8.out.trans (hb.mono B8.out.size)); have X9 := Lib.hid (block_below X8.out hb); have Y9 := Lib.hid (block_below Y8.out hb); have HE9 : Hid (RdZ v9 v9.heap.size A2 c2 E) := (HE8.out.below hb).mono hb.size; clear x0 x1 y0 y1 hb; obtain ⟨x0, x1, _⟩ := cells_two X9.out; obtain ⟨y0, y1, _⟩ := cells_two Y9.out))
      | fail)
    go_ret
    exact ⟨by first | rfl | simp, B9.out⟩
end Go.Proofs.Ytlagljnhbhnelaa
