/- SubgroupMembers answers true for all arguments. -/
import Derived.Test.YtjhdpcbkdeagnaaSgI
import Derived.Test.YtjhdpcbkdeagnaaMvP
import Derived.Test.YtjhdpcbkdeagnaaSgX
import Derived.Test.YtjhdpcbkdeagnaaHasK
namespace Go.Proofs.Ytjhdpcbkdeagnaa
open Go.RowKit
set_option linter.unusedVariables false
set_option linter.unusedSimpArgs false

/-- Whether a group has more cosets than the laws look at. -/
def grI (k n : Int) : Bool := decide (gckI k n = 0) && (decide (400 < idxI k n) && decide (idxI k n ≤ 1152))
set_option maxHeartbeats 3200000 in
set_option maxRecDepth 1000000 in
theorem great_any (k n : Int) (w : World) : Calls Try.prog 23 #[.agg #[.int .i64 k, .int .i64 n]] w fun e w' => e = .returned (.bool (grI k n)) ∧ Below w.heap.size w w' := by
  have HR := Lib.hid (fun W => rindex_any k n W)
  unfold grI
  generalize gckI k n = z at *
  generalize idxI k n = x at *
  by_cases hz : z = 0
  · subst hz
    by_cases h1 : 400 < x
    · by_cases h2 : x ≤ 1152
      · rw [decide_eq_true h1, decide_eq_true h2]
        have d1 : decide (400 < x) = true := decide_eq_true h1
        have d2 : decide (x ≤ 1152) = true := decide_eq_true h2
        go_enter Try.func23, Try.ntmps23
        go_wp2_with (first
          | (go_at_call 20; ((with_reducible refine (HR.out _).mono ?_); rintro e w1 ⟨rfl, hb⟩; have HB1 : Hid (Below w.heap.size w w1) := bel1 (Below.refl _ _) hb; clear hb))
          | fail)
        go_ret
        exact ⟨rfl, HB1.out⟩
      · rw [decide_eq_true h1, decide_eq_false h2]
        have d1 : decide (400 < x) = true := decide_eq_true h1
        have d2 : decide (x ≤ 1152) = false := decide_eq_false h2
        go_enter Try.func23, Try.ntmps23
        go_wp2_with (first
          | (go_at_call 20; ((with_reducible refine (HR.out _).mono ?_); rintro e w1 ⟨rfl, hb⟩; have HB1 : Hid (Below w.heap.size w w1) := bel1 (Below.refl _ _) hb; clear hb))
          | fail)
        go_ret
        exact ⟨rfl, HB1.out⟩
    · rw [decide_eq_false h1]
      have d1 : decide (400 < x) = false := decide_eq_false h1
      go_enter Try.func23, Try.ntmps23
      go_wp2_with (first
        | (go_at_call 20; ((with_reducible refine (HR.out _).mono ?_); rintro e w1 ⟨rfl, hb⟩; have HB1 : Hid (Below w.heap.size w w1) := bel1 (Below.refl _ _) hb; clear hb))
        | fail)
      go_ret
      exact ⟨rfl, HB1.out⟩
  · rw [decide_eq_false hz]
    have hzb : (z == 0) = false := by simpa using hz
    go_enter Try.func23, Try.ntmps23
    go_wp2_with (first
      | (go_at_call 20; ((with_reducible refine (HR.out _).mono ?_); rintro e w1 ⟨rfl, hb⟩; have HB1 : Hid (Below w.heap.size w w1) := bel1 (Below.refl _ _) hb; clear hb))
      | fail)
    go_ret
    exact ⟨rfl, HB1.out⟩
/-- The boxes of a group and a matrix. -/
structure G2 (w W : World) (k n a b c d : Int) : Prop where
  g : W.heap[w.heap.size]? = some (.cells #[.int .i64 k, .int .i64 n] 24 (0, 0))
  m : W.heap[w.heap.size + 1]? = some (.cells #[.int .i64 a, .int .i64 b, .int .i64 c, .int .i64 d] 26 (0, 0))
  bel : Below w.heap.size w W
theorem G2.start (w : World) (k n a b c d : Int) : G2 w ((w.alloc (.cells #[.int .i64 k, .int .i64 n] 24)).alloc (.cells #[.int .i64 a, .int .i64 b, .int .i64 c, .int .i64 d] 26)) k n a b c d := by
  have h1 : (w.alloc (.cells #[.int .i64 k, .int .i64 n] 24)).heap.size = w.heap.size + 1 := by simp
  have := heap_alloc_new (w.alloc (.cells #[.int .i64 k, .int .i64 n] 24)) (.cells #[.int .i64 a, .int .i64 b, .int .i64 c, .int .i64 d] 26)
  rw [h1] at this
  exact ⟨block_alloc (heap_alloc_new w _) _, this, below2 w _ _⟩
theorem G2.below {w W W' : World} {k n a b c d : Int} (h : G2 w W k n a b c d) (hb : Below W.heap.size W W') : G2 w W' k n a b c d := ⟨block_below h.g hb, block_below h.m hb, bel0 h.bel hb⟩
theorem G2.cells {w W : World} {k n a b c d : Int} (h : G2 w W k n a b c d) : (W.cell? ⟨w.heap.size, 0, none⟩ = some (.int .i64 k) ∧ W.cell? ⟨w.heap.size, 1, none⟩ = some (.int .i64 n)) ∧
    (W.cell? ⟨w.heap.size + 1, 0, none⟩ = some (.int .i64 a) ∧ W.cell? ⟨w.heap.size + 1, 1, none⟩ = some (.int .i64 b) ∧ W.cell? ⟨w.heap.size + 1, 2, none⟩ = some (.int .i64 c) ∧ W.cell? ⟨w.heap.size + 1, 3, none⟩ = some (.int .i64 d)) := ⟨(two_of_block h.g).1, (four_of_block h.m).1⟩
theorem krdz {w w' : World} {A : Option Addr} {c : Nat} {l : List Int} (h : RdZ w w.heap.size A c l) (hb : Below w.heap.size w w') : RdZ w' w'.heap.size A c l := (h.below hb).mono hb.size
set_option maxHeartbeats 3200000 in
set_option maxRecDepth 1000000 in
theorem lmem_great {k n a b c d : Int} (w : World) (HG0 : ∀ W, Calls Try.prog 23 #[.agg #[.int .i64 k, .int .i64 n]] W fun e w' => e = .returned (.bool true) ∧ Below W.heap.size W w') :
    Calls Try.prog 7 #[.agg #[.int .i64 k, .int .i64 n], .agg #[.int .i64 a, .int .i64 b, .int .i64 c, .int .i64 d]] w fun e w' => e = .returned (.bool true) ∧ Below w.heap.size w w' := by
  have HG := Lib.hid HG0
  have F0 := Lib.hid (G2.start w k n a b c d)
  obtain ⟨⟨t1, t2⟩, _⟩ := F0.out.cells
  clear HG0
  go_enter Try.func7, Try.ntmps7
  go_wp2_with (first
    | (go_at_call 23; ((with_reducible refine (HG.out _).mono ?_); rintro e w1 ⟨rfl, hb⟩; have F1 := Lib.hid (F0.out.below hb); clear hb))
    | (go_at_call 12; ((with_reducible refine (awake_any _).mono ?_); rintro e w2 ⟨rfl, hb⟩; have F2 := Lib.hid (F1.out.below hb); clear hb))
    | fail)
  go_ret
  exact ⟨rfl, F2.out.bel⟩
set_option maxHeartbeats 3200000 in
set_option maxRecDepth 1000000 in
theorem lmem_of {k n a b c d z y : Int} {u : Bool} (w : World) (HG0 : ∀ W, Calls Try.prog 23 #[.agg #[.int .i64 k, .int .i64 n]] W fun e w' => e = .returned (.bool false) ∧ Below W.heap.size W w') (hz : z ≠ 0) (HO0 : ∀ W, Calls Try.prog 21 #[.agg #[.int .i64 k, .int .i64 n]] W fun e w' => e = .returned (.tuple #[.agg #[.slice none 0 0, .slice none 0 0], .int .i64 z]) ∧ Below W.heap.size W w') (HH0 : ∀ W, Calls Try.prog 13 #[.agg #[.int .i64 k, .int .i64 n], .agg #[.int .i64 a, .int .i64 b, .int .i64 c, .int .i64 d]] W fun e w' => e = .returned (.tuple #[.bool u, .int .i64 y]) ∧ Below W.heap.size W w') :
    Calls Try.prog 7 #[.agg #[.int .i64 k, .int .i64 n], .agg #[.int .i64 a, .int .i64 b, .int .i64 c, .int .i64 d]] w fun e w' => e = .returned (.bool true) ∧ Below w.heap.size w w' := by
  have HG := Lib.hid HG0
  have HO := Lib.hid HO0
  have HH := Lib.hid HH0
  have F0 := Lib.hid (G2.start w k n a b c d)
  have hzb : (z == 0) = false := by simpa using hz
  clear HG0 HO0 HH0
  go_enter Try.func7, Try.ntmps7
  go_wp2_with (first
    | (go_at_call 23; ((with_reducible refine (HG.out _).mono ?_); rintro e w1 ⟨rfl, hb⟩; have F1 := Lib.hid (F0.out.below hb); clear hb))
    | (go_at_call 12; ((with_reducible refine (awake_any _).mono ?_); rintro e w2 ⟨rfl, hb⟩; have F2 := Lib.hid (F1.out.below hb); obtain ⟨⟨t1, t2⟩, ⟨m1, m2, m3, m4⟩⟩ := F2.out.cells; clear hb))
    | (go_at_call 21; ((with_reducible refine (HO.out _).mono ?_); rintro e w3 ⟨rfl, hb⟩; have F3 := Lib.hid ((F2.out.below hb).below (below1 w3 (.cells #[.slice none 0 0, .slice none 0 0] 47))); clear t1 t2 m1 m2 m3 m4; obtain ⟨⟨t1, t2⟩, ⟨m1, m2, m3, m4⟩⟩ := F3.out.cells; clear hb))
    | (go_at_call 13; ((with_reducible refine (HH.out _).mono ?_); rintro e w4 ⟨rfl, hb⟩; have F4 := Lib.hid (F3.out.below hb); clear t1 t2 m1 m2 m3 m4; clear hb))
    | fail)
  go_ret
  exact ⟨rfl, F4.out.bel⟩
set_option maxHeartbeats 3200000 in
set_option maxRecDepth 1000000 in
theorem lmem_has {k n a b c d y : Int} {u : Bool} {L L' : List Int} (w : World) (HG0 : ∀ W, Calls Try.prog 23 #[.agg #[.int .i64 k, .int .i64 n]] W fun e w' => e = .returned (.bool false) ∧ Below W.heap.size W w') (hy : y ≠ 0) (HO0 : ∀ W, Calls Try.prog 21 #[.agg #[.int .i64 k, .int .i64 n]] W fun e w' => ∃ AS cS AT cT, e = .returned (.tuple #[.agg #[.slice AS L.length cS, .slice AT L'.length cT], .int .i64 0]) ∧ RdZ w' w'.heap.size AS cS L ∧ RdZ w' w'.heap.size AT cT L' ∧ Below W.heap.size W w') (HH0 : ∀ W, Calls Try.prog 13 #[.agg #[.int .i64 k, .int .i64 n], .agg #[.int .i64 a, .int .i64 b, .int .i64 c, .int .i64 d]] W fun e w' => e = .returned (.tuple #[.bool u, .int .i64 y]) ∧ Below W.heap.size W w') :
    Calls Try.prog 7 #[.agg #[.int .i64 k, .int .i64 n], .agg #[.int .i64 a, .int .i64 b, .int .i64 c, .int .i64 d]] w fun e w' => e = .returned (.bool true) ∧ Below w.heap.size w w' := by
  have HG := Lib.hid HG0
  have HO := Lib.hid HO0
  have HH := Lib.hid HH0
  have F0 := Lib.hid (G2.start w k n a b c d)
  have hzb : (y == 0) = false := by simpa using hy
  clear HG0 HO0 HH0
  go_enter Try.func7, Try.ntmps7
  go_wp2_with (first
    | (go_at_call 23; ((with_reducible refine (HG.out _).mono ?_); rintro e w1 ⟨rfl, hb⟩; have F1 := Lib.hid (F0.out.below hb); clear hb))
    | (go_at_call 12; ((with_reducible refine (awake_any _).mono ?_); rintro e w2 ⟨rfl, hb⟩; have F2 := Lib.hid (F1.out.below hb); obtain ⟨⟨t1, t2⟩, ⟨m1, m2, m3, m4⟩⟩ := F2.out.cells; clear hb))
    | (go_at_call 21; ((with_reducible refine (HO.out _).mono ?_); rintro e w3 ⟨AS, cS, AT, cT, rfl, d1, d2, hb⟩; have F3 := Lib.hid ((F2.out.below hb).below (below1 w3 (.cells #[.slice AS L.length cS, .slice AT L'.length cT] 47))); have X3 : Hid ((w3.alloc (.cells #[.slice AS L.length cS, .slice AT L'.length cT] 47)).heap[w3.heap.size]? = some (.cells #[.slice AS L.length cS, .slice AT L'.length cT] 47)) := heap_alloc_new w3 _; have D3 : Hid (RdZ (w3.alloc (.cells #[.slice AS L.length cS, .slice AT L'.length cT] 47)) (w3.alloc (.cells #[.slice AS L.length cS, .slice AT L'.length cT] 47)).heap.size AS cS L ∧ RdZ (w3.alloc (.cells #[.slice AS L.length cS, .slice AT L'.length cT] 47)) (w3.alloc (.cells #[.slice AS L.length cS, .slice AT L'.length cT] 47)).heap.size AT cT L') := ⟨krdz d1 (below1 w3 (.cells #[.slice AS L.length cS, .slice AT L'.length cT] 47)), krdz d2 (below1 w3 (.cells #[.slice AS L.length cS, .slice AT L'.length cT] 47))⟩; clear t1 t2 m1 m2 m3 m4; obtain ⟨⟨t1, t2⟩, ⟨m1, m2, m3, m4⟩⟩ := F3.out.cells; clear hb d1 d2))
    | (go_at_call 13; ((with_reducible refine (HH.out _).mono ?_); rintro e w4 ⟨rfl, hb⟩; have F4 := Lib.hid (F3.out.below hb); clear t1 t2 m1 m2 m3 m4; clear hb))
    | fail)
  go_ret
  exact ⟨rfl, F4.out.bel⟩
set_option maxHeartbeats 3200000 in
set_option maxRecDepth 1000000 in
theorem lmem_ok {k n a b c d y : Int} {u : Bool} {L L' : List Int} (w : World) (HG0 : ∀ W, Calls Try.prog 23 #[.agg #[.int .i64 k, .int .i64 n]] W fun e w' => e = .returned (.bool false) ∧ Below W.heap.size W w') (hy : y = 0) (HO0 : ∀ W, Calls Try.prog 21 #[.agg #[.int .i64 k, .int .i64 n]] W fun e w' => ∃ AS cS AT cT, e = .returned (.tuple #[.agg #[.slice AS L.length cS, .slice AT L'.length cT], .int .i64 0]) ∧ RdZ w' w'.heap.size AS cS L ∧ RdZ w' w'.heap.size AT cT L' ∧ Below W.heap.size W w') (HH0 : ∀ W, Calls Try.prog 13 #[.agg #[.int .i64 k, .int .i64 n], .agg #[.int .i64 a, .int .i64 b, .int .i64 c, .int .i64 d]] W fun e w' => e = .returned (.tuple #[.bool u, .int .i64 y]) ∧ Below W.heap.size W w')
    (HC0 : ∀ (W : World) (A : Option Addr) (c1 : Nat) (A' : Option Addr) (c2 : Nat), RdZ W W.heap.size A c1 L → RdZ W W.heap.size A' c2 L' → Calls Try.prog 28 #[.agg #[.slice A L.length c1, .slice A' L'.length c2], .agg #[.int .i64 a, .int .i64 b, .int .i64 c, .int .i64 d]] W fun e w' => e = .returned (.tuple #[.bool u, .int .i64 0]) ∧ Below W.heap.size W w') :
    Calls Try.prog 7 #[.agg #[.int .i64 k, .int .i64 n], .agg #[.int .i64 a, .int .i64 b, .int .i64 c, .int .i64 d]] w fun e w' => e = .returned (.bool true) ∧ Below w.heap.size w w' := by
  subst hy
  have HG := Lib.hid HG0
  have HO := Lib.hid HO0
  have HH := Lib.hid HH0
  have HC := Lib.hid HC0
  have F0 := Lib.hid (G2.start w k n a b c d)
  clear HG0 HO0 HH0 HC0
  rcases u with _ | _
  all_goals
    go_enter Try.func7, Try.ntmps7
    go_wp2_with (first
      | (go_at_call 23; ((with_reducible refine (HG.out _).mono ?_); rintro e w1 ⟨rfl, hb⟩; have F1 := Lib.hid (F0.out.below hb); clear hb))
      | (go_at_call 12; ((with_reducible refine (awake_any _).mono ?_); rintro e w2 ⟨rfl, hb⟩; have F2 := Lib.hid (F1.out.below hb); obtain ⟨⟨t1, t2⟩, ⟨m1, m2, m3, m4⟩⟩ := F2.out.cells; clear hb))
      | (go_at_call 21; ((with_reducible refine (HO.out _).mono ?_); rintro e w3 ⟨AS, cS, AT, cT, rfl, d1, d2, hb⟩; have F3 := Lib.hid ((F2.out.below hb).below (below1 w3 (.cells #[.slice AS L.length cS, .slice AT L'.length cT] 47))); have X3 : Hid ((w3.alloc (.cells #[.slice AS L.length cS, .slice AT L'.length cT] 47)).heap[w3.heap.size]? = some (.cells #[.slice AS L.length cS, .slice AT L'.length cT] 47)) := heap_alloc_new w3 _; have D3 : Hid (RdZ (w3.alloc (.cells #[.slice AS L.length cS, .slice AT L'.length cT] 47)) (w3.alloc (.cells #[.slice AS L.length cS, .slice AT L'.length cT] 47)).heap.size AS cS L ∧ RdZ (w3.alloc (.cells #[.slice AS L.length cS, .slice AT L'.length cT] 47)) (w3.alloc (.cells #[.slice AS L.length cS, .slice AT L'.length cT] 47)).heap.size AT cT L') := ⟨krdz d1 (below1 w3 (.cells #[.slice AS L.length cS, .slice AT L'.length cT] 47)), krdz d2 (below1 w3 (.cells #[.slice AS L.length cS, .slice AT L'.length cT] 47))⟩; clear t1 t2 m1 m2 m3 m4; obtain ⟨⟨t1, t2⟩, ⟨m1, m2, m3, m4⟩⟩ := F3.out.cells; clear hb d1 d2))
      | (go_at_call 13; ((with_reducible refine (HH.out _).mono ?_); rintro e w4 ⟨rfl, hb⟩; have F4 := Lib.hid (F3.out.below hb); have X4 := Lib.hid (block_below X3.out hb); have D4 := Lib.hid (And.intro (krdz D3.out.1 hb) (krdz D3.out.2 hb)); obtain ⟨⟨x1, x2⟩, _⟩ := two_of_block X4.out; clear t1 t2 m1 m2 m3 m4; obtain ⟨⟨t1, t2⟩, ⟨m1, m2, m3, m4⟩⟩ := F4.out.cells; clear hb))
      | (go_at_call 28; ((with_reducible refine (HC.out _ _ _ _ _ D4.out.1 D4.out.2).mono ?_); rintro e w5 ⟨rfl, hb⟩; have F5 := Lib.hid (F4.out.below hb); clear t1 t2 m1 m2 m3 m4; clear hb x1 x2))
      | fail)
    go_ret
    exact ⟨rfl, F5.out.bel⟩
theorem lmem_walk (k n a b c d : Int) (w : World) :
    Calls Try.prog 7 #[.agg #[.int .i64 k, .int .i64 n], .agg #[.int .i64 a, .int .i64 b, .int .i64 c, .int .i64 d]] w fun e w' => e = .returned (.bool true) ∧ Below w.heap.size w w' := by
  by_cases hg : grI k n = true
  · exact lmem_great w fun W => by rw [← hg]; exact great_any k n W
  · have hg' : grI k n = false := by simpa using hg
    have HG := fun W => great_any k n W
    rw [hg'] at HG
    by_cases hz : ckxI k n = 0
    · by_cases hy : hasE k n a b c d = 0
      · have ha := ol_act hz
        obtain ⟨_, _, hck⟩ := ckx_kf hz
        have hk : chkI a b c d = 0 := by unfold hasE at hy; rwa [if_pos hck] at hy
        have hR : hasR k n a b c d = hasV k n a b c d := if_pos hy
        refine lmem_ok w HG hy (fun W => of_ok hz W) (fun W => has_any k n a b c d W) fun W A c1 A' c2 h1 h2 => ?_
        refine contains_k (movk_ok ha 0 a b c d (by have := ha.pos; omega) hk) _ ?_ W A c1 A' c2 h1 h2
        rw [hR, Bool.eq_iff_iff, ← mv_has hz hk]
        by_cases e : mvI (olS k n) (olT k n) 0 a b c d = 0 <;> simp [e]
      · exact lmem_has w HG hy (fun W => of_ok hz W) fun W => has_any k n a b c d W
    · exact lmem_of w HG hz (fun W => of_err hz W) fun W => has_any k n a b c d W
end Go.Proofs.Ytjhdpcbkdeagnaa
