/- SubgroupMembers answers true for all arguments. SubgroupRepresents answers true for all arguments. -/
import Derived.Test.YtjhdpcbkdeagnaaSgI
import Derived.Test.YtjhdpcbkdeagnaaMvP
import Derived.Test.YtjhdpcbkdeagnaaSgX
import Derived.Test.YtjhdpcbkdeagnaaHasK
namespace Go.Proofs.Ytjhdpcbkdeagnaa
open Go.RowKit
set_option linter.unusedVariables false
set_option linter.unusedSimpArgs false

/-- Whether a group has more cosets than the laws look at. -/
def grI (k n : Int) : Bool := decide (gckI k n = 0) && (decide (400 < idxI k n) && decide (idxI k n ≤ 1152))
set_option maxHeartbeats 3200000 in
set_option maxRecDepth 1000000 in
theorem great_any (k n : Int) (w : World) : Calls Try.prog 23 #[.agg #[.int .i64 k, .int .i64 n]] w fun e w' => e = .returned (.bool (grI k n)) ∧ Below w.heap.size w w' := by
  have HR := Lib.hid (fun W => rindex_any k n W)
  unfold grI
  generalize gckI k n = z at *
  generalize idxI k n = x at *
  by_cases hz : z = 0
  · subst hz
    by_cases h1 : 400 < x
    · by_cases h2 : x ≤ 1152
      · rw [decide_eq_true h1, decide_eq_true h2]
        have d1 : decide (400 < x) = true := decide_eq_true h1
        have d2 : decide (x ≤ 1152) = true := decide_eq_true h2
        go_enter Try.func23, Try.ntmps23
        go_wp2_with (first
          | (go_at_call 20; ((with_reducible refine (HR.out _).mono ?_); rintro e w1 ⟨rfl, hb⟩; have HB1 : Hid (Below w.heap.size w w1) := bel1 (Below.refl _ _) hb; clear hb))
          | fail)
        go_ret
        exact ⟨rfl, HB1.out⟩
      · rw [decide_eq_true h1, decide_eq_false h2]
        have d1 : decide (400 < x) = true := decide_eq_true h1
        have d2 : decide (x ≤ 1152) = false := decide_eq_false h2
        go_enter Try.func23, Try.ntmps23
        go_wp2_with (first
          | (go_at_call 20; ((with_reducible refine (HR.out _).mono ?_); rintro e w1 ⟨rfl, hb⟩; have HB1 : Hid (Below w.heap.size w w1) := bel1 (Below.refl _ _) hb; clear hb))
          | fail)
        go_ret
        exact ⟨rfl, HB1.out⟩
    · rw [decide_eq_false h1]
      have d1 : decide (400 < x) = false := decide_eq_false h1
      go_enter Try.func23, Try.ntmps23
      go_wp2_with (first
        | (go_at_call 20; ((with_reducible refine (HR.out _).mono ?_); rintro e w1 ⟨rfl, hb⟩; have HB1 : Hid (Below w.heap.size w w1) := bel1 (Below.refl _ _) hb; clear hb))
        | fail)
      go_ret
      exact ⟨rfl, HB1.out⟩
  · rw [decide_eq_false hz]
    have hzb : (z == 0) = false := by simpa using hz
    go_enter Try.func23, Try.ntmps23
    go_wp2_with (first
      | (go_at_call 20; ((with_reducible refine (HR.out _).mono ?_); rintro e w1 ⟨rfl, hb⟩; have HB1 : Hid (Below w.heap.size w w1) := bel1 (Below.refl _ _) hb; clear hb))
      | fail)
    go_ret
    exact ⟨rfl, HB1.out⟩
/-- The boxes of a group and a matrix. -/
structure G2 (w W : World) (k n a b c d : Int) : Prop where
  g : W.heap[w.heap.size]? = some (.cells #[.int .i64 k, .int .i64 n] 24 (0, 0))
  m : W.heap[w.heap.size + 1]? = some (.cells #[.int .i64 a, .int .i64 b, .int .i64 c, .int .i64 d] 26 (0, 0))
  bel : Below w.heap.size w W
theorem G2.start (w : World) (k n a b c d : Int) : G2 w ((w.alloc (.cells #[.int .i64 k, .int .i64 n] 24)).alloc (.cells #[.int .i64 a, .int .i64 b, .int .i64 c, .int .i64 d] 26)) k n a b c d := by
  have h1 : (w.alloc (.cells #[.int .i64 k, .int .i64 n] 24)).heap.size = w.heap.size + 1 := by simp
  have := heap_alloc_new (w.alloc (.cells #[.int .i64 k, .int .i64 n] 24)) (.cells #[.int .i64 a, .int .i64 b, .int .i64 c, .int .i64 d] 26)
  rw [h1] at this
  exact ⟨block_alloc (heap_alloc_new w _) _, this, below2 w _ _⟩
theorem G2.below {w W W' : World} {k n a b c d : Int} (h : G2 w W k n a b c d) (hb : Below W.heap.size W W') : G2 w W' k n a b c d := ⟨block_below h.g hb, block_below h.m hb, bel0 h.bel hb⟩
theorem G2.cells {w W : World} {k n a b c d : Int} (h : G2 w W k n a b c d) : (W.cell? ⟨w.heap.size, 0, none⟩ = some (.int .i64 k) ∧ W.cell? ⟨w.heap.size, 1, none⟩ = some (.int .i64 n)) ∧
    (W.cell? ⟨w.heap.size + 1, 0, none⟩ = some (.int .i64 a) ∧ W.cell? ⟨w.heap.size + 1, 1, none⟩ = some (.int .i64 b) ∧ W.cell? ⟨w.heap.size + 1, 2, none⟩ = some (.int .i64 c) ∧ W.cell? ⟨w.heap.size + 1, 3, none⟩ = some (.int .i64 d)) := ⟨(two_of_block h.g).1, (four_of_block h.m).1⟩
theorem krdz {w w' : World} {A : Option Addr} {c : Nat} {l : List Int} (h : RdZ w w.heap.size A c l) (hb : Below w.heap.size w w') : RdZ w' w'.heap.size A c l := (h.below hb).mono hb.size
set_option maxHeartbeats 3200000 in
set_option maxRecDepth 1000000 in
theorem lmem_great {k n a b c d : Int} (w : World) (HG0 : ∀ W, Calls Try.prog 23 #[.agg #[.int .i64 k, .int .i64 n]] W fun e w' => e = .returned (.bool true) ∧ Below W.heap.size W w') :
    Calls Try.prog 7 #[.agg #[.int .i64 k, .int .i64 n], .agg #[.int .i64 a, .int .i64 b, .int .i64 c, .int .i64 d]] w fun e w' => e = .returned (.bool true) ∧ Below w.heap.size w w' := by
  have HG := Lib.hid HG0
  have F0 := Lib.hid (G2.start w k n a b c d)
  obtain ⟨⟨t1, t2⟩, _⟩ := F0.out.cells
  clear HG0
  go_enter Try.func7, Try.ntmps7
  go_wp2_with (first
    | (go_at_call 23; ((with_reducible refine (HG.out _).mono ?_); rintro e w1 ⟨rfl, hb⟩; have F1 := Lib.hid (F0.out.below hb); clear hb))
    | (go_at_call 12; ((with_reducible refine (awake_any _).mono ?_); rintro e w2 ⟨rfl, hb⟩; have F2 := Lib.hid (F1.out.below hb); clear hb))
    | fail)
  go_ret
  exact ⟨rfl, F2.out.bel⟩
set_option maxHeartbeats 3200000 in
set_option maxRecDepth 1000000 in
theorem lmem_of {k n a b c d z y : Int} {u : Bool} (w : World) (HG0 : ∀ W, Calls Try.prog 23 #[.agg #[.int .i64 k, .int .i64 n]] W fun e w' => e = .returned (.bool false) ∧ Below W.heap.size W w') (hz : z ≠ 0) (HO0 : ∀ W, Calls Try.prog 21 #[.agg #[.int .i64 k, .int .i64 n]] W fun e w' => e = .returned (.tuple #[.agg #[.slice none 0 0, .slice none 0 0], .int .i64 z]) ∧ Below W.heap.size W w') (HH0 : ∀ W, Calls Try.prog 13 #[.agg #[.int .i64 k, .int .i64 n], .agg #[.int .i64 a, .int .i64 b, .int .i64 c, .int .i64 d]] W fun e w' => e = .returned (.tuple #[.bool u, .int .i64 y]) ∧ Below W.heap.size W w') :
    Calls Try.prog 7 #[.agg #[.int .i64 k, .int .i64 n], .agg #[.int .i64 a, .int .i64 b, .int .i64 c, .int .i64 d]] w fun e w' => e = .returned (.bool true) ∧ Below w.heap.size w w' := by
  have HG := Lib.hid HG0
  have HO := Lib.hid HO0
  have HH := Lib.hid HH0
  have F0 := Lib.hid (G2.start w k n a b c d)
  have hzb : (z == 0) = false := by simpa using hz
  clear HG0 HO0 HH0
  go_enter Try.func7, Try.ntmps7
  go_wp2_with (first
    | (go_at_call 23; ((with_reducible refine (HG.out _).mono ?_); rintro e w1 ⟨rfl, hb⟩; have F1 := Lib.hid (F0.out.below hb); clear hb))
    | (go_at_call 12; ((with_reducible refine (awake_any _).mono ?_); rintro e w2 ⟨rfl, hb⟩; have F2 := Lib.hid (F1.out.below hb); obtain ⟨⟨t1, t2⟩, ⟨m1, m2, m3, m4⟩⟩ := F2.out.cells; clear hb))
    | (go_at_call 21; ((with_reducible refine (HO.out _).mono ?_); rintro e w3 ⟨rfl, hb⟩; have F3 := Lib.hid ((F2.out.below hb).below (below1 w3 (.cells #[.slice none 0 0, .slice none 0 0] 47))); clear t1 t2 m1 m2 m3 m4; obtain ⟨⟨t1, t2⟩, ⟨m1, m2, m3, m4⟩⟩ := F3.out.cells; clear hb))
    | (go_at_call 13; ((with_reducible refine (HH.out _).mono ?_); rintro e w4 ⟨rfl, hb⟩; have F4 := Lib.hid (F3.out.below hb); clear t1 t2 m1 m2 m3 m4; clear hb))
    | fail)
  go_ret
  exact ⟨rfl, F4.out.bel⟩
set_option maxHeartbeats 3200000 in
set_option maxRecDepth 1000000 in
theorem lmem_has {k n a b c d y : Int} {u : Bool} {L L' : List Int} (w : World) (HG0 : ∀ W, Calls Try.prog 23 #[.agg #[.int .i64 k, .int .i64 n]] W fun e w' => e = .returned (.bool false) ∧ Below W.heap.size W w') (hy : y ≠ 0) (HO0 : ∀ W, Calls Try.prog 21 #[.agg #[.int .i64 k, .int .i64 n]] W fun e w' => ∃ AS cS AT cT, e = .returned (.tuple #[.agg #[.slice AS L.length cS, .slice AT L'.length cT], .int .i64 0]) ∧ RdZ w' w'.heap.size AS cS L ∧ RdZ w' w'.heap.size AT cT L' ∧ Below W.heap.size W w') (HH0 : ∀ W, Calls Try.prog 13 #[.agg #[.int .i64 k, .int .i64 n], .agg #[.int .i64 a, .int .i64 b, .int .i64 c, .int .i64 d]] W fun e w' => e = .returned (.tuple #[.bool u, .int .i64 y]) ∧ Below W.heap.size W w') :
    Calls Try.prog 7 #[.agg #[.int .i64 k, .int .i64 n], .agg #[.int .i64 a, .int .i64 b, .int .i64 c, .int .i64 d]] w fun e w' => e = .returned (.bool true) ∧ Below w.heap.size w w' := by
  have HG := Lib.hid HG0
  have HO := Lib.hid HO0
  have HH := Lib.hid HH0
  have F0 := Lib.hid (G2.start w k n a b c d)
  have hzb : (y == 0) = false := by simpa using hy
  clear HG0 HO0 HH0
  go_enter Try.func7, Try.ntmps7
  go_wp2_with (first
    | (go_at_call 23; ((with_reducible refine (HG.out _).mono ?_); rintro e w1 ⟨rfl, hb⟩; have F1 := Lib.hid (F0.out.below hb); clear hb))
    | (go_at_call 12; ((with_reducible refine (awake_any _).mono ?_); rintro e w2 ⟨rfl, hb⟩; have F2 := Lib.hid (F1.out.below hb); obtain ⟨⟨t1, t2⟩, ⟨m1, m2, m3, m4⟩⟩ := F2.out.cells; clear hb))
    | (go_at_call 21; ((with_reducible refine (HO.out _).mono ?_); rintro e w3 ⟨AS, cS, AT, cT, rfl, d1, d2, hb⟩; have F3 := Lib.hid ((F2.out.below hb).below (below1 w3 (.cells #[.slice AS L.length cS, .slice AT L'.length cT] 47))); have X3 : Hid ((w3.alloc (.cells #[.slice AS L.length cS, .slice AT L'.length cT] 47)).heap[w3.heap.size]? = some (.cells #[.slice AS L.length cS, .slice AT L'.length cT] 47)) := heap_alloc_new w3 _; have D3 : Hid (RdZ (w3.alloc (.cells #[.slice AS L.length cS, .slice AT L'.length cT] 47)) (w3.alloc (.cells #[.slice AS L.length cS, .slice AT L'.length cT] 47)).heap.size AS cS L ∧ RdZ (w3.alloc (.cells #[.slice AS L.length cS, .slice AT L'.length cT] 47)) (w3.alloc (.cells #[.slice AS L.length cS, .slice AT L'.length cT] 47)).heap.size AT cT L') := ⟨krdz d1 (below1 w3 (.cells #[.slice AS L.length cS, .slice AT L'.length cT] 47)), krdz d2 (below1 w3 (.cells #[.slice AS L.length cS, .slice AT L'.length cT] 47))⟩; clear t1 t2 m1 m2 m3 m4; obtain ⟨⟨t1, t2⟩, ⟨m1, m2, m3, m4⟩⟩ := F3.out.cells; clear hb d1 d2))
    | (go_at_call 13; ((with_reducible refine (HH.out _).mono ?_); rintro e w4 ⟨rfl, hb⟩; have F4 := Lib.hid (F3.out.below hb); clear t1 t2 m1 m2 m3 m4; clear hb))
    | fail)
  go_ret
  exact ⟨rfl, F4.out.bel⟩
set_option maxHeartbeats 3200000 in
set_option maxRecDepth 1000000 in
theorem lmem_ok {k n a b c d y : Int} {u : Bool} {L L' : List Int} (w : World) (HG0 : ∀ W, Calls Try.prog 23 #[.agg #[.int .i64 k, .int .i64 n]] W fun e w' => e = .returned (.bool false) ∧ Below W.heap.size W w') (hy : y = 0) (HO0 : ∀ W, Calls Try.prog 21 #[.agg #[.int .i64 k, .int .i64 n]] W fun e w' => ∃ AS cS AT cT, e = .returned (.tuple #[.agg #[.slice AS L.length cS, .slice AT L'.length cT], .int .i64 0]) ∧ RdZ w' w'.heap.size AS cS L ∧ RdZ w' w'.heap.size AT cT L' ∧ Below W.heap.size W w') (HH0 : ∀ W, Calls Try.prog 13 #[.agg #[.int .i64 k, .int .i64 n], .agg #[.int .i64 a, .int .i64 b, .int .i64 c, .int .i64 d]] W fun e w' => e = .returned (.tuple #[.bool u, .int .i64 y]) ∧ Below W.heap.size W w')
    (HC0 : ∀ (W : World) (A : Option Addr) (c1 : Nat) (A' : Option Addr) (c2 : Nat), RdZ W W.heap.size A c1 L → RdZ W W.heap.size A' c2 L' → Calls Try.prog 28 #[.agg #[.slice A L.length c1, .slice A' L'.length c2], .agg #[.int .i64 a, .int .i64 b, .int .i64 c, .int .i64 d]] W fun e w' => e = .returned (.tuple #[.bool u, .int .i64 0]) ∧ Below W.heap.size W w') :
    Calls Try.prog 7 #[.agg #[.int .i64 k, .int .i64 n], .agg #[.int .i64 a, .int .i64 b, .int .i64 c, .int .i64 d]] w fun e w' => e = .returned (.bool true) ∧ Below w.heap.size w w' := by
  subst hy
  have HG := Lib.hid HG0
  have HO := Lib.hid HO0
  have HH := Lib.hid HH0
  have HC := Lib.hid HC0
  have F0 := Lib.hid (G2.start w k n a b c d)
  clear HG0 HO0 HH0 HC0
  rcases u with _ | _
  all_goals
    go_enter Try.func7, Try.ntmps7
    go_wp2_with (first
      | (go_at_call 23; ((with_reducible refine (HG.out _).mono ?_); rintro e w1 ⟨rfl, hb⟩; have F1 := Lib.hid (F0.out.below hb); clear hb))
      | (go_at_call 12; ((with_reducible refine (awake_any _).mono ?_); rintro e w2 ⟨rfl, hb⟩; have F2 := Lib.hid (F1.out.below hb); obtain ⟨⟨t1, t2⟩, ⟨m1, m2, m3, m4⟩⟩ := F2.out.cells; clear hb))
      | (go_at_call 21; ((with_reducible refine (HO.out _).mono ?_); rintro e w3 ⟨AS, cS, AT, cT, rfl, d1, d2, hb⟩; have F3 := Lib.hid ((F2.out.below hb).below (below1 w3 (.cells #[.slice AS L.length cS, .slice AT L'.length cT] 47))); have X3 : Hid ((w3.alloc (.cells #[.slice AS L.length cS, .slice AT L'.length cT] 47)).heap[w3.heap.size]? = some (.cells #[.slice AS L.length cS, .slice AT L'.length cT] 47)) := heap_alloc_new w3 _; have D3 : Hid (RdZ (w3.alloc (.cells #[.slice AS L.length cS, .slice AT L'.length cT] 47)) (w3.alloc (.cells #[.slice AS L.length cS, .slice AT L'.length cT] 47)).heap.size AS cS L ∧ RdZ (w3.alloc (.cells #[.slice AS L.length cS, .slice AT L'.length cT] 47)) (w3.alloc (.cells #[.slice AS L.length cS, .slice AT L'.length cT] 47)).heap.size AT cT L') := ⟨krdz d1 (below1 w3 (.cells #[.slice AS L.length cS, .slice AT L'.length cT] 47)), krdz d2 (below1 w3 (.cells #[.slice AS L.length cS, .slice AT L'.length cT] 47))⟩; clear t1 t2 m1 m2 m3 m4; obtain ⟨⟨t1, t2⟩, ⟨m1, m2, m3, m4⟩⟩ := F3.out.cells; clear hb d1 d2))
      | (go_at_call 13; ((with_reducible refine (HH.out _).mono ?_); rintro e w4 ⟨rfl, hb⟩; have F4 := Lib.hid (F3.out.below hb); have X4 := Lib.hid (block_below X3.out hb); have D4 := Lib.hid (And.intro (krdz D3.out.1 hb) (krdz D3.out.2 hb)); obtain ⟨⟨x1, x2⟩, _⟩ := two_of_block X4.out; clear t1 t2 m1 m2 m3 m4; obtain ⟨⟨t1, t2⟩, ⟨m1, m2, m3, m4⟩⟩ := F4.out.cells; clear hb))
      | (go_at_call 28; ((with_reducible refine (HC.out _ _ _ _ _ D4.out.1 D4.out.2).mono ?_); rintro e w5 ⟨rfl, hb⟩; have F5 := Lib.hid (F4.out.below hb); clear t1 t2 m1 m2 m3 m4; clear hb x1 x2))
      | fail)
    go_ret
    exact ⟨rfl, F5.out.bel⟩
theorem lmem_walk (k n a b c d : Int) (w : World) :
    Calls Try.prog 7 #[.agg #[.int .i64 k, .int .i64 n], .agg #[.int .i64 a, .int .i64 b, .int .i64 c, .int .i64 d]] w fun e w' => e = .returned (.bool true) ∧ Below w.heap.size w w' := by
  by_cases hg : grI k n = true
  · exact lmem_great w fun W => by rw [← hg]; exact great_any k n W
  · have hg' : grI k n = false := by simpa using hg
    have HG := fun W => great_any k n W
    rw [hg'] at HG
    by_cases hz : ckxI k n = 0
    · by_cases hy : hasE k n a b c d = 0
      · have ha := ol_act hz
        obtain ⟨_, _, hck⟩ := ckx_kf hz
        have hk : chkI a b c d = 0 := by unfold hasE at hy; rwa [if_pos hck] at hy
        have hR : hasR k n a b c d = hasV k n a b c d := if_pos hy
        refine lmem_ok w HG hy (fun W => of_ok hz W) (fun W => has_any k n a b c d W) fun W A c1 A' c2 h1 h2 => ?_
        refine contains_k (movk_ok ha 0 a b c d (by have := ha.pos; omega) hk) _ ?_ W A c1 A' c2 h1 h2
        rw [hR, Bool.eq_iff_iff, ← mv_has hz hk]
        by_cases e : mvI (olS k n) (olT k n) 0 a b c d = 0 <;> simp [e]
      · exact lmem_has w HG hy (fun W => of_ok hz W) fun W => has_any k n a b c d W
    · exact lmem_of w HG hz (fun W => of_err hz W) fun W => has_any k n a b c d W
end Go.Proofs.Ytjhdpcbkdeagnaa
namespace Go.Proofs.Ytjhdpcbkdeagnaa
open Go.RowKit
set_option linter.unusedVariables false
set_option linter.unusedSimpArgs false

/-- A list of matrices that can be read. -/
def RdM (w : World) (B g : Nat) (L : List M4) : Prop := g < B ∧ ∀ i, i < L.length → w.cell? ⟨g, i * 4, none⟩ = some (.int .i64 (L.getD i (0, 0, 0, 0)).1) ∧ w.cell? ⟨g, i * 4 + 1, none⟩ = some (.int .i64 (L.getD i (0, 0, 0, 0)).2.1) ∧ w.cell? ⟨g, i * 4 + 2, none⟩ = some (.int .i64 (L.getD i (0, 0, 0, 0)).2.2.1) ∧ w.cell? ⟨g, i * 4 + 3, none⟩ = some (.int .i64 (L.getD i (0, 0, 0, 0)).2.2.2)
theorem RdM.up {w w' : World} {g : Nat} {L : List M4} (h : RdM w w.heap.size g L) (hb : Below w.heap.size w w') : RdM w' w'.heap.size g L :=
  ⟨Nat.lt_of_lt_of_le h.1 hb.size, fun i hi => by
    obtain ⟨a, b, c, d⟩ := h.2 i hi
    exact ⟨(hb.cell (p := ⟨g, i * 4, none⟩) h.1).trans a, (hb.cell (p := ⟨g, i * 4 + 1, none⟩) h.1).trans b, (hb.cell (p := ⟨g, i * 4 + 2, none⟩) h.1).trans c, (hb.cell (p := ⟨g, i * 4 + 3, none⟩) h.1).trans d⟩⟩
theorem own_rdm {w : World} {B : Nat} {v : Value} {L : List M4} (h : w.ownsRow B 26 4 v L.length (ms L)) (h0 : 0 < L.length) : ∃ g cap, v = .slice (some ⟨g, 0, none⟩) L.length cap ∧ RdM w w.heap.size g L := by
  obtain ⟨g, cap, hv, hg, _⟩ := row_at h h0
  refine ⟨g, cap, hv, hg, fun i hi => ?_⟩
  obtain ⟨g', cap', hv', _, r1, r2, r3, r4⟩ := row_at h hi
  rw [hv] at hv'
  injection hv' with e1 _ _
  injection e1 with e1
  injection e1 with e1
  subst e1
  have e : L.getD i (0, 0, 0, 0) = L[i] := by rw [List.getD_eq_getElem?_getD, List.getElem?_eq_getElem hi]; rfl
  rw [e]
  exact ⟨r1, r2, r3, r4⟩
set_option maxHeartbeats 3200000 in
set_option maxRecDepth 1000000 in
theorem reps_gen {k n : Int} {N1 N2 : Nat} {xs ys : List Value} {L : List M4} (w : World) (hN : 0 < L.length) (HK0 : ∀ W, Calls Try.prog 42 #[.agg #[.int .i64 k, .int .i64 n]] W fun e w' => e = .returned (.int .i64 0) ∧ Below W.heap.size W w')
    (HS0 : ∀ W, Calls Try.prog 43 #[.agg #[.int .i64 k, .int .i64 n]] W fun e w' => ∃ vS vT vl, e = .returned (.tuple #[.agg #[vS, vT], vl]) ∧ w'.ownsRow W.heap.size 3 1 vS N1 xs ∧ w'.ownsRow W.heap.size 3 1 vT N2 ys ∧ w'.ownsRow W.heap.size 26 4 vl L.length (ms L) ∧ Below W.heap.size W w') :
    Calls Try.prog 25 #[.agg #[.int .i64 k, .int .i64 n]] w fun e w' => ∃ g c, e = .returned (.tuple #[.slice (some ⟨g, 0, none⟩) L.length c, .int .i64 0]) ∧ RdM w' w'.heap.size g L ∧ Below w.heap.size w w' := by
  have HK := Lib.hid HK0
  have HS := Lib.hid HS0
  clear HK0 HS0
  go_enter Try.func25, Try.ntmps25
  go_wp2_with (first
    | (go_at_call 42; ((with_reducible refine (HK.out _).mono ?_); rintro e w1 ⟨rfl, hb⟩; have T1 : Hid (w1.heap[w.heap.size]? = some (.cells #[.int .i64 k, .int .i64 n] 24 (0, 0))) := block_below (heap_alloc_new w _) hb; have HB1 : Hid (Below w.heap.size w w1) := bel1 (Below.refl _ _) hb; obtain ⟨⟨t1, t2⟩, _⟩ := two_of_block T1.out; have hz1 := lt_of_block T1.out; clear hb))
    | (go_at_call 43; ((with_reducible refine (HS.out _).mono ?_); rintro e w2 ⟨vS, vT, vl, rfl, hS, hT, hL, hb⟩; obtain ⟨AS, cS, rfl⟩ := own_len hS; obtain ⟨AT, cT, rfl⟩ := own_len hT; obtain ⟨gl, cL, rfl, hgl⟩ := own_rdm hL hN; have HB2 : Hid (Below w.heap.size w w2) := bel0 HB1.out hb; have HR := Lib.hid hgl; clear hgl; clear hb hS hT hL t1 t2))
    | fail)
  refine bodyPost_ret (v := .tuple #[.slice (some ⟨gl, 0, none⟩) L.length cL, .int .i64 0]) ?_ rfl ⟨gl, cL, rfl, HR.out.up (below1 _ _), HB2.out.trans ((below1 _ _).mono HB2.out.size)⟩
  simp [results, Try.results25, go_sem]
set_option maxHeartbeats 3200000 in
set_option maxRecDepth 1000000 in
theorem reps_bad {k n z : Int} (w : World) (hz : z ≠ 0) (HK0 : ∀ W, Calls Try.prog 42 #[.agg #[.int .i64 k, .int .i64 n]] W fun e w' => e = .returned (.int .i64 z) ∧ Below W.heap.size W w') :
    Calls Try.prog 25 #[.agg #[.int .i64 k, .int .i64 n]] w fun e w' => e = .returned (.tuple #[.slice none 0 0, .int .i64 z]) ∧ Below w.heap.size w w' := by
  have HK := Lib.hid HK0
  have hzb : (z == 0) = false := by simpa using hz
  clear HK0
  go_enter Try.func25, Try.ntmps25
  go_wp2_with (first
    | (go_at_call 42; ((with_reducible refine (HK.out _).mono ?_); rintro e w1 ⟨rfl, hb⟩; have HB1 : Hid (Below w.heap.size w w1) := bel1 (Below.refl _ _) hb; clear hb))
    | fail)
  go_ret2
  exact ⟨rfl, HB1.out⟩
/-- The matrices of an early list are those of the whole. -/
theorem srun_pre {co : M4 → K4} {N : Nat} (hN : ∀ j, j < N → j < (srun co j).L.length) {i j : Nat} (hj : j < (srun co i).L.length) : ∀ m, i ≤ m → m ≤ N → j < (srun co m).L.length ∧ (srun co m).L.getD j (0, 0, 0, 0) = (srun co i).L.getD j (0, 0, 0, 0) := by
  intro m
  induction m with
  | zero => intro h1 _; obtain rfl : i = 0 := by omega
            exact ⟨hj, rfl⟩
  | succ m ih =>
    intro h1 h2
    by_cases e : i = m + 1
    · subst e; exact ⟨hj, rfl⟩
    · obtain ⟨a, b⟩ := ih (by omega) (by omega)
      have hR := RI.all hN m (by omega)
      obtain ⟨e1, _⟩ := srun_one m hR.k
      obtain ⟨E1, x1⟩ := vl_ext (co := co) (srun co m).L (mS ((srun co m).L.getD m (0, 0, 0, 0)))
      obtain ⟨E2, x2⟩ := vl_ext (co := co) (vl co (srun co m).L (mS ((srun co m).L.getD m (0, 0, 0, 0)))) (mT ((srun co m).L.getD m (0, 0, 0, 0)))
      rw [e1, x2, x1, List.append_assoc]
      exact ⟨by rw [List.length_append]; omega, by rw [getD_ext a, b]⟩
theorem small_chk {a b c d : Int} (h : okB (a, b, c, d) = true) (hd : a * d - b * c = 1) : chkI a b c d = 0 := by
  unfold okB at h
  simp only [Bool.and_eq_true, decide_eq_true_eq] at h
  obtain ⟨⟨⟨h1, h2⟩, h3⟩, h4⟩ := h
  have h5 : fitB a b c d = true := by
    unfold fitB
    rw [inE_yes (by omega) (by omega), inE_yes (by omega) (by omega), inE_yes (by omega) (by omega), inE_yes (by omega) (by omega)]
    rfl
  unfold chkI
  rw [if_neg (by rw [h5]; simp), if_pos hd]
noncomputable def olL (k n : Int) : List M4 := (srun (kco k n) (idxN k n.toNat)).L
theorem reps_ok {k n : Int} (h : ckxI k n = 0) (w : World) : Calls Try.prog 25 #[.agg #[.int .i64 k, .int .i64 n]] w fun e w' => ∃ g c, e = .returned (.tuple #[.slice (some ⟨g, 0, none⟩) (olL k n).length c, .int .i64 0]) ∧ RdM w' w'.heap.size g (olL k n) ∧ Below w.heap.size w w' := by
  obtain ⟨hF, hN, _⟩ := ckx_kf h
  have hl : (olL k n).length = idxN k n.toNat := hF.fin.len
  have hp := hF.fin.ri.pos
  refine reps_gen (N1 := (olS k n).length) (N2 := (olT k n).length) (xs := zs (olS k n)) (ys := zs (olT k n)) w hp (fun W => by rw [← h]; exact ckx_any k n W) fun W => ?_
  rw [hl]
  exact ksearch hF hN W
/-- The matrices of the list move point 0 to their own places. -/
theorem rep_mv {k n : Int} (h : ckxI k n = 0) {i : Nat} (hi : i < (olL k n).length) : ∃ a b c d, (olL k n).getD i (0, 0, 0, 0) = (a, b, c, d) ∧ MovK (olS k n) (olT k n) (0 : Int) a b c d (i : Nat) 0 := by
  obtain ⟨hF, hN, _⟩ := ckx_kf h
  have hl : (olL k n).length = idxN k n.toNat := hF.fin.len
  have ha := ol_act h
  obtain ⟨⟨a, b, c, d⟩, he⟩ : ∃ x, x = (olL k n).getD i (0, 0, 0, 0) := ⟨_, rfl⟩
  have hd : dtM (a, b, c, d) = 1 := by rw [he]; exact hF.fin.ri.d _ (getD_inM hi)
  have hiN : i < idxN k n.toNat := by omega
  have ho : okB (a, b, c, d) = true := by
    rw [he]
    have := (srun_pre hF.fin.lt (hF.fin.lt i hiN) (idxN k n.toNat) (by omega) (Nat.le_refl _)).2
    unfold olL
    rw [this]
    exact hF.ok i hiN
  have hk := small_chk ho hd
  have hm : mvI (olS k n) (olT k n) 0 a b c d = i := by
    rw [mv_pl h hk]
    have := hF.fin.pl_L hiN
    rw [he]
    exact this
  refine ⟨a, b, c, d, he.symm, ?_⟩
  have := movk_ok ha 0 a b c d (by have := ha.pos; omega) hk
  rw [hm] at this
  exact this
set_option maxHeartbeats 3200000 in
set_option maxRecDepth 1000000 in
theorem lrep_great {k n : Int} (w : World) (HG0 : ∀ W, Calls Try.prog 23 #[.agg #[.int .i64 k, .int .i64 n]] W fun e w' => e = .returned (.bool true) ∧ Below W.heap.size W w') :
    Calls Try.prog 8 #[.agg #[.int .i64 k, .int .i64 n]] w fun e w' => e = .returned (.bool true) ∧ Below w.heap.size w w' := by
  have HG := Lib.hid HG0
  have T0 : Hid ((w.alloc (.cells #[.int .i64 k, .int .i64 n] 24)).heap[w.heap.size]? = some (.cells #[.int .i64 k, .int .i64 n] 24 (0, 0))) := heap_alloc_new w _
  clear HG0
  go_enter Try.func8, Try.ntmps8
  go_wp2_with (first
    | (go_at_call 23; ((with_reducible refine (HG.out _).mono ?_); rintro e w1 ⟨rfl, hb⟩; have HB1 : Hid (Below w.heap.size w w1) := bel1 (Below.refl _ _) hb; have T1 := Lib.hid (block_below T0.out hb); clear hb))
    | (go_at_call 12; ((with_reducible refine (awake_any _).mono ?_); rintro e w2 ⟨rfl, hb⟩; have HB2 := Lib.hid (bel0 HB1.out hb); have T2 := Lib.hid (block_below T1.out hb); clear hb))
    | fail)
  go_ret
  exact ⟨rfl, HB2.out⟩
set_option maxHeartbeats 3200000 in
set_option maxRecDepth 1000000 in
theorem lrep_err {k n z : Int} (w : World) (HG0 : ∀ W, Calls Try.prog 23 #[.agg #[.int .i64 k, .int .i64 n]] W fun e w' => e = .returned (.bool false) ∧ Below W.heap.size W w') (hz : z ≠ 0) (HO0 : ∀ W, Calls Try.prog 21 #[.agg #[.int .i64 k, .int .i64 n]] W fun e w' => e = .returned (.tuple #[.agg #[.slice none 0 0, .slice none 0 0], .int .i64 z]) ∧ Below W.heap.size W w')
    (HP0 : ∀ W, Calls Try.prog 25 #[.agg #[.int .i64 k, .int .i64 n]] W fun e w' => e = .returned (.tuple #[.slice none 0 0, .int .i64 z]) ∧ Below W.heap.size W w') :
    Calls Try.prog 8 #[.agg #[.int .i64 k, .int .i64 n]] w fun e w' => e = .returned (.bool true) ∧ Below w.heap.size w w' := by
  have HG := Lib.hid HG0
  have HO := Lib.hid HO0
  have HP := Lib.hid HP0
  have T0 : Hid ((w.alloc (.cells #[.int .i64 k, .int .i64 n] 24)).heap[w.heap.size]? = some (.cells #[.int .i64 k, .int .i64 n] 24 (0, 0))) := heap_alloc_new w _
  have hzb : (z == 0) = false := by simpa using hz
  clear HG0 HO0 HP0
  go_enter Try.func8, Try.ntmps8
  go_wp2_with (first
    | (go_at_call 23; ((with_reducible refine (HG.out _).mono ?_); rintro e w1 ⟨rfl, hb⟩; have HB1 : Hid (Below w.heap.size w w1) := bel1 (Below.refl _ _) hb; have T1 := Lib.hid (block_below T0.out hb); clear hb))
    | (go_at_call 12; ((with_reducible refine (awake_any _).mono ?_); rintro e w2 ⟨rfl, hb⟩; have HB2 := Lib.hid (bel0 HB1.out hb); have T2 := Lib.hid (block_below T1.out hb); obtain ⟨⟨t1, t2⟩, _⟩ := two_of_block T2.out; clear hb))
    | (go_at_call 21; ((with_reducible refine (HO.out _).mono ?_); rintro e w3 ⟨rfl, hb⟩; have HB3 : Hid (Below w.heap.size w (w3.alloc (.cells #[.slice none 0 0, .slice none 0 0] 47))) := bel0 (bel0 HB2.out hb) (below1 _ _); have T3 := Lib.hid (block_alloc (block_below T2.out hb) (.cells #[.slice none 0 0, .slice none 0 0] 47)); have X3 : Hid ((w3.alloc (.cells #[.slice none 0 0, .slice none 0 0] 47)).heap[w3.heap.size]? = some (.cells #[.slice none 0 0, .slice none 0 0] 47)) := heap_alloc_new w3 _; clear t1 t2; obtain ⟨⟨t1, t2⟩, _⟩ := two_of_block T3.out; clear hb))
    | (go_at_call 25; ((with_reducible refine (HP.out _).mono ?_); rintro e w4 ⟨rfl, hb⟩; have HB4 := Lib.hid (bel0 HB3.out hb); have X4 := Lib.hid (block_below X3.out hb); obtain ⟨⟨x1, x2⟩, _⟩ := two_of_block X4.out; clear t1 t2 hb))
    | fail)
  go_loopw [7, 8, 9] (fun I _ _ wr => I = .int .i64 0 ∧ Hid (wr = w4)) (fun _ _ _ _ => 0)
  case atStart => exact ⟨rfl, rfl⟩
  case round =>
    obtain ⟨rfl, HW⟩ := hrel
    have hW : wr = w4 := HW.out
    subst hW
    go_wp2
    go_ret
    exact ⟨rfl, HB4.out⟩
set_option maxHeartbeats 3200000 in
set_option maxRecDepth 1000000 in
theorem lrep_ok {k n : Int} {L L' : List Int} {LM : List M4} (w : World) (HG0 : ∀ W, Calls Try.prog 23 #[.agg #[.int .i64 k, .int .i64 n]] W fun e w' => e = .returned (.bool false) ∧ Below W.heap.size W w') (hl : LM.length = L.length) (hl2 : L.length ≤ 1152) (HO0 : ∀ W, Calls Try.prog 21 #[.agg #[.int .i64 k, .int .i64 n]] W fun e w' => ∃ AS cS AT cT, e = .returned (.tuple #[.agg #[.slice AS L.length cS, .slice AT L'.length cT], .int .i64 0]) ∧ RdZ w' w'.heap.size AS cS L ∧ RdZ w' w'.heap.size AT cT L' ∧ Below W.heap.size W w')
    (HP0 : ∀ W, Calls Try.prog 25 #[.agg #[.int .i64 k, .int .i64 n]] W fun e w' => ∃ g c, e = .returned (.tuple #[.slice (some ⟨g, 0, none⟩) L.length c, .int .i64 0]) ∧ RdM w' w'.heap.size g LM ∧ Below W.heap.size W w')
    (HM0 : ∀ i, i < L.length → ∃ a b c d, LM.getD i (0, 0, 0, 0) = (a, b, c, d) ∧ MovK L L' (0 : Int) a b c d (i : Nat) 0) :
    Calls Try.prog 8 #[.agg #[.int .i64 k, .int .i64 n]] w fun e w' => e = .returned (.bool true) ∧ Below w.heap.size w w' := by
  have HG := Lib.hid HG0
  have HO := Lib.hid HO0
  have HP := Lib.hid HP0
  have HM := Lib.hid HM0
  have T0 : Hid ((w.alloc (.cells #[.int .i64 k, .int .i64 n] 24)).heap[w.heap.size]? = some (.cells #[.int .i64 k, .int .i64 n] 24 (0, 0))) := heap_alloc_new w _
  clear HG0 HO0 HP0 HM0
  go_enter Try.func8, Try.ntmps8
  go_wp2_with (first
    | (go_at_call 23; ((with_reducible refine (HG.out _).mono ?_); rintro e w1 ⟨rfl, hb⟩; have HB1 : Hid (Below w.heap.size w w1) := bel1 (Below.refl _ _) hb; have T1 := Lib.hid (block_below T0.out hb); clear hb))
    | (go_at_call 12; ((with_reducible refine (awake_any _).mono ?_); rintro e w2 ⟨rfl, hb⟩; have HB2 := Lib.hid (bel0 HB1.out hb); have T2 := Lib.hid (block_below T1.out hb); obtain ⟨⟨t1, t2⟩, _⟩ := two_of_block T2.out; clear hb))
    | (go_at_call 21; ((with_reducible refine (HO.out _).mono ?_); rintro e w3 ⟨AS, cS, AT, cT, rfl, d1, d2, hb⟩; have HB3 : Hid (Below w.heap.size w (w3.alloc (.cells #[.slice AS L.length cS, .slice AT L'.length cT] 47))) := bel0 (bel0 HB2.out hb) (below1 _ _); have T3 := Lib.hid (block_alloc (block_below T2.out hb) (.cells #[.slice AS L.length cS, .slice AT L'.length cT] 47)); have X3 : Hid ((w3.alloc (.cells #[.slice AS L.length cS, .slice AT L'.length cT] 47)).heap[w3.heap.size]? = some (.cells #[.slice AS L.length cS, .slice AT L'.length cT] 47)) := heap_alloc_new w3 _; have D3 : Hid (RdZ (w3.alloc (.cells #[.slice AS L.length cS, .slice AT L'.length cT] 47)) (w3.alloc (.cells #[.slice AS L.length cS, .slice AT L'.length cT] 47)).heap.size AS cS L ∧ RdZ (w3.alloc (.cells #[.slice AS L.length cS, .slice AT L'.length cT] 47)) (w3.alloc (.cells #[.slice AS L.length cS, .slice AT L'.length cT] 47)).heap.size AT cT L') := ⟨krdz d1 (below1 w3 (.cells #[.slice AS L.length cS, .slice AT L'.length cT] 47)), krdz d2 (below1 w3 (.cells #[.slice AS L.length cS, .slice AT L'.length cT] 47))⟩; clear t1 t2; obtain ⟨⟨t1, t2⟩, _⟩ := two_of_block T3.out; clear hb d1 d2))
    | (go_at_call 25; ((with_reducible refine (HP.out _).mono ?_); rintro e w4 ⟨gl, cl, rfl, hr, hb⟩; have HB4 := Lib.hid (bel0 HB3.out hb); have X4 := Lib.hid (block_below X3.out hb); have D4 := Lib.hid (And.intro (krdz D3.out.1 hb) (krdz D3.out.2 hb)); have R4 := Lib.hid hr; obtain ⟨⟨x1, x2⟩, _⟩ := two_of_block X4.out; clear t1 t2 hb hr))
    | fail)
  go_loopw [7, 8, 9] (fun I _ _ wr => ∃ i : Nat, I = .int .i64 (i : Nat) ∧ i ≤ L.length ∧ Hid (Below w4.heap.size w4 wr)) (fun I _ _ _ => L.length - (intOf I).toNat)
  case atStart => exact ⟨0, rfl, Nat.zero_le _, Below.refl _ _⟩
  case round =>
    obtain ⟨i, rfl, hi, HW⟩ := hrel
    by_cases hlt : i < L.length
    · have hii : (i : Int) < (L.length : Int) := by omega
      obtain ⟨a, b, c, d, he, hmv⟩ := HM.out i hlt
      have hR := (R4.out.up HW.out).2 i (by omega)
      rw [he] at hR
      obtain ⟨q1, q2, q3, q4⟩ := hR
      have hgl : gl < w4.heap.size := R4.out.1
      have HS0 : Hid (∀ {W : World}, Below w4.heap.size w4 W → (W.cell? ⟨w3.heap.size, 0, none⟩ = some (.slice AS L.length cS) ∧ W.cell? ⟨w3.heap.size, 1, none⟩ = some (.slice AT L'.length cT)) ∧ (W.cell? ⟨gl, i * 4, none⟩ = some (.int .i64 a) ∧ W.cell? ⟨gl, i * 4 + 1, none⟩ = some (.int .i64 b) ∧ W.cell? ⟨gl, i * 4 + 2, none⟩ = some (.int .i64 c) ∧ W.cell? ⟨gl, i * 4 + 3, none⟩ = some (.int .i64 d))) := fun {W} hb => by
        have h9 := (R4.out.up hb).2 i (by omega)
        rw [he] at h9
        exact ⟨(two_of_block (block_below X4.out hb)).1, h9⟩
      have HMv : Hid (∀ {W : World}, Below w4.heap.size w4 W → Calls Try.prog 29 #[.agg #[.slice AS L.length cS, .slice AT L'.length cT], .int .i64 0, .agg #[.int .i64 a, .int .i64 b, .int .i64 c, .int .i64 d]] W fun e w' => e = .returned (.tuple #[.int .i64 (i : Nat), .int .i64 0]) ∧ Below W.heap.size W w') := fun {W} hb =>
        hmv W AS cS AT cT (krdz D4.out.1 hb) (krdz D4.out.2 hb)
      have B_0 : Hid (Below w4.heap.size w4 wr.drew) := HW.out.drew
      clear q1 q2 q3 q4 he hmv
      go_upto_region 12 with fail
      go_cut [8, 9] (fun s8 s9 wx => s8 = .int .i64 (i : Nat) ∧ s9 = .int .i64 0 ∧ Hid (Below w4.heap.size w4 wx))
      case first =>
        go_region_held3 (fun w' => (w'.cell? ⟨w3.heap.size, 0, none⟩ = some (.slice AS L.length cS) ∧ w'.cell? ⟨w3.heap.size, 1, none⟩ = some (.slice AT L'.length cT)) ∧ (w'.cell? ⟨gl, i * 4, none⟩ = some (.int .i64 a) ∧ w'.cell? ⟨gl, i * 4 + 1, none⟩ = some (.int .i64 b) ∧ w'.cell? ⟨gl, i * 4 + 2, none⟩ = some (.int .i64 c) ∧ w'.cell? ⟨gl, i * 4 + 3, none⟩ = some (.int .i64 d)))
          (with_reducible first | exact HS0.out B_0.out | exact HS0.out B_1.out | fail)
          (first
            | (go_at_call 29; ((with_reducible refine (HMv.out B_0.out).mono ?_); rintro e z1 ⟨rfl, hb⟩; have B_1 := Lib.hid (bel0 B_0.out hb); clear hb))
            | fail)
        all_goals
          go_wp2_with fail
          go_meet
          exact ⟨rfl, rfl, B_1⟩
      case rest =>
        obtain ⟨rfl, rfl, HW2⟩ := hcut
        go_wp2
        go_roundw
        case rel => exact ⟨i + 1, by go_num, hlt, HW2⟩
        case measure => simp [intOf]; omega
    · obtain rfl : i = L.length := by omega
      have hk2 : ¬ (L.length : Int) < (L.length : Int) := by omega
      go_wp2
      go_ret
      exact ⟨rfl, bel0 HB4.out HW.out⟩
theorem lrep_walk (k n : Int) (w : World) :
    Calls Try.prog 8 #[.agg #[.int .i64 k, .int .i64 n]] w fun e w' => e = .returned (.bool true) ∧ Below w.heap.size w w' := by
  by_cases hg : grI k n = true
  · exact lrep_great w fun W => by rw [← hg]; exact great_any k n W
  · have hg' : grI k n = false := by simpa using hg
    have HG := fun W => great_any k n W
    rw [hg'] at HG
    by_cases hz : ckxI k n = 0
    · obtain ⟨hF, hN, _⟩ := ckx_kf hz
      have hl : (olL k n).length = (olS k n).length := by rw [ol_len.1]; exact hF.fin.len
      refine lrep_ok w HG hl (by rw [ol_len.1]; exact hN) (fun W => of_ok hz W) (fun W => ?_) fun i hi => rep_mv hz (by omega)
      have := reps_ok hz W
      rwa [hl] at this
    · exact lrep_err w HG hz (fun W => of_err hz W) fun W => reps_bad W hz fun W' => ckx_any k n W'
end Go.Proofs.Ytjhdpcbkdeagnaa
