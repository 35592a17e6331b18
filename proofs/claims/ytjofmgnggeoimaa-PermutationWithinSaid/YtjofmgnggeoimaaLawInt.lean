/- PermutationIntersects answers true for all arguments. -/
import Derived.Test.YtjofmgnggeoimaaInC
import Derived.Test.YtjofmgnggeoimaaIntL
import Derived.Test.YtjofmgnggeoimaaSm22L
namespace Go.Proofs.Ytjofmgnggeoimaa
open Go.RowKit
set_option linter.unusedVariables false
set_option linter.unusedSimpArgs false

/-- The boxes of two actions and a matrix. -/
structure L3 (w W : World) (P Q : Array Value) (a b c d : Int) : Prop where
  p : W.heap[w.heap.size]? = some (.cells P 24 (0, 0))
  q : W.heap[w.heap.size + 1]? = some (.cells Q 24 (0, 0))
  m : W.heap[w.heap.size + 1 + 1]? = some (.cells #[.int .i64 a, .int .i64 b, .int .i64 c, .int .i64 d] 32 (0, 0))
  bel : Below w.heap.size w W
theorem L3.start (w : World) (P Q : Array Value) (a b c d : Int) : L3 w (((w.alloc (.cells P 24)).alloc (.cells Q 24)).alloc (.cells #[.int .i64 a, .int .i64 b, .int .i64 c, .int .i64 d] 32)) P Q a b c d :=
  ⟨block_alloc (block_alloc (at_size _ _ rfl) _) _, block_alloc (at_size _ _ (by simp)) _, at_size _ _ (by simp), below3 w _ _ _⟩
theorem L3.below {w W W' : World} {P Q : Array Value} {a b c d : Int} (h : L3 w W P Q a b c d) (hb : Below W.heap.size W W') : L3 w W' P Q a b c d := ⟨block_below h.p hb, block_below h.q hb, block_below h.m hb, bel0 h.bel hb⟩
theorem L3.alloc {w W : World} {P Q : Array Value} {a b c d : Int} (h : L3 w W P Q a b c d) (o : Obj) : L3 w (W.alloc o) P Q a b c d := h.below (below1 W o)
theorem L3.cells {w W : World} {x y x' y' : Value} {a b c d : Int} (h : L3 w W #[x, y] #[x', y'] a b c d) : (W.cell? ⟨w.heap.size, 0, none⟩ = some x ∧ W.cell? ⟨w.heap.size, 1, none⟩ = some y) ∧ (W.cell? ⟨w.heap.size + 1, 0, none⟩ = some x' ∧ W.cell? ⟨w.heap.size + 1, 1, none⟩ = some y') ∧
    (W.cell? ⟨w.heap.size + 1 + 1, 0, none⟩ = some (.int .i64 a) ∧ W.cell? ⟨w.heap.size + 1 + 1, 1, none⟩ = some (.int .i64 b) ∧ W.cell? ⟨w.heap.size + 1 + 1, 2, none⟩ = some (.int .i64 c) ∧ W.cell? ⟨w.heap.size + 1 + 1, 3, none⟩ = some (.int .i64 d)) :=
  ⟨(two_of_block h.p).1, (two_of_block h.q).1, (four_of_block h.m).1⟩
theorem rdz_up {w w' : World} {A : Option Addr} {c : Nat} {l : List Int} (h : RdZ w w.heap.size A c l) (hb : Below w.heap.size w w') : RdZ w' w'.heap.size A c l := (h.below hb).mono hb.size
set_option maxHeartbeats 3200000 in
set_option maxRecDepth 1000000 in
theorem pints_bad {S T S' T' L L' : List Int} {cS cT cS' cT' : Nat} {AS AT AS' AT' : Option Addr} {k a b c d : Int} (w : World) (hk : k ≠ 0) (HI0 : ∀ W, Below w.heap.size w W → Calls Try.prog 29 #[.agg #[.slice AS S.length cS, .slice AT T.length cT], .agg #[.slice AS' S'.length cS', .slice AT' T'.length cT']] W fun e w' => IntOut k L L' W e w') (HR0 : ∀ W, Below w.heap.size w W → Calls Try.prog 30 #[.agg #[.slice AS S.length cS, .slice AT T.length cT], .agg #[.slice AS' S'.length cS', .slice AT' T'.length cT']] W fun e w' => IntOut k L L' W e w') :
    Calls Try.prog 9 #[.agg #[.slice AS S.length cS, .slice AT T.length cT], .agg #[.slice AS' S'.length cS', .slice AT' T'.length cT'], .agg #[.int .i64 a, .int .i64 b, .int .i64 c, .int .i64 d]] w fun e w' => e = .returned (.bool true) ∧ Below w.heap.size w w' := by
  have HI := Lib.hid HI0
  have HR := Lib.hid HR0
  have F0 := Lib.hid (L3.start w #[.slice AS S.length cS, .slice AT T.length cT] #[.slice AS' S'.length cS', .slice AT' T'.length cT'] a b c d)
  have hkb : (k == 0) = false := by simpa using hk
  clear HI0 HR0
  go_enter Try.func9, Try.ntmps9
  go_wp2_with (first
    | (go_at_call 12; ((with_reducible refine (awake_any _).mono ?_); rintro e w1 ⟨rfl, hb⟩; have F1 := Lib.hid (F0.out.below hb); obtain ⟨⟨p1, p2⟩, ⟨q1, q2⟩, ⟨m1, m2, m3, m4⟩⟩ := F1.out.cells; clear hb))
    | (go_at_call 29; ((with_reducible refine (HI.out _ F1.out.bel).mono ?_); rintro e w2 ⟨A1, c1, A2, c2, rfl, d1, d2, hb⟩; have F2 := Lib.hid ((F1.out.below hb).alloc (.cells #[.slice A1 L.length c1, .slice A2 L'.length c2] 24)); have X2 : Hid ((w2.alloc (.cells #[.slice A1 L.length c1, .slice A2 L'.length c2] 24)).heap[w2.heap.size]? = some (.cells #[.slice A1 L.length c1, .slice A2 L'.length c2] 24 (0, 0))) := heap_alloc_new w2 _; have D2 := Lib.hid (And.intro (rdz_up d1 (below1 w2 (.cells #[.slice A1 L.length c1, .slice A2 L'.length c2] 24))) (rdz_up d2 (below1 w2 (.cells #[.slice A1 L.length c1, .slice A2 L'.length c2] 24)))); clear p1 p2 q1 q2 m1 m2 m3 m4; obtain ⟨⟨p1, p2⟩, ⟨q1, q2⟩, ⟨m1, m2, m3, m4⟩⟩ := F2.out.cells; clear hb d1 d2))
    | (go_at_call 30; ((with_reducible refine (HR.out _ F2.out.bel).mono ?_); rintro e w3 ⟨A3, c3, A4, c4, rfl, d3, d4, hb⟩; have F3 := Lib.hid ((F2.out.below hb).alloc (.cells #[.slice A3 L.length c3, .slice A4 L'.length c4] 24)); have X3 := Lib.hid (block_alloc (block_below X2.out hb) (.cells #[.slice A3 L.length c3, .slice A4 L'.length c4] 24)); have Y3 : Hid ((w3.alloc (.cells #[.slice A3 L.length c3, .slice A4 L'.length c4] 24)).heap[w3.heap.size]? = some (.cells #[.slice A3 L.length c3, .slice A4 L'.length c4] 24 (0, 0))) := heap_alloc_new w3 _; have D3 := Lib.hid (And.intro (rdz_up (rdz_up D2.out.1 hb) (below1 w3 (.cells #[.slice A3 L.length c3, .slice A4 L'.length c4] 24))) (rdz_up (rdz_up D2.out.2 hb) (below1 w3 (.cells #[.slice A3 L.length c3, .slice A4 L'.length c4] 24)))); have E3 := Lib.hid (And.intro (rdz_up d3 (below1 w3 (.cells #[.slice A3 L.length c3, .slice A4 L'.length c4] 24))) (rdz_up d4 (below1 w3 (.cells #[.slice A3 L.length c3, .slice A4 L'.length c4] 24)))); obtain ⟨⟨x1, x2⟩, _⟩ := two_of_block X3.out; obtain ⟨⟨y1, y2⟩, _⟩ := two_of_block Y3.out; clear p1 p2 q1 q2 m1 m2 m3 m4; obtain ⟨⟨p1, p2⟩, ⟨q1, q2⟩, ⟨m1, m2, m3, m4⟩⟩ := F3.out.cells; clear hb d3 d4))
    | (go_at_call 23; ((with_reducible refine (same22 _ (Nat.le_refl _) D3.out.1 D3.out.2 E3.out.1 E3.out.2).mono ?_); rintro e w4 ⟨rfl, hb⟩; have F4 := Lib.hid (F3.out.below hb); have X4 := Lib.hid (block_below X3.out hb); have D4 := Lib.hid (And.intro (rdz_up D3.out.1 hb) (rdz_up D3.out.2 hb)); clear p1 p2 q1 q2 m1 m2 m3 m4; clear x1 x2 y1 y2 hb; obtain ⟨⟨p1, p2⟩, ⟨q1, q2⟩, ⟨m1, m2, m3, m4⟩⟩ := F4.out.cells))
    | fail)
  go_ret
  exact ⟨rfl, F4.out.bel⟩
set_option maxHeartbeats 3200000 in
set_option maxRecDepth 1000000 in
theorem pints_mat {S T S' T' L L' : List Int} {cS cT cS' cT' : Nat} {AS AT AS' AT' : Option Addr} {k a b c d : Int} (w : World) (hk : k = 0) {ck : Int} (hck : ck ≠ 0) (HK0 : ∀ W, Calls Try.prog 31 #[.agg #[.int .i64 a, .int .i64 b, .int .i64 c, .int .i64 d]] W fun e w' => e = .returned (.int .i64 ck) ∧ Below W.heap.size W w') (HI0 : ∀ W, Below w.heap.size w W → Calls Try.prog 29 #[.agg #[.slice AS S.length cS, .slice AT T.length cT], .agg #[.slice AS' S'.length cS', .slice AT' T'.length cT']] W fun e w' => IntOut k L L' W e w') (HR0 : ∀ W, Below w.heap.size w W → Calls Try.prog 30 #[.agg #[.slice AS S.length cS, .slice AT T.length cT], .agg #[.slice AS' S'.length cS', .slice AT' T'.length cT']] W fun e w' => IntOut k L L' W e w') :
    Calls Try.prog 9 #[.agg #[.slice AS S.length cS, .slice AT T.length cT], .agg #[.slice AS' S'.length cS', .slice AT' T'.length cT'], .agg #[.int .i64 a, .int .i64 b, .int .i64 c, .int .i64 d]] w fun e w' => e = .returned (.bool true) ∧ Below w.heap.size w w' := by
  subst hk
  have HI := Lib.hid HI0
  have HR := Lib.hid HR0
  have HK := Lib.hid HK0
  have F0 := Lib.hid (L3.start w #[.slice AS S.length cS, .slice AT T.length cT] #[.slice AS' S'.length cS', .slice AT' T'.length cT'] a b c d)
  have hkb : (ck == 0) = false := by simpa using hck
  clear HI0 HR0 HK0
  go_enter Try.func9, Try.ntmps9
  go_wp2_with (first
    | (go_at_call 12; ((with_reducible refine (awake_any _).mono ?_); rintro e w1 ⟨rfl, hb⟩; have F1 := Lib.hid (F0.out.below hb); obtain ⟨⟨p1, p2⟩, ⟨q1, q2⟩, ⟨m1, m2, m3, m4⟩⟩ := F1.out.cells; clear hb))
    | (go_at_call 29; ((with_reducible refine (HI.out _ F1.out.bel).mono ?_); rintro e w2 ⟨A1, c1, A2, c2, rfl, d1, d2, hb⟩; have F2 := Lib.hid ((F1.out.below hb).alloc (.cells #[.slice A1 L.length c1, .slice A2 L'.length c2] 24)); have X2 : Hid ((w2.alloc (.cells #[.slice A1 L.length c1, .slice A2 L'.length c2] 24)).heap[w2.heap.size]? = some (.cells #[.slice A1 L.length c1, .slice A2 L'.length c2] 24 (0, 0))) := heap_alloc_new w2 _; have D2 := Lib.hid (And.intro (rdz_up d1 (below1 w2 (.cells #[.slice A1 L.length c1, .slice A2 L'.length c2] 24))) (rdz_up d2 (below1 w2 (.cells #[.slice A1 L.length c1, .slice A2 L'.length c2] 24)))); clear p1 p2 q1 q2 m1 m2 m3 m4; obtain ⟨⟨p1, p2⟩, ⟨q1, q2⟩, ⟨m1, m2, m3, m4⟩⟩ := F2.out.cells; clear hb d1 d2))
    | (go_at_call 30; ((with_reducible refine (HR.out _ F2.out.bel).mono ?_); rintro e w3 ⟨A3, c3, A4, c4, rfl, d3, d4, hb⟩; have F3 := Lib.hid ((F2.out.below hb).alloc (.cells #[.slice A3 L.length c3, .slice A4 L'.length c4] 24)); have X3 := Lib.hid (block_alloc (block_below X2.out hb) (.cells #[.slice A3 L.length c3, .slice A4 L'.length c4] 24)); have Y3 : Hid ((w3.alloc (.cells #[.slice A3 L.length c3, .slice A4 L'.length c4] 24)).heap[w3.heap.size]? = some (.cells #[.slice A3 L.length c3, .slice A4 L'.length c4] 24 (0, 0))) := heap_alloc_new w3 _; have D3 := Lib.hid (And.intro (rdz_up (rdz_up D2.out.1 hb) (below1 w3 (.cells #[.slice A3 L.length c3, .slice A4 L'.length c4] 24))) (rdz_up (rdz_up D2.out.2 hb) (below1 w3 (.cells #[.slice A3 L.length c3, .slice A4 L'.length c4] 24)))); have E3 := Lib.hid (And.intro (rdz_up d3 (below1 w3 (.cells #[.slice A3 L.length c3, .slice A4 L'.length c4] 24))) (rdz_up d4 (below1 w3 (.cells #[.slice A3 L.length c3, .slice A4 L'.length c4] 24)))); obtain ⟨⟨x1, x2⟩, _⟩ := two_of_block X3.out; obtain ⟨⟨y1, y2⟩, _⟩ := two_of_block Y3.out; clear p1 p2 q1 q2 m1 m2 m3 m4; obtain ⟨⟨p1, p2⟩, ⟨q1, q2⟩, ⟨m1, m2, m3, m4⟩⟩ := F3.out.cells; clear hb d3 d4))
    | (go_at_call 23; ((with_reducible refine (same22 _ (Nat.le_refl _) D3.out.1 D3.out.2 E3.out.1 E3.out.2).mono ?_); rintro e w4 ⟨rfl, hb⟩; have F4 := Lib.hid (F3.out.below hb); have X4 := Lib.hid (block_below X3.out hb); have D4 := Lib.hid (And.intro (rdz_up D3.out.1 hb) (rdz_up D3.out.2 hb)); clear p1 p2 q1 q2 m1 m2 m3 m4; clear x1 x2 y1 y2 hb; obtain ⟨⟨p1, p2⟩, ⟨q1, q2⟩, ⟨m1, m2, m3, m4⟩⟩ := F4.out.cells))
    | (go_at_call 31; ((with_reducible refine (HK.out _).mono ?_); rintro e w5 ⟨rfl, hb⟩; have F5 := Lib.hid (F4.out.below hb); have X5 := Lib.hid (block_below X4.out hb); have D5 := Lib.hid (And.intro (rdz_up D4.out.1 hb) (rdz_up D4.out.2 hb)); clear p1 p2 q1 q2 m1 m2 m3 m4; clear hb; obtain ⟨⟨p1, p2⟩, ⟨q1, q2⟩, ⟨m1, m2, m3, m4⟩⟩ := F5.out.cells))
    | fail)
  go_ret
  exact ⟨rfl, F5.out.bel⟩
set_option maxHeartbeats 6400000 in
set_option maxRecDepth 1000000 in
theorem pints_ok {S T S' T' L L' : List Int} {cS cT cS' cT' : Nat} {AS AT AS' AT' : Option Addr} {k a b c d : Int} (w : World) (hk : k = 0) (HK0 : ∀ W, Calls Try.prog 31 #[.agg #[.int .i64 a, .int .i64 b, .int .i64 c, .int .i64 d]] W fun e w' => e = .returned (.int .i64 0) ∧ Below W.heap.size W w') (HI0 : ∀ W, Below w.heap.size w W → Calls Try.prog 29 #[.agg #[.slice AS S.length cS, .slice AT T.length cT], .agg #[.slice AS' S'.length cS', .slice AT' T'.length cT']] W fun e w' => IntOut k L L' W e w') (HR0 : ∀ W, Below w.heap.size w W → Calls Try.prog 30 #[.agg #[.slice AS S.length cS, .slice AT T.length cT], .agg #[.slice AS' S'.length cS', .slice AT' T'.length cT']] W fun e w' => IntOut k L L' W e w') (u1 u2 u3 : Bool) (hu : u3 = (u1 && u2))
    (HA0 : ∀ W, Below w.heap.size w W → Calls Try.prog 19 #[.agg #[.slice AS S.length cS, .slice AT T.length cT], .agg #[.int .i64 a, .int .i64 b, .int .i64 c, .int .i64 d]] W fun e w' => e = .returned (.tuple #[.bool u1, .int .i64 0]) ∧ Below W.heap.size W w')
    (HB0 : ∀ W, Below w.heap.size w W → Calls Try.prog 19 #[.agg #[.slice AS' S'.length cS', .slice AT' T'.length cT'], .agg #[.int .i64 a, .int .i64 b, .int .i64 c, .int .i64 d]] W fun e w' => e = .returned (.tuple #[.bool u2, .int .i64 0]) ∧ Below W.heap.size W w')
    (HX0 : ∀ (W : World) (A A' : Option Addr) (c1 c2 : Nat), RdZ W W.heap.size A c1 L → RdZ W W.heap.size A' c2 L' → Calls Try.prog 19 #[.agg #[.slice A L.length c1, .slice A' L'.length c2], .agg #[.int .i64 a, .int .i64 b, .int .i64 c, .int .i64 d]] W fun e w' => e = .returned (.tuple #[.bool u3, .int .i64 0]) ∧ Below W.heap.size W w') :
    Calls Try.prog 9 #[.agg #[.slice AS S.length cS, .slice AT T.length cT], .agg #[.slice AS' S'.length cS', .slice AT' T'.length cT'], .agg #[.int .i64 a, .int .i64 b, .int .i64 c, .int .i64 d]] w fun e w' => e = .returned (.bool true) ∧ Below w.heap.size w w' := by
  subst hk
  have HI := Lib.hid HI0
  have HR := Lib.hid HR0
  have HK := Lib.hid HK0
  have HC1 := Lib.hid HA0
  have HC2 := Lib.hid HB0
  have F0 := Lib.hid (L3.start w #[.slice AS S.length cS, .slice AT T.length cT] #[.slice AS' S'.length cS', .slice AT' T'.length cT'] a b c d)
  clear HI0 HR0 HK0 HA0 HB0
  rcases u1 with _ | _ <;> rcases u2 with _ | _
  all_goals
    simp only [Bool.and_self, Bool.and_true, Bool.and_false, Bool.true_and, Bool.false_and] at hu
    subst hu
    have HC3 := Lib.hid HX0
    clear HX0
    go_enter Try.func9, Try.ntmps9
    go_wp2_with (first
      | (go_at_call 12; ((with_reducible refine (awake_any _).mono ?_); rintro e w1 ⟨rfl, hb⟩; have F1 := Lib.hid (F0.out.below hb); obtain ⟨⟨p1, p2⟩, ⟨q1, q2⟩, ⟨m1, m2, m3, m4⟩⟩ := F1.out.cells; clear hb))
      | (go_at_call 29; ((with_reducible refine (HI.out _ F1.out.bel).mono ?_); rintro e w2 ⟨A1, c1, A2, c2, rfl, d1, d2, hb⟩; have F2 := Lib.hid ((F1.out.below hb).alloc (.cells #[.slice A1 L.length c1, .slice A2 L'.length c2] 24)); have X2 : Hid ((w2.alloc (.cells #[.slice A1 L.length c1, .slice A2 L'.length c2] 24)).heap[w2.heap.size]? = some (.cells #[.slice A1 L.length c1, .slice A2 L'.length c2] 24 (0, 0))) := heap_alloc_new w2 _; have D2 := Lib.hid (And.intro (rdz_up d1 (below1 w2 (.cells #[.slice A1 L.length c1, .slice A2 L'.length c2] 24))) (rdz_up d2 (below1 w2 (.cells #[.slice A1 L.length c1, .slice A2 L'.length c2] 24)))); clear p1 p2 q1 q2 m1 m2 m3 m4; obtain ⟨⟨p1, p2⟩, ⟨q1, q2⟩, ⟨m1, m2, m3, m4⟩⟩ := F2.out.cells; clear hb d1 d2))
      | (go_at_call 30; ((with_reducible refine (HR.out _ F2.out.bel).mono ?_); rintro e w3 ⟨A3, c3, A4, c4, rfl, d3, d4, hb⟩; have F3 := Lib.hid ((F2.out.below hb).alloc (.cells #[.slice A3 L.length c3, .slice A4 L'.length c4] 24)); have X3 := Lib.hid (block_alloc (block_below X2.out hb) (.cells #[.slice A3 L.length c3, .slice A4 L'.length c4] 24)); have Y3 : Hid ((w3.alloc (.cells #[.slice A3 L.length c3, .slice A4 L'.length c4] 24)).heap[w3.heap.size]? = some (.cells #[.slice A3 L.length c3, .slice A4 L'.length c4] 24 (0, 0))) := heap_alloc_new w3 _; have D3 := Lib.hid (And.intro (rdz_up (rdz_up D2.out.1 hb) (below1 w3 (.cells #[.slice A3 L.length c3, .slice A4 L'.length c4] 24))) (rdz_up (rdz_up D2.out.2 hb) (below1 w3 (.cells #[.slice A3 L.length c3, .slice A4 L'.length c4] 24)))); have E3 := Lib.hid (And.intro (rdz_up d3 (below1 w3 (.cells #[.slice A3 L.length c3, .slice A4 L'.length c4] 24))) (rdz_up d4 (below1 w3 (.cells #[.slice A3 L.length c3, .slice A4 L'.length c4] 24)))); obtain ⟨⟨x1, x2⟩, _⟩ := two_of_block X3.out; obtain ⟨⟨y1, y2⟩, _⟩ := two_of_block Y3.out; clear p1 p2 q1 q2 m1 m2 m3 m4; obtain ⟨⟨p1, p2⟩, ⟨q1, q2⟩, ⟨m1, m2, m3, m4⟩⟩ := F3.out.cells; clear hb d3 d4))
      | (go_at_call 23; ((with_reducible refine (same22 _ (Nat.le_refl _) D3.out.1 D3.out.2 E3.out.1 E3.out.2).mono ?_); rintro e w4 ⟨rfl, hb⟩; have F4 := Lib.hid (F3.out.below hb); have X4 := Lib.hid (block_below X3.out hb); have D4 := Lib.hid (And.intro (rdz_up D3.out.1 hb) (rdz_up D3.out.2 hb)); clear p1 p2 q1 q2 m1 m2 m3 m4; clear x1 x2 y1 y2 hb; obtain ⟨⟨p1, p2⟩, ⟨q1, q2⟩, ⟨m1, m2, m3, m4⟩⟩ := F4.out.cells))
      | (go_at_call 31; ((with_reducible refine (HK.out _).mono ?_); rintro e w5 ⟨rfl, hb⟩; have F5 := Lib.hid (F4.out.below hb); have X5 := Lib.hid (block_below X4.out hb); have D5 := Lib.hid (And.intro (rdz_up D4.out.1 hb) (rdz_up D4.out.2 hb)); clear p1 p2 q1 q2 m1 m2 m3 m4; clear hb; obtain ⟨⟨p1, p2⟩, ⟨q1, q2⟩, ⟨m1, m2, m3, m4⟩⟩ := F5.out.cells))
      | (go_at_call 19; ((with_reducible refine (HC1.out _ F5.out.bel).mono ?_); rintro e w6 ⟨rfl, hb⟩; have F6 := Lib.hid (F5.out.below hb); have X6 := Lib.hid (block_below X5.out hb); have D6 := Lib.hid (And.intro (rdz_up D5.out.1 hb) (rdz_up D5.out.2 hb)); clear p1 p2 q1 q2 m1 m2 m3 m4; clear hb; obtain ⟨⟨p1, p2⟩, ⟨q1, q2⟩, ⟨m1, m2, m3, m4⟩⟩ := F6.out.cells))
      | (go_at_call 19; ((with_reducible refine (HC2.out _ F6.out.bel).mono ?_); rintro e w7 ⟨rfl, hb⟩; have F7 := Lib.hid (F6.out.below hb); have X7 := Lib.hid (block_below X6.out hb); have D7 := Lib.hid (And.intro (rdz_up D6.out.1 hb) (rdz_up D6.out.2 hb)); clear p1 p2 q1 q2 m1 m2 m3 m4; clear hb; obtain ⟨⟨p1, p2⟩, ⟨q1, q2⟩, ⟨m1, m2, m3, m4⟩⟩ := F7.out.cells; obtain ⟨⟨x1, x2⟩, _⟩ := two_of_block X7.out))
      | (go_at_call 19; ((with_reducible refine (HC3.out _ _ _ _ _ D7.out.1 D7.out.2).mono ?_); rintro e w8 ⟨rfl, hb⟩; have F8 := Lib.hid (F7.out.below hb); clear p1 p2 q1 q2 m1 m2 m3 m4; clear hb x1 x2))
      | fail)
    go_ret
    exact ⟨rfl, F8.out.bel⟩
set_option maxHeartbeats 1600000 in
theorem pints_walk (S T S' T' : List Int) {cS cT cS' cT' : Nat} {AS AT AS' AT' : Option Addr} (a b c d : Int) (w : World) (hS : RdZ w w.heap.size AS cS S) (hT : RdZ w w.heap.size AT cT T) (hS' : RdZ w w.heap.size AS' cS' S') (hT' : RdZ w w.heap.size AT' cT' T') :
    Calls Try.prog 9 #[.agg #[.slice AS S.length cS, .slice AT T.length cT], .agg #[.slice AS' S'.length cS', .slice AT' T'.length cT'], .agg #[.int .i64 a, .int .i64 b, .int .i64 c, .int .i64 d]] w fun e w' => e = .returned (.bool true) ∧ Below w.heap.size w w' := by
  have HI : ∀ W, Below w.heap.size w W → Calls Try.prog 29 #[.agg #[.slice AS S.length cS, .slice AT T.length cT], .agg #[.slice AS' S'.length cS', .slice AT' T'.length cT']] W fun e w' => IntOut (xk S T S' T') (xl S T S' T') (xr S T S' T') W e w' := fun W hb => pint_any W (rdz_up hS hb) (rdz_up hT hb) (rdz_up hS' hb) (rdz_up hT' hb)
  have HR : ∀ W, Below w.heap.size w W → Calls Try.prog 30 #[.agg #[.slice AS S.length cS, .slice AT T.length cT], .agg #[.slice AS' S'.length cS', .slice AT' T'.length cT']] W fun e w' => IntOut (xk S T S' T') (xl S T S' T') (xr S T S' T') W e w' := fun W hb => rint_any W (rdz_up hS hb) (rdz_up hT hb) (rdz_up hS' hb) (rdz_up hT' hb)
  by_cases hk : xk S T S' T' = 0
  · by_cases hc : chkI a b c d = 0
    · have hz : chk2 S T S' T' = 0 := by
        unfold xk at hk
        by_cases hz : chk2 S T S' T' = 0
        · exact hz
        · rw [if_neg hz] at hk; exact hk
      have hl : xN S T S' T' ≤ 1152 := by
        unfold xk at hk
        rw [if_pos hz] at hk
        by_cases h9 : xN S T S' T' ≤ 1152
        · exact h9
        · rw [if_neg h9] at hk; exact absurd hk (by decide)
      obtain ⟨ha, hb⟩ := chk2_ok hz
      have hx := x_act ha hb hl
      have e1 : xl S T S' T' = xS S T S' T' := if_pos hk
      have e2 : xr S T S' T' = xT S T S' T' := if_pos hk
      have hiff : mvI (xS S T S' T') (xT S T S' T') 0 a b c d = 0 ↔ mvI S T 0 a b c d = 0 ∧ mvI S' T' 0 a b c d = 0 := by
        rw [mvI_av hc, mvI_av hc, mvI_av hc, xS_len]
        exact two_fix (pact_of ha) (pact_of hb) _
      refine pints_ok w hk (fun W => by rw [← hc]; exact check_any a b c d W) HI HR (decide (mvI S T 0 a b c d = 0)) (decide (mvI S' T' 0 a b c d = 0)) (decide (mvI (xS S T S' T') (xT S T S' T') 0 a b c d = 0)) (by simp [hiff])
        (fun W h => contains_is (moves_ok ha 0 a b c d (by have := ha.pos; omega) hc) _ (by by_cases e : mvI S T 0 a b c d = 0 <;> simp [e]) W AS cS AT cT (rdz_up hS h) (rdz_up hT h))
        (fun W h => contains_is (moves_ok hb 0 a b c d (by have := hb.pos; omega) hc) _ (by by_cases e : mvI S' T' 0 a b c d = 0 <;> simp [e]) W AS' cS' AT' cT' (rdz_up hS' h) (rdz_up hT' h))
        (fun W A A' c1 c2 h1 h2 => ?_)
      rw [e1] at h1 ⊢
      rw [e2] at h2 ⊢
      exact contains_is (moves_ok hx 0 a b c d (by have := hx.pos; omega) hc) _ (by by_cases e : mvI (xS S T S' T') (xT S T S' T') 0 a b c d = 0 <;> simp [e]) W A c1 A' c2 h1 h2
    · exact pints_mat w hk hc (fun W => check_any a b c d W) HI HR
  · exact pints_bad w hk HI HR
end Go.Proofs.Ytjofmgnggeoimaa
