/- PermutationWithin answers true for all arguments. -/
import Derived.Test.YtjofmgnggeoimaaLawInt
import Derived.Test.YtjofmgnggeoimaaWinL
namespace Go.Proofs.Ytjofmgnggeoimaa
open Go.RowKit
set_option linter.unusedVariables false
set_option linter.unusedSimpArgs false

theorem B2.cells {w W : World} {x y x' y' : Value} (h : B2 w W #[x, y] #[x', y']) : (W.cell? ⟨w.heap.size, 0, none⟩ = some x ∧ W.cell? ⟨w.heap.size, 1, none⟩ = some y) ∧ (W.cell? ⟨w.heap.size + 1, 0, none⟩ = some x' ∧ W.cell? ⟨w.heap.size + 1, 1, none⟩ = some y') :=
  ⟨(two_of_block h.p).1, (two_of_block h.q).1⟩
set_option maxHeartbeats 3200000 in
set_option maxRecDepth 1000000 in
theorem pwin_bad {S T S' T' : List Int} {cS cT cS' cT' : Nat} {AS AT AS' AT' : Option Addr} (w : World) (z : Int) (hz : z ≠ 0) (HW0 : ∀ W, Below w.heap.size w W → Calls Try.prog 32 #[.agg #[.slice AS S.length cS, .slice AT T.length cT], .agg #[.slice AS' S'.length cS', .slice AT' T'.length cT']] W fun e w' => e = .returned (.tuple #[.bool false, .int .i64 z]) ∧ Below W.heap.size W w')
    (HK0 : ∀ W, Below w.heap.size w W → Calls Try.prog 33 #[.agg #[.slice AS S.length cS, .slice AT T.length cT], .agg #[.slice AS' S'.length cS', .slice AT' T'.length cT']] W fun e w' => e = .returned (.int .i64 z) ∧ Below W.heap.size W w') :
    Calls Try.prog 10 #[.agg #[.slice AS S.length cS, .slice AT T.length cT], .agg #[.slice AS' S'.length cS', .slice AT' T'.length cT']] w fun e w' => e = .returned (.bool true) ∧ Below w.heap.size w w' := by
  have HW1 := Lib.hid HW0
  have HCk := Lib.hid HK0
  have F0 := Lib.hid (B2.start w #[.slice AS S.length cS, .slice AT T.length cT] #[.slice AS' S'.length cS', .slice AT' T'.length cT'])
  have hkb : (z == 0) = false := by simpa using hz
  clear HW0 HK0
  go_enter Try.func10, Try.ntmps10
  go_wp2_with (first
    | (go_at_call 12; ((with_reducible refine (awake_any _).mono ?_); rintro e w1 ⟨rfl, hb⟩; have F1 := Lib.hid (F0.out.below hb); obtain ⟨⟨p1, p2⟩, ⟨q1, q2⟩⟩ := F1.out.cells; clear hb))
    | (go_at_call 32; ((with_reducible refine (HW1.out _ F1.out.bel).mono ?_); rintro e w2 ⟨rfl, hb⟩; have F2 := Lib.hid (F1.out.below hb); clear p1 p2 q1 q2; obtain ⟨⟨p1, p2⟩, ⟨q1, q2⟩⟩ := F2.out.cells; clear hb))
    | (go_at_call 33; ((with_reducible refine (HCk.out _ F2.out.bel).mono ?_); rintro e w3 ⟨rfl, hb⟩; have F3 := Lib.hid (F2.out.below hb); clear p1 p2 q1 q2; obtain ⟨⟨p1, p2⟩, ⟨q1, q2⟩⟩ := F3.out.cells; clear hb))
    | fail)
  go_ret
  exact ⟨rfl, F3.out.bel⟩
set_option maxHeartbeats 6400000 in
set_option maxRecDepth 1000000 in
theorem pwin_ok {S T S' T' : List Int} {cS cT cS' cT' : Nat} {AS AT AS' AT' : Option Addr} (w : World) (L L' : List Int) (u : Bool) (HW0 : ∀ W, Below w.heap.size w W → Calls Try.prog 32 #[.agg #[.slice AS S.length cS, .slice AT T.length cT], .agg #[.slice AS' S'.length cS', .slice AT' T'.length cT']] W fun e w' => e = .returned (.tuple #[.bool u, .int .i64 0]) ∧ Below W.heap.size W w')
    (HK0 : ∀ W, Below w.heap.size w W → Calls Try.prog 33 #[.agg #[.slice AS S.length cS, .slice AT T.length cT], .agg #[.slice AS' S'.length cS', .slice AT' T'.length cT']] W fun e w' => e = .returned (.int .i64 0) ∧ Below W.heap.size W w')
    (HP0 : ∀ W, Below w.heap.size w W → Calls Try.prog 22 #[.agg #[.slice AS S.length cS, .slice AT T.length cT]] W fun e w' => ∃ A c A' c', e = .returned (.tuple #[.agg #[.slice A L.length c, .slice A' L'.length c'], .int .i64 0]) ∧ RdZ w' w'.heap.size A c L ∧ RdZ w' w'.heap.size A' c' L' ∧ Below W.heap.size W w')
    (HS0 : ∀ W, Below w.heap.size w W → Calls Try.prog 32 #[.agg #[.slice AS S.length cS, .slice AT T.length cT], .agg #[.slice AS S.length cS, .slice AT T.length cT]] W fun e w' => e = .returned (.tuple #[.bool true, .int .i64 0]) ∧ Below W.heap.size W w')
    (HT0 : ∀ (W : World) (A A' : Option Addr) (c1 c2 : Nat), Below w.heap.size w W → RdZ W W.heap.size A c1 L → RdZ W W.heap.size A' c2 L' → Calls Try.prog 32 #[.agg #[.slice AS S.length cS, .slice AT T.length cT], .agg #[.slice A L.length c1, .slice A' L'.length c2]] W fun e w' => e = .returned (.tuple #[.bool true, .int .i64 0]) ∧ Below W.heap.size W w')
    (HR0 : ∀ W, Below w.heap.size w W → Calls Try.prog 34 #[.agg #[.slice AS S.length cS, .slice AT T.length cT], .agg #[.slice AS' S'.length cS', .slice AT' T'.length cT']] W fun e w' => e = .returned (.bool u) ∧ Below W.heap.size W w') :
    Calls Try.prog 10 #[.agg #[.slice AS S.length cS, .slice AT T.length cT], .agg #[.slice AS' S'.length cS', .slice AT' T'.length cT']] w fun e w' => e = .returned (.bool true) ∧ Below w.heap.size w w' := by
  have HW1 := Lib.hid HW0
  have HCk := Lib.hid HK0
  have HPr := Lib.hid HP0
  have HW2 := Lib.hid HS0
  have HW3 := Lib.hid HT0
  have HRw := Lib.hid HR0
  have F0 := Lib.hid (B2.start w #[.slice AS S.length cS, .slice AT T.length cT] #[.slice AS' S'.length cS', .slice AT' T'.length cT'])
  clear HW0 HK0 HP0 HS0 HT0 HR0
  rcases u with _ | _
  all_goals
    go_enter Try.func10, Try.ntmps10
    go_wp2_with (first
      | (go_at_call 12; ((with_reducible refine (awake_any _).mono ?_); rintro e w1 ⟨rfl, hb⟩; have F1 := Lib.hid (F0.out.below hb); obtain ⟨⟨p1, p2⟩, ⟨q1, q2⟩⟩ := F1.out.cells; clear hb))
      | (go_at_call 32; ((with_reducible refine (HW1.out _ F1.out.bel).mono ?_); rintro e w2 ⟨rfl, hb⟩; have F2 := Lib.hid (F1.out.below hb); clear p1 p2 q1 q2; obtain ⟨⟨p1, p2⟩, ⟨q1, q2⟩⟩ := F2.out.cells; clear hb))
      | (go_at_call 33; ((with_reducible refine (HCk.out _ F2.out.bel).mono ?_); rintro e w3 ⟨rfl, hb⟩; have F3 := Lib.hid (F2.out.below hb); clear p1 p2 q1 q2; obtain ⟨⟨p1, p2⟩, ⟨q1, q2⟩⟩ := F3.out.cells; clear hb))
      | (go_at_call 22; ((with_reducible refine (HPr.out _ F3.out.bel).mono ?_); rintro e w4 ⟨A1, c1, A2, c2, rfl, d1, d2, hb⟩; have F4 := Lib.hid ((F3.out.below hb).below (below1 w4 (.cells #[.slice A1 L.length c1, .slice A2 L'.length c2] 24))); have X4 : Hid ((w4.alloc (.cells #[.slice A1 L.length c1, .slice A2 L'.length c2] 24)).heap[w4.heap.size]? = some (.cells #[.slice A1 L.length c1, .slice A2 L'.length c2] 24 (0, 0))) := heap_alloc_new w4 _; have D4 := Lib.hid (And.intro (rdz_up d1 (below1 w4 (.cells #[.slice A1 L.length c1, .slice A2 L'.length c2] 24))) (rdz_up d2 (below1 w4 (.cells #[.slice A1 L.length c1, .slice A2 L'.length c2] 24)))); clear p1 p2 q1 q2; obtain ⟨⟨p1, p2⟩, ⟨q1, q2⟩⟩ := F4.out.cells; clear hb d1 d2))
      | (go_at_call 32; ((with_reducible refine (HW2.out _ F4.out.bel).mono ?_); rintro e w5 ⟨rfl, hb⟩; have F5 := Lib.hid (F4.out.below hb); have X5 := Lib.hid (block_below X4.out hb); have D5 := Lib.hid (And.intro (rdz_up D4.out.1 hb) (rdz_up D4.out.2 hb)); obtain ⟨⟨x1, x2⟩, _⟩ := two_of_block X5.out; clear p1 p2 q1 q2; obtain ⟨⟨p1, p2⟩, ⟨q1, q2⟩⟩ := F5.out.cells; clear hb))
      | (go_at_call 32; ((with_reducible refine (HW3.out _ _ _ _ _ F5.out.bel D5.out.1 D5.out.2).mono ?_); rintro e w6 ⟨rfl, hb⟩; have F6 := Lib.hid (F5.out.below hb); clear p1 p2 q1 q2; clear hb x1 x2; obtain ⟨⟨p1, p2⟩, ⟨q1, q2⟩⟩ := F6.out.cells))
      | (go_at_call 34; ((with_reducible refine (HRw.out _ F6.out.bel).mono ?_); rintro e w7 ⟨rfl, hb⟩; have F7 := Lib.hid (F6.out.below hb); clear p1 p2 q1 q2; clear hb))
      | fail)
    go_ret
    exact ⟨rfl, F7.out.bel⟩
set_option maxHeartbeats 1600000 in
theorem pwithin_walk (S T S' T' : List Int) {cS cT cS' cT' : Nat} {AS AT AS' AT' : Option Addr} (w : World) (hS : RdZ w w.heap.size AS cS S) (hT : RdZ w w.heap.size AT cT T) (hS' : RdZ w w.heap.size AS' cS' S') (hT' : RdZ w w.heap.size AT' cT' T') :
    Calls Try.prog 10 #[.agg #[.slice AS S.length cS, .slice AT T.length cT], .agg #[.slice AS' S'.length cS', .slice AT' T'.length cT']] w fun e w' => e = .returned (.bool true) ∧ Below w.heap.size w w' := by
  have HW : ∀ W, Below w.heap.size w W → Calls Try.prog 32 #[.agg #[.slice AS S.length cS, .slice AT T.length cT], .agg #[.slice AS' S'.length cS', .slice AT' T'.length cT']] W fun e w' => e = .returned (.tuple #[.bool (decide (chk2 S T S' T' = 0 ∧ xN S T S' T' ≤ S.length)), .int .i64 (chk2 S T S' T')]) ∧ Below W.heap.size W w' := fun W hb => pwithin_any W (rdz_up hS hb) (rdz_up hT hb) (rdz_up hS' hb) (rdz_up hT' hb)
  have HK : ∀ W, Below w.heap.size w W → Calls Try.prog 33 #[.agg #[.slice AS S.length cS, .slice AT T.length cT], .agg #[.slice AS' S'.length cS', .slice AT' T'.length cT']] W fun e w' => e = .returned (.int .i64 (chk2 S T S' T')) ∧ Below W.heap.size W w' := fun W hb => rchecks_any W (hS.below hb) (hT.below hb) (hS'.below hb) (hT'.below hb) hb.size
  by_cases hz : chk2 S T S' T' = 0
  · obtain ⟨ha, hb⟩ := chk2_ok hz
    have hq := proj_act ha
    have e1 : decide (chk2 S T S' T' = 0 ∧ xN S T S' T' ≤ S.length) = decide (xN S T S' T' ≤ S.length) := by simp [hz]
    rw [e1, hz] at HW
    rw [hz] at HK
    have hs : chk2 S T S T = 0 := by unfold chk2; rw [if_pos (chkA_ok ha), chkA_ok ha]
    have hp : chk2 S T (iz (pS (fnz S) S.length)) (iz (pT (fnz S) (fnz T) S.length)) = 0 := by unfold chk2; rw [if_pos (chkA_ok ha), chkA_ok hq]
    refine pwin_ok w (iz (pS (fnz S) S.length)) (iz (pT (fnz S) (fnz T) S.length)) _ HW HK (fun W h => ?_) (fun W h => ?_) (fun W A A' c1 c2 h h1 h2 => ?_) (fun W h => rwithin_ok W (rdz_up hS h) (rdz_up hT h) (rdz_up hS' h) (rdz_up hT' h) hz)
    · obtain ⟨bS, oS, bT, oT, rfl, rfl, hA⟩ := AI.mk' ha (rdz_up hS h) (rdz_up hT h) (Nat.le_refl _)
      have := pproj_ok W hA
      rw [iz_len, iz_len, ha.len]
      exact this
    · have := pwithin_ok W (rdz_up hS h) (rdz_up hT h) (rdz_up hS h) (rdz_up hT h) hs
      rwa [decide_eq_true (x_self ha)] at this
    · have := pwithin_ok W (rdz_up hS h) (rdz_up hT h) h1 h2 hp
      rwa [decide_eq_true (x_proj ha)] at this
  · have e1 : decide (chk2 S T S' T' = 0 ∧ xN S T S' T' ≤ S.length) = false := by simp [hz]
    rw [e1] at HW
    exact pwin_bad w _ hz HW HK
end Go.Proofs.Ytjofmgnggeoimaa
