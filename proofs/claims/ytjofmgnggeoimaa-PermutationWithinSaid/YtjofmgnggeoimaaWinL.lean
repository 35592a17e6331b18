/- Within, of the program and of the reference. -/
import Derived.Test.YtjofmgnggeoimaaIntL
import Derived.Test.YtjofmgnggeoimaaPrM
namespace Go.Proofs.Ytjofmgnggeoimaa
open Go.RowKit
set_option linter.unusedVariables false
set_option linter.unusedSimpArgs false

/-- What intersection and together leave for Within. -/
def WEnd (q : Bool) (w : World) (e : Ending) (w' : World) : Prop :=
  ∃ A n c A' n' c', e = .returned (.tuple #[.agg #[.slice A n c, .slice A' n' c'], .bool q]) ∧ Below w.heap.size w w'
theorem wend_of {G F : Nat → Nat} {N lim : Nat} {w w' : World} {e : Ending} (h : IntEnd G F N lim w e w') : WEnd (decide (orbN G F N 0 ≤ lim)) w e w' := by
  obtain ⟨hb, ⟨h1, vS, vT, rfl, r1, r2⟩ | ⟨h1, rfl⟩⟩ := h
  · obtain ⟨A, c, rfl⟩ := own_len r1
    obtain ⟨A', c', rfl⟩ := own_len r2
    rw [decide_eq_true h1]
    exact ⟨A, _, c, A', _, c', rfl, hb⟩
  · rw [decide_eq_false (Nat.not_le.2 h1)]
    exact ⟨none, 0, 0, none, 0, 0, rfl, hb⟩
theorem pw_tog {S T S' T' : List Int} {cS cT cS' cT' : Nat} {AS AT AS' AT' : Option Addr} (w : World) (hS : RdZ w w.heap.size AS cS S) (hT : RdZ w w.heap.size AT cT T) (hS' : RdZ w w.heap.size AS' cS' S') (hT' : RdZ w w.heap.size AT' cT' T') (ha : Act2 S T) (hb : Act2 S' T') (W : World) (h : Below w.heap.size w W) :
    Calls Try.prog 53 #[.agg #[.slice AS S.length cS, .slice AT T.length cT], .agg #[.slice AS' S'.length cS', .slice AT' T'.length cT'], .int .i64 (S.length : Nat)] W fun e w' => WEnd (decide (xN S T S' T' ≤ S.length)) W e w' := by
  obtain ⟨b1, o1, rfl, R1⟩ := ((hS.below h).mono h.size).rdn ha.s (by have := ha.pos; omega)
  obtain ⟨b2, o2, rfl, R2⟩ := ((hT.below h).mono h.size).rdn ha.t (by have := ha.pos; have := ha.len; omega)
  obtain ⟨b3, o3, rfl, R3⟩ := ((hS'.below h).mono h.size).rdn hb.s (by have := hb.pos; omega)
  obtain ⟨b4, o4, rfl, R4⟩ := ((hT'.below h).mono h.size).rdn hb.t (by have := hb.pos; have := hb.len; omega)
  rw [ha.len, hb.len]
  exact (inter_any W ha.ps ha.pt hb.ps hb.pt ha.le hb.le ha.pos hb.pos (lim := S.length) ha.pos ha.le R1 (by rw [← ha.len]; exact R2) R3 (by rw [← hb.len]; exact R4)).mono fun e w' h => wend_of h
theorem rw_tog {S T S' T' : List Int} {cS cT cS' cT' : Nat} {AS AT AS' AT' : Option Addr} (w : World) (hS : RdZ w w.heap.size AS cS S) (hT : RdZ w w.heap.size AT cT T) (hS' : RdZ w w.heap.size AS' cS' S') (hT' : RdZ w w.heap.size AT' cT' T') (ha : Act2 S T) (hb : Act2 S' T') (W : World) (h : Below w.heap.size w W) :
    Calls Try.prog 54 #[.agg #[.slice AS S.length cS, .slice AT T.length cT], .agg #[.slice AS' S'.length cS', .slice AT' T'.length cT'], .int .i64 (S.length : Nat)] W fun e w' => WEnd (decide (xN S T S' T' ≤ S.length)) W e w' := by
  obtain ⟨b1, o1, rfl, R1⟩ := ((hS.below h).mono h.size).rdn ha.s (by have := ha.pos; omega)
  obtain ⟨b2, o2, rfl, R2⟩ := ((hT.below h).mono h.size).rdn ha.t (by have := ha.pos; have := ha.len; omega)
  obtain ⟨b3, o3, rfl, R3⟩ := ((hS'.below h).mono h.size).rdn hb.s (by have := hb.pos; omega)
  obtain ⟨b4, o4, rfl, R4⟩ := ((hT'.below h).mono h.size).rdn hb.t (by have := hb.pos; have := hb.len; omega)
  rw [ha.len, hb.len]
  exact (rtog_any W ha.ps ha.pt hb.ps hb.pt ha.le hb.le ha.pos hb.pos (lim := S.length) ha.pos ha.le R1 (by rw [← ha.len]; exact R2) R3 (by rw [← hb.len]; exact R4)).mono fun e w' h => wend_of h
set_option maxHeartbeats 3200000 in
set_option maxRecDepth 1000000 in
theorem pwithin_bad {S T S' T' : List Int} {cS cT cS' cT' : Nat} {AS AT AS' AT' : Option Addr} (w : World) (hS : RdZ w w.heap.size AS cS S) (hT : RdZ w w.heap.size AT cT T) (hS' : RdZ w w.heap.size AS' cS' S') (hT' : RdZ w w.heap.size AT' cT' T') (z : Int) (hz : chk2 S T S' T' = z) (hz0 : z ≠ 0) :
    Calls Try.prog 32 #[.agg #[.slice AS S.length cS, .slice AT T.length cT], .agg #[.slice AS' S'.length cS', .slice AT' T'.length cT']] w fun e w' => e = .returned (.tuple #[.bool false, .int .i64 z]) ∧ Below w.heap.size w w' := by
  have HCk : Hid (∀ W, Below w.heap.size w W → Calls Try.prog 52 #[.agg #[.slice AS S.length cS, .slice AT T.length cT], .agg #[.slice AS' S'.length cS', .slice AT' T'.length cT']] W fun e w' => e = .returned (.int .i64 z) ∧ Below W.heap.size W w') := fun W hb => by
    rw [← hz]; exact cboth_any W (hS.below hb) (hT.below hb) (hS'.below hb) (hT'.below hb) hb.size
  have HB0 := Lib.hid (B2.start w #[.slice AS S.length cS, .slice AT T.length cT] #[.slice AS' S'.length cS', .slice AT' T'.length cT'])
  have hzb : (z == 0) = false := by simpa using hz0
  clear hS hT hS' hT' hz
  go_enter Try.func32, Try.ntmps32
  go_wp2_with (first
    | (go_at_call 52; ((with_reducible refine (HCk.out _ HB0.out.bel).mono ?_); rintro e w1 ⟨rfl, hb⟩; have HB1 := Lib.hid (HB0.out.below hb); clear hb))
    | fail)
  go_ret2
  exact ⟨rfl, HB1.out.bel⟩
set_option maxHeartbeats 3200000 in
set_option maxRecDepth 1000000 in
theorem pwithin_ok {S T S' T' : List Int} {cS cT cS' cT' : Nat} {AS AT AS' AT' : Option Addr} (w : World) (hS : RdZ w w.heap.size AS cS S) (hT : RdZ w w.heap.size AT cT T) (hS' : RdZ w w.heap.size AS' cS' S') (hT' : RdZ w w.heap.size AT' cT' T') (hz : chk2 S T S' T' = 0) :
    Calls Try.prog 32 #[.agg #[.slice AS S.length cS, .slice AT T.length cT], .agg #[.slice AS' S'.length cS', .slice AT' T'.length cT']] w fun e w' => e = .returned (.tuple #[.bool (decide (xN S T S' T' ≤ S.length)), .int .i64 0]) ∧ Below w.heap.size w w' := by
  have HCk : Hid (∀ W, Below w.heap.size w W → Calls Try.prog 52 #[.agg #[.slice AS S.length cS, .slice AT T.length cT], .agg #[.slice AS' S'.length cS', .slice AT' T'.length cT']] W fun e w' => e = .returned (.int .i64 0) ∧ Below W.heap.size W w') := fun W hb => by
    rw [← hz]; exact cboth_any W (hS.below hb) (hT.below hb) (hS'.below hb) (hT'.below hb) hb.size
  have HB0 := Lib.hid (B2.start w #[.slice AS S.length cS, .slice AT T.length cT] #[.slice AS' S'.length cS', .slice AT' T'.length cT'])
  obtain ⟨ha, hb⟩ := chk2_ok hz
  have HI := Lib.hid (fun W (h : Below w.heap.size w W) => pw_tog w hS hT hS' hT' ha hb W h)
  generalize decide (xN S T S' T' ≤ S.length) = q at *
  clear hS hT hS' hT' hz ha hb
  go_enter Try.func32, Try.ntmps32
  go_wp2_with (first
    | (go_at_call 52; ((with_reducible refine (HCk.out _ HB0.out.bel).mono ?_); rintro e w1 ⟨rfl, hb⟩; have HB1 := Lib.hid (HB0.out.below hb); obtain ⟨⟨p1, p2⟩, _⟩ := two_of_block HB1.out.p; obtain ⟨⟨q1, q2⟩, _⟩ := two_of_block HB1.out.q; clear hb))
    | (go_at_call 53; ((with_reducible refine (HI.out _ HB1.out.bel).mono ?_); rintro e w2 ⟨A, n, c, A', n', c', rfl, hb⟩; have HB2 := Lib.hid (HB1.out.below hb); clear hb))
    | fail)
  go_ret2
  exact ⟨rfl, (HB2.out.below (below1 _ _)).bel⟩
theorem pwithin_any {S T S' T' : List Int} {cS cT cS' cT' : Nat} {AS AT AS' AT' : Option Addr} (w : World) (hS : RdZ w w.heap.size AS cS S) (hT : RdZ w w.heap.size AT cT T) (hS' : RdZ w w.heap.size AS' cS' S') (hT' : RdZ w w.heap.size AT' cT' T') :
    Calls Try.prog 32 #[.agg #[.slice AS S.length cS, .slice AT T.length cT], .agg #[.slice AS' S'.length cS', .slice AT' T'.length cT']] w fun e w' => e = .returned (.tuple #[.bool (decide (chk2 S T S' T' = 0 ∧ xN S T S' T' ≤ S.length)), .int .i64 (chk2 S T S' T')]) ∧ Below w.heap.size w w' := by
  by_cases hz : chk2 S T S' T' = 0
  · have e1 : decide (chk2 S T S' T' = 0 ∧ xN S T S' T' ≤ S.length) = decide (xN S T S' T' ≤ S.length) := by simp [hz]
    rw [e1, hz]
    exact pwithin_ok w hS hT hS' hT' hz
  · have e1 : decide (chk2 S T S' T' = 0 ∧ xN S T S' T' ≤ S.length) = false := by simp [hz]
    rw [e1]
    exact pwithin_bad w hS hT hS' hT' _ rfl hz
set_option maxHeartbeats 3200000 in
set_option maxRecDepth 1000000 in
theorem rwithin_ok {S T S' T' : List Int} {cS cT cS' cT' : Nat} {AS AT AS' AT' : Option Addr} (w : World) (hS : RdZ w w.heap.size AS cS S) (hT : RdZ w w.heap.size AT cT T) (hS' : RdZ w w.heap.size AS' cS' S') (hT' : RdZ w w.heap.size AT' cT' T') (hz : chk2 S T S' T' = 0) :
    Calls Try.prog 34 #[.agg #[.slice AS S.length cS, .slice AT T.length cT], .agg #[.slice AS' S'.length cS', .slice AT' T'.length cT']] w fun e w' => e = .returned (.bool (decide (xN S T S' T' ≤ S.length))) ∧ Below w.heap.size w w' := by
  have HB0 := Lib.hid (B2.start w #[.slice AS S.length cS, .slice AT T.length cT] #[.slice AS' S'.length cS', .slice AT' T'.length cT'])
  obtain ⟨ha, hb⟩ := chk2_ok hz
  have HI := Lib.hid (fun W (h : Below w.heap.size w W) => rw_tog w hS hT hS' hT' ha hb W h)
  generalize decide (xN S T S' T' ≤ S.length) = q at *
  clear hS hT hS' hT' hz ha hb
  go_enter Try.func34, Try.ntmps34
  go_wp2_with (first
    | (go_at_call 54; ((with_reducible refine (HI.out _ HB0.out.bel).mono ?_); rintro e w2 ⟨A, n, c, A', n', c', rfl, hb⟩; have HB2 := Lib.hid (HB0.out.below hb); clear hb))
    | fail)
  go_ret
  exact ⟨rfl, (HB2.out.below (below1 _ _)).bel⟩
end Go.Proofs.Ytjofmgnggeoimaa
