/- The contracts of permutation.checkBoth. Intersect and Within, of the program and of the reference. Within, of the program and of the reference. -/
import Derived.Test.YtjhdpcbkdeagnaaChkL
import Derived.Test.YtjhdpcbkdeagnaaLawK
import Derived.Test.YtjhdpcbkdeagnaaIntT
namespace Go.Proofs.Ytjhdpcbkdeagnaa
open Go.RowKit
set_option linter.unusedVariables false
set_option linter.unusedSimpArgs false

/-- The first error of two actions. -/
noncomputable def chk2 (S T S' T' : List Int) : Int := if chkA S T = 0 then chkA S' T' else chkA S T
set_option maxHeartbeats 3200000 in
set_option maxRecDepth 1000000 in
theorem cboth_any {S T S' T' : List Int} {B cS cT cS' cT' : Nat} {AS AT AS' AT' : Option Addr} (w : World) (hS : RdZ w B AS cS S) (hT : RdZ w B AT cT T) (hS' : RdZ w B AS' cS' S') (hT' : RdZ w B AT' cT' T') (hB : B ≤ w.heap.size) :
    Calls Try.prog 60 #[.agg #[.slice AS S.length cS, .slice AT T.length cT], .agg #[.slice AS' S'.length cS', .slice AT' T'.length cT']] w fun e w' => e = .returned (.int .i64 (chk2 S T S' T')) ∧ Below w.heap.size w w' := by
  have T0 : Hid ((w.alloc (.cells #[.slice AS S.length cS, .slice AT T.length cT] 47)).heap[w.heap.size]? = some (.cells #[.slice AS S.length cS, .slice AT T.length cT] 47 (0, 0))) := heap_alloc_new w _
  have HB0 : Hid (Below w.heap.size w ((w.alloc (.cells #[.slice AS S.length cS, .slice AT T.length cT] 47)).alloc (.cells #[.slice AS' S'.length cS', .slice AT' T'.length cT'] 47))) := bel0 (below1 w _) (below1 _ _)
  have U0 : Hid (((w.alloc (.cells #[.slice AS S.length cS, .slice AT T.length cT] 47)).alloc (.cells #[.slice AS' S'.length cS', .slice AT' T'.length cT'] 47)).heap[w.heap.size + 1]? = some (.cells #[.slice AS' S'.length cS', .slice AT' T'.length cT'] 47 (0, 0))) := by
    have h1 : (w.alloc (.cells #[.slice AS S.length cS, .slice AT T.length cT] 47)).heap.size = w.heap.size + 1 := by simp
    show _ = _
    rw [← h1]
    exact heap_alloc_new _ _
  have HC : Hid (∀ W, Below w.heap.size w W → Calls Try.prog 22 #[.agg #[.slice AS S.length cS, .slice AT T.length cT]] W fun e w' => e = .returned (.int .i64 (chkA S T)) ∧ Below W.heap.size W w') := fun W hb => pcheck_any W (hS.below (hb.mono hB)) (hT.below (hb.mono hB)) (Nat.le_trans hB hb.size)
  have HD : Hid (∀ W, Below w.heap.size w W → Calls Try.prog 22 #[.agg #[.slice AS' S'.length cS', .slice AT' T'.length cT']] W fun e w' => e = .returned (.int .i64 (chkA S' T')) ∧ Below W.heap.size W w') := fun W hb => pcheck_any W (hS'.below (hb.mono hB)) (hT'.below (hb.mono hB)) (Nat.le_trans hB hb.size)
  clear hS hT hS' hT'
  unfold chk2
  by_cases h0 : chkA S T = 0
  · rw [if_pos h0]
    have hh := Lib.hid h0
    go_enter Try.func60, Try.ntmps60
    go_wp2_with (first
      | (go_at_call 22; ((with_reducible refine (HC.out _ HB0.out).mono ?_); rintro e w1 ⟨rfl, hb⟩; have HB1 := Lib.hid (bel0 HB0.out hb); have U1 := Lib.hid (block_below U0.out hb); obtain ⟨⟨t1, t2⟩, _⟩ := two_of_block U1.out; clear hb))
      | (go_at_call 22; ((with_reducible refine (HD.out _ HB1.out).mono ?_); rintro e w2 ⟨rfl, hb⟩; have HB2 := Lib.hid (bel0 HB1.out hb); clear hb))
      | fail)
    go_ret
    exact ⟨rfl, HB2.out⟩
  · rw [if_neg h0]
    go_enter Try.func60, Try.ntmps60
    go_wp2_with (first
      | (go_at_call 22; ((with_reducible refine (HC.out _ HB0.out).mono ?_); rintro e w1 ⟨rfl, hb⟩; have HB1 := Lib.hid (bel0 HB0.out hb); have U1 := Lib.hid (block_below U0.out hb); obtain ⟨⟨t1, t2⟩, _⟩ := two_of_block U1.out; clear hb))
      | fail)
    go_ret
    exact ⟨rfl, HB1.out⟩
end Go.Proofs.Ytjhdpcbkdeagnaa
namespace Go.Proofs.Ytjhdpcbkdeagnaa
open Go.RowKit
set_option linter.unusedVariables false
set_option linter.unusedSimpArgs false

/-- Two boxes of coset actions and a third one. -/
structure B3 (w W : World) (P Q R : Array Value) : Prop where
  p : W.heap[w.heap.size]? = some (.cells P 47 (0, 0))
  q : W.heap[w.heap.size + 1]? = some (.cells Q 47 (0, 0))
  r : W.heap[w.heap.size + 1 + 1]? = some (.cells R 47 (0, 0))
  bel : Below w.heap.size w W
structure B2 (w W : World) (P Q : Array Value) : Prop where
  p : W.heap[w.heap.size]? = some (.cells P 47 (0, 0))
  q : W.heap[w.heap.size + 1]? = some (.cells Q 47 (0, 0))
  bel : Below w.heap.size w W
theorem at_size (W : World) (o : Obj) {g : Nat} (hg : g = W.heap.size) : (W.alloc o).heap[g]? = some o := by rw [hg]; exact heap_alloc_new W o
theorem B3.start (w : World) (P Q R : Array Value) : B3 w (((w.alloc (.cells P 47)).alloc (.cells Q 47)).alloc (.cells R 47)) P Q R :=
  ⟨block_alloc (block_alloc (at_size _ _ rfl) _) _, block_alloc (at_size _ _ (by simp)) _, at_size _ _ (by simp), below3 w _ _ _⟩
theorem B2.start (w : World) (P Q : Array Value) : B2 w ((w.alloc (.cells P 47)).alloc (.cells Q 47)) P Q :=
  ⟨block_alloc (at_size _ _ rfl) _, at_size _ _ (by simp), below2 w _ _⟩
theorem B3.below {w W W' : World} {P Q R : Array Value} (h : B3 w W P Q R) (hb : Below W.heap.size W W') : B3 w W' P Q R := ⟨block_below h.p hb, block_below h.q hb, block_below h.r hb, bel0 h.bel hb⟩
theorem B2.below {w W W' : World} {P Q : Array Value} (h : B2 w W P Q) (hb : Below W.heap.size W W') : B2 w W' P Q := ⟨block_below h.p hb, block_below h.q hb, bel0 h.bel hb⟩
theorem is_zs (L : List Nat) : isI L = zs (iz L) := by simp [isI, zs, iz]
/-- The list of nothing. -/
theorem rdz_nil (w : World) (B : Nat) : RdZ w B none 0 [] := ⟨by simp, by unfold maxLen; omega, fun h0 => by simp at h0, fun _ h0 => by cases h0⟩
/-- The error of an intersection and its two lists. -/
noncomputable def xk (S T S' T' : List Int) : Int := if chk2 S T S' T' = 0 then (if xN S T S' T' ≤ 1152 then 0 else 7) else chk2 S T S' T'
noncomputable def xl (S T S' T' : List Int) : List Int := if xk S T S' T' = 0 then xS S T S' T' else []
noncomputable def xr (S T S' T' : List Int) : List Int := if xk S T S' T' = 0 then xT S T S' T' else []
theorem chk2_ok {S T S' T' : List Int} (h : chk2 S T S' T' = 0) : Act2 S T ∧ Act2 S' T' := by
  unfold chk2 at h
  by_cases h0 : chkA S T = 0
  · rw [if_pos h0] at h
    exact ⟨chkA_zero h0, chkA_zero h⟩
  · rw [if_neg h0] at h
    exact absurd h h0
/-- What Intersect leaves. -/
def IntOut (k : Int) (L L' : List Int) (w : World) (e : Ending) (w' : World) : Prop :=
  ∃ A c A' c', e = .returned (.tuple #[.agg #[.slice A L.length c, .slice A' L'.length c'], .int .i64 k]) ∧ RdZ w' w'.heap.size A c L ∧ RdZ w' w'.heap.size A' c' L' ∧ Below w.heap.size w w'
set_option maxHeartbeats 3200000 in
set_option maxRecDepth 1000000 in
theorem pint_bad {S T S' T' : List Int} {cS cT cS' cT' : Nat} {AS AT AS' AT' : Option Addr} (w : World) (hS : RdZ w w.heap.size AS cS S) (hT : RdZ w w.heap.size AT cT T) (hS' : RdZ w w.heap.size AS' cS' S') (hT' : RdZ w w.heap.size AT' cT' T') (z : Int) (hz : chk2 S T S' T' = z) (hz0 : z ≠ 0) :
    Calls Try.prog 34 #[.agg #[.slice AS S.length cS, .slice AT T.length cT], .agg #[.slice AS' S'.length cS', .slice AT' T'.length cT']] w fun e w' => e = .returned (.tuple #[.agg #[.slice none 0 0, .slice none 0 0], .int .i64 z]) ∧ Below w.heap.size w w' := by
  have HCk : Hid (∀ W, Below w.heap.size w W → Calls Try.prog 60 #[.agg #[.slice AS S.length cS, .slice AT T.length cT], .agg #[.slice AS' S'.length cS', .slice AT' T'.length cT']] W fun e w' => e = .returned (.int .i64 z) ∧ Below W.heap.size W w') := fun W hb => by
    rw [← hz]; exact cboth_any W (hS.below hb) (hT.below hb) (hS'.below hb) (hT'.below hb) hb.size
  have HB0 := Lib.hid (B3.start w #[.slice AS S.length cS, .slice AT T.length cT] #[.slice AS' S'.length cS', .slice AT' T'.length cT'] #[.slice none 0 0, .slice none 0 0])
  have hzb : (z == 0) = false := by simpa using hz0
  clear hS hT hS' hT' hz
  go_enter Try.func34, Try.ntmps34
  go_wp2_with (first
    | (go_at_call 60; ((with_reducible refine (HCk.out _ HB0.out.bel).mono ?_); rintro e w1 ⟨rfl, hb⟩; have HB1 := Lib.hid (HB0.out.below hb); obtain ⟨⟨r1, r2⟩, rf⟩ := two_of_block HB1.out.r; have hz2 := lt_of_block HB1.out.r; clear hb))
    | fail)
  have hrl := two_set1 (two_set0 HB1.out.r (.slice none 0 0)) (.slice none 0 0)
  obtain ⟨⟨s1, s2⟩, _⟩ := two_of_block hrl
  refine bodyPost_ret (v := .tuple #[.agg #[.slice none 0 0, .slice none 0 0], .int .i64 z]) ?_ rfl ⟨rfl, below_set2 HB1.out.bel (by omega) _ _⟩
  simp [results, Try.results34, go_sem, s1, s2]
set_option maxHeartbeats 3200000 in
set_option maxRecDepth 1000000 in
theorem pint_large {S T S' T' : List Int} {cS cT cS' cT' : Nat} {AS AT AS' AT' : Option Addr} (w : World) (hS : RdZ w w.heap.size AS cS S) (hT : RdZ w w.heap.size AT cT T) (hS' : RdZ w w.heap.size AS' cS' S') (hT' : RdZ w w.heap.size AT' cT' T') (hz : chk2 S T S' T' = 0) (HI0 : ∀ W, Below w.heap.size w W → Calls Try.prog 61 #[.agg #[.slice AS S.length cS, .slice AT T.length cT], .agg #[.slice AS' S'.length cS', .slice AT' T'.length cT'], .int .i64 1152] W fun e w' => e = .returned (.tuple #[.agg #[.slice none 0 0, .slice none 0 0], .bool false]) ∧ Below W.heap.size W w') :
    Calls Try.prog 34 #[.agg #[.slice AS S.length cS, .slice AT T.length cT], .agg #[.slice AS' S'.length cS', .slice AT' T'.length cT']] w fun e w' => e = .returned (.tuple #[.agg #[.slice none 0 0, .slice none 0 0], .int .i64 7]) ∧ Below w.heap.size w w' := by
  have HCk : Hid (∀ W, Below w.heap.size w W → Calls Try.prog 60 #[.agg #[.slice AS S.length cS, .slice AT T.length cT], .agg #[.slice AS' S'.length cS', .slice AT' T'.length cT']] W fun e w' => e = .returned (.int .i64 0) ∧ Below W.heap.size W w') := fun W hb => by
    rw [← hz]; exact cboth_any W (hS.below hb) (hT.below hb) (hS'.below hb) (hT'.below hb) hb.size
  have HB0 := Lib.hid (B3.start w #[.slice AS S.length cS, .slice AT T.length cT] #[.slice AS' S'.length cS', .slice AT' T'.length cT'] #[.slice none 0 0, .slice none 0 0])
  have HI := Lib.hid HI0
  clear hS hT hS' hT' hz HI0
  go_enter Try.func34, Try.ntmps34
  go_wp2_with (first
    | (go_at_call 60; ((with_reducible refine (HCk.out _ HB0.out.bel).mono ?_); rintro e w1 ⟨rfl, hb⟩; have HB1 := Lib.hid (HB0.out.below hb); obtain ⟨⟨p1, p2⟩, _⟩ := two_of_block HB1.out.p; obtain ⟨⟨q1, q2⟩, _⟩ := two_of_block HB1.out.q; clear hb))
    | (go_at_call 61; ((with_reducible refine (HI.out _ HB1.out.bel).mono ?_); rintro e w2 ⟨rfl, hb⟩; have HB2 := Lib.hid (HB1.out.below hb); obtain ⟨⟨r1, r2⟩, rf⟩ := two_of_block HB2.out.r; have hz2 := lt_of_block HB2.out.r; clear hb))
    | fail)
  have hrl := block_alloc (two_set1 (two_set0 HB2.out.r (.slice none 0 0)) (.slice none 0 0)) (.cells #[.slice none 0 0, .slice none 0 0] 47)
  obtain ⟨⟨s1, s2⟩, _⟩ := two_of_block hrl
  refine bodyPost_ret (v := .tuple #[.agg #[.slice none 0 0, .slice none 0 0], .int .i64 7]) ?_ rfl ⟨rfl, bel0 (below_set2 HB2.out.bel (by omega) _ _) (below1 _ _)⟩
  simp [results, Try.results34, go_sem, s1, s2]
set_option maxHeartbeats 3200000 in
set_option maxRecDepth 1000000 in
theorem pint_ok {S T S' T' : List Int} {cS cT cS' cT' : Nat} {AS AT AS' AT' : Option Addr} (w : World) (hS : RdZ w w.heap.size AS cS S) (hT : RdZ w w.heap.size AT cT T) (hS' : RdZ w w.heap.size AS' cS' S') (hT' : RdZ w w.heap.size AT' cT' T') (hz : chk2 S T S' T' = 0) (L L' : List Int) (HI0 : ∀ W, Below w.heap.size w W → Calls Try.prog 61 #[.agg #[.slice AS S.length cS, .slice AT T.length cT], .agg #[.slice AS' S'.length cS', .slice AT' T'.length cT'], .int .i64 1152] W fun e w' => ∃ vS vT, e = .returned (.tuple #[.agg #[vS, vT], .bool true]) ∧ w'.ownsRow W.heap.size 3 1 vS L.length (zs L) ∧ w'.ownsRow W.heap.size 3 1 vT L'.length (zs L') ∧ Below W.heap.size W w') :
    Calls Try.prog 34 #[.agg #[.slice AS S.length cS, .slice AT T.length cT], .agg #[.slice AS' S'.length cS', .slice AT' T'.length cT']] w fun e w' => IntOut 0 L L' w e w' := by
  have HCk : Hid (∀ W, Below w.heap.size w W → Calls Try.prog 60 #[.agg #[.slice AS S.length cS, .slice AT T.length cT], .agg #[.slice AS' S'.length cS', .slice AT' T'.length cT']] W fun e w' => e = .returned (.int .i64 0) ∧ Below W.heap.size W w') := fun W hb => by
    rw [← hz]; exact cboth_any W (hS.below hb) (hT.below hb) (hS'.below hb) (hT'.below hb) hb.size
  have HB0 := Lib.hid (B3.start w #[.slice AS S.length cS, .slice AT T.length cT] #[.slice AS' S'.length cS', .slice AT' T'.length cT'] #[.slice none 0 0, .slice none 0 0])
  have HI := Lib.hid HI0
  clear hS hT hS' hT' hz HI0
  go_enter Try.func34, Try.ntmps34
  go_wp2_with (first
    | (go_at_call 60; ((with_reducible refine (HCk.out _ HB0.out.bel).mono ?_); rintro e w1 ⟨rfl, hb⟩; have HB1 := Lib.hid (HB0.out.below hb); obtain ⟨⟨p1, p2⟩, _⟩ := two_of_block HB1.out.p; obtain ⟨⟨q1, q2⟩, _⟩ := two_of_block HB1.out.q; clear hb))
    | (go_at_call 61; ((with_reducible refine (HI.out _ HB1.out.bel).mono ?_); rintro e w2 ⟨vS, vT, rfl, h1, h2, hb⟩; obtain ⟨A, c, rfl⟩ := own_len h1; obtain ⟨A', c', rfl⟩ := own_len h2; have HR1 := Lib.hid (And.intro h1 h2); have HB2 := Lib.hid (HB1.out.below hb); obtain ⟨⟨r1, r2⟩, rf⟩ := two_of_block HB2.out.r; have hz2 := lt_of_block HB2.out.r; clear hb h1 h2))
    | fail)
  have hrl := block_alloc (two_set1 (two_set0 HB2.out.r (.slice A L.length c)) (.slice A' L'.length c')) (.cells #[.slice A L.length c, .slice A' L'.length c'] 47)
  obtain ⟨⟨s1, s2⟩, _⟩ := two_of_block hrl
  have keep : ∀ {b : Nat} {v : Value} {n : Nat} {xs : List Value}, w2.ownsRow b 3 1 v n xs → (((w2.setCell ⟨w.heap.size + 1 + 1, 0, none⟩ (.slice A L.length c)).setCell ⟨w.heap.size + 1 + 1, 1, none⟩ (.slice A' L'.length c')).alloc (.cells #[.slice A L.length c, .slice A' L'.length c'] 47)).ownsRow b 3 1 v n xs := fun h => row_below (row_keep h fun g hg => by
    obtain ⟨_, cur, hc⟩ := row_lt h hg
    have hne : g ≠ w.heap.size + 1 + 1 := ty_neI hc HB2.out.r (by decide)
    exact set_ne (set_ne rfl hne _) hne _) (below1 _ _)
  obtain ⟨B1, k1, e1, d1⟩ := own_rdz (keep HR1.out.1)
  obtain ⟨B2, k2, e2, d2⟩ := own_rdz (keep HR1.out.2)
  obtain ⟨rfl, rfl⟩ : A = B1 ∧ c = k1 := by injection e1 with h3 h4 h5; exact ⟨h3, h5⟩
  obtain ⟨rfl, rfl⟩ : A' = B2 ∧ c' = k2 := by injection e2 with h3 h4 h5; exact ⟨h3, h5⟩
  clear e1 e2
  refine bodyPost_ret (v := .tuple #[.agg #[.slice A L.length c, .slice A' L'.length c'], .int .i64 0]) ?_ rfl ⟨A, c, A', c', rfl, d1, d2, bel0 (below_set2 HB2.out.bel (by omega) _ _) (below1 _ _)⟩
  simp [results, Try.results34, go_sem, s1, s2]
theorem pint_any {S T S' T' : List Int} {cS cT cS' cT' : Nat} {AS AT AS' AT' : Option Addr} (w : World) (hS : RdZ w w.heap.size AS cS S) (hT : RdZ w w.heap.size AT cT T) (hS' : RdZ w w.heap.size AS' cS' S') (hT' : RdZ w w.heap.size AT' cT' T') :
    Calls Try.prog 34 #[.agg #[.slice AS S.length cS, .slice AT T.length cT], .agg #[.slice AS' S'.length cS', .slice AT' T'.length cT']] w fun e w' => IntOut (xk S T S' T') (xl S T S' T') (xr S T S' T') w e w' := by
  by_cases hz : chk2 S T S' T' = 0
  · obtain ⟨ha, hb⟩ := chk2_ok hz
    have HI : ∀ W, Below w.heap.size w W → Calls Try.prog 61 #[.agg #[.slice AS S.length cS, .slice AT T.length cT], .agg #[.slice AS' S'.length cS', .slice AT' T'.length cT'], .int .i64 1152] W fun e w' => IntEnd (eG (fnz S) (fnz S') S'.length) (eG (fnz T) (fnz T') S'.length) (S.length * S'.length) 1152 W e w' := fun W h => by
      obtain ⟨b1, o1, rfl, R1⟩ := ((hS.below h).mono h.size).rdn ha.s (by have := ha.pos; omega)
      obtain ⟨b2, o2, rfl, R2⟩ := ((hT.below h).mono h.size).rdn ha.t (by have := ha.pos; have := ha.len; omega)
      obtain ⟨b3, o3, rfl, R3⟩ := ((hS'.below h).mono h.size).rdn hb.s (by have := hb.pos; omega)
      obtain ⟨b4, o4, rfl, R4⟩ := ((hT'.below h).mono h.size).rdn hb.t (by have := hb.pos; have := hb.len; omega)
      rw [ha.len, hb.len]
      exact inter_any W ha.ps ha.pt hb.ps hb.pt ha.le hb.le ha.pos hb.pos (lim := 1152) (by decide) (Nat.le_refl _) R1 (by rw [← ha.len]; exact R2) R3 (by rw [← hb.len]; exact R4)
    by_cases hl : xN S T S' T' ≤ 1152
    · have hk : xk S T S' T' = 0 := by unfold xk; rw [if_pos hz, if_pos hl]
      have e1 : xl S T S' T' = xS S T S' T' := if_pos hk
      have e2 : xr S T S' T' = xT S T S' T' := if_pos hk
      rw [hk, e1, e2]
      refine pint_ok w hS hT hS' hT' hz _ _ fun W h => (HI W h).mono ?_
      rintro e w' ⟨hb, ⟨_, vS, vT, rfl, r1, r2⟩ | ⟨h9, _⟩⟩
      · refine ⟨vS, vT, rfl, ?_, ?_, hb⟩
        · rw [xS_len]; rw [is_zs] at r1; exact r1
        · rw [xT_len]; rw [is_zs] at r2; exact r2
      · exact absurd h9 (Nat.not_lt.2 hl)
    · have hk : xk S T S' T' = 7 := by unfold xk; rw [if_pos hz, if_neg hl]
      have hk0 : ¬ xk S T S' T' = 0 := by rw [hk]; decide
      have e1 : xl S T S' T' = [] := if_neg hk0
      have e2 : xr S T S' T' = [] := if_neg hk0
      rw [hk, e1, e2]
      refine (pint_large w hS hT hS' hT' hz fun W h => (HI W h).mono ?_).mono ?_
      · rintro e w' ⟨hb, ⟨h9, _⟩ | ⟨_, rfl⟩⟩
        · exact absurd h9 hl
        · exact ⟨rfl, hb⟩
      · rintro e w' ⟨rfl, hb⟩
        exact ⟨none, 0, none, 0, rfl, rdz_nil _ _, rdz_nil _ _, hb⟩
  · have hk : xk S T S' T' = chk2 S T S' T' := if_neg hz
    have hk0 : ¬ xk S T S' T' = 0 := by rw [hk]; exact hz
    have e1 : xl S T S' T' = [] := if_neg hk0
    have e2 : xr S T S' T' = [] := if_neg hk0
    rw [e1, e2, hk]
    refine (pint_bad w hS hT hS' hT' _ rfl hz).mono ?_
    rintro e w' ⟨rfl, hb⟩
    exact ⟨none, 0, none, 0, rfl, rdz_nil _ _, rdz_nil _ _, hb⟩
end Go.Proofs.Ytjhdpcbkdeagnaa
namespace Go.Proofs.Ytjhdpcbkdeagnaa
open Go.RowKit
set_option linter.unusedVariables false
set_option linter.unusedSimpArgs false

/-- What intersection and together leave for Within. -/
def WEnd (q : Bool) (w : World) (e : Ending) (w' : World) : Prop :=
  ∃ A n c A' n' c', e = .returned (.tuple #[.agg #[.slice A n c, .slice A' n' c'], .bool q]) ∧ Below w.heap.size w w'
theorem wend_of {G F : Nat → Nat} {N lim : Nat} {w w' : World} {e : Ending} (h : IntEnd G F N lim w e w') : WEnd (decide (orbN G F N 0 ≤ lim)) w e w' := by
  obtain ⟨hb, ⟨h1, vS, vT, rfl, r1, r2⟩ | ⟨h1, rfl⟩⟩ := h
  · obtain ⟨A, c, rfl⟩ := own_len r1
    obtain ⟨A', c', rfl⟩ := own_len r2
    rw [decide_eq_true h1]
    exact ⟨A, _, c, A', _, c', rfl, hb⟩
  · rw [decide_eq_false (Nat.not_le.2 h1)]
    exact ⟨none, 0, 0, none, 0, 0, rfl, hb⟩
theorem pw_tog {S T S' T' : List Int} {cS cT cS' cT' : Nat} {AS AT AS' AT' : Option Addr} (w : World) (hS : RdZ w w.heap.size AS cS S) (hT : RdZ w w.heap.size AT cT T) (hS' : RdZ w w.heap.size AS' cS' S') (hT' : RdZ w w.heap.size AT' cT' T') (ha : Act2 S T) (hb : Act2 S' T') (W : World) (h : Below w.heap.size w W) :
    Calls Try.prog 61 #[.agg #[.slice AS S.length cS, .slice AT T.length cT], .agg #[.slice AS' S'.length cS', .slice AT' T'.length cT'], .int .i64 (S.length : Nat)] W fun e w' => WEnd (decide (xN S T S' T' ≤ S.length)) W e w' := by
  obtain ⟨b1, o1, rfl, R1⟩ := ((hS.below h).mono h.size).rdn ha.s (by have := ha.pos; omega)
  obtain ⟨b2, o2, rfl, R2⟩ := ((hT.below h).mono h.size).rdn ha.t (by have := ha.pos; have := ha.len; omega)
  obtain ⟨b3, o3, rfl, R3⟩ := ((hS'.below h).mono h.size).rdn hb.s (by have := hb.pos; omega)
  obtain ⟨b4, o4, rfl, R4⟩ := ((hT'.below h).mono h.size).rdn hb.t (by have := hb.pos; have := hb.len; omega)
  rw [ha.len, hb.len]
  exact (inter_any W ha.ps ha.pt hb.ps hb.pt ha.le hb.le ha.pos hb.pos (lim := S.length) ha.pos ha.le R1 (by rw [← ha.len]; exact R2) R3 (by rw [← hb.len]; exact R4)).mono fun e w' h => wend_of h
set_option maxHeartbeats 3200000 in
set_option maxRecDepth 1000000 in
theorem pwithin_bad {S T S' T' : List Int} {cS cT cS' cT' : Nat} {AS AT AS' AT' : Option Addr} (w : World) (hS : RdZ w w.heap.size AS cS S) (hT : RdZ w w.heap.size AT cT T) (hS' : RdZ w w.heap.size AS' cS' S') (hT' : RdZ w w.heap.size AT' cT' T') (z : Int) (hz : chk2 S T S' T' = z) (hz0 : z ≠ 0) :
    Calls Try.prog 33 #[.agg #[.slice AS S.length cS, .slice AT T.length cT], .agg #[.slice AS' S'.length cS', .slice AT' T'.length cT']] w fun e w' => e = .returned (.tuple #[.bool false, .int .i64 z]) ∧ Below w.heap.size w w' := by
  have HCk : Hid (∀ W, Below w.heap.size w W → Calls Try.prog 60 #[.agg #[.slice AS S.length cS, .slice AT T.length cT], .agg #[.slice AS' S'.length cS', .slice AT' T'.length cT']] W fun e w' => e = .returned (.int .i64 z) ∧ Below W.heap.size W w') := fun W hb => by
    rw [← hz]; exact cboth_any W (hS.below hb) (hT.below hb) (hS'.below hb) (hT'.below hb) hb.size
  have HB0 := Lib.hid (B2.start w #[.slice AS S.length cS, .slice AT T.length cT] #[.slice AS' S'.length cS', .slice AT' T'.length cT'])
  have hzb : (z == 0) = false := by simpa using hz0
  clear hS hT hS' hT' hz
  go_enter Try.func33, Try.ntmps33
  go_wp2_with (first
    | (go_at_call 60; ((with_reducible refine (HCk.out _ HB0.out.bel).mono ?_); rintro e w1 ⟨rfl, hb⟩; have HB1 := Lib.hid (HB0.out.below hb); clear hb))
    | fail)
  go_ret2
  exact ⟨rfl, HB1.out.bel⟩
set_option maxHeartbeats 3200000 in
set_option maxRecDepth 1000000 in
theorem pwithin_ok {S T S' T' : List Int} {cS cT cS' cT' : Nat} {AS AT AS' AT' : Option Addr} (w : World) (hS : RdZ w w.heap.size AS cS S) (hT : RdZ w w.heap.size AT cT T) (hS' : RdZ w w.heap.size AS' cS' S') (hT' : RdZ w w.heap.size AT' cT' T') (hz : chk2 S T S' T' = 0) :
    Calls Try.prog 33 #[.agg #[.slice AS S.length cS, .slice AT T.length cT], .agg #[.slice AS' S'.length cS', .slice AT' T'.length cT']] w fun e w' => e = .returned (.tuple #[.bool (decide (xN S T S' T' ≤ S.length)), .int .i64 0]) ∧ Below w.heap.size w w' := by
  have HCk : Hid (∀ W, Below w.heap.size w W → Calls Try.prog 60 #[.agg #[.slice AS S.length cS, .slice AT T.length cT], .agg #[.slice AS' S'.length cS', .slice AT' T'.length cT']] W fun e w' => e = .returned (.int .i64 0) ∧ Below W.heap.size W w') := fun W hb => by
    rw [← hz]; exact cboth_any W (hS.below hb) (hT.below hb) (hS'.below hb) (hT'.below hb) hb.size
  have HB0 := Lib.hid (B2.start w #[.slice AS S.length cS, .slice AT T.length cT] #[.slice AS' S'.length cS', .slice AT' T'.length cT'])
  obtain ⟨ha, hb⟩ := chk2_ok hz
  have HI := Lib.hid (fun W (h : Below w.heap.size w W) => pw_tog w hS hT hS' hT' ha hb W h)
  generalize decide (xN S T S' T' ≤ S.length) = q at *
  clear hS hT hS' hT' hz ha hb
  go_enter Try.func33, Try.ntmps33
  go_wp2_with (first
    | (go_at_call 60; ((with_reducible refine (HCk.out _ HB0.out.bel).mono ?_); rintro e w1 ⟨rfl, hb⟩; have HB1 := Lib.hid (HB0.out.below hb); obtain ⟨⟨p1, p2⟩, _⟩ := two_of_block HB1.out.p; obtain ⟨⟨q1, q2⟩, _⟩ := two_of_block HB1.out.q; clear hb))
    | (go_at_call 61; ((with_reducible refine (HI.out _ HB1.out.bel).mono ?_); rintro e w2 ⟨A, n, c, A', n', c', rfl, hb⟩; have HB2 := Lib.hid (HB1.out.below hb); clear hb))
    | fail)
  go_ret2
  exact ⟨rfl, (HB2.out.below (below1 _ _)).bel⟩
theorem pwithin_any {S T S' T' : List Int} {cS cT cS' cT' : Nat} {AS AT AS' AT' : Option Addr} (w : World) (hS : RdZ w w.heap.size AS cS S) (hT : RdZ w w.heap.size AT cT T) (hS' : RdZ w w.heap.size AS' cS' S') (hT' : RdZ w w.heap.size AT' cT' T') :
    Calls Try.prog 33 #[.agg #[.slice AS S.length cS, .slice AT T.length cT], .agg #[.slice AS' S'.length cS', .slice AT' T'.length cT']] w fun e w' => e = .returned (.tuple #[.bool (decide (chk2 S T S' T' = 0 ∧ xN S T S' T' ≤ S.length)), .int .i64 (chk2 S T S' T')]) ∧ Below w.heap.size w w' := by
  by_cases hz : chk2 S T S' T' = 0
  · have e1 : decide (chk2 S T S' T' = 0 ∧ xN S T S' T' ≤ S.length) = decide (xN S T S' T' ≤ S.length) := by simp [hz]
    rw [e1, hz]
    exact pwithin_ok w hS hT hS' hT' hz
  · have e1 : decide (chk2 S T S' T' = 0 ∧ xN S T S' T' ≤ S.length) = false := by simp [hz]
    rw [e1]
    exact pwithin_bad w hS hT hS' hT' _ rfl hz
end Go.Proofs.Ytjhdpcbkdeagnaa
