/- The guard of every law of subgroup: awake() is true. -/
import Derived.Test.YtmikhkolbkdnpaaGIx
import Derived.Test.YtmikhkolbkdnpaaSm22L
namespace Go.Proofs.Ytmikhkolbkdnpaa
open Go.RowKit
set_option linter.unusedVariables false
set_option linter.unusedSimpArgs false

theorem ckx2 (w : World) : Calls Try.prog 47 #[.agg #[.int .i64 1, .int .i64 2]] w fun e w' => e = .returned (.int .i64 0) ∧ Below w.heap.size w w' := by
  have := ckx_any 1 2 w
  rwa [show ckxI 1 2 = 0 from by decide +kernel] at this
theorem idx24 (w : World) : Calls Try.prog 71 #[.agg #[.int .i64 2, .int .i64 4]] w fun e w' => e = .returned (.tuple #[.int .i64 12, .int .i64 0]) ∧ Below w.heap.size w w' := by
  have := index_any 2 4 w
  rwa [show idxI 2 4 = 12 from by decide +kernel, show gckI 2 4 = 0 from by decide +kernel] at this
theorem own_set2' {w : World} {b g : Nat} {e : TypeId} {size : Nat} {v : Value} {n : Nat} {xs : List Value} (h : w.ownsRow b e size v n xs) (hg : g < b) (o : Obj) (u1 u2 : Value) : (((w.setCell ⟨g, 0, none⟩ u1).setCell ⟨g, 1, none⟩ u2).alloc o).ownsRow b e size v n xs :=
  own_below (own_set (own_set h hg _) hg _) (below1 _ _)
theorem of_world {w2 : World} {B : Nat} {A1 A2 : Option Addr} {c1 c2 : Nat} {S T : List Int} {g : Nat} (hg : g < B) (o : Obj) (u1 u2 : Value) (h1 : w2.ownsRow B 3 1 (.slice A1 S.length c1) S.length (zs S)) (h2 : w2.ownsRow B 3 1 (.slice A2 T.length c2) T.length (zs T)) :
    RdZ (((w2.setCell ⟨g, 0, none⟩ u1).setCell ⟨g, 1, none⟩ u2).alloc o) (((w2.setCell ⟨g, 0, none⟩ u1).setCell ⟨g, 1, none⟩ u2).alloc o).heap.size A1 c1 S ∧ RdZ (((w2.setCell ⟨g, 0, none⟩ u1).setCell ⟨g, 1, none⟩ u2).alloc o) (((w2.setCell ⟨g, 0, none⟩ u1).setCell ⟨g, 1, none⟩ u2).alloc o).heap.size A2 c2 T := by
  obtain ⟨A, c, e, r⟩ := own_rdz (own_set2' h1 hg o u1 u2)
  obtain ⟨A', c', e', r'⟩ := own_rdz (own_set2' h2 hg o u1 u2)
  cases e
  cases e'
  exact ⟨r, r'⟩
set_option maxHeartbeats 3200000 in
set_option maxRecDepth 1000000 in
theorem of2 (w : World) : Calls Try.prog 21 #[.agg #[.int .i64 1, .int .i64 2]] w fun e w' => ∃ AS cS AT cT, e = .returned (.tuple #[.agg #[.slice AS 3 cS, .slice AT 3 cT], .int .i64 0]) ∧ RdZ w' w'.heap.size AS cS [1, 0, 2] ∧ RdZ w' w'.heap.size AT cT [0, 2, 1] ∧ Below w.heap.size w w' := by
  have HK := Lib.hid (fun W => ckx2 W)
  have HS := Lib.hid (fun W => search2 W)
  go_enter Try.func21, Try.ntmps21
  go_wp2_with (first
    | (go_at_call 47; ((with_reducible refine (HK.out _).mono ?_); rintro e w1 ⟨rfl, hb⟩; have T1 : Hid (w1.heap[w.heap.size]? = some (.cells #[.int .i64 1, .int .i64 2] 51 (0, 0))) := block_below (block_alloc (heap_alloc_new w _) _) hb; have R1 : Hid (w1.heap[w.heap.size + 1]? = some (.cells #[.slice none 0 0, .slice none 0 0] 24 (0, 0))) := block_below (by have := heap_alloc_new (w.alloc (.cells #[.int .i64 1, .int .i64 2] 51)) (.cells #[.slice none 0 0, .slice none 0 0] 24); simpa using this) hb; have HB1 : Hid (Below w.heap.size w w1) := bel2 (Below.refl _ _) hb; obtain ⟨⟨t1, t2⟩, _⟩ := two_of_block T1.out; have hz1 := lt_of_block R1.out; clear hb))
    | (go_at_call 48; ((with_reducible refine (HS.out _).mono ?_); rintro e w2 ⟨vS, vT, vl, rfl, hS, hT, hL, hb⟩; obtain ⟨AS, cS, rfl⟩ := own_len hS; obtain ⟨AT, cT, rfl⟩ := own_len hT; obtain ⟨AL, cL, rfl⟩ := own_len hL; have OS := Lib.hid hS; have OT := Lib.hid hT; have R2 : Hid (w2.heap[w.heap.size + 1]? = some (.cells #[.slice none 0 0, .slice none 0 0] 24 (0, 0))) := block_below R1.out hb; have HB2 : Hid (Below w.heap.size w w2) := bel0 HB1.out hb; obtain ⟨⟨k1, k2⟩, fz⟩ := two_of_block R2.out; have f1 := fz 0; have f2 := fz 1; have hz2 := lt_of_block R2.out; clear hb hS hT hL t1 t2 fz))
    | fail)
  obtain ⟨HR1, HR2⟩ := of_world (S := [1, 0, 2]) (T := [0, 2, 1]) hz1 (.cells #[.slice AS 3 cS, .slice AT 3 cT] 24) (.slice AS 3 cS) (.slice AT 3 cT) OS.out OT.out
  obtain ⟨⟨r1, r2⟩, _⟩ := two_of_block (block_alloc (two_set1 (two_set0 R2.out (.slice AS 3 cS)) (.slice AT 3 cT)) (.cells #[.slice AS 3 cS, .slice AT 3 cT] 24))
  refine bodyPost_ret (v := .tuple #[.agg #[.slice AS 3 cS, .slice AT 3 cT], .int .i64 0]) ?_ rfl ⟨AS, cS, AT, cT, rfl, HR1, HR2, (below_set2 HB2.out (Nat.le_succ _) _ _).trans ((below1 _ _).mono (by have := HB2.out.size; simpa using this))⟩
  simp [results, Try.results21, go_sem, r1, r2]
theorem rdz3 (w : World) (a b c : Int) (t : TypeId) {g : Nat} (hg : g = w.heap.size) : RdZ (w.alloc (.cells #[.int .i64 a, .int .i64 b, .int .i64 c] t)) (w.heap.size + 1) (some ⟨g, 0, none⟩) 3 [a, b, c] := by
  subst hg
  refine ⟨by simp, by unfold maxLen; omega, fun _ => ⟨w.heap.size, 0, rfl, by omega, fun k hk => ?_⟩, fun a ha => by cases ha; exact ⟨_, _, rfl⟩⟩
  match k, hk with
  | 0, _ => simp
  | 1, _ => simp
  | 2, _ => simp
end Go.Proofs.Ytmikhkolbkdnpaa
