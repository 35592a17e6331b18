/- The guard of every law of subgroup: awake() is true. -/
import Derived.Test.YtilfkppapimocaaCosL
import Derived.Test.YtilfkppapimocaaIdxG
import Derived.Test.YtilfkppapimocaaSm22L
namespace Go.Proofs.Ytilfkppapimocaa
open Go.RowKit
set_option linter.unusedVariables false
set_option linter.unusedSimpArgs false

theorem ckx2 (w : World) : Calls Try.prog 42 #[.agg #[.int .i64 1, .int .i64 2]] w fun e w' => e = .returned (.int .i64 0) ∧ Below w.heap.size w w' := by
  have := ckx_any 1 2 w
  rwa [show ckxI 1 2 = 0 from by decide +kernel] at this
theorem idx24 (w : World) : Calls Try.prog 19 #[.agg #[.int .i64 2, .int .i64 4]] w fun e w' => e = .returned (.tuple #[.int .i64 12, .int .i64 0]) ∧ Below w.heap.size w w' := by
  have := index_any 2 4 w
  rwa [show idxI 2 4 = 12 from by decide +kernel, show gckI 2 4 = 0 from by decide +kernel] at this
theorem own_set2' {w : World} {b g : Nat} {e : TypeId} {size : Nat} {v : Value} {n : Nat} {xs : List Value} (h : w.ownsRow b e size v n xs) (hg : g < b) (o : Obj) (u1 u2 : Value) : (((w.setCell ⟨g, 0, none⟩ u1).setCell ⟨g, 1, none⟩ u2).alloc o).ownsRow b e size v n xs :=
  own_below (own_set (own_set h hg _) hg _) (below1 _ _)
theorem of_world {w2 : World} {B : Nat} {A1 A2 : Option Addr} {c1 c2 : Nat} {S T : List Int} {g : Nat} (hg : g < B) (o : Obj) (u1 u2 : Value) (h1 : w2.ownsRow B 3 1 (.slice A1 S.length c1) S.length (zs S)) (h2 : w2.ownsRow B 3 1 (.slice A2 T.length c2) T.length (zs T)) :
    RdZ (((w2.setCell ⟨g, 0, none⟩ u1).setCell ⟨g, 1, none⟩ u2).alloc o) (((w2.setCell ⟨g, 0, none⟩ u1).setCell ⟨g, 1, none⟩ u2).alloc o).heap.size A1 c1 S ∧ RdZ (((w2.setCell ⟨g, 0, none⟩ u1).setCell ⟨g, 1, none⟩ u2).alloc o) (((w2.setCell ⟨g, 0, none⟩ u1).setCell ⟨g, 1, none⟩ u2).alloc o).heap.size A2 c2 T := by
  obtain ⟨A, c, e, r⟩ := own_rdz (own_set2' h1 hg o u1 u2)
  obtain ⟨A', c', e', r'⟩ := own_rdz (own_set2' h2 hg o u1 u2)
  cases e
  cases e'
  exact ⟨r, r'⟩
set_option maxHeartbeats 3200000 in
set_option maxRecDepth 1000000 in
theorem of2 (w : World) : Calls Try.prog 21 #[.agg #[.int .i64 1, .int .i64 2]] w fun e w' => ∃ AS cS AT cT, e = .returned (.tuple #[.agg #[.slice AS 3 cS, .slice AT 3 cT], .int .i64 0]) ∧ RdZ w' w'.heap.size AS cS [1, 0, 2] ∧ RdZ w' w'.heap.size AT cT [0, 2, 1] ∧ Below w.heap.size w w' := by
  have HK := Lib.hid (fun W => ckx2 W)
  have HS := Lib.hid (fun W => search2 W)
  go_enter Try.func21, Try.ntmps21
  go_wp2_with (first
    | (go_at_call 42; ((with_reducible refine (HK.out _).mono ?_); rintro e w1 ⟨rfl, hb⟩; have T1 : Hid (w1.heap[w.heap.size]? = some (.cells #[.int .i64 1, .int .i64 2] 24 (0, 0))) := block_below (block_alloc (heap_alloc_new w _) _) hb; have R1 : Hid (w1.heap[w.heap.size + 1]? = some (.cells #[.slice none 0 0, .slice none 0 0] 47 (0, 0))) := block_below (by have := heap_alloc_new (w.alloc (.cells #[.int .i64 1, .int .i64 2] 24)) (.cells #[.slice none 0 0, .slice none 0 0] 47); simpa using this) hb; have HB1 : Hid (Below w.heap.size w w1) := bel2 (Below.refl _ _) hb; obtain ⟨⟨t1, t2⟩, _⟩ := two_of_block T1.out; have hz1 := lt_of_block R1.out; clear hb))
    | (go_at_call 43; ((with_reducible refine (HS.out _).mono ?_); rintro e w2 ⟨vS, vT, vl, rfl, hS, hT, hL, hb⟩; obtain ⟨AS, cS, rfl⟩ := own_len hS; obtain ⟨AT, cT, rfl⟩ := own_len hT; obtain ⟨AL, cL, rfl⟩ := own_len hL; have OS := Lib.hid hS; have OT := Lib.hid hT; have R2 : Hid (w2.heap[w.heap.size + 1]? = some (.cells #[.slice none 0 0, .slice none 0 0] 47 (0, 0))) := block_below R1.out hb; have HB2 : Hid (Below w.heap.size w w2) := bel0 HB1.out hb; obtain ⟨⟨k1, k2⟩, fz⟩ := two_of_block R2.out; have f1 := fz 0; have f2 := fz 1; have hz2 := lt_of_block R2.out; clear hb hS hT hL t1 t2 fz))
    | fail)
  obtain ⟨HR1, HR2⟩ := of_world (S := [1, 0, 2]) (T := [0, 2, 1]) hz1 (.cells #[.slice AS 3 cS, .slice AT 3 cT] 47) (.slice AS 3 cS) (.slice AT 3 cT) OS.out OT.out
  obtain ⟨⟨r1, r2⟩, _⟩ := two_of_block (block_alloc (two_set1 (two_set0 R2.out (.slice AS 3 cS)) (.slice AT 3 cT)) (.cells #[.slice AS 3 cS, .slice AT 3 cT] 47))
  refine bodyPost_ret (v := .tuple #[.agg #[.slice AS 3 cS, .slice AT 3 cT], .int .i64 0]) ?_ rfl ⟨AS, cS, AT, cT, rfl, HR1, HR2, (below_set2 HB2.out (Nat.le_succ _) _ _).trans ((below1 _ _).mono (by have := HB2.out.size; simpa using this))⟩
  simp [results, Try.results21, go_sem, r1, r2]
set_option maxHeartbeats 3200000 in
set_option maxRecDepth 1000000 in
theorem rep2 (w : World) : Calls Try.prog 25 #[.agg #[.int .i64 1, .int .i64 2]] w fun e w' => ∃ g c, e = .returned (.tuple #[.slice (some ⟨g, 0, none⟩) 3 c, .int .i64 0]) ∧ g < w'.heap.size ∧ (w'.cell? ⟨g, 8, none⟩ = some (.int .i64 0) ∧ w'.cell? ⟨g, 9, none⟩ = some (.int .i64 (-1)) ∧ w'.cell? ⟨g, 10, none⟩ = some (.int .i64 1) ∧ w'.cell? ⟨g, 11, none⟩ = some (.int .i64 1)) ∧ 3 ≤ c ∧ Below w.heap.size w w' := by
  have HK := Lib.hid (fun W => ckx2 W)
  have HS := Lib.hid (fun W => search2 W)
  go_enter Try.func25, Try.ntmps25
  go_wp2_with (first
    | (go_at_call 42; ((with_reducible refine (HK.out _).mono ?_); rintro e w1 ⟨rfl, hb⟩; have T1 : Hid (w1.heap[w.heap.size]? = some (.cells #[.int .i64 1, .int .i64 2] 24 (0, 0))) := block_below (heap_alloc_new w _) hb; have HB1 : Hid (Below w.heap.size w w1) := bel1 (Below.refl _ _) hb; obtain ⟨⟨t1, t2⟩, _⟩ := two_of_block T1.out; have hz1 := lt_of_block T1.out; clear hb))
    | (go_at_call 43; ((with_reducible refine (HS.out _).mono ?_); rintro e w2 ⟨vS, vT, vl, rfl, hS, hT, hL, hb⟩; obtain ⟨AS, cS, rfl⟩ := own_len hS; obtain ⟨AT, cT, rfl⟩ := own_len hT; obtain ⟨gl, cL, rfl, hgl, r1, r2, r3, r4⟩ := row_at (L := [(1, 0, 0, 1), (0, -1, 1, 0), (0, -1, 1, 1)]) (i := 2) hL (by decide); have HC : Hid (3 ≤ cL) := (by rcases hL.2 with ⟨h, _⟩ | ⟨_, _, _, h, _, _, h2, _⟩ <;> cases h; exact h2); have HB2 : Hid (Below w.heap.size w w2) := bel0 HB1.out hb; have HR : Hid (w2.cell? ⟨gl, 8, none⟩ = some (.int .i64 0) ∧ w2.cell? ⟨gl, 9, none⟩ = some (.int .i64 (-1)) ∧ w2.cell? ⟨gl, 10, none⟩ = some (.int .i64 1) ∧ w2.cell? ⟨gl, 11, none⟩ = some (.int .i64 1)) := ⟨r1, r2, r3, r4⟩; clear hb hS hT hL t1 t2 r1 r2 r3 r4))
    | fail)
  have hlt : gl < (w2.alloc (.cells #[.slice AS 3 cS, .slice AT 3 cT] 47)).heap.size := by simp; omega
  have hkeep : ∀ j, (w2.alloc (.cells #[.slice AS 3 cS, .slice AT 3 cT] 47)).cell? ⟨gl, j, none⟩ = w2.cell? ⟨gl, j, none⟩ := fun j => (below1 w2 _).cell (p := ⟨gl, j, none⟩) hgl
  refine bodyPost_ret (v := .tuple #[.slice (some ⟨gl, 0, none⟩) 3 cL, .int .i64 0]) ?_ rfl ⟨gl, cL, rfl, hlt, ⟨(hkeep _).trans HR.out.1, (hkeep _).trans HR.out.2.1, (hkeep _).trans HR.out.2.2.1, (hkeep _).trans HR.out.2.2.2⟩, HC.out, HB2.out.trans ((below1 _ _).mono HB2.out.size)⟩
  simp [results, Try.results25, go_sem]
theorem rdz3 (w : World) (a b c : Int) (t : TypeId) {g : Nat} (hg : g = w.heap.size) : RdZ (w.alloc (.cells #[.int .i64 a, .int .i64 b, .int .i64 c] t)) (w.heap.size + 1) (some ⟨g, 0, none⟩) 3 [a, b, c] := by
  subst hg
  refine ⟨by simp, by unfold maxLen; omega, fun _ => ⟨w.heap.size, 0, rfl, by omega, fun k hk => ?_⟩, fun a ha => by cases ha; exact ⟨_, _, rfl⟩⟩
  match k, hk with
  | 0, _ => simp
  | 1, _ => simp
  | 2, _ => simp
theorem same3 {B : Nat} {A1 A2 A3 A4 : Option Addr} {c1 c2 c3 c4 : Nat} (w : World) (hB : B ≤ w.heap.size) (h1 : RdZ w B A1 c1 [1, 0, 2]) (h2 : RdZ w B A2 c2 [0, 2, 1]) (h3 : RdZ w B A3 c3 [1, 0, 2]) (h4 : RdZ w B A4 c4 [0, 2, 1]) :
    Calls Try.prog 27 #[.agg #[.slice A1 3 c1, .slice A2 3 c2], .agg #[.slice A3 3 c3, .slice A4 3 c4]] w fun e w' => e = .returned (.bool true) ∧ Below w.heap.size w w' := by
  have h := same22 (S := [1, 0, 2]) (T := [0, 2, 1]) w hB h1 h2 h3 h4
  rwa [show ([1, 0, 2] : List Int).length = 3 from rfl, show ([0, 2, 1] : List Int).length = 3 from rfl] at h
set_option maxHeartbeats 3200000 in
set_option maxRecDepth 1000000 in
theorem awake_any (w : World) : Calls Try.prog 12 #[] w fun e w' => e = .returned (.bool true) ∧ Below w.heap.size w w' := by
  have H1 := Lib.hid (fun W => of2 W)
  have H2 := Lib.hid (fun W => idx24 W)
  have H3 := Lib.hid (fun W => rep2 W)
  go_enter Try.func12, Try.ntmps12
  go_wp2_with (first
    | (go_at_call 21; ((with_reducible refine (H1.out _).mono ?_); rintro e w1 ⟨AS, cS, AT, cT, rfl, hS, hT, hb⟩; have S1 := Lib.hid hS; have R1 := Lib.hid hT; have HB1 : Hid (Below w.heap.size w w1) := hb; clear hS hT hb))
    | (go_at_call 19; ((with_reducible refine (H2.out _).mono ?_); rintro e w2 ⟨rfl, hb⟩; have T2 : Hid (w2.heap[w1.heap.size]? = some (.cells #[.slice AS 3 cS, .slice AT 3 cT] 47 (0, 0))) := block_below (heap_alloc_new w1 _) hb; have hb1 : Below w1.heap.size w1 w2 := bel1 (Below.refl _ _) hb; have S2 := Lib.hid (S1.out.below hb1); have R2 := Lib.hid (R1.out.below hb1); have HB2 : Hid (Below w.heap.size w w2) := bel0 HB1.out hb1; have hz2 : w1.heap.size < w2.heap.size := lt_of_block T2.out; clear hb hb1))
    | (go_at_call 25; ((with_reducible refine (H3.out _).mono ?_); rintro e w3 ⟨gl, cl, rfl, hgl, hr, hc, hb⟩; have T3 := Lib.hid (block_below T2.out hb); have S3 := Lib.hid (S2.out.below (hb.mono (Nat.le_of_lt hz2))); have R3 := Lib.hid (R2.out.below (hb.mono (Nat.le_of_lt hz2))); have HB3 : Hid (Below w.heap.size w w3) := bel0 HB2.out hb; obtain ⟨⟨t1, t2⟩, _⟩ := two_of_block T3.out; have hz3 : w1.heap.size < w3.heap.size := lt_of_block T3.out; have HR := Lib.hid hr; clear hb hr))
    | (go_at_call 27; ((with_reducible refine (same3 _ (B := w3.heap.size + 2) (by simp) ((S3.out.below ((below2 w3 _ _).mono (by omega))).mono (by omega)) ((R3.out.below ((below2 w3 _ _).mono (by omega))).mono (by omega)) (((rdz3 w3 1 0 2 3 rfl).below ((below1 _ _).mono (by simp))).mono (by omega)) ((rdz3 (w3.alloc (.cells #[.int .i64 1, .int .i64 0, .int .i64 2] 3)) 0 2 1 3 (by simp)).mono (by simp))).mono ?_); rintro e w4 ⟨rfl, hb⟩; have HB4 : Hid (Below w.heap.size w w4) := bel2 HB3.out hb; have hb4 : Below w3.heap.size w3 w4 := bel2 (Below.refl _ _) hb; have x1 := (hb4.cell (p := ⟨gl, 8, none⟩) hgl).trans HR.out.1; have x2 := (hb4.cell (p := ⟨gl, 9, none⟩) hgl).trans HR.out.2.1; have x3 := (hb4.cell (p := ⟨gl, 10, none⟩) hgl).trans HR.out.2.2.1; have x4 := (hb4.cell (p := ⟨gl, 11, none⟩) hgl).trans HR.out.2.2.2; have hgl4 : gl < w4.heap.size := Nat.lt_of_lt_of_le hgl hb4.size; clear hb hb4))
    | fail)
  go_ret
  exact ⟨rfl, HB4.out⟩
end Go.Proofs.Ytilfkppapimocaa
