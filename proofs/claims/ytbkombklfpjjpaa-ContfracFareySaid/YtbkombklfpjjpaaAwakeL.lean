/- The guard of every law: awake() is true. -/
import Derived.Test.YtbkombklfpjjpaaChnL
import Derived.Test.YtbkombklfpjjpaaParL
import Derived.Test.YtbkombklfpjjpaaSameL
namespace Go.Proofs.Ytbkombklfpjjpaa
open Go.RowKit

theorem xp_5 : expI (-5) 7 = 0 ∧ exl (-5) 7 = [-1, 3, 2] := by decide +kernel
theorem both_5 : bothI 5 7 1 2 = 0 := by decide +kernel
theorem chn_5 : chnL 5 7 1 2 = [(5, 7), (2, 3), (1, 1), (0, 1), (1, 2)] := by decide +kernel
theorem cus_5 : cuspI 5 7 = 0 := by decide +kernel
theorem par_5 : ParE 5 7 2 3 3 4 0 := .inr (.inr ⟨cus_5, by decide, ⟨by decide, by decide, by decide⟩, by decide, by decide, rfl⟩)
theorem expand_5 (w : World) : Calls Try.prog 14 #[.agg #[.int .i64 (-5), .int .i64 7]] w fun e w' => ∃ (A : Option Addr) (c : Nat), e = .returned (.tuple #[.slice A 3 c, .int .i64 0]) ∧ RdZ w' w'.heap.size A c [-1, 3, 2] ∧ Below w.heap.size w w' := by
  refine (expand_any (-5) 7 w).mono ?_
  rw [xp_5.1, xp_5.2]
  rintro e w' ⟨A, c, he, hr, _, hb⟩
  exact ⟨A, c, he, hr, hb⟩
theorem chain_5 (w : World) : Calls Try.prog 25 #[.agg #[.int .i64 5, .int .i64 7], .agg #[.int .i64 1, .int .i64 2]] w fun e w' => ∃ (A : Option Addr) (c : Nat), e = .returned (.tuple #[.slice A 5 c, .int .i64 0]) ∧ RdC w' w'.heap.size A c [(5, 7), (2, 3), (1, 1), (0, 1), (1, 2)] ∧ Below w.heap.size w w' := by
  refine (chain_any 5 7 1 2 w).mono ?_
  rw [both_5, chn_5]
  rintro e w' ⟨A, c, he, hr, hb⟩
  exact ⟨A, c, he, own_rdc hr, hb⟩
theorem parents_5 (w : World) : Calls Try.prog 33 #[.agg #[.int .i64 5, .int .i64 7]] w fun e w' => e = .returned (.tuple #[.agg #[.int .i64 2, .int .i64 3], .agg #[.int .i64 3, .int .i64 4], .int .i64 0]) ∧ Below w.heap.size w w' := by
  refine (parents_any 5 7 w).mono ?_
  rintro e w' ⟨x, y, z, t, k, hp, he, hb⟩
  obtain ⟨rfl, rfl, rfl, rfl, rfl⟩ := hp.unique par_5
  exact ⟨he, hb⟩
theorem rdz3 (w : World) (x y z : Int) (t : TypeId) {g : Nat} (hg : g = w.heap.size) : RdZ (w.alloc (.cells #[.int .i64 x, .int .i64 y, .int .i64 z] t)) (w.heap.size + 1) (some ⟨g, 0, none⟩) 3 [x, y, z] := by
  subst hg
  refine ⟨by simp, by unfold maxLen; omega, fun _ => ⟨w.heap.size, 0, rfl, by omega, fun k hk => ?_⟩, fun a ha => by cases ha; exact ⟨_, _, rfl⟩⟩
  match k, hk with
  | 0, _ => simp
  | 1, _ => simp
  | 2, _ => simp
theorem ints3 {x y z : Int} {B1 B2 c1 c2 : Nat} {A1 A2 : Option Addr} (w : World) (h1 : RdZ w B1 A1 c1 [x, y, z]) (h2 : RdZ w B2 A2 c2 [x, y, z]) :
    Calls Try.prog 16 #[.slice A1 3 c1, .slice A2 3 c2] w fun e w' => e = .returned (.bool true) ∧ ∃ n, w' = w.drewN n := ints_same (l := [x, y, z]) w h1 h2
theorem rdc5 (w : World) (a b c d e f p q r s : Int) (t : TypeId) (o : Obj) {g : Nat} (hg : g = w.heap.size) : RdC ((w.alloc (.cells #[.int .i64 a, .int .i64 b, .int .i64 c, .int .i64 d, .int .i64 e, .int .i64 f, .int .i64 p, .int .i64 q, .int .i64 r, .int .i64 s] t)).alloc o) (w.heap.size + 1) (some ⟨g, 0, none⟩) 5 [(a, b), (c, d), (e, f), (p, q), (r, s)] := by
  subst hg
  have h : RdC (w.alloc (.cells #[.int .i64 a, .int .i64 b, .int .i64 c, .int .i64 d, .int .i64 e, .int .i64 f, .int .i64 p, .int .i64 q, .int .i64 r, .int .i64 s] t)) (w.heap.size + 1) (some ⟨w.heap.size, 0, none⟩) 5 [(a, b), (c, d), (e, f), (p, q), (r, s)] := by
    refine ⟨by simp, by unfold maxLen; omega, fun _ => ⟨w.heap.size, 0, rfl, by omega, fun k hk => ?_⟩, fun a ha => by cases ha; exact ⟨_, _, rfl⟩⟩
    match k, hk with
    | 0, _ => simp
    | 1, _ => simp
    | 2, _ => simp
    | 3, _ => simp
    | 4, _ => simp
  exact h.below ((below1 _ o).mono (by simp))
theorem same5 {B1 B2 c1 c2 : Nat} {A1 A2 : Option Addr} (w : World) (h1 : RdC w B1 A1 c1 [(5, 7), (2, 3), (1, 1), (0, 1), (1, 2)]) (h2 : RdC w B2 A2 c2 [(5, 7), (2, 3), (1, 1), (0, 1), (1, 2)]) :
    Calls Try.prog 20 #[.slice A1 5 c1, .slice A2 5 c2] w fun e w' => e = .returned (.bool true) ∧ ∃ n, w' = w.drewN n := by
  have := same_any w h1 h2
  rwa [show ([(5, 7), (2, 3), (1, 1), (0, 1), (1, 2)] : List (Int × Int)).length = 5 from rfl] at this
set_option maxHeartbeats 1600000 in
set_option maxRecDepth 1000000 in
theorem awake_any (w : World) : Calls Try.prog 13 #[] w fun e w' => e = .returned (.bool true) ∧ Below w.heap.size w w' := by
  go_enter Try.func13, Try.ntmps13
  go_wp2_with (first
    | (go_at_call 14; ((with_reducible refine (expand_5 _).mono ?_); rintro e w1 ⟨A1, c1, rfl, hr, hb⟩; have HR1 := Lib.hid hr; have HB1 := Lib.hid hb; clear hr hb))
    | (go_at_call 25; ((with_reducible refine (chain_5 _).mono ?_); rintro e w2 ⟨A2, c2, rfl, hr, hb⟩; have HR2 := Lib.hid hr; have HK2 := Lib.hid hb; clear hr hb))
    | (go_at_call 33; ((with_reducible refine (parents_5 _).mono ?_); rintro e w3 ⟨rfl, hb⟩; have HK3 := Lib.hid hb; have HZ3 := Lib.hid ((HR1.out.below HK2.out).below (hb.mono HK2.out.size)); have HC3 := Lib.hid (HR2.out.below hb); have HB3 := Lib.hid (HB1.out.trans ((HK2.out.trans (hb.mono HK2.out.size)).mono HB1.out.size)); clear hb))
    | (go_at_call 16; ((with_reducible refine (ints3 _ (HZ3.out.below ((below4 _ _ _ _ _).mono (by have := HK2.out.size; have := HK3.out.size; omega))) (rdz3 _ (-1) 3 2 _ (by simp))).mono ?_); rintro e w4 ⟨rfl, n4, rfl⟩))
    | (go_at_call 20; ((with_reducible refine (same5 _ (RdC.drew (HC3.out.below ((below4 _ _ _ _ _).mono HK3.out.size)) _) (RdC.drew (rdc5 _ 5 7 2 3 1 1 0 1 1 2 _ _ (by simp)) _)).mono ?_); rintro e w5 ⟨rfl, n5, rfl⟩))
    | fail)
  go_ret
  exact ⟨rfl, below_drewN (HB3.out.trans ((below4 _ _ _ _ _).mono HB3.out.size)) (n4 + n5)⟩
end Go.Proofs.Ytbkombklfpjjpaa
