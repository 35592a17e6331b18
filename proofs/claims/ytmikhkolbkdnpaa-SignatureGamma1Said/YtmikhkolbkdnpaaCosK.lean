/- The coset functions of all groups. -/
import Derived.Test.YtmikhkolbkdnpaaGIx
import Derived.Test.YtmikhkolbkdnpaaSgM
namespace Go.Proofs.Ytmikhkolbkdnpaa
open Go.RowKit
set_option linter.unusedVariables false
set_option linter.unusedSimpArgs false

set_option maxHeartbeats 800000 in
set_option maxRecDepth 1000000 in
theorem gresidue_any (a m : Int) (w : World) (a1 : -1152921504606846976 ≤ a) (a2 : a ≤ 1152921504606846976) (m1 : 1 ≤ m) (m2 : m ≤ 120) :
    Calls Try.prog 86 #[.int .i64 a, .int .i64 m] w fun e w' => e = .returned (.int .i64 (a % m)) ∧ w = w' := by
  have b1 : (a.tmod m).natAbs < m.natAbs := by rw [Int.natAbs_tmod]; exact Nat.mod_lt _ (by omega)
  have e1 : (a.tmod m + m) % m = a % m := by
    by_cases h : a.tmod m < 0
    · rw [tmod_add a m (by omega) h, Int.emod_emod_of_dvd _ (Int.dvd_refl _)]
    · rw [Int.add_emod_right, tmod_same a m (by omega) (by omega), Int.emod_emod_of_dvd _ (Int.dvd_refl _)]
  rw [← e1]
  clear e1
  go_enter Try.func86, Try.ntmps86
  go_wp2
  go_ret
  exact ⟨rfl, rfl⟩
/-- Entries that the searches stay within. -/
def bd5 (m : M4) : Prop := (-1000000000 ≤ m.1 ∧ m.1 ≤ 1000000000) ∧ (-1000000000 ≤ m.2.1 ∧ m.2.1 ≤ 1000000000) ∧ (-1000000000 ≤ m.2.2.1 ∧ m.2.2.1 ≤ 1000000000) ∧ (-1000000000 ≤ m.2.2.2 ∧ m.2.2.2 ≤ 1000000000)
theorem kfour (w : World) (o p : Obj) (a b c d : Int) : Four (((w.alloc o).alloc (.cells #[.int .i64 a, .int .i64 b, .int .i64 c, .int .i64 d] 106)).alloc p).drew (w.heap.size + 1) a b c d := by
  have h1 : (w.alloc o).heap.size = w.heap.size + 1 := by simp
  have := heap_alloc_new (w.alloc o) (.cells #[.int .i64 a, .int .i64 b, .int .i64 c, .int .i64 d] 106)
  rw [h1] at this
  exact block_alloc this p
theorem kres (w : World) (o p q : Obj) : (((w.alloc o).alloc p).alloc q).drew.heap[w.heap.size + 1 + 1]? = some q := by
  have h1 : ((w.alloc o).alloc p).heap.size = w.heap.size + 1 + 1 := by simp
  have := heap_alloc_new ((w.alloc o).alloc p) q
  rw [h1] at this
  exact this
set_option maxHeartbeats 3200000 in
set_option maxRecDepth 1000000 in
theorem cos2_at {n a b c d : Int} (n1 : 1 ≤ n) (n2 : n ≤ 120) (hb : bd5 (a, b, c, d)) : CosC 2 n a b c d (c % n) (d % n) 0 0 := by
  intro w
  obtain ⟨⟨a1, a2⟩, ⟨b1, b2⟩, ⟨c1, c2⟩, ⟨d1, d2⟩⟩ := hb
  simp only at a1 a2 b1 b2 c1 c2 d1 d2
  have Ha := Lib.hid (fun W => gresidue_any a n W (by omega) (by omega) n1 n2)
  have Hb := Lib.hid (fun W => gresidue_any b n W (by omega) (by omega) n1 n2)
  have Hc := Lib.hid (fun W => gresidue_any c n W (by omega) (by omega) n1 n2)
  have Hd := Lib.hid (fun W => gresidue_any d n W (by omega) (by omega) n1 n2)
  have F_0 : Hid (Four (((w.alloc (.cells #[.int .i64 2, .int .i64 n] 51)).alloc (.cells #[.int .i64 a, .int .i64 b, .int .i64 c, .int .i64 d] 106)).alloc (.cells #[.int .i64 0, .int .i64 0, .int .i64 0, .int .i64 0] 107)).drew (w.heap.size + 1) a b c d) := kfour w _ _ _ _ _ _
  have F_1 : Hid (Four (((w.alloc (.cells #[.int .i64 2, .int .i64 n] 51)).alloc (.cells #[.int .i64 a, .int .i64 b, .int .i64 c, .int .i64 d] 106)).alloc (.cells #[.int .i64 (c % n), .int .i64 (d % n), .int .i64 0, .int .i64 0] 107)).drew (w.heap.size + 1) a b c d) := kfour w _ _ _ _ _ _
  have q0 := F_0.out.cells
  have HB1 : Hid (Below w.heap.size w (((w.alloc (.cells #[.int .i64 2, .int .i64 n] 51)).alloc (.cells #[.int .i64 a, .int .i64 b, .int .i64 c, .int .i64 d] 106)).alloc (.cells #[.int .i64 (c % n), .int .i64 (d % n), .int .i64 0, .int .i64 0] 107)).drew) := (below3 w _ _ _).drew
  have hr0 : (((w.alloc (.cells #[.int .i64 2, .int .i64 n] 51)).alloc (.cells #[.int .i64 a, .int .i64 b, .int .i64 c, .int .i64 d] 106)).alloc (.cells #[.int .i64 (c % n), .int .i64 (d % n), .int .i64 0, .int .i64 0] 107)).drew.heap[w.heap.size + 1 + 1]? = some (.cells #[.int .i64 (c % n), .int .i64 (d % n), .int .i64 0, .int .i64 0] 107 (0, 0)) := kres w _ _ _
  obtain ⟨⟨r1, r2, r3, r4⟩, _⟩ := four_of_block hr0
  clear a1 a2 b1 b2 c1 c2 d1 d2
  go_enter Try.func72, Try.ntmps72
  go_upto_region 9 with fail
  go_region_held3 (fun w' => w'.cell? ⟨w.heap.size + 1, 0, none⟩ = some (.int .i64 a) ∧ w'.cell? ⟨w.heap.size + 1, 1, none⟩ = some (.int .i64 b) ∧ w'.cell? ⟨w.heap.size + 1, 2, none⟩ = some (.int .i64 c) ∧ w'.cell? ⟨w.heap.size + 1, 3, none⟩ = some (.int .i64 d))
    (with_reducible first | exact Four.cells F_0.out | exact Four.cells F_1.out | fail)
    (first
      | (go_at_call 86; ((with_reducible refine (Hc.out _).mono ?_); rintro e w' ⟨rfl, rfl⟩))
      | (go_at_call 86; ((with_reducible refine (Hd.out _).mono ?_); rintro e w' ⟨rfl, rfl⟩))
      | fail)
  all_goals
    go_wp2
    refine bodyPost_ret (v := .agg #[.int .i64 (c % n), .int .i64 (d % n), .int .i64 0, .int .i64 0]) ?_ rfl ⟨rfl, HB1.out⟩
    simp [results, Try.results72, go_sem, r1, r2, r3, r4]
set_option maxHeartbeats 3200000 in
set_option maxRecDepth 1000000 in
theorem cos3_at {n a b c d : Int} (n1 : 1 ≤ n) (n2 : n ≤ 120) (hb : bd5 (a, b, c, d)) : CosC 3 n a b c d (a % n) (b % n) (c % n) (d % n) := by
  intro w
  obtain ⟨⟨a1, a2⟩, ⟨b1, b2⟩, ⟨c1, c2⟩, ⟨d1, d2⟩⟩ := hb
  simp only at a1 a2 b1 b2 c1 c2 d1 d2
  have Ha := Lib.hid (fun W => gresidue_any a n W (by omega) (by omega) n1 n2)
  have Hb := Lib.hid (fun W => gresidue_any b n W (by omega) (by omega) n1 n2)
  have Hc := Lib.hid (fun W => gresidue_any c n W (by omega) (by omega) n1 n2)
  have Hd := Lib.hid (fun W => gresidue_any d n W (by omega) (by omega) n1 n2)
  have F_0 : Hid (Four (((w.alloc (.cells #[.int .i64 3, .int .i64 n] 51)).alloc (.cells #[.int .i64 a, .int .i64 b, .int .i64 c, .int .i64 d] 106)).alloc (.cells #[.int .i64 0, .int .i64 0, .int .i64 0, .int .i64 0] 107)).drew (w.heap.size + 1) a b c d) := kfour w _ _ _ _ _ _
  have F_1 : Hid (Four (((w.alloc (.cells #[.int .i64 3, .int .i64 n] 51)).alloc (.cells #[.int .i64 a, .int .i64 b, .int .i64 c, .int .i64 d] 106)).alloc (.cells #[.int .i64 (a % n), .int .i64 (b % n), .int .i64 (c % n), .int .i64 (d % n)] 107)).drew (w.heap.size + 1) a b c d) := kfour w _ _ _ _ _ _
  have q0 := F_0.out.cells
  have HB1 : Hid (Below w.heap.size w (((w.alloc (.cells #[.int .i64 3, .int .i64 n] 51)).alloc (.cells #[.int .i64 a, .int .i64 b, .int .i64 c, .int .i64 d] 106)).alloc (.cells #[.int .i64 (a % n), .int .i64 (b % n), .int .i64 (c % n), .int .i64 (d % n)] 107)).drew) := (below3 w _ _ _).drew
  have hr0 : (((w.alloc (.cells #[.int .i64 3, .int .i64 n] 51)).alloc (.cells #[.int .i64 a, .int .i64 b, .int .i64 c, .int .i64 d] 106)).alloc (.cells #[.int .i64 (a % n), .int .i64 (b % n), .int .i64 (c % n), .int .i64 (d % n)] 107)).drew.heap[w.heap.size + 1 + 1]? = some (.cells #[.int .i64 (a % n), .int .i64 (b % n), .int .i64 (c % n), .int .i64 (d % n)] 107 (0, 0)) := kres w _ _ _
  obtain ⟨⟨r1, r2, r3, r4⟩, _⟩ := four_of_block hr0
  clear a1 a2 b1 b2 c1 c2 d1 d2
  go_enter Try.func72, Try.ntmps72
  go_upto_region 3 with fail
  go_region_held3 (fun w' => w'.cell? ⟨w.heap.size + 1, 0, none⟩ = some (.int .i64 a) ∧ w'.cell? ⟨w.heap.size + 1, 1, none⟩ = some (.int .i64 b) ∧ w'.cell? ⟨w.heap.size + 1, 2, none⟩ = some (.int .i64 c) ∧ w'.cell? ⟨w.heap.size + 1, 3, none⟩ = some (.int .i64 d))
    (with_reducible first | exact Four.cells F_0.out | exact Four.cells F_1.out | fail)
    (first
      | (go_at_call 86; ((with_reducible refine (Ha.out _).mono ?_); rintro e w' ⟨rfl, rfl⟩))
      | (go_at_call 86; ((with_reducible refine (Hb.out _).mono ?_); rintro e w' ⟨rfl, rfl⟩))
      | (go_at_call 86; ((with_reducible refine (Hc.out _).mono ?_); rintro e w' ⟨rfl, rfl⟩))
      | (go_at_call 86; ((with_reducible refine (Hd.out _).mono ?_); rintro e w' ⟨rfl, rfl⟩))
      | fail)
  all_goals
    go_wp2
    refine bodyPost_ret (v := .agg #[.int .i64 (a % n), .int .i64 (b % n), .int .i64 (c % n), .int .i64 (d % n)]) ?_ rfl ⟨rfl, HB1.out⟩
    simp [results, Try.results72, go_sem, r1, r2, r3, r4]
set_option maxHeartbeats 1600000 in
set_option maxRecDepth 1000000 in
theorem cos4_at {n a b c d U V T : Int} (hn : ∀ W, Calls Try.prog 90 #[.int .i64 n, .int .i64 a, .int .i64 b] W fun e w' => e = .returned (.tuple #[.agg #[.int .i64 U, .int .i64 V, .int .i64 T], .int .i64 0]) ∧ Below W.heap.size W w') : CosC 4 n a b c d U V 0 0 := by
  intro w
  have HN := Lib.hid (fun W => point_at hn W)
  clear hn
  go_enter Try.func72, Try.ntmps72
  go_wp2_with (first
    | (go_at_call 85; ((with_reducible refine (HN.out _).mono ?_); rintro e w1 ⟨rfl, hb⟩; have HB1 : Hid (Below w.heap.size w w1) := (below3 w _ _ _).trans (hb.mono (by simp; omega)); have F1 : Hid (w1.heap[w.heap.size + 1 + 1]? = some (.cells #[.int .i64 0, .int .i64 0, .int .i64 0, .int .i64 0] 107 (0, 0))) := block_below (by have := heap_alloc_new ((w.alloc (.cells #[.int .i64 4, .int .i64 n] 51)).alloc (.cells #[.int .i64 a, .int .i64 b, .int .i64 c, .int .i64 d] 106)) (.cells #[.int .i64 0, .int .i64 0, .int .i64 0, .int .i64 0] 107); simpa using this) hb; obtain ⟨⟨k1, k2, k3, k4⟩, fz⟩ := four_of_block F1.out; have f1 := fz 0; have f2 := fz 1; have f3 := fz 2; have f4 := fz 3; clear fz; have hz := lt_of_block F1.out; clear hb))
    | fail)
  obtain ⟨⟨r1, r2, r3, r4⟩, _⟩ := four_of_block (four_set F1.out (.int .i64 U) (.int .i64 V) (.int .i64 0) (.int .i64 0))
  refine bodyPost_ret (v := .agg #[.int .i64 U, .int .i64 V, .int .i64 0, .int .i64 0]) ?_ rfl ⟨rfl, below_set4 HB1.out (by omega) _ _ _ _⟩
  simp [results, Try.results72, go_sem, r1, r2, r3, r4]
theorem kwf {a b c d : Int} (ha : -1000000 ≤ a ∧ a ≤ 1000000) (hb : -1000000 ≤ b ∧ b ≤ 1000000) (hc : -1000000 ≤ c ∧ c ≤ 1000000) (hd : -1000000 ≤ d ∧ d ≤ 1000000) : wf4 (a, b, c, d) := by
  have k : ∀ x : Int, -1000000 ≤ x ∧ x ≤ 1000000 → (Lit.int .i64 x).wf = true := fun x hx => by simp [Lit.wf, IntKind.min, IntKind.max, IntKind.signed, IntKind.bits]; omega
  exact ⟨k a ha, k b hb, k c hc, k d hd⟩
theorem kmod {n x : Int} (n1 : 1 ≤ n) (n2 : n ≤ 120) : -1000000 ≤ x % n ∧ x % n ≤ 1000000 := by
  have h0 := Int.emod_nonneg x (show n ≠ 0 by omega)
  have h1 := Int.emod_lt_of_pos x (show 0 < n by omega)
  omega
theorem kom2 {n : Int} (n1 : 1 ≤ n) (n2 : n ≤ 120) {m : M4} (hb : bd5 m) : CoM 2 n (kc2 n) m :=
  ⟨cos2_at n1 n2 hb, kwf (kmod n1 n2) (kmod n1 n2) (by decide) (by decide)⟩
theorem kom3 {n : Int} (n1 : 1 ≤ n) (n2 : n ≤ 120) {m : M4} (hb : bd5 m) : CoM 3 n (kc3 n) m :=
  ⟨cos3_at n1 n2 hb, kwf (kmod n1 n2) (kmod n1 n2) (kmod n1 n2) (kmod n1 n2)⟩
theorem knorm {n c d : Int} (n1 : 1 ≤ n) (n2 : n ≤ 120) (hc : -1000000000 ≤ c ∧ c ≤ 1000000000) (hd : -1000000000 ≤ d ∧ d ≤ 1000000000) (hg : Cop3 n c d) : ∃ T, (∀ W, Calls Try.prog 90 #[.int .i64 n, .int .i64 c, .int .i64 d] W fun e w' => e = .returned (.tuple #[.agg #[.int .i64 (nfU n c d), .int .i64 (nfV n c d), .int .i64 T], .int .i64 0]) ∧ Below W.heap.size W w') ∧ wf4 (nfU n c d, nfV n c d, 0, 0) := by
  obtain ⟨T, h⟩ := nf_spec n1 c d
  have h0 := h.u0; have h1 := h.u1; have h2 := h.v0; have h3 := h.v1
  refine ⟨T, fun W => (pnormal_any n c d W).mono ?_, kwf (by omega) (by omega) (by decide) (by decide)⟩
  rintro e w' ⟨U, V, T', k, hE, rfl, hb⟩
  obtain ⟨rfl, rfl, rfl, rfl⟩ := hE.unique (NorE.yes _ _ T n1 n2 (inE_yes (by omega) (by omega)) (inE_yes (by omega) (by omega)) (cop3_gcd hg) h)
  exact ⟨rfl, hb⟩
theorem kom1 {n : Int} (n1 : 1 ≤ n) (n2 : n ≤ 120) {m : M4} (hb : bd5 m) (hd : dtM m = 1) : CoM 1 n (kc1 n) m := by
  obtain ⟨T, h, hw⟩ := knorm n1 n2 hb.2.2.1 hb.2.2.2 (row_cop (n := n) hd)
  exact ⟨cos0_at h, hw⟩
theorem kom0 {n : Int} (n1 : 1 ≤ n) (n2 : n ≤ 120) {m : M4} (hb : bd5 m) (hd : dtM m = 1) : CoM 4 n (kc0 n) m := by
  obtain ⟨T, h, hw⟩ := knorm n1 n2 hb.1 hb.2.1 (row_cop' (n := n) hd)
  exact ⟨cos4_at h, hw⟩
end Go.Proofs.Ytmikhkolbkdnpaa
