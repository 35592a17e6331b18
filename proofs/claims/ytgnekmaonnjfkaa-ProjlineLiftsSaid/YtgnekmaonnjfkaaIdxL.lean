/- The contracts of Index and Act. -/
import Derived.Test.YtgnekmaonnjfkaaIxL
import Derived.Test.YtgnekmaonnjfkaaDetL
namespace Go.Proofs.Ytgnekmaonnjfkaa
open Go.RowKit
set_option linter.unusedVariables false

theorem nf_mem {k : Nat} {c d U V T : Int} (k1 : 1 ≤ k) (h : NF k c d U V T) (hc : Cop3 k c d) : ∃ u v : Nat, U = u ∧ V = v ∧ (u, v) ∈ pts k := by
  have h0 := h.u0; have h1 := h.u1; have h2 := h.v0; have h3 := h.v1
  have e1 : U = (U.toNat : Int) := by omega
  have e2 : V = (V.toNat : Int) := by omega
  refine ⟨U.toNat, V.toNat, e1, e2, mem_pts.2 ⟨by omega, by omega, (ptB_iff (by omega) (by omega)).2 ?_⟩⟩
  rw [← e1, ← e2]
  exact pt_of (by omega) h hc
theorem pts_len {k : Nat} (k2 : (k : Int) ≤ 120) : (pts k).length ≤ 14400 := by
  have := ptu_len k k
  rw [ptu_pts] at this
  exact Nat.le_trans this (Nat.mul_le_mul (show k ≤ 120 by omega) (show k ≤ 120 by omega))
/-- What Index answers. -/
inductive IdxE (n c d : Int) : Int → Int → Prop
  | err (U V T k : Int) : NorE n c d U V T k → ¬ k = 0 → IdxE n c d 0 k
  | yes (u v : Nat) (T : Int) : NorE n c d u v T 0 → (u, v) ∈ ptI n → IdxE n c d (ix (ptI n) u v) 0
theorem IdxE.unique {n c d i k i' k' : Int} (h : IdxE n c d i k) (h' : IdxE n c d i' k') : i = i' ∧ k = k' := by
  cases h with
  | err U V T _ h1 h2 =>
    cases h' with
    | err U' V' T' _ h3 h4 => exact ⟨rfl, (h1.unique h3).2.2.2⟩
    | yes u v T' h3 _ => exact absurd (h1.unique h3).2.2.2 h2
  | yes u v T h1 h2 =>
    cases h' with
    | err U' V' T' _ h3 h4 => exact absurd (h1.unique h3).2.2.2.symm h4
    | yes u' v' T' h3 _ =>
      obtain ⟨e1, e2, _⟩ := h1.unique h3
      obtain rfl : u = u' := by omega
      obtain rfl : v = v' := by omega
      exact ⟨rfl, rfl⟩
def IdxRet (n c d : Int) (w : World) (e : Ending) (w' : World) : Prop :=
  ∃ i k, IdxE n c d i k ∧ e = .returned (.tuple #[.int .i64 i, .int .i64 k]) ∧ Below w.heap.size w w'
theorem NorE.mem {n c d U V T : Int} (h : NorE n c d U V T 0) : ∃ (k u v : Nat), n = k ∧ 1 ≤ k ∧ (k : Int) ≤ 120 ∧ lvB n = true ∧ U = u ∧ V = v ∧ (u, v) ∈ pts k ∧ Cop3 n c d ∧ NF n c d U V T := by
  generalize hz : (0 : Int) = z at h
  cases h with
  | out h => exact absurd hz (by decide)
  | cop _ _ _ _ _ => exact absurd hz (by decide)
  | yes _ _ _ h1 h2 h3 h4 h5 h6 =>
    obtain ⟨k, rfl, k1, k2⟩ := lv_nat (lvB_yes h1 h2)
    obtain ⟨u, v, e1, e2, hm⟩ := nf_mem k1 h6 (cop3_of h5)
    exact ⟨k, u, v, rfl, k1, k2, lvB_yes h1 h2, e1, e2, hm, cop3_of h5, h6⟩
set_option maxHeartbeats 3200000 in
set_option maxRecDepth 1000000 in
theorem pindex_any (n c d : Int) (w : World) : Calls Try.prog 19 #[.int .i64 n, .int .i64 c, .int .i64 d] w (IdxRet n c d w) := by
  go_enter Try.func19, Try.ntmps19
  go_upto_region 2 with (first
    | (go_at_call 13; ((with_reducible refine (pnormal_any n c d _).mono ?_); rintro e w2 ⟨U, V, T, k, hE, rfl, hb⟩; have HE := Lib.hid hE; have HB2 := Lib.hid hb; clear hb hE))
    | fail)
  have hsz := HB2.out.size
  by_cases hk : k = 0
  case neg =>
    have HR : Hid (IdxE n c d 0 k) := .err U V T k HE.out hk
    clear HE
    go_wp2
    refine bodyPost_ret (v := .tuple #[.int .i64 0, .int .i64 k]) ?_ rfl ⟨_, _, HR.out, rfl, HB2.out.alloc hsz _⟩
    simp [results, Try.results19, go_sem, *]
  subst hk
  obtain ⟨m, u, v, rfl, m1, m2, hlv, rfl, rfl, hm, _, _⟩ := HE.out.mem
  have HR : Hid (IdxE m c d (ix (pts m) u v) 0) := by
    have := IdxE.yes u v T HE.out (by rw [ptI_yes hlv]; exact hm)
    rwa [ptI_yes hlv] at this
  have HL := Lib.hid (fun W => list_any m W m1 m2)
  have hlen := pts_len m2
  have HM := Lib.hid hm
  clear HE hm hlv
  generalize pts m = C at *
  have T_0' : Hid (Tri (w2.alloc (.cells #[.int .i64 (u : Int), .int .i64 (v : Int), .int .i64 T] 24)) w2.heap.size u v T) := Tri.at w2 rfl u v T
  have HB3 := Lib.hid (HB2.out.alloc hsz (.cells #[.int .i64 (u : Int), .int .i64 (v : Int), .int .i64 T] 24))
  go_upto_region 4 with fail
  generalize w2.alloc (.cells #[.int .i64 (u : Int), .int .i64 (v : Int), .int .i64 T] 24) = W0 at *
  have T_0 : Hid (Tri W0.drew w2.heap.size u v T) := T_0'.out.drew
  have B_0 := Lib.hid HB3.out.drew
  go_region_held3 (fun w' => w'.cell? ⟨w2.heap.size, 0, none⟩ = some (.int .i64 (u : Int)) ∧ w'.cell? ⟨w2.heap.size, 1, none⟩ = some (.int .i64 (v : Int)) ∧ w'.cell? ⟨w2.heap.size, 2, none⟩ = some (.int .i64 T))
    (with_reducible first | exact Tri.cells T_0.out | exact Tri.cells T_1.out | exact Tri.cells T_2.out | fail)
    (first
      | (go_at_call 37; ((with_reducible refine (HL.out _).mono ?_); rintro e z1 ⟨A, cc, rfl, ho, hb⟩; have T_1 := Lib.hid (T_0.out.below hb); have B_1 := Lib.hid (bel0 B_0.out hb); have R_1 := Lib.hid (own_rdp ho); clear hb ho))
      | (go_at_call 39; ((with_reducible refine (index_any T _ R_1.out (Nat.le_refl _) HM.out hlen).mono ?_); rintro e z2 ⟨rfl, hb⟩; have T_2 := Lib.hid (T_1.out.below hb); have B_2 := Lib.hid (bel0 B_1.out hb); clear hb))
      | fail)
  all_goals
    go_wp2_with fail
    refine bodyPost_ret (v := .tuple #[.int .i64 (ix C u v), .int .i64 0]) ?_ rfl ⟨_, _, HR.out, rfl, B_2.out⟩
    simp [results, Try.results19, go_sem, *]
/-- What Act answers. -/
inductive ActE (n i a b c d : Int) : Int → Int → Prop
  | out : (lvB n = false ∨ i < 0 ∨ ((ptI n).length : Int) ≤ i ∨ fitB a b c d = false) → ActE n i a b c d 0 2
  | cop : lvB n = true → 0 ≤ i → i < (ptI n).length → fitB a b c d = true → ¬ Int.gcd (a * d - b * c) n = 1 → ActE n i a b c d 0 9
  | yes (u v x y : Nat) (T : Int) : lvB n = true → 0 ≤ i → (ptI n)[i.toNat]? = some (u, v) → fitB a b c d = true → Int.gcd (a * d - b * c) n = 1 → NF n (u * a + v * c) (u * b + v * d) x y T → Cop3 n (u * a + v * c) (u * b + v * d) → (x, y) ∈ ptI n → ActE n i a b c d (ix (ptI n) x y) 0
theorem ActE.unique {n i a b c d j k j' k' : Int} (h : ActE n i a b c d j k) (h' : ActE n i a b c d j' k') : j = j' ∧ k = k' := by
  have get : ∀ {x}, 0 ≤ i → (ptI n)[i.toNat]? = some x → i < ((ptI n).length : Int) := fun h0 h => by
    have := (List.getElem?_eq_some_iff.1 h).1; omega
  cases h with
  | out h =>
    cases h' with
    | out _ => exact ⟨rfl, rfl⟩
    | cop h1 h2 h3 h4 _ =>
      rcases h with h | h | h | h
      · rw [h] at h1; cases h1
      · omega
      · omega
      · rw [h] at h4; cases h4
    | yes _ _ _ _ _ h1 h2 h3 h4 _ _ _ _ =>
      have := get h2 h3
      rcases h with h | h | h | h
      · rw [h] at h1; cases h1
      · omega
      · omega
      · rw [h] at h4; cases h4
  | cop h1 h2 h3 h4 h5 =>
    cases h' with
    | out h =>
      rcases h with h | h | h | h
      · rw [h] at h1; cases h1
      · omega
      · omega
      · rw [h] at h4; cases h4
    | cop _ _ _ _ _ => exact ⟨rfl, rfl⟩
    | yes _ _ _ _ _ _ _ _ _ h6 _ _ _ => exact absurd h6 h5
  | yes u v x y T h1 h2 h3 h4 h5 h6 h7 h8 =>
    have := get h2 h3
    cases h' with
    | out h =>
      rcases h with h | h | h | h
      · rw [h] at h1; cases h1
      · omega
      · omega
      · rw [h] at h4; cases h4
    | cop _ _ _ _ h9 => exact absurd h5 h9
    | yes u' v' x' y' T' _ _ g3 _ _ g6 g7 g8 =>
      rw [h3] at g3; cases g3
      obtain ⟨e1, e2, _⟩ := h6.unique h7 g6
      obtain rfl : x = x' := by omega
      obtain rfl : y = y' := by omega
      exact ⟨rfl, rfl⟩
def ActRet (n i a b c d : Int) (w : World) (e : Ending) (w' : World) : Prop :=
  ∃ j k, ActE n i a b c d j k ∧ e = .returned (.tuple #[.int .i64 j, .int .i64 k]) ∧ Below w.heap.size w w'
theorem act_cop {n a b c d u v : Int} (hg : Int.gcd (a * d - b * c) n = 1) (hc : Cop3 n u v) : Cop3 n (u * a + v * c) (u * b + v * d) := by
  obtain ⟨x, y, z, e⟩ := hc
  obtain ⟨r, s, hr⟩ := unit_inv hg
  refine ⟨r * (x * d - y * b), r * (y * a - x * c), z + (x * u + y * v) * (-s), ?_⟩
  have e1 : r * (x * d - y * b) * (u * a + v * c) + r * (y * a - x * c) * (u * b + v * d) = (x * u + y * v) * ((a * d - b * c) * r) := by clear e hr; grind
  have e2 : (a * d - b * c) * r = n * s + 1 := by omega
  rw [e1, e2]
  clear e1 e2 hr
  grind
theorem act_bd {u a v c : Int} (u0 : 0 ≤ u) (u1 : u ≤ 120) (v0 : 0 ≤ v) (v1 : v ≤ 120) (a1 : -1073741824 ≤ a) (a2 : a ≤ 1073741824) (c1 : -1073741824 ≤ c) (c2 : c ≤ 1073741824) : (-128849018880 ≤ u * a ∧ u * a ≤ 128849018880) ∧ (-128849018880 ≤ v * c ∧ v * c ≤ 128849018880) := by
  have f : ∀ x y : Int, 0 ≤ x → x ≤ 120 → -1073741824 ≤ y → y ≤ 1073741824 → -128849018880 ≤ x * y ∧ x * y ≤ 128849018880 := fun x y h1 h2 h3 h4 => by
    have k1 := Int.mul_le_mul_of_nonneg_left h3 h1
    have k2 := Int.mul_le_mul_of_nonneg_left h4 h1
    omega
  exact ⟨f u a u0 u1 a1 a2, f v c v0 v1 c1 c2⟩
end Go.Proofs.Ytgnekmaonnjfkaa
