/- The contracts of both AtkinLehners. The contract of the reference's AtkinLehner. The contract of List0: the cusps of Gamma0(n). Contracts of Reduce, Apply and of the reference's Reduce, Image, Apply. Equal0 at the example of the chapter. The guard of every law of cusps: awake() is true. -/
import Derived.Test.YtdgfdbifeopiaaaInvL
import Derived.Test.YtdgfdbifeopiaaaCsL
import Derived.Test.YtdgfdbifeopiaaaArL
import Derived.Test.YtdgfdbifeopiaaaGcdL
import Derived.Test.YtdgfdbifeopiaaaCuP
import Derived.Test.YtdgfdbifeopiaaaLawK
import Derived.Deep.OwnRows
import Derived.Laws.MakeOwn
import Derived.Deep.Cut
import Derived.WalkSmall
namespace Go.Proofs.Ytdgfdbifeopiaaa
open Go.RowKit

/-- The error of a level. -/
def lvI (n : Int) : Int := if n < 1 ∨ 120 < n then 2 else 0
theorem lv_no {n : Int} (h : n < 1 ∨ 120 < n) : lvI n = 2 := if_pos h
theorem lv_yes {n : Int} (h1 : 1 ≤ n) (h2 : n ≤ 120) : lvI n = 0 := if_neg (by omega)
theorem check0_any (n : Int) (w : World) : Calls Try.prog 19 #[.int .i64 n, .slice none 0 0] w fun e w' => e = .returned (.int .i64 (lvI n)) ∧ w = w' := by
  by_cases h1 : n < 1
  · rw [lv_no (.inl h1)]
    go_enter Try.func19, Try.ntmps19
    go_wp2
    go_ret
    exact ⟨rfl, rfl⟩
  by_cases h2 : 120 < n
  · rw [lv_no (.inr h2)]
    go_enter Try.func19, Try.ntmps19
    go_wp2
    go_ret
    exact ⟨rfl, rfl⟩
  · rw [lv_yes (by omega) (by omega)]
    go_enter Try.func19, Try.ntmps19
    go_wp2
    refine wp_loop_rounds 1 ?_
    rw [rounds_succ]
    go_wp2
    go_ret
    exact ⟨rfl, rfl⟩
theorem level_any (n : Int) (w : World) : Calls Try.prog 23 #[.int .i64 n] w fun e w' => e = .returned (.int .i64 (lvI n)) ∧ w = w' := by
  by_cases h1 : n < 1
  · rw [lv_no (.inl h1)]
    go_enter Try.func23, Try.ntmps23
    go_wp2
    go_ret
    exact ⟨rfl, rfl⟩
  by_cases h2 : 120 < n
  · rw [lv_no (.inr h2)]
    go_enter Try.func23, Try.ntmps23
    go_wp2
    go_ret
    exact ⟨rfl, rfl⟩
  · rw [lv_yes (by omega) (by omega)]
    go_enter Try.func23, Try.ntmps23
    go_wp2
    go_ret
    exact ⟨rfl, rfl⟩
/-- x is the least number with q x = 1 modulo m. -/
structure LeastInvC (q m x : Int) : Prop where
  lo : 0 ≤ x
  hi : x < m
  dvd : m ∣ q * x - 1
theorem LeastInvC.unique {q m x y : Int} (h : LeastInvC q m x) (k : LeastInvC q m y) (hg : Int.gcd q m = 1) : x = y := by
  have hd : m ∣ q * (x - y) := by
    have := Int.dvd_sub h.dvd k.dvd
    rwa [show q * x - 1 - (q * y - 1) = q * (x - y) by rw [Int.mul_sub]; omega] at this
  have h2 : m ∣ x - y := by
    have h3 := Int.natAbs_dvd_natAbs.2 hd
    rw [Int.natAbs_mul] at h3
    have hc : Nat.Coprime m.natAbs q.natAbs := by show Nat.gcd _ _ = 1; rw [Nat.gcd_comm]; exact hg
    exact Int.natAbs_dvd_natAbs.1 (hc.dvd_of_dvd_mul_left h3)
  obtain ⟨c, hc⟩ := h2
  have := h.lo
  have := h.hi
  have := k.lo
  have := k.hi
  rcases Int.lt_trichotomy c 0 with e | e | e
  · have := Int.mul_le_mul_of_nonneg_left (show c ≤ -1 by omega) (show 0 ≤ m by omega); omega
  · subst e; omega
  · have := Int.mul_le_mul_of_nonneg_left (show 1 ≤ c by omega) (show 0 ≤ m by omega); omega
/-- What AtkinLehner answers. -/
inductive AtkE (n q : Int) : Int → Int → Int → Int → Int → Prop
  | lev : (n < 1 ∨ 120 < n) → AtkE n q 0 0 0 0 2
  | div : 1 ≤ n → n ≤ 120 → (q < 1 ∨ ¬ n % q = 0) → AtkE n q 0 0 0 0 2
  | cop : 1 ≤ n → n ≤ 120 → 1 ≤ q → n % q = 0 → ¬ Int.gcd q (n / q) = 1 → AtkE n q 0 0 0 0 9
  | yes (x : Int) : 1 ≤ n → n ≤ 120 → 1 ≤ q → n % q = 0 → Int.gcd q (n / q) = 1 → LeastInvC q (n / q) x → AtkE n q (q * x) ((q * x - 1) / (n / q)) n q 0
def AtkRet (n q : Int) (w : World) (e : Ending) (w' : World) : Prop :=
  ∃ a b c d k, AtkE n q a b c d k ∧ e = .returned (.tuple #[.agg #[.int .i64 a, .int .i64 b, .int .i64 c, .int .i64 d], .int .i64 k]) ∧ Below w.heap.size w w'
theorem inv_leastC {q m u e : Int} (hm : 1 ≤ m) (h : InvIs q m u e) : (Int.gcd q m = 1 ∧ e = 0 ∧ LeastInvC q m u) ∨ (¬ Int.gcd q m = 1 ∧ e = 9) := by
  have hg : Int.gcd (q % m) m = Int.gcd q m := by
    have e := Int.mul_ediv_add_emod q m
    conv => rhs; rw [← e, Int.add_comm, Int.gcd_add_mul_left_left]
  rcases h with ⟨h1, rfl, ⟨hd, hl, hh⟩⟩ | ⟨h1, rfl, _⟩
  · refine .inl ⟨by rw [← hg]; exact h1, rfl, hl, ?_, ?_⟩
    · rw [Nat.div_one] at hh; omega
    · have e := Int.mul_ediv_add_emod q m
      have h2 : m ∣ u * (q % m) - 1 := by simpa using hd
      have h3 : q * u - 1 = (u * (q % m) - 1) + m * (q / m * u) := by
        conv => lhs; rw [← e]
        rw [Int.add_mul, Int.mul_assoc, Int.mul_comm (q % m) u]; omega
      rw [h3]
      exact Int.dvd_add h2 (Int.dvd_mul_right _ _)
  · exact .inr ⟨by rw [← hg]; exact h1, rfl⟩
set_option maxHeartbeats 1600000 in
set_option maxRecDepth 1000000 in
theorem atkin_any (n q : Int) (w : World) : Calls Try.prog 14 #[.int .i64 n, .int .i64 q] w (AtkRet n q w) := by
  have HC := Lib.hid (fun W => check0_any n W)
  by_cases hl : n < 1 ∨ 120 < n
  · have HE : Hid (AtkE n q 0 0 0 0 2) := .lev hl
    rw [lv_no hl] at HC
    clear hl
    go_enter Try.func14, Try.ntmps14
    go_wp2_with (first
      | (go_at_call 19; ((with_reducible refine (HC.out _).mono ?_); rintro e w1 ⟨rfl, rfl⟩))
      | fail)
    refine bodyPost_ret (v := .tuple #[.agg #[.int .i64 0, .int .i64 0, .int .i64 0, .int .i64 0], .int .i64 2]) ?_ rfl ⟨0, 0, 0, 0, 2, HE.out, rfl, ?_⟩
    · simp [results, Try.results14, go_sem, *]
    · exact below1 _ _
  have n1 : 1 ≤ n := by omega
  have n2 : n ≤ 120 := by omega
  rw [lv_yes n1 n2] at HC
  by_cases hq : q < 1
  · have HE : Hid (AtkE n q 0 0 0 0 2) := .div n1 n2 (.inl hq)
    clear hl
    go_enter Try.func14, Try.ntmps14
    go_wp2_with (first
      | (go_at_call 19; ((with_reducible refine (HC.out _).mono ?_); rintro e w1 ⟨rfl, rfl⟩))
      | fail)
    refine bodyPost_ret (v := .tuple #[.agg #[.int .i64 0, .int .i64 0, .int .i64 0, .int .i64 0], .int .i64 2]) ?_ rfl ⟨0, 0, 0, 0, 2, HE.out, rfl, ?_⟩
    · simp [results, Try.results14, go_sem, *]
    · exact below1 _ _
  have q1 : 1 ≤ q := by omega
  by_cases hd : n % q = 0
  · have hq2 : q ≤ n := Int.le_of_dvd (by omega) (Int.dvd_of_emod_eq_zero hd)
    have hm1 : 1 ≤ n / q := (Int.le_ediv_iff_mul_le (by omega)).2 (by omega)
    have hm2 : n / q ≤ n := Int.ediv_le_self q (by omega)
    have HI : Hid (∀ u e, InvIs q (n / q) u e → (Int.gcd q (n / q) = 1 ∧ e = 0 ∧ LeastInvC q (n / q) u) ∨ (¬ Int.gcd q (n / q) = 1 ∧ e = 9)) := fun u e h => inv_leastC hm1 h
    have HY : Hid (∀ x, Int.gcd q (n / q) = 1 → LeastInvC q (n / q) x → AtkE n q (q * x) ((q * x - 1) / (n / q)) n q 0) := fun x h1 h2 => .yes x n1 n2 q1 hd h1 h2
    have HN : Hid (¬ Int.gcd q (n / q) = 1 → AtkE n q 0 0 0 0 9) := fun h => .cop n1 n2 q1 hd h
    have HV := Lib.hid (fun W => inverse_yes q (n / q) W hm1 (by omega))
    clear hl hq
    go_enter Try.func14, Try.ntmps14
    go_upto_region 7 with (first
      | (go_at_call 19; ((with_reducible refine (HC.out _).mono ?_); rintro e w1 ⟨rfl, rfl⟩))
      | (go_at_call 30; ((with_reducible refine (HV.out _).mono ?_); rintro e w1 ⟨u, k, rfl, hi, rfl⟩; have HIS := Lib.hid hi; clear hi))
      | fail)
    rcases HI.out u k HIS.out with ⟨h1, rfl, h3⟩ | ⟨h1, rfl⟩
    · have HE := Lib.hid (HY.out u h1 h3)
      have u1 := h3.lo
      have u2 := h3.hi
      have hdv : (n / q) ∣ q * u - 1 := h3.dvd
      have p1 : 0 ≤ q * u := Int.mul_nonneg (by omega) u1
      have p2 : q * u ≤ 120 * 120 := Int.mul_le_mul (by omega) (by omega) u1 (by omega)
      have ht : (q * u - 1).tdiv (n / q) = (q * u - 1) / (n / q) := Int.tdiv_eq_ediv_of_dvd hdv
      have p3 : -1 ≤ (q * u - 1) / (n / q) := (Int.le_ediv_iff_mul_le (by omega)).2 (by omega)
      have p4 : (q * u - 1) / (n / q) ≤ 14400 := by
        rcases Int.lt_or_le (q * u - 1) 0 with c | c
        · have := Int.ediv_neg_of_neg_of_pos c (show 0 < n / q by omega); omega
        · exact Int.le_trans (Int.ediv_le_self _ c) (by omega)
      clear h1 h3 hdv HI HY HN HIS
      go_wp2
      refine bodyPost_ret (v := .tuple #[.agg #[.int .i64 (q * u), .int .i64 ((q * u - 1) / (n / q)), .int .i64 n, .int .i64 q], .int .i64 0]) ?_ rfl ⟨_, _, _, _, 0, HE.out, rfl, ?_⟩
      · simp [results, Try.results14, go_sem, *]
      · exact below1 _ _
    · have HE := Lib.hid (HN.out h1)
      clear h1 HI HY HN HIS
      go_wp2
      refine bodyPost_ret (v := .tuple #[.agg #[.int .i64 0, .int .i64 0, .int .i64 0, .int .i64 0], .int .i64 9]) ?_ rfl ⟨_, _, _, _, 9, HE.out, rfl, ?_⟩
      · simp [results, Try.results14, go_sem, *]
      · exact below1 _ _
  · have HE : Hid (AtkE n q 0 0 0 0 2) := .div n1 n2 (.inr hd)
    have hd2 : (n % q != 0) = true := by simpa using hd
    clear hl hq
    go_enter Try.func14, Try.ntmps14
    go_wp2_with (first
      | (go_at_call 19; ((with_reducible refine (HC.out _).mono ?_); rintro e w1 ⟨rfl, rfl⟩))
      | fail)
    refine bodyPost_ret (v := .tuple #[.agg #[.int .i64 0, .int .i64 0, .int .i64 0, .int .i64 0], .int .i64 2]) ?_ rfl ⟨0, 0, 0, 0, 2, HE.out, rfl, ?_⟩
    · simp [results, Try.results14, go_sem, *]
    · exact below1 _ _
end Go.Proofs.Ytdgfdbifeopiaaa
namespace Go.Proofs.Ytdgfdbifeopiaaa
open Go.RowKit

theorem AtkE.unique {n q a b c d k a' b' c' d' k' : Int} (h : AtkE n q a b c d k) (h' : AtkE n q a' b' c' d' k') : a = a' ∧ b = b' ∧ c = c' ∧ d = d' ∧ k = k' := by
  cases h <;> cases h' <;> (try (simp at *; done)) <;> (try omega)
  all_goals (try (exact ⟨rfl, rfl, rfl, rfl, rfl⟩))
  rename_i x _ _ _ _ hg hx y _ _ _ _ _ hy
  have := hx.unique hy hg
  subst this
  exact ⟨rfl, rfl, rfl, rfl, rfl⟩
end Go.Proofs.Ytdgfdbifeopiaaa
namespace Go.Proofs.Ytdgfdbifeopiaaa
open Go.RowKit

theorem Try.infoBool : (Try.prog.info? 4).map (fun i => (i.zero, i.size, i.bytes)) = some (some (.bool false), 1, 1) := by kernel_rfl
/-- Of the cusps of denominator d: which classes are seen, and the list, behind the first t numbers. -/
def st (d g : Nat) : Nat → (Nat → Bool) × List (Int × Int)
  | 0 => (fun _ => false, [])
  | t + 1 => if Nat.gcd (t + 1) d = 1 ∧ (st d g t).1 ((t + 1) % g) = false then (fun j => if j = (t + 1) % g then true else (st d g t).1 j, (st d g t).2 ++ [(((t + 1 : Nat) : Int), (d : Int))]) else st d g t
def outD (n d : Nat) : List (Int × Int) := (st d (Nat.gcd d (n / d)) d).2
def outL (n : Nat) (D : List Nat) : List (Int × Int) := D.flatMap (outD n)
theorem st_yes {d g t : Nat} (h : Nat.gcd (t + 1) d = 1) (h2 : (st d g t).1 ((t + 1) % g) = false) : (st d g (t + 1)).2 = (st d g t).2 ++ [(((t + 1 : Nat) : Int), (d : Int))] ∧ (st d g (t + 1)).1 = fun j => if j = (t + 1) % g then true else (st d g t).1 j := by
  have e : st d g (t + 1) = (fun j => if j = (t + 1) % g then true else (st d g t).1 j, (st d g t).2 ++ [(((t + 1 : Nat) : Int), (d : Int))]) := if_pos ⟨h, h2⟩
  rw [e]; exact ⟨rfl, rfl⟩
theorem st_no {d g t : Nat} (h : ¬ (Nat.gcd (t + 1) d = 1 ∧ (st d g t).1 ((t + 1) % g) = false)) : st d g (t + 1) = st d g t := if_neg h
theorem st_len (d g : Nat) : ∀ t, (st d g t).2.length ≤ t
  | 0 => by simp [st]
  | t + 1 => by
    have ih := st_len d g t
    by_cases h : Nat.gcd (t + 1) d = 1 ∧ (st d g t).1 ((t + 1) % g) = false
    · rw [(st_yes h.1 h.2).1, List.length_append]; simp; omega
    · rw [st_no h]; omega
theorem outL_succ {n k : Nat} {D : List Nat} (h : k < D.length) : outL n (D.take (k + 1)) = outL n (D.take k) ++ outD n D[k] := by
  unfold outL
  rw [List.take_succ_eq_append_getElem h, List.flatMap_append]
  simp
theorem outL_len (n : Nat) {D : List Nat} (hd : ∀ x ∈ D, x ≤ 120) : ∀ k, k ≤ D.length → (outL n (D.take k)).length ≤ 120 * k
  | 0, _ => by simp [outL]
  | k + 1, h => by
    have ih := outL_len n hd k (by omega)
    rw [outL_succ (by omega), List.length_append]
    have h1 := st_len D[k] (Nat.gcd D[k] (n / D[k])) D[k]
    have h2 := hd D[k] (List.getElem_mem _)
    unfold outD; omega
/-- The list on the way, above the world of the divisors. -/
structure LS (w1 wr : World) (v : Value) (C : List (Int × Int)) : Prop where
  own : wr.ownsRow w1.heap.size 54 2 v C.length (cs C)
  bel : Below w1.heap.size w1 wr
theorem seen_ne {wr : World} {v : Value} {B b g n : Nat} {xs : List Value} {f : Nat → Value} (hown : wr.ownsRow B 54 2 v n xs) (hrow : wr.rowIs b 4 g f) : some b ≠ v.ownBlock := by
  intro e
  obtain ⟨_, hn | ⟨g', cap', cur, hv, _, hg2, _⟩⟩ := hown
  · rw [hn.1] at e; cases e
  · subst hv
    injection e with e
    subst e
    obtain ⟨c, hc, _⟩ := hrow
    rw [hc] at hg2
    injection hg2 with h2
    injection h2 with _ h3
    exact absurd h3 (by decide)
theorem LS.app {w1 wr w3 : World} {v v' : Value} {C : List (Int × Int)} {x y : Int} {o : Obj} {b g : Nat} {f : Nat → Value} (h : LS w1 wr v C) (hrow : wr.rowIs b 4 g f)
    (hown' : w3.ownsRow w1.heap.size 54 2 v' (C.length + 1) (cs C ++ [.int .i64 x, .int .i64 y])) (hg : (wr.alloc o).grownBy w3 v.ownBlock) : LS w1 w3 v' (C ++ [(x, y)]) ∧ w3.rowIs b 4 g f := by
  have h1 := h.bel.size
  refine ⟨⟨by rw [List.length_append, cs_append]; exact hown', (h.bel.alloc h1 o).grown hg (by simp; omega) (fun j hj => by have := (h.own.lt j hj).1; omega)⟩, hrow.of_block ?_⟩
  rw [hg.block b (by have := hrow.lt; simp; omega) (seen_ne h.own hrow), Below.heap_alloc _ _ _ hrow.lt]
theorem LS.setSeen {w1 wr : World} {v : Value} {C : List (Int × Int)} {b g i : Nat} {f : Nat → Value} {u : Value} (h : LS w1 wr v C) (hrow : wr.rowIs b 4 g f) (hb : w1.heap.size ≤ b) : LS w1 (wr.setCell ⟨b, i, none⟩ u) v C := by
  refine ⟨h.own.kept (row := some b) ⟨rfl, rfl, rfl, by simp, fun k _ hk => Below.heap_setCell wr ⟨b, i, none⟩ u k (fun e => hk (by rw [e]))⟩ (.inr fun e => seen_ne h.own hrow e.symm), h.bel.setCell hb _⟩
theorem st_yes' {d g p : Nat} (hp : 1 ≤ p) (h : Nat.gcd p d = 1) (h2 : (st d g (p - 1)).1 (p % g) = false) : (st d g p).2 = (st d g (p - 1)).2 ++ [((p : Int), (d : Int))] ∧ (st d g p).1 = fun j => if j = p % g then true else (st d g (p - 1)).1 j := by
  obtain ⟨t, rfl⟩ : ∃ t, p = t + 1 := ⟨p - 1, by omega⟩
  exact st_yes h h2
theorem st_no' {d g p : Nat} (hp : 1 ≤ p) (h : ¬ (Nat.gcd p d = 1 ∧ (st d g (p - 1)).1 (p % g) = false)) : st d g p = st d g (p - 1) := by
  obtain ⟨t, rfl⟩ : ∃ t, p = t + 1 := ⟨p - 1, by omega⟩
  exact st_no h
theorem LS.drewN {w1 wr : World} {v : Value} {C : List (Int × Int)} (h : LS w1 wr v C) (m : Nat) : LS w1 (wr.drewN m) v C := ⟨own_low h.own fun _ _ => rfl, below_drewN h.bel m⟩
theorem LS.alloc {w1 wr : World} {v : Value} {C : List (Int × Int)} (h : LS w1 wr v C) (o : Obj) : LS w1 (wr.alloc o) v C := ⟨h.own.alloc _, h.bel.alloc h.bel.size _⟩
theorem gcdn_any (a b : Nat) (w : World) (ha : (a : Int) ≤ 120) (hb : (b : Int) ≤ 120) : Calls Try.prog 22 #[.int .i64 (a : Int), .int .i64 (b : Int)] w fun e w' => e = .returned (.int .i64 (Nat.gcd a b : Nat)) ∧ ∃ n, w' = w.drewN n := by
  have := gcd_any (a : Int) (b : Int) w (by unfold Mid; omega) (by unfold Mid; omega)
  rwa [show Int.gcd (a : Int) (b : Int) = Nat.gcd a b from rfl] at this
theorem cast_mod (a b : Nat) : ((a : Int) + 1) % (b : Int) = (((a + 1) % b : Nat) : Int) := by
  rw [show (a : Int) + 1 = ((a + 1 : Nat) : Int) by simp, Int.natCast_emod]
theorem cast_div (a b : Nat) : (a : Int) / (b : Int) = ((a / b : Nat) : Int) := (Int.natCast_ediv a b).symm
set_option maxHeartbeats 3200000 in
set_option maxRecDepth 1000000 in
theorem list0_any (n : Nat) (w : World) (hn : 1 ≤ n) (hn2 : (n : Int) ≤ 120) :
    Calls Try.prog 10 #[.int .i64 n] w fun e w' => ∃ (M : List Nat) (A : Option Addr) (c : Nat), e = .returned (.tuple #[.slice A (outL n (sorted M)).length c, .int .i64 0]) ∧ DivL n M ∧ w'.ownsRow w.heap.size 54 2 (.slice A (outL n (sorted M)).length c) (outL n (sorted M)).length (cs (outL n (sorted M))) ∧ Below w.heap.size w w' := by
  obtain ⟨i0, hi, z0, z1, z2⟩ := info_parts Try.infoCusp
  obtain ⟨i1, hj, y0, y1, y2⟩ := info_parts Try.infoBool
  have HMK : Hid (∀ (g : Nat) (W : World), g ≤ 120 → (Instr.makeSlice 70 (.int .i64 (g : Int)) (.int .i64 (g : Int))).run Try.prog W = .ok (.slice (some ⟨W.heap.size, 0, none⟩) g g) (W.alloc (.cells (madeCells #[.bool false] g) 4))) := fun g W hg => by
    have h := run_make (P := Try.prog) W 70 4 i1 (.bool false) Try.underlying70 hj y0 .i64 .i64 (g : Int) (g : Int) (by omega) (by omega) (by rw [y2]; omega) (by omega)
    rw [show ((g : Int)).toNat = g by omega, y1, Nat.mul_one] at h
    exact h
  have HC := Lib.hid (fun W => check0_any (n : Int) W)
  rw [lv_yes (by omega) hn2] at HC
  have HD := Lib.hid (fun W => divisors_any n W hn (by omega))
  clear hj y0 y1 y2
  go_enter Try.func10, Try.ntmps10
  go_wp2_with (first
    | (go_at_call 19; ((with_reducible refine (HC.out _).mono ?_); rintro e w' ⟨rfl, rfl⟩))
    | (go_at_call 20; ((with_reducible refine (HD.out _).mono ?_); rintro e w1 ⟨M, v, rfl, hdl, _, ho, hb⟩; obtain ⟨A0, c0, rfl⟩ := own_len ho; have HM := Lib.hid hdl; have HO := Lib.hid ho; have HB := Lib.hid hb; clear ho hb hdl HD HC))
    | fail)
  obtain ⟨D, hD⟩ : ∃ D, D = sorted M := ⟨_, rfl⟩
  rw [← hD] at HO ⊢
  have HLen : D.length ≤ 92682 := by rw [hD, sorted_len]; exact HM.out.len hn (by omega)
  have HMem : Hid (∀ x ∈ D, 1 ≤ x ∧ x ∣ n ∧ x ≤ 120) := fun x hx => by
    rw [hD] at hx
    have h1 := (HM.out.mem x).1 ((sorted_perm M).mem_iff.1 hx)
    have h2 := Nat.le_of_dvd (by omega) h1
    exact ⟨Nat.pos_of_dvd_of_pos h1 (by omega), h1, by omega⟩
  have HE := Lib.hid hD
  clear hD
  go_loopw [7, 9, 10, 11, 12, 25] (fun V _ _ _ _ I wr => ∃ (A : Option Addr) (c k : Nat), I = .int .i64 k ∧ V = .slice A (outL n (D.take k)).length c ∧ k ≤ D.length ∧ Hid (LS w1 wr (.slice A (outL n (D.take k)).length c) (outL n (D.take k)))) (fun _ _ _ _ _ I _ => D.length - (intOf I).toNat)
  case atStart => exact ⟨none, 0, 0, rfl, rfl, Nat.zero_le _, ⟨World.ownsRow_nil _ _ _ _, Below.refl _ _⟩⟩
  case round =>
    obtain ⟨A, c, k, rfl, rfl, hk, HS⟩ := hrel
    have hsz1 := HS.out.bel.size
    by_cases hlt : k < D.length
    · have hlti : (k : Int) < (D.length : Int) := by omega
      obtain ⟨gd, rfl, hgd⟩ := own_some HO.out (by omega)
      have hgd2 := (HO.out.lt gd rfl).2
      have hc0 := HO.out.cells (g := gd) rfl _ _ (nats_get D k hlt)
      rw [addr_add] at hc0
      have hcell : wr.cell? ⟨gd, k, none⟩ = some (.int .i64 (D[k] : Int)) := (HS.out.bel.cell (p := ⟨gd, k, none⟩) hgd2).trans hc0
      clear hc0
      obtain ⟨m1, m2, m3⟩ := HMem.out D[k] (List.getElem_mem _)
      have HSucc := Lib.hid (outL_succ (n := n) hlt)
      have HLenC : (outL n (D.take k)).length ≤ 120 * k := outL_len n (fun x hx => (HMem.out x hx).2.2) k hk
      generalize D[k] = d at *
      generalize outL n (D.take k) = C at *
      obtain ⟨q, hq⟩ : ∃ q, q = n / d := ⟨_, rfl⟩
      have hqi : (n : Int) / (d : Int) = (q : Int) := by rw [hq]; exact cast_div n d
      have hq2 : q ≤ 120 := by rw [hq]; exact Nat.le_trans (Nat.div_le_self _ _) (by omega)
      have hqi2 : (q : Int) ≤ 120 := by omega
      have d1 : 1 ≤ (d : Int) := by omega
      have d2 : (d : Int) ≤ 120 := by omega
      obtain ⟨g, hg⟩ : ∃ g, g = Nat.gcd d q := ⟨_, rfl⟩
      have HG := Lib.hid (fun W => gcdn_any d q W d2 hqi2)
      rw [← hg] at HG
      have g1 : 1 ≤ g := by rw [hg]; exact Nat.gcd_pos_of_pos_left _ (by omega)
      have g2 : g ≤ 120 := by rw [hg]; exact Nat.le_trans (Nat.gcd_le_left _ (by omega)) m3
      have hmk := fun W => HMK.out g W g2
      have HOut : Hid (outL n (D.take (k + 1)) = C ++ (st d g d).2) := by have := HSucc.out; unfold outD at this; rw [← hq, ← hg] at this; exact this
      have HG' := Lib.hid hg
      clear hq hg HSucc
      go_upto_region 11 with (first
        | (go_at_call 22; ((with_reducible refine (HG.out _).mono ?_); rintro e w' ⟨rfl, n1, rfl⟩))
        | fail)
      have HS1 := Lib.hid ((HS.out.drewN n1).alloc (.cells (madeCells #[.bool false] g) 4))
      have HR1 : Hid (((wr.drewN n1).alloc (.cells (madeCells #[.bool false] g) 4)).rowIs wr.heap.size 4 g (fun _ => .bool false)) := World.rowIs_made _ _ _ _
      clear hmk hcell HS
      obtain ⟨W0, hW0⟩ : ∃ W0, W0 = (wr.drewN n1).alloc (.cells (madeCells #[.bool false] g) 4) := ⟨_, rfl⟩
      rw [← hW0] at HS1 HR1 ⊢
      clear hW0
      generalize wr.heap.size = b at *
      go_wp2
      go_loopw [7, 12] (fun V P wi => ∃ (A' : Option Addr) (c' p : Nat), P = .int .i64 (p : Int) ∧ V = .slice A' (C ++ (st d g (p - 1)).2).length c' ∧ 1 ≤ p ∧ p ≤ d + 1 ∧ Hid (LS w1 wi (.slice A' (C ++ (st d g (p - 1)).2).length c') (C ++ (st d g (p - 1)).2)) ∧ Hid (wi.rowIs b 4 g (fun j => .bool ((st d g (p - 1)).1 j)))) (fun _ P _ => d + 1 - (intOf P).toNat)
      case atStart => exact ⟨A, c, 1, rfl, by simp [st], Nat.le_refl _, by omega, by rw [show (st d g (1 - 1)).2 = [] from rfl, List.append_nil]; exact HS1.out, HR1.out⟩
      case round =>
        clear HS1 HR1
        obtain ⟨A', c', p, rfl, rfl, hp1, hp2, HL, HR⟩ := hrel
        by_cases hpd : p ≤ d
        · have hpdi : (p : Int) ≤ (d : Int) := by omega
          have hlc := st_len d g (p - 1)
          obtain ⟨r, hr⟩ : ∃ r, r = p % g := ⟨_, rfl⟩
          have hri : (p : Int) % (g : Int) = (r : Int) := by rw [hr]; exact (Int.natCast_emod p g).symm
          have hrg : r < g := by rw [hr]; exact Nat.mod_lt _ g1
          have hrgi : (r : Int) < (g : Int) := by omega
          have HG2 := Lib.hid (fun W => gcdn_any p d W (by omega) d2)
          have hcs := HR.out.cell (i := r) hrg
          have hfz := HR.out.frozen r
          have hb1 : b < wr.heap.size := HR.out.lt
          have hp0 : 1 ≤ (p : Int) := by omega
          by_cases hg1 : Nat.gcd p d = 1
          · rw [hg1] at HG2
            cases hs : (st d g (p - 1)).1 r with
            | false =>
              rw [hs] at hcs
              have HY := Lib.hid (st_yes' hp1 hg1 (by rw [← hr]; exact hs))
              rw [← hr] at HY
              clear hg1 hs hr
              generalize st d g (p - 1) = S at *
              go_upto_region 16 with (first
                | (go_at_call 22; ((with_reducible refine (HG2.out _).mono ?_); rintro e w' ⟨rfl, n2, rfl⟩))
                | fail)
              have HL2 := Lib.hid ((HL.out.drewN n2).setSeen (i := r) (u := .bool true) (HR.out.of_block rfl) hsz1)
              have HR2 : Hid (((wr.drewN n2).setCell ⟨b, r, none⟩ (.bool true)).rowIs b 4 g (fun j => .bool ((st d g p).1 j))) := World.rowIs.congr (World.rowIs.set (w := wr.drewN n2) (HR.out.of_block rfl) r (.bool true)) (fun j _ => by rw [HY.out.2]; show _ = Value.bool (if j = r then true else S.1 j); split <;> rfl)
              obtain ⟨W2, hW2⟩ : ∃ W2, W2 = (wr.drewN n2).setCell ⟨b, r, none⟩ (.bool true) := ⟨_, rfl⟩
              rw [← hW2] at HL2 HR2 ⊢
              obtain ⟨Z, hZ⟩ : ∃ Z, Z = C ++ S.2 := ⟨_, rfl⟩
              have HZ2 : Hid (Z ++ [((p : Int), (d : Int))] = C ++ (st d g p).2) := by show _ = _; rw [HY.out.1, hZ, List.append_assoc]
              have hZ1 : Z.length ≤ 11200000 := by rw [hZ, List.length_append]; omega
              have hZl : C.length + S.2.length = Z.length := by rw [hZ, List.length_append]
              rw [← hZ] at HL2
              rw [hZl]
              clear hW2 HL HR hcs hfz HY hZ hZl hlc
              have hown := HL2.out.own
              have hsz2 := HL2.out.bel.size
              go_wp2_with (first
                | (at_builtin; (refine wpList_append_own _ rfl _ _ 42 rfl w1.heap.size 54 i0 (.agg #[.int .i64 0, .int .i64 0]) 2 16 Try.underlying42 hi z0 z1 z2 rfl (by decide) _ _ _ rfl (hown.alloc _) ⟨W2.heap.size, 0, none⟩ 1 1 [.int .i64 (p : Int), .int .i64 (d : Int)] rfl rfl (cell_two_new _ _ _ _) (fun x hx => by simp at hx; rcases hx with hx | hx <;> (rw [hx]; rfl)) (by unfold maxLen; omega) (by omega) (by simp; omega) ?_); intro v' w3 hown' hgrow3 hnil3; obtain ⟨A2, c2, rfl⟩ := own_len hown'; have HN := Lib.hid (HL2.out.app HR2.out hown' hgrow3); clear hown' hgrow3 hnil3)
                | fail)
              go_roundw
              case rel => exact ⟨A2, c2, p + 1, by go_num, by rw [show p + 1 - 1 = p from rfl, ← HZ2.out, List.length_append]; rfl, by omega, by omega, by rw [show p + 1 - 1 = p from rfl, ← HZ2.out, List.length_append]; have := HN.out.1; exact this, by rw [show p + 1 - 1 = p from rfl]; exact HN.out.2⟩
              case measure => simp [intOf]; omega
            | true =>
              rw [hs] at hcs
              have HN := Lib.hid (st_no' (d := d) (g := g) hp1 (fun h => by rw [← hr, hs] at h; cases h.2))
              clear hg1 hs hr
              go_wp2_with (first
                | (go_at_call 22; ((with_reducible refine (HG2.out _).mono ?_); rintro e w' ⟨rfl, n2, rfl⟩))
                | fail)
              go_roundw
              case rel => exact ⟨A', c', p + 1, by go_num, by rw [show p + 1 - 1 = p from rfl, HN.out, List.length_append], by omega, by omega, by rw [show p + 1 - 1 = p from rfl, HN.out]; exact HL.out.drewN n2, by rw [show p + 1 - 1 = p from rfl, HN.out]; exact HR.out.of_block rfl⟩
              case measure => simp [intOf]; omega
          · have HN := Lib.hid (st_no' (d := d) (g := g) hp1 (fun h => hg1 h.1))
            obtain ⟨z, hz⟩ : ∃ z : Int, z = (Nat.gcd p d : Nat) := ⟨_, rfl⟩
            have hz1 : ¬ z = 1 := by omega
            rw [← hz] at HG2
            clear hg1 hz hr
            go_wp2_with (first
              | (go_at_call 22; ((with_reducible refine (HG2.out _).mono ?_); rintro e w' ⟨rfl, n2, rfl⟩))
              | fail)
            go_roundw
            case rel => exact ⟨A', c', p + 1, by go_num, by rw [show p + 1 - 1 = p from rfl, HN.out, List.length_append], by omega, by omega, by rw [show p + 1 - 1 = p from rfl, HN.out]; exact HL.out.drewN n2, by rw [show p + 1 - 1 = p from rfl, HN.out]; exact HR.out.of_block rfl⟩
            case measure => simp [intOf]; omega
        · obtain rfl : p = d + 1 := by omega
          have hpd2 : (d : Int) < (d : Int) + 1 := by omega
          go_wp2
          go_roundw
          case rel => exact ⟨A', c', k + 1, by go_num, by rw [HOut.out, List.length_append]; simp, hlt, by rw [HOut.out]; exact HL.out⟩
          case measure => simp [intOf]; omega
    · obtain rfl : k = D.length := by omega
      have hn3 : ¬ (D.length : Int) < (D.length : Int) := by omega
      have hT : D.take D.length = D := List.take_length
      rw [hT] at HS ⊢
      go_wp2
      have e1 := HE.out
      subst e1
      refine bodyPost_ret (v := .tuple #[.slice A (outL n (sorted M)).length c, .int .i64 0]) ?_ rfl ⟨M, A, c, rfl, HM.out, own_base HB.out.size HS.out.own, HB.out.trans (HS.out.bel.mono HB.out.size)⟩
      simp [results, Try.results10, go_sem, *]
end Go.Proofs.Ytdgfdbifeopiaaa
namespace Go.Proofs.Ytdgfdbifeopiaaa
open Go.RowKit

/-- The answer of Reduce. -/
def redE (p q : Int) : Int × Int × Int := if inE p = false ∨ inE q = false then (0, 0, 2) else if p = 0 ∧ q = 0 then (0, 0, 5) else ((low p q).1, (low p q).2, 0)
theorem redE_out {p q : Int} (h : inE p = false ∨ inE q = false) : redE p q = (0, 0, 2) := if_pos h
theorem redE_zero : redE 0 0 = (0, 0, 5) := rfl
theorem redE_yes {p q u v : Int} (hp : inE p = true) (hq : inE q = true) (h : ¬ (p = 0 ∧ q = 0)) (hl : low p q = (u, v)) : redE p q = (u, v, 0) := by
  unfold redE; rw [if_neg (by rw [hp, hq]; simp), if_neg h, hl]
/-- The answer of Apply. -/
def appE (a b c d p q : Int) : Int × Int × Int :=
  if fitB a b c d = false then (0, 0, 2) else if a * d - b * c = 0 then (0, 0, 11) else if ¬ cuspI p q = 0 then (0, 0, cuspI p q) else
  if inE (low (a * p + b * q) (c * p + d * q)).1 = false ∨ inE (low (a * p + b * q) (c * p + d * q)).2 = false then (0, 0, 7) else ((low (a * p + b * q) (c * p + d * q)).1, (low (a * p + b * q) (c * p + d * q)).2, 0)
theorem appE_1 {a b c d p q : Int} (h : fitB a b c d = false) : appE a b c d p q = (0, 0, 2) := if_pos h
theorem appE_2 {a b c d p q : Int} (h : fitB a b c d = true) (k : a * d - b * c = 0) : appE a b c d p q = (0, 0, 11) := by
  unfold appE; rw [if_neg (by rw [h]; simp), if_pos k]
theorem appE_3 {a b c d p q : Int} (h : fitB a b c d = true) (k : ¬ a * d - b * c = 0) (l : ¬ cuspI p q = 0) : appE a b c d p q = (0, 0, cuspI p q) := by
  unfold appE; rw [if_neg (by rw [h]; simp), if_neg k, if_pos l]
theorem appE_4 {a b c d p q u v : Int} (h : fitB a b c d = true) (k : ¬ a * d - b * c = 0) (l : cuspI p q = 0) (hl : low (a * p + b * q) (c * p + d * q) = (u, v)) (hu : inE u = false ∨ inE v = false) : appE a b c d p q = (0, 0, 7) := by
  unfold appE; rw [if_neg (by rw [h]; simp), if_neg k, if_neg (by omega), hl, if_pos hu]
theorem appE_5 {a b c d p q u v : Int} (h : fitB a b c d = true) (k : ¬ a * d - b * c = 0) (l : cuspI p q = 0) (hl : low (a * p + b * q) (c * p + d * q) = (u, v)) (hu : inE u = true) (hv : inE v = true) : appE a b c d p q = (u, v, 0) := by
  unfold appE; rw [if_neg (by rw [h]; simp), if_neg k, if_neg (by omega), hl, if_neg (by rw [hu, hv]; simp)]
/-- A matrix with a determinant maps what is not 0 to what is not 0. -/
theorem img_ne {a b c d p q : Int} (hd : ¬ a * d - b * c = 0) (h : ¬ (p = 0 ∧ q = 0)) : ¬ (a * p + b * q = 0 ∧ c * p + d * q = 0) := by
  rintro ⟨h1, h2⟩
  have e1 : (a * d - b * c) * p = d * (a * p + b * q) - b * (c * p + d * q) := by
    simp only [Int.sub_mul, Int.mul_add]
    rw [show a * d * p = d * (a * p) by rw [Int.mul_comm a d, Int.mul_assoc], show b * c * p = b * (c * p) by rw [Int.mul_assoc], show d * (b * q) = b * (d * q) by rw [Int.mul_left_comm]]
    omega
  have e2 : (a * d - b * c) * q = a * (c * p + d * q) - c * (a * p + b * q) := by
    simp only [Int.sub_mul, Int.mul_add]
    rw [show a * d * q = a * (d * q) by rw [Int.mul_assoc], show b * c * q = c * (b * q) by rw [Int.mul_comm b c, Int.mul_assoc], show a * (c * p) = c * (a * p) by rw [Int.mul_left_comm]]
    omega
  rw [h1, h2, Int.mul_zero, Int.mul_zero, Int.sub_zero] at e1 e2
  exact h ⟨(Int.mul_eq_zero.1 e1).resolve_left hd, (Int.mul_eq_zero.1 e2).resolve_left hd⟩
theorem cusp_ne {p q : Int} (h : cuspI p q = 0) : ¬ (p = 0 ∧ q = 0) := (cuspI_zero.1 h).2.2.ne
theorem mid_sum {x y : Int} (h1 : -1152921504606846976 ≤ x) (h2 : x ≤ 1152921504606846976) (h3 : -1152921504606846976 ≤ y) (h4 : y ≤ 1152921504606846976) : Mid (x + y) := by unfold Mid; omega

theorem below_set2a {B g : Nat} {w W : World} (h : Below B w W) (hg : B ≤ g) (hB : B ≤ W.heap.size) (v0 v1 : Value) (o : Obj) : Below B w (((W.setCell ⟨g, 0, none⟩ v0).setCell ⟨g, 1, none⟩ v1).alloc o) :=
  (below_set2 h hg v0 v1).alloc (by simp [World.setCell]; exact hB) o
end Go.Proofs.Ytdgfdbifeopiaaa
namespace Go.Proofs.Ytdgfdbifeopiaaa
open Go.RowKit

theorem cusp_10 : cuspI 1 0 = 0 := by decide +kernel
theorem cusp_14 : cuspI 1 4 = 0 := by decide +kernel
set_option maxHeartbeats 1600000 in
set_option maxRecDepth 1000000 in
theorem check_4 {A : Option Addr} {B : Nat} (w : World) (h : RdC w B A 2 [(1, 0), (1, 4)]) (hB : B ≤ w.heap.size) : Calls Try.prog 19 #[.int .i64 4, .slice A 2 2] w fun e w' => e = .returned (.int .i64 0) ∧ Below w.heap.size w w' := by
  have HC := Lib.hid (fun W => checkCusp_any 1 0 W)
  have HD := Lib.hid (fun W => checkCusp_any 1 4 W)
  rw [cusp_10] at HC
  rw [cusp_14] at HD
  obtain ⟨b, o, rfl, hb, x0, x1⟩ := h.at_ (k := 0) (by decide)
  obtain ⟨b', o', e', _, x2, x3⟩ := h.at_ (k := 1) (by decide)
  cases e'
  have hbw : b < w.heap.size := by omega
  simp at x0 x1 x2 x3
  clear h
  go_enter Try.func19, Try.ntmps19
  go_wp2
  refine wp_loop_rounds 3 ?_
  rw [rounds_succ]
  go_wp2_with (first
    | (go_at_call 39; ((with_reducible refine (HC.out _).mono ?_); rintro e w1 ⟨rfl, hb1⟩; obtain ⟨hc, hf⟩ := bcell hb1; have hz1 : w.heap.size < w1.heap.size := (by have := hb1.size; simp at this; omega); have HB1 := Lib.hid ((below1 w _).trans (hb1.mono (by simp))); have hbw1 : b < w1.heap.size := (by omega); clear hb1))
    | fail)
  rw [rounds_succ]
  go_wp2_with (first
    | (go_at_call 39; ((with_reducible refine (HD.out _).mono ?_); rintro e w2 ⟨rfl, hb2⟩; obtain ⟨hc2, hf2⟩ := bcell hb2; have hz2 : w1.heap.size < w2.heap.size := (by have := hb2.size; simp at this; omega); have HB2 : Hid (Below w.heap.size w w2) := bel1 HB1.out hb2; clear hb2))
    | fail)
  rw [rounds_succ]
  go_wp2
  go_ret
  exact ⟨rfl, HB2.out⟩
set_option maxHeartbeats 1600000 in
set_option maxRecDepth 1000000 in
theorem matrix_10 (w : World) : Calls Try.prog 28 #[.agg #[.int .i64 1, .int .i64 0]] w fun e w' => e = .returned (.agg #[.int .i64 1, .int .i64 0, .int .i64 0, .int .i64 1]) ∧ Below w.heap.size w w' := by
  go_enter Try.func28, Try.ntmps28
  go_wp2
  refine bodyPost_ret (v := .agg #[.int .i64 1, .int .i64 0, .int .i64 0, .int .i64 1]) ?_ rfl ⟨rfl, ?_⟩
  · simp [results, Try.results28, go_sem, *]
  · exact below2 _ _ _
theorem inv_14 {u e : Int} (h : InvIs 1 4 u e) : u = 1 := by
  rcases inv_leastC (by decide) h with ⟨h1, _, h3⟩ | ⟨h1, _⟩
  · exact h3.unique ⟨by decide, by decide, by decide⟩ h1
  · exact absurd (by decide +kernel) h1
set_option maxHeartbeats 1600000 in
set_option maxRecDepth 1000000 in
theorem matrix_14 (w : World) : Calls Try.prog 28 #[.agg #[.int .i64 1, .int .i64 4]] w fun e w' => e = .returned (.agg #[.int .i64 1, .int .i64 0, .int .i64 4, .int .i64 1]) ∧ Below w.heap.size w w' := by
  go_enter Try.func28, Try.ntmps28
  go_upto_region 4 with (first
    | (go_at_call 30; ((with_reducible refine (inverse_yes 1 4 _ (by decide) (by decide)).mono ?_); rintro e wx ⟨u, e0, rfl, hi, rfl⟩; obtain rfl := inv_14 hi; clear hi))
    | fail)
  go_region
  go_wp2
  refine bodyPost_ret (v := .agg #[.int .i64 1, .int .i64 0, .int .i64 4, .int .i64 1]) ?_ rfl ⟨rfl, ?_⟩
  · simp [results, Try.results28, go_sem, *]
  · exact (below2 _ _ _).drew
theorem rdc2 (w : World) (a b c d : Int) (t : TypeId) {g : Nat} (hg : g = w.heap.size) : RdC (w.alloc (.cells #[.int .i64 a, .int .i64 b, .int .i64 c, .int .i64 d] t)) (w.heap.size + 1) (some ⟨g, 0, none⟩) 2 [(a, b), (c, d)] := by
  subst hg
  refine ⟨by simp, by unfold maxLen; omega, fun _ => ⟨w.heap.size, 0, rfl, by omega, fun k hk => ?_⟩, fun a ha => by cases ha; exact ⟨_, _, rfl⟩⟩
  match k, hk with
  | 0, _ => simp
  | 1, _ => simp
theorem inv_1 (w : World) : Calls Try.prog 27 #[.agg #[.int .i64 1, .int .i64 0, .int .i64 0, .int .i64 1]] w fun e w' => e = .returned (.tuple #[.agg #[.int .i64 1, .int .i64 0, .int .i64 0, .int .i64 1], .int .i64 0]) ∧ Below w.heap.size w w' := inverse_any 1 0 0 1 1 0 0 1 0 w (by rfl)
theorem mul_14 (w : World) : Calls Try.prog 29 #[.agg #[.int .i64 1, .int .i64 0, .int .i64 4, .int .i64 1], .agg #[.int .i64 1, .int .i64 0, .int .i64 0, .int .i64 1]] w fun e w' => e = .returned (.tuple #[.agg #[.int .i64 1, .int .i64 0, .int .i64 4, .int .i64 1], .int .i64 0]) ∧ Below w.heap.size w w' := mul_any 1 0 4 1 1 0 0 1 1 0 4 1 0 w ((mulE_ok (by decide +kernel) (by decide +kernel) (by decide +kernel)).trans (by rfl))
set_option maxHeartbeats 1600000 in
set_option maxRecDepth 1000000 in
theorem equal0_4 (w : World) : Calls Try.prog 13 #[.int .i64 4, .agg #[.int .i64 1, .int .i64 0], .agg #[.int .i64 1, .int .i64 4]] w fun e w' => e = .returned (.tuple #[.bool true, .agg #[.int .i64 1, .int .i64 0, .int .i64 4, .int .i64 1], .int .i64 0]) ∧ Below w.heap.size w w' := by
  go_enter Try.func13, Try.ntmps13
  go_wp2_with (first
    | (go_at_call 19; ((with_reducible refine (check_4 _ (rdc2 _ 1 0 1 4 _ (by simp)) (by simp)).mono ?_); rintro e w1 ⟨rfl, hb⟩; have T1 : Hid (Two w1 w.heap.size 1 0) := ((((Two.at w rfl 1 0).alloc _).alloc _).alloc _).below hb; have T2 : Hid (Two w1 (w.heap.size + 1) 1 4) := (((Two.at (w.alloc _) (by simp) 1 4).alloc _).alloc _).below hb; have T3 : Hid (Four w1 (w.heap.size + 2) 0 0 0 0) := ((Four.at ((w.alloc _).alloc _) (by simp) 0 0 0 0).alloc _).below hb; have HB1 : Hid (Below w.heap.size w w1) := (below4 w _ _ _ _).trans (hb.mono (by simp; omega)); have hz1 : w.heap.size + 2 < w1.heap.size := T3.out.lt; have c1 := T1.out.cells.1; have c2 := T1.out.cells.2; clear hb))
    | (go_at_call 28; ((with_reducible refine (matrix_10 _).mono ?_); rintro e w2 ⟨rfl, hb⟩; have HB2 : Hid (Below w.heap.size w w2) := bel0 HB1.out hb; have U2 : Hid (Two w2 (w.heap.size + 1) 1 4) := T2.out.below hb; have U3 : Hid (Four w2 (w.heap.size + 2) 0 0 0 0) := T3.out.below hb; clear hb T2 T3 T1 c1 c2))
    | (go_at_call 27; ((with_reducible refine (inv_1 _).mono ?_); rintro e w3 ⟨rfl, hb⟩; have HB3 : Hid (Below w.heap.size w w3) := bel0 HB2.out hb; have V2 : Hid (Two w3 (w.heap.size + 1) 1 4) := U2.out.below hb; have V3 : Hid (Four w3 (w.heap.size + 2) 0 0 0 0) := U3.out.below hb; have hz3 : w.heap.size + 2 < w3.heap.size := V3.out.lt; have hz3' : w.heap.size + 1 < w3.heap.size := V2.out.lt; have c1 := V2.out.cells.1; have c2 := V2.out.cells.2; clear hb U2 U3))
    | (go_at_call 28; ((with_reducible refine (matrix_14 _).mono ?_); rintro e w4 ⟨rfl, hb⟩; have HB4 : Hid (Below w.heap.size w w4) := bel1 HB3.out hb; have W1 : Hid (Four w4 w3.heap.size 1 0 0 1) := (Four.at w3 rfl 1 0 0 1).below hb; have W3 : Hid (Four w4 (w.heap.size + 2) 0 0 0 0) := (V3.out.alloc _).below hb; have hz4 : w.heap.size + 2 < w4.heap.size := W3.out.lt; clear hb V2 V3 c1 c2))
    | fail)
  refine wp_loop_rounds 1 ?_
  rw [rounds_succ]
  go_upto_region 10 with (first
    | (go_at_call 29; ((with_reducible refine (mul_14 _).mono ?_); rintro e w5 ⟨rfl, hb⟩; have HB5 : Hid (Below w.heap.size w w5) := bel1 HB4.out hb; have X1 : Hid (Four w5 w3.heap.size 1 0 0 1) := (W1.out.alloc _).below hb; have X3 : Hid (Four w5 (w.heap.size + 2) 0 0 0 0) := (W3.out.alloc _).below hb; have hz5 : w3.heap.size < w5.heap.size := X1.out.lt; have hz5' : w.heap.size + 2 < w5.heap.size := X3.out.lt; have c := X1.out.cells; obtain ⟨c1, c2, c3, c4⟩ := c; clear hb W1 W3))
    | fail)
  go_wp2_with (first
    | (go_at_call 29; ((with_reducible refine (mul_14 _).mono ?_); rintro e w6 ⟨rfl, hb⟩; have HB6 : Hid (Below w.heap.size w w6) := bel1 HB5.out hb; have Y3 : Hid (Four w6 (w.heap.size + 2) 0 0 0 0) := (X3.out.alloc _).below hb; have hz6 : w.heap.size + 2 < w6.heap.size := Y3.out.lt; have f6 := Y3.out.free; have c := Y3.out.cells; obtain ⟨c1, c2, c3, c4⟩ := c; clear hb X1 X3))
    | fail)
  go_region
  go_wp2
  have HZ : Four (((((w6.setCell ⟨w.heap.size + 1 + 1, 0, none⟩ (.int .i64 1)).setCell ⟨w.heap.size + 1 + 1, 1, none⟩ (.int .i64 0)).setCell ⟨w.heap.size + 1 + 1, 2, none⟩ (.int .i64 4)).setCell ⟨w.heap.size + 1 + 1, 3, none⟩ (.int .i64 1)).alloc (.cells #[.int .i64 1, .int .i64 0, .int .i64 4, .int .i64 1] 50)).drew (w.heap.size + 1 + 1) 1 0 4 1 := ((Y3.out.set 1 0 4 1).alloc _).drew
  have hc := HZ.cells
  obtain ⟨d1, d2, d3, d4⟩ := hc
  refine bodyPost_ret (v := .tuple #[.bool true, .agg #[.int .i64 1, .int .i64 0, .int .i64 4, .int .i64 1], .int .i64 0]) ?_ rfl ⟨rfl, ?_⟩
  · simp [results, Try.results13, go_sem, d1, d2, d3, d4]
  · exact ((below_set4 HB6.out (by omega) _ _ _ _).alloc (by simp; omega) _).drew
end Go.Proofs.Ytdgfdbifeopiaaa
namespace Go.Proofs.Ytdgfdbifeopiaaa
open Go.RowKit

theorem list0_9 (w : World) : Calls Try.prog 10 #[.int .i64 9] w fun e w' => ∃ (A : Option Addr) (c : Nat), e = .returned (.tuple #[.slice A 4 c, .int .i64 0]) ∧ RdC w' w'.heap.size A c [(1, 1), (1, 3), (2, 3), (1, 9)] ∧ Below w.heap.size w w' := by
  refine (list0_any 9 w (by decide) (by decide)).mono ?_
  rintro e w' ⟨M, A, c, he, hd, ho, hb⟩
  have h1 : outL 9 (sorted M) = [(1, 1), (1, 3), (2, 3), (1, 9)] := by
    rw [sorted_dvs (D := 3) hd (by decide) (by decide) (by decide)]
    decide +kernel
  rw [h1] at he ho
  exact ⟨A, c, he, own_rdc ho, hb⟩
theorem atk_62 : AtkE 6 2 4 1 6 2 0 := .yes 2 (by decide) (by decide) (by decide) (by decide) (by decide) ⟨by decide, by decide, by decide⟩
theorem atkin_62 (w : World) : Calls Try.prog 14 #[.int .i64 6, .int .i64 2] w fun e w' => e = .returned (.tuple #[.agg #[.int .i64 4, .int .i64 1, .int .i64 6, .int .i64 2], .int .i64 0]) ∧ Below w.heap.size w w' := by
  refine (atkin_any 6 2 w).mono ?_
  rintro e w' ⟨a, b, c, d, k, h, he, hb⟩
  obtain ⟨rfl, rfl, rfl, rfl, rfl⟩ := h.unique atk_62
  exact ⟨he, hb⟩
theorem rdc4 (w : World) (a b c d e f p q : Int) (t : TypeId) {g : Nat} (hg : g = w.heap.size) : RdC (w.alloc (.cells #[.int .i64 a, .int .i64 b, .int .i64 c, .int .i64 d, .int .i64 e, .int .i64 f, .int .i64 p, .int .i64 q] t)) (w.heap.size + 1) (some ⟨g, 0, none⟩) 4 [(a, b), (c, d), (e, f), (p, q)] := by
  subst hg
  refine ⟨by simp, by unfold maxLen; omega, fun _ => ⟨w.heap.size, 0, rfl, by omega, fun k hk => ?_⟩, fun a ha => by cases ha; exact ⟨_, _, rfl⟩⟩
  match k, hk with
  | 0, _ => simp
  | 1, _ => simp
  | 2, _ => simp
  | 3, _ => simp
theorem same4 {B1 B2 c1 c2 : Nat} {A1 A2 : Option Addr} (w : World) (h1 : RdC w B1 A1 c1 [(1, 1), (1, 3), (2, 3), (1, 9)]) (h2 : RdC w B2 A2 c2 [(1, 1), (1, 3), (2, 3), (1, 9)]) :
    Calls Try.prog 12 #[.slice A1 4 c1, .slice A2 4 c2] w fun e w' => e = .returned (.bool true) ∧ ∃ n, w' = w.drewN n := by
  have := same_any w h1 h2
  rwa [show ([(1, 1), (1, 3), (2, 3), (1, 9)] : List (Int × Int)).length = 4 from rfl] at this
set_option maxHeartbeats 1600000 in
set_option maxRecDepth 1000000 in
theorem awake_any (w : World) : Calls Try.prog 5 #[] w fun e w' => e = .returned (.bool true) ∧ Below w.heap.size w w' := by
  go_enter Try.func5, Try.ntmps5
  go_upto_region 5 with (first
    | (go_at_call 10; ((with_reducible refine (list0_9 _).mono ?_); rintro e w1 ⟨A1, c1, rfl, hr, hb⟩; have HR1 := Lib.hid hr; have HB1 := Lib.hid hb; clear hr hb))
    | (go_at_call 13; ((with_reducible refine (equal0_4 _).mono ?_); rintro e w2 ⟨rfl, hb⟩; have HR2 := Lib.hid (HR1.out.below hb); have HB2 := Lib.hid (bel0 HB1.out hb); have hz2 : w1.heap.size ≤ w2.heap.size := hb.size; clear hb))
    | (go_at_call 14; ((with_reducible refine (atkin_62 _).mono ?_); rintro e w3 ⟨rfl, hb⟩; have HB3 := Lib.hid (bel1 HB2.out hb); have HF3 : Hid (Four w3 w2.heap.size 1 0 4 1) := (Four.at w2 rfl 1 0 4 1).below hb; have HR3 : Hid (RdC w3 w1.heap.size A1 c1 [(1, 1), (1, 3), (2, 3), (1, 9)]) := (HR2.out.below ((below1 w2 _).mono hz2)).below (hb.mono (by simp; omega)); have hz3 : w2.heap.size < w3.heap.size := HF3.out.lt; clear hb))
    | fail)
  have hc := HF3.out.cells
  obtain ⟨k1, k2, k3, k4⟩ := hc
  go_wp2_with (first
    | (go_at_call 12; ((with_reducible refine (same4 _ (HR3.out.below ((below2 w3 _ _).mono (by omega))) (rdc4 _ 1 1 1 3 2 3 1 9 _ (by simp))).mono ?_); rintro e w5 ⟨rfl, n5, rfl⟩))
    | fail)
  go_ret
  exact ⟨rfl, below_drewN (HB3.out.trans ((below2 w3 _ _).mono HB3.out.size)) n5⟩
end Go.Proofs.Ytdgfdbifeopiaaa
