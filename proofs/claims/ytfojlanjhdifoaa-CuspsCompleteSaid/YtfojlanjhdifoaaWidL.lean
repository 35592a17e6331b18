/- The contracts of Psi, Phi, Index for Gamma0, Width0 and the reference's Width0, List0 for all integers, Has for all matrices. -/
import Derived.Test.YtfojlanjhdifoaaWidM
import Derived.Test.YtfojlanjhdifoaaHasG
import Derived.Test.YtfojlanjhdifoaaCkL
namespace Go.Proofs.Ytfojlanjhdifoaa
open Go.RowKit
set_option linter.unusedVariables false

set_option maxHeartbeats 3200000 in
set_option maxRecDepth 1000000 in
theorem psi_any (n : Nat) (w : World) (n1 : 1 ≤ n) (n2 : (n : Int) ≤ 120) :
    Calls Try.prog 22 #[.int .i64 (n : Int)] w fun e w' => e = .returned (.tuple #[.int .i64 (psiN n : Nat), .int .i64 0]) ∧ Below w.heap.size w w' := by
  have HC := Lib.hid (wid_of n1 (show n ≤ 120 by omega))
  have HFa := Lib.hid (fun W => factor_any n W n1 (by omega))
  have HP : Hid (psiL ((facs 2 n).take (facs 2 n).length) n = psiN n) := by show _ = _; rw [List.take_length]; rfl
  have HB : Hid (∀ k, k ≤ (facs 2 n).length → psiL ((facs 2 n).take k) n ≤ 1000) := HC.out.bd
  have HM : Hid (∀ (k : Nat) (h : k < (facs 2 n).length), 2 ≤ (facs 2 n)[k].1 ∧ (facs 2 n)[k].1 ≤ 120) := fun k h => HC.out.p2 _ (List.getElem_mem h)
  have hfl := HC.out.fl
  generalize facs 2 n = F at *
  go_enter Try.func22, Try.ntmps22
  go_wp2_with (first
    | (go_at_call 35; ((with_reducible refine (HFa.out _).mono ?_); rintro e w2 ⟨v, rfl, ho, hb⟩; have HSh := Lib.hid (own_shape ho); obtain ⟨la, ll, lc, rfl⟩ := ownsRow_slice ho; have HO := Lib.hid ho; have HB2 := Lib.hid hb; clear ho hb))
    | fail)
  have HRd : Hid (ll = F.length ∧ ∀ k (hk : k < F.length), ∃ g, la = some ⟨g, 0, none⟩ ∧ g < w2.heap.size ∧ w2.cell? ⟨g, k * 2, none⟩ = some (.int .i64 (F[k].1 : Int)) ∧ w2.cell? ⟨g, k * 2 + 1, none⟩ = some (.int .i64 (F[k].2 : Int))) := by
    rcases HSh.out with ⟨h1, h2⟩ | ⟨g, cap, h1, h2, h3, h4, h5⟩
    · subst h1
      have : la = none ∧ ll = 0 ∧ lc = 0 := by simpa using h2
      exact ⟨this.2.1, fun k hk => absurd hk (by simp)⟩
    · have : la = some ⟨g, 0, none⟩ ∧ ll = F.length ∧ lc = cap := by simpa using h1
      exact ⟨this.2.1, fun k hk => ⟨g, this.1, h3, h5 k hk⟩⟩
  obtain ⟨hll, hrd⟩ := HRd.out
  have HR := Lib.hid hrd
  subst hll
  clear HRd hrd HSh HO HFa HC
  go_loopw [6, 8, 20] (fun X _ I wr => ∃ k x : Nat, I = .int .i64 k ∧ X = .int .i64 x ∧ k ≤ F.length ∧ (x : Int) ≤ 1000 ∧ Hid (psiL (F.take k) n = x) ∧ Hid (Below w2.heap.size w2 wr)) (fun _ _ I _ => F.length - (intOf I).toNat)
  case atStart => exact ⟨0, n, rfl, rfl, Nat.zero_le _, by omega, rfl, Below.refl _ _⟩
  case round =>
    obtain ⟨k, x, rfl, rfl, hk, hx, HX, HW⟩ := hrel
    by_cases hkl : k < F.length
    · have hkli : (k : Int) < (F.length : Int) := by omega
      obtain ⟨g, rfl, hg, y1, y2⟩ := HR.out k hkl
      obtain ⟨p1, p2⟩ := HM.out k hkl
      have x1 : wr.cell? ⟨g, k * 2, none⟩ = some (.int .i64 (F[k].1 : Int)) := (HW.out.cell (p := ⟨g, k * 2, none⟩) hg).trans y1
      have x2 : wr.cell? ⟨g, k * 2 + 1, none⟩ = some (.int .i64 (F[k].2 : Int)) := (HW.out.cell (p := ⟨g, k * 2 + 1, none⟩) hg).trans y2
      have hgw : g < wr.heap.size := Nat.lt_of_lt_of_le hg HW.out.size
      have HN : Hid (psiL (F.take (k + 1)) n = x + x / F[k].1) := by
        show _ = _
        rw [List.take_add_one, List.getElem?_eq_getElem hkl, Option.toList_some, psiL_append, HX.out]; rfl
      have hb := HB.out (k + 1) (by omega)
      rw [HN.out] at hb
      have hd : (x : Int) / (F[k].1 : Int) = ((x / F[k].1 : Nat) : Int) := (Int.natCast_ediv _ _).symm
      clear y1 y2 HX
      generalize F[k].1 = p at *
      generalize F[k].2 = q at *
      have hp0 : ((p : Int) == 0) = false := by rw [beq_eq_false_iff_ne]; omega
      have hp1 : 1 ≤ (p : Int) := by omega
      obtain ⟨z, hz⟩ : ∃ z, z = x / p := ⟨_, rfl⟩
      rw [← hz] at hd HN hb
      have hzi : (x : Int) + (z : Int) ≤ 1000 := by omega
      clear hz
      go_wp2
      go_roundw
      case rel => exact ⟨k + 1, x + z, by go_num, by go_num, by omega, by omega, HN.out, HW.out.alloc (by have := HW.out.size; omega) _⟩
      case measure => simp [intOf]; omega
    · obtain rfl : k = F.length := by omega
      have hk3 : ¬ (F.length : Int) < (F.length : Int) := by omega
      have HE : Hid ((x : Int) = (psiN n : Nat)) := by show _ = _; rw [← HP.out, HX.out]
      go_wp2
      refine bodyPost_ret (v := .tuple #[.int .i64 (x : Int), .int .i64 0]) ?_ rfl ⟨by rw [HE.out], HB2.out.trans (HW.out.mono HB2.out.size)⟩
      simp [results, Try.results22, go_sem, *]
set_option maxHeartbeats 3200000 in
set_option maxRecDepth 1000000 in
theorem phi_any (n : Nat) (w : World) (n1 : 1 ≤ n) (n2 : (n : Int) ≤ 120) :
    Calls Try.prog 23 #[.int .i64 (n : Int)] w fun e w' => ∃ x : Nat, e = .returned (.tuple #[.int .i64 (x : Int), .int .i64 0]) ∧ Below w.heap.size w w' := by
  have HC := Lib.hid (wid_of n1 (show n ≤ 120 by omega))
  have HFa := Lib.hid (fun W => factor_any n W n1 (by omega))
  have HM : Hid (∀ (k : Nat) (h : k < (facs 2 n).length), 2 ≤ (facs 2 n)[k].1 ∧ (facs 2 n)[k].1 ≤ 120) := fun k h => HC.out.p2 _ (List.getElem_mem h)
  have hfl := HC.out.fl
  clear HC
  generalize facs 2 n = F at *
  go_enter Try.func23, Try.ntmps23
  go_wp2_with (first
    | (go_at_call 35; ((with_reducible refine (HFa.out _).mono ?_); rintro e w2 ⟨v, rfl, ho, hb⟩; have HSh := Lib.hid (own_shape ho); obtain ⟨la, ll, lc, rfl⟩ := ownsRow_slice ho; have HO := Lib.hid ho; have HB2 := Lib.hid hb; clear ho hb))
    | fail)
  have HRd : Hid (ll = F.length ∧ ∀ k (hk : k < F.length), ∃ g, la = some ⟨g, 0, none⟩ ∧ g < w2.heap.size ∧ w2.cell? ⟨g, k * 2, none⟩ = some (.int .i64 (F[k].1 : Int)) ∧ w2.cell? ⟨g, k * 2 + 1, none⟩ = some (.int .i64 (F[k].2 : Int))) := by
    rcases HSh.out with ⟨h1, h2⟩ | ⟨g, cap, h1, h2, h3, h4, h5⟩
    · subst h1
      have : la = none ∧ ll = 0 ∧ lc = 0 := by simpa using h2
      exact ⟨this.2.1, fun k hk => absurd hk (by simp)⟩
    · have : la = some ⟨g, 0, none⟩ ∧ ll = F.length ∧ lc = cap := by simpa using h1
      exact ⟨this.2.1, fun k hk => ⟨g, this.1, h3, h5 k hk⟩⟩
  obtain ⟨hll, hrd⟩ := HRd.out
  have HR := Lib.hid hrd
  subst hll
  clear HRd hrd HSh HO HFa
  go_loopw [6, 8, 20] (fun X _ I wr => ∃ k x : Nat, I = .int .i64 k ∧ X = .int .i64 x ∧ k ≤ F.length ∧ (x : Int) ≤ 120 ∧ Hid (Below w2.heap.size w2 wr)) (fun _ _ I _ => F.length - (intOf I).toNat)
  case atStart => exact ⟨0, n, rfl, rfl, Nat.zero_le _, by omega, Below.refl _ _⟩
  case round =>
    obtain ⟨k, x, rfl, rfl, hk, hx, HW⟩ := hrel
    by_cases hkl : k < F.length
    · have hkli : (k : Int) < (F.length : Int) := by omega
      obtain ⟨g, rfl, hg, y1, y2⟩ := HR.out k hkl
      obtain ⟨p1, p2⟩ := HM.out k hkl
      have x1 : wr.cell? ⟨g, k * 2, none⟩ = some (.int .i64 (F[k].1 : Int)) := (HW.out.cell (p := ⟨g, k * 2, none⟩) hg).trans y1
      have x2 : wr.cell? ⟨g, k * 2 + 1, none⟩ = some (.int .i64 (F[k].2 : Int)) := (HW.out.cell (p := ⟨g, k * 2 + 1, none⟩) hg).trans y2
      have hgw : g < wr.heap.size := Nat.lt_of_lt_of_le hg HW.out.size
      have hd : (x : Int) / (F[k].1 : Int) = ((x / F[k].1 : Nat) : Int) := (Int.natCast_ediv _ _).symm
      clear y1 y2
      generalize F[k].1 = p at *
      generalize F[k].2 = q at *
      have hp0 : ((p : Int) == 0) = false := by rw [beq_eq_false_iff_ne]; omega
      have hp1 : 1 ≤ (p : Int) := by omega
      have hle := Nat.div_le_self x p
      obtain ⟨z, hz⟩ : ∃ z, z = x / p := ⟨_, rfl⟩
      rw [← hz] at hd hle
      have hzi : (z : Int) ≤ (x : Int) := by omega
      clear hz
      go_wp2
      go_roundw
      case rel => exact ⟨k + 1, x - z, by go_num, by rw [Int.natCast_sub hle], by omega, by omega, HW.out.alloc (by have := HW.out.size; omega) _⟩
      case measure => simp [intOf]; omega
    · obtain rfl : k = F.length := by omega
      have hk3 : ¬ (F.length : Int) < (F.length : Int) := by omega
      go_wp2
      refine bodyPost_ret (v := .tuple #[.int .i64 (x : Int), .int .i64 0]) ?_ rfl ⟨⟨x, rfl⟩, HB2.out.trans (HW.out.mono HB2.out.size)⟩
      simp [results, Try.results23, go_sem, *]
set_option maxHeartbeats 3200000 in
set_option maxRecDepth 1000000 in
theorem gindex_any (n : Nat) (w : World) (n1 : 1 ≤ n) (n2 : (n : Int) ≤ 120) :
    Calls Try.prog 9 #[.agg #[.int .i64 1, .int .i64 (n : Int)]] w fun e w' => e = .returned (.tuple #[.int .i64 (psiN n : Nat), .int .i64 0]) ∧ Below w.heap.size w w' := by
  have HC := Lib.hid (fun W => checkG (n : Int) W (by omega) n2)
  have HP := Lib.hid (fun W => psi_any n W n1 n2)
  have HF := Lib.hid (fun W => phi_any n W n1 n2)
  generalize psiN n = s at *
  go_enter Try.func9, Try.ntmps9
  go_wp2_with (first
    | (go_at_call 21; ((with_reducible refine (HC.out _).mono ?_); rintro e w1 ⟨rfl, hb⟩; have T : Hid (w1.heap[w.heap.size]? = some (.cells #[.int .i64 1, .int .i64 (n : Int)] 36 (0, 0))) := block_below (heap_alloc_new w _) hb; have HB1 : Hid (Below w.heap.size w w1) := bel1 (Below.refl _ _) hb; obtain ⟨⟨t1, t2⟩, _⟩ := two_of_block T.out; have hz := lt_of_block T.out; clear hb))
    | (go_at_call 22; ((with_reducible refine (HP.out _).mono ?_); rintro e w2 ⟨rfl, hb⟩; have T2 := Lib.hid (block_below T.out hb); have HB2 := Lib.hid (bel0 HB1.out hb); clear hb t1 t2 hz; obtain ⟨⟨t1, t2⟩, _⟩ := two_of_block T2.out; have hz := lt_of_block T2.out))
    | (go_at_call 23; ((with_reducible refine (HF.out _).mono ?_); rintro e w3 ⟨x, rfl, hb⟩; have T3 := Lib.hid (block_below T2.out hb); have HB3 := Lib.hid (bel0 HB2.out hb); clear hb t1 t2 hz; obtain ⟨⟨t1, t2⟩, _⟩ := two_of_block T3.out; have hz := lt_of_block T3.out))
    | fail)
  refine bodyPost_ret (v := .tuple #[.int .i64 (s : Int), .int .i64 0]) ?_ rfl ⟨rfl, HB3.out⟩
  simp [results, Try.results9, go_sem, *]
/-- The error of a level and one cusp. -/
def ckW (n p q : Int) : Int := if lvI n = 0 then ck1 p q else lvI n
def wdI (n p q : Int) : Int := if ckW n p q = 0 then n / Int.gcd n (q * q) else 0
theorem rdc1 (w : World) (a b : Int) (t : TypeId) {g : Nat} (hg : g = w.heap.size) : RdC (w.alloc (.cells #[.int .i64 a, .int .i64 b] t)) (w.heap.size + 1) (some ⟨g, 0, none⟩) 1 [(a, b)] := by
  subst hg
  refine ⟨by simp, by unfold maxLen; omega, fun _ => ⟨w.heap.size, 0, rfl, by omega, fun k hk => ?_⟩, fun a ha => by cases ha; exact ⟨_, _, rfl⟩⟩
  match k, hk with
  | 0, _ => simp
set_option maxHeartbeats 3200000 in
set_option maxRecDepth 1000000 in
theorem check1_any {A : Option Addr} {B : Nat} (n p q : Int) (w : World) (h : RdC w B A 1 [(p, q)]) (hB : B ≤ w.heap.size) : Calls Try.prog 15 #[.int .i64 n, .slice A 1 1] w fun e w' => e = .returned (.int .i64 (ckW n p q)) ∧ Below w.heap.size w w' := by
  have HC := Lib.hid (fun W => checkCusp_any p q W)
  obtain ⟨b, o, rfl, hb, x0, x1⟩ := h.at_ (k := 0) (by simp)
  have hbw : b < w.heap.size := by omega
  simp at x0 x1
  clear h
  by_cases hn : n < 1
  · rw [show ckW n p q = 2 from by unfold ckW; rw [lv_no (.inl hn), if_neg (by decide)]]
    go_enter Try.func15, Try.ntmps15
    go_wp2
    go_ret
    exact ⟨rfl, Below.refl _ _⟩
  by_cases hn2 : 120 < n
  · rw [show ckW n p q = 2 from by unfold ckW; rw [lv_no (.inr hn2), if_neg (by decide)]]
    go_enter Try.func15, Try.ntmps15
    go_wp2
    go_ret
    exact ⟨rfl, Below.refl _ _⟩
  have hlv := lv_yes (n := n) (by omega) (by omega)
  rw [show ckW n p q = ck1 p q from by unfold ckW; rw [if_pos hlv]]
  rcases ck1_cases p q with ⟨h, e⟩ | ⟨h, h1, e⟩ | ⟨h, h1, h2, e⟩ | ⟨h, h1, h2, h3, e⟩ | ⟨h, h1, h2, h3, e⟩
  all_goals rw [e]
  all_goals clear e hlv
  all_goals (try rw [h] at HC)
  all_goals (try generalize cuspI p q = z at *)
  all_goals
    go_enter Try.func15, Try.ntmps15
    go_wp2
    refine wp_loop_rounds 2 ?_
    rw [rounds_succ]
    go_wp2_with (first
      | (go_at_call 29; ((with_reducible refine (HC.out _).mono ?_); rintro e w1 ⟨rfl, hb1⟩; obtain ⟨hc, hf⟩ := bcell hb1; have hz1 : w.heap.size < w1.heap.size := (by have := hb1.size; simp at this; omega); have HB1 := Lib.hid ((below1 w _).trans (hb1.mono (by simp))); have hbw1 : b < w1.heap.size := (by omega); clear hb1))
      | fail)
  all_goals first
    | (go_ret; exact ⟨rfl, HB1.out⟩)
    | (rw [rounds_succ]; go_wp2; go_ret; exact ⟨rfl, HB1.out⟩)
theorem low_gcd' {p q : Int} (h : cuspI p q = 0) : Int.gcd p q = 1 ∧ 0 ≤ q := ⟨(cuspI_zero.1 h).2.2.cop, (cuspI_zero.1 h).2.2.pos⟩
theorem ckW_zero {n p q : Int} (h : ckW n p q = 0) : lvI n = 0 ∧ ck1 p q = 0 ∧ 1 ≤ n ∧ n ≤ 120 ∧ 0 ≤ q ∧ q ≤ 1000 := by
  unfold ckW at h
  by_cases hl : n < 1 ∨ 120 < n
  · rw [lv_no hl, if_neg (by decide)] at h; exact absurd h (by decide)
  · have hl0 := lv_yes (n := n) (by omega) (by omega)
    rw [if_pos hl0] at h
    have hq : 0 ≤ q ∧ q ≤ 1000 := by
      rcases ck1_cases p q with ⟨h', e⟩ | ⟨h', h1, e⟩ | ⟨h', h1, h2, e⟩ | ⟨h', h1, h2, h3, e⟩ | ⟨h', h1, h2, h3, e⟩
      · rw [e] at h; exact absurd h h'
      · omega
      · omega
      · omega
      · exact ⟨(low_gcd' h').2, h3⟩
    exact ⟨hl0, h, by omega, by omega, hq.1, hq.2⟩
theorem sq_bd {q : Int} (h0 : 0 ≤ q) (h1 : q ≤ 1000) : 0 ≤ q * q ∧ q * q ≤ 1000000 := by
  have := Int.mul_nonneg h0 h0
  have := Int.mul_le_mul h1 h1 h0 (by omega)
  omega
theorem gcd_n_pos {n x : Int} (h : 1 ≤ n) : 1 ≤ ((Int.gcd n x : Nat) : Int) := by
  have := Int.gcd_pos_of_ne_zero_left x (a := n) (by omega)
  omega
set_option maxHeartbeats 3200000 in
set_option maxRecDepth 1000000 in
theorem width0_any (n p q : Int) (w : World) : Calls Try.prog 6 #[.int .i64 n, .agg #[.int .i64 p, .int .i64 q]] w fun e w' => e = .returned (.tuple #[.int .i64 (wdI n p q), .int .i64 (ckW n p q)]) ∧ Below w.heap.size w w' := by
  have HC := Lib.hid (fun (W : World) (A : Option Addr) (B : Nat) (h : RdC W B A 1 [(p, q)]) (hB : B ≤ W.heap.size) => check1_any n p q W h hB)
  by_cases hK : ckW n p q = 0
  · obtain ⟨_, _, n1, n2, q0, q1⟩ := ckW_zero hK
    rw [show wdI n p q = n / Int.gcd n (q * q) from if_pos hK, hK]
    rw [hK] at HC
    obtain ⟨s0, s1⟩ := sq_bd q0 q1
    have HG := Lib.hid (fun W => gcd_any n (q * q) W (by unfold Mid; omega) (by unfold Mid; omega))
    have g1 := gcd_n_pos (n := n) (x := q * q) n1
    obtain ⟨g, hg⟩ : ∃ g : Int, g = (Int.gcd n (q * q) : Nat) := ⟨_, rfl⟩
    rw [← hg] at HG g1 ⊢
    have hg0 : (g == 0) = false := by rw [beq_eq_false_iff_ne]; omega
    clear hg hK
    go_enter Try.func6, Try.ntmps6
    go_wp2_with (first
      | (go_at_call 15; ((with_reducible refine (HC.out _ _ _ (rdc1 _ p q _ (by simp)) (by simp)).mono ?_); rintro e w1 ⟨rfl, hb⟩; have T : Hid (Two w1 w.heap.size p q) := ((Two.at w rfl p q).alloc _).below hb; have HB1 := Lib.hid (bel2 (Below.refl _ _) hb); obtain ⟨k1, k2⟩ := T.out.cells; have hz := T.out.lt; clear hb))
      | (go_at_call 16; ((with_reducible refine (HG.out _).mono ?_); rintro e w' ⟨rfl, q3, rfl⟩))
      | fail)
    refine bodyPost_ret (v := .tuple #[.int .i64 (n / g), .int .i64 0]) ?_ rfl ⟨rfl, below_drewN HB1.out q3⟩
    simp [results, Try.results6, go_sem, *]
  · rw [show wdI n p q = 0 from if_neg hK]
    generalize ckW n p q = z at *
    go_enter Try.func6, Try.ntmps6
    go_wp2_with (first
      | (go_at_call 15; ((with_reducible refine (HC.out _ _ _ (rdc1 _ p q _ (by simp)) (by simp)).mono ?_); rintro e w1 ⟨rfl, hb⟩; have HB1 := Lib.hid (bel2 (Below.refl _ _) hb); clear hb))
      | fail)
    refine bodyPost_ret (v := .tuple #[.int .i64 0, .int .i64 z]) ?_ rfl ⟨rfl, HB1.out⟩
    simp [results, Try.results6, go_sem, *]
set_option maxHeartbeats 3200000 in
set_option maxRecDepth 1000000 in
theorem rwidth0_any (n p q : Int) (w : World) : Calls Try.prog 7 #[.int .i64 n, .agg #[.int .i64 p, .int .i64 q]] w fun e w' => e = .returned (.tuple #[.int .i64 (wdI n p q), .int .i64 (ckW n p q)]) ∧ Below w.heap.size w w' := by
  have HL := Lib.hid (fun W => level_any n W)
  have HC := Lib.hid (fun W => rck_any p q W)
  by_cases hK : ckW n p q = 0
  · obtain ⟨hl, hc, n1, n2, q0, q1⟩ := ckW_zero hK
    rw [show wdI n p q = n / Int.gcd n (q * q) from if_pos hK, hK]
    rw [hl] at HL
    rw [hc] at HC
    obtain ⟨s0, s1⟩ := sq_bd q0 q1
    have HG := Lib.hid (fun W => rGcd_any n (q * q) W (by unfold Mid; omega) (by unfold Mid; omega))
    have g1 := gcd_n_pos (n := n) (x := q * q) n1
    obtain ⟨g, hg⟩ : ∃ g : Int, g = (Int.gcd n (q * q) : Nat) := ⟨_, rfl⟩
    rw [← hg] at HG g1 ⊢
    have hg0 : (g == 0) = false := by rw [beq_eq_false_iff_ne]; omega
    clear hg hK hl hc
    go_enter Try.func7, Try.ntmps7
    go_wp2_with (first
      | (go_at_call 17; ((with_reducible refine (HL.out _).mono ?_); rintro e w' ⟨rfl, rfl⟩))
      | (go_at_call 18; ((with_reducible refine (HC.out _).mono ?_); rintro e w1 ⟨rfl, hb⟩; have T : Hid (Two w1 w.heap.size p q) := (Two.at w rfl p q).below hb; have HB1 := Lib.hid (bel1 (Below.refl _ _) hb); obtain ⟨k1, k2⟩ := T.out.cells; have hz := T.out.lt; clear hb))
      | (go_at_call 19; ((with_reducible refine (HG.out _).mono ?_); rintro e w' ⟨rfl, q3, rfl⟩))
      | fail)
    refine bodyPost_ret (v := .tuple #[.int .i64 (n / g), .int .i64 0]) ?_ rfl ⟨rfl, below_drewN HB1.out q3⟩
    simp [results, Try.results7, go_sem, *]
  · rw [show wdI n p q = 0 from if_neg hK]
    by_cases hl : lvI n = 0
    · have e : ckW n p q = ck1 p q := if_pos hl
      rw [e] at hK ⊢
      rw [hl] at HL
      clear e hl
      generalize ck1 p q = z at *
      go_enter Try.func7, Try.ntmps7
      go_wp2_with (first
        | (go_at_call 17; ((with_reducible refine (HL.out _).mono ?_); rintro e w' ⟨rfl, rfl⟩))
        | (go_at_call 18; ((with_reducible refine (HC.out _).mono ?_); rintro e w1 ⟨rfl, hb⟩; have HB1 := Lib.hid (bel1 (Below.refl _ _) hb); clear hb))
        | fail)
      refine bodyPost_ret (v := .tuple #[.int .i64 0, .int .i64 z]) ?_ rfl ⟨rfl, HB1.out⟩
      simp [results, Try.results7, go_sem, *]
    · have e : ckW n p q = lvI n := if_neg hl
      rw [e] at hK ⊢
      clear e hl
      generalize lvI n = z at *
      go_enter Try.func7, Try.ntmps7
      go_wp2_with (first
        | (go_at_call 17; ((with_reducible refine (HL.out _).mono ?_); rintro e w' ⟨rfl, rfl⟩))
        | fail)
      refine bodyPost_ret (v := .tuple #[.int .i64 0, .int .i64 z]) ?_ rfl ⟨rfl, below1 _ _⟩
      simp [results, Try.results7, go_sem, *]
/-- The list of a level, empty where there is no level. -/
def L0I (n : Int) : List (Int × Int) := if lvI n = 0 then L0 n.toNat else []
theorem lv_nat {n : Int} (h : lvI n = 0) : ∃ k : Nat, n = k ∧ 1 ≤ k ∧ (k : Int) ≤ 120 := by
  by_cases hl : n < 1 ∨ 120 < n
  · rw [lv_no hl] at h; exact absurd h (by decide)
  · exact ⟨n.toNat, by omega, by omega, by omega⟩
set_option maxHeartbeats 1600000 in
set_option maxRecDepth 1000000 in
theorem list0_all (n : Int) (w : World) : Calls Try.prog 8 #[.int .i64 n] w fun e w' => ∃ A c, e = .returned (.tuple #[.slice A (L0I n).length c, .int .i64 (lvI n)]) ∧ RdC w' w'.heap.size A c (L0I n) ∧ Below w.heap.size w w' := by
  by_cases hl : lvI n = 0
  · obtain ⟨k, rfl, k1, k2⟩ := lv_nat hl
    refine (list0_any k w k1 k2).mono ?_
    rintro e w' ⟨M, A, c, rfl, hd, ho, hb⟩
    have h1 : L0I k = outL k (sorted M) := by
      unfold L0I
      rw [if_pos hl, sorted_divs hd k1]; rfl
    rw [h1, hl]
    exact ⟨A, c, rfl, own_rdc ho, hb⟩
  · have HC := Lib.hid (fun W => check0_any n W)
    rw [show L0I n = [] from if_neg hl]
    generalize lvI n = z at *
    go_enter Try.func8, Try.ntmps8
    go_wp2_with (first
      | (go_at_call 15; ((with_reducible refine (HC.out _).mono ?_); rintro e w' ⟨rfl, rfl⟩))
      | fail)
    refine bodyPost_ret (v := .tuple #[.slice none 0 0, .int .i64 z]) ?_ rfl ⟨none, 0, rfl, rdc_nil _ _, Below.refl _ _⟩
    simp [results, Try.results8, go_sem, *]
/-- The cusps of the list. -/
theorem mem_L0 {n : Nat} {c : Int × Int} (n1 : 1 ≤ n) (n2 : n ≤ 120) (h : c ∈ L0 n) : ∃ p d : Nat, c = (((p : Nat) : Int), ((d : Nat) : Int)) ∧ 1 ≤ d ∧ d ∣ n ∧ 1 ≤ p ∧ p ≤ d ∧ Nat.gcd p d = 1 ∧ d ≤ 120 := by
  unfold L0 outL at h
  rw [List.mem_flatMap] at h
  obtain ⟨d, h1, h2⟩ := h
  have hd := (mem_divs n1).1 h1
  obtain ⟨e1, p, e2, e3, e4, e5⟩ := st_den _ _ _ c h2
  have := Nat.pos_of_dvd_of_pos hd n1
  have := Nat.le_of_dvd n1 hd
  exact ⟨p, d, Prod.ext e2 e1, by omega, hd, e3, e4, e5, by omega⟩
theorem ck1_L0 {p d : Nat} (h1 : 1 ≤ d) (h2 : p ≤ d) (h3 : Nat.gcd p d = 1) (h4 : d ≤ 120) : ck1 p d = 0 := by
  have hc : cuspI p d = 0 := cuspI_zero.2 ⟨inE_yes (by omega) (by omega), by omega, h3, by omega, fun h => by omega⟩
  unfold ck1
  rw [if_pos hc, if_neg (by omega)]
theorem len_L0 {n : Nat} (n1 : 1 ≤ n) (n2 : n ≤ 120) : (L0 n).length ≤ 14641 := by
  have hm : ∀ x ∈ divs n, x ≤ 120 := fun x hx => by have := Nat.le_of_dvd n1 ((mem_divs n1).1 hx); omega
  have h1 := outL_len n hm (divs n).length (Nat.le_refl _)
  rw [List.take_length] at h1
  have h2 : (divs n).length ≤ n + 1 := by
    unfold divs
    exact Nat.le_trans (List.length_filter_le _ _) (by rw [List.length_range]; exact Nat.le_refl _)
  have h3 := Nat.mul_le_mul_left 120 (Nat.le_trans h2 (show n + 1 ≤ 121 by omega))
  show (outL n (divs n)).length ≤ _
  omega
end Go.Proofs.Ytfojlanjhdifoaa
