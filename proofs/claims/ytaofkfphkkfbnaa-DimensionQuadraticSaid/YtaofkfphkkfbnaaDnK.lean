/- The reference's formula, Cusp and Eisenstein. -/
import Derived.Test.YtaofkfphkkfbnaaDnJ
namespace Go.Proofs.Ytaofkfphkkfbnaa
open Go.RowKit
set_option linter.unusedVariables false
set_option linter.unusedSimpArgs false

def c3K (k : Nat) : Int := if k % 3 = 0 then 2 else if k % 3 = 2 then -2 else 0
theorem LD.cond {n : Nat} {D : Int} (h : LD n D) : 1 ≤ D.natAbs ∧ (D.natAbs : Int) ≤ 120 := by
  have hD : D ≠ 0 := fun e => by have := h.f; rw [e] at this; cases this
  have := h.d1
  have := h.d2
  omega
theorem rlam_ld {n : Nat} {D : Int} (h : LD n D) (w : World) : Calls Try.prog 48 #[.int .i64 (n : Int), .int .i64 (D.natAbs : Nat)] w fun e w' => e = .returned (.int .i64 (lamP n D.natAbs : Nat)) ∧ w = w' :=
  rlam_any n D.natAbs w h.n1 (by have := h.n2; omega) h.cond.1 h.cond.2 h.df.lr h.df.lf h.df.le
set_option maxHeartbeats 6400000 in
set_option maxRecDepth 1000000 in
theorem rform_any (n k : Nat) (D fo th : Int) (w : World) (h : LD n D) (k1 : 2 ≤ (k : Int)) (k2 : (k : Int) ≤ 24) (a1 : -500 ≤ fo) (a2 : fo ≤ 500) (b1 : -500 ≤ th) (b2 : th ≤ 500) :
    Calls Try.prog 47 #[.int .i64 (n : Int), .int .i64 (k : Int), .int .i64 (D.natAbs : Nat), .int .i64 fo, .int .i64 th] w fun e w' => e = .returned (.int .i64 ((((k : Int) - 1) * psV n - 6 * (lamP n D.natAbs : Int) + f4K k * fo + c3K k * th + 12 * exK k D.natAbs).tdiv 12)) ∧ Below w.heap.size w w' := by
  have HP := Lib.hid (fun V => rpsi_any n V h.n1 (by have := h.n2; omega))
  have HL := Lib.hid (fun V => rlam_ld h V)
  have hps := psV_le h.n1 h.n2
  have hla := lamP_le h
  have hcd := h.cond.2
  clear h
  generalize D.natAbs = m at *
  obtain ⟨V, hV⟩ : ∃ V, V = (((k : Int) - 1) * psV n - 6 * (lamP n m : Int) + f4K k * fo + c3K k * th + 12 * exK k m).tdiv 12 := ⟨_, rfl⟩
  rw [← hV]
  generalize psV n = ps at *
  generalize lamP n m = la at *
  obtain ⟨z1, hz1⟩ : ∃ z, z = ((k : Int) - 1) * (ps : Int) := ⟨_, rfl⟩
  have bz : 0 ≤ z1 ∧ z1 ≤ 23000 := by
    rw [hz1]
    constructor
    · exact Int.mul_nonneg (by omega) (by omega)
    · have := Int.mul_le_mul (show (k : Int) - 1 ≤ 23 by omega) (show (ps : Int) ≤ 1000 by omega) (by omega) (by omega)
      omega
  obtain ⟨bz1, bz2⟩ := bz
  rw [← hz1] at hV
  have e1 : ((k : Int) - 1) * (ps : Int) = z1 := hz1.symm
  clear hz1
  obtain ⟨t1, ht1⟩ : ∃ t, t = z1 - 6 * (la : Int) := ⟨_, rfl⟩
  have et1 : z1 - 6 * (la : Int) = t1 := ht1.symm
  rw [et1] at hV
  have bt1 : -10000 ≤ t1 := by omega
  have bt2 : t1 ≤ 30000 := by omega
  clear ht1
  have h4 : (((k : Int) % 4 == 0) = true ∧ f4K k = 3) ∨ (((k : Int) % 4 == 0) = false ∧ ((k : Int) % 4 == 2) = true ∧ f4K k = -3) ∨ (((k : Int) % 4 == 0) = false ∧ ((k : Int) % 4 == 2) = false ∧ f4K k = 0) := by
    unfold f4K
    by_cases g0 : k % 4 = 0
    · exact .inl ⟨by rw [beq_iff_eq]; omega, by rw [if_pos g0]⟩
    · by_cases g2 : k % 4 = 2
      · exact .inr (.inl ⟨by rw [beq_eq_false_iff_ne]; omega, by rw [beq_iff_eq]; omega, by rw [if_neg g0, if_pos g2]⟩)
      · exact .inr (.inr ⟨by rw [beq_eq_false_iff_ne]; omega, by rw [beq_eq_false_iff_ne]; omega, by rw [if_neg g0, if_neg g2]⟩)
  have h3 : (((k : Int) % 3 == 0) = true ∧ c3K k = 2) ∨ (((k : Int) % 3 == 0) = false ∧ ((k : Int) % 3 == 2) = true ∧ c3K k = -2) ∨ (((k : Int) % 3 == 0) = false ∧ ((k : Int) % 3 == 2) = false ∧ c3K k = 0) := by
    unfold c3K
    by_cases g0 : k % 3 = 0
    · exact .inl ⟨by rw [beq_iff_eq]; omega, by rw [if_pos g0]⟩
    · by_cases g2 : k % 3 = 2
      · exact .inr (.inl ⟨by rw [beq_eq_false_iff_ne]; omega, by rw [beq_iff_eq]; omega, by rw [if_neg g0, if_pos g2]⟩)
      · exact .inr (.inr ⟨by rw [beq_eq_false_iff_ne]; omega, by rw [beq_eq_false_iff_ne]; omega, by rw [if_neg g0, if_neg g2]⟩)
  have hx : (((k : Int) == 2) = true ∧ ((m : Int) == 1) = true ∧ exK k m = 1) ∨ (((k : Int) == 2) = true ∧ ((m : Int) == 1) = false ∧ exK k m = 0) ∨ (((k : Int) == 2) = false ∧ exK k m = 0) := by
    unfold exK
    by_cases g0 : k = 2
    · by_cases g1 : m = 1
      · exact .inl ⟨by rw [beq_iff_eq]; omega, by rw [beq_iff_eq]; omega, by rw [if_pos ⟨g0, g1⟩]⟩
      · exact .inr (.inl ⟨by rw [beq_iff_eq]; omega, by rw [beq_eq_false_iff_ne]; omega, by rw [if_neg (by omega)]⟩)
    · exact .inr (.inr ⟨by rw [beq_eq_false_iff_ne]; omega, by rw [if_neg (by omega)]⟩)
  rcases h4 with ⟨f0, f1⟩ | ⟨f0, f2, f1⟩ | ⟨f0, f2, f1⟩ <;> rcases h3 with ⟨g0, g1⟩ | ⟨g0, g2, g1⟩ | ⟨g0, g2, g1⟩ <;> rcases hx with ⟨x0, x2, x1⟩ | ⟨x0, x2, x1⟩ | ⟨x0, x1⟩
  all_goals
    rw [f1, g1, x1] at hV
    have HV := Lib.hid hV
    clear hV f1 g1 x1
    go_enter Try.func47, Try.ntmps47
    go_wp2_with (first
      | (go_at_call 35; ((with_reducible refine (HP.out _).mono ?_); rintro e v1 ⟨rfl, hb⟩; have HB := Lib.hid hb; clear hb))
      | (go_at_call 48; ((with_reducible refine (HL.out _).mono ?_); rintro e v2 ⟨rfl, rfl⟩))
      | fail)
    go_ret
    exact ⟨ret_int' ((congrArg (fun y => Int.tdiv y 12) (by omega)).trans HV.out.symm), HB.out⟩
theorem rkL_bd (d : Int) : ∀ f p a, -1 ≤ rkL d f p a ∧ rkL d f p a ≤ 1
  | 0, _, _ => by unfold rkL; omega
  | f + 1, p, a => by
    show -1 ≤ (if a ≤ 1 then 1 else if a % p = 0 then syV d p * rkL d f p (a / p) else rkL d f (p + 1) a) ∧ (if a ≤ 1 then 1 else if a % p = 0 then syV d p * rkL d f p (a / p) else rkL d f (p + 1) a) ≤ 1
    split
    · omega
    · split
      · exact tri_mul (syV_cases d p) (rkL_bd d f p (a / p))
      · exact rkL_bd d f (p + 1) a
theorem q4_bd (n : Nat) (D : Int) : ∀ t : Nat, -(t : Int) ≤ q4 n D t ∧ q4 n D t ≤ (t : Int)
  | 0 => by unfold q4; omega
  | t + 1 => by
    have := q4_bd n D t
    have : -1 ≤ rkV D (t + 1) ∧ rkV D (t + 1) ≤ 1 := rkL_bd _ _ _ _
    unfold q4
    split <;> omega
theorem q3_bd (n : Nat) (D : Int) : ∀ t : Nat, -(2 * (t : Int)) ≤ q3 n D t ∧ q3 n D t ≤ 2 * (t : Int)
  | 0 => by unfold q3; omega
  | t + 1 => by
    have := q3_bd n D t
    have : -1 ≤ rkV D (t + 1) ∧ rkV D (t + 1) ≤ 1 := rkL_bd _ _ _ _
    unfold q3
    split <;> omega
set_option maxHeartbeats 6400000 in
set_option maxRecDepth 1000000 in
theorem rcusp_any (n k : Nat) (D : Int) (w : World) (h : LD n D) (k1 : 2 ≤ (k : Int)) (k2 : (k : Int) ≤ 24) :
    Calls Try.prog 20 #[.agg #[.int .i64 (n : Int), .int .i64 (k : Int), .int .i64 D]] w fun e w' => e = .returned (.int .i64 (cpV n k D)) ∧ Below w.heap.size w w' := by
  have T0 : Hid ((w.alloc (.cells #[.int .i64 (n : Int), .int .i64 (k : Int), .int .i64 D] 23)).heap[w.heap.size]? = some (.cells #[.int .i64 (n : Int), .int .i64 (k : Int), .int .i64 D] 23 (0, 0))) := heap_alloc_new w _
  have HB0 : Hid (Below w.heap.size w (w.alloc (.cells #[.int .i64 (n : Int), .int .i64 (k : Int), .int .i64 D] 23))) := below1 w _
  obtain ⟨⟨c0, c1, c2⟩, _⟩ := three_of_blockD T0.out
  have n1 := h.n1
  have n2 : (n : Int) ≤ 120 := by have := h.n2; omega
  have d1 := h.d1
  have d2 := h.d2
  have hmax : max D (-D) = ((D.natAbs : Nat) : Int) := by omega
  have HV : Hid ((((k : Int) - 1) * psV n - 6 * (lamP n D.natAbs : Int) + f4K k * q4 n D n + c3K k * q3 n D n + 12 * exK k D.natAbs).tdiv 12 = cpV n k D) := (cp_rf h).symm
  have HFo := Lib.hid (fun fo th V a1 a2 b1 b2 => rform_any n k D fo th V h k1 k2 a1 a2 b1 b2)
  have HG : Hid (∀ (u : Nat) W, (u : Int) ≤ 121 → Calls Try.prog 45 #[.int .i64 (u : Int), .int .i64 (n : Int)] W fun e w' => e = .returned (.int .i64 (Nat.gcd u n : Nat)) ∧ ∃ n, w' = W.drewN n) := fun u W h => by
    have := rGcd_any (u : Int) (n : Int) W (by unfold Mid; omega) (by unfold Mid; omega)
    rwa [show Int.gcd (u : Int) (n : Int) = Nat.gcd u n from rfl] at this
  have HKr := Lib.hid (fun (a : Nat) V (a1 : 1 ≤ a) (a2 : (a : Int) ≤ 120) => rkron_any D a V d1 d2 a1 a2)
  have Hkb : Hid (∀ a, -1 ≤ rkV D a ∧ rkV D a ≤ 1) := fun a => rkL_bd _ _ _ _
  have H4 : Hid (q4 n D 0 = 0) := rfl
  have H3 : Hid (q3 n D 0 = 0) := rfl
  have HS4 := Lib.hid (fun t => show q4 n D (t + 1) = (if (decide (Nat.gcd (t + 1) n = 1) && rt4 n (t + 1)) = true then q4 n D t + rkV D (t + 1) else q4 n D t) from rfl)
  have HS3 := Lib.hid (fun t => show q3 n D (t + 1) = (if (decide (Nat.gcd (t + 1) n = 1) && rt3 n (t + 1)) = true then q3 n D t + 2 * rkV D (t + 1) else q3 n D t) from rfl)
  have HR4 : Hid (∀ t, rt4 n t = decide ((t * t + 1) % n = 0)) := fun t => rfl
  have HR3 : Hid (∀ t, rt3 n t = decide ((t * t + t + 1) % n = 0)) := fun t => rfl
  have HB4 := Lib.hid (fun t => q4_bd n D t)
  have HB3 := Lib.hid (fun t => q3_bd n D t)
  clear h
  generalize D.natAbs = m at *
  go_enter Try.func20, Try.ntmps20
  go_upto_region 4 with fail
  obtain ⟨w1, hw1⟩ : ∃ w1, w1 = w.alloc (.cells #[.int .i64 (n : Int), .int .i64 (k : Int), .int .i64 D] 23) := ⟨_, rfl⟩
  rw [← hw1] at T0 HB0 c0 c1 c2 ⊢
  clear hw1 c0 c1 c2
  go_loopw [4, 5, 6] (fun X Y I wr => ∃ t : Nat, I = .int .i64 ((t + 1 : Nat) : Int) ∧ X = .int .i64 (q4 n D t) ∧ Y = .int .i64 (q3 n D t) ∧ t ≤ n ∧ Hid (Below w1.heap.size w1 wr)) (fun _ _ I _ => n + 1 - (intOf I).toNat)
  case atStart => exact ⟨0, rfl, by rw [H4.out], by rw [H3.out], Nat.zero_le _, Below.refl _ _⟩
  case round =>
    obtain ⟨t, rfl, rfl, rfl, ht, HW⟩ := hrel
    have Tw := Lib.hid (block_below T0.out HW.out)
    obtain ⟨⟨c0, c1, c2⟩, _⟩ := three_of_blockD Tw.out
    by_cases htn : t < n
    · have hti : (((t + 1 : Nat)) : Int) ≤ (n : Int) := by omega
      have hs4 := HS4.out t
      have hs3 := HS3.out t
      have hr4 := HR4.out (t + 1)
      have hr3 := HR3.out (t + 1)
      have hb4 := HB4.out t
      have hb3 := HB3.out t
      have hkb := Hkb.out (t + 1)
      have hkr := HKr.out (t + 1)
      generalize q4 n D t = x at *
      generalize q3 n D t = y at *
      obtain ⟨u, hu⟩ : ∃ u, u = t + 1 := ⟨_, rfl⟩
      rw [← hu] at hti hs4 hs3 hr4 hr3 hkb hkr ⊢
      have HU := Lib.hid hu
      have hu1 : 1 ≤ (u : Int) := by omega
      have hu2 : (u : Int) ≤ 120 := by omega
      have HGu := Lib.hid (fun W => HG.out u W (by omega))
      have HKu := Lib.hid (fun W => hkr W (by omega) hu2)
      obtain ⟨K, hK⟩ : ∃ K, K = rkV D u := ⟨_, rfl⟩
      rw [← hK] at hs4 hs3 hkb HKu
      obtain ⟨hk1, hk2⟩ := hkb
      obtain ⟨x1, x2⟩ : -120 ≤ x ∧ x ≤ 120 := by omega
      obtain ⟨y1, y2⟩ : -240 ≤ y ∧ y ≤ 240 := by omega
      have hub : u * u ≤ 14400 := Nat.mul_le_mul (show u ≤ 120 by omega) (show u ≤ 120 by omega)
      have hsq : (u : Int) * (u : Int) = ((u * u : Nat) : Int) := (Int.natCast_mul u u).symm
      have hn0 : ((n : Int) == 0) = false := by rw [beq_eq_false_iff_ne]; omega
      clear hu hb4 hb3 hK hkr
      by_cases hg : Nat.gcd u n = 1
      · rw [hg] at HGu
        have m4 : ((u * u : Nat) : Int) + 1 = ((u * u + 1 : Nat) : Int) := rfl
        have m3 : ((u * u : Nat) : Int) + (u : Int) + 1 = ((u * u + u + 1 : Nat) : Int) := rfl
        have b4 : u * u + 1 ≤ 20000 := by omega
        have b3 : u * u + u + 1 ≤ 20000 := by omega
        have o4 : (((((u * u + 1 : Nat) : Int) % (n : Int)) == 0) = true ∧ q4 n D u = x + K) ∨ (((((u * u + 1 : Nat) : Int) % (n : Int)) == 0) = false ∧ q4 n D u = x) := by
          have hm : ((u * u + 1 : Nat) : Int) % (n : Int) = (((u * u + 1) % n : Nat) : Int) := (Int.natCast_emod _ n).symm
          by_cases e : (u * u + 1) % n = 0
          · left; rw [hm, e]; exact ⟨rfl, by rw [hs4, hr4, decide_eq_true e, decide_eq_true hg]; rfl⟩
          · right; exact ⟨by rw [hm, beq_eq_false_iff_ne]; omega, by rw [hs4, hr4, decide_eq_false e, Bool.and_false]; rfl⟩
        have o3 : (((((u * u + u + 1 : Nat) : Int) % (n : Int)) == 0) = true ∧ q3 n D u = y + 2 * K) ∨ (((((u * u + u + 1 : Nat) : Int) % (n : Int)) == 0) = false ∧ q3 n D u = y) := by
          have hm : ((u * u + u + 1 : Nat) : Int) % (n : Int) = (((u * u + u + 1) % n : Nat) : Int) := (Int.natCast_emod _ n).symm
          by_cases e : (u * u + u + 1) % n = 0
          · left; rw [hm, e]; exact ⟨rfl, by rw [hs3, hr3, decide_eq_true e, decide_eq_true hg]; rfl⟩
          · right; exact ⟨by rw [hm, beq_eq_false_iff_ne]; omega, by rw [hs3, hr3, decide_eq_false e, Bool.and_false]; rfl⟩
        clear hs4 hs3 hr4 hr3 hg
        generalize u * u + u + 1 = z3 at *
        generalize u * u + 1 = z4 at *
        generalize u * u = zz at *
        have b4i : (z4 : Int) ≤ 20000 := by omega
        have b3i : (z3 : Int) ≤ 20000 := by omega
        rcases o4 with ⟨o4, hN4⟩ | ⟨o4, hN4⟩ <;> rcases o3 with ⟨o3, hN3⟩ | ⟨o3, hN3⟩
        all_goals
          have HN4 := Lib.hid hN4
          have HN3 := Lib.hid hN3
          clear hN4 hN3
          go_wp2_with (first
            | (go_at_call 45; ((with_reducible refine (HGu.out _).mono ?_); rintro e v1 ⟨rfl, n1', rfl⟩; have c2' : (wr.drewN n1').cell? ⟨w.heap.size, 2, none⟩ = some (.int .i64 D) := c2))
            | (go_at_call 46; ((with_reducible refine (HKu.out _).mono ?_); rintro e v2 ⟨rfl, rfl⟩))
            | fail)
          go_roundw
          case rel => exact ⟨u, by go_num, by rw [HN4.out], by rw [HN3.out], by have := HU.out; omega, below_drewN HW.out _⟩
          case measure => have := HU.out; simp [intOf]; omega
      · have hne : (((Nat.gcd u n : Nat) : Int) != 1) = true := by rw [bne_iff_ne]; omega
        have HN4 : Hid (q4 n D u = x) := by show _ = _; rw [hs4, decide_eq_false hg, Bool.false_and]; rfl
        have HN3 : Hid (q3 n D u = y) := by show _ = _; rw [hs3, decide_eq_false hg, Bool.false_and]; rfl
        clear hs4 hs3 hr4 hr3 hg
        generalize Nat.gcd u n = gg at *
        go_wp2_with (first
          | (go_at_call 45; ((with_reducible refine (HGu.out _).mono ?_); rintro e v1 ⟨rfl, n1', rfl⟩))
          | fail)
        go_roundw
        case rel => exact ⟨u, by go_num, by rw [HN4.out], by rw [HN3.out], by have := HU.out; omega, below_drewN HW.out _⟩
        case measure => have := HU.out; simp [intOf]; omega
    · obtain rfl : t = n := by omega
      have hk3 : ¬ (((t + 1 : Nat)) : Int) ≤ (t : Int) := by omega
      have hb4 := HB4.out t
      have hb3 := HB3.out t
      have HFt := Lib.hid (fun V => HFo.out (q4 t D t) (q3 t D t) V (by omega) (by omega) (by omega) (by omega))
      rw [HV.out] at HFt
      generalize q4 t D t = x at *
      generalize q3 t D t = y at *
      go_wp2_with (first
        | (go_at_call 47; ((with_reducible refine (HFt.out _).mono ?_); rintro e v3 ⟨rfl, hb⟩; have HBf := Lib.hid hb; clear hb))
        | fail)
      go_ret
      exact ⟨rfl, HB0.out.trans ((bel0 HW.out HBf.out).mono HB0.out.size)⟩
end Go.Proofs.Ytaofkfphkkfbnaa
