/- powMod and Order modulo small numbers. -/
import Derived.Test.YtlagljnhbhnelaaArtL
import Derived.Test.YtlagljnhbhnelaaLawK
import Derived.Deep.DeepCutAuto
import Derived.Deep.CutBlock
import Derived.Deep.RegionHeld3
import Derived.IntWalk
namespace Go.Proofs.Ytlagljnhbhnelaa
open Go.RowKit
set_option linter.unusedVariables false
set_option linter.unusedSimpArgs false

theorem pw_odd {x a n m y : Nat} (h : x * a ^ n % m = y) (hn : n % 2 = 1) : x * a % m * (a * a % m) ^ (n / 2) % m = y := by
  rw [← h, Nat.mul_mod, Nat.mod_mod, ← Nat.mul_mod, Nat.mul_mod (x * a), Nat.pow_mod (a * a % m), Nat.mod_mod, ← Nat.pow_mod, ← Nat.mul_mod]
  congr 1
  have : n = 2 * (n / 2) + 1 := by omega
  conv => rhs; rw [this]
  rw [Nat.pow_succ, Nat.pow_mul, Nat.pow_two, Nat.mul_assoc, Nat.mul_comm a]
theorem pw_even {x a n m y : Nat} (h : x * a ^ n % m = y) (hn : ¬ n % 2 = 1) : x * (a * a % m) ^ (n / 2) % m = y := by
  rw [← h, Nat.mul_mod, Nat.pow_mod (a * a % m), Nat.mod_mod, ← Nat.pow_mod, ← Nat.mul_mod]
  congr 1
  have : n = 2 * (n / 2) := by omega
  conv => rhs; rw [this]
  rw [Nat.pow_mul, Nat.pow_two]
set_option maxHeartbeats 3200000 in
set_option maxRecDepth 1000000 in
theorem pwm_any (a0 n0 m : Nat) (w : World) (m1 : 1 ≤ m) (m2 : (m : Int) ≤ 120) (a2 : (a0 : Int) ≤ 120) (n2 : (n0 : Int) ≤ 1000) :
    Calls Try.prog 85 #[.int .i64 (a0 : Int), .int .i64 (n0 : Int), .int .i64 (m : Int)] w fun e w' => e = .returned (.int .i64 ((a0 ^ n0 % m : Nat) : Int)) ∧ w = w' := by
  have hm0 : ((m : Int) == 0) = false := by rw [beq_eq_false_iff_ne]; omega
  have h1m : (1 : Int) % (m : Int) = ((1 % m : Nat) : Int) := (Int.natCast_emod 1 m).symm
  have hm1 : 1 % m ≤ 1 := Nat.mod_le 1 m
  have H0 : Hid (1 % m * a0 ^ n0 % m = a0 ^ n0 % m) := by show _ = _; rw [Nat.mul_mod, Nat.mod_mod, ← Nat.mul_mod, Nat.one_mul]
  obtain ⟨y0, hy0⟩ : ∃ y, y = a0 ^ n0 % m := ⟨_, rfl⟩
  rw [← hy0] at H0 ⊢
  obtain ⟨o, ho⟩ : ∃ o, o = 1 % m := ⟨_, rfl⟩
  rw [← ho] at h1m hm1 H0
  have ho120 : (o : Int) ≤ 120 := by omega
  have HO0 : Hid (n0 = 0 → o % m = o) := fun _ => by rw [ho, Nat.mod_mod]
  clear hy0 ho
  go_enter Try.func85, Try.ntmps85
  go_wp2
  go_loop [0, 1, 7] (fun X N P => ∃ a n p : Nat, X = .int .i64 (a : Int) ∧ N = .int .i64 (n : Int) ∧ P = .int .i64 (p : Int) ∧ (a : Int) ≤ 120 ∧ (n : Int) ≤ 1000 ∧ (p : Int) ≤ 120 ∧ Hid (p * a ^ n % m = y0) ∧ Hid (n = 0 → p % m = p)) (fun _ N _ => (intOf N).toNat)
  case atStart => exact ⟨a0, n0, o, rfl, rfl, by rw [h1m], a2, n2, ho120, H0.out, HO0.out⟩
  case round =>
    obtain ⟨a, n, p, rfl, rfl, rfl, ha, hn, hp, HX, HP⟩ := hrel
    by_cases hz : n = 0
    · subst hz
      have HE : Hid ((p : Int) = (y0 : Nat)) := by show _ = _; rw [← HX.out, Nat.pow_zero, Nat.mul_one, HP.out rfl]
      go_wp2
      go_ret
      exact ⟨ret_int' HE.out, rfl⟩
    · have hni : 0 < (n : Int) := by omega
      have hsq : (a : Int) * (a : Int) = ((a * a : Nat) : Int) := (Int.natCast_mul a a).symm
      have hab : a * a ≤ 14400 := Nat.mul_le_mul (show a ≤ 120 by omega) (show a ≤ 120 by omega)
      have hm2 : ((a * a : Nat) : Int) % (m : Int) = ((a * a % m : Nat) : Int) := (Int.natCast_emod _ m).symm
      have hlt2 : a * a % m < m := Nat.mod_lt _ m1
      have hhalf : (n : Int) / 2 = ((n / 2 : Nat) : Int) := by omega
      have hh1 : n / 2 < n := by omega
      by_cases hodd : n % 2 = 1
      · have e1 : ((n : Int) % 2 == 1) = true := by rw [beq_iff_eq]; omega
        have hpa : (p : Int) * (a : Int) = ((p * a : Nat) : Int) := (Int.natCast_mul p a).symm
        have hpb : p * a ≤ 14400 := Nat.mul_le_mul (show p ≤ 120 by omega) (show a ≤ 120 by omega)
        have hpm : ((p * a : Nat) : Int) % (m : Int) = ((p * a % m : Nat) : Int) := (Int.natCast_emod _ m).symm
        have hltp : p * a % m < m := Nat.mod_lt _ m1
        have HN := Lib.hid (pw_odd HX.out hodd)
        have HM : Hid (p * a % m % m = p * a % m) := Nat.mod_mod _ _
        clear HX HP hodd
        generalize hA : a * a % m = A at *
        generalize hB : p * a % m = B at *
        generalize a * a = aa at *
        generalize p * a = pa at *
        generalize n / 2 = nn at *
        go_wp2
        go_round
        case rel => exact ⟨A, nn, B, by rw [hm2], rfl, by rw [hpm], by omega, by omega, by omega, HN.out, fun _ => HM.out⟩
        case measure => simp [intOf]; omega
      · have e1 : ((n : Int) % 2 == 1) = false := by rw [beq_eq_false_iff_ne]; omega
        have HN := Lib.hid (pw_even HX.out hodd)
        have hnn : ¬ n / 2 = 0 := by omega
        have HM : Hid (n / 2 = 0 → p % m = p) := fun h => absurd h hnn
        clear HX HP hodd
        generalize hA : a * a % m = A at *
        generalize a * a = aa at *
        generalize n / 2 = nn at *
        go_wp2
        go_round
        case rel => exact ⟨A, nn, p, by rw [hm2], rfl, rfl, by omega, by omega, hp, HN.out, HM.out⟩
        case measure => simp [intOf]; omega
theorem cells_two {w : World} {b : Nat} {x y : Value} {t : TypeId} (h : w.heap[b]? = some (.cells #[x, y] t (0, 0))) : w.cell? ⟨b, 0, none⟩ = some x ∧ w.cell? ⟨b, 1, none⟩ = some y ∧ (∀ k, w.frozen? ⟨b, k, none⟩ = false) :=
  ⟨by rw [cell_of_row w b 0 _ t _ h]; rfl, by rw [cell_of_row w b 1 _ t _ h]; rfl, fun j => frozen_of_row w b j _ t h⟩
def orI (a m p : Nat) : Nat → Nat → Nat
  | 0, o => o
  | j + 1, o => if a ^ (o / p) % m ≠ 1 % m then o else orI a m p j (o / p)
def orF (a m : Nat) : List (Nat × Nat) → Nat → Nat
  | [], o => o
  | q :: l, o => orF a m l (orI a m q.1 q.2 o)
/-- The order as Order reckons it. -/
def orV (a m : Nat) : Nat := orF (a % m) m (facs 2 (phV m)) (phV m)
theorem orI_le (a m p : Nat) : ∀ j o, orI a m p j o ≤ o
  | 0, o => Nat.le_refl o
  | j + 1, o => by
    show (if a ^ (o / p) % m ≠ 1 % m then o else orI a m p j (o / p)) ≤ o
    split
    · exact Nat.le_refl o
    · exact Nat.le_trans (orI_le a m p j _) (Nat.div_le_self _ _)
theorem orF_append (a m : Nat) : ∀ l k x, orF a m (l ++ k) x = orF a m k (orF a m l x)
  | [], _, _ => rfl
  | p :: l, k, x => orF_append a m l k _
def orOk (m : Nat) : Bool := decide (1 ≤ phV m) && (facs 2 (phV m)).all (fun q => decide (2 ≤ q.1) && decide (q.1 ≤ 120) && decide (q.2 ≤ 7)) && decide ((facs 2 (phV m)).length ≤ 10)
set_option maxRecDepth 100000 in
theorem or_all : (List.range 120).all (fun i => orOk (i + 1)) = true := by decide +kernel
structure OrF (m : Nat) : Prop where
  ph : 1 ≤ phV m
  q : ∀ q ∈ facs 2 (phV m), 2 ≤ q.1 ∧ q.1 ≤ 120 ∧ q.2 ≤ 7
  l : (facs 2 (phV m)).length ≤ 10
theorem or_of {m : Nat} (m1 : 1 ≤ m) (m2 : m ≤ 120) : OrF m := by
  have h := List.all_eq_true.1 or_all (m - 1) (List.mem_range.2 (by omega))
  rw [show m - 1 + 1 = m by omega] at h
  unfold orOk at h
  simp only [Bool.and_eq_true, List.all_eq_true, decide_eq_true_eq] at h
  exact ⟨h.1.1, fun q hq => ⟨(h.1.2 q hq).1.1, (h.1.2 q hq).1.2, (h.1.2 q hq).2⟩, h.2⟩
theorem orI_hit {a m p j o : Nat} (h : a ^ (o / p) % m ≠ 1 % m) : orI a m p (j + 1) o = o := by
  show (if a ^ (o / p) % m ≠ 1 % m then o else orI a m p j (o / p)) = o
  rw [if_pos h]
theorem orI_go {a m p j o : Nat} (h : a ^ (o / p) % m = 1 % m) : orI a m p (j + 1) o = orI a m p j (o / p) := by
  show (if a ^ (o / p) % m ≠ 1 % m then o else orI a m p j (o / p)) = _
  rw [if_neg (by simpa using h)]
set_option maxHeartbeats 3200000 in
set_option maxRecDepth 1000000 in
theorem order_no (a m : Nat) (w : World) (m1 : 1 ≤ m) (m2 : (m : Int) ≤ 120) (hc : Nat.gcd (a % m) m ≠ 1) :
    Calls Try.prog 82 #[.int .i64 (a : Int), .int .i64 (m : Int)] w fun e w' => e = .returned (.tuple #[.int .i64 0, .int .i64 9]) ∧ Below w.heap.size w w' := by
  have HI := Lib.hid (fun V => inverse_yes (a : Int) (m : Int) V (by omega) (by omega))
  have hg : ¬ Int.gcd ((a : Int) % (m : Int)) (m : Int) = 1 := by rw [← Int.natCast_emod]; exact hc
  go_enter Try.func82, Try.ntmps82
  go_wp2_with (first
    | (go_at_call 84; ((with_reducible refine (HI.out _).mono ?_); rintro e w1 ⟨u, e0, rfl, hi, rfl⟩; obtain ⟨rfl, rfl⟩ : e0 = 9 ∧ u = 0 := (by rcases hi with ⟨h1, _⟩ | ⟨_, h2, h3⟩; (exact absurd h1 hg); exact ⟨h2, h3⟩); clear hi))
    | fail)
  go_ret2
  exact ⟨rfl, Below.refl _ _⟩
set_option maxHeartbeats 3200000 in
set_option maxRecDepth 1000000 in
theorem order_yes (a m : Nat) (w : World) (m1 : 1 ≤ m) (m2 : (m : Int) ≤ 120) (hc : Nat.gcd (a % m) m = 1) :
    Calls Try.prog 82 #[.int .i64 (a : Int), .int .i64 (m : Int)] w fun e w' => e = .returned (.tuple #[.int .i64 (orV a m : Nat), .int .i64 0]) ∧ Below w.heap.size w w' := by
  have HI := Lib.hid (fun V => inverse_yes (a : Int) (m : Int) V (by omega) (by omega))
  have hg : Int.gcd ((a : Int) % (m : Int)) (m : Int) = 1 := by rw [← Int.natCast_emod]; exact hc
  have hor := or_of m1 (show m ≤ 120 by omega)
  have hphm := phV_le m
  have HPh := Lib.hid (fun V => phi_any m V m1 m2)
  have HFa := Lib.hid (fun V => factor_any (phV m) V hor.ph (by omega))
  have hmod : (a : Int) % (m : Int) = ((a % m : Nat) : Int) := (Int.natCast_emod a m).symm
  have HRe := Lib.hid (fun V => residue_any (a : Int) (m : Int) V (by omega) (by omega))
  rw [hmod] at HRe
  have HPw := Lib.hid (fun (n : Nat) (hn : (n : Int) ≤ 1000) V => pwm_any (a % m) n m V m1 m2 (by have := Nat.mod_lt a m1; omega) hn)
  have HP : Hid (orF (a % m) m ((facs 2 (phV m)).take (facs 2 (phV m)).length) (phV m) = orV a m) := by show _ = _; rw [List.take_length]; rfl
  have HM : Hid (∀ (k : Nat) (h : k < (facs 2 (phV m)).length), 2 ≤ (facs 2 (phV m))[k].1 ∧ (facs 2 (phV m))[k].1 ≤ 120 ∧ (facs 2 (phV m))[k].2 ≤ 7) := fun k h => hor.q _ (List.getElem_mem h)
  have hfl := hor.l
  have h1m : (1 : Int) % (m : Int) = ((1 % m : Nat) : Int) := (Int.natCast_emod 1 m).symm
  have h1t : Int.tmod (1 : Int) (m : Int) = ((1 % m : Nat) : Int) := (Int.ofNat_tmod 1 m).symm
  have hm1 : 1 % m ≤ 1 := Nat.mod_le 1 m
  have hm0 : ((m : Int) == 0) = false := by rw [beq_eq_false_iff_ne]; omega
  have hm01 : ¬ ((m : Int) = 0) := by omega
  have hm02 : ¬ (m = 0) := by omega
  clear hor hc hmod
  generalize a % m = b at *
  generalize facs 2 (phV m) = F at *
  generalize phV m = ph at *
  go_enter Try.func82, Try.ntmps82
  go_wp2_with (first
    | (go_at_call 84; ((with_reducible refine (HI.out _).mono ?_); rintro e w1 ⟨u, e0, rfl, hi, rfl⟩; obtain rfl : e0 = 0 := (by rcases hi with ⟨_, h1, _⟩ | ⟨h2, _⟩; (exact h1); exact absurd hg h2); clear hi))
    | (go_at_call 81; ((with_reducible refine (HPh.out _).mono ?_); rintro e v1 ⟨rfl, hb⟩; have HB1 := Lib.hid hb; clear hb))
    | (go_at_call 67; ((with_reducible refine (HFa.out _).mono ?_); rintro e w2 ⟨v, rfl, ho, hb⟩; obtain ⟨la, ll, lc, rfl⟩ := ownsRow_slice ho; have HRd := Lib.hid (fac_read ho); have HB2 := Lib.hid (bel0 HB1.out hb); clear ho hb))
    | (go_at_call 73; ((with_reducible refine (HRe.out _).mono ?_); rintro e w3 ⟨rfl, rfl⟩))
    | fail)
  obtain ⟨hll, hrd⟩ := HRd.out
  have HR := Lib.hid hrd
  subst hll
  clear HRd hrd HFa HPh HI HRe
  obtain ⟨on, hon⟩ : ∃ o, o = 1 % m := ⟨_, rfl⟩
  rw [← hon] at h1m h1t hm1
  have HOn := Lib.hid hon
  clear hon
  have hon2 : (on : Int) ≤ 1 := by omega
  go_loopw [12, 15, 41, 47] (fun O _ I _ wr => ∃ k o : Nat, I = .int .i64 k ∧ O = .int .i64 o ∧ k ≤ F.length ∧ (o : Int) ≤ 120 ∧ Hid (orF b m (F.take k) ph = o) ∧ Hid (Below w2.heap.size w2 wr)) (fun _ _ I _ _ => F.length - (intOf I).toNat)
  case atStart => exact ⟨0, ph, rfl, rfl, Nat.zero_le _, by omega, rfl, Below.refl _ _⟩
  case round =>
    obtain ⟨k, o0, rfl, rfl, hk, ho0, HX, HW⟩ := hrel
    by_cases hkl : k < F.length
    · have hkli : (k : Int) < (F.length : Int) := by omega
      obtain ⟨g, rfl, hg1, y1, y2⟩ := HR.out k hkl
      obtain ⟨p1, p2, q2⟩ := HM.out k hkl
      have x1 : wr.cell? ⟨g, k * 2, none⟩ = some (.int .i64 (F[k].1 : Int)) := (HW.out.cell (p := ⟨g, k * 2, none⟩) hg1).trans y1
      have x2 : wr.cell? ⟨g, k * 2 + 1, none⟩ = some (.int .i64 (F[k].2 : Int)) := (HW.out.cell (p := ⟨g, k * 2 + 1, none⟩) hg1).trans y2
      have hgw : g < wr.heap.size := Nat.lt_of_lt_of_le hg1 HW.out.size
      have HN : Hid (orF b m (F.take (k + 1)) ph = orI b m F[k].1 F[k].2 o0) := by
        show _ = _
        rw [List.take_add_one, List.getElem?_eq_getElem hkl, Option.toList_some, orF_append, HX.out]; rfl
      have hle := orI_le b m F[k].1 F[k].2 o0
      clear y1 y2 HX
      generalize F[k].1 = p at *
      generalize F[k].2 = q at *
      obtain ⟨o1, ho1⟩ : ∃ o1, o1 = orI b m p q o0 := ⟨_, rfl⟩
      rw [← ho1] at HN hle
      have HO1 := Lib.hid ho1.symm
      clear ho1
      have hp0 : ((p : Int) == 0) = false := by rw [beq_eq_false_iff_ne]; omega
      have hp01 : ¬ ((p : Int) = 0) := by omega
      have hp02 : ¬ (p = 0) := by omega
      have hpi : 2 ≤ (p : Int) := by omega
      have hpi2 : (p : Int) ≤ 120 := by omega
      have hqi : (q : Int) ≤ 7 := by omega
      go_upto_region 11 with fail
      obtain ⟨W3, hW3⟩ : ∃ W3, W3 = wr.alloc (.cells #[.int .i64 (p : Int), .int .i64 (q : Int)] 91) := ⟨_, rfl⟩
      rw [← hW3]
      obtain ⟨gb, hgb⟩ : ∃ g, g = wr.heap.size := ⟨_, rfl⟩
      have U0 : Hid (W3.heap[gb]? = some (.cells #[.int .i64 (p : Int), .int .i64 (q : Int)] 91 (0, 0))) := by rw [hW3, hgb]; exact heap_alloc_new wr _
      have HB3 : Hid (Below w2.heap.size w2 W3) := by rw [hW3]; exact HW.out.alloc HW.out.size _
      rw [← hgb]
      clear hW3 x1 x2 hgb
      obtain ⟨u0, u1, _⟩ := cells_two U0.out
      go_wp2
      go_loopw [12, 47] (fun O J wi => ∃ j o : Nat, J = .int .i64 j ∧ O = .int .i64 o ∧ j ≤ q ∧ (o : Int) ≤ 120 ∧ Hid (orI b m p (q - j) o = o1) ∧ Hid (Below W3.heap.size W3 wi)) (fun _ J _ => q - (intOf J).toNat)
      case atStart => exact ⟨0, o0, rfl, rfl, Nat.zero_le _, ho0, HO1.out, Below.refl _ _⟩
      case round =>
        obtain ⟨j, o, rfl, rfl, hj, ho, HOJ, HWi⟩ := hrel
        have Ui := Lib.hid (block_below U0.out HWi.out)
        obtain ⟨u0, u1, _⟩ := cells_two Ui.out
        by_cases hjq : j < q
        · have hjqi : (j : Int) < (q : Int) := by omega
          have hdv : (o : Int) / (p : Int) = ((o / p : Nat) : Int) := (Int.natCast_ediv _ _).symm
          have htd : Int.tdiv (o : Int) (p : Int) = ((o / p : Nat) : Int) := (Int.ofNat_tdiv _ _).symm
          have hq3 : o / p ≤ 120 := Nat.le_trans (Nat.div_le_self _ _) (by omega)
          have HPj := Lib.hid (fun V => HPw.out (o / p) (by omega) V)
          obtain ⟨j', hj'⟩ : ∃ j', q - j = j' + 1 := ⟨q - j - 1, by omega⟩
          have hj2 : q - (j + 1) = j' := by omega
          rw [hj'] at HOJ
          have D0 : Hid (Below W3.heap.size W3 wr.drew) := HWi.out.drew
          have Ud : Hid (wr.drew.heap[gb]? = some (.cells #[.int .i64 (p : Int), .int .i64 (q : Int)] 91 (0, 0))) := Ui.out
          by_cases e : b ^ (o / p) % m = on
          · have HN2 : Hid (orI b m p (q - (j + 1)) (o / p) = o1) := by show _ = _; rw [hj2, ← HOJ.out, orI_go (by rw [e, HOn.out])]
            rw [e] at HPj
            clear e hj' hj2
            generalize o / p = z at *
            have hwz : IntKind.i64.wrap (z : Int) = (z : Int) := IntWalk.i64_in _ (by omega)
            have hwo : IntKind.i64.wrap (on : Int) = (on : Int) := IntWalk.i64_in _ (by omega)
            go_upto_region 13 with fail
            go_region_held3 (fun w' => w'.cell? ⟨gb, 0, none⟩ = some (.int .i64 (p : Int)) ∧ w'.cell? ⟨gb, 1, none⟩ = some (.int .i64 (q : Int)))
              (with_reducible first | exact ⟨(cells_two Ud.out).1, (cells_two Ud.out).2.1⟩ | fail)
              (first
                | (go_at_call 85; ((with_reducible refine (HPj.out _).mono ?_); rintro e w4 ⟨rfl, rfl⟩))
                | fail)
            obtain ⟨u0, u1, _⟩ := cells_two Ud.out
            go_wp2
            go_roundw
            case rel => exact ⟨j + 1, z, by go_num, rfl, by omega, by omega, HN2.out, D0.out⟩
            case measure => simp [intOf]; omega
          · have HE2 : Hid (o = o1) := by show _ = _; rw [← HOJ.out, orI_hit (by rw [← HOn.out]; exact e)]
            have hne : (((b ^ (o / p) % m : Nat) : Int) != (on : Int)) = true := by rw [bne_iff_ne]; omega
            clear e hj' hj2
            generalize b ^ (o / p) % m = y at *
            generalize o / p = z at *
            have hwz : IntKind.i64.wrap (z : Int) = (z : Int) := IntWalk.i64_in _ (by omega)
            have hwo : IntKind.i64.wrap (on : Int) = (on : Int) := IntWalk.i64_in _ (by omega)
            go_upto_region 13 with fail
            go_region_held3 (fun w' => w'.cell? ⟨gb, 0, none⟩ = some (.int .i64 (p : Int)) ∧ w'.cell? ⟨gb, 1, none⟩ = some (.int .i64 (q : Int)))
              (with_reducible first | exact ⟨(cells_two Ud.out).1, (cells_two Ud.out).2.1⟩ | fail)
              (first
                | (go_at_call 85; ((with_reducible refine (HPj.out _).mono ?_); rintro e w4 ⟨rfl, rfl⟩))
                | fail)
            go_wp2
            go_roundw
            case rel => exact ⟨k + 1, o, by go_num, rfl, by omega, ho, by show _ = _; rw [HN.out, HE2.out], HB3.out.trans (D0.out.mono HB3.out.size)⟩
            case measure => simp [intOf]; omega
        · have hjqi : ¬ (j : Int) < (q : Int) := by omega
          have HE2 : Hid (o = o1) := by show _ = _; rw [← HOJ.out, show q - j = 0 by omega]; rfl
          go_wp2
          go_roundw
          case rel => exact ⟨k + 1, o, by go_num, rfl, by omega, ho, by show _ = _; rw [HN.out, HE2.out], HB3.out.trans (HWi.out.mono HB3.out.size)⟩
          case measure => simp [intOf]; omega
    · obtain rfl : k = F.length := by omega
      have hk3 : ¬ (F.length : Int) < (F.length : Int) := by omega
      have HE : Hid ((o0 : Int) = (orV a m : Nat)) := by show _ = _; rw [← HP.out, HX.out]
      go_wp2
      refine bodyPost_ret (v := .tuple #[.int .i64 (o0 : Int), .int .i64 0]) ?_ rfl ⟨by rw [HE.out], HB2.out.trans (HW.out.mono HB2.out.size)⟩
      simp [results, Try.results82, go_sem, *]
end Go.Proofs.Ytlagljnhbhnelaa
