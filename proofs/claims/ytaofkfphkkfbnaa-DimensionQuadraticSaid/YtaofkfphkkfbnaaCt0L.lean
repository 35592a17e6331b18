/- The contracts of cusps.Count0 and of signature.pairs, for levels. -/
import Derived.Test.YtaofkfphkkfbnaaArtL
import Derived.Deep.OwnRows
import Derived.Laws.MakeOwn
import Derived.Deep.Cut
import Derived.WalkSmall
namespace Go.Proofs.Ytaofkfphkkfbnaa
open Go.RowKit
set_option linter.unusedVariables false
set_option linter.unusedSimpArgs false

def lvI (n : Int) : Int := if n < 1 ∨ 120 < n then 2 else 0
theorem lv_no {n : Int} (h : n < 1 ∨ 120 < n) : lvI n = 2 := if_pos h
theorem lv_yes {n : Int} (h1 : 1 ≤ n) (h2 : n ≤ 120) : lvI n = 0 := if_neg (by omega)
set_option maxHeartbeats 800000 in
theorem check0_any (n : Int) (w : World) : Calls Try.prog 81 #[.int .i64 n, .slice none 0 0] w fun e w' => e = .returned (.int .i64 (lvI n)) ∧ w = w' := by
  by_cases h1 : n < 1
  · rw [lv_no (.inl h1)]
    go_enter Try.func81, Try.ntmps81
    go_wp2
    go_ret
    exact ⟨rfl, rfl⟩
  by_cases h2 : 120 < n
  · rw [lv_no (.inr h2)]
    go_enter Try.func81, Try.ntmps81
    go_wp2
    go_ret
    exact ⟨rfl, rfl⟩
  · rw [lv_yes (by omega) (by omega)]
    go_enter Try.func81, Try.ntmps81
    go_wp2
    refine wp_loop_rounds 1 ?_
    rw [rounds_succ]
    go_wp2
    go_ret
    exact ⟨rfl, rfl⟩
/-- The divisors of n, ascending. -/
def dvN (n : Nat) : List Nat := (List.range (n + 1)).filter fun d => decide (1 ≤ d) && decide (n % d = 0)
theorem mem_dvN {n x : Nat} (h : 1 ≤ n) : x ∈ dvN n ↔ x ∣ n := by
  unfold dvN
  rw [List.mem_filter, List.mem_range, Bool.and_eq_true, decide_eq_true_eq, decide_eq_true_eq]
  constructor
  · rintro ⟨_, _, h3⟩; exact Nat.dvd_of_mod_eq_zero h3
  · intro hd
    have := Nat.le_of_dvd h hd
    exact ⟨by omega, Nat.pos_of_dvd_of_pos hd h, Nat.mod_eq_zero_of_dvd hd⟩
theorem dvN_asc (n : Nat) : (dvN n).Pairwise (· < ·) := List.Pairwise.filter _ List.pairwise_lt_range
theorem sorted_dvN {n : Nat} {M : List Nat} (h : DivL n M) (hn : 1 ≤ n) : sorted M = dvN n :=
  asc_eq (sorted_asc h.nd) (dvN_asc n) fun x => by rw [(sorted_perm M).mem_iff, h.mem x, mem_dvN hn]
theorem dvN_bd {n : Nat} (h : 1 ≤ n) (n2 : n ≤ 120) : (dvN n).length ≤ 121 ∧ ∀ x ∈ dvN n, 1 ≤ x ∧ x ∣ n ∧ x ≤ 120 := by
  constructor
  · have := List.length_filter_le (fun d => decide (1 ≤ d) && decide (n % d = 0)) (List.range (n + 1))
    rw [List.length_range] at this
    exact Nat.le_trans this (by omega)
  · intro x hx
    have h1 := (mem_dvN h).1 hx
    have h2 := Nat.le_of_dvd h h1
    exact ⟨Nat.pos_of_dvd_of_pos h1 h, h1, by omega⟩
theorem gcdn_any (a b : Nat) (w : World) (ha : (a : Int) ≤ 120) (hb : (b : Int) ≤ 120) : Calls Try.prog 83 #[.int .i64 (a : Int), .int .i64 (b : Int)] w fun e w' => e = .returned (.int .i64 (Nat.gcd a b : Nat)) ∧ ∃ n, w' = w.drewN n := by
  have := gcd_any (a : Int) (b : Int) w (by unfold Mid; omega) (by unfold Mid; omega)
  rwa [show Int.gcd (a : Int) (b : Int) = Nat.gcd a b from rfl] at this
def cuF (n : Nat) : List Nat → Nat → Nat
  | [], x => x
  | d :: D, x => cuF n D (x + phV (Nat.gcd d (n / d)))
def prF (n : Nat) : List Nat → Nat → Nat
  | [], x => x
  | d :: D, x => prF n D (x + phV d * phV (n / d))
theorem cuF_append (n : Nat) : ∀ l m x, cuF n (l ++ m) x = cuF n m (cuF n l x)
  | [], _, _ => rfl
  | p :: l, m, x => cuF_append n l m _
theorem prF_append (n : Nat) : ∀ l m x, prF n (l ++ m) x = prF n m (prF n l x)
  | [], _, _ => rfl
  | p :: l, m, x => prF_append n l m _
def cuV (n : Nat) : Nat := cuF n (dvN n) 0
def prV (n : Nat) : Nat := prF n (dvN n) 0
/-- The divisors of a level, as the code lists them. -/
theorem divs_any (n : Nat) (w : World) (hn : 1 ≤ n) (hn2 : (n : Int) ≤ 120) :
    Calls Try.prog 43 #[.int .i64 n] w fun e w' => ∃ (A : Option Addr) (c : Nat), e = .returned (.tuple #[.slice A (dvN n).length c, .int .i64 0]) ∧ (∀ k (hk : k < (dvN n).length), ∃ g, A = some ⟨g, 0, none⟩ ∧ g < w'.heap.size ∧ w'.cell? ⟨g, k, none⟩ = some (.int .i64 ((dvN n)[k] : Nat))) ∧ Below w.heap.size w w' :=
  (divisors_any n w hn (by omega)).mono fun e w' ⟨M, v, he, hd, _, ho, hb⟩ => by
    rw [sorted_dvN hd hn] at ho
    obtain ⟨A, c, rfl⟩ := own_len ho
    refine ⟨A, c, he, fun k hk => ?_, hb⟩
    obtain ⟨g, rfl, hg⟩ := own_some ho (by omega)
    have h2 := (ho.lt g rfl).2
    have hc0 := ho.cells (g := g) rfl _ _ (nats_get (dvN n) k hk)
    rw [addr_add] at hc0
    exact ⟨g, rfl, h2, hc0⟩
set_option maxHeartbeats 3200000 in
set_option maxRecDepth 1000000 in
theorem count0_any (n : Nat) (w : World) (n1 : 1 ≤ n) (n2 : (n : Int) ≤ 120) :
    Calls Try.prog 50 #[.int .i64 (n : Int)] w fun e w' => e = .returned (.tuple #[.int .i64 (cuV n : Nat), .int .i64 0]) ∧ Below w.heap.size w w' := by
  have HCk := Lib.hid (fun W => check0_any (n : Int) W)
  rw [lv_yes (by omega) n2] at HCk
  have HD := Lib.hid (fun W => divs_any n W n1 n2)
  have hDl := (dvN_bd n1 (by omega)).1
  have HMem := Lib.hid (dvN_bd n1 (by omega)).2
  have HP : Hid (cuF n ((dvN n).take (dvN n).length) 0 = cuV n) := by show _ = _; rw [List.take_length]; rfl
  have HPh := Lib.hid (fun (g : Nat) (h1 : 1 ≤ g) (h2 : (g : Int) ≤ 120) W => phi_any g W h1 h2)
  generalize dvN n = D at *
  go_enter Try.func50, Try.ntmps50
  go_wp2_with (first
    | (go_at_call 81; ((with_reducible refine (HCk.out _).mono ?_); rintro e w' ⟨rfl, rfl⟩))
    | (go_at_call 43; ((with_reducible refine (HD.out _).mono ?_); rintro e w2 ⟨la, lc, rfl, hr, hb⟩; have HR := Lib.hid hr; have HB2 := Lib.hid hb; clear hr hb))
    | fail)
  clear HCk HD
  go_loopw [7, 9, 10, 11, 24] (fun X _ _ _ I wr => ∃ k x : Nat, I = .int .i64 k ∧ X = .int .i64 x ∧ k ≤ D.length ∧ x ≤ 120 * k ∧ Hid (cuF n (D.take k) 0 = x) ∧ Hid (Below w2.heap.size w2 wr)) (fun _ _ _ _ I _ => D.length - (intOf I).toNat)
  case atStart => exact ⟨0, 0, rfl, rfl, Nat.zero_le _, Nat.le_refl _, rfl, Below.refl _ _⟩
  case round =>
    obtain ⟨k, x, rfl, rfl, hk, hx, HX, HW⟩ := hrel
    by_cases hkl : k < D.length
    · have hkli : (k : Int) < (D.length : Int) := by omega
      obtain ⟨g, rfl, hg, y1⟩ := HR.out k hkl
      obtain ⟨m1, m2, m3⟩ := HMem.out D[k] (List.getElem_mem _)
      have x1 : wr.cell? ⟨g, k, none⟩ = some (.int .i64 (D[k] : Nat)) := (HW.out.cell (p := ⟨g, k, none⟩) hg).trans y1
      have hgw : g < wr.heap.size := Nat.lt_of_lt_of_le hg HW.out.size
      have HN : Hid (cuF n (D.take (k + 1)) 0 = x + phV (Nat.gcd D[k] (n / D[k]))) := by
        show _ = _
        rw [List.take_add_one, List.getElem?_eq_getElem hkl, Option.toList_some, cuF_append, HX.out]; rfl
      clear y1 HX m2
      generalize D[k] = d at *
      have hd : (n : Int) / (d : Int) = ((n / d : Nat) : Int) := (Int.natCast_ediv _ _).symm
      have hq2 : n / d ≤ 120 := Nat.le_trans (Nat.div_le_self _ _) (by omega)
      have HG := Lib.hid (fun W => gcdn_any d (n / d) W (by omega) (by omega))
      have g1 : 1 ≤ Nat.gcd d (n / d) := Nat.gcd_pos_of_pos_left _ (by omega)
      have g2 : Nat.gcd d (n / d) ≤ 120 := Nat.le_trans (Nat.gcd_le_left _ (by omega)) m3
      have HF := Lib.hid (HPh.out (Nat.gcd d (n / d)) g1 (by omega))
      have hf := phV_le (Nat.gcd d (n / d))
      generalize phV (Nat.gcd d (n / d)) = f at *
      generalize Nat.gcd d (n / d) = u at *
      generalize n / d = q at *
      have hd1 : 1 ≤ (d : Int) := by omega
      have hd2 : (d : Int) ≤ 120 := by omega
      have hd0 : ((d : Int) == 0) = false := by rw [beq_eq_false_iff_ne]; omega
      have hxf : (x : Int) + (f : Int) ≤ 20000 := by omega
      go_wp2_with (first
        | (go_at_call 83; ((with_reducible refine (HG.out _).mono ?_); rintro e w3 ⟨rfl, n1', rfl⟩))
        | (go_at_call 82; ((with_reducible refine (HF.out _).mono ?_); rintro e w4 ⟨rfl, hb⟩; have HB4 := Lib.hid hb; clear hb))
        | fail)
      go_roundw
      case rel => exact ⟨k + 1, x + f, by go_num, by go_num, by omega, by omega, HN.out, (below_drewN HW.out _).trans (HB4.out.mono (by have := HW.out.size; simpa using this))⟩
      case measure => simp [intOf]; omega
    · obtain rfl : k = D.length := by omega
      have hk3 : ¬ (D.length : Int) < (D.length : Int) := by omega
      have HE : Hid ((x : Int) = (cuV n : Nat)) := by show _ = _; rw [← HP.out, HX.out]
      go_wp2
      refine bodyPost_ret (v := .tuple #[.int .i64 (x : Int), .int .i64 0]) ?_ rfl ⟨by rw [HE.out], HB2.out.trans (HW.out.mono HB2.out.size)⟩
      simp [results, Try.results50, go_sem, *]
end Go.Proofs.Ytaofkfphkkfbnaa
