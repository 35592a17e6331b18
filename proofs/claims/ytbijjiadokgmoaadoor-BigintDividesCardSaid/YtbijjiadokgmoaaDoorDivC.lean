/- Contracts of divideShifted, longDivision and divide, for quotients of fewer than 100 digits. Contracts of DivMod and Exact, whole. -/
import Derived.Test.YtbijjiadokgmoaaDoorDivA
import Derived.Test.YtbijjiadokgmoaaDoorDivE
import Derived.Test.YtbijjiadokgmoaaDoorBitsI
import Derived.Test.YtbijjiadokgmoaaDoorDivDig
import Derived.Test.YtbijjiadokgmoaaDoorRMul
import Derived.Test.YtbijjiadokgmoaaDoorDivModI
namespace Go.Proofs.YtbijjiadokgmoaaDoor
open Go.RowKit

theorem blen_spec : ∀ (f x : Nat), x < 2 ^ f → 0 < x → x < 2 ^ blen x ∧ 2 ^ blen x ≤ 2 * x := by
  intro f
  induction f with
  | zero => intro x hx h0; omega
  | succ f ih =>
    intro x hx h0
    rw [blen_pos h0, Nat.pow_add, Nat.pow_one]
    rcases Nat.eq_zero_or_pos (x / 2) with h | h
    · rw [h, blen_zero]; omega
    · obtain ⟨a, b⟩ := ih (x / 2) (by rw [Nat.pow_succ] at hx; omega) h
      generalize 2 ^ blen (x / 2) = P at *
      omega
/-- The shift that sets the highest bit. -/
theorem norm_shift {t s : Nat} (ht : 0 < t) (h : t < 4294967296) (hs : s = 32 - blen t) : s < 32 ∧ 2147483648 ≤ t * 2 ^ s ∧ (t + 1) * 2 ^ s ≤ 4294967296 := by
  obtain ⟨a, b⟩ := blen_spec 32 t h ht
  have hl := blen_le 32 t h
  have h0 : 0 < blen t := by rw [blen_pos ht]; omega
  have e : 2 ^ blen t * 2 ^ s = 4294967296 := by rw [← Nat.pow_add, hs, show blen t + (32 - blen t) = 32 by omega]
  refine ⟨by omega, ?_, ?_⟩
  · have : 2 ^ blen t * 2 ^ s ≤ 2 * t * 2 ^ s := Nat.mul_le_mul_right _ b
    rw [e, Nat.mul_assoc] at this
    omega
  · have : (t + 1) * 2 ^ s ≤ 2 ^ blen t * 2 ^ s := Nat.mul_le_mul_right _ a
    omega
/-- The digits of the shifted divisor. -/
theorem shifted_top {n s k : Nat} (hk : (digs n).length = k + 1) (ht : 2147483648 ≤ (digs n)[k] * 2 ^ s) (h1 : ((digs n)[k] + 1) * 2 ^ s ≤ 4294967296) :
    (digs (n * 2 ^ s)).length = k + 1 ∧ ∀ h : k < (digs (n * 2 ^ s)).length, 2147483648 ≤ (digs (n * 2 ^ s))[k] := by
  have e := val_split (digs n) k (by omega)
  rw [val_digs, val_drop (by omega), List.drop_eq_nil_of_le (by omega)] at e
  simp only [val, Nat.mul_zero, Nat.add_zero] at e
  have hlow := val_lt ((dgs_digs n).take k)
  rw [List.length_take, Nat.min_eq_left (by omega)] at hlow
  generalize (digs n)[k] = t at *
  generalize val ((digs n).take k) = l at *
  have hK : 0 < 4294967296 ^ k := Nat.pow_pos (by omega)
  have hup : n * 2 ^ s < 4294967296 ^ (k + 1) := by
    have a1 : n < 4294967296 ^ k * (t + 1) := by rw [e, Nat.mul_succ]; omega
    have a2 : n * 2 ^ s < 4294967296 ^ k * (t + 1) * 2 ^ s := Nat.mul_lt_mul_of_pos_right a1 (Nat.pow_pos (by omega))
    have a3 : 4294967296 ^ k * ((t + 1) * 2 ^ s) ≤ 4294967296 ^ k * 4294967296 := Nat.mul_le_mul_left _ h1
    rw [Nat.pow_succ]
    rw [Nat.mul_assoc] at a2
    exact Nat.lt_of_lt_of_le a2 a3
  have hlo : 4294967296 ^ k * 2147483648 ≤ n * 2 ^ s := by
    have a1 : 4294967296 ^ k * t ≤ n := by rw [e]; exact Nat.le_add_left _ _
    have a2 : 4294967296 ^ k * t * 2 ^ s ≤ n * 2 ^ s := Nat.mul_le_mul_right _ a1
    rw [Nat.mul_assoc] at a2
    exact Nat.le_trans (Nat.mul_le_mul_left _ ht) a2
  generalize n * 2 ^ s = m at *
  have hlen := digs_len hup
  have hlen2 : k < (digs m).length := by
    rcases Nat.lt_or_ge k (digs m).length with h | h
    · exact h
    · exfalso
      have a1 := lt_digs m
      have a2 : (4294967296 : Nat) ^ (digs m).length ≤ 4294967296 ^ k := Nat.pow_le_pow_right (by omega) h
      have a3 : 4294967296 ^ k * 1 ≤ 4294967296 ^ k * 2147483648 := Nat.mul_le_mul_left _ (by omega)
      omega
  refine ⟨by omega, fun h => ?_⟩
  have e2 := val_split (digs m) k (by omega)
  rw [val_digs, val_drop (by omega), List.drop_eq_nil_of_le (by omega)] at e2
  simp only [val, Nat.mul_zero, Nat.add_zero] at e2
  have hlow2 := val_lt ((dgs_digs m).take k)
  rw [List.length_take, Nat.min_eq_left (by omega)] at hlow2
  rcases Nat.lt_or_ge (digs m)[k] 2147483648 with h3 | h3
  · exfalso
    have a1 : 4294967296 ^ k * ((digs m)[k] + 1) ≤ 4294967296 ^ k * 2147483648 := Nat.mul_le_mul_left _ h3
    rw [Nat.mul_succ] at a1
    omega
  · exact h3

/-- What divideShifted leaves: the rest may be the dividend itself. -/
def DivRet2 (w : World) (q r : Nat) (e : Ending) (w' : World) : Prop :=
  ∃ (A A2 : Option Addr) (c c2 : Nat), e = .returned (.tuple #[.slice A (digs q).length c, .slice A2 (digs r).length c2]) ∧ Rd w' w'.heap.size A c (digs q) ∧ Rd w' w'.heap.size A2 c2 (digs r) ∧ (∀ a, A = some a → w.heap.size ≤ a.block) ∧ Below w.heap.size w w'

set_option maxHeartbeats 1600000 in
set_option maxRecDepth 1000000 in
theorem divShifted_any {B m n k c1 c2 : Nat} {A1 A2 : Option Addr} (w : World) (h1 : Rd w B A1 c1 (digs m)) (h2 : Rd w B A2 c2 (digs n)) (hB : B ≤ w.heap.size) (hm : (digs m).length ≤ 400000) (hn : (digs n).length ≤ 400000) (hk : (digs n).length = k + 2) (ht : ∀ h : k + 1 < (digs n).length, 2147483648 ≤ (digs n)[k + 1]) (hq : (digs m).length < (digs n).length + 100) :
    Calls Tryd.prog 114 #[.slice A1 (digs m).length c1, .slice A2 (digs n).length c2] w (DivRet2 w (m / n) (m % n)) := by
  have HC := Lib.hid (compare_any w h1 h2 (by omega))
  have hmi : ((digs m).length : Int) ≤ 400000 := by omega
  have hni : ((digs n).length : Int) ≤ 400000 := by omega
  rcases Nat.lt_or_ge m n with hlt | hge
  · have HR : Hid (∀ q, DivRet2 w (m / n) (m % n) (.returned (.tuple #[.slice none 0 0, .slice A1 (digs m).length c1])) (w.drewN q)) := fun q => by
      rw [Nat.div_eq_of_lt hlt, Nat.mod_eq_of_lt hlt]
      exact ⟨none, A1, 0, c1, by rw [digs_zero]; rfl, by rw [digs_zero]; exact Rd.nil _ _, (h1.drewN q).mono hB, fun a ha => (by cases ha), below_drewN (Below.refl _ _) q⟩
    have HC2 : Hid (Calls Tryd.prog 69 #[.slice A1 (digs m).length c1, .slice A2 (digs n).length c2] w fun e w' => e = .returned (.int .i64 (-1)) ∧ ∃ q, w' = w.drewN q) := HC.out.mono fun e w' ⟨he, hq⟩ => ⟨by rw [he, cmpV_lt hlt], hq⟩
    clear h1 h2 HC hk ht hlt
    generalize (digs m).length = la at *
    generalize (digs n).length = lb at *
    go_enter Tryd.func114, Tryd.ntmps114
    go_wp2_with (go_at_call 69; fail)
    refine HC2.out.mono ?_
    rintro e w' ⟨rfl, q, rfl⟩
    go_wp2
    go_ret2
    exact HR.out q
  · have hlen := digs_len_mono hge
    have HD : Hid (∀ q, Calls Tryd.prog 124 #[.slice A1 (digs m).length c1, .slice A2 (digs n).length c2] (w.drewN q) (DivRet2 w (m / n) (m % n))) := fun q => by
      have := divDigs_any (w.drewN q) (h1.drewN q) (h2.drewN q) hB hm hk hlen ht
      rw [val_digs, val_digs] at this
      exact this.mono fun e w' ⟨A, A2, c, c2, a1, a2, a3, a4, a5, a6⟩ => ⟨A, A2, c, c2, a1, a2, a3, a4, ⟨a6.os, a6.tape, a6.output, a6.size, a6.block⟩⟩
    have HC2 : Hid (Calls Tryd.prog 69 #[.slice A1 (digs m).length c1, .slice A2 (digs n).length c2] w fun e w' => ∃ kk : Int, e = .returned (.int .i64 kk) ∧ 0 ≤ kk ∧ ∃ q, w' = w.drewN q) := HC.out.mono fun e w' ⟨he, hq⟩ => ⟨cmpV m n, he, by unfold cmpV; split <;> (try split) <;> omega, hq⟩
    have hqi : ((digs m).length : Int) - ((digs n).length : Int) < 100 := by omega
    clear h1 h2 HC hk ht hge
    generalize (digs m).length = la at *
    generalize (digs n).length = lb at *
    go_enter Tryd.func114, Tryd.ntmps114
    go_wp2_with (go_at_call 69; fail)
    refine HC2.out.mono ?_
    rintro e w' ⟨kk, rfl, hkk, q, rfl⟩
    have hk2 : decide (kk < 0) = false := decide_eq_false (by omega)
    clear hkk
    go_wp2_with (go_at_call 124; fail)
    refine (HD.out q).mono ?_
    rintro e w2 hr
    have HR := Lib.hid hr
    obtain ⟨A, A2', c, c2', rfl, _⟩ := hr
    go_wp2
    go_ret2
    exact HR.out

set_option maxHeartbeats 1600000 in
set_option maxRecDepth 1000000 in
theorem longDiv_any {B m n k c1 c2 : Nat} {A1 A2 : Option Addr} (w : World) (h1 : Rd w B A1 c1 (digs m)) (h2 : Rd w B A2 c2 (digs n)) (hB : B ≤ w.heap.size) (hm : (digs m).length ≤ 300000) (hn : (digs n).length ≤ 300000) (hk : (digs n).length = k + 2) (hq : (digs m).length + 1 < (digs n).length + 100) :
    Calls Tryd.prog 93 #[.slice A1 (digs m).length c1, .slice A2 (digs n).length c2] w (DivRet w (m / n) (m % n)) := by
  have hkl : k + 1 < (digs n).length := by omega
  obtain ⟨b, o, rfl, _, hc⟩ := h2.at_ hkl
  have hd := (dgs_digs n).get hkl
  have ht0 : 0 < (digs n)[k + 1] := by
    have hne : digs n ≠ [] := fun e => by rw [e] at hkl; simp at hkl
    have := digs_last hne
    rw [List.getLast_eq_getElem] at this
    refine Nat.pos_of_ne_zero fun e => this ?_
    rw [← e]; congr 1; omega
  obtain ⟨s, hs⟩ : ∃ s, s = 32 - blen (digs n)[k + 1] := ⟨_, rfl⟩
  obtain ⟨n1, n2, n3⟩ := norm_shift ht0 hd hs
  obtain ⟨g1, g2⟩ := shifted_top (s := s) hk n2 n3
  have hbl := blen_le 32 _ hd
  have HLZ : Hid (∀ W : World, Calls Tryd.prog 113 #[.int .u32 ((digs n)[k + 1] : Int)] W fun e w' => e = .returned (.int .i64 (s : Int)) ∧ W = w') := fun W => (Tryd.bits_LeadingZeros32 ((digs n)[k + 1] : Int) W (Int.natCast_nonneg _) (by omega)).mono fun e w' ⟨he, hw⟩ => ⟨by rw [he, Int.toNat_natCast, bitLen_eq hd, hs]; congr 2; omega, hw.symm⟩
  have hp2 : 0 < 2 ^ s := Nat.pow_pos (by omega)
  have e1 : m * 2 ^ s / (n * 2 ^ s) = m / n := Nat.mul_div_mul_right _ _ hp2
  have e2 : m * 2 ^ s % (n * 2 ^ s) = m % n * 2 ^ s := Nat.mul_mod_mul_right _ _ _
  have e3 : m % n * 2 ^ s / 2 ^ s = m % n := Nat.mul_div_cancel _ hp2
  have hms : (digs (m * 2 ^ s)).length ≤ (digs m).length + 1 := by
    refine digs_len ?_
    have a1 := lt_digs m
    have a2 : 2 ^ s ≤ 4294967296 := Nat.pow_le_pow_right (n := 2) (by omega) (show s ≤ 32 by omega)
    rw [Nat.pow_succ]
    exact Nat.lt_of_lt_of_le (Nat.mul_lt_mul_of_pos_right a1 hp2) (Nat.mul_le_mul_left _ a2)
  have HSX : Hid (Calls Tryd.prog 103 #[.slice A1 (digs m).length c1, .int .i64 s] w (MagRet w (m * 2 ^ s))) := by
    have := shl_any (wh := 0) (pt := s) w h1 hB (by omega) (by omega) n1 (show s = 32 * 0 + s by omega)
    rwa [val_digs] at this
  have HSY : Hid (∀ W : World, Gr w W → Calls Tryd.prog 103 #[.slice (some ⟨b, o, none⟩) (digs n).length c2, .int .i64 s] W (MagRet W (n * 2 ^ s))) := fun W hg => by
    have := shl_any (wh := 0) (pt := s) W (h2.below (Below.mono hg hB)) (Nat.le_trans hB hg.size) (by omega) (by omega) n1 (show s = 32 * 0 + s by omega)
    rwa [val_digs] at this
  have HDS : Hid (∀ (W : World) (A A' : Option Addr) (c c' : Nat), Rd W W.heap.size A c (digs (m * 2 ^ s)) → Rd W W.heap.size A' c' (digs (n * 2 ^ s)) → Calls Tryd.prog 114 #[.slice A (digs (m * 2 ^ s)).length c, .slice A' (digs (n * 2 ^ s)).length c'] W (DivRet2 W (m / n) (m % n * 2 ^ s))) := fun W A A' c c' r1 r2 => by
    have := divShifted_any W r1 r2 (Nat.le_refl _) (by omega) (by omega) g1 g2 (by omega)
    rwa [e1, e2] at this
  have hrl : (digs (m % n * 2 ^ s)).length ≤ (digs m).length + 1 := by
    rw [← e2]; exact Nat.le_trans (digs_len_mono (Nat.mod_le _ _)) hms
  have HSR : Hid (∀ (W : World) (A : Option Addr) (c : Nat), Rd W W.heap.size A c (digs (m % n * 2 ^ s)) → Calls Tryd.prog 102 #[.slice A (digs (m % n * 2 ^ s)).length c, .int .i64 s] W (MagRet W (m % n))) := fun W A c r => by
    have := shr_any W r (by omega) (show s ≤ 12800000 by omega)
    rwa [val_digs, e3] at this
  have hln := Lib.hid hk
  have hlk : k + 1 ≤ (digs n).length := by omega
  have hl2 : (digs n).length ≤ k + 2 := by omega
  have hk1i : ((digs n).length : Int) - 1 = ((k + 1 : Nat) : Int) := by omega
  clear h1 h2 hk g1 g2 n2 n3 e1 e2 e3 hms hrl hs hbl hp2 ht0
  generalize (digs n)[k + 1] = t at *
  generalize m % n * 2 ^ s = R at *
  generalize m * 2 ^ s = M at *
  generalize n * 2 ^ s = N at *
  generalize m / n = Q at *
  generalize m % n = r at *
  generalize (digs m).length = la at *
  generalize (digs n).length = lb at *
  go_enter Tryd.func93, Tryd.ntmps93
  go_wp2_with (first
    | (go_at_call 113; ((with_reducible refine (HLZ.out _).mono ?_); rintro e w' ⟨rfl, rfl⟩))
    | (go_at_call 103; fail))
  refine HSX.out.mono ?_
  rintro e w1 ⟨A, c, rfl, r1, f1, b1⟩
  have R1 := Lib.hid r1
  have G1 : Hid (Gr w w1) := b1
  clear r1 f1 b1 HSX hc
  go_wp2_with (go_at_call 103; fail)
  refine (HSY.out _ G1.out).mono ?_
  rintro e w2 ⟨A', c', rfl, r2, f2, b2⟩
  have R1b := Lib.hid ((R1.out.below b2).mono b2.size)
  have R2 := Lib.hid r2
  have G2 : Hid (Gr w w2) := G1.out.call b2
  clear r2 f2 b2 HSY R1
  go_wp2_with (go_at_call 114; fail)
  refine (HDS.out _ _ _ _ _ R1b.out R2.out).mono ?_
  rintro e w3 ⟨A3, A4, c3, c4, rfl, q1, q2, q3, b3⟩
  have Q1 := Lib.hid q1
  have Q2 := Lib.hid q2
  have Q3 : Hid (∀ a, A3 = some a → w.heap.size ≤ a.block) := fun a ha => Nat.le_trans G2.out.size (q3 a ha)
  have G3 : Hid (Gr w w3) := G2.out.call b3
  clear q1 q2 q3 b3 HDS R1b R2
  go_wp2_with (go_at_call 102; fail)
  refine (HSR.out _ _ _ Q2.out).mono ?_
  rintro e w4 ⟨A5, c5, rfl, r5, f5, b5⟩
  have Q1b := Lib.hid ((Q1.out.below b5).mono b5.size)
  have R5 := Lib.hid r5
  have F5 : Hid (∀ a, A5 = some a → w.heap.size ≤ a.block) := fun a ha => Nat.le_trans G3.out.size (f5 a ha)
  have G4 : Hid (Gr w w4) := G3.out.call b5
  clear r5 f5 b5 HSR Q1 Q2
  go_wp2
  go_ret2
  exact ⟨A3, A5, c3, c5, rfl, Q1b.out, R5.out, Q3.out, F5.out, G4.out⟩

set_option maxHeartbeats 1600000 in
set_option maxRecDepth 1000000 in
theorem divide_dig {B m n c1 c2 : Nat} {A1 A2 : Option Addr} (w : World) (h1 : Rd w B A1 c1 (digs m)) (h2 : Rd w B A2 c2 (digs n)) (hB : B ≤ w.heap.size) (hm : (digs m).length ≤ 300000) (hm2 : 2 < (digs m).length) (hn : (digs n).length = 1) (hle : n ≤ m) :
    Calls Tryd.prog 70 #[.slice A1 (digs m).length c1, .slice A2 (digs n).length c2] w (DivRet w (m / n) (m % n)) := by
  have HC : Hid (Calls Tryd.prog 69 #[.slice A1 (digs m).length c1, .slice A2 (digs n).length c2] w fun e w' => ∃ k : Int, e = .returned (.int .i64 k) ∧ 0 ≤ k ∧ ∃ q, w' = w.drewN q) := (compare_any w h1 h2 (by omega)).mono fun e w' ⟨he, hq⟩ => ⟨cmpV m n, he, by unfold cmpV; split <;> (try split) <;> omega, hq⟩
  have hn0 : 0 < n := Nat.pos_of_ne_zero fun e => by rw [e, digs_zero] at hn; simp at hn
  have hnl : n < 4294967296 := by
    have := lt_digs n
    rw [hn] at this
    simpa using this
  have hd1 := digs_one hn0 hnl
  rw [hd1] at h2 HC
  obtain ⟨b, o, rfl, hbB, hcell⟩ := h2.at_ (k := 0) (by simp)
  rw [List.getElem_cons_zero, Nat.add_zero] at hcell
  have HCL := Lib.hid (fun q => clone_any (w.drewN q) (h1.drewN q) (by omega))
  have hrl : m % n < 4294967296 := Nat.lt_trans (Nat.mod_lt _ hn0) hnl
  have HF := Lib.hid (fun W => fromWord_any (x := m % n) W (by omega))
  have hqd : digs (m / n) = digs (m / n) := rfl
  have HDD : Hid (∀ (W : World) (g c : Nat), Own W g 0 (digs m) → Calls Tryd.prog 92 #[.slice (some ⟨g, 0, none⟩) (digs m).length c, .int .u32 n] W (fun e w' => ∃ zi : List Nat, e = .returned (.int .u32 ((m % n : Nat) : Int)) ∧ zi.length = (digs m).length ∧ val zi = m / n ∧ Own w' g 0 zi ∧ Wrote W w' g 0 (0 + (digs m).length))) := fun W g c ho => by
    have := divDig_any (c1 := c) W ho (by omega) hn0 hnl
    unfold DigRet at this
    rw [val_digs] at this
    exact this
  have hm2i : (2 : Int) < ((digs m).length : Int) := by omega
  have hbi : ((digs m).length : Int) ≤ 300000 := by omega
  have HML : Hid (∀ zi : List Nat, zi.length = (digs m).length → zi.length ≤ 300000) := fun zi h => by omega
  rw [hd1]
  simp only [List.length_cons, List.length_nil, Nat.zero_add] at *
  clear h1 h2 hn hd1 hle
  generalize m % n = r at *
  generalize m / n = Q at *
  generalize digs m = X at *
  go_enter Tryd.func70, Tryd.ntmps70
  go_wp2_with (go_at_call 69; fail)
  refine HC.out.mono ?_
  rintro e w' ⟨k, rfl, hk, q, rfl⟩
  have hk2 : decide (k < 0) = false := decide_eq_false (by omega)
  have hcq : (w.drewN q).cell? ⟨b, o, none⟩ = some (.int .u32 (n : Int)) := hcell
  clear hk
  go_wp2_with (go_at_call 61; fail)
  refine (HCL.out q).mono ?_
  rintro e w1 ⟨A, c, rfl, hnew, hb1⟩
  obtain ⟨⟨_, _, he⟩ | ⟨g, rfl, hg, hown⟩, hlc', hcm⟩ := hnew
  · exact absurd hm2 (by rw [he]; simp)
  have hg0 : w.heap.size ≤ g := hg
  have G1 : Hid (Gr w w1) := ⟨hb1.os, hb1.tape, hb1.output, hb1.size, hb1.block⟩
  have hc1 : w1.cell? ⟨b, o, none⟩ = some (.int .u32 (n : Int)) := (Below.cell G1.out (p := ⟨b, o, none⟩) (Nat.lt_of_lt_of_le hbB hB)).trans hcell
  have HO1 := Lib.hid hown
  have HLC : Hid (X.length ≤ c) := hlc'
  have HCM := Lib.hid hcm
  clear hown hb1 hlc' hcm hg hcq
  go_wp2_with (go_at_call 92; fail)
  refine (HDD.out _ _ _ HO1.out).mono ?_
  rintro e w2 ⟨zi, rfl, hzl, hzv, hown, hwr⟩
  have G2 : Hid (Gr w w2) := Wrote.gr G1.out hwr hg0
  have hlcc := HLC.out
  have hzl3 := HML.out zi hzl
  have HRD : Hid (Rd w2 w2.heap.size (some ⟨g, 0, none⟩) c zi) := hown.rd (by omega) HCM.out hown.lt
  have HT : Hid (Calls Tryd.prog 55 #[.slice (some ⟨g, 0, none⟩) X.length c] w2 fun e w' => e = .returned (.slice (some ⟨g, 0, none⟩) (digs Q).length c) ∧ w2 = w') := by
    have := trim_any w2 HRD.out (by omega)
    rwa [hzv, hzl] at this
  have HRES : Hid (Rd w2 w2.heap.size (some ⟨g, 0, none⟩) c (digs Q)) := by
    have h6 := digs_take hown.dgs
    rw [hzv] at h6
    rw [h6]; exact HRD.out.take _
  clear hzl hzv hown hwr HDD
  go_wp2_with (first
    | (go_at_call 55; ((with_reducible refine HT.out.mono ?_); rintro e w' ⟨rfl, rfl⟩))
    | (go_at_call 58; fail))
  refine (HF.out _).mono ?_
  rintro e w3 ⟨A2', c2', rfl, r5, f5, b5⟩
  have R1 := Lib.hid ((HRES.out.below b5).mono b5.size)
  have R2 := Lib.hid r5
  have F2 : Hid (∀ a, A2' = some a → w.heap.size ≤ a.block) := fun a ha => Nat.le_trans G2.out.size (f5 a ha)
  have G3 : Hid (Gr w w3) := G2.out.call b5
  clear r5 f5 b5
  go_wp2
  go_ret2
  exact ⟨_, A2', _, c2', rfl, R1.out, R2.out, fun a ha => by injection ha with ha; rw [← ha]; exact hg0, F2.out, G3.out⟩

set_option maxHeartbeats 1600000 in
set_option maxRecDepth 1000000 in
theorem divide_long {B m n k c1 c2 : Nat} {A1 A2 : Option Addr} (w : World) (h1 : Rd w B A1 c1 (digs m)) (h2 : Rd w B A2 c2 (digs n)) (hB : B ≤ w.heap.size) (hm : (digs m).length ≤ 300000) (hm2 : 2 < (digs m).length) (hn : (digs n).length = k + 2) (hle : n ≤ m) (hq : (digs m).length + 1 < (digs n).length + 100) :
    Calls Tryd.prog 70 #[.slice A1 (digs m).length c1, .slice A2 (digs n).length c2] w (DivRet w (m / n) (m % n)) := by
  have hnm := digs_len_mono hle
  have HC : Hid (Calls Tryd.prog 69 #[.slice A1 (digs m).length c1, .slice A2 (digs n).length c2] w fun e w' => ∃ k : Int, e = .returned (.int .i64 k) ∧ 0 ≤ k ∧ ∃ q, w' = w.drewN q) := (compare_any w h1 h2 (by omega)).mono fun e w' ⟨he, hq⟩ => ⟨cmpV m n, he, by unfold cmpV; split <;> (try split) <;> omega, hq⟩
  have HL : Hid (∀ q, Calls Tryd.prog 93 #[.slice A1 (digs m).length c1, .slice A2 (digs n).length c2] (w.drewN q) (DivRet w (m / n) (m % n))) := fun q => by
    have := longDiv_any (w.drewN q) (h1.drewN q) (h2.drewN q) hB hm (by omega) hn hq
    exact this.mono fun e w' ⟨A, A2, c, c2, a1, a2, a3, a4, a5, a6⟩ => ⟨A, A2, c, c2, a1, a2, a3, a4, a5, ⟨a6.os, a6.tape, a6.output, a6.size, a6.block⟩⟩
  have hm2i : (2 : Int) < ((digs m).length : Int) := by omega
  have hn1 : (((digs n).length : Int) == 1) = false := by rw [beq_eq_false_iff_ne]; omega
  clear h1 h2 hn hle hnm
  generalize (digs m).length = la at *
  generalize (digs n).length = lb at *
  go_enter Tryd.func70, Tryd.ntmps70
  go_wp2_with (go_at_call 69; fail)
  refine HC.out.mono ?_
  rintro e w' ⟨kk, rfl, hk, q, rfl⟩
  have hk2 : decide (kk < 0) = false := decide_eq_false (by omega)
  clear hk
  go_wp2_with (go_at_call 93; fail)
  refine (HL.out q).mono ?_
  rintro e w2 hr
  have HR := Lib.hid hr
  obtain ⟨A, A2', c, c2', rfl, _⟩ := hr
  go_wp2
  go_ret2
  exact HR.out

/-- divide, for quotients of fewer than 98 digits. -/
theorem divide_any {B m n c1 c2 : Nat} {A1 A2 : Option Addr} (w : World) (h1 : Rd w B A1 c1 (digs m)) (h2 : Rd w B A2 c2 (digs n)) (hB : B ≤ w.heap.size) (hm : (digs m).length ≤ 300000) (hn : 0 < n) (hq : (digs m).length + 1 < (digs n).length + 100) :
    Calls Tryd.prog 70 #[.slice A1 (digs m).length c1, .slice A2 (digs n).length c2] w (DivRet w (m / n) (m % n)) := by
  rcases Nat.lt_or_ge 2 (digs m).length with h3 | h3
  · rcases Nat.lt_or_ge m n with h4 | h4
    · exact divide_lt w h1 h2 (by omega) h4
    · have h5 := digs_pos_len hn
      rcases Nat.lt_or_ge 1 (digs n).length with h6 | h6
      · exact divide_long (k := (digs n).length - 2) w h1 h2 hB hm h3 (by omega) h4 hq
      · exact divide_dig w h1 h2 hB hm h3 (by omega) h4
  · exact divide_small w h1 h2 h3 hn
end Go.Proofs.YtbijjiadokgmoaaDoor
namespace Go.Proofs.YtbijjiadokgmoaaDoor
open Go.RowKit

set_option maxHeartbeats 1600000 in
set_option maxRecDepth 1000000 in
theorem divmod_none {B c1 c2 la : Nat} {A1 A2 : Option Addr} {ys : List Nat} (n1 n2 : Bool) (w : World) (h2 : Rd w B A2 c2 ys) (hB : B ≤ w.heap.size) (hy : ys.length ≤ 1000000) (hv : val ys = 0) :
    Calls Tryd.prog 38 #[.agg #[.bool n1, .slice A1 la c1], .agg #[.bool n2, .slice A2 ys.length c2]] w fun e w' => e = .returned (.tuple #[.agg #[.bool false, .slice none 0 0], .agg #[.bool false, .slice none 0 0], .int .i64 5]) ∧ Below w.heap.size w w' := by
  have HT2 : Hid (∀ W : World, Gr w W → Calls Tryd.prog 55 #[.slice A2 ys.length c2] W fun e w' => e = .returned (.slice A2 0 c2) ∧ W = w') := fun W hg => by
    have := trim_any W (h2.below (Below.mono hg hB)) hy
    rwa [hv, digs_zero] at this
  clear h2 hv
  generalize ys.length = lb at *
  have HS0 := (rst_boxes w (.bool n1) (.slice A1 la c1) (.bool n2) (.slice A2 lb c2) (.bool false) (.slice none 0 0))
  have HS : Hid (RSt w ((((w.alloc (.cells #[.bool n1, .slice A1 la c1] 24)).alloc (.cells #[.bool n2, .slice A2 lb c2] 24)).alloc (.cells #[.bool false, .slice none 0 0] 24)).alloc (.cells #[.bool false, .slice none 0 0] 24)) (.bool n1) (.slice A1 la c1) (.bool n2) (.slice A2 lb c2) (.bool false) (.slice none 0 0)) := HS0.next ((Gr.refl _).alloc _)
  have HT4 : Hid (TwoAt ((((w.alloc (.cells #[.bool n1, .slice A1 la c1] 24)).alloc (.cells #[.bool n2, .slice A2 lb c2] 24)).alloc (.cells #[.bool false, .slice none 0 0] 24)).alloc (.cells #[.bool false, .slice none 0 0] 24)) (w.heap.size + 3) (.bool false) (.slice none 0 0)) := by
    have := TwoAt.new (((w.alloc (.cells #[.bool n1, .slice A1 la c1] 24)).alloc (.cells #[.bool n2, .slice A2 lb c2] 24)).alloc (.cells #[.bool false, .slice none 0 0] 24)) (.bool false) (.slice none 0 0)
    rwa [show (((w.alloc (.cells #[.bool n1, .slice A1 la c1] 24)).alloc (.cells #[.bool n2, .slice A2 lb c2] 24)).alloc (.cells #[.bool false, .slice none 0 0] 24)).heap.size = w.heap.size + 3 by simp] at this
  clear HS0
  obtain ⟨x1, x2, x3, x4, x5, x6⟩ := HS.out.cells
  go_enter Tryd.func38, Tryd.ntmps38
  go_wp2_with (go_at_call 55; fail)
  refine (HT2.out _ HS.out.gr).mono ?_
  rintro e w1 ⟨rfl, hw1⟩
  have S1 : Hid (RSt w w1 (.bool n1) (.slice A1 la c1) (.bool n2) (.slice A2 lb c2) (.bool false) (.slice none 0 0)) := by rw [← hw1]; exact HS.out
  have T1 : Hid (TwoAt w1 (w.heap.size + 3) (.bool false) (.slice none 0 0)) := by rw [← hw1]; exact HT4.out
  clear hw1 x1 x2 x3 x4 x5 x6 HS HT4
  obtain ⟨a1, a2, a3, a4⟩ := S1.out.three.reads
  obtain ⟨b1, b2, b3, b4⟩ := T1.out.reads
  go_wp2
  refine bodyPost_ret (v := .tuple #[.agg #[.bool false, .slice none 0 0], .agg #[.bool false, .slice none 0 0], .int .i64 5]) ?_ rfl ⟨rfl, ?_⟩
  · simp [results, Tryd.results38, go_sem, a1, a2, b1, b2]
  · exact (S1.out.gr.set2 (by omega) _ _).set2 (by omega) _ _

theorem divmod_full {B c1 c2 : Nat} {A1 A2 : Option Addr} {xs ys : List Nat} (n1 n2 : Bool) (w : World) (h1 : Rd w B A1 c1 xs) (h2 : Rd w B A2 c2 ys) (hB : B ≤ w.heap.size) (hx : xs.length ≤ 90) (hy : ys.length ≤ 90) (hy0 : 0 < val ys) :
    Calls Tryd.prog 38 #[.agg #[.bool n1, .slice A1 xs.length c1], .agg #[.bool n2, .slice A2 ys.length c2]] w (DMRet w (sgn n1 (val xs) / sgn n2 (val ys)) (sgn n1 (val xs) % sgn n2 (val ys))) := by
  have hdx := digs_le_len h1.dgs
  have hpl := digs_pos_len hy0
  exact divmod_any n1 n2 w h1 h2 hB (by omega) (by omega) hy0 fun W hb => divide_any W (h1.digs.below (hb.mono hB)) (h2.digs.below (hb.mono hB)) (Nat.le_trans hB hb.size) (by omega) hy0 (by omega)

set_option maxHeartbeats 1600000 in
set_option maxRecDepth 1000000 in
theorem exact_none {B c1 c2 la : Nat} {A1 A2 : Option Addr} {ys : List Nat} (n1 n2 : Bool) (w : World) (h2 : Rd w B A2 c2 ys) (hB : B ≤ w.heap.size) (hy : ys.length ≤ 1000000) (hv : val ys = 0) :
    Calls Tryd.prog 39 #[.agg #[.bool n1, .slice A1 la c1], .agg #[.bool n2, .slice A2 ys.length c2]] w fun e w' => e = .returned (.tuple #[.agg #[.bool false, .slice none 0 0], .int .i64 5]) ∧ Below w.heap.size w w' := by
  have HT2 : Hid (∀ W : World, Gr w W → Calls Tryd.prog 55 #[.slice A2 ys.length c2] W fun e w' => e = .returned (.slice A2 0 c2) ∧ W = w') := fun W hg => by
    have := trim_any W (h2.below (Below.mono hg hB)) hy
    rwa [hv, digs_zero] at this
  clear h2 hv
  generalize ys.length = lb at *
  have HS := Lib.hid (rst_boxes w (.bool n1) (.slice A1 la c1) (.bool n2) (.slice A2 lb c2) (.bool false) (.slice none 0 0))
  obtain ⟨x1, x2, x3, x4, x5, x6⟩ := HS.out.cells
  go_enter Tryd.func39, Tryd.ntmps39
  go_wp2_with (go_at_call 55; fail)
  refine (HT2.out _ HS.out.gr).mono ?_
  rintro e w1 ⟨rfl, hw1⟩
  have S1 : Hid (RSt w w1 (.bool n1) (.slice A1 la c1) (.bool n2) (.slice A2 lb c2) (.bool false) (.slice none 0 0)) := by rw [← hw1]; exact HS.out
  clear hw1 x1 x2 x3 x4 x5 x6 HS
  obtain ⟨a1, a2, a3, a4⟩ := S1.out.three.reads
  go_wp2
  refine bodyPost_ret (v := .tuple #[.agg #[.bool false, .slice none 0 0], .int .i64 5]) ?_ rfl ⟨rfl, ?_⟩
  · simp [results, Tryd.results39, go_sem, a1, a2]
  · exact S1.out.gr.set2 (by omega) _ _

set_option maxHeartbeats 1600000 in
set_option maxRecDepth 1000000 in
theorem exact_some {B c1 c2 : Nat} {A1 A2 : Option Addr} {xs ys : List Nat} (n1 n2 : Bool) (w : World) (h1 : Rd w B A1 c1 xs) (h2 : Rd w B A2 c2 ys) (hB : B ≤ w.heap.size) (hx : xs.length ≤ 90) (hy : ys.length ≤ 90) (hy0 : 0 < val ys) :
    Calls Tryd.prog 39 #[.agg #[.bool n1, .slice A1 xs.length c1], .agg #[.bool n2, .slice A2 ys.length c2]] w fun e w' => Below w.heap.size w w' ∧ ((val xs % val ys ≠ 0 ∧ e = .returned (.tuple #[.agg #[.bool false, .slice none 0 0], .int .i64 6])) ∨ (val xs % val ys = 0 ∧ ∃ v, e = .returned (.tuple #[v, .int .i64 0]) ∧ IntIn w w' v (sgn n1 (val xs) / sgn n2 (val ys)))) := by
  have hdx := digs_le_len h1.dgs
  have hpl := digs_pos_len hy0
  have HT1 := Lib.hid (fun (W : World) (hg : Gr w W) => trim_any W (h1.below (Below.mono hg hB)) (by omega))
  have HT2 := Lib.hid (fun (W : World) (hg : Gr w W) => trim_any W (h2.below (Below.mono hg hB)) (by omega))
  have HD := Lib.hid (fun (W : World) (hg : Gr w W) => divide_any W (h1.digs.below (Below.mono hg hB)) (h2.digs.below (Below.mono hg hB)) (Nat.le_trans hB hg.size) (by omega) hy0 (by omega))
  have HZ : Hid (val xs % val ys = 0 → sgn (!(n1 == n2)) (val xs / val ys) = sgn n1 (val xs) / sgn n2 (val ys)) := fun h => (sgn_div hy0 (.inr h)).1.symm
  have hb0 : (((digs (val ys)).length : Int) == 0) = false := by rw [beq_eq_false_iff_ne]; omega
  clear h1 h2 hdx hpl
  have HY0 := Lib.hid hy0
  clear hy0
  generalize sgn n1 (val xs) / sgn n2 (val ys) = z at *
  generalize val xs / val ys = Q at *
  generalize val xs % val ys = R at *
  generalize xs.length = la at *
  generalize ys.length = lb at *
  have HS := Lib.hid (rst_boxes w (.bool n1) (.slice A1 la c1) (.bool n2) (.slice A2 lb c2) (.bool false) (.slice none 0 0))
  obtain ⟨x1, x2, x3, x4, x5, x6⟩ := HS.out.cells
  go_enter Tryd.func39, Tryd.ntmps39
  go_wp2_with (first
    | (go_at_call 55; ((with_reducible refine (HT2.out _ HS.out.gr).mono ?_); rintro e w' ⟨rfl, rfl⟩))
    | (go_at_call 55; ((with_reducible refine (HT1.out _ HS.out.gr).mono ?_); rintro e w' ⟨rfl, rfl⟩))
    | (go_at_call 70; fail))
  refine (HD.out _ HS.out.gr).mono ?_
  rintro e w1 ⟨A, A', c, c', rfl, rq, rr, fq, fr, b1⟩
  have S1 := Lib.hid (HS.out.next b1)
  have HQ := Lib.hid rq
  have HFQ : Hid (∀ a, A = some a → (((w.alloc (.cells #[.bool n1, .slice A1 la c1] 24)).alloc (.cells #[.bool n2, .slice A2 lb c2] 24)).alloc (.cells #[.bool false, .slice none 0 0] 24)).heap.size ≤ a.block) := fq
  clear rq rr fq fr b1 x1 x2 x3 x4 x5 x6
  obtain ⟨x1, x2, x3, x4, x5, x6⟩ := S1.out.cells
  obtain ⟨a1, a2, a3, a4⟩ := S1.out.three.reads
  rcases Nat.eq_zero_or_pos R with hR | hR
  · have hd : decide (0 < (digs R).length) = false := by rw [hR, digs_zero]; rfl
    have hd1 : decide ((0 : Int) < ((digs R).length : Int)) = false := by rw [hR, digs_zero]; rfl
    have HSG := Lib.hid (signed_any (!(n1 == n2)) _ w1 HQ.out HFQ.out)
    rw [HZ.out hR] at HSG
    have HR := Lib.hid hR
    clear hR a1 a2 a3 a4
    go_wp2_with (go_at_call 57; fail)
    refine HSG.out.mono ?_
    rintro e w2 ⟨v, rfl, hi, hb2⟩
    have S2 := Lib.hid (S1.out.next hb2)
    have HI := Lib.hid hi
    obtain ⟨A9, c9, rfl, _, _⟩ := hi
    obtain ⟨a1, a2, a3, a4⟩ := S2.out.three.reads
    clear hb2 HSG x1 x2 x3 x4 x5 x6
    go_wp2
    refine bodyPost_ret (v := .tuple #[.agg #[.bool (decide (z < 0)), .slice A9 (digs z.natAbs).length c9], .int .i64 0]) ?_ rfl ⟨S2.out.gr.set2 (by omega) _ _, .inr ⟨HR.out, _, rfl, HI.out.stored2 (by simp) (by simp; omega) _ _⟩⟩
    simp [results, Tryd.results39, go_sem, a1, a2]
  · have hp := digs_pos_len hR
    have hd : decide (0 < (digs R).length) = true := decide_eq_true hp
    have hd1 : decide ((0 : Int) < ((digs R).length : Int)) = true := decide_eq_true (by omega)
    have HR : Hid (R ≠ 0) := Nat.ne_of_gt hR
    clear hR hp
    go_wp2
    refine bodyPost_ret (v := .tuple #[.agg #[.bool false, .slice none 0 0], .int .i64 6]) ?_ rfl ⟨S1.out.gr.set2 (by omega) _ _, .inl ⟨HR.out, rfl⟩⟩
    simp [results, Tryd.results39, go_sem, a1, a2]
end Go.Proofs.YtbijjiadokgmoaaDoor
