/- Contracts of Bits, here and in the reference. -/
import Derived.Test.YtbijjiadokgmoaaDoorRaw
import Derived.Test.YtbijjiadokgmoaaDoorFmtS
namespace Go.Proofs.YtbijjiadokgmoaaDoor
open Go.RowKit

/-- How many binary digits a digit has. -/
def blen (x : Nat) : Nat := if x = 0 then 0 else 1 + blen (x / 2)
termination_by x
decreasing_by omega
theorem blen_zero : blen 0 = 0 := by rw [blen]; simp
theorem blen_pos {x : Nat} (h : 0 < x) : blen x = 1 + blen (x / 2) := by rw [blen, if_neg (by omega)]
theorem bitLenAux_eq : ∀ (f x : Nat), x < 2 ^ f → Lib.bitLenAux f x = blen x := by
  intro f
  induction f with
  | zero =>
    intro x hx
    have : x = 0 := by simpa using hx
    subst this
    rw [blen_zero]; rfl
  | succ f ih =>
    intro x hx
    rcases Nat.eq_zero_or_pos x with h | h
    · subst h; rw [blen_zero]; simp [Lib.bitLenAux]
    · rw [blen_pos h, Lib.bitLenAux, if_neg (by omega), ih (x / 2) (by rw [Nat.pow_succ] at hx; omega)]
theorem bitLen_eq {x : Nat} (h : x < 4294967296) : Lib.bitLen x = blen x := bitLenAux_eq 64 x (Nat.lt_of_lt_of_le h (by decide))
theorem blen_le : ∀ (f x : Nat), x < 2 ^ f → blen x ≤ f := by
  intro f
  induction f with
  | zero => intro x hx; have : x = 0 := by simpa using hx
            subst this; rw [blen_zero]; omega
  | succ f ih =>
    intro x hx
    rcases Nat.eq_zero_or_pos x with h | h
    · subst h; rw [blen_zero]; omega
    · rw [blen_pos h]
      have := ih (x / 2) (by rw [Nat.pow_succ] at hx; omega)
      omega
/-- How many binary digits a number has. -/
def bitsOf (n : Nat) : Nat := if (digs n).length = 0 then 0 else 32 * ((digs n).length - 1) + blen ((digs n).getD ((digs n).length - 1) 0)

set_option maxHeartbeats 1600000 in
set_option maxRecDepth 1000000 in
theorem bitlen_pos {b o c k x : Nat} (w : World) (hk : k < 1000000) (hx : x < 4294967296) (hc : w.cell? ⟨b, o + k, none⟩ = some (.int .u32 (x : Int))) :
    Calls Tryd.prog 63 #[.slice (some ⟨b, o, none⟩) (k + 1) c] w fun e w' => e = .returned (.int .i64 ((32 * k + blen x : Nat) : Int)) ∧ w = w' := by
  have hbl := blen_le 32 x hx
  have HL : Hid (∀ W : World, Calls Tryd.prog 87 #[.int .u32 x] W fun e w' => e = .returned (.int .i64 (blen x)) ∧ W = w') := fun W => (Tryd.bits_Len32 (x : Int) W (by omega) (by omega)).mono fun e w' ⟨h1, h2⟩ => ⟨by rw [h1, ← bitLen_eq hx]; rfl, h2.symm⟩
  have hki : (k : Int) ≤ 1000000 := by omega
  have hbi : (blen x : Int) ≤ 32 := by omega
  clear hbl
  generalize blen x = l at *
  go_enter Tryd.func63, Tryd.ntmps63
  go_wp2_with (go_at_call 87; ((with_reducible refine (HL.out _).mono ?_); rintro e w' ⟨rfl, rfl⟩))
  go_ret
  exact ⟨by rw [show ((32 * k + l : Nat) : Int) = 32 * (k : Int) + (l : Int) by omega]; rfl, rfl⟩
set_option maxHeartbeats 1600000 in
set_option maxRecDepth 1000000 in
theorem bitlen_0 {c : Nat} {A : Option Addr} (w : World) :
    Calls Tryd.prog 63 #[.slice A 0 c] w fun e w' => e = .returned (.int .i64 ((0 : Nat) : Int)) ∧ w = w' := by
  go_enter Tryd.func63, Tryd.ntmps63
  go_wp2
  go_ret
  exact ⟨rfl, rfl⟩
theorem bitlen_any {B n c : Nat} {A : Option Addr} (w : World) (h : Rd w B A c (digs n)) (hl : (digs n).length ≤ 1000000) :
    Calls Tryd.prog 63 #[.slice A (digs n).length c] w fun e w' => e = .returned (.int .i64 (bitsOf n : Int)) ∧ w = w' := by
  unfold bitsOf
  rcases Nat.eq_zero_or_pos (digs n).length with h0 | h0
  · rw [h0, if_pos rfl]
    exact bitlen_0 w
  · rw [if_neg (by omega)]
    obtain ⟨b, o, rfl, _, hc⟩ := h.at_ (k := (digs n).length - 1) (by omega)
    have hx := (dgs_digs n).get (k := (digs n).length - 1) (by omega)
    have hg : (digs n).getD ((digs n).length - 1) 0 = (digs n)[(digs n).length - 1] := by
      rw [List.getD_eq_getElem?_getD, List.getElem?_eq_getElem (by omega)]; rfl
    rw [hg]
    have := bitlen_pos (c := c) w (k := (digs n).length - 1) (by omega) hx hc
    rwa [show (digs n).length - 1 + 1 = (digs n).length by omega] at this

set_option maxHeartbeats 1600000 in
set_option maxRecDepth 1000000 in
theorem bits_any {B c1 : Nat} {A1 : Option Addr} {xs : List Nat} (n1 : Bool) (w : World) (h1 : Rd w B A1 c1 xs) (hB : B ≤ w.heap.size) (hx : xs.length ≤ 1000000) :
    Calls Tryd.prog 24 #[.agg #[.bool n1, .slice A1 xs.length c1]] w fun e w' => e = .returned (.int .i64 (bitsOf (val xs) : Int)) ∧ Below w.heap.size w w' := by
  have HT1 := Lib.hid (fun (W : World) (hb : Below w.heap.size w W) => trim_any W (h1.below (hb.mono hB)) hx)
  have HBL := Lib.hid (fun (W : World) (hb : Below w.heap.size w W) => bitlen_any W (h1.digs.below (hb.mono hB)) (by have := digs_le_len h1.dgs; omega))
  clear h1
  go_enter Tryd.func24, Tryd.ntmps24
  go_wp2_with (first
    | (go_at_call 55; ((with_reducible refine (HT1.out _ ((Below.refl _ _).alloc (Nat.le_refl _) _)).mono ?_); rintro e w' ⟨rfl, rfl⟩))
    | (go_at_call 63; ((with_reducible refine (HBL.out _ ((Below.refl _ _).alloc (Nat.le_refl _) _)).mono ?_); rintro e w' ⟨rfl, rfl⟩)))
  go_ret
  exact ⟨rfl, (Below.refl _ _).alloc (Nat.le_refl _) _⟩

set_option maxHeartbeats 1600000 in
set_option maxRecDepth 1000000 in
theorem rbits_any {B c1 : Nat} {A1 : Option Addr} {xs : List Nat} (n1 : Bool) (w : World) (h1 : Rd w B A1 c1 xs) (hB : B ≤ w.heap.size) (hx : xs.length ≤ 1000000) :
    Calls Tryd.prog 25 #[.agg #[.bool n1, .slice A1 xs.length c1]] w fun e w' => e = .returned (.int .i64 (bitsOf (val xs) : Int)) ∧ Below w.heap.size w w' := by
  have hdl := digs_le_len h1.dgs
  have HT := Lib.hid (fun (W : World) (hb : Below w.heap.size w W) => rtrim_any W (h1.below (hb.mono hB)) (by have := hb.size; omega) hx)
  clear h1
  generalize val xs = r at *
  go_enter Tryd.func25, Tryd.ntmps25
  go_wp2_with (go_at_call 62; fail)
  refine (HT.out _ ((Below.refl _ _).alloc (Nat.le_refl _) _)).mono ?_
  rintro e w1 ⟨A, c, rfl, hr1, _, hb1⟩
  have HB : Hid (Below w.heap.size w w1) := ((Below.refl _ _).alloc (Nat.le_refl _) _).trans (hb1.mono (by simp))
  rcases Nat.eq_zero_or_pos (digs r).length with h0 | h0
  · have HV : Hid (bitsOf r = 0) := by show _ = _; unfold bitsOf; rw [if_pos h0]
    rw [h0]
    clear h0 hr1 hb1
    go_wp2
    go_ret
    exact ⟨by rw [HV.out]; rfl, HB.out⟩
  · obtain ⟨k, hk⟩ : ∃ k, (digs r).length = k + 1 := ⟨(digs r).length - 1, by omega⟩
    have hkl : k < (digs r).length := by omega
    obtain ⟨b, o, rfl, _, hc⟩ := hr1.at_ hkl
    have hxd := (dgs_digs r).get hkl
    have HV : Hid (bitsOf r = 32 * k + blen (digs r)[k]) := by
      have e : (digs r).length - 1 = k := by omega
      show _ = _
      unfold bitsOf
      rw [if_neg (by omega), e, List.getD_eq_getElem?_getD, List.getElem?_eq_getElem hkl]
      rfl
    generalize (digs r)[k] = x at *
    clear hkl
    have hbl := blen_le 32 x hxd
    have hki : (k : Int) ≤ 1000000 := by omega
    have HK := Lib.hid hk
    rw [hk]
    clear hk h0 hr1 hb1 hdl
    go_wp2
    go_loop [4, 5] (fun N X => ∃ n y : Nat, N = .int .i64 n ∧ X = .int .u32 y ∧ y < 4294967296 ∧ n + blen y = 32 * k + blen x) (fun _ X => (intOf X).toNat)
    case atStart => exact ⟨32 * k, x, by go_num, rfl, hxd, rfl⟩
    case round =>
      obtain ⟨n, y, rfl, rfl, hy, hn⟩ := hrel
      have hni : (n : Int) ≤ 40000000 := by omega
      rcases Nat.eq_zero_or_pos y with h1 | h1
      · subst h1
        rw [blen_zero, Nat.add_zero] at hn
        have HN := Lib.hid hn
        clear hn
        go_wp2
        go_ret
        exact ⟨by rw [HV.out, ← HN.out]; rfl, HB.out⟩
      · have HS : Hid (n + 1 + blen (y / 2) = 32 * k + blen x) := by
          show _ = _
          rw [blen_pos h1] at hn; omega
        have hyi : (0 : Int) < (y : Int) := by omega
        clear hn
        go_wp2
        go_round
        case rel => exact ⟨n + 1, y / 2, by go_num, by go_num, by omega, HS.out⟩
        case measure => simp [intOf]; omega
section
variable {w : World} {B l1 : Nat} {v1 : Value} {a : Int}
theorem bits_raw (h1 : Raw w B v1 a l1) (hB : B ≤ w.heap.size) (b1 : l1 ≤ 1000000) : Calls Tryd.prog 24 #[v1] w fun e w' => e = .returned (.int .i64 (bitsOf a.natAbs : Int)) ∧ Below w.heap.size w w' := by
  obtain ⟨n, A, c, xs, rfl, r1, rfl, k1⟩ := h1
  rw [sgn_abs]
  exact bits_any n w r1 hB (by omega)
theorem rbits_raw (h1 : Raw w B v1 a l1) (hB : B ≤ w.heap.size) (b1 : l1 ≤ 1000000) : Calls Tryd.prog 25 #[v1] w fun e w' => e = .returned (.int .i64 (bitsOf a.natAbs : Int)) ∧ Below w.heap.size w w' := by
  obtain ⟨n, A, c, xs, rfl, r1, rfl, k1⟩ := h1
  rw [sgn_abs]
  exact rbits_any n w r1 hB (by omega)
end
end Go.Proofs.YtbijjiadokgmoaaDoor
