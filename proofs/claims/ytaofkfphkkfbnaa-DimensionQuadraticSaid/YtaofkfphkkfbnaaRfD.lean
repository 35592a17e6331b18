/- The reference's Divisors and Psi: their values. -/
import Derived.Test.YtaofkfphkkfbnaaSgnL
import Derived.Test.YtaofkfphkkfbnaaBoxL
import Derived.Deep.DeepCutAuto
import Derived.Deep.CutBlock
import Derived.Deep.RegionHeld3
import Derived.IntWalk
import Derived.Deep.AppendLies
namespace Go.Proofs.Ytaofkfphkkfbnaa
open Go.RowKit
set_option linter.unusedVariables false
set_option linter.unusedSimpArgs false

def iz (L : List Nat) : List Int := L.map fun x : Nat => (x : Int)
theorem iz_len (L : List Nat) : (iz L).length = L.length := by simp [iz]
theorem iz_append (L M : List Nat) : iz (L ++ M) = iz L ++ iz M := by simp [iz]
def dvP (n t : Nat) : List Nat := (List.range (t + 1)).filter fun d => decide (1 ≤ d) && decide (n % d = 0)
theorem dvP_zero (n : Nat) : dvP n 0 = [] := by unfold dvP; simp [List.range_succ]
theorem dvP_yes {n t : Nat} (h : n % (t + 1) = 0) : dvP n (t + 1) = dvP n t ++ [t + 1] := by
  unfold dvP
  rw [List.range_succ (n := t + 1), List.filter_append]
  simp [h]
theorem dvP_no {n t : Nat} (h : n % (t + 1) ≠ 0) : dvP n (t + 1) = dvP n t := by
  unfold dvP
  rw [List.range_succ (n := t + 1), List.filter_append]
  simp [h]
theorem dvP_len (n t : Nat) : (dvP n t).length ≤ t + 1 := by
  have := List.length_filter_le (fun d => decide (1 ≤ d) && decide (n % d = 0)) (List.range (t + 1))
  rwa [List.length_range] at this
structure DV (w wr : World) (v : Value) (L : List Nat) : Prop where
  own : wr.ownsRow w.heap.size 3 1 v L.length (zs (iz L))
  bel : Below w.heap.size w wr
theorem DV.push {w wr w' : World} {v v' : Value} {L : List Nat} {p : Nat} {o : Obj} (h : DV w wr v L) (hown : w'.ownsRow w.heap.size 3 1 v' (L.length + 1) (zs (iz L) ++ [.int .i64 (p : Nat)])) (hg : (wr.alloc o).grownBy w' v.ownBlock) : DV w w' v' (L ++ [p]) :=
  ⟨by rw [List.length_append, iz_append, zs_append]; exact hown, (h.bel.alloc h.bel.size o).grown hg (by have := h.bel.size; simp; omega) fun j hj => (h.own.lt j hj).1⟩
set_option maxHeartbeats 3200000 in
set_option maxRecDepth 1000000 in
theorem rdiv_any (n : Nat) (w : World) (n1 : 1 ≤ n) (n2 : (n : Int) ≤ 120) :
    Calls Try.prog 24 #[.int .i64 (n : Int)] w fun e w' => ∃ A c, e = .returned (.slice A (dvN n).length c) ∧ DV w w' (.slice A (dvN n).length c) (dvN n) := by
  obtain ⟨i0, hi0, z0, z1, z2⟩ := info_parts Try.infoInt
  have HE : Hid (dvP n n = dvN n) := rfl
  have H0 := Lib.hid (dvP_zero n)
  have HL := Lib.hid (dvP_len n)
  have HY := Lib.hid (fun t (h : n % (t + 1) = 0) => dvP_yes h)
  have HN := Lib.hid (fun t (h : n % (t + 1) ≠ 0) => dvP_no h)
  go_enter Try.func24, Try.ntmps24
  go_wp2
  go_loopw [3, 4] (fun V I wr => ∃ (t : Nat) (A : Option Addr) (c : Nat), I = .int .i64 ((t + 1 : Nat) : Int) ∧ V = .slice A (dvP n t).length c ∧ t ≤ n ∧ Hid (DV w wr (.slice A (dvP n t).length c) (dvP n t))) (fun _ I _ => n + 1 - (intOf I).toNat)
  case atStart => exact ⟨0, none, 0, rfl, by rw [H0.out]; rfl, Nat.zero_le _, by rw [H0.out]; exact ⟨World.ownsRow_nil _ _ _ _, Below.refl _ _⟩⟩
  case round =>
    obtain ⟨t, A, c, rfl, rfl, ht, HV⟩ := hrel
    by_cases htn : t < n
    · have hti : (((t + 1 : Nat)) : Int) ≤ (n : Int) := by omega
      have hll := HL.out t
      have hmod : (n : Int) % ((t + 1 : Nat) : Int) = ((n % (t + 1) : Nat) : Int) := (Int.natCast_emod n (t + 1)).symm
      obtain ⟨u, hu⟩ : ∃ u, u = t + 1 := ⟨_, rfl⟩
      have hY := HY.out t
      have hN := HN.out t
      rw [← hu] at hti hmod hY hN ⊢
      have hu1 : 1 ≤ (u : Int) := by omega
      have hu0 : ((u : Int) == 0) = false := by rw [beq_eq_false_iff_ne]; omega
      have hu2 : (u : Int) ≤ 120 := by omega
      have HU := Lib.hid hu
      have hll2 : (dvP n t).length ≤ 121 := by omega
      clear hu hll
      by_cases e : n % u = 0
      · have HP := Lib.hid (hY e)
        rw [e] at hmod
        clear hY hN e
        generalize dvP n t = L at *
        have hown := HV.out.own
        have hsz := HV.out.bel.size
        go_wp2_with (at_builtin; (refine wpList_append_own_at _ rfl _ _ 36 rfl w.heap.size 3 i0 (.int .i64 0) 1 8 Try.underlying36 hi0 z0 z1 z2 rfl (by decide) _ _ _ rfl (hown.alloc _) ⟨wr.heap.size, 0, none⟩ 1 1 [.int .i64 (u : Nat)] rfl rfl (cell_one_new' _ _ _) (fun x hx => by simp at hx; rw [hx]; rfl) (by unfold maxLen; omega) (by omega) (by simp; omega) ?_); intro v' w4 hown4 hg4 hnil4 hat4; obtain ⟨A2, c2, rfl⟩ := own_len hown4; have HN4 := Lib.hid (HV.out.push hown4 hg4); clear hown4 hg4 hnil4 hat4)
        go_roundw
        case rel => exact ⟨u, A2, c2, by go_num, by rw [HP.out, List.length_append]; rfl, by have := HU.out; omega, by rw [HP.out, List.length_append]; exact HN4.out⟩
        case measure => have := HU.out; simp [intOf]; omega
      · have HP := Lib.hid (hN e)
        have hne : (((n : Int) % (u : Int)) == 0) = false := by rw [hmod, beq_eq_false_iff_ne]; omega
        clear hY hN e hmod
        go_wp2
        go_roundw
        case rel => exact ⟨u, A, c, by go_num, by rw [HP.out], by have := HU.out; omega, by rw [HP.out]; exact HV.out⟩
        case measure => have := HU.out; simp [intOf]; omega
    · obtain rfl : t = n := by omega
      have hk3 : ¬ (((t + 1 : Nat)) : Int) ≤ (t : Int) := by omega
      rw [HE.out] at HV ⊢
      go_wp2
      go_ret
      exact ⟨A, c, rfl, HV.out⟩
def prR (p : Nat) : Nat → Bool
  | 0 => true
  | j + 1 => prR p j && decide (p % (j + 2) ≠ 0)
def primeB (p : Nat) : Bool := prR p (p - 2)
def psR (n : Nat) : Nat → Nat
  | 0 => n
  | t + 1 => if (primeB (t + 2) && decide (n % (t + 2) = 0)) = true then psR n t / (t + 2) * (t + 3) else psR n t
def rfOk (n : Nat) : Bool := n == 0 || ((List.range n).all (fun t => decide (psR n t ≤ 1000)) && psR n (n - 1) == psV n)
set_option maxRecDepth 100000 in
theorem rf_all : (List.range 121).all rfOk = true := by decide +kernel
structure RfF (n : Nat) : Prop where
  p : ∀ t, t < n → psR n t ≤ 1000
  ps : psR n (n - 1) = psV n
theorem rf_of {n : Nat} (n1 : 1 ≤ n) (n2 : n ≤ 120) : RfF n := by
  have h := List.all_eq_true.1 rf_all n (List.mem_range.2 (by omega))
  unfold rfOk at h
  rw [Bool.or_eq_true] at h
  rcases h with h | h
  · simp at h; omega
  · simp only [Bool.and_eq_true, beq_iff_eq, List.all_eq_true, List.mem_range, decide_eq_true_eq] at h
    exact ⟨fun t ht => h.1 t ht, h.2⟩
end Go.Proofs.Ytaofkfphkkfbnaa
