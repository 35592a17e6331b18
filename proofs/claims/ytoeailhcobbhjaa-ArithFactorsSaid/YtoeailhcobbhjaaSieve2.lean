/- The contract of arith.Primes: the sieve. -/
import Derived.Test.YtoeailhcobbhjaaSieve
namespace Go.Proofs.Ytoeailhcobbhjaa
open Go.RowKit

/-- What the sieve has marked when the numbers below d are done, and of d's own multiples those below m. -/
def Mk (d : Nat) (j : Nat) : Prop := ∃ p, Pr p ∧ p < d ∧ p * p ≤ j ∧ j % p = 0
theorem mk_prime {d : Nat} (hd : 2 ≤ d) : Mk d d ↔ ¬ Pr d := by
  constructor
  · rintro ⟨p, hp, hlt, _, hm⟩ hpd
    exact hpd.div hp.1 hlt hm
  · intro h
    obtain ⟨p, hp, hs, hm⟩ := prime_div d hd h
    have : p * 2 ≤ p * p := Nat.mul_le_mul_left p hp.1
    exact ⟨p, hp, by omega, hs, hm⟩
theorem mk_next {d j : Nat} : Mk (d + 1) j ↔ Mk d j ∨ (Pr d ∧ d * d ≤ j ∧ j % d = 0) := by
  constructor
  · rintro ⟨p, hp, hlt, hs, hm⟩
    by_cases e : p = d
    · subst e; exact .inr ⟨hp, hs, hm⟩
    · exact .inl ⟨p, hp, by omega, hs, hm⟩
  · rintro (⟨p, hp, hlt, hs, hm⟩ | ⟨hp, hs, hm⟩)
    · exact ⟨p, hp, by omega, hs, hm⟩
    · exact ⟨d, hp, by omega, hs, hm⟩
/-- The marks. -/
def SetTo (k : Nat) (f : Nat → Bool) (P : Nat → Prop) : Prop := ∀ j, j ≤ k → (f j = true ↔ P j)
/-- Within the inner loop: d's multiples from its square on, below m. -/
def In (d m j : Nat) : Prop := Mk d j ∨ (d * d ≤ j ∧ j < m ∧ j % d = 0)
theorem in_start {d j : Nat} : In d (d * d) j ↔ Mk d j := by
  unfold In
  constructor
  · rintro (h | ⟨h1, h2, _⟩)
    · exact h
    · omega
  · exact .inl
theorem in_step {d m j : Nat} (hd : 1 ≤ d) (hm : m % d = 0) (hs : d * d ≤ m) : In d (m + d) j ↔ (j = m ∨ In d m j) := by
  unfold In
  constructor
  · rintro (h | ⟨h1, h2, h3⟩)
    · exact .inr (.inl h)
    · by_cases e : j = m
      · exact .inl e
      · by_cases hl : j < m
        · exact .inr (.inr ⟨h1, hl, h3⟩)
        · have : (j - m) % d = 0 := by
            have h4 := Nat.dvd_sub (Nat.dvd_of_mod_eq_zero h3) (Nat.dvd_of_mod_eq_zero hm)
            exact Nat.mod_eq_zero_of_dvd h4
          rw [Nat.mod_eq_of_lt (by omega)] at this
          omega
  · rintro (rfl | h | ⟨h1, h2, h3⟩)
    · exact .inr ⟨hs, by omega, hm⟩
    · exact .inl h
    · exact .inr ⟨h1, by omega, h3⟩
theorem in_end {d m k j : Nat} (hp : Pr d) (hm : k < m) (hj : j ≤ k) : In d m j ↔ Mk (d + 1) j := by
  rw [mk_next]
  unfold In
  constructor
  · rintro (h | ⟨h1, _, h3⟩)
    · exact .inl h
    · exact .inr ⟨hp, h1, h3⟩
  · rintro (h | ⟨_, h1, h3⟩)
    · exact .inl h
    · exact .inr ⟨h1, by omega, h3⟩

theorem sieve_next {B N : Nat} {w0 wr w3 : World} {v v' : Value} {L L' : List Nat} {d : Nat} {o : Obj} {f : Nat → Value} (hL : L' = L ++ [d]) (hown : wr.ownsRow (B + 1) 3 1 v L.length (nats L)) (hb : Below B w0 wr) (hrow : wr.rowIs B 4 N f)
    (hown' : w3.ownsRow (B + 1) 3 1 v' (L.length + 1) (nats L ++ [.int .i64 (d : Int)])) (hg : (wr.alloc o).grownBy w3 v.ownBlock) :
    w3.ownsRow (B + 1) 3 1 v' L'.length (nats L') ∧ Below B w0 w3 ∧ w3.rowIs B 4 N f := by
  have hlt := hrow.lt
  have hne : some B ≠ v.ownBlock := fun e => by have := (hown.lt B e.symm).1; omega
  refine ⟨?_, (hb.alloc (by omega) o).grown hg (by simp; omega) (fun j hj => by have := (hown.lt j hj).1; omega), hrow.of_block ?_⟩
  · rw [hL, nats_append, List.length_append]
    exact hown'
  · rw [hg.block B (by simp; omega) hne, Below.heap_alloc _ _ _ hlt]

set_option maxHeartbeats 800000 in
set_option maxRecDepth 1000000 in
theorem primes_main (k : Nat) (w : World) (hk : 2 ≤ k) (hk2 : (k : Int) ≤ 1048576) :
    Calls Try.prog 22 #[.int .i64 k] w fun e w' => ∃ v, e = .returned (.tuple #[v, .int .i64 0]) ∧ w'.ownsRow (w.heap.size + 1) 3 1 v (prs (k + 1)).length (nats (prs (k + 1))) ∧ Below w.heap.size w w' := by
  obtain ⟨i0, hi, hz0, hz1, hz2⟩ := info_parts Try.info3
  obtain ⟨i1, hj, hy0, hy1, hy2⟩ := info_parts Try.info4
  have hmk : ∀ W : World, (Instr.makeSlice 77 (.int .i64 ((k : Int) + 1)) (.int .i64 ((k : Int) + 1))).run Try.prog W = .ok (.slice (some ⟨W.heap.size, 0, none⟩) (k + 1) (k + 1)) (W.alloc (.cells (madeCells #[.bool false] (k + 1)) 4)) := fun W => by
    have h := run_make (P := Try.prog) W 77 4 i1 (.bool false) Try.underlying77 hj hy0 .i64 .i64 ((k : Int) + 1) ((k : Int) + 1) (by omega) (by omega) (by rw [hy2]; omega) (by omega)
    rw [show ((k : Int) + 1).toNat = k + 1 by omega, hy1, Nat.mul_one] at h
    exact h
  go_enter Try.func22, Try.ntmps22
  go_wp2
  go_loopw [4, 6, 7] (fun v D _ wr => ∃ (d : Nat) (f : Nat → Bool), D = .int .i64 d ∧ 2 ≤ d ∧ d ≤ k + 1 ∧ Hid (wr.ownsRow (w.heap.size + 1) 3 1 v (prs d).length (nats (prs d))) ∧ Hid (Below w.heap.size w wr) ∧ Hid (wr.rowIs w.heap.size 4 (k + 1) (fun j => .bool (f j))) ∧ Hid (SetTo k f (Mk d))) (fun _ D _ _ => k + 1 - (intOf D).toNat)
  case atStart =>
    refine ⟨2, fun _ => false, rfl, by omega, by omega, by rw [prs_two]; exact World.ownsRow_nil _ _ _ _, (Below.refl _ _).alloc (Nat.le_refl _) _, World.rowIs_made _ _ _ _, fun j _ => ?_⟩
    constructor
    · intro h; cases h
    · rintro ⟨p, hp, hlt, _⟩
      have := hp.1
      omega
  case round =>
    obtain ⟨d, f, rfl, hd2, hdk, HO, HB, HR, HS⟩ := hrel
    have hsz := HB.out.size
    have hle := prs_le d
    have hlt0 := HR.out.lt
    clear hmk
    by_cases hlt : d ≤ k
    · have hlt2 : (d : Int) ≤ (k : Int) := by omega
      have hcell := HR.out.cell (i := d) (by omega)
      by_cases hp : Pr d
      · have hf : f d = false := by
          have := (HS.out d hlt).1
          cases h : f d
          · rfl
          · exact absurd hp ((mk_prime hd2).1 (this h))
        rw [hf] at hcell
        have hown := HO.out
        have HY := Lib.hid (prs_yes (prB_true hp))
        have HP := Lib.hid hp
        have hdd0 : 0 ≤ (d : Int) * (d : Int) := Int.mul_nonneg (by omega) (by omega)
        have hdd1 : (d : Int) * (d : Int) ≤ 1048576 * 1048576 := Int.mul_le_mul (by omega) (by omega) (by omega) (by omega)
        clear hp hf
        go_wp2_with (at_builtin; (refine wpList_append_own _ rfl _ _ 33 rfl (w.heap.size + 1) 3 i0 (.int .i64 0) 1 8 Try.underlying33 hi hz0 hz1 hz2 rfl (by decide) _ _ _ rfl (hown.alloc _) ⟨wr.heap.size, 0, none⟩ 1 1 [.int .i64 (d : Int)] rfl rfl (cell_one_new' _ _ _) (fun x hx => by simp at hx; rw [hx]; rfl) (by unfold maxLen; omega) (by omega) (by simp; omega) ?_); intro v' w3 hown' hgrow3 hnil3; have HR3 := Lib.hid (sieve_next HY.out hown HB.out HR.out hown' hgrow3); clear hown' hgrow3 hnil3 hown hcell)
        have HL1 := Lib.hid HR3.out.1
        have HL2 := Lib.hid HR3.out.2.1
        have HL3 := Lib.hid HR3.out.2.2
        clear HR3 HO HB HR hsz hlt0
        have hd0 : 1 ≤ (d : Int) := by omega
        go_loopw [7] (fun M wi => ∃ (m : Nat) (g : Nat → Bool), M = .int .i64 m ∧ (m : Int) ≤ 1048576 * 1048576 ∧ Hid (d * d ≤ m ∧ m % d = 0) ∧ Hid (wi.ownsRow (w.heap.size + 1) 3 1 v' (prs (d + 1)).length (nats (prs (d + 1)))) ∧ Hid (Below w.heap.size w wi) ∧ Hid (wi.rowIs w.heap.size 4 (k + 1) (fun j => .bool (g j))) ∧ Hid (SetTo k g (In d m))) (fun M _ => k + 1 - (intOf M).toNat)
        case atStart =>
          refine ⟨d * d, f, by rw [Int.natCast_mul], by rw [Int.natCast_mul]; exact hdd1, ⟨Nat.le_refl _, Nat.mul_mod_right _ _⟩, HL1.out, HL2.out, HL3.out, fun j hj => by rw [HS.out j hj, in_start]⟩
        case round =>
          clear HL1 HL2 HL3
          obtain ⟨m, g, rfl, hm2, HM, HO, HB, HR, HG⟩ := hrel
          by_cases hmk : m ≤ k
          · have hmk2 : (m : Int) ≤ (k : Int) := by omega
            have hcell := HR.out.cell (i := m) (by omega)
            have hfz := HR.out.frozen m
            obtain ⟨hm3, hm4⟩ := HM.out
            have HM3 := Lib.hid (show d * d ≤ m + d ∧ (m + d) % d = 0 from ⟨by omega, by rw [Nat.add_mod_right]; exact hm4⟩)
            have HG2 : Hid (SetTo k (fun j => if j = m then true else g j) (In d (m + d))) := fun j hj => by
              rw [in_step (by omega) hm4 hm3]
              show (if j = m then true else g j) = true ↔ _
              split
              · simp [*]
              · rw [HG.out j hj]; simp [*]
            clear hm3 hm4
            go_wp2
            go_roundw
            case rel =>
              refine ⟨m + d, fun j => if j = m then true else g j, by go_num, by omega, HM3.out, ownsRow_setCell_below HO.out (by show w.heap.size < w.heap.size + 1; omega) _, HB.out.setCell (Nat.le_refl _) _, (HR.out.set m (.bool true)).congr (fun j _ => ?_), HG2.out⟩
              by_cases e : j = m
              · simp [e]
              · simp [e]
            case measure => simp [intOf]; omega
          · have hmk2 : (k : Int) < (m : Int) := by omega
            have HG2 : Hid (SetTo k g (Mk (d + 1))) := fun j hj => by rw [HG.out j hj]; exact in_end HP.out (by omega) hj
            clear hmk
            go_wp2
            go_roundw
            case rel => exact ⟨d + 1, g, by go_num, by omega, by omega, HO.out, HB.out, HR.out, HG2.out⟩
            case measure => simp [intOf]; omega
      · have hf : f d = true := (HS.out d hlt).2 ((mk_prime hd2).2 hp)
        rw [hf] at hcell
        have HY := Lib.hid (prs_no (prB_false hp))
        have HM : Hid (SetTo k f (Mk (d + 1))) := fun j hj => by
          rw [HS.out j hj, mk_next]
          constructor
          · exact .inl
          · rintro (h | ⟨h, _⟩)
            · exact h
            · exact absurd h hp
        clear hp hf
        go_wp2
        go_roundw
        case rel => exact ⟨d + 1, f, by go_num, by omega, by omega, by rw [HY.out]; exact HO.out, HB.out, HR.out, HM.out⟩
        case measure => simp [intOf]; omega
    · have hdk2 : d = k + 1 := by omega
      subst hdk2
      go_wp2
      go_ret2
      exact ⟨_, rfl, HO.out, HB.out⟩
end Go.Proofs.Ytoeailhcobbhjaa
