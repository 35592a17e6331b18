/- Contracts of Primes, of the reference's Primes, and of the comparison of two lists. -/
import Derived.Test.YtoeailhcobbhjaaPrime
import Derived.Test.YtoeailhcobbhjaaFac
import Derived.Deep.OwnRows
namespace Go.Proofs.Ytoeailhcobbhjaa
open Go.RowKit

theorem Try.info3 : (Try.prog.info? 3).map (fun i => (i.zero, i.size, i.bytes)) = some (some (.int .i64 0), 1, 8) := by kernel_rfl
theorem Try.info4 : (Try.prog.info? 4).map (fun i => (i.zero, i.size, i.bytes)) = some (some (.bool false), 1, 1) := by kernel_rfl

/-- The primes below d. -/
def prs (d : Nat) : List Nat := (List.range d).filter prB
theorem prs_succ (d : Nat) : prs (d + 1) = prs d ++ if prB d = true then [d] else [] := by
  unfold prs
  rw [List.range_succ, List.filter_append]
  cases h : prB d <;> simp [h]
theorem prs_yes {d : Nat} (h : prB d = true) : prs (d + 1) = prs d ++ [d] := by rw [prs_succ, if_pos h]
theorem prs_no {d : Nat} (h : prB d = false) : prs (d + 1) = prs d := by rw [prs_succ, h]; simp
theorem prs_le (d : Nat) : (prs d).length ≤ d := by
  have := List.length_filter_le prB (List.range d)
  rw [List.length_range] at this
  exact this
theorem prs_two : prs 2 = [] := by decide

/-- The cells of a list of numbers. -/
def nats (l : List Nat) : List Value := l.map fun (x : Nat) => .int .i64 (x : Int)
theorem nats_append (l m : List Nat) : nats (l ++ m) = nats l ++ nats m := by simp [nats]
theorem nats_length (l : List Nat) : (nats l).length = l.length := by simp [nats]

theorem cell_one_new' (w : World) (a : Value) (t : TypeId) : ∀ j u, [a][j]? = some u → (w.alloc (.cells #[a] t)).cell? ((⟨w.heap.size, 0, none⟩ : Addr).add j) = some u := by
  intro j u hj
  match j, hj with
  | 0, hj => simp at hj; subst hj; simp [Addr.add]
/-- Behind the append of a number: the list is the next one, below all is as it was. -/
theorem own_next {B : Nat} {w0 wr w3 : World} {v v' : Value} {L L' : List Nat} {d : Nat} {o : Obj} (hL : L' = L ++ [d]) (hown : wr.ownsRow B 3 1 v L.length (nats L)) (hb : Below B w0 wr)
    (hown' : w3.ownsRow B 3 1 v' (L.length + 1) (nats L ++ [.int .i64 (d : Int)])) (hg : (wr.alloc o).grownBy w3 v.ownBlock) (hB : B ≤ wr.heap.size := by omega) :
    w3.ownsRow B 3 1 v' L'.length (nats L') ∧ Below B w0 w3 := by
  refine ⟨?_, (hb.alloc hB o).grown hg (by simp; omega) (fun j hj => (hown.lt j hj).1)⟩
  rw [hL, nats_append, List.length_append]
  exact hown'

set_option maxHeartbeats 800000 in
set_option maxRecDepth 1000000 in
theorem refPrimes_any (n : Int) (w : World) (hn : n ≤ 3000) :
    Calls Try.prog 24 #[.int .i64 n] w fun e w' => ∃ v, e = .returned v ∧ w'.ownsRow w.heap.size 3 1 v (prs (n + 1).toNat).length (nats (prs (n + 1).toNat)) ∧ Below w.heap.size w w' := by
  obtain ⟨i0, hi, hz0, hz1, hz2⟩ := info_parts Try.info3
  by_cases hs : n < 2
  · have e : Hid (prs (n + 1).toNat = []) := by
      have : (n + 1).toNat = 0 ∨ (n + 1).toNat = 1 ∨ (n + 1).toNat = 2 := by omega
      show _ = _
      rcases this with h | h | h <;> rw [h] <;> decide
    go_enter Try.func24, Try.ntmps24
    go_wp2
    refine wp_loop_rounds 1 ?_
    rw [rounds_succ]
    go_wp2
    go_ret
    refine ⟨_, rfl, ?_, Below.refl _ _⟩
    rw [e.out]
    exact World.ownsRow_nil _ _ _ _
  · obtain ⟨k, rfl⟩ : ∃ k : Nat, n = (k : Int) := ⟨n.toNat, by omega⟩
    have hk : 2 ≤ (k : Int) := by omega
    have HE : Hid ((((k : Int) + 1).toNat) = k + 1) := by show _ = _; omega
    clear hs
    go_enter Try.func24, Try.ntmps24
    go_wp2
    go_loopw [3, 4] (fun v D wr => ∃ d : Nat, D = .int .i64 d ∧ 2 ≤ d ∧ d ≤ k + 1 ∧ Hid (wr.ownsRow w.heap.size 3 1 v (prs d).length (nats (prs d))) ∧ Hid (Below w.heap.size w wr)) (fun _ D _ => k + 1 - (intOf D).toNat)
    case atStart => exact ⟨2, rfl, by omega, by omega, by rw [prs_two]; exact World.ownsRow_nil _ _ _ _, Below.refl _ _⟩
    case round =>
      obtain ⟨d, rfl, hd2, hdk, HO, HB⟩ := hrel
      have hsz := HB.out.size
      have hle := prs_le d
      by_cases hlt : d ≤ k
      · have hlt2 : (d : Int) ≤ (k : Int) := by omega
        by_cases hp : prB d = true
        · have hpi : prI (d : Int) = true := by rw [prI_nat]; exact hp
          have hown := HO.out
          have HY := Lib.hid (prs_yes hp)
          clear hp
          go_wp2_with (first
            | (go_at_call 21; ((with_reducible refine (refPrime_any d _ (by omega)).mono ?_); rintro e w' ⟨rfl, rfl⟩))
            | (at_builtin; (refine wpList_append_own _ rfl _ _ 33 rfl w.heap.size 3 i0 (.int .i64 0) 1 8 Try.underlying33 hi hz0 hz1 hz2 rfl (by decide) _ _ _ rfl (hown.alloc _) ⟨wr.heap.size, 0, none⟩ 1 1 [.int .i64 (d : Int)] rfl rfl (cell_one_new' _ _ _) (fun x hx => by simp at hx; rw [hx]; rfl) (by unfold maxLen; omega) (by omega) (by simp; omega) ?_); intro v' w3 hown' hgrow3 hnil3; have HR := Lib.hid (own_next HY.out hown HB.out hown' hgrow3); clear hown' hgrow3 hnil3 hown))
          go_roundw
          case rel => exact ⟨d + 1, by go_num, by omega, by omega, HR.out.1, HR.out.2⟩
          case measure => simp [intOf]; omega
        · have hpf : prB d = false := by simpa using hp
          have hpi : prI (d : Int) = false := by rw [prI_nat]; exact hpf
          have HY := Lib.hid (prs_no hpf)
          clear hp hpf
          go_wp2_with (first
            | (go_at_call 21; ((with_reducible refine (refPrime_any d _ (by omega)).mono ?_); rintro e w' ⟨rfl, rfl⟩)))
          go_roundw
          case rel => exact ⟨d + 1, by go_num, by omega, by omega, by rw [HY.out]; exact HO.out, HB.out⟩
          case measure => simp [intOf]; omega
      · have hdk2 : d = k + 1 := by omega
        subst hdk2
        go_wp2
        go_ret
        refine ⟨_, rfl, ?_, HB.out⟩
        rw [HE.out]
        exact HO.out
end Go.Proofs.Ytoeailhcobbhjaa
