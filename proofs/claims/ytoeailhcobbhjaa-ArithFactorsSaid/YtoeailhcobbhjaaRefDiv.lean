/- The contract of halfplaneref03.Divisors. -/
import Derived.Test.YtoeailhcobbhjaaLawPrimes
import Derived.Test.YtoeailhcobbhjaaFacMath
import Derived.Maps.AppendAt
namespace Go.Proofs.Ytoeailhcobbhjaa
open Go.RowKit

/-- The divisors up to d, and the cofactors of those below the root. -/
def lowL (n : Nat) : Nat → List Nat
  | 0 => []
  | d + 1 => lowL n d ++ (if n % (d + 1) = 0 then [d + 1] else [])
def hiL (n : Nat) : Nat → List Nat
  | 0 => []
  | d + 1 => hiL n d ++ (if n % (d + 1) = 0 ∧ (d + 1) * (d + 1) < n then [n / (d + 1)] else [])
theorem lowL_len (n d : Nat) : (lowL n d).length ≤ d ∧ (hiL n d).length ≤ d := by
  induction d with
  | zero => simp [lowL, hiL]
  | succ d ih =>
    simp only [lowL, hiL, List.length_append]
    constructor
    · split <;> simp <;> omega
    · split <;> simp <;> omega
theorem low_yes {n d : Nat} (h : n % (d + 1) = 0) : lowL n (d + 1) = lowL n d ++ [d + 1] := by simp [lowL, h]
theorem low_no {n d : Nat} (h : ¬ n % (d + 1) = 0) : lowL n (d + 1) = lowL n d ∧ hiL n (d + 1) = hiL n d := by simp [lowL, hiL, h]
theorem hi_yes {n d : Nat} (h : n % (d + 1) = 0) (h2 : (d + 1) * (d + 1) < n) : hiL n (d + 1) = hiL n d ++ [n / (d + 1)] := by simp [hiL, h, h2]
theorem hi_no {n d : Nat} (h2 : ¬ (d + 1) * (d + 1) < n) : hiL n (d + 1) = hiL n d := by simp [hiL, h2]

/-- Two rows of numbers in blocks of their own. -/
structure Two (B : Nat) (w0 w : World) (v u : Value) (L H : List Nat) : Prop where
  low : w.ownsRow B 3 1 v L.length (nats L)
  high : w.ownsRow B 3 1 u H.length (nats H)
  apart : ∀ k, v.ownBlock = some k → u.ownBlock ≠ some k
  below : Below B w0 w
theorem Two.size {B : Nat} {w0 w : World} {v u : Value} {L H : List Nat} (h : Two B w0 w v u L H) : w0.heap.size ≤ w.heap.size := h.below.size
theorem Two.swap {B : Nat} {w0 w : World} {v u : Value} {L H : List Nat} (h : Two B w0 w v u L H) : Two B w0 w u v H L :=
  ⟨h.high, h.low, fun k h1 h2 => h.apart k h2 h1, h.below⟩
theorem Two.next {B : Nat} {w0 wr w3 : World} {v u v' : Value} {L H : List Nat} {x : Nat} {y : Int} {o : Obj} (hy : y = (x : Int)) (h : Two B w0 wr v u L H) (hB : B ≤ wr.heap.size)
    (hown' : w3.ownsRow B 3 1 v' (L.length + 1) (nats L ++ [.int .i64 y])) (hg : (wr.alloc o).grownBy w3 v.ownBlock) (hv : v'.ownBlock = v.ownBlock ∨ v'.ownBlock = some (wr.alloc o).heap.size) :
    Two B w0 w3 v' u (L ++ [x]) H := by
  subst hy
  refine ⟨?_, ?_, ?_, (h.below.alloc hB o).grown hg (by simp; omega) (fun j hj => (h.low.lt j hj).1)⟩
  · rw [nats_append, List.length_append]
    exact hown'
  · refine (h.high.alloc o).kept hg ?_
    rcases hu : u.ownBlock with _ | k
    · exact .inl rfl
    · exact .inr fun e => h.apart k e.symm hu
  · intro k hk hu
    rcases hv with hv | hv
    · exact h.apart k (hv ▸ hk) hu
    · have h1 := (h.high.lt k hu).2
      rw [hv] at hk
      have h2 : (wr.alloc o).heap.size = k := by simpa using hk
      simp at h2
      omega
/-- All divisors. -/
def dvs (n d : Nat) : List Nat := lowL n d ++ (hiL n d).reverse
theorem drop_rev {H : List Nat} {k : Nat} (h : k < H.length) : (H.drop k).reverse = (H.drop (k + 1)).reverse ++ [H[k]] := by
  rw [← List.getElem_cons_drop h, List.reverse_cons]

set_option maxHeartbeats 3200000 in
set_option maxRecDepth 1000000 in
theorem refDivs_any (n : Nat) (w : World) (hn : 1 ≤ n) (hn2 : (n : Int) ≤ 2147483647) :
    Calls Try.prog 29 #[.int .i64 n] w fun e w' => ∃ (D : Nat) (v : Value), e = .returned v ∧ (D * D ≤ n ∧ n < (D + 1) * (D + 1)) ∧ w'.ownsRow w.heap.size 3 1 v (dvs n D).length (nats (dvs n D)) ∧ Below w.heap.size w w' := by
  obtain ⟨i0, hi, hz0, hz1, hz2⟩ := info_parts Try.info3
  go_enter Try.func29, Try.ntmps29
  go_wp2
  go_loopw [3, 4, 5] (fun v u D wr => ∃ d : Nat, D = .int .i64 ((d : Int) + 1) ∧ Hid (d * d ≤ n) ∧ (d : Int) ≤ 46340 ∧ Hid (Two w.heap.size w wr v u (lowL n d) (hiL n d))) (fun _ _ D _ => 50000 - (intOf D).toNat)
  case atStart => exact ⟨0, rfl, by show _ ≤ _; omega, by omega, ⟨World.ownsRow_nil _ _ _ _, World.ownsRow_nil _ _ _ _, fun k h => by simp [Value.ownBlock] at h, Below.refl _ _⟩⟩
  case round =>
    obtain ⟨d, rfl, HDN, hd, HT⟩ := hrel
    have hsz := HT.out.size
    obtain ⟨len1, len2⟩ := lowL_len n d
    have hdd : ((d : Int) + 1) * ((d : Int) + 1) ≤ 46341 * 46341 := Int.mul_le_mul (by omega) (by omega) (by omega) (by omega)
    have hdd0 : 0 ≤ ((d : Int) + 1) * ((d : Int) + 1) := Int.mul_nonneg (by omega) (by omega)
    have hc : (((d + 1) * (d + 1) : Nat) : Int) = ((d : Int) + 1) * ((d : Int) + 1) := by simp
    by_cases hlt : (d + 1) * (d + 1) ≤ n
    · have hle : ((d : Int) + 1) * ((d : Int) + 1) ≤ (n : Int) := by rw [← hc]; omega
      have hd3 : (d : Int) ≤ 46339 := by
        rcases Int.lt_or_le 46339 (d : Int) with h | h
        · have : (46341 : Int) * 46341 ≤ ((d : Int) + 1) * ((d : Int) + 1) := Int.mul_le_mul (by omega) (by omega) (by omega) (by omega)
          omega
        · exact h
      have HLT := Lib.hid hlt
      have hmod : ((n : Int) % ((d : Int) + 1)) = ((n % (d + 1) : Nat) : Int) := by rw [Int.natCast_emod]; rfl
      have hd1 : 1 ≤ (d : Int) + 1 := by omega
      by_cases hm : n % (d + 1) = 0
      · have hm2 : ((n : Int) % ((d : Int) + 1) == 0) = true := by rw [hmod, hm]; rfl
        have HLO := Lib.hid (low_yes hm)
        have HM := Lib.hid hm
        by_cases hs : (d + 1) * (d + 1) < n
        · have hs2 : ((d : Int) + 1) * ((d : Int) + 1) < (n : Int) := by rw [← hc]; omega
          have HHI := Lib.hid (hi_yes hm hs)
          have hq1 : 0 ≤ (n : Int) / ((d : Int) + 1) := Int.ediv_nonneg (by omega) (by omega)
          have hq2 : (n : Int) / ((d : Int) + 1) ≤ 2147483647 := by
            have : (n : Int) / ((d : Int) + 1) ≤ (n : Int) := Int.ediv_le_self _ (by omega)
            omega
          have hown := HT.out.low
          clear hc hlt hm hs hmod
          go_wp2_with (first
            | (at_builtin; (refine wpList_append_own_at _ rfl _ _ 33 rfl w.heap.size 3 i0 (.int .i64 0) 1 8 Try.underlying33 hi hz0 hz1 hz2 rfl (by decide) _ _ _ rfl (hown.alloc _) ⟨wr.heap.size, 0, none⟩ 1 1 [.int .i64 ((d : Int) + 1)] rfl rfl (cell_one_new' _ _ _) (fun x hx => by simp at hx; rw [hx]; rfl) (by unfold maxLen; omega) (by omega) (by simp; omega) ?_); intro v' w3 hown' hgrow3 hnil3 hblk; have HR := Lib.hid (Two.next (x := d + 1) (by omega) HT.out hsz hown' hgrow3 hblk); have hsz3 := HR.out.size; clear hown' hgrow3 hnil3 hown hblk)
            | (at_builtin; (refine wpList_append_own_at _ rfl _ _ 33 rfl w.heap.size 3 i0 (.int .i64 0) 1 8 Try.underlying33 hi hz0 hz1 hz2 rfl (by decide) _ _ _ rfl (HR.out.high.alloc _) ⟨w3.heap.size, 0, none⟩ 1 1 [.int .i64 ((n : Int) / ((d : Int) + 1))] rfl rfl (cell_one_new' _ _ _) (fun x hx => by simp at hx; rw [hx]; rfl) (by unfold maxLen; omega) (by omega) (by simp; omega) ?_); intro u' w4 hown' hgrow3 hnil3 hblk; have HR2 := Lib.hid (Two.next (x := n / (d + 1)) (by rw [Int.natCast_ediv]; rfl) HR.out.swap hsz3 hown' hgrow3 hblk); clear hown' hgrow3 hnil3 hblk))
          go_roundw
          case rel => exact ⟨d + 1, by go_num, HLT.out, by omega, by show Two _ _ _ _ _ _ _; rw [HLO.out, HHI.out]; exact HR2.out.swap⟩
          case measure => simp [intOf]; omega
        · have hs2 : ¬ ((d : Int) + 1) * ((d : Int) + 1) < (n : Int) := by rw [← hc]; omega
          have HHI := Lib.hid (hi_no hs)
          have hown := HT.out.low
          clear hc hlt hm hs hmod
          go_wp2_with ((at_builtin; (refine wpList_append_own_at _ rfl _ _ 33 rfl w.heap.size 3 i0 (.int .i64 0) 1 8 Try.underlying33 hi hz0 hz1 hz2 rfl (by decide) _ _ _ rfl (hown.alloc _) ⟨wr.heap.size, 0, none⟩ 1 1 [.int .i64 ((d : Int) + 1)] rfl rfl (cell_one_new' _ _ _) (fun x hx => by simp at hx; rw [hx]; rfl) (by unfold maxLen; omega) (by omega) (by simp; omega) ?_); intro v' w3 hown' hgrow3 hnil3 hblk; have HR := Lib.hid (Two.next (x := d + 1) (by omega) HT.out hsz hown' hgrow3 hblk); have hsz3 := HR.out.size; clear hown' hgrow3 hnil3 hown hblk))
          go_roundw
          case rel => exact ⟨d + 1, by go_num, HLT.out, by omega, by show Two _ _ _ _ _ _ _; rw [HLO.out, HHI.out]; exact HR.out⟩
          case measure => simp [intOf]; omega
      · have hm2 : ((n : Int) % ((d : Int) + 1) == 0) = false := by rw [hmod, beq_eq_false_iff_ne]; omega
        have HLO := Lib.hid (low_no hm)
        clear hc hlt hm hmod
        go_wp2
        go_roundw
        case rel => exact ⟨d + 1, by go_num, HLT.out, by omega, by show Two _ _ _ _ _ _ _; rw [HLO.out.1, HLO.out.2]; exact HT.out⟩
        case measure => simp [intOf]; omega
    · have hgt : (n : Int) < ((d : Int) + 1) * ((d : Int) + 1) := by rw [← hc]; omega
      have HD : Hid (d * d ≤ n ∧ n < (d + 1) * (d + 1)) := ⟨HDN.out, by omega⟩
      have hgt2 : ¬ ((d : Int) + 1) * ((d : Int) + 1) ≤ (n : Int) := by omega
      clear hc hlt hgt
      rcases nats_shape HT.out.high with ⟨hH, rfl⟩ | ⟨g, cap, rfl, hg, hgs, hcap, _⟩
      · have HE : Hid (dvs n d = lowL n d) := by show _ = _; unfold dvs; rw [hH]; simp
        clear hH
        go_wp2
        refine wp_loop_rounds 1 ?_
        rw [rounds_succ]
        go_wp2
        go_ret
        exact ⟨d, _, rfl, HD.out, by rw [HE.out]; exact HT.out.low, HT.out.below⟩
      · have HE : Hid (dvs n d = lowL n d ++ (hiL n d).reverse) := rfl
        go_wp2
        generalize hiL n d = H at *
        generalize lowL n d = L at *
        go_loopw [3, 6] (fun v I wx => ∃ (k : Nat) (z : Int), I = .int .i64 z ∧ z = (k : Int) - 1 ∧ k ≤ H.length ∧ Hid (Two w.heap.size w wx v (.slice (some ⟨g, 0, none⟩) H.length cap) (L ++ (H.drop k).reverse) H)) (fun _ I _ => (intOf I + 1).toNat)
        case atStart => exact ⟨H.length, _, rfl, by omega, Nat.le_refl _, by show Two _ _ _ _ _ _ _; rw [List.drop_length]; simpa using HT.out⟩
        case round =>
          obtain ⟨k, z, rfl, hz, hk, HU⟩ := hrel
          have hsu := HU.out.size
          cases k with
          | zero =>
            obtain rfl : z = -1 := by omega
            have HF : Hid (dvs n d = L ++ (H.drop 0).reverse) := HE.out
            clear hz
            go_wp2
            go_ret
            exact ⟨d, _, rfl, HD.out, by rw [HF.out]; exact HU.out.low, HU.out.below⟩
          | succ k =>
            obtain rfl : z = (k : Int) := by omega
            have hkl : k < H.length := by omega
            have hkl2 : (k : Int) < (H.length : Int) := by omega
            have c1 := HU.out.high.cells (g := g) rfl _ _ (nats_get H k hkl)
            rw [show (⟨g, 0, none⟩ : Addr).add k = ⟨g, k, none⟩ by unfold Addr.add; split <;> simp_all] at c1
            have hown := HU.out.low
            have hlen : (L ++ (H.drop (k + 1)).reverse).length ≤ 100000 := by simp; omega
            have HDR := Lib.hid (drop_rev hkl)
            generalize H[k] = x at *
            clear hz hk
            go_wp2_with (at_builtin; (refine wpList_append_own_at _ rfl _ _ 33 rfl w.heap.size 3 i0 (.int .i64 0) 1 8 Try.underlying33 hi hz0 hz1 hz2 rfl (by decide) _ _ _ rfl (hown.alloc _) ⟨wr.heap.size, 0, none⟩ 1 1 [.int .i64 (x : Int)] rfl rfl (cell_one_new' _ _ _) (fun x hx => by simp at hx; rw [hx]; rfl) (by unfold maxLen; omega) (by omega) (by simp; omega) ?_); intro v' w3 hown' hgrow3 hnil3 hblk; have HR := Lib.hid (Two.next (x := x) rfl HU.out hsu hown' hgrow3 hblk); clear hown' hgrow3 hnil3 hown hblk)
            go_roundw
            case rel => exact ⟨k, _, rfl, by omega, by omega, by show Two _ _ _ _ _ _ _; rw [HDR.out, ← List.append_assoc]; exact HR.out⟩
            case measure => simp [intOf]
end Go.Proofs.Ytoeailhcobbhjaa
