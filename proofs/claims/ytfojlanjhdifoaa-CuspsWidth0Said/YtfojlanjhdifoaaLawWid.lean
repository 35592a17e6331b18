/- CuspsWidth0 answers true for all integers and all cusps. -/
import Derived.Test.YtfojlanjhdifoaaWidL
import Derived.Test.YtfojlanjhdifoaaAwakeL
namespace Go.Proofs.Ytfojlanjhdifoaa
open Go.RowKit
set_option linter.unusedVariables false

theorem wsum_take (n : Nat) (C : List (Int × Int)) (i : Nat) : wsum n (C.take i) ≤ wsum n C := by
  conv => rhs; rw [← List.take_append_drop i C, wsum_append]
  omega
theorem wsum_next (n : Nat) (C : List (Int × Int)) {i : Nat} (h : i < C.length) : wsum n (C.take (i + 1)) = wsum n (C.take i) + wid n C[i].2.toNat := by
  rw [List.take_add_one, List.getElem?_eq_getElem h, Option.toList_some, wsum_append]
  rfl
theorem width0_L0 {n : Nat} {c : Int × Int} (n1 : 1 ≤ n) (n2 : n ≤ 120) (hl : lvI n = 0) (h : c ∈ L0 n) (w : World) : Calls Try.prog 6 #[.int .i64 n, .agg #[.int .i64 c.1, .int .i64 c.2]] w fun e w' => e = .returned (.tuple #[.int .i64 (wid n c.2.toNat : Nat), .int .i64 0]) ∧ Below w.heap.size w w' := by
  obtain ⟨p, d, rfl, h1, _, _, h2, h3, h4⟩ := mem_L0 n1 n2 h
  have hk : ckW n p d = 0 := by unfold ckW; rw [if_pos hl]; exact ck1_L0 h1 h2 h3 h4
  have hw : wdI n p d = ((wid n d : Nat) : Int) := by
    unfold wdI
    rw [if_pos hk, ← Int.natCast_mul]
    rfl
  have := width0_any n p d w
  rw [hk, hw] at this
  exact this
set_option maxHeartbeats 6400000 in
set_option maxRecDepth 1000000 in
theorem width0_walk (n p q : Int) (w : World) :
    Calls Try.prog 3 #[.int .i64 n, .agg #[.int .i64 p, .int .i64 q]] w fun e w' => e = .returned (.bool true) ∧ Below w.heap.size w w' := by
  have HL := Lib.hid (fun W => list0_all n W)
  have HV := Lib.hid (fun W => width0_any n p q W)
  have HR := Lib.hid (fun W => rwidth0_any n p q W)
  by_cases hl : lvI n = 0
  case neg =>
    generalize L0I n = C at *
    generalize lvI n = z at *
    generalize wdI n p q = v at *
    generalize ckW n p q = k at *
    go_enter Try.func3, Try.ntmps3
    go_wp2_with (first
      | (go_at_call 5; ((with_reducible refine (awake_any _).mono ?_); rintro e w1 ⟨rfl, hb⟩; have T : Hid (Two w1 w.heap.size p q) := (Two.at w rfl p q).below hb; have HB1 := Lib.hid (bel1 (Below.refl _ _) hb); obtain ⟨c1, c2⟩ := T.out.cells; have hz := T.out.lt; clear hb))
      | (go_at_call 6; ((with_reducible refine (HV.out _).mono ?_); rintro e w2 ⟨rfl, hb⟩; have T2 := Lib.hid (T.out.below hb); have HB2 := Lib.hid (bel0 HB1.out hb); clear hb c1 c2 hz; obtain ⟨c1, c2⟩ := T2.out.cells; have hz := T2.out.lt))
      | (go_at_call 7; ((with_reducible refine (HR.out _).mono ?_); rintro e w3 ⟨rfl, hb⟩; have HB3 := Lib.hid (bel0 HB2.out hb); clear hb c1 c2 hz))
      | (go_at_call 8; ((with_reducible refine (HL.out _).mono ?_); rintro e w4 ⟨A, c, rfl, hr, hb⟩; have HB4 := Lib.hid (bel0 HB3.out hb); clear hb hr))
      | fail)
    go_ret
    exact ⟨rfl, HB4.out⟩
  obtain ⟨m, rfl, n1, n2⟩ := lv_nat hl
  have HF := Lib.hid (wid_of n1 (show m ≤ 120 by omega))
  have HE : Hid (∀ (c : Int × Int), c ∈ L0 m → ∀ W, Calls Try.prog 6 #[.int .i64 m, .agg #[.int .i64 c.1, .int .i64 c.2]] W fun e w' => e = .returned (.tuple #[.int .i64 (wid m c.2.toNat : Nat), .int .i64 0]) ∧ Below W.heap.size W w') := fun c h W => width0_L0 n1 (by omega) hl h W
  have HI := Lib.hid (fun W => gindex_any m W n1 n2)
  have hbd : psiN m ≤ 1000 := by
    have := HF.out.bd _ (Nat.le_refl _)
    rw [List.take_length] at this
    exact this
  have HS : Hid (wsum m (L0 m) = psiN m) := HF.out.sum
  have hlen : (L0 m).length ≤ 14641 := len_L0 n1 (by omega)
  rw [hl, show L0I m = L0 m from by unfold L0I; rw [if_pos hl]; rfl] at HL
  generalize hC : L0 m = C at *
  generalize wdI m p q = v at *
  generalize ckW m p q = k at *
  clear HF hC hl
  generalize psiN m = s at *
  go_enter Try.func3, Try.ntmps3
  go_wp2_with (first
    | (go_at_call 5; ((with_reducible refine (awake_any _).mono ?_); rintro e w1 ⟨rfl, hb⟩; have T : Hid (Two w1 w.heap.size p q) := (Two.at w rfl p q).below hb; have HB1 := Lib.hid (bel1 (Below.refl _ _) hb); obtain ⟨c1, c2⟩ := T.out.cells; have hz := T.out.lt; clear hb))
    | (go_at_call 6; ((with_reducible refine (HV.out _).mono ?_); rintro e w2 ⟨rfl, hb⟩; have T2 := Lib.hid (T.out.below hb); have HB2 := Lib.hid (bel0 HB1.out hb); clear hb c1 c2 hz; obtain ⟨c1, c2⟩ := T2.out.cells; have hz := T2.out.lt))
    | (go_at_call 7; ((with_reducible refine (HR.out _).mono ?_); rintro e w3 ⟨rfl, hb⟩; have HB3 := Lib.hid (bel0 HB2.out hb); clear hb c1 c2 hz))
    | (go_at_call 8; ((with_reducible refine (HL.out _).mono ?_); rintro e w4 ⟨A, c, rfl, hr, hb⟩; have HB4 := Lib.hid (bel0 HB3.out hb); have HD := Lib.hid hr; clear hb hr))
    | fail)
  go_loopw [11, 12, 13, 14] (fun X I _ _ wr => ∃ i : Nat, I = .int .i64 (i : Nat) ∧ i ≤ C.length ∧ X = .int .i64 (wsum m (C.take i) : Nat) ∧ Hid (Below w4.heap.size w4 wr)) (fun _ I _ _ _ => C.length - (intOf I).toNat)
  case atStart => exact ⟨0, rfl, Nat.zero_le _, by simp [wsum], Below.refl _ _⟩
  case round =>
    obtain ⟨i, rfl, hi, rfl, HW⟩ := hrel
    by_cases hil : i < C.length
    · have hili : (i : Int) < (C.length : Int) := by omega
      obtain ⟨b, o, rfl, hbb, y1, y2⟩ := HD.out.at_ hil
      have x1 : wr.cell? ⟨b, o + i * 2, none⟩ = some (.int .i64 C[i].1) := (HW.out.cell (p := ⟨b, o + i * 2, none⟩) hbb).trans y1
      have x2 : wr.cell? ⟨b, o + i * 2 + 1, none⟩ = some (.int .i64 C[i].2) := (HW.out.cell (p := ⟨b, o + i * 2 + 1, none⟩) hbb).trans y2
      have hgw : b < wr.heap.size := Nat.lt_of_lt_of_le hbb HW.out.size
      have HN := Lib.hid (wsum_next m C hil)
      have h1 := wsum_take m C (i + 1)
      have HX := Lib.hid (fun W => HE.out C[i] (List.getElem_mem hil) W)
      rw [HS.out, HN.out] at h1
      clear y1 y2
      generalize wid m C[i].2.toNat = u at *
      generalize C[i].1 = p' at *
      generalize C[i].2 = q' at *
      generalize wsum m (C.take i) = x at *
      go_wp2_with (first
        | (go_at_call 6; ((with_reducible refine (HX.out _).mono ?_); rintro e w5 ⟨rfl, hb⟩; have HB5 : Hid (Below w4.heap.size w4 w5) := HW.out.trans (hb.mono HW.out.size); clear hb x1 x2 hgw))
        | fail)
      go_roundw
      case rel => exact ⟨i + 1, by go_num, by omega, by rw [HN.out]; go_num, HB5.out⟩
      case measure => simp [intOf]; omega
    · obtain rfl : i = C.length := by omega
      have hk3 : ¬ (C.length : Int) < (C.length : Int) := by omega
      have HZ : Hid (wsum m (C.take C.length) = s) := by show _ = _; rw [List.take_length]; exact HS.out
      rw [HZ.out]
      go_wp2_with (first
        | (go_at_call 9; ((with_reducible refine (HI.out _).mono ?_); rintro e w5 ⟨rfl, hb⟩; have HB5 : Hid (Below w.heap.size w w5) := bel0 HB4.out ((HW.out.trans (hb.mono HW.out.size)))  ; clear hb))
        | fail)
      go_ret
      exact ⟨rfl, HB5.out⟩
end Go.Proofs.Ytfojlanjhdifoaa
