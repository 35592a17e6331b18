/- DirichletGenerators: the generators and their orders are those of the reference. The reference's check of a character. -/
import Derived.Test.YtlagljnhbhnelaaRgX
import Derived.Test.YtlagljnhbhnelaaOrdX
import Derived.Test.YtlagljnhbhnelaaMuX
namespace Go.Proofs.Ytlagljnhbhnelaa
open Go.RowKit
set_option linter.unusedVariables false
set_option linter.unusedSimpArgs false

theorem rmodu_any (n : Int) (w : World) : Calls Try.prog 15 #[.int .i64 n] w fun e w' => e = .returned (.int .i64 (if 1 ≤ n ∧ n ≤ 60 then 0 else 2)) ∧ w = w' := by
  by_cases h1 : 1 ≤ n
  · by_cases h2 : n ≤ 60
    · rw [if_pos ⟨h1, h2⟩]
      have i1 : ¬ n < 1 := by omega
      have i2 : ¬ 60 < n := by omega
      go_enter Try.func15, Try.ntmps15
      go_wp2
      go_ret
      exact ⟨rfl, rfl⟩
    · rw [if_neg (by omega)]
      have i1 : ¬ n < 1 := by omega
      have i2 : 60 < n := by omega
      go_enter Try.func15, Try.ntmps15
      go_wp2
      go_ret
      exact ⟨rfl, rfl⟩
  · rw [if_neg (by omega)]
    have i1 : n < 1 := by omega
    go_enter Try.func15, Try.ntmps15
    go_wp2
    go_ret
    exact ⟨rfl, rfl⟩
theorem pgen_bad (n : Int) (w : World) (h : ¬ (1 ≤ n ∧ n ≤ 60)) :
    Calls Try.prog 14 #[.int .i64 n] w fun e w' => e = .returned (.tuple #[.slice none 0 0, .slice none 0 0, .int .i64 2]) ∧ w = w' := by
  have HM := Lib.hid (fun W => ismod_any n W)
  rw [decide_eq_false h] at HM
  clear h
  go_enter Try.func14, Try.ntmps14
  go_wp2_with (first
    | (go_at_call 46; ((with_reducible refine (HM.out _).mono ?_); rintro e w1 ⟨rfl, rfl⟩))
    | fail)
  refine bodyPost_ret (v := .tuple #[.slice none 0 0, .slice none 0 0, .int .i64 2]) ?_ rfl ⟨rfl, rfl⟩
  simp [results, Try.results14, go_sem]
def prO (L : List (Nat × Nat)) : Nat := L.foldl (fun a g => a * g.2) 1
set_option maxRecDepth 100000 in
theorem pro_all : (List.range 60).all (fun i => decide (prO (gensV (i + 1)) = phR (i + 1) (i + 1)) && (List.range 9).all fun k => decide (prO ((gensV (i + 1)).take k) ≤ 60)) = true := by decide +kernel
theorem pro_of {n : Nat} (n1 : 1 ≤ n) (n2 : n ≤ 60) : prO (gensV n) = phR n n ∧ ∀ k, k ≤ (gensV n).length → prO ((gensV n).take k) ≤ 60 := by
  have h := List.all_eq_true.1 pro_all (n - 1) (List.mem_range.2 (by omega))
  rw [show n - 1 + 1 = n by omega] at h
  simp only [Bool.and_eq_true, decide_eq_true_eq, List.all_eq_true] at h
  exact ⟨h.1, fun k hk => h.2 k (List.mem_range.2 (by have := (gens_facts n1 n2).len; omega))⟩
theorem prO_step (G : List (Nat × Nat)) (k : Nat) (h : k < G.length) : prO (G.take (k + 1)) = prO (G.take k) * G[k].2 := by
  unfold prO
  rw [List.take_add_one, List.getElem?_eq_getElem h, Option.toList_some, List.foldl_append]; rfl
set_option maxHeartbeats 6400000 in
set_option maxRecDepth 1000000 in
theorem lge_walk (n : Int) (w : World) : Calls Try.prog 3 #[.int .i64 n] w fun e w' => e = .returned (.bool true) ∧ Below w.heap.size w w' := by
  have HA := Lib.hid awake28_any
  have HMo := Lib.hid (fun W => rmodu_any n W)
  by_cases h : 1 ≤ n ∧ n ≤ 60
  · rw [if_pos h] at HMo
    obtain ⟨N, rfl⟩ : ∃ N : Nat, n = (N : Int) := ⟨n.toNat, by omega⟩
    have N1 : 1 ≤ N := by omega
    have HGe : Hid (∀ W : World, Calls Try.prog 14 #[.int .i64 (N : Int)] W fun e w' => ∃ A1 c1 A2 c2, e = .returned (.tuple #[.slice A1 (gensV N).length c1, .slice A2 (gensV N).length c2, .int .i64 0]) ∧ RdZ w' w'.heap.size A1 c1 (m1 (gensV N)) ∧ RdZ w' w'.heap.size A2 c2 (m2 (gensV N)) ∧ Below W.heap.size W w') := fun W => by
      refine (pgen_any N W N1 h.2).mono fun e w' ⟨v1, v2, he, h1, h2, hb⟩ => ?_
      obtain ⟨A1, c1, rfl, hr1⟩ := own_rdz h1
      obtain ⟨A2, c2, rfl, hr2⟩ := own_rdz h2
      rw [List.length_map, List.length_map] at he
      exact ⟨A1, c1, A2, c2, he, hr1, hr2, hb⟩
    have HRg : Hid (∀ W : World, Calls Try.prog 16 #[.int .i64 (N : Int)] W fun e w' => ∃ A1 c1 A2 c2, e = .returned (.tuple #[.slice A1 (gensV N).length c1, .slice A2 (gensV N).length c2]) ∧ RdZ w' w'.heap.size A1 c1 (m1 (gensV N)) ∧ RdZ w' w'.heap.size A2 c2 (m2 (gensV N)) ∧ Below W.heap.size W w') := fun W => by
      refine (rgenr_any N W N1 h.2).mono fun e w' ⟨v1, v2, he, h1, h2, hb⟩ => ?_
      obtain ⟨A1, c1, rfl, hr1⟩ := own_rdz h1
      obtain ⟨A2, c2, rfl, hr2⟩ := own_rdz h2
      rw [List.length_map, List.length_map] at he
      exact ⟨A1, c1, A2, c2, he, hr1, hr2, hb⟩
    have HI : Hid (∀ (f : List Int) (A1 A2 : Option Addr) (c1 c2 B1 B2 : Nat) (W : World), f.length = (gensV N).length → RdZ W B1 A1 c1 f → RdZ W B2 A2 c2 f → Calls Try.prog 17 #[.slice A1 (gensV N).length c1, .slice A2 (gensV N).length c2] W fun e w' => e = .returned (.bool true) ∧ Below W.heap.size W w') := fun f A1 A2 c1 c2 B1 B2 W hf h1 h2 => by
      rw [← hf]
      exact (ints_same (l := f) W h1 h2).mono fun e w' ⟨he, hd⟩ => ⟨he, bel_drewN hd⟩
    have HPh := Lib.hid (fun W => rphi_any N W h.2)
    obtain ⟨hpr, hpk⟩ := pro_of N1 (show N ≤ 60 by omega)
    rw [← hpr] at HPh
    have HPk := Lib.hid hpk
    have HPs := Lib.hid (prO_step (gensV N))
    have HLl : Hid ((m1 (gensV N)).length = (gensV N).length ∧ (m2 (gensV N)).length = (gensV N).length) := ⟨List.length_map .., List.length_map ..⟩
    have HMg : Hid (∀ k (h : k < (gensV N).length) (h2 : k < (m2 (gensV N)).length), (m2 (gensV N))[k] = (((gensV N)[k].2 : Nat) : Int)) := fun k h h2 => by simp [m2]
    have hgl := (gens_facts N1 (show N ≤ 60 by omega)).len
    have HGb := Lib.hid (gens_facts N1 (show N ≤ 60 by omega))
    clear hpr hpk
    generalize gensV N = G at *
    go_enter Try.func3, Try.ntmps3
    go_wp2_with (first
      | (go_at_call 13; ((with_reducible refine (HA.out _).mono ?_); rintro e w1 ⟨rfl, hb⟩; have B1 := Lib.hid hb; clear hb))
      | (go_at_call 14; ((with_reducible refine (HGe.out _).mono ?_); rintro e w2 ⟨A1, c1, A2, c2, rfl, hr1, hr2, hb⟩; have B2 := Lib.hid (B1.out.trans (hb.mono B1.out.size)); have R1 := Lib.hid hr1; have R2 := Lib.hid hr2; clear hb hr1 hr2))
      | (go_at_call 15; ((with_reducible refine (HMo.out _).mono ?_); rintro e w3 ⟨rfl, rfl⟩))
      | (go_at_call 16; ((with_reducible refine (HRg.out _).mono ?_); rintro e w4 ⟨A3, c3, A4, c4, rfl, hr3, hr4, hb⟩; have B4 := Lib.hid (B2.out.trans (hb.mono B2.out.size)); have R3 := Lib.hid hr3; have R4 := Lib.hid hr4; have R1b := Lib.hid ((R1.out.below hb).mono hb.size); have R2b := Lib.hid ((R2.out.below hb).mono hb.size); clear hb hr3 hr4))
      | fail)
    go_loopw [9, 10] (fun X I wr => ∃ k x : Nat, X = .int .i64 (x : Int) ∧ I = .int .i64 (k : Int) ∧ k ≤ G.length ∧ Hid (prO (G.take k) = x) ∧ wr = w4) (fun _ I _ => G.length - (intOf I).toNat)
    case atStart => exact ⟨0, 1, rfl, rfl, Nat.zero_le _, rfl, rfl⟩
    case round =>
      obtain ⟨k, x, rfl, rfl, hk, HX, hwr⟩ := hrel
      obtain rfl : w4 = wr := hwr.symm
      have hx60 : x ≤ 60 := by rw [← HX.out]; exact HPk.out k hk
      by_cases hkl : k < G.length
      · have hkli : (k : Int) < (G.length : Int) := by omega
        obtain ⟨b, o, rfl, _, y1⟩ := R2b.out.at_ (k := k) (by rw [HLl.out.2]; exact hkl)
        rw [HMg.out k hkl] at y1
        have hs := HPs.out k hkl
        rw [HX.out] at hs
        have hx2 := HPk.out (k + 1) (by omega)
        rw [hs] at hx2
        have HN := Lib.hid hs
        generalize G[k].2 = o2 at *
        have hm : (x : Int) * (o2 : Int) = ((x * o2 : Nat) : Int) := (Int.natCast_mul _ _).symm
        clear hs
        generalize x * o2 = z at *
        have hwz : IntKind.i64.wrap (z : Int) = (z : Int) := IntWalk.i64_in _ (by omega)
        go_wp2
        go_roundw
        case rel => exact ⟨k + 1, z, rfl, by go_num, by omega, HN.out, trivial⟩
        case measure => simp [intOf]; omega
      · obtain rfl : k = G.length := by omega
        have hk3 : ¬ (G.length : Int) < (G.length : Int) := by omega
        rw [List.take_length] at HX
        rw [HX.out] at HPh
        go_wp2_with (first
          | (go_at_call 17; first
              | ((with_reducible refine (HI.out _ _ _ _ _ _ _ _ HLl.out.1 R1b.out R3.out).mono ?_); rintro e w5 ⟨rfl, hb⟩; have B5 := Lib.hid hb; clear hb)
              | ((with_reducible refine (HI.out _ _ _ _ _ _ _ _ HLl.out.2 (R2b.out.below B5.out) (R4.out.below B5.out)).mono ?_); rintro e w6 ⟨rfl, hb⟩; have B6 := Lib.hid (B5.out.trans (hb.mono B5.out.size)); clear hb)
              | fail)
          | (go_at_call 18; ((with_reducible refine (HPh.out _).mono ?_); rintro e w7 ⟨rfl, hb⟩; have B7 := Lib.hid (B6.out.trans (hb.mono B6.out.size)); clear hb))
          | fail)
        go_ret
        exact ⟨by first | rfl | simp, B4.out.trans (B7.out.mono B4.out.size)⟩
  · rw [if_neg h] at HMo
    have HGe := Lib.hid (fun W => pgen_bad n W h)
    clear h
    go_enter Try.func3, Try.ntmps3
    go_wp2_with (first
      | (go_at_call 13; ((with_reducible refine (HA.out _).mono ?_); rintro e w1 ⟨rfl, hb⟩; have B1 := Lib.hid hb; clear hb))
      | (go_at_call 14; ((with_reducible refine (HGe.out _).mono ?_); rintro e w2 ⟨rfl, rfl⟩))
      | (go_at_call 15; ((with_reducible refine (HMo.out _).mono ?_); rintro e w3 ⟨rfl, rfl⟩))
      | fail)
    go_ret
    exact ⟨by first | rfl | simp, B1.out⟩
end Go.Proofs.Ytlagljnhbhnelaa
namespace Go.Proofs.Ytlagljnhbhnelaa
open Go.RowKit
set_option linter.unusedVariables false
set_option linter.unusedSimpArgs false

set_option maxHeartbeats 3200000 in
set_option maxRecDepth 1000000 in
theorem rchk_any (n : Int) (E : List Int) (A : Option Addr) (c : Nat) (w : World) (hE : RdZ w w.heap.size A c E) :
    Calls Try.prog 23 #[.agg #[.int .i64 n, .slice A E.length c]] w fun e w' => e = .returned (.int .i64 (chkV n E)) ∧ Below w.heap.size w w' := by
  have X0 : Hid ((w.alloc (.cells #[.int .i64 n, .slice A E.length c] 33)).heap[w.heap.size]? = some (.cells #[.int .i64 n, .slice A E.length c] 33 (0, 0))) := heap_alloc_new w _
  have B0 : Hid (Below w.heap.size w (w.alloc (.cells #[.int .i64 n, .slice A E.length c] 33))) := below1 w _
  obtain ⟨x0, x1, _⟩ := cells_two X0.out
  have HMo := Lib.hid (fun W => rmodu_any n W)
  have hel := hE.len
  by_cases h : 1 ≤ n ∧ n ≤ 60
  · rw [if_pos h] at HMo
    obtain ⟨N, rfl⟩ : ∃ N : Nat, n = (N : Int) := ⟨n.toNat, by omega⟩
    have N1 : 1 ≤ N := by omega
    have hcv : chkV (N : Int) E = ckX N E := by unfold chkV; rw [if_pos h, Int.toNat_natCast]
    have HCk : Hid (ckX N E = if E.length = (gensV N).length then exL E (gensV N) else 4) := rfl
    rw [hcv]
    have HRg : Hid (∀ W : World, Calls Try.prog 16 #[.int .i64 (N : Int)] W fun e w' => ∃ A1 c1 A2 c2, e = .returned (.tuple #[.slice A1 (gensV N).length c1, .slice A2 (gensV N).length c2]) ∧ RdZ w' w'.heap.size A2 c2 (m2 (gensV N)) ∧ Below W.heap.size W w') := fun W => by
      refine (rgenr_any N W N1 h.2).mono fun e w' ⟨v1, v2, he, h1, h2, hb⟩ => ?_
      obtain ⟨A1, c1, rfl, hr1⟩ := own_rdz h1
      obtain ⟨A2, c2, rfl, hr2⟩ := own_rdz h2
      rw [List.length_map, List.length_map] at he
      exact ⟨A1, c1, A2, c2, he, hr2, hb⟩
    have HLl : Hid ((m2 (gensV N)).length = (gensV N).length) := List.length_map ..
    have HMg : Hid (∀ k (h : k < (gensV N).length) (h2 : k < (m2 (gensV N)).length), (m2 (gensV N))[k] = (((gensV N)[k].2 : Nat) : Int)) := fun k h h2 => by simp [m2]
    have hgl := (gens_facts N1 (show N ≤ 60 by omega)).len
    have HGb := Lib.hid (gens_facts N1 (show N ≤ 60 by omega))
    have HE0 := Lib.hid hE
    clear hE hcv
    generalize ckX N E = r at *
    generalize gensV N = G at *
    go_enter Try.func23, Try.ntmps23
    go_upto_region 5 with (first
      | (go_at_call 15; ((with_reducible refine (HMo.out _).mono ?_); rintro e w1 ⟨rfl, rfl⟩))
      | (go_at_call 16; ((with_reducible refine (HRg.out _).mono ?_); rintro e w2 ⟨A1, c1, A2, c2, rfl, hr, hb⟩; have B2 := Lib.hid (B0.out.trans (hb.mono B0.out.size)); have X2 := Lib.hid (block_below X0.out hb); have HR := Lib.hid hr; clear x0 x1 hb hr))
      | fail)
    obtain ⟨x0, x1, _⟩ := cells_two X2.out
    by_cases hl : E.length = G.length
    · rw [if_pos hl] at HCk
      have hl2 : ((E.length : Int) != (G.length : Int)) = false := by rw [bne_eq_false_iff_eq]; omega
      have HL := Lib.hid hl
      clear hl
      go_wp2
      go_loopw [6] (fun I wr => ∃ k : Nat, I = .int .i64 (k : Int) ∧ k ≤ G.length ∧ Hid (exL (E.drop k) (G.drop k) = r) ∧ Hid (Below w2.heap.size w2 wr)) (fun I _ => G.length - (intOf I).toNat)
      case atStart => exact ⟨0, rfl, Nat.zero_le _, by show _ = _; rw [HCk.out]; rfl, Below.refl _ _⟩
      case round =>
        clear x0 x1
        obtain ⟨k, rfl, hk, HX, HW⟩ := hrel
        by_cases hkl : k < G.length
        · have hkli : (k : Int) < (G.length : Int) := by omega
          have hke : k < E.length := by have := HL.out; omega
          have hkle : (k : Int) < (E.length : Int) := by omega
          obtain ⟨b, o, rfl, hb, y1⟩ := (((HE0.out.below B2.out).mono B2.out.size).below HW.out).at_ hke
          obtain ⟨b2, o2, rfl, hb2, y2⟩ := (HR.out.below HW.out).at_ (k := k) (by rw [HLl.out]; exact hkl)
          rw [HMg.out k hkl] at y2
          have HX2 := Lib.hid ((exL_at hke hkl).symm.trans HX.out)
          have g2 := HGb.out.o2 _ (List.getElem_mem hkl)
          have z2 := (cells_two (block_below X2.out HW.out)).2.1
          clear HX
          generalize E[k] = x at *
          generalize G[k] = f at *
          obtain ⟨p, q⟩ := f
          simp only at y2 g2 HX2
          have HWd : Hid (Below w2.heap.size w2 wr.drew) := HW.out.drew
          by_cases hx : 0 ≤ x
          · by_cases hxq : x < (q : Int)
            · rw [if_pos ⟨hx, hxq⟩] at HX2
              have i1 : ¬ x < 0 := by omega
              have i2 : ¬ (q : Int) ≤ x := by omega
              go_upto_region 10 with fail
              go_region
              go_wp2
              go_roundw
              case rel => exact ⟨k + 1, by go_num, by omega, HX2.out, HWd.out⟩
              case measure => simp [intOf]; omega
            · rw [if_neg (by omega)] at HX2
              have HR3 : Hid (r = 3) := HX2.out.symm
              have i1 : ¬ x < 0 := by omega
              have i2 : (q : Int) ≤ x := by omega
              clear HX2
              go_upto_region 10 with fail
              go_region
              go_wp2
              go_ret
              exact ⟨by rw [HR3.out]; rfl, B2.out.trans (HWd.out.mono B2.out.size)⟩
          · rw [if_neg (by omega)] at HX2
            have HR3 : Hid (r = 3) := HX2.out.symm
            have i1 : x < 0 := by omega
            clear HX2
            go_upto_region 10 with fail
            go_region
            go_wp2
            go_ret
            exact ⟨by rw [HR3.out]; rfl, B2.out.trans (HWd.out.mono B2.out.size)⟩
        · obtain rfl : k = G.length := by omega
          have hk3 : ¬ (G.length : Int) < (G.length : Int) := by omega
          have HR0 : Hid (r = 0) := by show _ = _; rw [← HX.out, List.drop_eq_nil_of_le (Nat.le_refl _), List.drop_eq_nil_of_le (by have := HL.out; omega)]; rfl
          go_wp2
          go_ret
          exact ⟨by rw [HR0.out]; rfl, B2.out.trans (HW.out.mono B2.out.size)⟩
    · rw [if_neg hl] at HCk
      have hl2 : ((E.length : Int) != (G.length : Int)) = true := by rw [bne_iff_ne]; omega
      go_wp2
      go_ret
      exact ⟨by rw [HCk.out]; rfl, B2.out⟩
  · rw [if_neg h] at HMo
    have hcv : chkV n E = 2 := by unfold chkV; rw [if_neg h]
    rw [hcv]
    clear h hcv
    go_enter Try.func23, Try.ntmps23
    go_wp2_with (first
      | (go_at_call 15; ((with_reducible refine (HMo.out _).mono ?_); rintro e w1 ⟨rfl, rfl⟩))
      | fail)
    go_ret
    exact ⟨rfl, B0.out⟩
end Go.Proofs.Ytlagljnhbhnelaa
