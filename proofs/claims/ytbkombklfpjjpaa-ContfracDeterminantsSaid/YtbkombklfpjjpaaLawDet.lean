/- ContfracDeterminants answers true for all lists: what it does to the world. -/
import Derived.Test.YtbkombklfpjjpaaLawConv
import Derived.Test.YtbkombklfpjjpaaPathO
import Derived.Test.YtbkombklfpjjpaaLawMed
import Derived.IntWalk
namespace Go.Proofs.Ytbkombklfpjjpaa
open Go.RowKit

theorem det_fact {l : List Int} {C : List (Int × Int)} (hel : ElK l l.length) (hc : cvg 0 1 1 0 l = some C) (k : Nat) (h : k + 1 < C.length) :
    (C[k + 1].1 * C[k].2 - C[k].1 * C[k + 1].2 = if k % 2 = 0 then 1 else -1) ∧ C[k].2 ≤ C[k + 1].2 ∧ cuspI C[k + 1].1 C[k + 1].2 = 0 := by
  have hd := dets_at C (-1) (cvg_dets0 hel hc) k h
  have h1 := cvg_den hel hc k (by omega)
  have h2 := cvg_den hel hc (k + 1) h
  have hi := cvg_in _ _ _ _ _ _ hc C[k + 1] (List.getElem_mem _)
  obtain ⟨hd1, hd2⟩ := hd
  have e : C[k + 1].1 * C[k].2 - C[k].1 * C[k + 1].2 = if k % 2 = 0 then 1 else -1 := by
    split at hd1
    · rename_i hk; rw [if_pos hk]; omega
    · rename_i hk; rw [if_neg hk]; omega
  refine ⟨e, by omega, cuspI_zero.2 ⟨hi.1, (inE_iff.1 hi.2).2, ⟨?_, by omega, fun h => by omega⟩⟩⟩
  split at e
  · exact cop_of_det e
  · refine cop_of_det (b := -C[k].2) (a := -C[k].1) ?_
    rw [Int.mul_neg, Int.neg_mul]; omega
theorem bel_drew {w w' : World} (h : Below w.drew.heap.size w.drew w') : Below w.heap.size w w' := ((Below.refl _ w).drew).trans h
theorem c4_below {W W' : World} {B b i j p q : Nat} {v0 v1 v2 v3 : Value} (h : W.cell? ⟨b, i, none⟩ = some v0 ∧ W.cell? ⟨b, j, none⟩ = some v1 ∧ W.cell? ⟨b, p, none⟩ = some v2 ∧ W.cell? ⟨b, q, none⟩ = some v3) (hb : Below B W W') (hl : b < B) :
    W'.cell? ⟨b, i, none⟩ = some v0 ∧ W'.cell? ⟨b, j, none⟩ = some v1 ∧ W'.cell? ⟨b, p, none⟩ = some v2 ∧ W'.cell? ⟨b, q, none⟩ = some v3 :=
  ⟨(hb.cell (p := ⟨b, i, none⟩) hl).trans h.1, (hb.cell (p := ⟨b, j, none⟩) hl).trans h.2.1, (hb.cell (p := ⟨b, p, none⟩) hl).trans h.2.2.1, (hb.cell (p := ⟨b, q, none⟩) hl).trans h.2.2.2⟩
theorem awake_det (l : List Int) (h : 100 < l.length) (A : Option Addr) (c : Nat) (w : World) (hl : (l.length : Int) ≤ 9223372036854775807) :
    Calls Try.prog 5 #[.slice A l.length c] w fun e w' => e = .returned (.bool true) ∧ Below w.heap.size w w' := by
  have h1 : (100 : Int) < (l.length : Int) := by omega
  go_enter Try.func5, Try.ntmps5
  go_wp2_with (first
    | (go_at_call 13; ((with_reducible refine (awake_any _).mono ?_); rintro e w1 ⟨rfl, hb⟩; have HB := Lib.hid hb; clear hb))
    | fail)
  go_ret
  exact ⟨rfl, HB.out⟩
set_option maxHeartbeats 6400000 in
set_option maxRecDepth 1000000 in
theorem determinants_walk (l : List Int) (w : World) {A : Option Addr} {c : Nat} (f : RdZ w w.heap.size A c l ∧ (A = none → c = 0)) :
    Calls Try.prog 5 #[.slice A l.length c] w fun e w' => e = .returned (.bool true) ∧ Below w.heap.size w w' := by
  have hl := f.1.len
  by_cases h100 : 100 < l.length
  · exact awake_det l h100 A c w hl
  have R0 := Lib.hid f.1
  have HA := Lib.hid f.2
  have h1 : (l.length : Int) ≤ 100 := by omega
  have HL : Hid (l.length ≤ 1000) := by show _ ≤ _; omega
  have HC := Lib.hid (fun W A c (h : RdZ W W.heap.size A c l) => convX_any W h)
  clear f h100
  rcases cv_cases l with ⟨h0, hne, hel, hcv⟩ | ⟨h0, hnil⟩
  · have hlen : (cvl l).length = l.length := cvg_len _ _ _ _ _ _ hcv
    have hpos : 0 < l.length := List.length_pos_iff.2 hne
    obtain ⟨L, hL⟩ : ∃ L, (cvl l).length = L + 1 := ⟨l.length - 1, by omega⟩
    have HD := Lib.hid (fun k h => det_fact (elB_of hel).2 hcv k h)
    have HI := Lib.hid (fun x hx => cvg_in _ _ _ _ _ _ hcv x hx)
    have HO : Hid (∀ (W : World) A c b, W.ownsRow b 23 2 (.slice A (L + 1) c) (L + 1) (cs (cvl l)) → RdC W W.heap.size A c (cvl l)) := fun W A c b h => own_rdc (by rw [hL]; exact h)
    have HLL := Lib.hid hL
    have hLL : (L : Int) + 1 ≤ 100 := by omega
    have hq : ((L : Int) + 1 != (l.length : Int)) = false := by rw [bne_eq_false_iff_eq]; omega
    rw [h0, hL] at HC
    clear h0 hne hel hcv hpos hlen hL
    generalize cvl l = C at *
    go_enter Try.func5, Try.ntmps5
    go_wp2_with (first
      | (go_at_call 13; ((with_reducible refine (awake_any _).mono ?_); rintro e w1 ⟨rfl, hb⟩; have R1 := Lib.hid (R0.out.below hb); have HB1 := Lib.hid hb; have HZ1 : Hid (w.heap.size ≤ w1.heap.size) := hb.size; clear hb))
      | (at_builtin; (refine app_copy (w0 := w1) rfl _ _ rfl rfl rfl R1.out HZ1.out HA.out HL.out ?_); intro A2 c2 w2 hr hb; have R2 := Lib.hid hr; have HB2 : Hid (Below w.heap.size w w2) := bel0 HB1.out hb; clear hr hb)
      | (go_at_call 18; ((with_reducible refine (HC.out _ _ _ R2.out).mono ?_); rintro e w3 ⟨A3, c3, rfl, ho, hb⟩; have C3 := Lib.hid (HO.out _ _ _ _ ho); have HB3 : Hid (Below w.heap.size w w3) := bel0 HB2.out hb; clear ho hb))
      | fail)
    go_loopw [5] (fun i wr => ∃ (k : Nat) (z : Int), z = (k : Int) + 1 ∧ i = .int .i64 z ∧ Hid (RdC wr w3.heap.size A3 c3 C) ∧ Hid (Below w.heap.size w wr) ∧ Hid (w3.heap.size ≤ wr.heap.size)) (fun i _ => L + 1 - (intOf i).toNat)
    case atStart => exact ⟨0, 1, rfl, rfl, C3.out, HB3.out, Nat.le_refl _⟩
    case round =>
      obtain ⟨k, z, hz, rfl, RC, HB, HS⟩ := hrel
      by_cases hlt : k + 1 < L + 1
      · have hlt2 : k + 1 < C.length := by rw [HLL.out]; exact hlt
        obtain ⟨b1, o1, rfl, hb1, _, _⟩ := RC.out.at_ (show k < C.length by omega)
        obtain ⟨x1, x2⟩ := RC.out.get (List.getElem?_eq_getElem (show k < C.length by omega))
        obtain ⟨x3, x4⟩ := RC.out.get (List.getElem?_eq_getElem hlt2)
        obtain ⟨e1, e2, e3⟩ := HD.out k hlt2
        obtain ⟨r1, r2⟩ := HI.out C[k] (List.getElem_mem _)
        obtain ⟨r3, r4⟩ := HI.out C[k + 1] (List.getElem_mem _)
        have HCC := Lib.hid (fun W => checkCusp_any C[k + 1].1 C[k + 1].2 W)
        rw [e3] at HCC
        generalize C[k].1 = P at *
        generalize C[k].2 = Q at *
        generalize C[k + 1].1 = R at *
        generalize C[k + 1].2 = T at *
        obtain ⟨p1, p2⟩ := inE_iff.1 r1
        obtain ⟨q1, q2⟩ := inE_iff.1 r2
        obtain ⟨s1, s2⟩ := inE_iff.1 r3
        obtain ⟨t1, t2⟩ := inE_iff.1 r4
        obtain ⟨m1, m2⟩ := prod_le p1 p2 t1 t2
        obtain ⟨m3, m4⟩ := prod_le s1 s2 q1 q2
        have h1 : z < (L : Int) + 1 := by omega
        have h2 : 0 ≤ z := by omega
        have h3 : 0 ≤ z - 1 := by omega
        have h4 : z - 1 < (L : Int) + 1 := by omega
        have h5 : z.toNat = k + 1 := by omega
        have h6 : (z - 1).toNat = k := by omega
        have h7 : z ≤ 100 := by omega
        have h8 : 1 ≤ z := by omega
        have HZ := Lib.hid hz
        have X1 : Hid (wr.cell? ⟨b1, o1 + k * 2, none⟩ = some (.int .i64 P) ∧ wr.cell? ⟨b1, o1 + k * 2 + 1, none⟩ = some (.int .i64 Q) ∧ wr.cell? ⟨b1, o1 + (k + 1) * 2, none⟩ = some (.int .i64 R) ∧ wr.cell? ⟨b1, o1 + (k + 1) * 2 + 1, none⟩ = some (.int .i64 T)) := ⟨x1, x2, x3, x4⟩
        have hpar : (z % 2 = 1 ∧ R * Q - P * T = 1) ∨ (z % 2 = 0 ∧ R * Q - P * T = -1) := by
          split at e1
          · exact .inl ⟨by omega, e1⟩
          · exact .inr ⟨by omega, e1⟩
        clear hz r1 r2 r3 r4 p1 p2 q1 q2 s1 s2 t1 t2 e1 e3 x1 x2 x3 x4
        rcases hpar with ⟨hp1, hp2⟩ | ⟨hp1, hp2⟩
        all_goals
          go_upto_region 13 with fail
          have u1 : IntKind.i64.wrap (z - 1) = z - 1 := IntWalk.i64_in _ (by omega)
          have u2 : IntKind.i64.wrap (R * Q) = R * Q := IntWalk.i64_in _ (by omega)
          have u3 : IntKind.i64.wrap (P * T) = P * T := IntWalk.i64_in _ (by omega)
          have u4 : IntKind.i64.wrap 1 = 1 := by decide
          have u5 : IntKind.i64.wrap (-1) = -1 := by decide
          have u6 : IntKind.i64.wrap 2 = 2 := by decide
          have u7 : IntKind.i64.wrap 0 = 0 := by decide
          have u9 : decide (T < Q) = false := by simp; omega
          have u8 : z.tmod 2 = z % 2 := Int.tmod_eq_emod_of_nonneg h2
          rw [hp1] at u8
          have XD : Hid (wr.drew.cell? ⟨b1, o1 + k * 2, none⟩ = some (.int .i64 P) ∧ wr.drew.cell? ⟨b1, o1 + k * 2 + 1, none⟩ = some (.int .i64 Q) ∧ wr.drew.cell? ⟨b1, o1 + (k + 1) * 2, none⟩ = some (.int .i64 R) ∧ wr.drew.cell? ⟨b1, o1 + (k + 1) * 2 + 1, none⟩ = some (.int .i64 T)) := X1.out
          go_region_held3 (fun w' => w'.cell? ⟨b1, o1 + k * 2, none⟩ = some (.int .i64 P) ∧ w'.cell? ⟨b1, o1 + k * 2 + 1, none⟩ = some (.int .i64 Q) ∧ w'.cell? ⟨b1, o1 + (k + 1) * 2, none⟩ = some (.int .i64 R) ∧ w'.cell? ⟨b1, o1 + (k + 1) * 2 + 1, none⟩ = some (.int .i64 T))
            (with_reducible first | exact XD.out | exact XC.out | fail)
            (first
              | (go_at_call 21; ((with_reducible refine (HCC.out _).mono ?_); rintro e wc ⟨rfl, hb⟩; have XC : Hid (wc.cell? ⟨b1, o1 + k * 2, none⟩ = some (.int .i64 P) ∧ wc.cell? ⟨b1, o1 + k * 2 + 1, none⟩ = some (.int .i64 Q) ∧ wc.cell? ⟨b1, o1 + (k + 1) * 2, none⟩ = some (.int .i64 R) ∧ wc.cell? ⟨b1, o1 + (k + 1) * 2 + 1, none⟩ = some (.int .i64 T)) := c4_below XD.out hb (by have := HS.out; show b1 < wr.heap.size; omega); have HBC := Lib.hid hb; clear hb))
              | fail)
          go_wp2
          go_roundw
          case rel => exact ⟨k + 1, z + 1, by have := HZ.out; omega, rfl, RC.out.below (Below.mono (bel_drew HBC.out) HS.out), HB.out.trans (Below.mono (bel_drew HBC.out) HB.out.size), Nat.le_trans HS.out (show wr.heap.size ≤ wc.heap.size from HBC.out.size)⟩
          case measure => have := HZ.out; simp [intOf]; omega
      · have hge : (L : Int) + 1 ≤ z := by omega
        clear hz hlt
        go_wp2
        go_ret
        exact ⟨rfl, HB.out⟩
  · have hk : ¬ cvI l = 0 := by omega
    have hk1 : (cvI l != 0) = true := by simpa using hk
    rw [hnil] at HC
    clear h0 hk hnil
    generalize cvI l = j at *
    go_enter Try.func5, Try.ntmps5
    go_wp2_with (first
      | (go_at_call 13; ((with_reducible refine (awake_any _).mono ?_); rintro e w1 ⟨rfl, hb⟩; have R1 := Lib.hid (R0.out.below hb); have HB1 := Lib.hid hb; have HZ1 : Hid (w.heap.size ≤ w1.heap.size) := hb.size; clear hb))
      | (at_builtin; (refine app_copy (w0 := w1) rfl _ _ rfl rfl rfl R1.out HZ1.out HA.out HL.out ?_); intro A2 c2 w2 hr hb; have R2 := Lib.hid hr; have HB2 : Hid (Below w.heap.size w w2) := bel0 HB1.out hb; clear hr hb)
      | (go_at_call 18; ((with_reducible refine (HC.out _ _ _ R2.out).mono ?_); rintro e w3 ⟨A3, c3, rfl, ho, hb⟩; have HB3 : Hid (Below w.heap.size w w3) := bel0 HB2.out hb; clear ho hb))
      | fail)
    go_ret
    exact ⟨rfl, HB3.out⟩
end Go.Proofs.Ytbkombklfpjjpaa
