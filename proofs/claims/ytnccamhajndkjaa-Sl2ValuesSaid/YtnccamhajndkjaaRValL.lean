/- The contract of the reference's Value. -/
import Derived.Test.YtnccamhajndkjaaValL
import Derived.Test.YtnccamhajndkjaaRGenL
import Derived.Deep.RegionWith
import Derived.Deep.Cut
namespace Go.Proofs.Ytnccamhajndkjaa
open Go.RowKit

theorem timesS_any (a b c d : Int) (w : World) (h : fitB a b c d = true) :
    Calls Try.prog 39 #[.agg #[.int .i64 a, .int .i64 b, .int .i64 c, .int .i64 d], .agg #[.int .i64 0, .int .i64 (-1), .int .i64 1, .int .i64 0]] w fun e w' =>
      e = .returned (.agg #[.int .i64 b, .int .i64 (-a), .int .i64 d, .int .i64 (-c)]) ∧ Below w.heap.size w w' := by
  have k := times_yes a b c d 0 (-1) 1 0 w h (by decide)
  rw [show a * 0 + b * 1 = b by omega, show a * -1 + b * 0 = -a by omega, show c * 0 + d * 1 = d by omega, show c * -1 + d * 0 = -c by omega] at k
  exact k
theorem timesN_any (a b c d x u v : Int) (w : World) (h : fitB a b c d = true) (hx : inE x = true) (hu : u = a * x + b) (hv : v = c * x + d) :
    Calls Try.prog 39 #[.agg #[.int .i64 a, .int .i64 b, .int .i64 c, .int .i64 d], .agg #[.int .i64 1, .int .i64 x, .int .i64 0, .int .i64 1]] w fun e w' =>
      e = .returned (.agg #[.int .i64 a, .int .i64 u, .int .i64 c, .int .i64 v]) ∧ Below w.heap.size w w' := by
  obtain ⟨x1, x2⟩ := inE_iff.1 hx
  have k := times_yes a b c d 1 x 0 1 w h (fit_T x1 x2)
  rw [show a * 1 + b * 0 = a by omega, show a * x + b * 1 = u by omega, show c * 1 + d * 0 = c by omega, show c * x + d * 1 = v by omega] at k
  exact k
set_option maxHeartbeats 1600000 in
theorem rvalue_nil (n : Bool) {A : Option Addr} {c : Nat} (w : World) :
    Calls Try.prog 33 #[.agg #[.bool n, .slice A 0 c]] w fun e w' => e = .returned (.tuple #[.agg #[.int .i64 0, .int .i64 0, .int .i64 0, .int .i64 0], .int .i64 3]) ∧ Below w.heap.size w w' := by
  go_enter Try.func33, Try.ntmps33
  go_wp2
  refine bodyPost_ret (v := .tuple #[.agg #[.int .i64 0, .int .i64 0, .int .i64 0, .int .i64 0], .int .i64 3]) ?_ rfl ⟨rfl, ?_⟩
  · simp [results, Try.results33, go_sem]
  · exact below2 _ _ _
set_option maxHeartbeats 1600000 in
theorem rvalue_long (n : Bool) {A : Option Addr} {len c : Nat} (w : World) (h : 200 < len) (h2 : (len : Int) ≤ 9223372036854775807) :
    Calls Try.prog 33 #[.agg #[.bool n, .slice A len c]] w fun e w' => e = .returned (.tuple #[.agg #[.int .i64 0, .int .i64 0, .int .i64 0, .int .i64 0], .int .i64 2]) ∧ Below w.heap.size w w' := by
  have h0 : ((len : Int) == 0) = false := by rw [beq_eq_false_iff_ne]; omega
  have h1 : decide (200 < (len : Int)) = true := decide_eq_true (by omega)
  go_enter Try.func33, Try.ntmps33
  go_wp2
  refine bodyPost_ret (v := .tuple #[.agg #[.int .i64 0, .int .i64 0, .int .i64 0, .int .i64 0], .int .i64 2]) ?_ rfl ⟨rfl, ?_⟩
  · simp [results, Try.results33, go_sem]
  · exact below2 _ _ _
set_option maxHeartbeats 6400000 in
set_option maxRecDepth 1000000 in
theorem rvalue_go (n : Bool) {A : Option Addr} {B c : Nat} {e0 : Int} {l : List Int} (p q r s k : Int) (w : World) (h : RdZ w B A c (e0 :: l)) (hB : B ≤ w.heap.size) (hlen : (e0 :: l).length ≤ 200) (hv : valE n (e0 :: l) = (⟨p, q, r, s⟩, k)) :
    Calls Try.prog 33 #[.agg #[.bool n, .slice A (e0 :: l).length c]] w fun e w' => e = .returned (.tuple #[.agg #[.int .i64 p, .int .i64 q, .int .i64 r, .int .i64 s], .int .i64 k]) ∧ Below w.heap.size w w' := by
  have HV0 : Hid ((e0 :: l).all inE = false → (M.zero, (2 : Int)) = (⟨p, q, r, s⟩, k)) := fun ha => by rw [← hv, valE_out hlen ha]
  have HV : Hid (∀ y, (e0 :: l).all inE = true → vgo (M.T e0) l = some y → (if n then y.neg else y, (0 : Int)) = (⟨p, q, r, s⟩, k)) := fun y ha hy => by rw [← hv, valE_some hlen ha hy]
  have HW : Hid ((e0 :: l).all inE = true → vgo (M.T e0) l = none → (M.zero, (7 : Int)) = (⟨p, q, r, s⟩, k)) := fun ha hy => by rw [← hv, valE_none hlen ha hy]
  have HR := Lib.hid h
  have hl2 : ((e0 :: l).length : Int) ≤ 200 := by omega
  have hl0 : (((e0 :: l).length : Int) == 0) = false := by rw [beq_eq_false_iff_ne, List.length_cons]; omega
  have HLN : Hid ((e0 :: l).length = l.length + 1) := List.length_cons
  obtain ⟨b1, o1, rfl, hb1, hx0⟩ := h.at_ (k := 0) (by simp)
  have hbl : b1 < w.heap.size := by omega
  clear h hv hlen hx0
  generalize hL : e0 :: l = L at *
  have HL := Lib.hid hL.symm
  clear hL
  go_enter Try.func33, Try.ntmps33
  go_wp2
  go_loop [4] (fun I => ∃ j : Nat, j ≤ L.length ∧ I = .int .i64 j ∧ Hid ((L.take j).all inE = true)) (fun I => L.length - (intOf I).toNat)
  case atStart => exact ⟨0, Nat.zero_le _, rfl, rfl⟩
  case round =>
    obtain ⟨j, hj, rfl, HA⟩ := hrel
    by_cases hlt : j < L.length
    · obtain ⟨b2, o2, hb2, _, hx⟩ := HR.out.at_ hlt
      simp only [Option.some.injEq, Addr.mk.injEq] at hb2
      obtain ⟨rfl, rfl, _⟩ := hb2
      have hlt2 : (j : Int) < (L.length : Int) := by omega
      have HT : Hid ((L.take (j + 1)).all inE = inE L[j]) := by
        show _ = _
        rw [List.take_succ_eq_append_getElem hlt, List.all_append, HA.out]; simp
      have HF : Hid (inE L[j] = false → L.all inE = false) := fun h => by
        rw [List.all_eq_false]; exact ⟨L[j], List.getElem_mem hlt, by rw [h]; simp⟩
      generalize L[j] = x at *
      have HX := Lib.hid (fun W => rIn_any x W)
      cases hx2 : inE x with
      | false =>
        have HF2 := Lib.hid (HV0.out (HF.out hx2))
        rw [hx2] at HX
        have hz := HF2.out
        unfold M.zero at hz
        cases hz
        clear hx2 HF HT HV HW HV0 HF2
        go_wp2_with (first | (go_at_call 44; ((with_reducible refine (HX.out _).mono ?_); rintro e w' ⟨rfl, rfl⟩)) | fail)
        refine bodyPost_ret (v := .tuple #[.agg #[.int .i64 0, .int .i64 0, .int .i64 0, .int .i64 0], .int .i64 2]) ?_ rfl ⟨rfl, ?_⟩
        · simp [results, Try.results33, go_sem]
        · exact below2 _ _ _
      | true =>
        rw [hx2] at HX HT
        clear hx2 HF
        go_wp2_with (first | (go_at_call 44; ((with_reducible refine (HX.out _).mono ?_); rintro e w' ⟨rfl, rfl⟩)) | fail)
        go_round
        case rel => exact ⟨j + 1, hlt, by go_num, HT.out⟩
        case measure => simp [intOf]; omega
    · have hkl : j = L.length := by omega
      subst hkl
      have HALL := Lib.hid HA.out
      rw [List.take_length] at HALL
      have HV := Lib.hid (fun y => HV.out y HALL.out)
      have HW := Lib.hid (HW.out HALL.out)
      have HIN : Hid (∀ j (hj : j < L.length), inE L[j] = true) := fun j hj => List.all_eq_true.1 HALL.out _ (List.getElem_mem hj)
      clear HA HV0 hlt hj
      go_wp2_with (first
        | (go_at_call 40; ((with_reducible refine (rOne_any _).mono ?_); rintro e w1 ⟨rfl, hb⟩; have HS0 : Hid (VS w.heap.size w1.heap.size w (w1.alloc (.cells #[.int .i64 1, .int .i64 0, .int .i64 0, .int .i64 1] 23)) n (some ⟨b1, o1, none⟩) L.length c .one) := ⟨(((WBox.at w rfl n _ _ _).alloc _).below hb).alloc _, ((Four.at (w.alloc _) (g := w.heap.size + 1) (by simp) 0 0 0 0).below hb).alloc _, Four.at w1 rfl 1 0 0 1, bel0 (bel2 (Below.refl _ _) hb) (below1 _ _), (by have := hb.size; simp at this; omega)⟩; clear hb))
        | fail)
      obtain ⟨g, hgg⟩ : ∃ g, g = w1.heap.size := ⟨_, rfl⟩
      rw [← hgg] at HS0 ⊢
      clear hgg
      go_loopw [6] (fun I wr => ∃ (j : Nat) (y : M), I = .int .i64 j ∧ j ≤ L.length ∧ Hid ((j = 0 ∧ y = M.one) ∨ ∃ i, j = i + 1 ∧ vgo (M.T e0) (l.take i) = some y) ∧ Hid (y.ok = true) ∧ Hid (VS w.heap.size g w wr n (some ⟨b1, o1, none⟩) L.length c y)) (fun I _ => L.length - (intOf I).toNat)
      case atStart => exact ⟨0, M.one, rfl, Nat.zero_le _, .inl ⟨rfl, rfl⟩, M.ok_one, HS0.out⟩
      case round =>
        clear HS0 HALL
        obtain ⟨j, ⟨y1, y2, y3, y4⟩, rfl, hj, HY, HO, HS⟩ := hrel
        have hg2 := HS.out.hg
        obtain ⟨t0, t1⟩ := HS.out.word.cells
        obtain ⟨v0, v1, v2, v3⟩ := HS.out.mat.cells
        obtain ⟨z0, z1, z2, z3⟩ := HS.out.res.cells
        have tl := HS.out.word.lt
        have vl := HS.out.mat.lt
        have zl := HS.out.res.lt
        have vf := HS.out.mat.free
        have zf := HS.out.res.free
        dsimp only at v0 v1 v2 v3
        have HOF : Hid (fitB y1 y2 y3 y4 = true) := HO.out
        by_cases hlt : j < L.length
        · have hlt2 : (j : Int) < (L.length : Int) := by omega
          obtain ⟨b2, o2, hb2, _, hxw⟩ := HR.out.at_ hlt
          simp only [Option.some.injEq, Addr.mk.injEq] at hb2
          obtain ⟨rfl, rfl, _⟩ := hb2
          have HXI := Lib.hid (HIN.out j hlt)
          by_cases hj0 : j = 0
          · subst hj0
            have HX0 : Hid (L[0] = e0) := by show _ = _; simp [HL.out]
            obtain ⟨x, hxx⟩ : ∃ x, x = L[0] := ⟨_, rfl⟩
            rw [← hxx] at hxw HXI HX0
            have hxw : w.cell? ⟨b1, o1, none⟩ = some (.int .i64 x) := hxw
            obtain ⟨e1, e2⟩ := inE_iff.1 HXI.out
            have hone : (M.mk y1 y2 y3 y4) = M.one := by
              rcases HY.out with ⟨_, h2⟩ | ⟨i, h1, _⟩
              · exact h2
              · omega
            unfold M.one at hone
            cases hone
            have HFI : Hid (∀ W, Calls Try.prog 37 #[.agg #[.int .i64 1, .int .i64 x, .int .i64 0, .int .i64 1]] W fun e w' => e = .returned (.bool true) ∧ Below W.heap.size W w') := fun W => by
              have := rFits_any 1 x 0 1 W
              rwa [fit_T e1 e2] at this
            clear hxx HV HW
            go_upto_region 16 with fail
            have S0 := Lib.hid HS.out.drew
            obtain ⟨t0, t1⟩ := S0.out.word.cells
            obtain ⟨v0, v1, v2, v3⟩ := S0.out.mat.cells
            have ex := (S0.out.bel.cell (p := ⟨b1, o1, none⟩) hbl).trans hxw
            go_region_with
              (first
                | (go_at_call 50; ((with_reducible refine (rT_any _ _).mono ?_); rintro e f1 ⟨rfl, hb⟩; have S1 := Lib.hid (S0.out.below hb); obtain ⟨t0, t1⟩ := S1.out.word.cells; obtain ⟨v0, v1, v2, v3⟩ := S1.out.mat.cells; have vf := S1.out.mat.free; have tl := S1.out.word.lt; have vl := S1.out.mat.lt; have ex := (S1.out.bel.cell (p := ⟨b1, o1, none⟩) hbl).trans hxw; clear hb))
                | (go_at_call 39; ((with_reducible refine (timesN_any 1 0 0 1 x x 1 _ HOF.out HXI.out (by omega) (by omega)).mono ?_); rintro e f2 ⟨rfl, hb⟩; have S2 := Lib.hid (S1.out.below hb); obtain ⟨t0, t1⟩ := S2.out.word.cells; obtain ⟨v0, v1, v2, v3⟩ := S2.out.mat.cells; have vf := S2.out.mat.free; have tl := S2.out.word.lt; have vl := S2.out.mat.lt; have ex := (S2.out.bel.cell (p := ⟨b1, o1, none⟩) hbl).trans hxw; clear hb))
                | fail)
            all_goals
              go_wp2_with (first
                | (go_at_call 37; ((with_reducible refine (HFI.out _).mono ?_); rintro e w4 ⟨rfl, hb⟩; have S3 := Lib.hid ((S2.out.set 1 x 0 1).below hb); clear hb))
                | fail)
              go_roundw
              case rel => exact ⟨1, M.T x, by go_num, by omega, .inr ⟨0, rfl, by rw [HX0.out]; rfl⟩, T_ok HXI.out, S3.out⟩
              case measure => simp [intOf]; omega
          · obtain ⟨i, hji, hvg⟩ : ∃ i, j = i + 1 ∧ vgo (M.T e0) (l.take i) = some ⟨y1, y2, y3, y4⟩ := by
              rcases HY.out with ⟨h1, _⟩ | h2
              · omega
              · exact h2
            subst hji
            have hi : i < l.length := by have := HLN.out; omega
            have HVN := Lib.hid (fun h => HW.out (vgo_none hi hvg h))
            have HVT := Lib.hid (vgo_take hi hvg)
            have HX1 : Hid (L[i + 1] = l[i]) := by show _ = _; simp [HL.out]
            obtain ⟨x, hxx⟩ : ∃ x, x = L[i + 1] := ⟨_, rfl⟩
            rw [← hxx] at hxw HXI HX1
            rw [← HX1.out] at HVN HVT
            obtain ⟨e1, e2⟩ := inE_iff.1 HXI.out
            obtain ⟨⟨a1, a2⟩, ⟨b1', b2'⟩, ⟨c1, c2⟩, d1, d2⟩ := M.ok_iff.1 HO.out
            dsimp only at a1 a2 b1' b2' c1 c2 d1 d2
            have HOS : Hid (fitB y2 (-y1) y4 (-y3) = true) := fitB_iff.2 ⟨⟨b1', b2'⟩, by omega, ⟨d1, d2⟩, by omega⟩
            have HFI := Lib.hid (fun W => rFits_any y2 (y2 * x - y1) y4 (y4 * x - y3) W)
            unfold M.stn at HVN HVT
            dsimp only at HVN HVT
            have hjn : (0 : Int) ≤ (i : Int) + 1 := by omega
            clear hxx hvg HX1 hj0
            cases ho : fitB y2 (y2 * x - y1) y4 (y4 * x - y3) with
            | false =>
              have hz := HVN.out ho
              rw [ho] at HFI
              unfold M.zero at hz
              cases hz
              clear ho HV HW HVN HVT
              go_upto_region 15 with fail
              have S0 := Lib.hid HS.out.drew
              obtain ⟨v0, v1, v2, v3⟩ := S0.out.mat.cells
              go_region_with
                (first
                  | (go_at_call 49; ((with_reducible refine (rS_any _).mono ?_); rintro e f1 ⟨rfl, hb⟩; have S1 := Lib.hid (S0.out.below hb); obtain ⟨v0, v1, v2, v3⟩ := S1.out.mat.cells; have vl := S1.out.mat.lt; clear hb))
                  | (go_at_call 39; ((with_reducible refine (timesS_any y1 y2 y3 y4 _ HOF.out).mono ?_); rintro e f2 ⟨rfl, hb⟩; have S2 := Lib.hid (S1.out.below hb); obtain ⟨v0, v1, v2, v3⟩ := S2.out.mat.cells; have vf := S2.out.mat.free; have vl := S2.out.mat.lt; clear hb))
                  | fail)
              all_goals
                obtain ⟨W3, hW3⟩ : ∃ W3, W3 = ((((f2.setCell ⟨g, 0, none⟩ (.int .i64 y2)).setCell ⟨g, 1, none⟩ (.int .i64 (-y1))).setCell ⟨g, 2, none⟩ (.int .i64 y4)).setCell ⟨g, 3, none⟩ (.int .i64 (-y3))) := ⟨_, rfl⟩
                have S3 : Hid (VS w.heap.size g w W3 n (some ⟨b1, o1, none⟩) L.length c ⟨y2, -y1, y4, -y3⟩) := by rw [hW3]; exact S2.out.set y2 (-y1) y4 (-y3)
                rw [← hW3]
                clear hW3
                go_upto_region 16 with fail
                have S3 := Lib.hid S3.out.drew
                obtain ⟨t0, t1⟩ := S3.out.word.cells
                obtain ⟨v0, v1, v2, v3⟩ := S3.out.mat.cells
                have vf := S3.out.mat.free
                have tl := S3.out.word.lt
                have vl := S3.out.mat.lt
                have ex := (S3.out.bel.cell (p := ⟨b1, o1 + (i + 1), none⟩) hbl).trans hxw
                dsimp only at v0 v1 v2 v3
                go_region_with
                  (first
                    | (go_at_call 50; ((with_reducible refine (rT_any _ _).mono ?_); rintro e f3 ⟨rfl, hb⟩; have S4 := Lib.hid (S3.out.below hb); obtain ⟨t0, t1⟩ := S4.out.word.cells; obtain ⟨v0, v1, v2, v3⟩ := S4.out.mat.cells; have vf := S4.out.mat.free; have tl := S4.out.word.lt; have vl := S4.out.mat.lt; have ex := (S4.out.bel.cell (p := ⟨b1, o1 + (i + 1), none⟩) hbl).trans hxw; dsimp only at v0 v1 v2 v3; clear hb))
                    | (go_at_call 39; ((with_reducible refine (timesN_any y2 (-y1) y4 (-y3) x (y2 * x - y1) (y4 * x - y3) _ HOS.out HXI.out (by omega) (by omega)).mono ?_); rintro e f4 ⟨rfl, hb⟩; have S5 := Lib.hid (S4.out.below hb); obtain ⟨t0, t1⟩ := S5.out.word.cells; obtain ⟨v0, v1, v2, v3⟩ := S5.out.mat.cells; have vf := S5.out.mat.free; have tl := S5.out.word.lt; have vl := S5.out.mat.lt; have ex := (S5.out.bel.cell (p := ⟨b1, o1 + (i + 1), none⟩) hbl).trans hxw; dsimp only at v0 v1 v2 v3; clear hb))
                    | fail)
                all_goals
                  go_wp2_with (first | (go_at_call 37; ((with_reducible refine (HFI.out _).mono ?_); rintro e w4 ⟨rfl, hb⟩; have S6 := Lib.hid ((S5.out.set y2 (y2 * x - y1) y4 (y4 * x - y3)).below hb); obtain ⟨z0, z1, z2, z3⟩ := S6.out.res.cells; have zf := S6.out.res.free; clear hb)) | fail)
                  refine bodyPost_ret (v := .tuple #[.agg #[.int .i64 0, .int .i64 0, .int .i64 0, .int .i64 0], .int .i64 7]) ?_ rfl ⟨rfl, ?_⟩
                  · simp [results, Try.results33, go_sem, *]
                  · exact below_set4 S6.out.bel (by omega) _ _ _ _
            | true =>
              rw [if_pos (show (M.mk y2 (y2 * x - y1) y4 (y4 * x - y3)).ok = true from ho)] at HVT
              have HO2 : Hid ((M.mk y2 (y2 * x - y1) y4 (y4 * x - y3)).ok = true) := ho
              rw [ho] at HFI
              clear ho HVN
              go_upto_region 15 with fail
              have S0 := Lib.hid HS.out.drew
              obtain ⟨v0, v1, v2, v3⟩ := S0.out.mat.cells
              go_region_with
                (first
                  | (go_at_call 49; ((with_reducible refine (rS_any _).mono ?_); rintro e f1 ⟨rfl, hb⟩; have S1 := Lib.hid (S0.out.below hb); obtain ⟨v0, v1, v2, v3⟩ := S1.out.mat.cells; have vl := S1.out.mat.lt; clear hb))
                  | (go_at_call 39; ((with_reducible refine (timesS_any y1 y2 y3 y4 _ HOF.out).mono ?_); rintro e f2 ⟨rfl, hb⟩; have S2 := Lib.hid (S1.out.below hb); obtain ⟨v0, v1, v2, v3⟩ := S2.out.mat.cells; have vf := S2.out.mat.free; have vl := S2.out.mat.lt; clear hb))
                  | fail)
              all_goals
                obtain ⟨W3, hW3⟩ : ∃ W3, W3 = ((((f2.setCell ⟨g, 0, none⟩ (.int .i64 y2)).setCell ⟨g, 1, none⟩ (.int .i64 (-y1))).setCell ⟨g, 2, none⟩ (.int .i64 y4)).setCell ⟨g, 3, none⟩ (.int .i64 (-y3))) := ⟨_, rfl⟩
                have S3 : Hid (VS w.heap.size g w W3 n (some ⟨b1, o1, none⟩) L.length c ⟨y2, -y1, y4, -y3⟩) := by rw [hW3]; exact S2.out.set y2 (-y1) y4 (-y3)
                rw [← hW3]
                clear hW3
                go_upto_region 16 with fail
                have S3 := Lib.hid S3.out.drew
                obtain ⟨t0, t1⟩ := S3.out.word.cells
                obtain ⟨v0, v1, v2, v3⟩ := S3.out.mat.cells
                have vf := S3.out.mat.free
                have tl := S3.out.word.lt
                have vl := S3.out.mat.lt
                have ex := (S3.out.bel.cell (p := ⟨b1, o1 + (i + 1), none⟩) hbl).trans hxw
                dsimp only at v0 v1 v2 v3
                go_region_with
                  (first
                    | (go_at_call 50; ((with_reducible refine (rT_any _ _).mono ?_); rintro e f3 ⟨rfl, hb⟩; have S4 := Lib.hid (S3.out.below hb); obtain ⟨t0, t1⟩ := S4.out.word.cells; obtain ⟨v0, v1, v2, v3⟩ := S4.out.mat.cells; have vf := S4.out.mat.free; have tl := S4.out.word.lt; have vl := S4.out.mat.lt; have ex := (S4.out.bel.cell (p := ⟨b1, o1 + (i + 1), none⟩) hbl).trans hxw; dsimp only at v0 v1 v2 v3; clear hb))
                    | (go_at_call 39; ((with_reducible refine (timesN_any y2 (-y1) y4 (-y3) x (y2 * x - y1) (y4 * x - y3) _ HOS.out HXI.out (by omega) (by omega)).mono ?_); rintro e f4 ⟨rfl, hb⟩; have S5 := Lib.hid (S4.out.below hb); obtain ⟨t0, t1⟩ := S5.out.word.cells; obtain ⟨v0, v1, v2, v3⟩ := S5.out.mat.cells; have vf := S5.out.mat.free; have tl := S5.out.word.lt; have vl := S5.out.mat.lt; have ex := (S5.out.bel.cell (p := ⟨b1, o1 + (i + 1), none⟩) hbl).trans hxw; dsimp only at v0 v1 v2 v3; clear hb))
                    | fail)
                all_goals
                  go_wp2_with (first | (go_at_call 37; ((with_reducible refine (HFI.out _).mono ?_); rintro e w4 ⟨rfl, hb⟩; have S6 := Lib.hid ((S5.out.set y2 (y2 * x - y1) y4 (y4 * x - y3)).below hb); obtain ⟨z0, z1, z2, z3⟩ := S6.out.res.cells; have zf := S6.out.res.free; clear hb)) | fail)
                  go_roundw
                  case rel => exact ⟨i + 2, ⟨y2, y2 * x - y1, y4, y4 * x - y3⟩, by go_num, by omega, .inr ⟨i + 1, rfl, HVT.out⟩, HO2.out, S6.out⟩
                  case measure => simp [intOf]; omega
        · have hje : j = L.length := by omega
          subst hje
          have HE := Lib.hid (HV.out ⟨y1, y2, y3, y4⟩ (by
            rcases HY.out with ⟨h1, _⟩ | ⟨i, h1, h2⟩
            · have := HLN.out; omega
            · have h3 := HLN.out
              rw [show i = l.length by omega, List.take_length] at h2
              exact h2))
          obtain ⟨⟨a1, a2⟩, ⟨b1', b2'⟩, ⟨c1, c2⟩, d1, d2⟩ := M.ok_iff.1 HO.out
          dsimp only at a1 a2 b1' b2' c1 c2 d1 d2
          have HMN := Lib.hid (fun W => minus_any y1 y2 y3 y4 W HOF.out)
          clear HY HV HW HIN
          cases n with
          | false =>
            rw [if_neg (by simp)] at HE
            have he := HE.out
            cases he
            go_wp2
            refine bodyPost_ret (v := .tuple #[.agg #[.int .i64 p, .int .i64 q, .int .i64 r, .int .i64 s], .int .i64 0]) ?_ rfl ⟨rfl, ?_⟩
            · simp [results, Try.results33, go_sem, *]
            · exact below_set4 HS.out.bel (by omega) _ _ _ _
          | true =>
            rw [if_pos rfl] at HE
            unfold M.neg at HE
            have he := HE.out
            dsimp only at he
            cases he
            go_wp2_with (first
              | (go_at_call 52; ((with_reducible refine (HMN.out _).mono ?_); rintro e w4 ⟨rfl, hb⟩; have S2 := Lib.hid (HS.out.below hb); obtain ⟨z0, z1, z2, z3⟩ := S2.out.res.cells; have zf := S2.out.res.free; obtain ⟨v0, v1, v2, v3⟩ := S2.out.mat.cells; have vf := S2.out.mat.free; have vl := S2.out.mat.lt; have zl := S2.out.res.lt; clear hb))
              | fail)
            refine bodyPost_ret (v := .tuple #[.agg #[.int .i64 (-y1), .int .i64 (-y2), .int .i64 (-y3), .int .i64 (-y4)], .int .i64 0]) ?_ rfl ⟨rfl, ?_⟩
            · simp [results, Try.results33, go_sem, *]
            · exact below_set4 (below_set4 S2.out.bel (by omega) _ _ _ _) (by omega) _ _ _ _
theorem rvalue_any (n : Bool) {A : Option Addr} {B c : Nat} {l : List Int} (p q r s k : Int) (w : World) (h : RdZ w B A c l) (hB : B ≤ w.heap.size) (hv : valE n l = (⟨p, q, r, s⟩, k)) :
    Calls Try.prog 33 #[.agg #[.bool n, .slice A l.length c]] w fun e w' => e = .returned (.tuple #[.agg #[.int .i64 p, .int .i64 q, .int .i64 r, .int .i64 s], .int .i64 k]) ∧ Below w.heap.size w w' := by
  cases l with
  | nil =>
    rw [valE_nil] at hv
    unfold M.zero at hv
    cases hv
    exact rvalue_nil n w
  | cons e0 l =>
    rcases Nat.lt_or_ge 200 (e0 :: l).length with k1 | k1
    · rw [valE_long k1] at hv
      unfold M.zero at hv
      cases hv
      exact rvalue_long n w k1 h.len
    · exact rvalue_go n p q r s k w h hB k1 hv
end Go.Proofs.Ytnccamhajndkjaa
