/- Contract of the reference's Mul: the school's multiplication. -/
import Derived.Test.YtbijjiadokgmoaaDoorRTrim
import Derived.Test.YtbijjiadokgmoaaDoorRNorm
import Derived.Test.YtbijjiadokgmoaaDoorRingSt
import Derived.Test.YtbijjiadokgmoaaDoorMulI
import Derived.Deep.RegionHeld3
namespace Go.Proofs.YtbijjiadokgmoaaDoor
open Go.RowKit

theorem rst_boxes (w : World) (a1 b1 a2 b2 a3 b3 : Value) : RSt w (((w.alloc (.cells #[a1, b1] 24)).alloc (.cells #[a2, b2] 24)).alloc (.cells #[a3, b3] 24)) a1 b1 a2 b2 a3 b3 := by
  refine ⟨((Gr.refl w).alloc (.cells #[a1, b1] 24)).alloc (.cells #[a2, b2] 24) |>.alloc (.cells #[a3, b3] 24), ?_, ?_, ?_⟩
  · exact ((TwoAt.new w _ _).gr ((Gr.refl _).alloc _)).gr ((Gr.refl _).alloc _)
  · have := TwoAt.new (w.alloc (.cells #[a1, b1] 24)) a2 b2
    rw [World.size_alloc] at this
    exact this.gr ((Gr.refl _).alloc _)
  · have := TwoAt.new ((w.alloc (.cells #[a1, b1] 24)).alloc (.cells #[a2, b2] 24)) a3 b3
    rw [World.size_alloc, World.size_alloc] at this
    exact this
theorem rtrim_rd {B c : Nat} {A : Option Addr} {ds X : List Nat} (w : World) (h : Rd w B A c ds) (hB : B ≤ w.heap.size) (hn : ds.length ≤ 1000000) (hX : digs (val ds) = X) :
    Calls Tryd.prog 62 #[.slice A ds.length c] w fun e w' => ∃ A' c', e = .returned (.slice A' X.length c') ∧ Rd w' w'.heap.size A' c' X ∧ Below w.heap.size w w' := by
  subst hX
  exact (rtrim_any w h hB hn).mono fun e w' ⟨A', c', h1, h2, _, h4⟩ => ⟨A', c', h1, h2, h4⟩
theorem Wrote.gr {v w w' : World} {g lo hi : Nat} (h : Gr v w) (hw : Wrote w w' g lo hi) (hg : v.heap.size ≤ g) : Gr v w' := Below.trans h (hw.below (B := v.heap.size) hg h.size)

set_option maxHeartbeats 3200000 in
set_option maxRecDepth 1000000 in
theorem rmul_any {B k1 k2 : Nat} {A1 A2 : Option Addr} {xs ys : List Nat} (n1 n2 : Bool) (w : World) (h1 : Rd w B A1 k1 xs) (h2 : Rd w B A2 k2 ys) (hB : B ≤ w.heap.size) (l1 : xs.length ≤ 400000) (l2 : ys.length ≤ 400000) :
    Calls Tryd.prog 35 #[.agg #[.bool n1, .slice A1 xs.length k1], .agg #[.bool n2, .slice A2 ys.length k2]] w (IntRet w (sgn n1 (val xs) * sgn n2 (val ys))) := by
  have hdx := digs_le_len h1.dgs
  have hdy := digs_le_len h2.dgs
  obtain ⟨X, hX⟩ : ∃ X, digs (val xs) = X := ⟨_, rfl⟩
  obtain ⟨Y, hY⟩ : ∃ Y, digs (val ys) = Y := ⟨_, rfl⟩
  have HTX := Lib.hid (fun (W : World) (hg : Gr w W) => rtrim_rd W (h1.below (Below.mono hg hB)) (Nat.le_trans hB hg.size) (by omega) hX)
  have HTY := Lib.hid (fun (W : World) (hg : Gr w W) => rtrim_rd W (h2.below (Below.mono hg hB)) (Nat.le_trans hB hg.size) (by omega) hY)
  have HVX : Hid (val X = val xs) := by rw [← hX]; exact val_digs _
  have HVY : Hid (val Y = val ys) := by rw [← hY]; exact val_digs _
  rw [hX] at hdx
  rw [hY] at hdy
  have HSG : Hid (∀ (W : World) (A : Option Addr) (c : Nat) (zs : List Nat), Rd W W.heap.size A c zs → val zs = val Y * val X → zs.length ≤ 1000000 → Calls Tryd.prog 60 #[.bool (!(n1 == n2)), .slice A zs.length c] W (IntRet W (sgn n1 (val xs) * sgn n2 (val ys)))) := fun W A c zs hr hv hl => by
    rw [← sgn_mul, Nat.mul_comm, ← HVX.out, ← HVY.out, ← hv]; exact rsigned_any (!(n1 == n2)) W hr (Nat.le_refl _) hl
  clear h1 h2 hX hY HVX HVY
  generalize sgn n1 (val xs) * sgn n2 (val ys) = z at *
  generalize xs.length = la at *
  generalize ys.length = lb at *
  have HS := Lib.hid (rst_boxes w (.bool n1) (.slice A1 la k1) (.bool n2) (.slice A2 lb k2) (.bool false) (.slice none 0 0))
  have GG : Hid (Gr (((w.alloc (.cells #[.bool n1, .slice A1 la k1] 24)).alloc (.cells #[.bool n2, .slice A2 lb k2] 24)).alloc (.cells #[.bool false, .slice none 0 0] 24)) (((w.alloc (.cells #[.bool n1, .slice A1 la k1] 24)).alloc (.cells #[.bool n2, .slice A2 lb k2] 24)).alloc (.cells #[.bool false, .slice none 0 0] 24))) := Gr.refl _
  obtain ⟨x1, x2, x3, x4, x5, x6⟩ := HS.out.cells
  go_enter Tryd.func35, Tryd.ntmps35
  go_wp2_with fail
  go_region_held3 (fun w' => w'.cell? ⟨w.heap.size, 1, none⟩ = some (.slice A1 la k1) ∧ w'.cell? ⟨w.heap.size + 1, 1, none⟩ = some (.slice A2 lb k2))
    (first | exact ⟨x2, x4⟩ | exact ⟨p2, p4⟩ | exact ⟨q2, q4⟩ | fail)
    (first
      | (go_at_call 62; ((with_reducible refine (HTX.out _ (HS.out.next GG.out.drew).gr).mono ?_); rintro e v1 ⟨AX, cX, rfl, hr1, hb1⟩; have S1 := Lib.hid (HS.out.next (GG.out.drew.call hb1)); have RX := Lib.hid hr1; have hc := S1.out.cells; obtain ⟨_, p2, _, p4, _, _⟩ := hc; clear hr1 hb1))
      | (go_at_call 62; ((with_reducible refine (HTY.out _ S1.out.gr).mono ?_); rintro e v2 ⟨AY, cY, rfl, hr2, hb2⟩; have S2 := Lib.hid (S1.out.next hb2); have RX2 := Lib.hid ((RX.out.below hb2).mono hb2.size); have RY := Lib.hid hr2; have hc := S2.out.cells; obtain ⟨q1, q2, q3, q4, _, _⟩ := hc; clear hr2 hb2))
      | fail)
  obtain ⟨N, hN⟩ : ∃ N, X.length + Y.length = N := ⟨_, rfl⟩
  have HNN := Lib.hid hN
  have hNi : X.length + Y.length ≤ N := Nat.le_of_eq hN
  have hNj : N ≤ X.length + Y.length := Nat.le_of_eq hN.symm
  clear hN
  have hmk := make_zeros (n := N) ((X.length : Int) + (Y.length : Int)) v2 (by omega) (by omega)
  have HO0 := Lib.hid (own_zeros v2 N)
  have hax := RX2.out.2.1
  have hay := RY.out.2.1
  go_wp2
  clear hmk
  go_loopw [8, 9, 10, 11] (fun I _ _ _ wr => ∃ (i : Nat) (zz : List Nat), I = .int .i64 i ∧ i ≤ X.length ∧ Hid (Prods Y X zz i) ∧ Hid (Own wr v2.heap.size 0 zz) ∧ Hid (Gr v2 wr)) (fun I _ _ _ _ => X.length - (intOf I).toNat)
  case atStart => exact ⟨0, List.replicate N 0, rfl, Nat.zero_le _, by have := Prods.start Y X; rwa [Nat.add_comm, HNN.out] at this, HO0.out, (Gr.refl _).alloc _⟩
  case round =>
    obtain ⟨i, zz, rfl, hi, HP, HO, HG⟩ := hrel
    by_cases hlt : i < X.length
    · have hlti : (i : Int) < (X.length : Int) := by omega
      have hzl := HP.out.len
      obtain ⟨part, hpart⟩ : ∃ part, (zz.drop i).take Y.length = part := ⟨_, rfl⟩
      have hpl : part.length = Y.length := by rw [← hpart]; simp; omega
      have HPO : Hid (Own wr v2.heap.size i part) := by
        have := HO.out.part (n := i) (by omega) Y.length
        rw [Nat.zero_add, hpart] at this
        exact this
      have HST : Hid (∀ (p2 : List Nat) (c : Nat), p2.length = Y.length → Dgs p2 → c < 4294967296 → val p2 + 4294967296 ^ Y.length * c = val part + X[i] * val Y → Prods Y X (putRow zz p2 i c) (i + 1)) := fun p2 c hl hd hc hv => HP.out.step hlt hl hd hc (by rw [hpart]; exact hv)
      obtain ⟨wo, rfl⟩ : ∃ wo : World, wo = wr := ⟨_, rfl⟩
      have hgo := HG.out.size
      have HX2 := Lib.hid (RX2.out.below HG.out)
      obtain ⟨bx, ox, hAX, hbx, hcx⟩ := HX2.out.at_ hlt
      subst hAX
      have hd1 := HX2.out.dgs.get hlt
      have HCX : Hid (∀ W : World, Wrote wo W v2.heap.size i (i + Y.length) → W.cell? ⟨bx, ox + i, none⟩ = some (.int .u32 (X[i] : Int))) := fun W hW => (hW.cell (by omega) (by omega)).trans hcx
      have HPL := Lib.hid hpl
      have hpl1 : part.length ≤ Y.length := Nat.le_of_eq hpl
      have hpl2 : Y.length ≤ part.length := Nat.le_of_eq hpl.symm
      clear hcx hpl hpart hzl
      generalize X[i] = d at *
      go_wp2
      go_loopw [9, 10, 11] (fun C K _ ws => ∃ (k c : Nat) (zi : List Nat), K = .int .i64 k ∧ C = .int .u64 c ∧ k ≤ Y.length ∧ c < 4294967296 ∧ Hid (Mults part Y d zi k c) ∧ Hid (Own ws v2.heap.size i zi) ∧ Hid (Wrote wo ws v2.heap.size i (i + Y.length))) (fun _ K _ _ => Y.length - (intOf K).toNat)
      case atStart => exact ⟨0, 0, part, rfl, rfl, Nat.zero_le _, by omega, Mults.start Y d HPO.out.dgs, HPO.out, Wrote.refl _ _ _ _⟩
      case round =>
        obtain ⟨k, c, zi, rfl, rfl, hk, hc, HA, HOI, HW⟩ := hrel
        by_cases hkl : k < Y.length
        · have hkli : (k : Int) < (Y.length : Int) := by omega
          have hzl := HA.out.up.len
          have hkz : k < zi.length := by omega
          have hcx := HCX.out _ HW.out
          have HY2 := Lib.hid ((RY.out.below HG.out).wrote HW.out (Nat.le_refl _) hgo)
          obtain ⟨by_, oy, hAY, _, hcy⟩ := HY2.out.at_ hkl
          subst hAY
          have hcz := HOI.out.cell hkz
          have hfz := HOI.out.free (i + k)
          have hd2 := HOI.out.dgs.get hkz
          have hd3 := HY2.out.dgs.get hkl
          have HGI := Lib.hid (HA.out.up.get (i := k) (by omega))
          have HGY : Hid (Y.getD k 0 = Y[k]) := by show _ = _; rw [List.getD_eq_getElem?_getD, List.getElem?_eq_getElem hkl]; rfl
          have HSTI : Hid (∀ s e : Nat, s < 4294967296 → e < 4294967296 → d * Y[k] + zi[k] + c = s + 4294967296 * e → Mults part Y d (zi.set k s) (k + 1) e) := fun s e hs he hq =>
            HA.out.step (by omega) hs he (by rw [← HGI.out, HGY.out]; exact hq)
          have HOS : Hid (∀ (n s : Nat), s < 4294967296 → Own ((wr.drewN n).setCell ⟨v2.heap.size, i + k, none⟩ (.int .u32 (s : Int))) v2.heap.size i (zi.set k s)) := fun n s hs => (HOI.out.drewN n).setCell hkz hs
          have HWS : Hid (∀ (n : Nat) (u : Value), Wrote wo ((wr.drewN n).setCell ⟨v2.heap.size, i + k, none⟩ u) v2.heap.size i (i + Y.length)) := fun n u => (HW.out.drewN n).setCell (by omega) (by omega) u
          have hlt1 : d * Y[k] ≤ 4294967295 * 4294967295 := Nat.mul_le_mul (by omega) (by omega)
          clear HGI HGY hzl
          generalize zi[k] = t at *
          generalize Y[k] = y at *
          have e1 : IntKind.u64.wrap ((d : Int) * (y : Int)) = ((d * y : Nat) : Int) := u64_mul hd1 hd3
          have e2 : IntKind.u64.wrap (((d * y : Nat) : Int) + (t : Int)) = ((d * y + t : Nat) : Int) := by rw [← Int.natCast_add]; exact IntWalk.u64_in _ (by omega)
          have e3 : IntKind.u64.wrap (((d * y + t : Nat) : Int) + (c : Int)) = ((d * y + t + c : Nat) : Int) := by rw [← Int.natCast_add]; exact IntWalk.u64_in _ (by omega)
          have hq : d * y + t + c = (d * y + t + c) % 4294967296 + 4294967296 * ((d * y + t + c) / 4294967296) := (Nat.mod_add_div _ _).symm
          have hs : (d * y + t + c) % 4294967296 < 4294967296 := Nat.mod_lt _ (by omega)
          have hdv : (d * y + t + c) / 4294967296 < 4294967296 := by omega
          have HF := Lib.hid (HSTI.out _ _ hs hdv hq)
          have hiN : i + k < N := by omega
          have hiN2 : (i : Int) + (k : Int) < (N : Int) := by omega
          have hi0 : (0 : Int) ≤ (i : Int) + (k : Int) := by omega
          have ht1 : ((i : Int) + (k : Int)).toNat = i + k := by omega
          have hw1 : IntKind.i64.wrap ((i : Int) + (k : Int)) = (i : Int) + (k : Int) := IntWalk.i64_in _ (by omega)
          generalize d * y = p at *
          go_wp2
          go_quiet (fail)
          clear hw1
          have hcfz := fun n : Nat => (show (wr.drewN n).frozen? ⟨v2.heap.size, i + k, none⟩ = false from hfz)
          have hccz := fun n : Nat => (show (wr.drewN n).cell? ⟨v2.heap.size, i + k, none⟩ = some (.int .u32 (t : Int)) from hcz)
          go_wp2
          go_roundw
          case rel => exact ⟨k + 1, (p + t + c) / 4294967296, zi.set k ((p + t + c) % 4294967296), by go_num, rfl, hkl, hdv, HF.out, HOS.out _ _ hs, HWS.out _ _⟩
          case measure => simp [intOf]; omega
        · have hn1 : ¬ (k : Int) < (Y.length : Int) := by omega
          have hky : k = Y.length := by omega
          have hzl := HA.out.up.len
          have HV : Hid (val zi + 4294967296 ^ Y.length * c = val part + d * val Y) := by
            have h0 := HA.out
            rw [hky, ← HPL.out] at h0
            have h1 := h0.done hpl2
            rwa [HPL.out] at h1
          have hzy : zi.length = Y.length := by omega
          have HN := Lib.hid (HST.out zi c hzy HOI.out.dgs hc HV.out)
          have hzzl := HP.out.len
          have hmid := HO.out.mid HOI.out (by rw [hzy]; exact HW.out) (by omega)
          have hcell := hmid.cell (k := i + Y.length) (by simp; omega)
          have hfree := hmid.free (i + Y.length)
          rw [Nat.zero_add] at hcell
          obtain ⟨u0, hold⟩ : ∃ u0 : Nat, wr.cell? ⟨v2.heap.size, i + Y.length, none⟩ = some (.int .u32 (u0 : Int)) := ⟨_, hcell⟩
          clear hcell
          have HPUT : Hid (Own (wr.setCell ⟨v2.heap.size, i + Y.length, none⟩ (.int .u32 (c : Int))) v2.heap.size 0 (putRow zz zi i c)) := by
            have := hmid.put (c := c) (by omega) hc
            rw [hzy] at this
            exact this
          have HGF : Hid (Gr v2 (wr.setCell ⟨v2.heap.size, i + Y.length, none⟩ (.int .u32 (c : Int)))) := (Wrote.gr HG.out HW.out (Nat.le_refl _)).setCell (Nat.le_refl _) _
          have hiN : i + Y.length < N := by omega
          have hiN2 : (i : Int) + (Y.length : Int) < (N : Int) := by omega
          clear hky hzy hmid hzl hzzl
          go_wp2
          go_roundw
          case rel => exact ⟨i + 1, putRow zz zi i c, by go_num, hlt, HN.out, HPUT.out, HGF.out⟩
          case measure => simp [intOf]; omega
    · have hn1 : ¬ (i : Int) < (X.length : Int) := by omega
      have hix : i = X.length := by omega
      have HV : Hid (val zz = val Y * val X ∧ zz.length = N) := by
        have := HP.out
        rw [hix] at this
        exact ⟨this.done, by rw [this.len, Nat.add_comm]; exact HNN.out⟩
      have hgo := HG.out.size
      have hol := HO.out.lt
      have HSS : Hid (Calls Tryd.prog 60 #[.bool (!(n1 == n2)), .slice (some ⟨v2.heap.size, 0, none⟩) N N] wr (IntRet wr z)) := by
        have := HSG.out wr (some ⟨v2.heap.size, 0, none⟩) N zz (HO.out.rd (by rw [HV.out.2]; exact Nat.le_refl _) (by unfold maxLen; omega) hol) HV.out.1 (by rw [HV.out.2]; omega)
        rwa [HV.out.2] at this
      have S3 := Lib.hid (S2.out.next HG.out)
      obtain ⟨y1, y2, y3, y4, _, _⟩ := S3.out.cells
      clear hix
      go_wp2_with (go_at_call 60; fail)
      refine HSS.out.mono ?_
      rintro e v3 ⟨v, rfl, hi, hb⟩
      have S4 := Lib.hid (S3.out.next hb)
      have HI := Lib.hid hi
      obtain ⟨A', c', rfl, _, _⟩ := hi
      obtain ⟨z1, z2, z3, z4⟩ := S4.out.three.reads
      have hs3 := S3.out.size
      clear hb y1 y2 y3 y4
      go_wp2
      refine bodyPost_ret (v := .agg #[.bool (decide (z < 0)), .slice A' (digs z.natAbs).length c']) ?_ rfl ⟨_, rfl, HI.out.stored2 (by omega) (by omega) _ _, ?_⟩
      · simp [results, Tryd.results35, go_sem, z1, z2]
      exact (S4.out.gr.set2 (by omega) _ _)
end Go.Proofs.YtbijjiadokgmoaaDoor
