/- The contract of the reference's Go. -/
import Derived.Test.YtpooncdaajcmkaaMovL
import Derived.Test.YtpooncdaajcmkaaRCyL
namespace Go.Proofs.Ytpooncdaajcmkaa
open Go.RowKit
set_option linter.unusedVariables false
set_option linter.unusedSimpArgs false

theorem emod_lt' (e : Int) {c : Nat} (hc : 1 ≤ c) : (e % (c : Int)).toNat < c := by
  have h0 := Int.emod_nonneg e (show (c : Int) ≠ 0 by omega)
  have h1 := Int.emod_lt_of_pos e (show (0 : Int) < c by omega)
  omega
theorem cyL_at {f : Nat → Nat} {i c r : Nat} (hr : r < c) : (cyL f i c).getD r 0 = itr f r i := by
  unfold cyL
  simp [List.getD, hr]
set_option maxHeartbeats 6400000 in
set_option maxRecDepth 1000000 in
theorem rgo_any {S T : List Int} {B bS oS bT oT cS cT : Nat} (w : World) (h : AI w B bS oS bT oT S T cS cT) {i : Nat} (hi : i < S.length) (ng : Bool) {l : List Int} {A : Option Addr} {cl : Nat} (hl : RdZ w w.heap.size A cl l) :
    Calls Try.prog 47 #[.agg #[.slice (some ⟨bS, oS, none⟩) S.length cS, .slice (some ⟨bT, oT, none⟩) S.length cT], .int .i64 (i : Nat), .agg #[.bool ng, .slice A l.length cl]] w fun e w' =>
      e = .returned (.int .i64 ((if ng then zOf (fnz S) (mvP (fnz S) (fnz T) S.length l i l.length) else mvP (fnz S) (fnz T) S.length l i l.length : Nat) : Nat)) ∧ Below w.heap.size w w' := by
  have hP := pact_of h.act
  have hn := h.act.le
  have HP := Lib.hid hP
  have HS := Lib.hid (h.s.mono h.le)
  have HT := Lib.hid (h.t.mono h.le)
  have HL := Lib.hid hl
  have hgi := hP.gp.lt i hi
  have hzi : zOf (fnz S) i < S.length := hP.zl i hi
  have HZi : Hid (zOf (fnz S) i = fnz S (fnz S i)) := rfl
  have hll := hl.len
  obtain ⟨i0, hi0⟩ : ∃ i0 : Nat, i0 = if ng then zOf (fnz S) i else i := ⟨_, rfl⟩
  have hi0n : i0 < S.length := by rw [hi0]; split; (exact hzi); exact hi
  have HEnd : Hid ((if ng then zOf (fnz S) (mvP (fnz S) (fnz T) S.length l i l.length) else mvP (fnz S) (fnz T) S.length l i l.length) = mvP (fnz S) (fnz T) S.length l i0 l.length) := by
    show _ = _
    rw [hi0]
    cases ng with
    | true => exact (mvP_z hP hi l l.length).symm
    | false => rfl
  rw [HEnd.out]
  clear HEnd
  have HLt : Hid (∀ k, mvP (fnz S) (fnz T) S.length l i0 k < S.length) := fun k => mvP_lt hP hi0n l k
  have HNx : Hid (∀ k, mvP (fnz S) (fnz T) S.length l i0 (k + 1) = pw (fnz T) S.length (if k = 0 then mvP (fnz S) (fnz T) S.length l i0 k else fnz S (mvP (fnz S) (fnz T) S.length l i0 k)) (l.getD k 0)) := fun k => rfl
  have HZr : Hid (mvP (fnz S) (fnz T) S.length l i0 0 = i0) := rfl
  have HI0 := Lib.hid hi0
  clear h hP hl hi0
  generalize hMe : mvP (fnz S) (fnz T) S.length l i0 = M at *
  clear hMe
  generalize zOf (fnz S) i = zi at *
  generalize fnz S = g at *
  generalize fnz T = f at *
  generalize S.length = n at *
  have HX0 : Hid (((w.alloc (.cells #[.slice (some ⟨bS, oS, none⟩) n cS, .slice (some ⟨bT, oT, none⟩) n cT] 24)).alloc (.cells #[.bool ng, .slice A l.length cl] 65)).heap[w.heap.size]? = some (.cells #[.slice (some ⟨bS, oS, none⟩) n cS, .slice (some ⟨bT, oT, none⟩) n cT] 24 (0, 0))) := block_alloc (heap_alloc_new w _) _
  have hy0 := heap_alloc_new (w.alloc (.cells #[.slice (some ⟨bS, oS, none⟩) n cS, .slice (some ⟨bT, oT, none⟩) n cT] 24)) (.cells #[.bool ng, .slice A l.length cl] 65)
  rw [show (w.alloc (.cells #[.slice (some ⟨bS, oS, none⟩) n cS, .slice (some ⟨bT, oT, none⟩) n cT] 24)).heap.size = w.heap.size + 1 by simp] at hy0
  have HY0 := Lib.hid hy0
  have HB0 : Hid (Below w.heap.size w ((w.alloc (.cells #[.slice (some ⟨bS, oS, none⟩) n cS, .slice (some ⟨bT, oT, none⟩) n cT] 24)).alloc (.cells #[.bool ng, .slice A l.length cl] 65))) := below2 w _ _
  clear hy0
  go_enter Try.func47, Try.ntmps47
  go_upto_region 1 with fail
  obtain ⟨W0, hW0⟩ : ∃ W0, W0 = ((w.alloc (.cells #[.slice (some ⟨bS, oS, none⟩) n cS, .slice (some ⟨bT, oT, none⟩) n cT] 24)).alloc (.cells #[.bool ng, .slice A l.length cl] 65)) := ⟨_, rfl⟩
  rw [← hW0] at HX0 HY0 HB0 ⊢
  clear hW0
  have hii : (i : Int) < (n : Int) := by omega
  have hgii : (g i : Int) < (n : Int) := by omega
  cases ng with
  | false =>
    have hi00 : i0 = i := HI0.out
    subst hi00
    obtain ⟨⟨y1, y2⟩, _⟩ := two_of_block HY0.out
    go_wp2
    have HFx : Hid (∀ {W : World}, Below W0.heap.size W0 W → ((W.cell? ⟨w.heap.size, 0, none⟩ = some (.slice (some ⟨bS, oS, none⟩) n cS) ∧ W.cell? ⟨w.heap.size, 1, none⟩ = some (.slice (some ⟨bT, oT, none⟩) n cT)) ∧ (W.cell? ⟨w.heap.size + 1, 0, none⟩ = some (.bool false) ∧ W.cell? ⟨w.heap.size + 1, 1, none⟩ = some (.slice A l.length cl))) ∧ RdZ W W.heap.size A cl l ∧ RdN W W.heap.size bT oT n f ∧ ∀ k, k < n → W.cell? ⟨bS, oS + k, none⟩ = some (.int .i64 (g k : Nat))) := fun {W} hb =>
      ⟨⟨(two_of_block (block_below HX0.out hb)).1, (two_of_block (block_below HY0.out hb)).1⟩, ((HL.out.below (HB0.out.trans (hb.mono HB0.out.size))).mono (Nat.le_trans HB0.out.size hb.size)), ((HT.out.below (HB0.out.trans (hb.mono HB0.out.size))).mono (Nat.le_trans HB0.out.size hb.size)), fun k hk => ((HB0.out.trans (hb.mono HB0.out.size)).cell (p := ⟨bS, oS + k, none⟩) HS.out.1).trans (HS.out.2 k hk)⟩
    have BB0 := Lib.hid (Below.refl W0.heap.size W0)
    go_loopw [1, 7, 8, 9] (fun I K _ _ wr => ∃ (k : Nat), I = .int .i64 (M k : Nat) ∧ K = .int .i64 (k : Nat) ∧ k ≤ l.length ∧ Hid (Below W0.heap.size W0 wr)) (fun _ K _ _ _ => l.length - (intOf K).toNat)
    case atStart => exact ⟨0, by rw [HZr.out], rfl, Nat.zero_le _, BB0.out⟩
    case round =>
      clear BB0
      obtain ⟨k, rfl, rfl, hk, HB⟩ := hrel
      obtain ⟨⟨⟨x1, x2⟩, y1, y2⟩, fl, ft, fs⟩ := HFx.out HB.out
      by_cases hlt : k < l.length
      · have hki : (k : Int) < (l.length : Int) := by omega
        have hM := HLt.out k
        have HN := Lib.hid (HNx.out k)
        have hge : l.getD k 0 = l[k] := by simp [List.getD, hlt]
        rw [hge] at HN
        by_cases hk0 : k = 0
        · rw [if_pos hk0] at HN
          subst hk0
          obtain ⟨e, he⟩ : ∃ e, e = l[0] := ⟨_, rfl⟩
          have HE := Lib.hid he
          rw [← he] at HN
          clear he
          obtain ⟨hper, hcn⟩ := perO_spec HP.out.fp hM
          have hc1 := hper.pos
          have HPw : Hid (pw f n (M 0) e = itr f (e % (perO f n (M 0) : Int)).toNat (M 0)) := rfl
          have HCy := Lib.hid (rcycle_any (cT := cT) wr ft HP.out.fp hM hper hcn hn)
          obtain ⟨b1, b2⟩ := tmod_bds e hc1
          have hrl := emod_lt' e hc1
          have HPos := Lib.hid (fun h => tmod_pos (e := e) hc1 h)
          have HNeg := Lib.hid (fun h => tmod_neg (e := e) hc1 h)
          have HAt : Hid ((cyL f (M 0) (perO f n (M 0))).getD (e % (perO f n (M 0) : Int)).toNat 0 = itr f (e % (perO f n (M 0) : Int)).toNat (M 0)) := cyL_at hrl
          have HCl : Hid ((cyL f (M 0) (perO f n (M 0))).length = perO f n (M 0)) := by show _ = _; unfold cyL; simp
          clear hper fl ft fs
          generalize itr f (e % (perO f n (M 0) : Int)).toNat (M 0) = yy at *
          generalize hxx : M 0 = x at *
          clear hxx
          generalize pw f n x e = y at *
          generalize cyL f x (perO f n x) = CL at *
          generalize perO f n x = c at *
          have hci : (c : Int) ≤ 1152 := by omega
          have hcz : (c : Int) ≠ 0 := by omega
          have hc0 : ((c : Int) == 0) = false := by simpa using hcz
          by_cases hneg : e.tmod c < 0
          · have hr := HNeg.out hneg
            generalize (e % (c : Int)).toNat = r at *
            have hri : (r : Int) < (c : Int) := by omega
            clear HNeg HPos
            go_wp2_with (first
              | (go_at_call 69; ((with_reducible refine HCy.out.mono ?_); rintro e' w4 ⟨gg, cc, rfl, ho, hb⟩; have HB4 := Lib.hid (HB.out.trans (hb.mono HB.out.size)); obtain ⟨⟨⟨x1', x2'⟩, y1', y2'⟩, fl', ft', fs'⟩ := HFx.out HB4.out; obtain ⟨bl, ol, eA, _, d1⟩ := fl'.at_ hlt; rw [← HE.out] at d1; have d1' := (show w4.cell? ⟨bl, ol, none⟩ = some (.int .i64 e) from d1); obtain ⟨gl, eg, hrd⟩ := own_rdn ho HCl.out (by omega); have d2 := (hrd.2 r (by omega)).trans (show some (Value.int .i64 ((CL.getD r 0 : Nat) : Int)) = some (Value.int .i64 ((yy : Nat) : Int)) from by rw [HAt.out]); rw [Nat.zero_add] at d2; cases eg; subst eA; clear hb ho hrd fl' ft' fs' x1 x2 y1 y2))
              | fail)
            go_roundw
            case rel => exact ⟨1, by rw [HN.out, HPw.out], rfl, hlt, HB4.out⟩
            case measure => simp [intOf]; omega
          · have hr := HPos.out (by omega)
            generalize (e % (c : Int)).toNat = r at *
            have hri : (r : Int) < (c : Int) := by omega
            clear HNeg HPos
            go_wp2_with (first
              | (go_at_call 69; ((with_reducible refine HCy.out.mono ?_); rintro e' w4 ⟨gg, cc, rfl, ho, hb⟩; have HB4 := Lib.hid (HB.out.trans (hb.mono HB.out.size)); obtain ⟨⟨⟨x1', x2'⟩, y1', y2'⟩, fl', ft', fs'⟩ := HFx.out HB4.out; obtain ⟨bl, ol, eA, _, d1⟩ := fl'.at_ hlt; rw [← HE.out] at d1; have d1' := (show w4.cell? ⟨bl, ol, none⟩ = some (.int .i64 e) from d1); obtain ⟨gl, eg, hrd⟩ := own_rdn ho HCl.out (by omega); have d2 := (hrd.2 r (by omega)).trans (show some (Value.int .i64 ((CL.getD r 0 : Nat) : Int)) = some (Value.int .i64 ((yy : Nat) : Int)) from by rw [HAt.out]); rw [Nat.zero_add] at d2; cases eg; subst eA; clear hb ho hrd fl' ft' fs' x1 x2 y1 y2))
              | fail)
            go_roundw
            case rel => exact ⟨1, by rw [HN.out, HPw.out], rfl, hlt, HB4.out⟩
            case measure => simp [intOf]; omega
        · rw [if_neg hk0] at HN
          have hk1 : (0 : Int) < (k : Int) := by omega
          have c2 := fs _ hM
          have hMi : (M k : Int) < (n : Int) := by omega
          have hgM := HP.out.gp.lt _ hM
          obtain ⟨e, he⟩ : ∃ e, e = l[k] := ⟨_, rfl⟩
          have HE := Lib.hid he
          rw [← he] at HN
          clear he
          obtain ⟨hper, hcn⟩ := perO_spec HP.out.fp hgM
          have hc1 := hper.pos
          have HPw : Hid (pw f n (g (M k)) e = itr f (e % (perO f n (g (M k)) : Int)).toNat (g (M k))) := rfl
          have HCy := Lib.hid (rcycle_any (cT := cT) wr ft HP.out.fp hgM hper hcn hn)
          obtain ⟨b1, b2⟩ := tmod_bds e hc1
          have hrl := emod_lt' e hc1
          have HPos := Lib.hid (fun h => tmod_pos (e := e) hc1 h)
          have HNeg := Lib.hid (fun h => tmod_neg (e := e) hc1 h)
          have HAt : Hid ((cyL f (g (M k)) (perO f n (g (M k)))).getD (e % (perO f n (g (M k)) : Int)).toNat 0 = itr f (e % (perO f n (g (M k)) : Int)).toNat (g (M k))) := cyL_at hrl
          have HCl : Hid ((cyL f (g (M k)) (perO f n (g (M k)))).length = perO f n (g (M k))) := by show _ = _; unfold cyL; simp
          clear hper fl ft fs
          generalize itr f (e % (perO f n (g (M k)) : Int)).toNat (g (M k)) = yy at *
          generalize hxx : g (M k) = x at *
          clear hxx
          generalize pw f n x e = y at *
          generalize cyL f x (perO f n x) = CL at *
          generalize perO f n x = c at *
          have hci : (c : Int) ≤ 1152 := by omega
          have hcz : (c : Int) ≠ 0 := by omega
          have hc0 : ((c : Int) == 0) = false := by simpa using hcz
          by_cases hneg : e.tmod c < 0
          · have hr := HNeg.out hneg
            generalize (e % (c : Int)).toNat = r at *
            have hri : (r : Int) < (c : Int) := by omega
            clear HNeg HPos
            go_wp2_with (first
              | (go_at_call 69; ((with_reducible refine HCy.out.mono ?_); rintro e' w4 ⟨gg, cc, rfl, ho, hb⟩; have HB4 := Lib.hid (HB.out.trans (hb.mono HB.out.size)); obtain ⟨⟨⟨x1', x2'⟩, y1', y2'⟩, fl', ft', fs'⟩ := HFx.out HB4.out; obtain ⟨bl, ol, eA, _, d1⟩ := fl'.at_ hlt; rw [← HE.out] at d1; obtain ⟨gl, eg, hrd⟩ := own_rdn ho HCl.out (by omega); have d2 := (hrd.2 r (by omega)).trans (show some (Value.int .i64 ((CL.getD r 0 : Nat) : Int)) = some (Value.int .i64 ((yy : Nat) : Int)) from by rw [HAt.out]); rw [Nat.zero_add] at d2; cases eg; subst eA; clear hb ho hrd fl' ft' fs' x1 x2 y1 y2))
              | fail)
            go_roundw
            case rel => exact ⟨k + 1, by rw [HN.out, HPw.out], by go_num, hlt, HB4.out⟩
            case measure => simp [intOf]; omega
          · have hr := HPos.out (by omega)
            generalize (e % (c : Int)).toNat = r at *
            have hri : (r : Int) < (c : Int) := by omega
            clear HNeg HPos
            go_wp2_with (first
              | (go_at_call 69; ((with_reducible refine HCy.out.mono ?_); rintro e' w4 ⟨gg, cc, rfl, ho, hb⟩; have HB4 := Lib.hid (HB.out.trans (hb.mono HB.out.size)); obtain ⟨⟨⟨x1', x2'⟩, y1', y2'⟩, fl', ft', fs'⟩ := HFx.out HB4.out; obtain ⟨bl, ol, eA, _, d1⟩ := fl'.at_ hlt; rw [← HE.out] at d1; obtain ⟨gl, eg, hrd⟩ := own_rdn ho HCl.out (by omega); have d2 := (hrd.2 r (by omega)).trans (show some (Value.int .i64 ((CL.getD r 0 : Nat) : Int)) = some (Value.int .i64 ((yy : Nat) : Int)) from by rw [HAt.out]); rw [Nat.zero_add] at d2; cases eg; subst eA; clear hb ho hrd fl' ft' fs' x1 x2 y1 y2))
              | fail)
            go_roundw
            case rel => exact ⟨k + 1, by rw [HN.out, HPw.out], by go_num, hlt, HB4.out⟩
            case measure => simp [intOf]; omega
      · obtain rfl : k = l.length := by omega
        have hk2 : ¬ (l.length : Int) < (l.length : Int) := by omega
        have HBf := Lib.hid (HB0.out.trans (HB.out.mono HB0.out.size))
        clear HFx HB
        go_wp2
        go_ret
        exact ⟨rfl, HBf.out⟩
  | true =>
    have hi00 : i0 = zi := HI0.out
    subst hi00
    obtain ⟨⟨y1, y2⟩, _⟩ := two_of_block HY0.out
    have c1 := fun N => (show (W0.drewN N).cell? ⟨bS, oS + i, none⟩ = some (.int .i64 (g i : Nat)) from (HB0.out.cell (p := ⟨bS, oS + i, none⟩) HS.out.1).trans (HS.out.2 i hi))
    have c2 := fun N => (show (W0.drewN N).cell? ⟨bS, oS + g i, none⟩ = some (.int .i64 (i0 : Nat)) from by rw [HZi.out]; exact (HB0.out.cell (p := ⟨bS, oS + g i, none⟩) HS.out.1).trans (HS.out.2 _ hgi))
    have u1 := fun N => (show (W0.drewN N).cell? ⟨w.heap.size, 0, none⟩ = _ from (two_of_block HX0.out).1.1)
    go_wp2
    go_quiet (fail)
    go_wp2
    generalize hWd : W0.drewN _ = W1 at *
    have HX1 : Hid (W1.heap[w.heap.size]? = some (.cells #[.slice (some ⟨bS, oS, none⟩) n cS, .slice (some ⟨bT, oT, none⟩) n cT] 24 (0, 0))) := by rw [← hWd]; exact HX0.out
    have HY1 : Hid (W1.heap[w.heap.size + 1]? = some (.cells #[.bool true, .slice A l.length cl] 65 (0, 0))) := by rw [← hWd]; exact HY0.out
    have HB1 : Hid (Below w.heap.size w W1) := by rw [← hWd]; exact below_drewN HB0.out _
    clear hWd c1 c2 u1 y1 y2 HX0 HY0 HB0
    have HX0 := HX1
    have HY0 := HY1
    have HB0 := HB1
    clear HX1 HY1 HB1
    have HFx : Hid (∀ {W : World}, Below W1.heap.size W1 W → ((W.cell? ⟨w.heap.size, 0, none⟩ = some (.slice (some ⟨bS, oS, none⟩) n cS) ∧ W.cell? ⟨w.heap.size, 1, none⟩ = some (.slice (some ⟨bT, oT, none⟩) n cT)) ∧ (W.cell? ⟨w.heap.size + 1, 0, none⟩ = some (.bool true) ∧ W.cell? ⟨w.heap.size + 1, 1, none⟩ = some (.slice A l.length cl))) ∧ RdZ W W.heap.size A cl l ∧ RdN W W.heap.size bT oT n f ∧ ∀ k, k < n → W.cell? ⟨bS, oS + k, none⟩ = some (.int .i64 (g k : Nat))) := fun {W} hb =>
      ⟨⟨(two_of_block (block_below HX0.out hb)).1, (two_of_block (block_below HY0.out hb)).1⟩, ((HL.out.below (HB0.out.trans (hb.mono HB0.out.size))).mono (Nat.le_trans HB0.out.size hb.size)), ((HT.out.below (HB0.out.trans (hb.mono HB0.out.size))).mono (Nat.le_trans HB0.out.size hb.size)), fun k hk => ((HB0.out.trans (hb.mono HB0.out.size)).cell (p := ⟨bS, oS + k, none⟩) HS.out.1).trans (HS.out.2 k hk)⟩
    have BB0 := Lib.hid (Below.refl W1.heap.size W1)
    go_loopw [1, 7, 8, 9] (fun I K _ _ wr => ∃ (k : Nat), I = .int .i64 (M k : Nat) ∧ K = .int .i64 (k : Nat) ∧ k ≤ l.length ∧ Hid (Below W1.heap.size W1 wr)) (fun _ K _ _ _ => l.length - (intOf K).toNat)
    case atStart => exact ⟨0, by rw [HZr.out], rfl, Nat.zero_le _, BB0.out⟩
    case round =>
      clear BB0
      obtain ⟨k, rfl, rfl, hk, HB⟩ := hrel
      obtain ⟨⟨⟨x1, x2⟩, y1, y2⟩, fl, ft, fs⟩ := HFx.out HB.out
      by_cases hlt : k < l.length
      · have hki : (k : Int) < (l.length : Int) := by omega
        have hM := HLt.out k
        have HN := Lib.hid (HNx.out k)
        have hge : l.getD k 0 = l[k] := by simp [List.getD, hlt]
        rw [hge] at HN
        by_cases hk0 : k = 0
        · rw [if_pos hk0] at HN
          subst hk0
          obtain ⟨e, he⟩ : ∃ e, e = l[0] := ⟨_, rfl⟩
          have HE := Lib.hid he
          rw [← he] at HN
          clear he
          obtain ⟨hper, hcn⟩ := perO_spec HP.out.fp hM
          have hc1 := hper.pos
          have HPw : Hid (pw f n (M 0) e = itr f (e % (perO f n (M 0) : Int)).toNat (M 0)) := rfl
          have HCy := Lib.hid (rcycle_any (cT := cT) wr ft HP.out.fp hM hper hcn hn)
          obtain ⟨b1, b2⟩ := tmod_bds e hc1
          have hrl := emod_lt' e hc1
          have HPos := Lib.hid (fun h => tmod_pos (e := e) hc1 h)
          have HNeg := Lib.hid (fun h => tmod_neg (e := e) hc1 h)
          have HAt : Hid ((cyL f (M 0) (perO f n (M 0))).getD (e % (perO f n (M 0) : Int)).toNat 0 = itr f (e % (perO f n (M 0) : Int)).toNat (M 0)) := cyL_at hrl
          have HCl : Hid ((cyL f (M 0) (perO f n (M 0))).length = perO f n (M 0)) := by show _ = _; unfold cyL; simp
          clear hper fl ft fs
          generalize itr f (e % (perO f n (M 0) : Int)).toNat (M 0) = yy at *
          generalize hxx : M 0 = x at *
          clear hxx
          generalize pw f n x e = y at *
          generalize cyL f x (perO f n x) = CL at *
          generalize perO f n x = c at *
          have hci : (c : Int) ≤ 1152 := by omega
          have hcz : (c : Int) ≠ 0 := by omega
          have hc0 : ((c : Int) == 0) = false := by simpa using hcz
          by_cases hneg : e.tmod c < 0
          · have hr := HNeg.out hneg
            generalize (e % (c : Int)).toNat = r at *
            have hri : (r : Int) < (c : Int) := by omega
            clear HNeg HPos
            go_wp2_with (first
              | (go_at_call 69; ((with_reducible refine HCy.out.mono ?_); rintro e' w4 ⟨gg, cc, rfl, ho, hb⟩; have HB4 := Lib.hid (HB.out.trans (hb.mono HB.out.size)); obtain ⟨⟨⟨x1', x2'⟩, y1', y2'⟩, fl', ft', fs'⟩ := HFx.out HB4.out; obtain ⟨bl, ol, eA, _, d1⟩ := fl'.at_ hlt; rw [← HE.out] at d1; have d1' := (show w4.cell? ⟨bl, ol, none⟩ = some (.int .i64 e) from d1); obtain ⟨gl, eg, hrd⟩ := own_rdn ho HCl.out (by omega); have d2 := (hrd.2 r (by omega)).trans (show some (Value.int .i64 ((CL.getD r 0 : Nat) : Int)) = some (Value.int .i64 ((yy : Nat) : Int)) from by rw [HAt.out]); rw [Nat.zero_add] at d2; cases eg; subst eA; clear hb ho hrd fl' ft' fs' x1 x2 y1 y2))
              | fail)
            go_roundw
            case rel => exact ⟨1, by rw [HN.out, HPw.out], rfl, hlt, HB4.out⟩
            case measure => simp [intOf]; omega
          · have hr := HPos.out (by omega)
            generalize (e % (c : Int)).toNat = r at *
            have hri : (r : Int) < (c : Int) := by omega
            clear HNeg HPos
            go_wp2_with (first
              | (go_at_call 69; ((with_reducible refine HCy.out.mono ?_); rintro e' w4 ⟨gg, cc, rfl, ho, hb⟩; have HB4 := Lib.hid (HB.out.trans (hb.mono HB.out.size)); obtain ⟨⟨⟨x1', x2'⟩, y1', y2'⟩, fl', ft', fs'⟩ := HFx.out HB4.out; obtain ⟨bl, ol, eA, _, d1⟩ := fl'.at_ hlt; rw [← HE.out] at d1; have d1' := (show w4.cell? ⟨bl, ol, none⟩ = some (.int .i64 e) from d1); obtain ⟨gl, eg, hrd⟩ := own_rdn ho HCl.out (by omega); have d2 := (hrd.2 r (by omega)).trans (show some (Value.int .i64 ((CL.getD r 0 : Nat) : Int)) = some (Value.int .i64 ((yy : Nat) : Int)) from by rw [HAt.out]); rw [Nat.zero_add] at d2; cases eg; subst eA; clear hb ho hrd fl' ft' fs' x1 x2 y1 y2))
              | fail)
            go_roundw
            case rel => exact ⟨1, by rw [HN.out, HPw.out], rfl, hlt, HB4.out⟩
            case measure => simp [intOf]; omega
        · rw [if_neg hk0] at HN
          have hk1 : (0 : Int) < (k : Int) := by omega
          have c2 := fs _ hM
          have hMi : (M k : Int) < (n : Int) := by omega
          have hgM := HP.out.gp.lt _ hM
          obtain ⟨e, he⟩ : ∃ e, e = l[k] := ⟨_, rfl⟩
          have HE := Lib.hid he
          rw [← he] at HN
          clear he
          obtain ⟨hper, hcn⟩ := perO_spec HP.out.fp hgM
          have hc1 := hper.pos
          have HPw : Hid (pw f n (g (M k)) e = itr f (e % (perO f n (g (M k)) : Int)).toNat (g (M k))) := rfl
          have HCy := Lib.hid (rcycle_any (cT := cT) wr ft HP.out.fp hgM hper hcn hn)
          obtain ⟨b1, b2⟩ := tmod_bds e hc1
          have hrl := emod_lt' e hc1
          have HPos := Lib.hid (fun h => tmod_pos (e := e) hc1 h)
          have HNeg := Lib.hid (fun h => tmod_neg (e := e) hc1 h)
          have HAt : Hid ((cyL f (g (M k)) (perO f n (g (M k)))).getD (e % (perO f n (g (M k)) : Int)).toNat 0 = itr f (e % (perO f n (g (M k)) : Int)).toNat (g (M k))) := cyL_at hrl
          have HCl : Hid ((cyL f (g (M k)) (perO f n (g (M k)))).length = perO f n (g (M k))) := by show _ = _; unfold cyL; simp
          clear hper fl ft fs
          generalize itr f (e % (perO f n (g (M k)) : Int)).toNat (g (M k)) = yy at *
          generalize hxx : g (M k) = x at *
          clear hxx
          generalize pw f n x e = y at *
          generalize cyL f x (perO f n x) = CL at *
          generalize perO f n x = c at *
          have hci : (c : Int) ≤ 1152 := by omega
          have hcz : (c : Int) ≠ 0 := by omega
          have hc0 : ((c : Int) == 0) = false := by simpa using hcz
          by_cases hneg : e.tmod c < 0
          · have hr := HNeg.out hneg
            generalize (e % (c : Int)).toNat = r at *
            have hri : (r : Int) < (c : Int) := by omega
            clear HNeg HPos
            go_wp2_with (first
              | (go_at_call 69; ((with_reducible refine HCy.out.mono ?_); rintro e' w4 ⟨gg, cc, rfl, ho, hb⟩; have HB4 := Lib.hid (HB.out.trans (hb.mono HB.out.size)); obtain ⟨⟨⟨x1', x2'⟩, y1', y2'⟩, fl', ft', fs'⟩ := HFx.out HB4.out; obtain ⟨bl, ol, eA, _, d1⟩ := fl'.at_ hlt; rw [← HE.out] at d1; obtain ⟨gl, eg, hrd⟩ := own_rdn ho HCl.out (by omega); have d2 := (hrd.2 r (by omega)).trans (show some (Value.int .i64 ((CL.getD r 0 : Nat) : Int)) = some (Value.int .i64 ((yy : Nat) : Int)) from by rw [HAt.out]); rw [Nat.zero_add] at d2; cases eg; subst eA; clear hb ho hrd fl' ft' fs' x1 x2 y1 y2))
              | fail)
            go_roundw
            case rel => exact ⟨k + 1, by rw [HN.out, HPw.out], by go_num, hlt, HB4.out⟩
            case measure => simp [intOf]; omega
          · have hr := HPos.out (by omega)
            generalize (e % (c : Int)).toNat = r at *
            have hri : (r : Int) < (c : Int) := by omega
            clear HNeg HPos
            go_wp2_with (first
              | (go_at_call 69; ((with_reducible refine HCy.out.mono ?_); rintro e' w4 ⟨gg, cc, rfl, ho, hb⟩; have HB4 := Lib.hid (HB.out.trans (hb.mono HB.out.size)); obtain ⟨⟨⟨x1', x2'⟩, y1', y2'⟩, fl', ft', fs'⟩ := HFx.out HB4.out; obtain ⟨bl, ol, eA, _, d1⟩ := fl'.at_ hlt; rw [← HE.out] at d1; obtain ⟨gl, eg, hrd⟩ := own_rdn ho HCl.out (by omega); have d2 := (hrd.2 r (by omega)).trans (show some (Value.int .i64 ((CL.getD r 0 : Nat) : Int)) = some (Value.int .i64 ((yy : Nat) : Int)) from by rw [HAt.out]); rw [Nat.zero_add] at d2; cases eg; subst eA; clear hb ho hrd fl' ft' fs' x1 x2 y1 y2))
              | fail)
            go_roundw
            case rel => exact ⟨k + 1, by rw [HN.out, HPw.out], by go_num, hlt, HB4.out⟩
            case measure => simp [intOf]; omega
      · obtain rfl : k = l.length := by omega
        have hk2 : ¬ (l.length : Int) < (l.length : Int) := by omega
        have HBf := Lib.hid (HB0.out.trans (HB.out.mono HB0.out.size))
        clear HFx HB
        go_wp2
        go_ret
        exact ⟨rfl, HBf.out⟩
end Go.Proofs.Ytpooncdaajcmkaa
