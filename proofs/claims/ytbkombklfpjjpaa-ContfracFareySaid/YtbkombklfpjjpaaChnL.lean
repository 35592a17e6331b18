/- The contract of Chain. -/
import Derived.Test.YtbkombklfpjjpaaPathL
import Derived.Test.YtbkombklfpjjpaaChM
import Derived.Test.YtbkombklfpjjpaaUniL
import Derived.Deep.CutBlock
import Derived.Deep.RegionHeld3
import Derived.Deep.DeepCutAuto
import Derived.Deep.QuietTactic
import Derived.BigQuiet
namespace Go.Proofs.Ytbkombklfpjjpaa
open Go.RowKit

/-- What both Chains answer. -/
def chnI (a b c d : Int) : Int := bothI a b c d
def chnL (a b c d : Int) : List (Int × Int) := if bothI a b c d = 0 then chn (pthl a b) (pthl c d) else []
theorem chnL_yes {a b c d : Int} (h : bothI a b c d = 0) : chnL a b c d = chn (pthl a b) (pthl c d) := if_pos h
theorem chnL_no {a b c d : Int} (h : ¬ bothI a b c d = 0) : chnL a b c d = [] := if_neg h
theorem pthl_facts {p q : Int} (h : cuspI p q = 0) : (pthl p q).length ≤ 66 ∧ ∃ X, pthl p q = (1, 0) :: X := by
  by_cases hq : q = 0
  · subst hq; rw [pthl_zero]; exact ⟨by simp, [], rfl⟩
  · have k0 := (cuspI_zero.1 h).2.2.pos
    obtain ⟨C, c1, c2, _⟩ := cvg_cfe h (show 0 < q by omega)
    have := cfe_len64 h (show 0 < q by omega)
    rw [pthl_pos hq c1]
    exact ⟨by simp; omega, C, rfl⟩
theorem cpl_pos {x y : List (Int × Int)} {e : Int × Int} {X Y : List (Int × Int)} (hx : x = e :: X) (hy : y = e :: Y) : 1 ≤ cpl x y := by
  subst hx hy
  unfold cpl
  rw [if_pos rfl]; omega
/-- Between the paths: both lists are read. -/
structure ChW (w W : World) (A1 : Option Addr) (c1 : Nat) (x : List (Int × Int)) (A2 : Option Addr) (c2 : Nat) (y : List (Int × Int)) : Prop where
  rx : RdC W W.heap.size A1 c1 x
  ry : RdC W W.heap.size A2 c2 y
  bel : Below w.heap.size w W
/-- Behind an append to an own row. -/
theorem below_app {B base size n : Nat} {w0 wr w3 : World} {e : TypeId} {v : Value} {xs : List Value} {o : Obj} (hB : Below B w0 wr) (hs : B ≤ wr.heap.size) (hown : wr.ownsRow base e size v n xs) (hb : B ≤ base) (hg : (wr.alloc o).grownBy w3 v.ownBlock) : Below B w0 w3 :=
  (hB.alloc hs o).grown hg (by simp; omega) (fun j hj => by have := (hown.lt j hj).1; omega)
theorem below_app0 {B base size n : Nat} {w0 wr w3 : World} {e : TypeId} {v : Value} {xs : List Value} (hB : Below B w0 wr) (hs : B ≤ wr.heap.size) (hown : wr.ownsRow base e size v n xs) (hb : B ≤ base) (hg : wr.grownBy w3 v.ownBlock) : Below B w0 w3 :=
  hB.grown hg hs (fun j hj => by have := (hown.lt j hj).1; omega)
theorem chn_end {w W1 wr w3 : World} {v v' : Value} {n n' : Nat} {xs : List Value} {Z : List (Int × Int)} (BW : Below w.heap.size w W1) (HB : Below W1.heap.size W1 wr) (hown : wr.ownsRow W1.heap.size 23 2 v n xs)
    (ho : w3.ownsRow W1.heap.size 23 2 v' n' (cs Z)) (hn : n' = Z.length) (hg : wr.grownBy w3 v.ownBlock) :
    ∃ A c, v' = .slice A Z.length c ∧ w3.ownsRow w.heap.size 23 2 (.slice A Z.length c) Z.length (cs Z) ∧ Below w.heap.size w w3 := by
  subst hn
  obtain ⟨A, c, rfl⟩ := own_len ho
  exact ⟨A, c, rfl, own_base BW.size ho, BW.trans ((below_app0 HB HB.size hown (Nat.le_refl _) hg).mono BW.size)⟩
set_option maxHeartbeats 6400000 in
set_option maxRecDepth 1000000 in
theorem chain_any (a b c d : Int) (w : World) : Calls Try.prog 25 #[.agg #[.int .i64 a, .int .i64 b], .agg #[.int .i64 c, .int .i64 d]] w (CusTup w (bothI a b c d) (chnL a b c d)) := by
  have HC := Lib.hid (fun W => checkBoth_any a b c d W)
  by_cases h : bothI a b c d = 0
  · obtain ⟨i0, hi, z0, z1, z2⟩ := info_parts Try.infoCusp
    obtain ⟨g1, g2⟩ := both_ok h
    rw [chnL_yes h]
    have HPa := Lib.hid (fun W => path_any a b W g1)
    have HPb := Lib.hid (fun W => path_any c d W g2)
    obtain ⟨hX, X, eX⟩ := pthl_facts g1
    obtain ⟨hY, Y, eY⟩ := pthl_facts g2
    have hm1 := cpl_pos eX eY
    rw [h] at HC ⊢
    clear h g1 g2 eX eY
    generalize pthl a b = x at *
    generalize pthl c d = y at *
    obtain ⟨hm2, hm3⟩ := cpl_le x y
    have HM := Lib.hid (cpl_step x y)
    have HM2 := Lib.hid (fun k => @cpl_stop x y k)
    have HF : Hid (chn x y = (x.drop (cpl x y - 1)).reverse ++ y.drop (cpl x y)) := rfl
    generalize chn x y = Z at *
    generalize cpl x y = m at *
    go_enter Try.func25, Try.ntmps25
    go_upto_region 4 with (first
      | (go_at_call 45; ((with_reducible refine (HC.out _).mono ?_); rintro e w1 ⟨rfl, hb⟩; obtain ⟨hc, hf⟩ := bcell hb; have T1 := Lib.hid ((TwoB.start w a b c d).below hb); have HB := Lib.hid ((below2 w _ _).trans (hb.mono (by simp; omega))); clear hb))
      | fail)
    have TD : Hid (TwoB w1.drew w.heap.size a b c d) := T1.out
    have HBd : Hid (Below w.heap.size w w1.drew) := HB.out.drew
    go_cut [7, 8] (fun s7 s8 wx => ∃ (W : World) (A1 A2 : Option Addr) (c1 c2 : Nat), W = wx ∧ s7 = .slice A1 x.length c1 ∧ s8 = .slice A2 y.length c2 ∧ Hid (ChW w W A1 c1 x A2 c2 y))
    case first =>
      go_region_held3 (fun w' => w'.cell? ⟨w.heap.size, 0, none⟩ = some (.int .i64 a) ∧ w'.cell? ⟨w.heap.size, 1, none⟩ = some (.int .i64 b) ∧ w'.cell? ⟨w.heap.size + 1, 0, none⟩ = some (.int .i64 c) ∧ w'.cell? ⟨w.heap.size + 1, 1, none⟩ = some (.int .i64 d))
        (with_reducible first | exact TwoB.cells TD.out | exact TwoB.cells Ta.out | exact TwoB.cells Tb.out | fail)
        (first
          | (go_at_call 44; ((with_reducible refine (HPa.out _).mono ?_); rintro e wa ⟨A1, c1, rfl, ho, hb⟩; have Ta : Hid (TwoB wa w.heap.size a b c d) := (by first | exact TD.out.below hb | exact Tb.out.below hb | fail); have Ra := Lib.hid (own_rdc ho); have Ba := Lib.hid hb; clear ho hb))
          | (go_at_call 44; ((with_reducible refine (HPb.out _).mono ?_); rintro e wb ⟨A2, c2, rfl, ho, hb⟩; have Tb : Hid (TwoB wb w.heap.size a b c d) := (by first | exact TD.out.below hb | exact Ta.out.below hb | fail); have Rb := Lib.hid (own_rdc ho); have Bb := Lib.hid hb; clear ho hb))
          | fail)
      all_goals
        go_wp2_with fail
        go_meet
        first
          | exact ⟨wb, A1, A2, c1, c2, rfl, rfl, rfl, (Ra.out.below Bb.out).mono Bb.out.size, Rb.out, (HBd.out.trans (Ba.out.mono HBd.out.size)).trans (Bb.out.mono (by have := HBd.out.size; have := Ba.out.size; omega))⟩
          | exact ⟨wa, A1, A2, c1, c2, rfl, rfl, rfl, Ra.out, (Rb.out.below Ba.out).mono Ba.out.size, (HBd.out.trans (Bb.out.mono HBd.out.size)).trans (Ba.out.mono (by have := HBd.out.size; have := Bb.out.size; omega))⟩
          | fail
    case rest =>
      obtain ⟨W, A1, A2, c1, c2, hW, rfl, rfl, HW⟩ := hcut
      subst hW
      have hxl := HW.out.rx.len
      have hyl := HW.out.ry.len
      clear HC HPa HPb T1 TD HB HBd hc hf
      go_upto_block 0 with fail
      go_cut [9] (fun s9 wx => ∃ n : Nat, s9 = .int .i64 m ∧ wx = W.drewN n)
      case first =>
        go_wp2_with fail
        go_loopw [9] (fun i wr => ∃ k n : Nat, i = .int .i64 k ∧ Hid (k ≤ m) ∧ wr = W.drewN n) (fun i _ => x.length - (intOf i).toNat)
        case atStart => exact ⟨0, 0, rfl, Nat.zero_le _, rfl⟩
        case round =>
          obtain ⟨k, n, rfl, hk, rfl⟩ := hrel
          have hkm := hk.out
          by_cases h1 : k < x.length
          · by_cases h2 : k < y.length
            · obtain ⟨b1, o1, rfl, _, x1, x3⟩ := HW.out.rx.at_ h1
              obtain ⟨b2, o2, rfl, _, x2, x4⟩ := HW.out.ry.at_ h2
              have y1 := fun N => (show (W.drewN N).cell? ⟨b1, o1 + k * 2, none⟩ = _ from x1)
              have y2 := fun N => (show (W.drewN N).cell? ⟨b2, o2 + k * 2, none⟩ = _ from x2)
              have y3 := fun N => (show (W.drewN N).cell? ⟨b1, o1 + k * 2 + 1, none⟩ = _ from x3)
              have y4 := fun N => (show (W.drewN N).cell? ⟨b2, o2 + k * 2 + 1, none⟩ = _ from x4)
              have h3 : (k : Int) < (x.length : Int) := by omega
              have h4 : (k : Int) < (y.length : Int) := by omega
              have hg : decide ((k : Int) < if y.length < x.length then (y.length : Int) else (x.length : Int)) = true := by split <;> (simp; omega)
              have HS := Lib.hid (HM.out k h1 h2 hkm)
              have HT := Lib.hid (fun (e : x[k] ≠ y[k]) => HM2.out k hkm (fun _ _ => e))
              clear x1 x2 x3 x4
              generalize x[k] = P at *
              generalize y[k] = Q at *
              obtain ⟨p1, p2⟩ := P
              obtain ⟨q1, q2⟩ := Q
              by_cases e1 : p1 = q1
              · subst e1
                by_cases e2 : p2 = q2
                · subst e2
                  have HK := Lib.hid (HS.out rfl)
                  clear HS HT
                  go_wp2
                  go_quiet (fail)
                  go_wp2
                  go_roundw
                  case rel => exact ⟨k + 1, _, by go_num, HK.out, rfl⟩
                  case measure => simp [intOf]; omega
                · have HK := Lib.hid (HT.out (fun e => e2 (by cases e; rfl)))
                  have e3 : (p2 == q2) = false := by simpa using e2
                  clear HS HT
                  go_wp2
                  go_quiet (fail)
                  all_goals go_wp2_with fail
                  all_goals go_meet
                  all_goals exact ⟨n + nq, by rw [HK.out], by first | rfl | exact World.drewN_drewN W n nq⟩
              · have HK := Lib.hid (HT.out (fun e => e1 (by cases e; rfl)))
                have e3 : (p1 == q1) = false := by simpa using e1
                clear HS HT
                go_wp2
                go_quiet (fail)
                all_goals go_wp2_with fail
                all_goals go_meet
                all_goals exact ⟨n + nq, by rw [HK.out], by first | rfl | exact World.drewN_drewN W n nq⟩
            · have HK := Lib.hid (HM2.out k hkm (fun _ h => absurd h h2))
              have hg : decide ((k : Int) < if y.length < x.length then (y.length : Int) else (x.length : Int)) = false := by split <;> (simp; omega)
              go_wp2
              go_quiet (fail)
              all_goals go_wp2_with fail
              all_goals go_meet
              all_goals exact ⟨n + nq, by rw [HK.out], by first | rfl | exact World.drewN_drewN W n nq⟩
          · have HK := Lib.hid (HM2.out k hkm (fun h => absurd h h1))
            have hg : decide ((k : Int) < if y.length < x.length then (y.length : Int) else (x.length : Int)) = false := by split <;> (simp; omega)
            go_wp2
            go_quiet (fail)
            all_goals go_wp2_with fail
            all_goals go_meet
            all_goals exact ⟨n + nq, by rw [HK.out], by first | rfl | exact World.drewN_drewN W n nq⟩
      case rest =>
        obtain ⟨n0, rfl, rfl⟩ := hcut
        have RX : Hid (RdC (W.drewN n0) (W.drewN n0).heap.size A1 c1 x) := HW.out.rx
        have RY : Hid (RdC (W.drewN n0) (W.drewN n0).heap.size A2 c2 y) := HW.out.ry
        have BW : Hid (Below w.heap.size w (W.drewN n0)) := below_drewN HW.out.bel n0
        clear HW HM HM2
        generalize W.drewN n0 = W1 at *
        go_wp2
        go_loopw [11, 10] (fun i v wr => ∃ (k j : Nat) (z : Int), i = .int .i64 z ∧ z + 1 = j ∧ j + k = x.length ∧ m ≤ j + 1 ∧ Hid (wr.ownsRow W1.heap.size 23 2 v k (cs (x.drop j).reverse)) ∧ Hid (Below W1.heap.size W1 wr)) (fun i _ _ => (intOf i + 1).toNat)
        case atStart => exact ⟨0, x.length, (x.length : Int) - 1, rfl, by omega, by omega, by omega, by rw [List.drop_length]; exact World.ownsRow_nil _ _ _ _, Below.refl _ _⟩
        case round =>
          obtain ⟨k, j, z, rfl, hz, hjk, hmj, HO, HB⟩ := hrel
          by_cases hj : m ≤ j
          · obtain ⟨t, rfl⟩ : ∃ t, j = t + 1 := ⟨j - 1, by omega⟩
            obtain rfl : z = (t : Int) := by omega
            have htx : t < x.length := by omega
            obtain ⟨b1, o1, rfl, hb1, x1, x3⟩ := RX.out.at_ htx
            have y1 := (HB.out.cell (p := ⟨b1, o1 + t * 2, none⟩) hb1).trans x1
            have y3 := (HB.out.cell (p := ⟨b1, o1 + t * 2 + 1, none⟩) hb1).trans x3
            have ht2 : (t : Int) < (x.length : Int) := by omega
            have hmt : (m : Int) - 1 ≤ (t : Int) := by omega
            have HE : Hid ((x.drop (t + 1)).reverse ++ [x[t]] = (x.drop t).reverse) := by
              show _ = _
              rw [List.drop_eq_getElem_cons htx, List.reverse_cons]
            have hown := HO.out
            have hbs := HB.out.size
            clear x1 x3 HO
            generalize x[t] = P at *
            obtain ⟨p1, p2⟩ := P
            go_wp2_with (first
              | (at_builtin; (refine wpList_append_own _ rfl _ _ 35 rfl W1.heap.size 23 i0 (.agg #[.int .i64 0, .int .i64 0]) 2 16 Try.underlying35 hi z0 z1 z2 rfl (by decide) _ _ _ rfl (hown.alloc _) ⟨wr.heap.size, 0, none⟩ 1 1 [.int .i64 p1, .int .i64 p2] rfl rfl (cell_two_new _ _ _ _) (fun x hx => by simp at hx; rcases hx with hx | hx <;> (rw [hx]; rfl)) (by unfold maxLen; omega) (by omega) (by simp; omega) ?_); intro v' w3 hown' hgrow3 hnil3; have HO3 := Lib.hid hown'; have HG3 := Lib.hid hgrow3; clear hown' hgrow3 hnil3)
              | fail)
            go_roundw
            case rel =>
              refine ⟨k + 1, t, (t : Int) - 1, rfl, by omega, by omega, by omega, ?_, below_app HB.out hbs hown (Nat.le_refl _) HG3.out⟩
              have e := HE.out
              rw [← e, cs_append]
              exact HO3.out
            case measure => simp [intOf]
          · obtain rfl : m = j + 1 := by omega
            have hzm : z < (((j + 1 : Nat) : Int)) - 1 := by omega
            have hown := HO.out
            have hbs := HB.out.size
            have hy0 : 0 < y.length := by omega
            obtain ⟨b2, o2, rfl, hb2, x1, x2⟩ := RY.out.at_ hy0
            have hcy := RY.out.1
            have hcm := RY.out.2.1
            unfold maxLen at hcm
            have hym : ((j + 1 : Nat) : Int) ≤ (y.length : Int) := by omega
            have RY2 := Lib.hid (RY.out.below HB.out)
            clear RY HO x1 x2
            by_cases hcap : c2 = j + 1
            · subst hcap
              have HYJ : Hid (y.drop (j + 1) = []) := List.drop_of_length_le (by omega)
              go_wp2_with (first
                | (at_builtin; (refine wpList_append_own _ rfl _ _ 35 rfl W1.heap.size 23 i0 (.agg #[.int .i64 0, .int .i64 0]) 2 16 Try.underlying35 hi z0 z1 z2 rfl (by decide) _ _ _ rfl hown ⟨b2, o2, none⟩ 0 _ [] rfl rfl (fun i u hi' => by cases hi') (fun u hu => by cases hu) (by unfold maxLen; omega) (by omega) (by omega) ?_); intro v' w3 hown' hgrow3 hnil3; have HO3 := Lib.hid hown'; have HG3 := Lib.hid hgrow3; clear hown' hgrow3 hnil3)
                | fail)
              have eZ : cs Z = cs (x.drop j).reverse ++ [] := by
                have e := HF.out
                rw [Nat.add_sub_cancel, HYJ.out] at e
                rw [e, cs_append]; rfl
              have eL : k + 0 = Z.length := by
                have e := HF.out
                rw [Nat.add_sub_cancel, HYJ.out] at e
                rw [e]; simp; omega
              obtain ⟨A3, c3, rfl, ho3, hb3⟩ := chn_end BW.out HB.out hown (by rw [eZ]; exact HO3.out) eL HG3.out
              clear eZ eL
              refine bodyPost_ret (v := .tuple #[.slice A3 Z.length c3, .int .i64 0]) ?_ rfl ⟨A3, c3, rfl, ho3, hb3⟩
              simp [results, Try.results25, go_sem, *]
            · have HN := Lib.hid (fun i u => RY2.out.drop_cells (m := j + 1) i u)
              go_wp2_with (first
                | (at_builtin; (refine wpList_append_own _ rfl _ _ 35 rfl W1.heap.size 23 i0 (.agg #[.int .i64 0, .int .i64 0]) 2 16 Try.underlying35 hi z0 z1 z2 rfl (by decide) _ _ _ rfl hown ⟨b2, o2 + (j + 1) * 2, none⟩ (y.length - (j + 1)) _ (cs (y.drop (j + 1))) rfl (by rw [cs_length, List.length_drop]; omega) HN.out (cs_one _) (by unfold maxLen; omega) (by omega) (by omega) ?_); intro v' w3 hown' hgrow3 hnil3; have HO3 := Lib.hid hown'; have HG3 := Lib.hid hgrow3; clear hown' hgrow3 hnil3)
                | fail)
              have eZ : cs Z = cs (x.drop j).reverse ++ cs (y.drop (j + 1)) := by
                have e := HF.out
                rw [Nat.add_sub_cancel] at e
                rw [e, cs_append]
              have eL : k + (y.length - (j + 1)) = Z.length := by
                have e := HF.out
                rw [Nat.add_sub_cancel] at e
                rw [e]; simp; omega
              obtain ⟨A3, c3, rfl, ho3, hb3⟩ := chn_end BW.out HB.out hown (by rw [eZ]; exact HO3.out) eL HG3.out
              clear eZ eL
              refine bodyPost_ret (v := .tuple #[.slice A3 Z.length c3, .int .i64 0]) ?_ rfl ⟨A3, c3, rfl, ho3, hb3⟩
              simp [results, Try.results25, go_sem, *]
  · rw [chnL_no h]
    rcases both_vals a b c d with h0 | h0 | h0
    · exact absurd h0 h
    all_goals
      rw [h0] at HC ⊢
      clear h h0
      go_enter Try.func25, Try.ntmps25
      go_wp2_with (first
        | (go_at_call 45; ((with_reducible refine (HC.out _).mono ?_); rintro e w1 ⟨rfl, hb⟩; have HB := Lib.hid ((below2 w _ _).trans (hb.mono (by simp; omega))); clear hb))
        | fail)
      first
        | (refine bodyPost_ret (v := .tuple #[.slice none 0 0, .int .i64 2]) ?_ rfl ⟨none, 0, rfl, World.ownsRow_nil _ _ _ _, HB.out⟩; simp [results, Try.results25, go_sem, *])
        | (refine bodyPost_ret (v := .tuple #[.slice none 0 0, .int .i64 3]) ?_ rfl ⟨none, 0, rfl, World.ownsRow_nil _ _ _ _, HB.out⟩; simp [results, Try.results25, go_sem, *])
end Go.Proofs.Ytbkombklfpjjpaa
