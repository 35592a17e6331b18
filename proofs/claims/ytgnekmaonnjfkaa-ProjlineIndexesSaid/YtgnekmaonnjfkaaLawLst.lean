/- ProjlineLists and ProjlineIndexes answer true for all integers. -/
import Derived.Test.YtgnekmaonnjfkaaAwakeL
import Derived.Test.YtgnekmaonnjfkaaRIdxL
namespace Go.Proofs.Ytgnekmaonnjfkaa
open Go.RowKit
set_option linter.unusedVariables false

/-- A point of the list is its own normal form. -/
theorem nor_pt {k u v : Nat} (k1 : 1 ≤ k) (k2 : (k : Int) ≤ 120) (h : (u, v) ∈ pts k) : NorE k u v u v 1 0 := by
  obtain ⟨h1, h2, h3⟩ := mem_pts.1 h
  have hp := (ptB_iff h1 h2).1 h3
  exact .yes _ _ _ (by omega) k2 (inE_yes (by omega) (by omega)) (inE_yes (by omega) (by omega)) (cop3_gcd hp.cop) hp.nf
theorem idx_pt {k u v : Nat} {j e : Int} (k1 : 1 ≤ k) (k2 : (k : Int) ≤ 120) (h : (u, v) ∈ pts k) (hE : IdxE k u v j e) : j = ix (pts k) u v ∧ e = 0 := by
  have hlv : lvB (k : Int) = true := lvB_yes (by omega) k2
  have := IdxE.yes u v 1 (nor_pt k1 k2 h) (by rw [ptI_yes hlv]; exact h)
  rw [ptI_yes hlv] at this
  exact hE.unique this
set_option maxHeartbeats 6400000 in
set_option maxRecDepth 1000000 in
theorem lists_walk (n : Int) (w : World) :
    Calls Try.prog 5 #[.int .i64 n] w fun e w' => e = .returned (.bool true) ∧ Below w.heap.size w w' := by
  have HIx : Hid (∀ (i : Nat) (h : i < (ptI n).length), (((ptI n)[i].1 : Nat) : Int) = ((ptI n)[i].1 : Nat) ∧ ∀ j e, IdxE n ((ptI n)[i].1 : Nat) ((ptI n)[i].2 : Nat) j e → j = i ∧ e = 0) := fun i h => by
    refine ⟨rfl, fun j e hE => ?_⟩
    cases hb : lvB n with
    | false => rw [ptI_no hb] at h; exact absurd h (by simp)
    | true =>
      obtain ⟨k, rfl, k1, k2⟩ := lv_nat hb
      have hp := ptI_yes hb
      generalize ptI (k : Int) = C at *
      subst hp
      have := idx_pt (u := (pts k)[i].1) (v := (pts k)[i].2) k1 k2 (List.getElem_mem h) hE
      rwa [ix_at (pts_nodup k) h] at this
  have hlen : (ptI n).length ≤ 14400 := by
    cases hb : lvB n with
    | false => rw [ptI_no hb]; simp
    | true =>
      obtain ⟨k, rfl, k1, k2⟩ := lv_nat hb
      rw [ptI_yes hb]; exact pts_len k2
  have HPL := Lib.hid (fun W => plist_any n W)
  have HRL := Lib.hid (fun W => rlist_any n W)
  obtain ⟨C, hC⟩ : ∃ C, C = ptI n := ⟨_, rfl⟩
  rw [← hC] at HIx hlen HPL HRL
  clear hC
  generalize lvE n = E at *
  go_enter Try.func5, Try.ntmps5
  go_upto_region 8 with (first
    | (go_at_call 12; ((with_reducible refine (awake_any _).mono ?_); rintro e w1 ⟨rfl, hb⟩; have HB1 := Lib.hid hb; clear hb))
    | (go_at_call 16; ((with_reducible refine (HPL.out _).mono ?_); rintro e w2 ⟨A, c, rfl, hr, hb⟩; have HR2 := Lib.hid hr; have HB2 := Lib.hid (bel0 HB1.out hb); clear hb hr))
    | (go_at_call 17; ((with_reducible refine (HRL.out _).mono ?_); rintro e w3 ⟨A', c', rfl, hr, hb⟩; have HR3 := Lib.hid ((HR2.out.below hb).mono hb.size); have HR3' := Lib.hid hr; have HB3 := Lib.hid (bel0 HB2.out hb); clear hb hr))
    | (go_at_call 18; ((with_reducible refine (psame_any _ HR3.out HR3'.out).mono ?_); rintro e w' ⟨rfl, q1, rfl⟩))
    | fail)
  have HR4 : Hid (RdP (w3.drewN q1) (w3.drewN q1).heap.size A c C) := HR3.out
  have HB4 := Lib.hid (below_drewN HB3.out q1)
  clear HR3 HR3' HR2 HB3 HB2 HB1 HPL HRL
  generalize w3.drewN q1 = W4 at *
  go_loopw [7, 8, 9] (fun I _ _ wr => ∃ i : Nat, I = .int .i64 i ∧ i ≤ C.length ∧ Hid (Below W4.heap.size W4 wr)) (fun I _ _ _ => C.length - (intOf I).toNat)
  case atStart => exact ⟨0, rfl, Nat.zero_le _, Below.refl _ _⟩
  case round =>
    obtain ⟨i, rfl, hi, HW⟩ := hrel
    by_cases hil : i < C.length
    · have hili : (i : Int) < (C.length : Int) := by omega
      obtain ⟨_, hix⟩ := HIx.out i hil
      have HX := Lib.hid hix
      obtain ⟨b, o, rfl, hb, x1, x2, _⟩ := (HR4.out.below HW.out).at_ hil
      clear hix HIx
      generalize C[i].1 = u at *
      generalize C[i].2 = v at *
      have K_0 : Hid (wr.drew.cell? ⟨b, o + i * 3, none⟩ = some (.int .i64 (u : Int)) ∧ wr.drew.cell? ⟨b, o + i * 3 + 1, none⟩ = some (.int .i64 (v : Int))) := ⟨x1, x2⟩
      have hbw : b < wr.drew.heap.size := by have := HW.out.size; show b < wr.heap.size; omega
      have HI := Lib.hid (fun W => pindex_any n u v W)
      have HW0 := Lib.hid HW.out.drew
      have hsz : W4.heap.size ≤ wr.drew.heap.size := HW.out.size
      clear x1 x2
      go_upto_region 10 with fail
      go_region_held3 (fun w' => w'.cell? ⟨b, o + i * 3, none⟩ = some (.int .i64 (u : Int)) ∧ w'.cell? ⟨b, o + i * 3 + 1, none⟩ = some (.int .i64 (v : Int)))
        (with_reducible first | exact K_0.out | exact K_1.out | fail)
        (first
          | (go_at_call 19; ((with_reducible refine (HI.out _).mono ?_); rintro e z1 ⟨j, k, hE, rfl, hb1⟩; have HJ := Lib.hid (HX.out j k hE); have K_1 : Hid (z1.cell? ⟨b, o + i * 3, none⟩ = some (.int .i64 (u : Int)) ∧ z1.cell? ⟨b, o + i * 3 + 1, none⟩ = some (.int .i64 (v : Int))) := ⟨(hb1.cell (p := ⟨b, o + i * 3, none⟩) hbw).trans K_0.out.1, (hb1.cell (p := ⟨b, o + i * 3 + 1, none⟩) hbw).trans K_0.out.2⟩; have HW1 := Lib.hid (HW0.out.trans (hb1.mono hsz)); clear hb1 hE))
          | fail)
      all_goals
        obtain ⟨rfl, rfl⟩ := HJ.out
        go_wp2_with fail
        go_roundw
        case rel => exact ⟨i + 1, by go_num, by omega, HW1.out⟩
        case measure => simp [intOf]; omega
    · obtain rfl : i = C.length := by omega
      have hi3 : ¬ (C.length : Int) < (C.length : Int) := by omega
      go_wp2_with fail
      go_ret
      exact ⟨rfl, HB4.out.trans (HW.out.mono HB4.out.size)⟩
set_option maxHeartbeats 3200000 in
set_option maxRecDepth 1000000 in
theorem indexes_walk (n c d : Int) (w : World) :
    Calls Try.prog 7 #[.int .i64 n, .int .i64 c, .int .i64 d] w fun e w' => e = .returned (.bool true) ∧ Below w.heap.size w w' := by
  go_enter Try.func7, Try.ntmps7
  go_upto_region 5 with (first
    | (go_at_call 12; ((with_reducible refine (awake_any _).mono ?_); rintro e w1 ⟨rfl, hb⟩; have HB1 := Lib.hid hb; clear hb))
    | (go_at_call 19; ((with_reducible refine (pindex_any n c d _).mono ?_); rintro e w2 ⟨i, k, hE, rfl, hb⟩; have HE := Lib.hid hE; have HB2 := Lib.hid (bel0 HB1.out hb); clear hb hE))
    | (go_at_call 22; ((with_reducible refine (rindex_any n c d _).mono ?_); rintro e w3 ⟨i', k', hE, rfl, hb⟩; obtain ⟨rfl, rfl⟩ := hE.unique HE.out; have HB3 := Lib.hid (bel0 HB2.out hb); clear hb hE))
    | fail)
  go_wp2
  go_ret
  exact ⟨rfl, HB3.out⟩
end Go.Proofs.Ytgnekmaonnjfkaa
