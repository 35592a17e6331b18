/- The contract of the reference's Expand. -/
import Derived.Test.YtbkombklfpjjpaaExpL
namespace Go.Proofs.Ytbkombklfpjjpaa
open Go.RowKit
set_option maxHeartbeats 3200000 in
set_option maxRecDepth 1000000 in
theorem rexpand_any (p q : Int) (w : World) : Calls Try.prog 15 #[.agg #[.int .i64 p, .int .i64 q]] w (ExpRet w (expI p q) (exl p q)) := by
  have HC := Lib.hid (fun W => rcheckCusp_any p q W)
  by_cases h : cuspI p q = 0
  · by_cases hq : q = 0
    · have e1 : expI p q = 5 := by unfold expI; rw [if_neg (by simpa using h), if_pos hq]
      have e2 : exl p q = [] := by unfold exl; rw [if_neg (by simpa using h), if_pos hq]
      rw [h] at HC
      rw [e1, e2]
      clear h e1 e2
      subst hq
      go_enter Try.func15, Try.ntmps15
      go_wp2_with (first
        | (go_at_call 38; ((with_reducible refine (HC.out _).mono ?_); rintro e w1 ⟨rfl, hb⟩; obtain ⟨hc, hf⟩ := bcell hb; obtain hz0 : w.heap.size < w1.heap.size := (by have := hb.size; (try simp at this); omega); have HBn : Hid (Below w.heap.size w w1) := (by first | exact HB.out.trans (hb.mono HB.out.size) | exact (below1 _ _).trans (hb.mono (by simp)) | fail); have HB := Lib.hid HBn.out; clear HBn hb))
        | fail)
      refine bodyPost_ret (v := .tuple #[.slice none 0 0, .int .i64 5]) ?_ rfl ⟨none, 0, rfl, rdz_nil _ _, by simp, HB.out⟩
      simp [results, Try.results15, go_sem, *]
    · obtain ⟨e0, e1, k⟩ := cuspI_zero.1 h
      obtain ⟨p1, p2⟩ := inE_iff.1 e0
      have k0 := k.pos
      obtain ⟨i0, hi, z0, z1, z2⟩ := info_parts Try.infoInt
      have HS0 : Hid (Exps p q p q []) := ⟨p1, p2, k0, e1, rfl, by simpa using e1⟩
      have e1 : expI p q = 0 := by unfold expI; rw [if_neg (by simpa using h), if_neg hq]
      have e2 : exl p q = cfe p q := by unfold exl; rw [if_neg (by simpa using h), if_neg hq]
      have hq0 : (q == 0) = false := by simpa using hq
      rw [h] at HC
      rw [e1, e2]
      clear h e1 e2 k p1 p2 k0 e0
      go_enter Try.func15, Try.ntmps15
      go_wp2_with (first
        | (go_at_call 38; ((with_reducible refine (HC.out _).mono ?_); rintro e w1 ⟨rfl, hb⟩; obtain ⟨hc, hf⟩ := bcell hb; obtain hz0 : w.heap.size < w1.heap.size := (by have := hb.size; (try simp at this); omega); have HBn : Hid (Below w.heap.size w w1) := (by first | exact HB.out.trans (hb.mono HB.out.size) | exact (below1 _ _).trans (hb.mono (by simp)) | fail); have HB := Lib.hid HBn.out; clear HBn hb))
        | fail)
      go_quiet (fail)
      go_wp2
      obtain ⟨b, hb⟩ : ∃ b, b = w1.heap.size := ⟨_, rfl⟩
      have hwb : w.heap.size ≤ b := by omega
      clear hq hq0
      have HX0 : Hid (XS w.heap.size b w w1 (.slice none 0 0) []) := ⟨World.ownsRow_nil _ _ _ _, HB.out, by omega, hwb⟩
      clear hc hf hz0 HC HB hb hwb
      go_loopw [5, 6, 7, 8] (fun V P Q _ wr => ∃ (x y : Int) (L : List Int), P = .int .i64 x ∧ Q = .int .i64 y ∧ Hid (Exps p q x y L) ∧ Hid (XS w.heap.size b w wr V L)) (fun _ _ Q _ _ => (intOf Q).toNat)
      case atStart => exact ⟨p, q, [], rfl, rfl, HS0.out, XS.draw HX0.out _⟩
      case round =>
        clear HS0
        obtain ⟨x, y, L, rfl, rfl, HE, HX⟩ := hrel
        obtain ⟨x1, x2, y1, y2⟩ : _ ∧ _ ∧ _ ∧ _ := ⟨HE.out.lox, HE.out.hix, HE.out.loy, HE.out.hiy⟩
        by_cases hy : y = 0
        · subst hy
          have HL := Lib.hid HE.out.eq
          rw [cfe_zero, List.append_nil] at HL
          obtain ⟨A, c, rfl⟩ := own_len HX.out.own
          go_wp2
          rw [← HL.out]
          refine bodyPost_ret (v := .tuple #[.slice A L.length c, .int .i64 0]) ?_ rfl ⟨A, c, rfl, own_rdz2 HX.out.own, fun a ha => (by have := own_up HX.out.own a ha; have := HX.out.hB; omega), HX.out.bel⟩
          simp [results, Try.results15, go_sem, *]
        · have hy0 : 0 < y := by omega
          have hc0 : (y == 0) = false := by simpa using hy
          have HE2 := Lib.hid (HE.out.next hy0)
          have hll : L.length ≤ 1073741824 := by have := HE.out.len; omega
          have m1 := Int.emod_nonneg x (show y ≠ 0 by omega)
          have m2 := Int.emod_lt_of_pos x hy0
          have HD := Lib.hid (floor_of (p := x) hy0)
          obtain ⟨d1, d2⟩ := floor_bd (p := x) hy0 x1 x2
          have t1 := Int.lt_tmod_of_pos x hy0
          have t2 := Int.tmod_lt_of_pos x hy0
          have HU := Lib.hid (tmod_up (p := x) hy0)
          have HO := Lib.hid (tmod_ok (p := x) hy0)
          have hown := HX.out.own
          have hsz := HX.out.sz
          rcases Int.lt_or_le (x.tmod y) 0 with ht | ht
          · have e1 := HU.out ht
            have HD2 := HD.out
            rw [← e1] at HD2 HE2 m1 m2
            clear HD HU HO e1
            generalize x / y = d at *
            go_wp2_with (first
              | (at_builtin; (refine wpList_append_own _ rfl _ _ 25 rfl (b) 3 i0 (.int .i64 0) 1 8 Try.underlying25 hi z0 z1 z2 rfl (by decide) _ _ _ rfl (hown.alloc _) ⟨wr.heap.size, 0, none⟩ 1 1 [.int .i64 d] rfl rfl (cell_one_new' _ _ _) (fun x hx => by simp at hx; rw [hx]; rfl) (by unfold maxLen; omega) (by omega) (by simp; omega) ?_); intro v' w3 hown' hgrow3 hnil3; have HR := Lib.hid (HX.out.app hown' hgrow3); clear hown' hgrow3 hnil3)
              | fail)
            go_roundw
            case rel => exact ⟨y, x.tmod y + y, L ++ [d], rfl, rfl, HE2.out, HR.out⟩
            case measure => simp [intOf]; omega
          · have e1 := HO.out ht
            have HD2 := HD.out
            rw [← e1] at HD2 HE2 m1 m2
            clear HD HU HO e1
            generalize x / y = d at *
            go_wp2_with (first
              | (at_builtin; (refine wpList_append_own _ rfl _ _ 25 rfl (b) 3 i0 (.int .i64 0) 1 8 Try.underlying25 hi z0 z1 z2 rfl (by decide) _ _ _ rfl (hown.alloc _) ⟨wr.heap.size, 0, none⟩ 1 1 [.int .i64 d] rfl rfl (cell_one_new' _ _ _) (fun x hx => by simp at hx; rw [hx]; rfl) (by unfold maxLen; omega) (by omega) (by simp; omega) ?_); intro v' w3 hown' hgrow3 hnil3; have HR := Lib.hid (HX.out.app hown' hgrow3); clear hown' hgrow3 hnil3)
              | fail)
            go_roundw
            case rel => exact ⟨y, x.tmod y, L ++ [d], rfl, rfl, HE2.out, HR.out⟩
            case measure => simp [intOf]; omega
  · have e1 : expI p q = cuspI p q := by unfold expI; rw [if_pos h]
    have e2 : exl p q = [] := by unfold exl; rw [if_pos h]
    rw [e1, e2]
    clear e1 e2
    rcases cusp_vals p q with h0 | h0 | h0
    · exact absurd h0 h
    all_goals
      rw [h0] at HC ⊢
      clear h h0
      go_enter Try.func15, Try.ntmps15
      go_wp2_with (first
        | (go_at_call 38; ((with_reducible refine (HC.out _).mono ?_); rintro e w1 ⟨rfl, hb⟩; obtain ⟨hc, hf⟩ := bcell hb; obtain hz0 : w.heap.size < w1.heap.size := (by have := hb.size; (try simp at this); omega); have HBn : Hid (Below w.heap.size w w1) := (by first | exact HB.out.trans (hb.mono HB.out.size) | exact (below1 _ _).trans (hb.mono (by simp)) | fail); have HB := Lib.hid HBn.out; clear HBn hb))
        | fail)
      first
        | (refine bodyPost_ret (v := .tuple #[.slice none 0 0, .int .i64 2]) ?_ rfl ⟨none, 0, rfl, rdz_nil _ _, by simp, HB.out⟩; simp [results, Try.results15, go_sem, *])
        | (refine bodyPost_ret (v := .tuple #[.slice none 0 0, .int .i64 3]) ?_ rfl ⟨none, 0, rfl, rdz_nil _ _, by simp, HB.out⟩; simp [results, Try.results15, go_sem, *])

end Go.Proofs.Ytbkombklfpjjpaa
