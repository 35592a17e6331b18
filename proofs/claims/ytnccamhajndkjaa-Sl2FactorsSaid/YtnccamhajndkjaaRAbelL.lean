/- The contract of the reference's Factor whole, and of its Abelian. -/
import Derived.Test.YtnccamhajndkjaaRWordL
import Derived.Test.YtnccamhajndkjaaAbelL
namespace Go.Proofs.Ytnccamhajndkjaa
open Go.RowKit

set_option maxHeartbeats 1600000 in
set_option maxRecDepth 1000000 in
theorem rfactor_no (a b c d : Int) (w : World) (h : ¬ chkI a b c d = 0) : Calls Try.prog 30 #[.agg #[.int .i64 a, .int .i64 b, .int .i64 c, .int .i64 d]] w fun e w' => ∃ k, FacRet w ⟨a, b, c, d⟩ k e w' := by
  have HC := Lib.hid (fun W => rcheck_any a b c d W)
  have HK : Hid (¬ chkI a b c d = 0) := h
  have hk1 : (chkI a b c d != 0) = true := by simpa using h
  obtain ⟨kk, hkk⟩ : ∃ kk, kk = chkI a b c d := ⟨_, rfl⟩
  rw [← hkk] at HC HK hk1
  have HKK := Lib.hid hkk
  clear h hkk
  go_enter Try.func30, Try.ntmps30
  go_wp2_with (first
    | (go_at_call 18; ((with_reducible refine (HC.out _).mono ?_); rintro e w1 ⟨rfl, hb⟩; obtain ⟨hc, hf⟩ := bcell hb; obtain ⟨hz0, hz1⟩ : w.heap.size < w1.heap.size ∧ w.heap.size + 1 < w1.heap.size := (by have := hb.size; (try simp at this); omega); have HBn : Hid (Below w.heap.size w w1) := (by first | exact HB.out.trans (hb.mono HB.out.size) | exact (HB.out.trans ((below1 _ _).mono HB.out.size)).trans (hb.mono (by have := HB.out.size; (try simp); omega)) | exact (below2 _ _ _).trans (hb.mono (by simp; omega)) | fail); have HB := Lib.hid HBn.out; clear HBn hb))
    | fail)
  refine bodyPost_ret (v := .tuple #[.agg #[.bool false, .slice none 0 0], .int .i64 kk]) ?_ rfl ⟨kk, false, none, 0, [], rfl, ?_, by simp, ⟨HKK.out, ?_, ?_⟩, below_set2 HB.out (by omega) _ _⟩
  · simp [results, Try.results30, go_sem, *]
  · exact ⟨by simp, by unfold maxLen; omega, fun h0 => by simp at h0, fun _ h0 => by cases h0⟩
  · rw [if_neg HK.out]
  · rw [if_neg HK.out]
theorem rfactor_any (a b c d : Int) (w : World) : Calls Try.prog 30 #[.agg #[.int .i64 a, .int .i64 b, .int .i64 c, .int .i64 d]] w fun e w' => ∃ k, FacRet w ⟨a, b, c, d⟩ k e w' := by
  by_cases h : chkI a b c d = 0
  · rcases chk_cases a b c d with ⟨_, k⟩ | ⟨h1, h2, _⟩ | ⟨_, _, k⟩
    · omega
    · exact rfactor_yes a b c d w h1 h2 h
    · omega
  · exact rfactor_no a b c d w h
/-- The sum of the remainders by 12. -/
def sumT : List Int → Int
  | [] => 0
  | n :: l => n.tmod 12 + sumT l
theorem sumT_append (l m : List Int) : sumT (l ++ m) = sumT l + sumT m := by
  induction l with
  | nil => simp [sumT]
  | cons x l ih => show x.tmod 12 + sumT (l ++ m) = x.tmod 12 + sumT l + sumT m; rw [ih]; omega
theorem sumT_take (l : List Int) (k : Nat) (h : k < l.length) : sumT (l.take (k + 1)) = sumT (l.take k) + (l[k]).tmod 12 := by
  rw [List.take_succ_eq_append_getElem h, sumT_append]
  show _ + ((l[k]).tmod 12 + 0) = _
  omega
theorem tmod12 (x : Int) : -12 < x.tmod 12 ∧ x.tmod 12 < 12 := ⟨Int.lt_tmod_of_pos x (by decide), Int.tmod_lt_of_pos x (by decide)⟩
theorem sumT_bd : ∀ (l : List Int), -(12 * (l.length : Int)) ≤ sumT l ∧ sumT l ≤ 12 * (l.length : Int)
  | [] => by simp [sumT]
  | x :: l => by
    obtain ⟨h1, h2⟩ := sumT_bd l
    obtain ⟨x1, x2⟩ := tmod12 x
    rw [List.length_cons]
    show _ ≤ x.tmod 12 + sumT l ∧ x.tmod 12 + sumT l ≤ _
    omega
theorem sumT_take_bd {l : List Int} (hl : l.length ≤ 32) (k : Nat) : -400 ≤ sumT (l.take k) ∧ sumT (l.take k) ≤ 400 := by
  have h1 := sumT_bd (l.take k)
  have h2 : (l.take k).length ≤ 32 := by rw [List.length_take]; omega
  omega
theorem sumT_cg : ∀ l : List Int, Cg (sumT l) (sumL l)
  | [] => Cg.refl _
  | x :: l => by
    refine Cg.add ?_ (sumT_cg l)
    have e := Int.mul_tdiv_add_tmod x 12
    unfold Cg; omega

set_option maxHeartbeats 3200000 in
set_option maxRecDepth 1000000 in
theorem rabelian_any (a b c d z k : Int) (w : World) (hz : ablE ⟨a, b, c, d⟩ = (z, k)) :
    Calls Try.prog 35 #[.agg #[.int .i64 a, .int .i64 b, .int .i64 c, .int .i64 d]] w fun e w' => e = .returned (.tuple #[.int .i64 z, .int .i64 k]) ∧ Below w.heap.size w w' := by
  have HF := Lib.hid (fun W => rfactor_any a b c d W)
  by_cases hk : chkI a b c d = 0
  · have hz' : ablE ⟨a, b, c, d⟩ = (abl ⟨a, b, c, d⟩, 0) := if_pos hk
    rw [hz'] at hz
    cases hz
    obtain ⟨hall, hlen, hpos⟩ := wl_all (m := ⟨a, b, c, d⟩) hk
    have HB : Hid (∀ k, -400 ≤ sumT ((wl 32 ⟨a, b, c, d⟩).take k) ∧ sumT ((wl 32 ⟨a, b, c, d⟩).take k) ≤ 400) := sumT_take_bd hlen
    have HALL := Lib.hid hall
    obtain ⟨R, hR⟩ : ∃ R, R = abl ⟨a, b, c, d⟩ := ⟨_, rfl⟩
    have HRR := Lib.hid hR
    unfold abl at HRR
    rw [← hR]
    obtain ⟨l, hl⟩ : ∃ l, l = wl 32 ⟨a, b, c, d⟩ := ⟨_, rfl⟩
    obtain ⟨n, hn⟩ : ∃ n, n = wn 32 ⟨a, b, c, d⟩ := ⟨_, rfl⟩
    rw [← hl] at HB HALL HRR hlen hpos
    rw [← hn] at HRR
    have HF2 : Hid (∀ W, Calls Try.prog 30 #[.agg #[.int .i64 a, .int .i64 b, .int .i64 c, .int .i64 d]] W fun e w' => ∃ (A : Option Addr) (cc : Nat), e = .returned (.tuple #[.agg #[.bool n, .slice A l.length cc], .int .i64 0]) ∧ RdZ w' w'.heap.size A cc l ∧ Below W.heap.size W w') := fun W => by
      refine (HF.out W).mono ?_
      rintro e w' ⟨k, n', A, cc, l', he, hr, _, ⟨h1, h2, h3⟩, hb⟩
      have hk0 : k = 0 := h1.trans hk
      subst hk0
      rw [if_pos rfl] at h2 h3
      subst h2 h3
      exact ⟨A, cc, by rw [he, hl, hn], by rw [hl]; exact hr, hb⟩
    clear hl hn hR hz' hall HF hk
    have hli : (l.length : Int) ≤ 32 := by omega
    have hlp : 1 ≤ (l.length : Int) := by omega
    cases n
    all_goals
      go_enter Try.func35, Try.ntmps35
      go_wp2_with (first
        | (go_at_call 30; ((with_reducible refine (HF2.out _).mono ?_); rintro e w1 ⟨A, cc, rfl, hr, hb⟩; have HRD := Lib.hid hr; clear hr; obtain ⟨hc, hf⟩ := bcell hb; have HBW : Hid (Below w.heap.size w w1) := (below1 _ _).trans (hb.mono (by simp)); clear hb))
        | fail)
      go_loop [6, 7] (fun S I => ∃ k : Nat, k ≤ l.length ∧ I = .int .i64 k ∧ S = .int .i64 (9 * ((l.length : Int) - 1) + sumT (l.take k))) (fun _ I => l.length - (intOf I).toNat)
      case atStart => exact ⟨0, Nat.zero_le _, rfl, by simp [sumT]⟩
      case round =>
        obtain ⟨k, hk, rfl, rfl⟩ := hrel
        obtain ⟨s1, s2⟩ := HB.out k
        by_cases hlt : k < l.length
        · obtain ⟨b1, o1, rfl, hbb, x1⟩ := HRD.out.at_ hlt
          obtain ⟨e1, e2⟩ := inE_iff.1 (HALL.out l[k] (List.getElem_mem hlt))
          have HT := Lib.hid (sumT_take l k hlt)
          obtain ⟨m1, m2⟩ := tmod12 l[k]
          have hlt2 : (k : Int) < (l.length : Int) := by omega
          generalize l[k] = x at *
          generalize sumT (l.take k) = y at *
          go_wp2
          go_round
          case rel => exact ⟨k + 1, hlt, by go_num, by rw [HT.out]; go_num⟩
          case measure => simp [intOf]; omega
        · have hkl : k = l.length := by omega
          subst hkl
          rw [List.take_length] at s1 s2 ⊢
          have HCG := Lib.hid (sumT_cg l)
          generalize sumT l = y at *
          go_wp2
          go_ret2
          refine ⟨ret_tup ?_, (HBW.out.trans ((below1 _ _).mono HBW.out.size))⟩
          rw [mod12w _ (by omega) (by omega)]
          have h := HRR.out
          have h2 := HCG.out
          unfold Cg at h2
          rw [h]
          simp
          omega
  · have hz' : ablE ⟨a, b, c, d⟩ = (0, chkI a b c d) := if_neg hk
    rw [hz'] at hz
    cases hz
    have HF2 : Hid (∀ W, Calls Try.prog 30 #[.agg #[.int .i64 a, .int .i64 b, .int .i64 c, .int .i64 d]] W fun e w' => ∃ (A : Option Addr) (cc : Nat), e = .returned (.tuple #[.agg #[.bool false, .slice A 0 cc], .int .i64 (chkI a b c d)]) ∧ Below W.heap.size W w') := fun W => by
      refine (HF.out W).mono ?_
      rintro e w' ⟨k, n', A, cc, l', he, hr, _, ⟨h1, h2, h3⟩, hb⟩
      have hk0 : k = chkI a b c d := h1
      subst hk0
      rw [if_neg hk] at h2 h3
      subst h2 h3
      exact ⟨A, cc, he, hb⟩
    have hk1 : (chkI a b c d != 0) = true := by simpa using hk
    clear hz' hk HF
    generalize chkI a b c d = kk at *
    go_enter Try.func35, Try.ntmps35
    go_wp2_with (first
      | (go_at_call 30; ((with_reducible refine (HF2.out _).mono ?_); rintro e w1 ⟨A, cc, rfl, hb⟩; obtain ⟨hc, hf⟩ := bcell hb; have HBW : Hid (Below w.heap.size w w1) := (below1 _ _).trans (hb.mono (by simp)); clear hb))
      | fail)
    go_ret2
    exact ⟨rfl, HBW.out.trans ((below1 _ _).mono HBW.out.size)⟩
end Go.Proofs.Ytnccamhajndkjaa
