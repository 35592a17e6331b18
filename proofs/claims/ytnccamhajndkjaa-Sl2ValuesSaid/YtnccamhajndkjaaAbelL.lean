/- The contract of Abelian. -/
import Derived.Test.YtnccamhajndkjaaWordL
import Derived.Test.YtnccamhajndkjaaAbelM
namespace Go.Proofs.Ytnccamhajndkjaa
open Go.RowKit

theorem sumL_append (l m : List Int) : sumL (l ++ m) = sumL l + sumL m := by
  induction l with
  | nil => simp [sumL]
  | cons x l ih => show x + sumL (l ++ m) = x + sumL l + sumL m; rw [ih]; omega
theorem sumL_take (l : List Int) (k : Nat) (h : k < l.length) : sumL (l.take (k + 1)) = sumL (l.take k) + l[k] := by
  rw [List.take_succ_eq_append_getElem h, sumL_append]
  show _ + (l[k] + 0) = _
  omega
theorem sumL_bd : ∀ (l : List Int), (∀ x ∈ l, inE x = true) → -(1073741824 * (l.length : Int)) ≤ sumL l ∧ sumL l ≤ 1073741824 * (l.length : Int)
  | [], _ => by simp [sumL]
  | x :: l, h => by
    obtain ⟨h1, h2⟩ := sumL_bd l fun y hy => h y (List.mem_cons_of_mem _ hy)
    obtain ⟨x1, x2⟩ := inE_iff.1 (h x List.mem_cons_self)
    rw [List.length_cons]
    show _ ≤ x + sumL l ∧ x + sumL l ≤ _
    omega
theorem sumL_take_bd {l : List Int} (h : ∀ x ∈ l, inE x = true) (hl : l.length ≤ 32) (k : Nat) : -34359738368 ≤ sumL (l.take k) ∧ sumL (l.take k) ≤ 34359738368 := by
  have h1 := sumL_bd (l.take k) fun x hx => h x (List.mem_of_mem_take hx)
  have h2 : (l.take k).length ≤ 32 := by rw [List.length_take]; omega
  omega
theorem mod12 (x : Int) (_ : -1000000000000 ≤ x) (_ : x ≤ 1000000000000) : (x.tmod 12 + 12).tmod 12 = x % 12 := by
  have e := Int.mul_tdiv_add_tmod x 12
  have h1 := Int.lt_tmod_of_pos x (show (0 : Int) < 12 by decide)
  have h2 := Int.tmod_lt_of_pos x (show (0 : Int) < 12 by decide)
  rw [Int.tmod_eq_emod_of_nonneg (by omega)]
  omega

theorem mod12w (x : Int) (h : -1000000000000 ≤ x) (k : x ≤ 1000000000000) : (wrap64 (x.tmod 12 + 12)).tmod 12 = x % 12 := by
  have h1 := Int.lt_tmod_of_pos x (show (0 : Int) < 12 by decide)
  have h2 := Int.tmod_lt_of_pos x (show (0 : Int) < 12 by decide)
  rw [IntWalk.wrap64_in _ (by omega), mod12 x h k]
theorem ret_tup {a b k : Int} (h : a = b) : Ending.returned (.tuple #[.int .i64 a, .int .i64 k]) = .returned (.tuple #[.int .i64 b, .int .i64 k]) := by rw [h]
/-- The answer of Abelian. -/
def ablE (m : M) : Int × Int := if chkI m.a m.b m.c m.d = 0 then (abl m, 0) else (0, chkI m.a m.b m.c m.d)
theorem wl_all {m : M} (h : chkI m.a m.b m.c m.d = 0) : (∀ x ∈ wl 32 m, inE x = true) ∧ (wl 32 m).length ≤ 32 ∧ 1 ≤ (wl 32 m).length := by
  rcases chk_cases m.a m.b m.c m.d with ⟨_, k⟩ | ⟨k1, k2, _⟩ | ⟨_, _, k⟩
  · omega
  · have hw : Way 32 m := Way.start k2 k1
    refine ⟨wl_in 32 m hw, wl_len 32 m, ?_⟩
    obtain ⟨e, l, hl⟩ := wl_cons hw
    rw [hl]; simp
  · omega

set_option maxHeartbeats 3200000 in
set_option maxRecDepth 1000000 in
theorem abelian_any (a b c d z k : Int) (w : World) (hz : ablE ⟨a, b, c, d⟩ = (z, k)) :
    Calls Try.prog 34 #[.agg #[.int .i64 a, .int .i64 b, .int .i64 c, .int .i64 d]] w fun e w' => e = .returned (.tuple #[.int .i64 z, .int .i64 k]) ∧ Below w.heap.size w w' := by
  have HF := Lib.hid (fun W => factor_any a b c d W)
  by_cases hk : chkI a b c d = 0
  · have hz' : ablE ⟨a, b, c, d⟩ = (abl ⟨a, b, c, d⟩, 0) := if_pos hk
    rw [hz'] at hz
    cases hz
    obtain ⟨hall, hlen, hpos⟩ := wl_all (m := ⟨a, b, c, d⟩) hk
    have HB : Hid (∀ k, -34359738368 ≤ sumL ((wl 32 ⟨a, b, c, d⟩).take k) ∧ sumL ((wl 32 ⟨a, b, c, d⟩).take k) ≤ 34359738368) := sumL_take_bd hall hlen
    have HALL := Lib.hid hall
    obtain ⟨R, hR⟩ : ∃ R, R = abl ⟨a, b, c, d⟩ := ⟨_, rfl⟩
    have HRR := Lib.hid hR
    unfold abl at HRR
    rw [← hR]
    obtain ⟨l, hl⟩ : ∃ l, l = wl 32 ⟨a, b, c, d⟩ := ⟨_, rfl⟩
    obtain ⟨n, hn⟩ : ∃ n, n = wn 32 ⟨a, b, c, d⟩ := ⟨_, rfl⟩
    rw [← hl] at HB HALL HRR hlen hpos
    rw [← hn] at HRR
    have HF2 : Hid (∀ W, Calls Try.prog 29 #[.agg #[.int .i64 a, .int .i64 b, .int .i64 c, .int .i64 d]] W fun e w' => ∃ (A : Option Addr) (cc : Nat), e = .returned (.tuple #[.agg #[.bool n, .slice A l.length cc], .int .i64 0]) ∧ RdZ w' w'.heap.size A cc l ∧ Below W.heap.size W w') := fun W => by
      refine (HF.out W).mono ?_
      rintro e w' ⟨k, n', A, cc, l', he, hr, _, ⟨h1, h2, h3⟩, hb⟩
      have hk0 : k = 0 := h1.trans hk
      subst hk0
      rw [if_pos rfl] at h2 h3
      subst h2 h3
      exact ⟨A, cc, by rw [he, hl, hn], by rw [hl]; exact hr, hb⟩
    clear hl hn hR hz' hall HF hk
    have hli : (l.length : Int) ≤ 32 := by omega
    have hlp : 1 ≤ (l.length : Int) := by omega
    cases n
    all_goals
      go_enter Try.func34, Try.ntmps34
      go_wp2_with (first
        | (go_at_call 29; ((with_reducible refine (HF2.out _).mono ?_); rintro e w1 ⟨A, cc, rfl, hr, hb⟩; have HRD := Lib.hid hr; clear hr; obtain ⟨hc, hf⟩ := bcell hb; have HBW : Hid (Below w.heap.size w w1) := (below1 _ _).trans (hb.mono (by simp)); clear hb))
        | fail)
      go_loop [6, 8, 25] (fun S _ I => ∃ k : Nat, k ≤ l.length ∧ I = .int .i64 k ∧ S = .int .i64 (9 * ((l.length : Int) - 1) + sumL (l.take k))) (fun _ _ I => l.length - (intOf I).toNat)
      case atStart => exact ⟨0, Nat.zero_le _, rfl, by simp [sumL]⟩
      case round =>
        obtain ⟨k, hk, rfl, rfl⟩ := hrel
        obtain ⟨s1, s2⟩ := HB.out k
        by_cases hlt : k < l.length
        · obtain ⟨b1, o1, rfl, hbb, x1⟩ := HRD.out.at_ hlt
          obtain ⟨e1, e2⟩ := inE_iff.1 (HALL.out l[k] (List.getElem_mem hlt))
          have HT := Lib.hid (sumL_take l k hlt)
          have hlt2 : (k : Int) < (l.length : Int) := by omega
          generalize l[k] = x at *
          generalize sumL (l.take k) = y at *
          go_wp2
          go_round
          case rel => exact ⟨k + 1, hlt, by go_num, by rw [HT.out]; go_num⟩
          case measure => simp [intOf]; omega
        · have hkl : k = l.length := by omega
          subst hkl
          rw [List.take_length] at s1 s2 ⊢
          generalize sumL l = y at *
          go_wp2
          go_ret2
          refine ⟨ret_tup ?_, (HBW.out.trans ((below1 _ _).mono HBW.out.size))⟩
          rw [mod12w _ (by omega) (by omega)]
          have h := HRR.out
          rw [h]
          simp
  · have hz' : ablE ⟨a, b, c, d⟩ = (0, chkI a b c d) := if_neg hk
    rw [hz'] at hz
    cases hz
    have HF2 : Hid (∀ W, Calls Try.prog 29 #[.agg #[.int .i64 a, .int .i64 b, .int .i64 c, .int .i64 d]] W fun e w' => ∃ (A : Option Addr) (cc : Nat), e = .returned (.tuple #[.agg #[.bool false, .slice A 0 cc], .int .i64 (chkI a b c d)]) ∧ Below W.heap.size W w') := fun W => by
      refine (HF.out W).mono ?_
      rintro e w' ⟨k, n', A, cc, l', he, hr, _, ⟨h1, h2, h3⟩, hb⟩
      have hk0 : k = chkI a b c d := h1
      subst hk0
      rw [if_neg hk] at h2 h3
      subst h2 h3
      exact ⟨A, cc, he, hb⟩
    have hk1 : (chkI a b c d != 0) = true := by simpa using hk
    clear hz' hk HF
    generalize chkI a b c d = kk at *
    go_enter Try.func34, Try.ntmps34
    go_wp2_with (first
      | (go_at_call 29; ((with_reducible refine (HF2.out _).mono ?_); rintro e w1 ⟨A, cc, rfl, hb⟩; obtain ⟨hc, hf⟩ := bcell hb; have HBW : Hid (Below w.heap.size w w1) := (below1 _ _).trans (hb.mono (by simp)); clear hb))
      | fail)
    go_ret2
    exact ⟨rfl, HBW.out.trans ((below1 _ _).mono HBW.out.size)⟩
end Go.Proofs.Ytnccamhajndkjaa
