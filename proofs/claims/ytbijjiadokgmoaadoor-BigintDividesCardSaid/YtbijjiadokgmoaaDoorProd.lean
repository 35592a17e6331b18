/- Contracts of productOfWords and product. -/
import Derived.Test.YtbijjiadokgmoaaDoorProdD
import Derived.Test.YtbijjiadokgmoaaDoorWords
namespace Go.Proofs.YtbijjiadokgmoaaDoor
open Go.RowKit

theorem MagRet.undrew {w w' : World} {r q : Nat} {e : Ending} (h : MagRet (w.drewN q) r e w') : MagRet w r e w' := by
  obtain ⟨A, c, h1, h2, h3, h4⟩ := h
  exact ⟨A, c, h1, h2, h3, ⟨h4.os, h4.tape, h4.output, h4.size, h4.block⟩⟩

set_option maxHeartbeats 800000 in
set_option maxRecDepth 1000000 in
theorem prodW_low {x y l : Nat} (w : World) (HM : Hid (∀ W : World, Calls Tryd.prog 110 #[.int .u64 x, .int .u64 y] W fun e w' => e = .returned (.tuple #[.int .u64 0, .int .u64 l]) ∧ W = w')) (HF : Hid (∀ W : World, Calls Tryd.prog 58 #[.int .u64 l] W (MagRet W (x * y)))) :
    Calls Tryd.prog 88 #[.int .u64 x, .int .u64 y] w (MagRet w (x * y)) := by
  go_enter Tryd.func88, Tryd.ntmps88
  go_wp2_with (first
    | (go_at_call 110; ((with_reducible refine (HM.out _).mono ?_); rintro e w' ⟨rfl, rfl⟩))
    | (go_at_call 58; fail))
  refine (HF.out _).mono ?_
  rintro e w' ⟨A, c, rfl, hr, hf, hb⟩
  have HR := Lib.hid hr
  have HFR := Lib.hid hf
  have HB := Lib.hid hb
  clear hr hf hb
  go_wp2
  go_ret
  exact ⟨A, c, rfl, HR.out, HFR.out, HB.out⟩

set_option maxHeartbeats 800000 in
set_option maxRecDepth 1000000 in
theorem prodW_big {x y l h d0 d1 d2 d3 : Nat} (w : World) (HM : Hid (∀ W : World, Calls Tryd.prog 110 #[.int .u64 x, .int .u64 y] W fun e w' => e = .returned (.tuple #[.int .u64 h, .int .u64 l]) ∧ W = w'))
    (hh : ((h : Int) == 0) = false) (e0 : IntKind.u32.wrap (l : Int) = (d0 : Int)) (e1 : (l : Int) / 4294967296 = (d1 : Int)) (e2 : IntKind.u32.wrap (h : Int) = (d2 : Int)) (e3 : (h : Int) / 4294967296 = (d3 : Int)) (b1 : d1 < 4294967296) (b3 : d3 < 4294967296)
    (HT : Hid (Calls Tryd.prog 55 #[.slice (some ⟨w.heap.size, 0, none⟩) 4 4] (w.alloc (.cells #[.int .u32 d0, .int .u32 d1, .int .u32 d2, .int .u32 d3] 64)) fun e w' => e = .returned (.slice (some ⟨w.heap.size, 0, none⟩) (digs (x * y)).length 4) ∧ (w.alloc (.cells #[.int .u32 d0, .int .u32 d1, .int .u32 d2, .int .u32 d3] 64)) = w'))
    (HR : Hid (MagRet w (x * y) (.returned (.slice (some ⟨w.heap.size, 0, none⟩) (digs (x * y)).length 4)) (w.alloc (.cells #[.int .u32 d0, .int .u32 d1, .int .u32 d2, .int .u32 d3] 64)))) :
    Calls Tryd.prog 88 #[.int .u64 x, .int .u64 y] w (MagRet w (x * y)) := by
  go_enter Tryd.func88, Tryd.ntmps88
  go_wp2_with (first
    | (go_at_call 110; ((with_reducible refine (HM.out _).mono ?_); rintro e w' ⟨rfl, rfl⟩))
    | (go_at_call 55; ((with_reducible refine HT.out.mono ?_); rintro e w' ⟨rfl, rfl⟩)))
  go_ret
  exact HR.out

theorem prodW_any {x y : Nat} (w : World) (hx : x < 18446744073709551616) (hy : y < 18446744073709551616) :
    Calls Tryd.prog 88 #[.int .u64 x, .int .u64 y] w (MagRet w (x * y)) := by
  have HM := fun W : World => (Tryd.bits_Mul64 x y hx hy W).mono fun e w' ⟨h1, h2⟩ => (⟨h1, h2.symm⟩ : _ ∧ W = w')
  have e := Nat.div_add_mod (x * y) 18446744073709551616
  have hl : x * y % 18446744073709551616 < 18446744073709551616 := Nat.mod_lt _ (by omega)
  have hh : x * y / 18446744073709551616 < 18446744073709551616 := by
    rw [Nat.div_lt_iff_lt_mul (by omega)]
    exact Nat.mul_lt_mul'' hx hy
  generalize x * y / 18446744073709551616 = h at *
  generalize x * y % 18446744073709551616 = l at *
  rcases Nat.eq_zero_or_pos h with h0 | h0
  · subst h0
    rw [Nat.mul_zero, Nat.zero_add] at e
    exact prodW_low w HM (fun W => by rw [← e]; exact fromWord_any W hl)
  · have hd : Dgs [l % 4294967296, l / 4294967296, h % 4294967296, h / 4294967296] := by
      intro d hd
      simp only [List.mem_cons, List.not_mem_nil, or_false] at hd
      rcases hd with rfl | rfl | rfl | rfl <;> omega
    have hv : val [l % 4294967296, l / 4294967296, h % 4294967296, h / 4294967296] = x * y := by
      rw [← e]; simp only [val]; omega
    have ho := own_new w (ds := [l % 4294967296, l / 4294967296, h % 4294967296, h / 4294967296]) (cs := #[.int .u32 (l % 4294967296 : Nat), .int .u32 (l / 4294967296 : Nat), .int .u32 (h % 4294967296 : Nat), .int .u32 (h / 4294967296 : Nat)]) hd rfl
    have hr := ho.rd (c := 4) (B := w.heap.size + 1) (by simp) (by unfold maxLen; omega) (by omega)
    have ht := trim_any _ hr (by simp)
    rw [hv] at ht
    refine prodW_big (h := h) (l := l) (d0 := l % 4294967296) (d1 := l / 4294967296) (d2 := h % 4294967296) (d3 := h / 4294967296) w HM (by rw [beq_eq_false_iff_ne]; omega) (by rw [IntKind.wrap_u32]; omega) (by omega) (by rw [IntKind.wrap_u32]; omega) (by omega) (by omega) (by omega) ht ?_
    refine ⟨_, _, rfl, ?_, fun a ha => by injection ha with ha; rw [← ha]; exact Nat.le_refl _, (Below.refl _ _).alloc (Nat.le_refl _) _⟩
    have h6 := digs_take hd
    rw [hv] at h6
    rw [h6]
    have h7 := hr.take (digs (x * y)).length
    rw [World.size_alloc]
    exact h7

set_option maxHeartbeats 1600000 in
set_option maxRecDepth 1000000 in
theorem prod_ge {B m n c1 c2 : Nat} {A1 A2 : Option Addr} (w : World) (h1 : Rd w B A1 c1 (digs m)) (h2 : Rd w B A2 c2 (digs n)) (hB : B ≤ w.heap.size) (hm : (digs m).length ≤ 500000) (hn : (digs n).length < 48) (hle : (digs n).length ≤ (digs m).length) :
    Calls Tryd.prog 68 #[.slice A1 (digs m).length c1, .slice A2 (digs n).length c2] w (MagRet w (m * n)) := by
  have hb1 : ¬ ((digs m).length : Int) < ((digs n).length : Int) := by omega
  by_cases h0 : (digs n).length = 0
  · obtain rfl := digs_len0 h0
    rw [digs_zero] at *
    have HR := Lib.hid (MagRet.zero w)
    rw [Nat.mul_zero]
    simp only [List.length_nil] at *
    generalize (digs m).length = a at *
    go_enter Tryd.func68, Tryd.ntmps68
    go_wp2
    go_ret
    exact HR.out
  · have hb0 : (((digs n).length : Int) == 0) = false := by rw [beq_eq_false_iff_ne]; omega
    by_cases hs : (digs m).length ≤ 2
    · have hb2 : ((digs m).length : Int) ≤ 2 := by omega
      have HT1 := Lib.hid (toWord_any w h1 hs)
      have HT2 := Lib.hid (fun q => toWord_any (w.drewN q) (h2.drewN q) (by omega))
      have hm2 : m < 4294967296 ^ 2 := Nat.lt_of_lt_of_le (lt_digs m) (Nat.pow_le_pow_right (by omega) hs)
      have hn2 : n < 4294967296 ^ 2 := Nat.lt_of_lt_of_le (lt_digs n) (Nat.pow_le_pow_right (by omega) (by omega))
      have HP := Lib.hid (fun W => prodW_any (x := m) (y := n) W hm2 hn2)
      clear hm2 hn2 h1 h2
      generalize (digs m).length = a at *
      generalize (digs n).length = b at *
      go_enter Tryd.func68, Tryd.ntmps68
      go_wp2_with (go_at_call 56; fail)
      refine HT1.out.mono ?_
      rintro e w' ⟨rfl, q, rfl⟩
      go_wp2_with (go_at_call 56; fail)
      refine (HT2.out q).mono ?_
      rintro e w' ⟨rfl, q2, rfl⟩
      go_wp2_with (go_at_call 88; fail)
      refine (HP.out _).mono ?_
      rintro e w1 hmr
      have HMR : Hid (MagRet w (m * n) e w1) := by first | exact hmr | exact hmr.undrew | exact hmr.undrew.undrew
      obtain ⟨A, c, rfl, _, _, _⟩ := hmr
      go_wp2
      go_ret
      exact HMR.out
    · have hb2 : ¬ ((digs m).length : Int) ≤ 2 := by omega
      have hb3 : ((digs n).length : Int) < 48 := by omega
      have HP := Lib.hid (prodD_any w h1 h2 hB hm (by omega))
      clear h1 h2
      generalize (digs m).length = a at *
      generalize (digs n).length = b at *
      go_enter Tryd.func68, Tryd.ntmps68
      go_wp2_with (go_at_call 89; fail)
      refine HP.out.mono ?_
      rintro e w1 hmr
      have HMR := Lib.hid hmr
      obtain ⟨A, c, rfl, _, _, _⟩ := hmr
      go_wp2
      go_ret
      exact HMR.out
set_option maxHeartbeats 1600000 in
set_option maxRecDepth 1000000 in
theorem prod_lt {B m n c1 c2 : Nat} {A1 A2 : Option Addr} (w : World) (h1 : Rd w B A1 c1 (digs m)) (h2 : Rd w B A2 c2 (digs n)) (hB : B ≤ w.heap.size) (hn : (digs n).length ≤ 500000) (hm : (digs m).length < 48) (hle : (digs m).length < (digs n).length) :
    Calls Tryd.prog 68 #[.slice A1 (digs m).length c1, .slice A2 (digs n).length c2] w (MagRet w (m * n)) := by
  have hb1 : ((digs m).length : Int) < ((digs n).length : Int) := by omega
  by_cases h0 : (digs m).length = 0
  · obtain rfl := digs_len0 h0
    rw [digs_zero] at *
    have HR := Lib.hid (MagRet.zero w)
    rw [Nat.zero_mul]
    simp only [List.length_nil] at *
    generalize (digs n).length = a at *
    go_enter Tryd.func68, Tryd.ntmps68
    go_wp2
    go_ret
    exact HR.out
  · have hb0 : (((digs m).length : Int) == 0) = false := by rw [beq_eq_false_iff_ne]; omega
    by_cases hs : (digs n).length ≤ 2
    · have hb2 : ((digs n).length : Int) ≤ 2 := by omega
      have HT1 := Lib.hid (toWord_any w h2 hs)
      have HT2 := Lib.hid (fun q => toWord_any (w.drewN q) (h1.drewN q) (by omega))
      have hm2 : m < 4294967296 ^ 2 := Nat.lt_of_lt_of_le (lt_digs m) (Nat.pow_le_pow_right (by omega) (by omega))
      have hn2 : n < 4294967296 ^ 2 := Nat.lt_of_lt_of_le (lt_digs n) (Nat.pow_le_pow_right (by omega) hs)
      have HP := Lib.hid (fun W => (Nat.mul_comm n m ▸ prodW_any (x := n) (y := m) W hn2 hm2 : Calls Tryd.prog 88 #[.int .u64 n, .int .u64 m] W (MagRet W (m * n))))
      clear hm2 hn2 h1 h2
      generalize (digs m).length = a at *
      generalize (digs n).length = b at *
      go_enter Tryd.func68, Tryd.ntmps68
      go_wp2_with (go_at_call 56; fail)
      refine HT1.out.mono ?_
      rintro e w' ⟨rfl, q, rfl⟩
      go_wp2_with (go_at_call 56; fail)
      refine (HT2.out q).mono ?_
      rintro e w' ⟨rfl, q2, rfl⟩
      go_wp2_with (go_at_call 88; fail)
      refine (HP.out _).mono ?_
      rintro e w1 hmr
      have HMR : Hid (MagRet w (m * n) e w1) := by first | exact hmr | exact hmr.undrew | exact hmr.undrew.undrew
      obtain ⟨A, c, rfl, _, _, _⟩ := hmr
      go_wp2
      go_ret
      exact HMR.out
    · have hb2 : ¬ ((digs n).length : Int) ≤ 2 := by omega
      have hb3 : ((digs m).length : Int) < 48 := by omega
      have HP : Hid (Calls Tryd.prog 89 #[.slice A2 (digs n).length c2, .slice A1 (digs m).length c1] w (MagRet w (m * n))) := by rw [Nat.mul_comm]; exact prodD_any w h2 h1 hB hn (by omega)
      clear h1 h2
      generalize (digs m).length = a at *
      generalize (digs n).length = b at *
      go_enter Tryd.func68, Tryd.ntmps68
      go_wp2_with (go_at_call 89; fail)
      refine HP.out.mono ?_
      rintro e w1 hmr
      have HMR := Lib.hid hmr
      obtain ⟨A, c, rfl, _, _, _⟩ := hmr
      go_wp2
      go_ret
      exact HMR.out

/-- The product of two numbers one of which has fewer than 48 digits. -/
theorem product_any {B m n c1 c2 : Nat} {A1 A2 : Option Addr} (w : World) (h1 : Rd w B A1 c1 (digs m)) (h2 : Rd w B A2 c2 (digs n)) (hB : B ≤ w.heap.size) (hm : (digs m).length ≤ 500000) (hn : (digs n).length ≤ 500000) (hs : (digs m).length < 48 ∨ (digs n).length < 48) :
    Calls Tryd.prog 68 #[.slice A1 (digs m).length c1, .slice A2 (digs n).length c2] w (MagRet w (m * n)) := by
  rcases Nat.lt_or_ge (digs m).length (digs n).length with h | h
  · exact prod_lt w h1 h2 hB hn (by omega) h
  · exact prod_ge w h1 h2 hB hm (by omega) h
end Go.Proofs.YtbijjiadokgmoaaDoor
