/- dirichlet.Check: which characters there are. -/
import Derived.Test.YtlagljnhbhnelaaGnE
namespace Go.Proofs.Ytlagljnhbhnelaa
open Go.RowKit
set_option linter.unusedVariables false
set_option linter.unusedSimpArgs false

set_option maxHeartbeats 800000 in
theorem ismod_any (n : Int) (w : World) : Calls Try.prog 46 #[.int .i64 n] w fun e w' => e = .returned (.bool (decide (1 ≤ n ∧ n ≤ 60))) ∧ w = w' := by
  by_cases h1 : 1 ≤ n
  · by_cases h2 : n ≤ 60
    · rw [decide_eq_true ⟨h1, h2⟩]
      go_enter Try.func46, Try.ntmps46
      go_wp2
      go_ret
      exact ⟨rfl, rfl⟩
    · rw [decide_eq_false (by omega)]
      go_enter Try.func46, Try.ntmps46
      go_wp2
      go_ret
      exact ⟨rfl, rfl⟩
  · rw [decide_eq_false (by omega)]
    go_enter Try.func46, Try.ntmps46
    go_wp2
    go_ret
    exact ⟨rfl, rfl⟩
/-- The first exponent that is none, or 0. -/
def exL : List Int → List (Nat × Nat) → Int
  | x :: E, g :: L => if 0 ≤ x ∧ x < (g.2 : Int) then exL E L else 3
  | _, _ => 0
/-- The error's number of Check for a modulus to 60. -/
def ckX (n : Nat) (E : List Int) : Int := if E.length = (gensV n).length then exL E (gensV n) else 4
/-- The block of a list of generators. -/
theorem gen_blk {w2 : World} {B : Nat} {F : List (Nat × Nat)} {v : Value} (ho : w2.ownsRow B 73 2 v F.length (flat F)) :
    ∃ la lc, v = .slice la F.length lc ∧ ∀ k (hk : k < F.length), ∃ g cs, la = some ⟨g, 0, none⟩ ∧ w2.heap[g]? = some (.cells cs 73 (0, 0)) ∧ ∀ w : World, w.heap[g]? = some (.cells cs 73 (0, 0)) → w.cell? ⟨g, k * 2, none⟩ = some (.int .i64 (F[k].1 : Int)) ∧ w.cell? ⟨g, k * 2 + 1, none⟩ = some (.int .i64 (F[k].2 : Int)) := by
  rcases ho.2 with hnil | ⟨g, cap, cur, h2, h3, h4, h5, h6, h7, h8⟩
  · obtain ⟨h9, h10⟩ := hnil
    subst h9
    have hl : F.length = 0 := by simpa using h10
    exact ⟨none, 0, by rw [hl], fun k hk => by omega⟩
  · refine ⟨some ⟨g, 0, none⟩, cap, h2, fun k hk => ⟨g, cur, rfl, h4, fun w hw => ?_⟩⟩
    have c1 := (flat_get F k hk).1
    have c2 := (flat_get F k hk).2
    rw [← h8] at c1 c2
    rw [List.getElem?_take] at c1 c2
    rw [if_pos (by omega)] at c1 c2
    rw [Array.getElem?_toList] at c1 c2
    exact ⟨by rw [cell_of_row w g _ _ _ _ hw]; exact c1, by rw [cell_of_row w g _ _ _ _ hw]; exact c2⟩
theorem exL_hit {x : Int} {g : Nat × Nat} {E : List Int} {L : List (Nat × Nat)} (h : 0 ≤ x ∧ x < (g.2 : Int)) : exL (x :: E) (g :: L) = exL E L := by
  show (if _ then _ else _) = _; rw [if_pos h]
theorem exL_miss {x : Int} {g : Nat × Nat} {E : List Int} {L : List (Nat × Nat)} (h : ¬ (0 ≤ x ∧ x < (g.2 : Int))) : exL (x :: E) (g :: L) = 3 := by
  show (if _ then _ else _) = _; rw [if_neg h]
theorem exL_at {E : List Int} {L : List (Nat × Nat)} {k : Nat} (h : k < E.length) (h2 : k < L.length) : exL (E.drop k) (L.drop k) = if 0 ≤ E[k] ∧ E[k] < (L[k].2 : Int) then exL (E.drop (k + 1)) (L.drop (k + 1)) else 3 := by
  rw [List.drop_eq_getElem_cons h, List.drop_eq_getElem_cons h2]; rfl
structure GnB (G : List (Nat × Nat)) : Prop where
  len : G.length ≤ 8
  v : ∀ g ∈ G, g.1 ≤ 60
  o1 : ∀ g ∈ G, 1 ≤ g.2
  o2 : ∀ g ∈ G, g.2 ≤ 60
set_option maxRecDepth 100000 in
theorem gens_bnd : (List.range 60).all (fun i => decide ((gensV (i + 1)).length ≤ 8) && (gensV (i + 1)).all fun g => decide (g.1 ≤ 60) && (decide (1 ≤ g.2) && decide (g.2 ≤ 60))) = true := by decide +kernel
theorem gens_facts {n : Nat} (n1 : 1 ≤ n) (n2 : n ≤ 60) : GnB (gensV n) := by
  have h := List.all_eq_true.1 gens_bnd (n - 1) (List.mem_range.2 (by omega))
  rw [show n - 1 + 1 = n by omega] at h
  simp only [Bool.and_eq_true, decide_eq_true_eq, List.all_eq_true] at h
  exact ⟨h.1, fun g hg => (h.2 g hg).1, fun g hg => (h.2 g hg).2.1, fun g hg => (h.2 g hg).2.2⟩
set_option maxHeartbeats 800000 in
theorem dck_range (n : Int) (v : Value) (w : World) (h : ¬ (1 ≤ n ∧ n ≤ 60)) :
    Calls Try.prog 24 #[.agg #[.int .i64 n, v]] w fun e w' => e = .returned (.int .i64 2) ∧ Below w.heap.size w w' := by
  have T0 : Hid ((w.alloc (.cells #[.int .i64 n, v] 33)).heap[w.heap.size]? = some (.cells #[.int .i64 n, v] 33 (0, 0))) := heap_alloc_new w _
  have HB0 : Hid (Below w.heap.size w (w.alloc (.cells #[.int .i64 n, v] 33))) := below1 w _
  obtain ⟨c0, c1, _⟩ := cells_two T0.out
  have HM := Lib.hid (fun W => ismod_any n W)
  rw [decide_eq_false h] at HM
  clear h
  go_enter Try.func24, Try.ntmps24
  go_wp2_with (first
    | (go_at_call 46; ((with_reducible refine (HM.out _).mono ?_); rintro e w1 ⟨rfl, rfl⟩))
    | fail)
  go_ret
  exact ⟨rfl, HB0.out⟩
set_option maxHeartbeats 3200000 in
set_option maxRecDepth 1000000 in
theorem dck_any (n : Nat) (E : List Int) (A : Option Addr) (c : Nat) (w : World) (n1 : 1 ≤ n) (n2 : (n : Int) ≤ 60) (hE : RdZ w w.heap.size A c E) :
    Calls Try.prog 24 #[.agg #[.int .i64 (n : Int), .slice A E.length c]] w fun e w' => e = .returned (.int .i64 (ckX n E)) ∧ Below w.heap.size w w' := by
  have T0 : Hid ((w.alloc (.cells #[.int .i64 (n : Int), .slice A E.length c] 33)).heap[w.heap.size]? = some (.cells #[.int .i64 (n : Int), .slice A E.length c] 33 (0, 0))) := heap_alloc_new w _
  have HB0 : Hid (Below w.heap.size w (w.alloc (.cells #[.int .i64 (n : Int), .slice A E.length c] 33))) := below1 w _
  have HE1 : Hid (RdZ (w.alloc (.cells #[.int .i64 (n : Int), .slice A E.length c] 33)) w.heap.size A c E) := hE.below HB0.out
  have hel := hE.len
  obtain ⟨c0, c1, _⟩ := cells_two T0.out
  have HM := Lib.hid (fun W => ismod_any (n : Int) W)
  rw [decide_eq_true ⟨by omega, n2⟩] at HM
  have HGe := Lib.hid (fun W => gens_any n W n1 n2)
  have hgl : (gensV n).length ≤ 8 := (gens_facts n1 (by omega)).len
  have HCk : Hid (ckX n E = if E.length = (gensV n).length then exL E (gensV n) else 4) := rfl
  have HGb := Lib.hid (gens_facts n1 (show n ≤ 60 by omega))
  clear hE
  generalize ckX n E = r at *
  generalize gensV n = G at *
  go_enter Try.func24, Try.ntmps24
  by_cases hl : E.length = G.length
  · rw [if_pos hl] at HCk
    have hl2 : ((E.length : Int) != (G.length : Int)) = false := by rw [bne_eq_false_iff_eq]; omega
    have HL := Lib.hid hl
    clear hl
    go_wp2_with (first
      | (go_at_call 46; ((with_reducible refine (HM.out _).mono ?_); rintro e w1 ⟨rfl, rfl⟩))
      | (go_at_call 47; ((with_reducible refine (HGe.out _).mono ?_); rintro e w2 ⟨v, rfl, ho, hb⟩; obtain ⟨la, lc, rfl, hrd⟩ := gen_blk ho; have HR := Lib.hid hrd; have T2 := Lib.hid (block_below T0.out hb); have HBx := Lib.hid (hb.mono HB0.out.size); have HB2 := Lib.hid (HB0.out.trans (hb.mono HB0.out.size)); have c2 := (cells_two T2.out).2.1; clear ho hb hrd c0 c1))
      | fail)
    have hsz : w.heap.size + 1 ≤ w2.heap.size := lt_of_block T2.out
    have HE2 : Hid (RdZ w2 w.heap.size A c E) := HE1.out.below HBx.out
    have HEr : Hid (∀ W, Below w2.heap.size w2 W → RdZ W w.heap.size A c E) := fun W hW => HE2.out.below (hW.mono (by omega))
    have HTr : Hid (∀ W, Below w2.heap.size w2 W → W.heap[w.heap.size]? = some (.cells #[.int .i64 (n : Int), .slice A E.length c] 33 (0, 0))) := fun W hW => block_below T2.out hW
    clear c2 HE1 T0 HE2 HB0
    go_loopw [4, 5, 21] (fun _ _ I wr => ∃ k : Nat, I = .int .i64 k ∧ k ≤ G.length ∧ Hid (exL (E.drop k) (G.drop k) = r) ∧ Hid (Below w2.heap.size w2 wr)) (fun _ _ I _ => G.length - (intOf I).toNat)
    case atStart => exact ⟨0, rfl, Nat.zero_le _, by show _ = _; rw [HCk.out]; rfl, Below.refl _ _⟩
    case round =>
      obtain ⟨k, rfl, hk, HX, HW⟩ := hrel
      by_cases hkl : k < G.length
      · have hkli : (k : Int) < (G.length : Int) := by omega
        have hke : k < E.length := by have := HL.out; omega
        have hkle : (k : Int) < (E.length : Int) := by omega
        obtain ⟨g, cs, rfl, hg1, hcell⟩ := HR.out k hkl
        obtain ⟨x1, x2⟩ := hcell wr (block_below hg1 HW.out)
        obtain ⟨b, o, rfl, hb, hc⟩ := (HEr.out wr HW.out).at_ hke
        have HX2 := Lib.hid ((exL_at hke hkl).symm.trans HX.out)
        have g2 := HGb.out.o2 _ (List.getElem_mem hkl)
        have g1 := HGb.out.o1 _ (List.getElem_mem hkl)
        clear hg1 hcell HX
        generalize E[k] = x at *
        generalize G[k] = f at *
        obtain ⟨p, q⟩ := f
        simp only at x1 x2 g1 g2 HX2
        have g2i : (q : Int) ≤ 60 := by omega
        go_upto_region 9 with fail
        have HWa : Hid (Below w2.heap.size w2 (wr.alloc (.cells #[.int .i64 (p : Int), .int .i64 (q : Int)] 73))) := HW.out.trans ((below1 wr _).mono HW.out.size)
        have y1 := (cells_two (HTr.out _ HWa.out)).2.1
        have y2 : (wr.alloc (.cells #[.int .i64 (p : Int), .int .i64 (q : Int)] 73)).cell? ⟨b, o + k, none⟩ = some (.int .i64 x) := by
          have h9 := HW.out.size
          exact ((below1 wr _).cell (p := ⟨b, o + k, none⟩) (by show b < wr.heap.size; omega)).trans hc
        have y3 := (cells_two (heap_alloc_new wr (.cells #[.int .i64 (p : Int), .int .i64 (q : Int)] 73))).2.1
        generalize (wr.alloc (.cells #[.int .i64 (p : Int), .int .i64 (q : Int)] 73)) = W3 at *
        have HWd : Hid (Below w2.heap.size w2 W3.drew) := HWa.out.drew
        by_cases hx : 0 ≤ x
        · by_cases hxq : x < (q : Int)
          · rw [if_pos ⟨hx, hxq⟩] at HX2
            have i1 : ¬ x < 0 := by omega
            have i2 : ¬ (q : Int) ≤ x := by omega
            go_region
            go_wp2
            go_roundw
            case rel => exact ⟨k + 1, by go_num, by omega, HX2.out, HWd.out⟩
            case measure => simp [intOf]; omega
          · rw [if_neg (by omega)] at HX2
            have HR3 : Hid (r = 3) := HX2.out.symm
            have i1 : ¬ x < 0 := by omega
            have i2 : (q : Int) ≤ x := by omega
            clear HX2
            go_region
            go_wp2
            go_ret
            exact ⟨by rw [HR3.out]; rfl, HB2.out.trans (HWd.out.mono HB2.out.size)⟩
        · rw [if_neg (by omega)] at HX2
          have HR3 : Hid (r = 3) := HX2.out.symm
          have i1 : x < 0 := by omega
          clear HX2
          go_region
          go_wp2
          go_ret
          exact ⟨by rw [HR3.out]; rfl, HB2.out.trans (HWd.out.mono HB2.out.size)⟩
      · obtain rfl : k = G.length := by omega
        have hk3 : ¬ (G.length : Int) < (G.length : Int) := by omega
        have HR0 : Hid (r = 0) := by show _ = _; rw [← HX.out, List.drop_eq_nil_of_le (Nat.le_refl _), List.drop_eq_nil_of_le (by have := HL.out; omega)]; rfl
        go_wp2
        go_ret
        exact ⟨by rw [HR0.out]; rfl, HB2.out.trans (HW.out.mono HB2.out.size)⟩
  · rw [if_neg hl] at HCk
    have hl2 : ((E.length : Int) != (G.length : Int)) = true := by rw [bne_iff_ne]; omega
    go_wp2_with (first
      | (go_at_call 46; ((with_reducible refine (HM.out _).mono ?_); rintro e w1 ⟨rfl, rfl⟩))
      | (go_at_call 47; ((with_reducible refine (HGe.out _).mono ?_); rintro e w2 ⟨v, rfl, ho, hb⟩; obtain ⟨la, lc, rfl, hrd⟩ := gen_blk ho; have HR := Lib.hid hrd; have T2 := Lib.hid (block_below T0.out hb); have HB2 := Lib.hid (HB0.out.trans (hb.mono HB0.out.size)); have c2 := (cells_two T2.out).2.1; clear ho hb hrd c0 c1))
      | fail)
    go_ret
    exact ⟨by rw [HCk.out]; rfl, HB2.out⟩
end Go.Proofs.Ytlagljnhbhnelaa
