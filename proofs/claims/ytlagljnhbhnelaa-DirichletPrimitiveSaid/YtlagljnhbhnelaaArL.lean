/- The contracts of arith's Factor and Divisors (out of wip/arith). -/
import Derived.Test.YtlagljnhbhnelaaInvL
import Derived.Test.YtlagljnhbhnelaaCsL
import Derived.Test.YtlagljnhbhnelaaArM
import Derived.Test.YtlagljnhbhnelaaShelf
import Derived.StillTailTactics
import Derived.IntWalk
import Derived.OneCell
import Derived.Deep.RegionLaw
import Derived.Deep.AppendLies
import Derived.ArgAppend
namespace Go.Proofs.Ytlagljnhbhnelaa
open Go.RowKit

theorem Try.infoPP : (Try.prog.info? 91).map (fun i => (i.zero, i.size, i.bytes)) = some (some (.agg #[.int .i64 0, .int .i64 0]), 2, 16) := by kernel_rfl

/-- The cells of a list of prime powers. -/
def flat : List (Nat × Nat) → List Value
  | [] => []
  | p :: l => .int .i64 p.1 :: .int .i64 p.2 :: flat l
theorem flat_get (F : List (Nat × Nat)) (k : Nat) (h : k < F.length) : (flat F)[k * 2]? = some (.int .i64 (F[k].1 : Int)) ∧ (flat F)[k * 2 + 1]? = some (.int .i64 (F[k].2 : Int)) := by
  induction F generalizing k with
  | nil => simp at h
  | cons p l ih =>
    cases k with
    | zero => simp [flat]
    | succ k =>
      have := ih k (by simpa using h)
      rw [show (k + 1) * 2 = k * 2 + 1 + 1 by omega]
      simpa [flat] using this
theorem flat_append (l m : List (Nat × Nat)) : flat (l ++ m) = flat l ++ flat m := by
  induction l with
  | nil => rfl
  | cons p l ih => simp [flat, ih]
theorem flat_length (l : List (Nat × Nat)) : (flat l).length = l.length * 2 := by
  induction l with
  | nil => rfl
  | cons p l ih => simp [flat, ih]; omega

theorem ownsRow_slice {w : World} {base : Nat} {e : TypeId} {size : Nat} {v : Value} {n : Nat} {xs : List Value} (h : w.ownsRow base e size v n xs) : ∃ a l c, v = .slice a l c := by
  rcases h.2 with ⟨rfl, _⟩ | ⟨g, cap, cur, rfl, _⟩
  · exact ⟨_, _, _, rfl⟩
  · exact ⟨_, _, _, rfl⟩

/-- The world within Factor: the list's variable, the rest's variable, the list; below them all is as it was. -/
structure FW (B : Nat) (w0 : World) (v : Value) (F : List (Nat × Nat)) (r : Nat) (w : World) : Prop where
  list : w.heap[B]? = some (.cells #[v] 87 (0, 0))
  rest : w.heap[B + 1]? = some (.cells #[.int .i64 (r : Int)] 3 (0, 0))
  own : w.ownsRow (B + 2) 91 2 v F.length (flat F)
  below : Below B w0 w

theorem FW.size {B : Nat} {w0 w : World} {v : Value} {F : List (Nat × Nat)} {r : Nat} (h : FW B w0 v F r w) : B + 2 ≤ w.heap.size := by
  have := lt_of_block h.rest; omega
theorem FW.setRest {B : Nat} {w0 w : World} {v : Value} {F : List (Nat × Nat)} {r : Nat} (h : FW B w0 v F r w) (r' : Nat) :
    FW B w0 v F r' (w.setCell ⟨B + 1, 0, none⟩ (.int .i64 (r' : Int))) := by
  refine ⟨(Below.heap_setCell _ _ _ _ (by show B ≠ B + 1; omega)).trans h.list, one_setCell h.rest, ownsRow_setCell_below h.own (by show B + 1 < B + 2; omega) _, h.below.setCell (by show B ≤ B + 1; omega) _⟩
theorem FW.app {B : Nat} {w0 w w1 : World} {v v' : Value} {F : List (Nat × Nat)} {r d k : Nat} {o : Obj} (h : FW B w0 v F r w)
    (hown : w1.ownsRow (B + 2) 91 2 v' (F.length + 1) (flat F ++ [.int .i64 (d : Int), .int .i64 (k : Int)])) (hg : (w.alloc o).grownBy w1 v.ownBlock) :
    w1.heap[B]? = some (.cells #[v] 87 (0, 0)) ∧ FW B w0 v' (F ++ [(d, k)]) r (w1.setCell ⟨B, 0, none⟩ v') := by
  have hs := h.size
  have hne : ∀ j, j < B + 2 → some j ≠ v.ownBlock := fun j hj e => by have := (h.own.lt j e.symm).1; omega
  have h1 : w1.heap[B]? = some (.cells #[v] 87 (0, 0)) := by
    rw [hg.block B (by simp; omega) (hne B (by omega)), Below.heap_alloc _ _ _ (by omega)]; exact h.list
  have h2 : w1.heap[B + 1]? = some (.cells #[.int .i64 (r : Int)] 3 (0, 0)) := by
    rw [hg.block (B + 1) (by simp; omega) (hne (B + 1) (by omega)), Below.heap_alloc _ _ _ (by omega)]; exact h.rest
  refine ⟨h1, one_setCell h1, (Below.heap_setCell _ _ _ _ (by show B + 1 ≠ B; omega)).trans h2, ?_, ?_⟩
  · rw [flat_append, List.length_append]
    exact ownsRow_setCell_below hown (by show B < B + 2; omega) _
  · exact ((h.below.alloc (by omega) o).grown hg (by simp; omega) (fun j hj => by have := (h.own.lt j hj).1; omega)).setCell (Nat.le_refl _) _

set_option maxHeartbeats 800000 in
set_option maxRecDepth 1000000 in
theorem collect_any (B : Nat) (w0 w : World) (v : Value) (F : List (Nat × Nat)) (r d : Nat) (hw : FW B w0 v F r w) (hd : 2 ≤ d) (hd2 : (d : Int) ≤ 2147483647) (hr : 1 ≤ r) (hr2 : (r : Int) ≤ 2147483647) (HF : Hid (F.length ≤ 100000)) :
    Calls Try.prog 79 #[.int .i64 d, .pointer (some ⟨B + 1, 0, none⟩), .pointer (some ⟨B, 0, none⟩)] w fun e w' => e = .returned (.tuple #[]) ∧ ∃ v', FW B w0 v' (F ++ part d (strip r d r).1) (strip r d r).2 w' := by
  obtain ⟨i0, hi, hz0, hz1, hz2⟩ := info_parts Try.infoPP
  go_enter Try.func79, Try.ntmps79
  go_wp2
  go_loopw [4] (fun k wr => ∃ (j f r' : Nat), k = .int .i64 j ∧ Hid (r' ≤ f) ∧ 1 ≤ r' ∧ j + r' ≤ r ∧ Hid (strip r d r = (j + (strip f d r').1, (strip f d r').2)) ∧ Hid (FW B w0 v F r' wr)) (fun k _ => r - (intOf k).toNat)
  case atStart => exact ⟨0, r, r, rfl, Nat.le_refl _, hr, by omega, by show _ = _; simp, hw⟩
  case round =>
    obtain ⟨j, f, r', rfl, Hf, hr1, hjr, HS, HW⟩ := hrel
    have hc := cell_of_one HW.out.rest
    have hfz := free_of_one HW.out.rest
    have hd0 : 1 ≤ (d : Int) := by omega
    have hr3 : (r' : Int) ≤ 2147483647 := by omega
    by_cases hm : r' % d = 0
    · have HM := Lib.hid hm
      have hm2 : ((r' : Int) % (d : Int) == 0) = true := by rw [natmod_cast, hm]; rfl
      clear hm
      obtain ⟨f, rfl⟩ : ∃ f', f = f' + 1 := ⟨f - 1, by have := Hf.out; omega⟩
      have hq1 := div_one_le hd hr1 HM.out
      have hq2 := div_small (f := f) hd hr1 Hf.out
      have hq3 : r' / d < r' := Nat.div_lt_self (by omega) (by omega)
      have HW2 := Lib.hid (HW.out.setRest (r' / d))
      have HS2 : Hid (strip r d r = (j + 1 + (strip f d (r' / d)).1, (strip f d (r' / d)).2)) := by
        show _ = _
        rw [HS.out, strip_hit HM.out]
        simp; omega
      have HQ2 := Lib.hid hq2
      clear hq2
      go_wp2
      go_roundw
      case rel => exact ⟨j + 1, f, r' / d, by go_num, HQ2.out, hq1, by omega, HS2, HW2⟩
      case measure => simp [intOf]; omega
    · have HM := Lib.hid hm
      have hm2 : ((r' : Int) % (d : Int) == 0) = false := by rw [natmod_cast]; simp; omega
      clear hm
      have HS2 : Hid (strip r d r = (j, r')) := by
        show _ = _
        rw [HS.out]
        cases f with
        | zero => rfl
        | succ f => rw [strip_miss HM.out]; rfl
      have hlist := cell_of_one HW.out.list
      have hlfz := free_of_one HW.out.list
      by_cases hj : j = 0
      · subst hj
        go_wp2
        go_end0
        refine ⟨rfl, v, ?_⟩
        rw [HS2.out]
        simpa [part] using HW.out
      · have hj0 : 0 < (j : Int) := by omega
        have hown := HW.out.own
        have hF2 := HF.out
        have hsz := HW.out.size
        go_wp2_with (at_builtin; (refine wpList_append_own _ rfl _ _ 87 rfl (B + 2) 91 i0 (.agg #[.int .i64 0, .int .i64 0]) 2 16 Try.underlying87 hi hz0 hz1 hz2 rfl (by decide) _ _ _ rfl (hown.alloc _) ⟨wr.heap.size, 0, none⟩ 1 1 [.int .i64 (d : Int), .int .i64 (j : Int)] rfl rfl (cell_two_new _ _ _ _) (fun x hx => by simp at hx; rcases hx with rfl | rfl <;> rfl) (by unfold maxLen; omega) (by omega) (by simp; omega) ?_); intro v' w3 hown' hgrow3 hnil3; obtain ⟨la, ll, lc, rfl⟩ := ownsRow_slice hown'; obtain ⟨L, HR⟩ := HW.out.app (d := d) (k := j) hown' hgrow3; have hl1 := cell_of_one L; have hl2 := free_of_one L; have HR2 := Lib.hid HR; clear hown' hgrow3 HR L hown hlist hlfz hc hfz hnil3)
        go_end0
        refine ⟨rfl, ?_, ?_⟩
        rotate_left
        rw [HS2.out]
        have e : part d j = [(d, j)] := by simp [part]; omega
        rw [e]
        exact HR2.out

set_option maxHeartbeats 800000 in
set_option maxRecDepth 1000000 in
theorem factor_any (n : Nat) (w : World) (hn : 1 ≤ n) (hn2 : (n : Int) ≤ 2147483647) :
    Calls Try.prog 67 #[.int .i64 n] w fun e w' => ∃ v, e = .returned (.tuple #[v, .int .i64 0]) ∧ w'.ownsRow (w.heap.size + 2) 91 2 v (facs 2 n).length (flat (facs 2 n)) ∧ Below w.heap.size w w' := by
  have hmf : ∀ (fn : Fn) (first cap : Array Value) (w : World), (Instr.makeFunc fn first cap).run Try.prog w = .ok (.func fn first cap) w := fun _ _ _ _ => rfl
  have HW : FW w.heap.size w (.slice none 0 0) [] n ((w.alloc (.cells #[.slice none 0 0] 87)).alloc (.cells #[.int .i64 (n : Int)] 3)) := by
    refine ⟨?_, ?_, World.ownsRow_nil _ _ _ _, ((Below.refl _ _).alloc (Nat.le_refl _) _).alloc (by simp) _⟩
    · rw [Below.heap_alloc _ _ _ (by simp)]; exact heap_alloc_new w _
    · have := heap_alloc_new (w.alloc (.cells #[.slice none 0 0] 87)) (.cells #[.int .i64 (n : Int)] 3)
      simpa using this
  have H0 := collect_any w.heap.size w _ _ _ n 2 HW (by omega) (by omega) hn hn2 (by show _ ≤ _; simp)
  rw [show ((2 : Nat) : Int) = 2 from rfl] at H0
  have H1 := Lib.hid H0
  clear H0
  clear HW
  go_enter Try.func67, Try.ntmps67
  go_wp2_with (first | (go_at_call 78; ((with_reducible refine (inRange_yes _ _ (by omega) hn2).mono ?_); rintro e w' ⟨rfl, rfl⟩)) | (go_at_call 79; ((with_reducible refine H1.out.mono ?_); rintro e w1 ⟨rfl, v1, HW10⟩; have HW1 := Lib.hid HW10; clear HW10 H1)))
  go_loopw [7] (fun D wr => ∃ (d r : Nat) (v : Value) (F : List (Nat × Nat)), D = .int .i64 d ∧ 3 ≤ d ∧ (d : Int) ≤ 46342 ∧ Hid (d % 2 = 1) ∧ Hid (r % 2 = 1) ∧ 1 ≤ r ∧ (r : Int) ≤ 2147483647 ∧ Hid (F.length + 1 ≤ d) ∧ Hid (F ++ facs d r = facs 2 n) ∧ Hid (FW w.heap.size w v F r wr)) (fun D _ => 50000 - (intOf D).toNat)
  case atStart =>
    refine ⟨3, (strip n 2 n).2, v1, _, rfl, by omega, by omega, rfl, strip_odd hn, strip_pos (by omega) hn, ?_, ?_, (facs_two hn).symm, HW1.out⟩
    · have := (strip_le n 2 n).1; omega
    · show _ ≤ _
      unfold part; simp; split <;> simp
  case round =>
    obtain ⟨d, r, v, F, rfl, hd, hd2, Hd1, Hr1, hr, hr2, HL, HF, HW⟩ := hrel
    have hc := cell_of_one HW.out.rest
    have hfz := free_of_one HW.out.rest
    have hl1 := cell_of_one HW.out.list
    have hl2 := free_of_one HW.out.list
    obtain ⟨la, ll, lc, rfl⟩ := ownsRow_slice HW.out.own
    by_cases hlt : d * d ≤ r
    · have hi : (d : Int) * (d : Int) ≤ (r : Int) := by rw [← Int.natCast_mul]; omega
      have ho := facs_odd hd Hd1.out hlt Hr1.out
      have hf2 : F ++ part d (strip r d r).1 ++ facs (d + 2) (strip r d r).2 = facs 2 n := by rw [List.append_assoc, ← ho.1]; exact HF.out
      have HF2 := Lib.hid hf2
      have HO := Lib.hid ho.2
      have HP := Lib.hid (strip_pos (f := r) (d := d) (r := r) (by omega) hr)
      have HLE := Lib.hid (strip_le r d r).1
      have hd3 : (d : Int) ≤ 46340 := by
        rcases Int.lt_or_le 46340 (d : Int) with h | h
        · have : (46341 : Int) * 46341 ≤ (d : Int) * (d : Int) := Int.mul_le_mul (by omega) (by omega) (by omega) (by omega)
          omega
        · exact h
      have hd4 : 0 ≤ (d : Int) * (d : Int) := by omega
      have HC := Lib.hid (collect_any w.heap.size w wr _ F r d HW.out (by omega) (by omega) hr hr2 (by have := HL.out; show _ ≤ _; omega))
      clear hf2 ho hlt
      go_wp2_with (go_at_call 79; ((with_reducible refine HC.out.mono ?_); rintro e w2 ⟨rfl, v2, HW20⟩; have HW2 := Lib.hid HW20; clear HW20 HC hc hfz hl1 hl2))
      go_roundw
      case rel =>
        refine ⟨d + 2, (strip r d r).2, v2, _, by go_num, by omega, by omega, ?_, HO.out, HP.out, ?_, ?_, HF2.out, HW2.out⟩
        · have := Hd1.out
          show _ = _
          omega
        · have := HLE.out; omega
        · have := HL.out
          show _ ≤ _
          unfold part
          split <;> simp <;> omega
      case measure => simp [intOf]; omega
    · have hi : (r : Int) < (d : Int) * (d : Int) := by rw [← Int.natCast_mul]; omega
      have hd5 : (d : Int) * (d : Int) ≤ 46342 * 46342 := Int.mul_le_mul hd2 hd2 (by omega) (by omega)
      have e := facs_big hlt
      have HF2 := Lib.hid HF.out
      rw [e] at HF2
      clear e hlt
      by_cases hr1 : 1 < r
      · have HC := Lib.hid (collect_any w.heap.size w wr _ F r r HW.out (by omega) (by omega) hr hr2 (by have := HL.out; show _ ≤ _; omega))
        rw [strip_self (by omega)] at HC
        have HF3 : Hid (F ++ [(r, 1)] = facs 2 n) := by rw [if_pos hr1] at HF2; exact HF2
        go_wp2_with (go_at_call 79; ((with_reducible refine HC.out.mono ?_); rintro e w2 ⟨rfl, v2, HW20⟩; have HW2 := Lib.hid HW20; clear HW20 HC hc hfz hl1 hl2; have hl1 := cell_of_one HW2.out.list; obtain ⟨la, ll, lc, rfl⟩ := ownsRow_slice HW2.out.own))
        go_ret2
        refine ⟨_, rfl, ?_, HW2.out.below⟩
        have := HW2.out.own
        rw [show part r 1 = [(r, 1)] from rfl, HF3.out] at this
        exact this
      · have HF3 : Hid (F = facs 2 n) := by rw [if_neg hr1, List.append_nil] at HF2; exact HF2
        go_wp2
        go_ret2
        refine ⟨_, rfl, ?_, HW.out.below⟩
        have := HW.out.own
        rw [HF3.out] at this
        exact this
def nats (l : List Nat) : List Value := l.map fun (x : Nat) => .int .i64 (x : Int)
theorem nats_append (l m : List Nat) : nats (l ++ m) = nats l ++ nats m := by simp [nats]
theorem nats_length (l : List Nat) : (nats l).length = l.length := by simp [nats]

theorem nats_get (L : List Nat) (k : Nat) (h : k < L.length) : (nats L)[k]? = some (.int .i64 (L[k] : Int)) := by simp [nats, h]
theorem addr_add (g j : Nat) : (⟨g, 0, none⟩ : Addr).add j = ⟨g, j, none⟩ := by unfold Addr.add; split <;> simp_all
theorem own_shape {w : World} {base : Nat} {v : Value} {F : List (Nat × Nat)} (h : w.ownsRow base 91 2 v F.length (flat F)) :
    (F = [] ∧ v = .slice none 0 0) ∨ ∃ g cap, v = .slice (some ⟨g, 0, none⟩) F.length cap ∧ base ≤ g ∧ g < w.heap.size ∧ F.length ≤ cap ∧
      ∀ k (hk : k < F.length), w.cell? ⟨g, k * 2, none⟩ = some (.int .i64 (F[k].1 : Int)) ∧ w.cell? ⟨g, k * 2 + 1, none⟩ = some (.int .i64 (F[k].2 : Int)) := by
  rcases h.2 with ⟨rfl, hn⟩ | ⟨g, cap, cur, rfl, hb, hg, hn, hc, hs, ht⟩
  · exact .inl ⟨by simpa using hn, rfl⟩
  · refine .inr ⟨g, cap, rfl, hb, lt_of_block hg, hn, fun k hk => ?_⟩
    have hx := flat_get F k hk
    have c1 := h.cells (g := g) rfl _ _ hx.1
    have c2 := h.cells (g := g) rfl _ _ hx.2
    rw [addr_add] at c1 c2
    exact ⟨c1, c2⟩

theorem nats_map (M : List Nat) : nats M = (M.map fun x => ((x : Nat) : Int)).map (Value.int .i64) := by simp [nats]
theorem row_lit (w : World) (n : Nat) : (w.alloc (.cells #[.int .i64 (n : Int)] 3)).ownsRow w.heap.size 3 1 (.slice (some ⟨w.heap.size, 0, none⟩) 1 1) [n].length (nats [n]) :=
  ⟨rfl, .inr ⟨w.heap.size, 1, _, rfl, Nat.le_refl _, heap_alloc_new w _, Nat.le_refl _, by unfold maxLen; omega, rfl, rfl⟩⟩

theorem next_row {B fb gw gg cw cap x : Nat} {M : List Nat} {w1 wr w2 : World} {cs : Array Value} {o : Obj} {y : Int} (hown : wr.ownsRow B 3 1 (.slice (some ⟨gw, 0, none⟩) M.length cw) M.length (nats M)) (hf : wr.heap[fb]? = some (.cells cs 91 (0, 0))) (hb : Below B w1 wr) (hB : B ≤ wr.heap.size) (hy : (x : Int) = y)
    (hown1 : w2.ownsRow B 3 1 (.slice (some ⟨gg, 0, none⟩) (M.length + 1) cap) (M.length + 1) (nats M ++ [.int .i64 y])) (hg : ((wr.alloc o).drew).grownBy w2 (some gw)) :
    w2.ownsRow B 3 1 (.slice (some ⟨gg, 0, none⟩) (M ++ [x]).length cap) (M ++ [x]).length (nats (M ++ [x])) ∧ w2.heap[fb]? = some (.cells cs 91 (0, 0)) ∧ Below B w1 w2 := by
  have hlt := lt_of_block hf
  have hBg : B ≤ gw := (hown.lt gw rfl).1
  have hne : fb ≠ gw := by
    rintro rfl
    obtain ⟨_, hn | ⟨g', cap', cur, hv, _, hg2, _⟩⟩ := hown
    · exact absurd hn.1 (by simp)
    · injection hv with h1
      injection h1 with h1
      injection h1 with h1
      subst h1
      rw [hf] at hg2
      injection hg2 with h2
      injection h2 with _ h3
      exact absurd h3 (by decide)
  subst hy
  refine ⟨?_, ?_, ?_⟩
  · rw [nats_append, List.length_append]
    exact hown1
  · rw [hg.block fb (by simp; omega) (by simpa using hne)]
    exact (Below.heap_alloc wr o fb hlt).trans hf
  · exact ((hb.alloc hB o).drew).grown hg (by simp; omega) (fun k hk => by injection hk with hk; omega)

end Go.Proofs.Ytlagljnhbhnelaa
