/- Contracts of convergents and Convergents. -/
import Derived.Test.YtbkombklfpjjpaaElemL
import Derived.Test.YtbkombklfpjjpaaBoxL
import Derived.Test.YtbkombklfpjjpaaCuspL
import Derived.Deep.Cut
import Derived.WalkSmall
namespace Go.Proofs.Ytbkombklfpjjpaa
open Go.RowKit

theorem Try.infoCusp : (Try.prog.info? 23).map (fun i => (i.zero, i.size, i.bytes)) = some (some (.agg #[.int .i64 0, .int .i64 0]), 2, 16) := by kernel_rfl
/-- The cells of a list of cusps. -/
def cs : List (Int × Int) → List Value
  | [] => []
  | x :: l => .int .i64 x.1 :: .int .i64 x.2 :: cs l
theorem cs_append : ∀ (l m : List (Int × Int)), cs (l ++ m) = cs l ++ cs m
  | [], _ => rfl
  | x :: l, m => by show _ :: _ :: cs (l ++ m) = _; rw [cs_append l m]; rfl
/-- The world on the way: the last two convergents in the boxes B and B + 1, the list above them. -/
structure CS (B : Nat) (w0 wr : World) (v : Value) (bp bq lp lq : Int) (C : List (Int × Int)) : Prop where
  bef : wr.heap[B]? = some (.cells #[.int .i64 bp, .int .i64 bq] 23 (0, 0))
  las : wr.heap[B + 1]? = some (.cells #[.int .i64 lp, .int .i64 lq] 23 (0, 0))
  own : wr.ownsRow (B + 2) 23 2 v C.length (cs C)
  bel : Below B w0 wr
theorem CS.size {B : Nat} {w0 wr : World} {v : Value} {bp bq lp lq : Int} {C : List (Int × Int)} (h : CS B w0 wr v bp bq lp lq C) : B + 2 ≤ wr.heap.size := lt_of_block h.las
theorem CS.drew {B : Nat} {w0 wr : World} {v : Value} {bp bq lp lq : Int} {C : List (Int × Int)} (h : CS B w0 wr v bp bq lp lq C) : CS B w0 wr.drew v bp bq lp lq C :=
  ⟨h.bef, h.las, own_low h.own fun _ _ => rfl, h.bel.drew⟩
theorem cell_two_new (w : World) (a b : Value) (t : TypeId) : ∀ j u, [a, b][j]? = some u → (w.alloc (.cells #[a, b] t)).cell? ((⟨w.heap.size, 0, none⟩ : Addr).add j) = some u := by
  intro j u hj
  match j, hj with
  | 0, hj => simp at hj; subst hj; simp [Addr.add]
  | 1, hj => simp at hj; subst hj; simp [Addr.add]
/-- Behind the stores of the next convergent. -/
theorem CS.set {B : Nat} {w0 wr : World} {v : Value} {bp bq lp lq : Int} {C : List (Int × Int)} (h : CS B w0 wr v bp bq lp lq C) (x y : Int) :
    CS B w0 ((((wr.setCell ⟨B, 0, none⟩ (.int .i64 lp)).setCell ⟨B, 1, none⟩ (.int .i64 lq)).setCell ⟨B + 1, 0, none⟩ (.int .i64 x)).setCell ⟨B + 1, 1, none⟩ (.int .i64 y)) v lp lq x y C := by
  refine ⟨set_ne (set_ne (two_set1 (two_set0 h.bef _) _) (by omega) _) (by omega) _, two_set1 (two_set0 (set_ne (set_ne h.las (by omega) _) (by omega) _) _) _, ?_, ?_⟩
  · exact own_set (own_set (own_set (own_set h.own (by omega) _) (by omega) _) (by omega) _) (by omega) _
  · exact below_set2 (below_set2 h.bel (Nat.le_refl _) _ _) (by omega) _ _
theorem CS.draw {B : Nat} {w0 wr : World} {v : Value} {bp bq lp lq : Int} {C : List (Int × Int)} (h : CS B w0 wr v bp bq lp lq C) (n : Nat) : CS B w0 (wr.drewN n) v bp bq lp lq C :=
  ⟨h.bef, h.las, own_low h.own fun _ _ => rfl, below_drewN h.bel n⟩
theorem CS.app {B : Nat} {w0 wr w3 : World} {v v' : Value} {bp bq lp lq x y : Int} {C : List (Int × Int)} {o : Obj} (h : CS B w0 wr v bp bq lp lq C)
    (hown' : w3.ownsRow (B + 2) 23 2 v' (C.length + 1) (cs C ++ [.int .i64 x, .int .i64 y])) (hg : (wr.alloc o).grownBy w3 v.ownBlock) : CS B w0 w3 v' bp bq lp lq (C ++ [(x, y)]) := by
  have h1 := h.size
  refine ⟨block_grown h.bef h.own (by omega) hg, block_grown h.las h.own (by omega) hg, by rw [List.length_append, cs_append]; exact hown', ?_⟩
  refine (h.bel.alloc (by omega) o).grown hg (by simp; omega) (fun j hj => ?_)
  have := (h.own.lt j hj).1
  omega
theorem CS.start (w : World) : CS w.heap.size w ((w.alloc (.cells #[.int .i64 0, .int .i64 1] 23)).alloc (.cells #[.int .i64 1, .int .i64 0] 23)) (.slice none 0 0) 0 1 1 0 [] := by
  refine ⟨block_alloc (heap_alloc_new w _) _, ?_, World.ownsRow_nil _ _ _ _, below2 _ _ _⟩
  have := heap_alloc_new (w.alloc (.cells #[.int .i64 0, .int .i64 1] 23)) (.cells #[.int .i64 1, .int .i64 0] 23)
  rwa [World.size_alloc] at this
/-- The slice value '.slice A C.length c' reads as the cusps C; its array lies below block B. -/
def RdC (w : World) (B : Nat) (A : Option Addr) (c : Nat) (C : List (Int × Int)) : Prop :=
  C.length ≤ c ∧ c ≤ maxLen ∧ (0 < C.length → ∃ b o, A = some ⟨b, o, none⟩ ∧ b < B ∧ ∀ k (h : k < C.length), w.cell? ⟨b, o + 2 * k, none⟩ = some (.int .i64 C[k].1) ∧ w.cell? ⟨b, o + 2 * k + 1, none⟩ = some (.int .i64 C[k].2)) ∧
  ∀ a, A = some a → ∃ b o, a = ⟨b, o, none⟩
theorem prod_in {n x b : Int} (hn : inE n = true) (hx : inE x = true) (hb : inE b = true) : -1152921505680588800 ≤ n * x + b ∧ n * x + b ≤ 1152921505680588800 ∧ -1152921504606846976 ≤ n * x ∧ n * x ≤ 1152921504606846976 := by
  obtain ⟨n1, n2⟩ := inE_iff.1 hn
  obtain ⟨x1, x2⟩ := inE_iff.1 hx
  obtain ⟨b1, b2⟩ := inE_iff.1 hb
  obtain ⟨p1, p2⟩ := prod_le n1 n2 x1 x2
  omega

set_option maxHeartbeats 6400000 in
set_option maxRecDepth 1000000 in
theorem convergents_any {l : List Int} {c : Nat} {A : Option Addr} (w : World) (h1 : RdZ w w.heap.size A c l) (h2 : ElK l l.length) (h3 : l.length ≤ 1073741826) :
    Calls Try.prog 40 #[.slice A l.length c] w fun e w' => ∃ A' c' C k, e = .returned (.tuple #[.slice A' C.length c', .int .i64 k]) ∧
      Hid ((cvg 0 1 1 0 l = some C ∧ k = 0) ∨ (cvg 0 1 1 0 l = none ∧ C = [] ∧ k = 7)) ∧
      w'.ownsRow w.heap.size 23 2 (.slice A' C.length c') C.length (cs C) ∧ Below w.heap.size w w' := by
  obtain ⟨i0, hi, z0, z1, z2⟩ := info_parts Try.infoCusp
  have hl := h1.len
  have H1 := Lib.hid h1
  have H2 := Lib.hid h2
  clear h1 h2
  go_enter Try.func40, Try.ntmps40
  go_wp2
  go_loopw [13, 4, 8] (fun i v _ wr => ∃ (k : Nat) (bp bq lp lq : Int) (C : List (Int × Int)), i = .int .i64 k ∧ Hid (Cvs l k bp bq lp lq C) ∧ Hid (CS w.heap.size w wr v bp bq lp lq C)) (fun i _ _ _ => l.length - (intOf i).toNat)
  case atStart => exact ⟨0, 0, 1, 1, 0, [], rfl, Cvs.start l, CS.start w⟩
  case round =>
    obtain ⟨k, bp, bq, lp, lq, C, rfl, HV, HS⟩ := hrel
    have hk := HV.out.hk
    by_cases hlt : k < l.length
    · obtain ⟨b1, o1, rfl, hb1, x1⟩ := H1.out.at_ hlt
      have hlt2 : (k : Int) < (l.length : Int) := by omega
      have y1 := (HS.out.bel.cell (p := ⟨b1, o1 + k, none⟩) hb1).trans x1
      clear x1
      obtain ⟨hin, hpos⟩ := H2.out k hlt hlt
      have HN := Lib.hid (HV.out.next hlt hpos)
      have HL := Lib.hid (HV.out.large hlt)
      have hnn := HV.out.nonneg hlt hpos
      obtain ⟨p1, p2, p3, p4⟩ := prod_in hin HV.out.l0 HV.out.b0
      obtain ⟨q1, q2, q3, q4⟩ := prod_in hin HV.out.l1 HV.out.b1
      generalize l[k] = n at *
      obtain ⟨⟨u0, u1⟩, uf⟩ := two_of_block HS.out.bef
      obtain ⟨⟨v0, v1⟩, vf⟩ := two_of_block HS.out.las
      have hsz := HS.out.size
      go_upto_region 6 with fail
      go_region
      have HS2 := Lib.hid (HS.out.set (n * lp + bp) (n * lq + bq)).drew
      obtain ⟨W2, hW2⟩ : ∃ W2, W2 = ((((wr.setCell ⟨w.heap.size, 0, none⟩ (.int .i64 lp)).setCell ⟨w.heap.size, 1, none⟩ (.int .i64 lq)).setCell ⟨w.heap.size + 1, 0, none⟩ (.int .i64 (n * lp + bp))).setCell ⟨w.heap.size + 1, 1, none⟩ (.int .i64 (n * lq + bq))).drew := ⟨_, rfl⟩
      rw [← hW2] at HS2 ⊢
      clear hW2 u0 u1 uf v0 v1 vf y1 HS hsz p3 p4 q3 q4
      generalize n * lp + bp = P at *
      generalize n * lq + bq = Q at *
      have HB2 := Lib.hid HS2.out.bel
      obtain ⟨⟨v0, v1⟩, vf⟩ := two_of_block HS2.out.las
      have hown := HS2.out.own
      have hsz := HS2.out.size
      have hlen := HV.out.len
      have hq0 : inE Q = false ↔ 1073741824 < Q := by
        constructor
        · intro h
          rcases Int.lt_or_le 1073741824 Q with h1 | h1
          · exact h1
          · rw [inE_yes (by omega) h1] at h; cases h
        · exact fun h => inE_no (.inr h)
      have HQ := Lib.hid hq0
      clear hq0 hin hpos
      rcases Int.lt_or_le P (-1073741824) with a1 | a1
      · have e1 := Lib.hid (HL.out (by rw [inE_no (n := P) (.inl a1)]; simp))
        clear HN HL HQ hown
        go_wp2
        refine bodyPost_ret (v := .tuple #[.slice none 0 0, .int .i64 7]) ?_ rfl ⟨none, 0, [], 7, rfl, .inr ⟨e1.out, rfl, rfl⟩, World.ownsRow_nil _ _ _ _, HB2.out⟩
        simp [results, Try.results40, go_sem, *]
      rcases Int.lt_or_le 1073741824 P with a2 | a2
      · have e1 := Lib.hid (HL.out (by rw [inE_no (n := P) (.inr a2)]; simp))
        clear HN HL HQ hown
        go_wp2
        refine bodyPost_ret (v := .tuple #[.slice none 0 0, .int .i64 7]) ?_ rfl ⟨none, 0, [], 7, rfl, .inr ⟨e1.out, rfl, rfl⟩, World.ownsRow_nil _ _ _ _, HB2.out⟩
        simp [results, Try.results40, go_sem, *]
      rcases Int.lt_or_le 1073741824 Q with a3 | a3
      · have e1 := Lib.hid (HL.out (by rw [HQ.out.2 a3]; simp))
        clear HN HL HQ hown
        go_wp2
        refine bodyPost_ret (v := .tuple #[.slice none 0 0, .int .i64 7]) ?_ rfl ⟨none, 0, [], 7, rfl, .inr ⟨e1.out, rfl, rfl⟩, World.ownsRow_nil _ _ _ _, HB2.out⟩
        simp [results, Try.results40, go_sem, *]
      · have HN2 := Lib.hid (HN.out (inE_yes a1 a2) (inE_yes (by omega) a3))
        clear HN HL HQ
        go_wp2_with (first
          | (at_builtin; (refine wpList_append_own _ rfl _ _ 35 rfl (w.heap.size + 2) 23 i0 (.agg #[.int .i64 0, .int .i64 0]) 2 16 Try.underlying35 hi z0 z1 z2 rfl (by decide) _ _ _ rfl (hown.alloc _) ⟨W2.heap.size, 0, none⟩ 1 1 [.int .i64 P, .int .i64 Q] rfl rfl (cell_two_new _ _ _ _) (fun x hx => by simp at hx; rcases hx with hx | hx <;> (rw [hx]; rfl)) (by unfold maxLen; omega) (by omega) (by simp; omega) ?_); intro v' w3 hown' hgrow3 hnil3; have HR := Lib.hid (HS2.out.app hown' hgrow3); clear hown' hgrow3 hnil3)
          | fail)
        go_roundw
        case rel => exact ⟨k + 1, lp, lq, P, Q, C ++ [(P, Q)], by go_num, HN2.out, HR.out⟩
        case measure => simp [intOf]; omega
    · have hkl : k = l.length := by omega
      subst hkl
      have e1 := Lib.hid HV.out.done
      obtain ⟨A', c', rfl⟩ := own_len HS.out.own
      go_wp2
      refine bodyPost_ret (v := .tuple #[.slice A' C.length c', .int .i64 0]) ?_ rfl ⟨A', c', C, 0, rfl, .inl ⟨e1.out, rfl⟩, own_base (by omega) HS.out.own, HS.out.bel⟩
      simp [results, Try.results40, go_sem, *]
end Go.Proofs.Ytbkombklfpjjpaa
