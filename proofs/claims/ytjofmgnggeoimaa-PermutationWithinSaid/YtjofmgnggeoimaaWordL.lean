/- Contracts of word and Factor. -/
import Derived.Test.YtjofmgnggeoimaaBoxL
import Derived.Test.YtjofmgnggeoimaaNearL
import Derived.Test.YtjofmgnggeoimaaDetL
import Derived.Test.YtjofmgnggeoimaaDetX
import Derived.Deep.Cut
namespace Go.Proofs.Ytjofmgnggeoimaa
open Go.RowKit

/-- The world on the way: the matrix' box B, the result's box B + 1, the word's box g with its list. -/
structure WS (B g : Nat) (w0 wr : World) (m : M) (n : Bool) (v : Value) (L : List Int) : Prop where
  mat : wr.heap[B]? = some (.cells #[.int .i64 m.a, .int .i64 m.b, .int .i64 m.c, .int .i64 m.d] 32 (0, 0))
  res : wr.heap[B + 1]? = some (.cells #[.bool false, .slice none 0 0] 65 (0, 0))
  var : wr.heap[g]? = some (.cells #[.bool n, v] 65 (0, 0))
  own : wr.ownsRow (g + 1) 3 1 v L.length (zs L)
  bel : Below B w0 wr
  hg : B + 2 ≤ g
theorem WS.size {B g : Nat} {w0 wr : World} {m : M} {n : Bool} {v : Value} {L : List Int} (h : WS B g w0 wr m n v L) : g + 1 ≤ wr.heap.size := lt_of_block h.var
/-- Behind the append of an exponent and the store of the list. -/
theorem WS.app {B g : Nat} {w0 wr w3 : World} {m : M} {n : Bool} {v v' : Value} {L : List Int} {x : Int} {o : Obj} (h : WS B g w0 wr m n v L)
    (hown' : w3.ownsRow (g + 1) 3 1 v' (L.length + 1) (zs L ++ [.int .i64 x])) (hg : (wr.alloc o).grownBy w3 v.ownBlock) :
    WS B g w0 (w3.setCell ⟨g, 1, none⟩ v') m n v' (L ++ [x]) := by
  have hg2 := h.hg
  refine ⟨set_ne (block_grown h.mat h.own (by omega) hg) (by omega) _, set_ne (block_grown h.res h.own (by omega) hg) (by omega) _, two_set1 (block_grown h.var h.own (by omega) hg) _, ?_, ?_, hg2⟩
  · rw [List.length_append, zs_append]; exact own_set hown' (by omega) _
  · refine Below.setCell ?_ (by show B ≤ g; omega) _
    refine (h.bel.alloc (by have := h.size; omega) o).grown hg (by have := h.size; simp; omega) (fun j hj => ?_)
    have := (h.own.lt j hj).1
    omega
/-- Behind the store of the next matrix. -/
theorem WS.mat4 {B g : Nat} {w0 wr : World} {m : M} {n : Bool} {v : Value} {L : List Int} (h : WS B g w0 wr m n v L) (a b c d : Int) :
    WS B g w0 ((((wr.setCell ⟨B, 0, none⟩ (.int .i64 a)).setCell ⟨B, 1, none⟩ (.int .i64 b)).setCell ⟨B, 2, none⟩ (.int .i64 c)).setCell ⟨B, 3, none⟩ (.int .i64 d)) ⟨a, b, c, d⟩ n v L := by
  have hg2 := h.hg
  exact ⟨four_set h.mat _ _ _ _, set4_ne h.res (by omega) _ _ _ _, set4_ne h.var (by omega) _ _ _ _, own_set4 h.own (by omega) _ _ _ _, below_set4 h.bel (Nat.le_refl _) _ _ _ _, hg2⟩
theorem WS.start (w : World) (m : M) : WS w.heap.size (w.heap.size + 1 + 1) w (((w.alloc (.cells #[.int .i64 m.a, .int .i64 m.b, .int .i64 m.c, .int .i64 m.d] 32)).alloc (.cells #[.bool false, .slice none 0 0] 65)).alloc (.cells #[.bool false, .slice none 0 0] 65)) m false (.slice none 0 0) [] := by
  have e1 : (w.alloc (.cells #[.int .i64 m.a, .int .i64 m.b, .int .i64 m.c, .int .i64 m.d] 32)).heap.size = w.heap.size + 1 := by simp
  refine ⟨block_alloc (block_alloc (heap_alloc_new w _) _) _, block_alloc ?_ _, ?_, World.ownsRow_nil _ _ _ _, below3 _ _ _ _, by omega⟩
  · have := heap_alloc_new (w.alloc (.cells #[.int .i64 m.a, .int .i64 m.b, .int .i64 m.c, .int .i64 m.d] 32)) (.cells #[.bool false, .slice none 0 0] 65)
    rwa [e1] at this
  · have := heap_alloc_new ((w.alloc (.cells #[.int .i64 m.a, .int .i64 m.b, .int .i64 m.c, .int .i64 m.d] 32)).alloc (.cells #[.bool false, .slice none 0 0] 65)) (.cells #[.bool false, .slice none 0 0] 65)
    rwa [World.size_alloc, e1] at this
/-- Behind the store of the sign. -/
theorem WS.neg {B g : Nat} {w0 wr : World} {m : M} {n : Bool} {v : Value} {L : List Int} (h : WS B g w0 wr m n v L) (b : Bool) : WS B g w0 (wr.setCell ⟨g, 0, none⟩ (.bool b)) m b v L := by
  have hg2 := h.hg
  exact ⟨set_ne h.mat (by omega) _, set_ne h.res (by omega) _, two_set0 h.var _, own_set h.own (by omega) _, h.bel.setCell (by show B ≤ g; omega) _, hg2⟩
theorem nq_bd {a c : Int} (hc : c ≠ 0) (h1 : -1073741824 ≤ a) (h2 : a ≤ 1073741824) : -1073741824 ≤ nq a c ∧ nq a c ≤ 1073741824 := by
  have := nq_le hc (show a.natAbs ≤ 1073741824 by omega)
  omega

set_option maxHeartbeats 3200000 in
set_option maxRecDepth 1000000 in
theorem word_any (a b c d : Int) (w : World) (hd : (M.mk a b c d).det = 1) (ho : (M.mk a b c d).ok = true) :
    Calls Try.prog 62 #[.agg #[.int .i64 a, .int .i64 b, .int .i64 c, .int .i64 d]] w fun e w' => ∃ v, e = .returned (.agg #[.bool (wn 32 ⟨a, b, c, d⟩), v]) ∧
      w'.ownsRow w.heap.size 3 1 v (wl 32 ⟨a, b, c, d⟩).length (zs (wl 32 ⟨a, b, c, d⟩)) ∧ Below w.heap.size w w' := by
  obtain ⟨i0, hi, hz0, hz1, hz2⟩ := info_parts Try.infoInt
  have HW := Lib.hid (Way.start hd ho)
  clear hd ho
  go_enter Try.func62, Try.ntmps62
  go_wp2
  go_loopw [4] (fun _ wr => ∃ (f : Nat) (m : M) (v : Value) (L : List Int), Hid (WS w.heap.size (w.heap.size + 1 + 1) w wr m false v L) ∧ Hid (Way f m) ∧ Hid (L ++ wl f m = wl 32 ⟨a, b, c, d⟩) ∧ Hid (wn f m = wn 32 ⟨a, b, c, d⟩) ∧ Hid (L.length + f = 32)) (fun _ wr => match wr.cell? ⟨w.heap.size, 2, none⟩ with | some (.int _ n) => n.natAbs | _ => 0)
  case atStart => exact ⟨32, ⟨a, b, c, d⟩, _, [], WS.start _ ⟨a, b, c, d⟩, HW.out, rfl, rfl, rfl⟩
  case round =>
    clear HW
    obtain ⟨f, m, v, L, HS, HF, HL, HN, HE⟩ := hrel
    obtain ⟨f, rfl⟩ := HF.out.pos
    obtain ⟨⟨x0, x1, x2, x3⟩, xf⟩ := four_of_block HS.out.mat
    obtain ⟨⟨y0, y1⟩, yf⟩ := two_of_block HS.out.var
    obtain ⟨⟨r0, r1⟩, rf⟩ := two_of_block HS.out.res
    obtain ⟨⟨a1, a2⟩, ⟨b1, b2⟩, ⟨c1, c2⟩, d1, d2⟩ := M.ok_iff.1 HF.out.ok
    have hown := HS.out.own
    have hsz := HS.out.size
    have hll : L.length ≤ 31 := by have := HE.out; omega
    by_cases hc : m.c = 0
    · have HLL := Lib.hid HL.out
      rw [wl_last hc] at HLL
      have HNN := Lib.hid HN.out
      rw [wn_last hc] at HNN
      obtain ⟨p1, p2⟩ := prod_le a1 a2 b1 b2
      rw [hc] at x2
      have HS2 := Lib.hid (HS.out.neg (decide (m.a < 0)))
      go_upto_region 7 with fail
      generalize decide (m.a < 0) = bo at *
      clear x0 x1 x2 x3 xf y0 y1 yf r0 r1 rf hown hsz HS
      obtain ⟨W2, hW2⟩ : ∃ W2, W2 = wr.setCell ⟨w.heap.size + 1 + 1, 0, none⟩ (.bool bo) := ⟨_, rfl⟩
      rw [← hW2] at HS2 ⊢
      clear hW2
      obtain ⟨⟨x0, x1, x2, x3⟩, xf⟩ := four_of_block HS2.out.mat
      obtain ⟨⟨y0, y1⟩, yf⟩ := two_of_block HS2.out.var
      have hown := HS2.out.own
      have hsz := HS2.out.size
      go_wp2_with (first
        | (at_builtin; (refine wpList_append_own _ rfl _ _ 22 rfl (w.heap.size + 1 + 1 + 1) 3 i0 (.int .i64 0) 1 8 Try.underlying22 hi hz0 hz1 hz2 rfl (by decide) _ _ _ rfl (hown.alloc _) ⟨W2.heap.size, 0, none⟩ 1 1 [.int .i64 (m.a * m.b)] rfl rfl (cell_one_new' _ _ _) (fun x hx => by simp at hx; rw [hx]; rfl) (by unfold maxLen; omega) (by omega) (by simp; omega) ?_); intro v' w3 hown' hgrow3 hnil3; obtain ⟨A', c', rfl⟩ := own_len hown'; obtain ⟨⟨u0, u1⟩, uf⟩ := two_of_block (block_grown HS2.out.res hown (by omega) hgrow3); obtain ⟨⟨z0, z1⟩, zf⟩ := two_of_block (block_grown HS2.out.var hown (by omega) hgrow3); have HR := Lib.hid (HS2.out.app hown' hgrow3); clear hown' hgrow3 hnil3)
        | fail)
      obtain ⟨L2, hL2⟩ : ∃ L2, L2 = wl 32 ⟨a, b, c, d⟩ := ⟨_, rfl⟩
      rw [← hL2] at HLL ⊢
      clear hL2
      refine bodyPost_ret (v := .agg #[.bool bo, .slice A' (L.length + 1) c']) ?_ rfl ⟨_, by rw [← HNN.out], ?_, ?_⟩
      · simp [results, Try.results62, go_sem, *]
      · rw [← HLL.out]; exact own_base (by omega) (own_set (own_set HR.out.own (by omega) _) (by omega) _)
      · exact (HR.out.bel.setCell (by show w.heap.size ≤ w.heap.size + 1; omega) _).setCell (by show w.heap.size ≤ w.heap.size + 1; omega) _
    · have hc0 : (m.c == 0) = false := by simpa using hc
      have HLL := Lib.hid HL.out
      rw [wl_next hc] at HLL
      have HNN := Lib.hid HN.out
      rw [wn_next hc] at HNN
      have HQ := Lib.hid (fun W => nearest_any m.a m.c W a1 a2 c1 c2 hc)
      have HF2 := Lib.hid (HF.out.next hc)
      have HC2 := Lib.hid (M.step_c hc)
      obtain ⟨q1, q2⟩ := nq_bd hc a1 a2
      obtain ⟨p1, p2⟩ := prod_le q1 q2 c1 c2
      obtain ⟨p3, p4⟩ := prod_le q1 q2 d1 d2
      have HST : Hid (m.step = ⟨m.c, m.d, nq m.a m.c * m.c - m.a, nq m.a m.c * m.d - m.b⟩) := rfl
      generalize nq m.a m.c = q at *
      go_wp2_with (first
        | (go_at_call 74; ((with_reducible refine (HQ.out _).mono ?_); rintro e w' ⟨rfl, rfl⟩))
        | (at_builtin; (refine wpList_append_own _ rfl _ _ 22 rfl (w.heap.size + 1 + 1 + 1) 3 i0 (.int .i64 0) 1 8 Try.underlying22 hi hz0 hz1 hz2 rfl (by decide) _ _ _ rfl (hown.alloc _) ⟨wr.heap.size, 0, none⟩ 1 1 [.int .i64 q] rfl rfl (cell_one_new' _ _ _) (fun x hx => by simp at hx; rw [hx]; rfl) (by unfold maxLen; omega) (by omega) (by simp; omega) ?_); intro v' w3 hown' hgrow3 hnil3; obtain ⟨A', c', rfl⟩ := own_len hown'; obtain ⟨⟨u0, u1, u2, u3⟩, uf⟩ := four_of_block (block_grown HS.out.mat hown (by omega) hgrow3); obtain ⟨⟨z0, z1⟩, zf⟩ := two_of_block (block_grown HS.out.var hown (by omega) hgrow3); have HR := Lib.hid (HS.out.app hown' hgrow3); clear hown' hgrow3 hnil3)
        | fail)
      go_roundw
      case rel => exact ⟨f, m.step, _, L ++ [q], by rw [HST.out]; exact HR.out.mat4 _ _ _ _, HF2.out, by have := HLL.out; show _ = _; rw [List.append_assoc]; exact this, HNN.out, by have := HE.out; show _ = _; simp; omega⟩
      case measure =>
        have e := (four_of_block (HR.out.mat4 m.c m.d (q * m.c - m.a) (q * m.d - m.b)).mat).1.2.2.1
        rw [e, x2]
        have := HC2.out
        rw [HST.out] at this
        show (q * m.c - m.a).natAbs < m.c.natAbs
        dsimp only at this
        omega

/-- The zero word and an error, or the word of the matrix. -/
def FacRet (w : World) (m : M) (k : Int) (e : Ending) (w' : World) : Prop :=
  ∃ (n : Bool) (A : Option Addr) (c : Nat) (l : List Int), e = .returned (.tuple #[.agg #[.bool n, .slice A l.length c], .int .i64 k]) ∧ RdZ w' w'.heap.size A c l ∧ (∀ a, A = some a → w.heap.size ≤ a.block) ∧
    Hid (k = chkI m.a m.b m.c m.d ∧ n = (if k = 0 then wn 32 m else false) ∧ l = (if k = 0 then wl 32 m else [])) ∧ Below w.heap.size w w'
theorem own_high {w : World} {b : Nat} {e : TypeId} {size : Nat} {A : Option Addr} {c n : Nat} {xs : List Value} (h : w.ownsRow b e size (.slice A n c) n xs) : ∀ a, A = some a → b ≤ a.block := by
  rintro a rfl
  rcases h.2 with ⟨h1, _⟩ | ⟨g, cap, cur, h1, h2, _⟩
  · cases h1
  · cases h1; exact h2
theorem word_ret (a b c d : Int) (w : World) (hd : (M.mk a b c d).det = 1) (ho : (M.mk a b c d).ok = true) :
    Calls Try.prog 62 #[.agg #[.int .i64 a, .int .i64 b, .int .i64 c, .int .i64 d]] w fun e w' => ∃ (A : Option Addr) (k : Nat), e = .returned (.agg #[.bool (wn 32 ⟨a, b, c, d⟩), .slice A (wl 32 ⟨a, b, c, d⟩).length k]) ∧
      w'.ownsRow w.heap.size 3 1 (.slice A (wl 32 ⟨a, b, c, d⟩).length k) (wl 32 ⟨a, b, c, d⟩).length (zs (wl 32 ⟨a, b, c, d⟩)) ∧ Below w.heap.size w w' := by
  refine (word_any a b c d w hd ho).mono ?_
  rintro e w' ⟨v, he, hown, hb⟩
  obtain ⟨A, k, rfl⟩ := own_len hown
  exact ⟨A, k, he, hown, hb⟩
set_option maxHeartbeats 1600000 in
set_option maxRecDepth 1000000 in
theorem factor_any (a b c d : Int) (w : World) : Calls Try.prog 44 #[.agg #[.int .i64 a, .int .i64 b, .int .i64 c, .int .i64 d]] w fun e w' => ∃ k, FacRet w ⟨a, b, c, d⟩ k e w' := by
  have HC := Lib.hid (fun W => check_any a b c d W)
  rcases chk_cases a b c d with ⟨h, hk⟩ | ⟨h, h1, hk⟩ | ⟨h, h1, hk⟩
  · have HK : Hid ((2 : Int) = chkI a b c d) := hk.symm
    rw [hk] at HC
    clear h hk
    go_enter Try.func44, Try.ntmps44
    go_wp2_with (first
      | (go_at_call 31; ((with_reducible refine (HC.out _).mono ?_); rintro e w1 ⟨rfl, hb⟩; obtain ⟨hc, hf⟩ := bcell hb; obtain ⟨hz0, hz1⟩ : w.heap.size < w1.heap.size ∧ w.heap.size + 1 < w1.heap.size := (by have := hb.size; (try simp at this); omega); have HBn : Hid (Below w.heap.size w w1) := (by first | exact HB.out.trans (hb.mono HB.out.size) | exact (HB.out.trans ((below1 _ _).mono HB.out.size)).trans (hb.mono (by have := HB.out.size; (try simp); omega)) | exact (below2 _ _ _).trans (hb.mono (by simp; omega)) | fail); have HB := Lib.hid HBn.out; clear HBn hb))
      | fail)
    refine bodyPost_ret (v := .tuple #[.agg #[.bool false, .slice none 0 0], .int .i64 2]) ?_ rfl ⟨2, false, none, 0, [], rfl, ?_, by simp, ⟨HK.out, rfl, rfl⟩, below_set2 HB.out (by omega) _ _⟩
    · simp [results, Try.results44, go_sem, *]
    · exact ⟨by simp, by unfold maxLen; omega, fun h0 => by simp at h0, fun _ h0 => by cases h0⟩
  · have HK : Hid ((0 : Int) = chkI a b c d) := hk.symm
    have HWD := Lib.hid (fun W => word_ret a b c d W h1 h)
    rw [hk] at HC
    clear h h1 hk
    obtain ⟨l, hl⟩ : ∃ l, l = wl 32 ⟨a, b, c, d⟩ := ⟨_, rfl⟩
    obtain ⟨n, hn⟩ : ∃ n, n = wn 32 ⟨a, b, c, d⟩ := ⟨_, rfl⟩
    rw [← hl, ← hn] at HWD
    have HL := Lib.hid hl
    have HN := Lib.hid hn
    clear hl hn
    go_enter Try.func44, Try.ntmps44
    go_wp2_with (first
      | (go_at_call 31; ((with_reducible refine (HC.out _).mono ?_); rintro e w1 ⟨rfl, hb⟩; obtain ⟨hc, hf⟩ := bcell hb; obtain ⟨hz0, hz1⟩ : w.heap.size < w1.heap.size ∧ w.heap.size + 1 < w1.heap.size := (by have := hb.size; (try simp at this); omega); have HBn : Hid (Below w.heap.size w w1) := (by first | exact HB.out.trans (hb.mono HB.out.size) | exact (HB.out.trans ((below1 _ _).mono HB.out.size)).trans (hb.mono (by have := HB.out.size; (try simp); omega)) | exact (below2 _ _ _).trans (hb.mono (by simp; omega)) | fail); have HB := Lib.hid HBn.out; clear HBn hb))
      | (go_at_call 62; ((with_reducible refine (HWD.out _).mono ?_); rintro e w2 ⟨A, k, rfl, hown, hb⟩; have HO := Lib.hid hown; clear hown; have HZ := Lib.hid hb.size; obtain ⟨hc, hf⟩ := bcell hb; obtain ⟨hz0, hz1⟩ : w.heap.size < w2.heap.size ∧ w.heap.size + 1 < w2.heap.size := (by have := hb.size; (try simp at this); omega); have HBn : Hid (Below w.heap.size w w2) := (by first | exact HB.out.trans (hb.mono HB.out.size) | exact (HB.out.trans ((below1 _ _).mono HB.out.size)).trans (hb.mono (by have := HB.out.size; (try simp); omega)) | exact (below2 _ _ _).trans (hb.mono (by simp; omega)) | fail); have HB := Lib.hid HBn.out; clear HBn hb))
      | fail)
    refine bodyPost_ret (v := .tuple #[.agg #[.bool n, .slice A l.length k], .int .i64 0]) ?_ rfl ⟨0, n, A, k, l, rfl, ?_, ?_, ⟨HK.out, HN.out, HL.out⟩, below_set2 HB.out (by omega) _ _⟩
    · simp [results, Try.results44, go_sem, *]
    · obtain ⟨A2, c2, he, hr⟩ := own_rdz (own_set (j := 1) (g := w.heap.size + 1) (own_set (j := 0) (g := w.heap.size + 1) HO.out (by omega) (.bool n)) (by omega) (.slice A l.length k))
      cases he
      exact hr
    · intro x hx
      have := own_high HO.out x hx
      omega
  · have HK : Hid ((12 : Int) = chkI a b c d) := hk.symm
    rw [hk] at HC
    clear h h1 hk
    go_enter Try.func44, Try.ntmps44
    go_wp2_with (first
      | (go_at_call 31; ((with_reducible refine (HC.out _).mono ?_); rintro e w1 ⟨rfl, hb⟩; obtain ⟨hc, hf⟩ := bcell hb; obtain ⟨hz0, hz1⟩ : w.heap.size < w1.heap.size ∧ w.heap.size + 1 < w1.heap.size := (by have := hb.size; (try simp at this); omega); have HBn : Hid (Below w.heap.size w w1) := (by first | exact HB.out.trans (hb.mono HB.out.size) | exact (HB.out.trans ((below1 _ _).mono HB.out.size)).trans (hb.mono (by have := HB.out.size; (try simp); omega)) | exact (below2 _ _ _).trans (hb.mono (by simp; omega)) | fail); have HB := Lib.hid HBn.out; clear HBn hb))
      | fail)
    refine bodyPost_ret (v := .tuple #[.agg #[.bool false, .slice none 0 0], .int .i64 12]) ?_ rfl ⟨12, false, none, 0, [], rfl, ?_, by simp, ⟨HK.out, rfl, rfl⟩, below_set2 HB.out (by omega) _ _⟩
    · simp [results, Try.results44, go_sem, *]
    · exact ⟨by simp, by unfold maxLen; omega, fun h0 => by simp at h0, fun _ h0 => by cases h0⟩
end Go.Proofs.Ytjofmgnggeoimaa
