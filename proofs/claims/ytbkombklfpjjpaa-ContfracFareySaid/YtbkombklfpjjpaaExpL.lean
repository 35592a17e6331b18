/- Contracts of expansion and Expand. -/
import Derived.Test.YtbkombklfpjjpaaBoxL
import Derived.Test.YtbkombklfpjjpaaCuspL
import Derived.Test.YtbkombklfpjjpaaCfM
import Derived.Deep.Cut
import Derived.WalkSmall
namespace Go.Proofs.Ytbkombklfpjjpaa
open Go.RowKit

/-- The expansion of p/q, whatever the fuel. -/
def cfe (p q : Int) : List Int := cfl (q.toNat + 1) p q
theorem cfe_zero {p : Int} : cfe p 0 = [] := cfl_zero
theorem cfe_next {p q : Int} (h : 0 < q) : cfe p q = p / q :: cfe q (p % q) := by
  unfold cfe
  rw [cfl_next (by omega)]
  have m1 := Int.emod_nonneg p (show q ≠ 0 by omega)
  have m2 := Int.emod_lt_of_pos p h
  rw [cfl_fuel q.toNat ((p % q).toNat + 1) q (p % q) m1 (by omega) (by omega)]
theorem cfe_len {p q : Int} : (cfe p q).length ≤ q.toNat + 1 := cfl_len _ _ _
/-- On the way: x/y is left, the list L is made. -/
structure Exps (p q x y : Int) (L : List Int) : Prop where
  lox : -1073741824 ≤ x
  hix : x ≤ 1073741824
  loy : 0 ≤ y
  hiy : y ≤ 1073741824
  eq : L ++ cfe x y = cfe p q
  len : (L.length : Int) + y ≤ 1073741824
theorem Exps.next {p q x y : Int} {L : List Int} (h : Exps p q x y L) (hy : 0 < y) : Exps p q y (x % y) (L ++ [x / y]) := by
  have m1 := Int.emod_nonneg x (show y ≠ 0 by omega)
  have m2 := Int.emod_lt_of_pos x hy
  obtain ⟨h1, h2, h3, h4, h5, h6⟩ := h
  refine ⟨by omega, h4, m1, by omega, ?_, by simp; omega⟩
  rw [List.append_assoc, List.singleton_append, ← cfe_next hy]; exact h5
/-- The world on the way: the list lies above the cusp's box. -/
structure XS (B b : Nat) (w0 wr : World) (v : Value) (L : List Int) : Prop where
  own : wr.ownsRow b 3 1 v L.length (zs L)
  bel : Below B w0 wr
  sz : b ≤ wr.heap.size
  hB : B ≤ b
theorem XS.draw {B b : Nat} {w0 wr : World} {v : Value} {L : List Int} (h : XS B b w0 wr v L) (n : Nat) : XS B b w0 (wr.drewN n) v L :=
  ⟨own_low h.own fun _ _ => rfl, below_drewN h.bel n, h.sz, h.hB⟩
theorem XS.app {B b : Nat} {w0 wr w3 : World} {v v' : Value} {L : List Int} {x : Int} {o : Obj} (h : XS B b w0 wr v L)
    (hown' : w3.ownsRow b 3 1 v' (L.length + 1) (zs L ++ [.int .i64 x])) (hg : (wr.alloc o).grownBy w3 v.ownBlock) : XS B b w0 w3 v' (L ++ [x]) := by
  have h1 := h.sz
  have h2 := h.hB
  refine ⟨by rw [List.length_append, zs_append]; exact hown', ?_, ?_, h2⟩
  · refine (h.bel.alloc (by omega) o).grown hg (by simp; omega) (fun j hj => ?_)
    have := (h.own.lt j hj).1
    omega
  · have := hg.size
    simp at this
    omega

set_option maxHeartbeats 3200000 in
set_option maxRecDepth 1000000 in
theorem expansion_any (p q : Int) (w : World) (p1 : -1073741824 ≤ p) (p2 : p ≤ 1073741824) (q1 : 0 ≤ q) (q2 : q ≤ 1073741824) :
    Calls Try.prog 37 #[.agg #[.int .i64 p, .int .i64 q]] w fun e w' => ∃ A c, e = .returned (.slice A (cfe p q).length c) ∧
      w'.ownsRow w.heap.size 3 1 (.slice A (cfe p q).length c) (cfe p q).length (zs (cfe p q)) ∧ Below w.heap.size w w' := by
  obtain ⟨i0, hi, hz0, hz1, hz2⟩ := info_parts Try.infoInt
  have HS0 : Hid (Exps p q p q []) := ⟨p1, p2, q1, q2, rfl, by simpa using q2⟩
  clear p1 p2 q1 q2
  go_enter Try.func37, Try.ntmps37
  go_wp2
  go_quiet (fail)
  go_wp2
  go_loopw [3, 4, 5, 6] (fun V P Q _ wr => ∃ (x y : Int) (L : List Int), P = .int .i64 x ∧ Q = .int .i64 y ∧ Hid (Exps p q x y L) ∧ Hid (XS w.heap.size (w.heap.size + 1) w wr V L)) (fun _ _ Q _ _ => (intOf Q).toNat)
  case atStart => exact ⟨p, q, [], rfl, rfl, HS0.out, XS.draw ⟨World.ownsRow_nil _ _ _ _, below1 _ _, by simp, by omega⟩ _⟩
  case round =>
    clear HS0
    obtain ⟨x, y, L, rfl, rfl, HE, HX⟩ := hrel
    obtain ⟨x1, x2, y1, y2⟩ : _ ∧ _ ∧ _ ∧ _ := ⟨HE.out.lox, HE.out.hix, HE.out.loy, HE.out.hiy⟩
    by_cases hy : y = 0
    · subst hy
      have HL := Lib.hid HE.out.eq
      rw [cfe_zero, List.append_nil] at HL
      obtain ⟨A, c, rfl⟩ := own_len HX.out.own
      go_wp2
      refine bodyPost_ret (v := .slice A L.length c) ?_ rfl ⟨A, c, by rw [← HL.out], by rw [← HL.out]; exact own_base (by omega) HX.out.own, HX.out.bel⟩
      simp [results, Try.results37, go_sem, *]
    · have hy0 : 0 < y := by omega
      have hc0 : (y == 0) = false := by simpa using hy
      have HE2 := Lib.hid (HE.out.next hy0)
      have hll : L.length ≤ 1073741824 := by have := HE.out.len; omega
      have m1 := Int.emod_nonneg x (show y ≠ 0 by omega)
      have m2 := Int.emod_lt_of_pos x hy0
      have HD := Lib.hid (floor_of (p := x) hy0)
      obtain ⟨d1, d2⟩ := floor_bd (p := x) hy0 x1 x2
      have t1 := Int.lt_tmod_of_pos x hy0
      have t2 := Int.tmod_lt_of_pos x hy0
      have HU := Lib.hid (tmod_up (p := x) hy0)
      have HO := Lib.hid (tmod_ok (p := x) hy0)
      have hown := HX.out.own
      have hsz := HX.out.sz
      rcases Int.lt_or_le (x.tmod y) 0 with ht | ht
      · have e1 := HU.out ht
        have HD2 := HD.out
        rw [← e1] at HD2 HE2 m1 m2
        clear HD HU HO e1
        generalize x / y = d at *
        go_wp2_with (first
          | (at_builtin; (refine wpList_append_own _ rfl _ _ 25 rfl (w.heap.size + 1) 3 i0 (.int .i64 0) 1 8 Try.underlying25 hi hz0 hz1 hz2 rfl (by decide) _ _ _ rfl (hown.alloc _) ⟨wr.heap.size, 0, none⟩ 1 1 [.int .i64 d] rfl rfl (cell_one_new' _ _ _) (fun x hx => by simp at hx; rw [hx]; rfl) (by unfold maxLen; omega) (by omega) (by simp; omega) ?_); intro v' w3 hown' hgrow3 hnil3; have HR := Lib.hid (HX.out.app hown' hgrow3); clear hown' hgrow3 hnil3)
          | fail)
        go_roundw
        case rel => exact ⟨y, x.tmod y + y, L ++ [d], rfl, rfl, HE2.out, HR.out⟩
        case measure => simp [intOf]; omega
      · have e1 := HO.out ht
        have HD2 := HD.out
        rw [← e1] at HD2 HE2 m1 m2
        clear HD HU HO e1
        generalize x / y = d at *
        go_wp2_with (first
          | (at_builtin; (refine wpList_append_own _ rfl _ _ 25 rfl (w.heap.size + 1) 3 i0 (.int .i64 0) 1 8 Try.underlying25 hi hz0 hz1 hz2 rfl (by decide) _ _ _ rfl (hown.alloc _) ⟨wr.heap.size, 0, none⟩ 1 1 [.int .i64 d] rfl rfl (cell_one_new' _ _ _) (fun x hx => by simp at hx; rw [hx]; rfl) (by unfold maxLen; omega) (by omega) (by simp; omega) ?_); intro v' w3 hown' hgrow3 hnil3; have HR := Lib.hid (HX.out.app hown' hgrow3); clear hown' hgrow3 hnil3)
          | fail)
        go_roundw
        case rel => exact ⟨y, x.tmod y, L ++ [d], rfl, rfl, HE2.out, HR.out⟩
        case measure => simp [intOf]; omega

theorem cusp_vals (p q : Int) : cuspI p q = 0 ∨ cuspI p q = 2 ∨ cuspI p q = 3 := by
  unfold cuspI
  split
  · exact .inr (.inl rfl)
  · split
    · exact .inr (.inr rfl)
    · exact .inl rfl
/-- The error of Expand and its list. -/
def expI (p q : Int) : Int := if cuspI p q ≠ 0 then cuspI p q else if q = 0 then 5 else 0
def exl (p q : Int) : List Int := if cuspI p q ≠ 0 then [] else if q = 0 then [] else cfe p q
theorem exl_nil {p q : Int} (h : expI p q ≠ 0) : exl p q = [] := by
  unfold expI at h
  unfold exl
  by_cases h1 : cuspI p q = 0
  · rw [if_neg (by simpa using h1)] at h ⊢
    by_cases h2 : q = 0
    · rw [if_pos h2]
    · rw [if_neg h2] at h; exact absurd rfl h
  · rw [if_pos h1]
theorem exp_ok {p q : Int} (h : expI p q = 0) : cuspI p q = 0 ∧ 0 < q ∧ exl p q = cfe p q := by
  unfold expI at h
  by_cases h1 : cuspI p q = 0
  · rw [if_neg (by simpa using h1)] at h
    by_cases h2 : q = 0
    · rw [if_pos h2] at h; omega
    · refine ⟨h1, ?_, ?_⟩
      · have := (cuspI_zero.1 h1).2.2.pos; omega
      · unfold exl; rw [if_neg (by simpa using h1), if_neg h2]
  · rw [if_pos h1] at h; exact absurd h h1
theorem rdz_nil (w : World) (B : Nat) : RdZ w B none 0 [] := ⟨by simp, by unfold maxLen; omega, fun h0 => by simp at h0, fun _ h0 => by cases h0⟩
theorem own_up {w : World} {b : Nat} {e : TypeId} {size : Nat} {A : Option Addr} {c n : Nat} {xs : List Value} (h : w.ownsRow b e size (.slice A n c) n xs) : ∀ a, A = some a → b ≤ a.block := by
  rintro a rfl
  rcases h.2 with ⟨h1, _⟩ | ⟨g, cap, cur, h1, h2, _⟩
  · cases h1
  · cases h1; exact h2
/-- What both Expands leave. -/
def ExpRet (w : World) (k : Int) (l : List Int) (e : Ending) (w' : World) : Prop :=
  ∃ A c, e = .returned (.tuple #[.slice A l.length c, .int .i64 k]) ∧ RdZ w' w'.heap.size A c l ∧ (∀ a, A = some a → w.heap.size ≤ a.block) ∧ Below w.heap.size w w'
theorem own_rdz2 {w : World} {base c : Nat} {A : Option Addr} {F : List Int} (h : w.ownsRow base 3 1 (.slice A F.length c) F.length (zs F)) : RdZ w w.heap.size A c F := by
  obtain ⟨A2, c2, he, hr⟩ := own_rdz h
  cases he
  exact hr
set_option maxHeartbeats 1600000 in
set_option maxRecDepth 1000000 in
theorem expand_any (p q : Int) (w : World) : Calls Try.prog 14 #[.agg #[.int .i64 p, .int .i64 q]] w (ExpRet w (expI p q) (exl p q)) := by
  have HC := Lib.hid (fun W => checkCusp_any p q W)
  by_cases h : cuspI p q = 0
  · by_cases hq : q = 0
    · have e1 : expI p q = 5 := by unfold expI; rw [if_neg (by simpa using h), if_pos hq]
      have e2 : exl p q = [] := by unfold exl; rw [if_neg (by simpa using h), if_pos hq]
      rw [h] at HC
      rw [e1, e2]
      clear h e1 e2
      subst hq
      go_enter Try.func14, Try.ntmps14
      go_wp2_with (first
        | (go_at_call 21; ((with_reducible refine (HC.out _).mono ?_); rintro e w1 ⟨rfl, hb⟩; obtain ⟨hc, hf⟩ := bcell hb; obtain hz0 : w.heap.size < w1.heap.size := (by have := hb.size; (try simp at this); omega); have HBn : Hid (Below w.heap.size w w1) := (by first | exact HB.out.trans (hb.mono HB.out.size) | exact (below1 _ _).trans (hb.mono (by simp)) | fail); have HB := Lib.hid HBn.out; clear HBn hb))
        | fail)
      refine bodyPost_ret (v := .tuple #[.slice none 0 0, .int .i64 5]) ?_ rfl ⟨none, 0, rfl, rdz_nil _ _, by simp, HB.out⟩
      simp [results, Try.results14, go_sem, *]
    · obtain ⟨e0, e1, k⟩ := cuspI_zero.1 h
      obtain ⟨p1, p2⟩ := inE_iff.1 e0
      have k0 := k.pos
      have HX := Lib.hid (fun W => expansion_any p q W p1 p2 k0 e1)
      have e1 : expI p q = 0 := by unfold expI; rw [if_neg (by simpa using h), if_neg hq]
      have e2 : exl p q = cfe p q := by unfold exl; rw [if_neg (by simpa using h), if_neg hq]
      have hq0 : (q == 0) = false := by simpa using hq
      rw [h] at HC
      rw [e1, e2]
      clear h e1 e2 k
      generalize cfe p q = l at *
      go_enter Try.func14, Try.ntmps14
      go_wp2_with (first
        | (go_at_call 21; ((with_reducible refine (HC.out _).mono ?_); rintro e w1 ⟨rfl, hb⟩; obtain ⟨hc, hf⟩ := bcell hb; obtain hz0 : w.heap.size < w1.heap.size := (by have := hb.size; (try simp at this); omega); have HBn : Hid (Below w.heap.size w w1) := (by first | exact HB.out.trans (hb.mono HB.out.size) | exact (below1 _ _).trans (hb.mono (by simp)) | fail); have HB := Lib.hid HBn.out; clear HBn hb))
        | (go_at_call 37; ((with_reducible refine (HX.out _).mono ?_); rintro e w1 ⟨A, k, rfl, hown, hb⟩; have HO := Lib.hid (own_base (by have := HB.out.size; omega : w.heap.size ≤ _) hown); clear hown; obtain ⟨hc, hf⟩ := bcell hb; obtain hz0 : w.heap.size < w1.heap.size := (by have := hb.size; (try simp at this); omega); have HBn : Hid (Below w.heap.size w w1) := (by first | exact HB.out.trans (hb.mono HB.out.size) | exact (below1 _ _).trans (hb.mono (by simp)) | fail); have HB := Lib.hid HBn.out; clear HBn hb))
        | fail)
      refine bodyPost_ret (v := .tuple #[.slice A l.length k, .int .i64 0]) ?_ rfl ⟨A, k, rfl, own_rdz2 HO.out, fun a ha => ?_, HB.out⟩
      · simp [results, Try.results14, go_sem, *]
      · have := own_up HO.out a ha; omega
  · have e1 : expI p q = cuspI p q := by unfold expI; rw [if_pos h]
    have e2 : exl p q = [] := by unfold exl; rw [if_pos h]
    rw [e1, e2]
    clear e1 e2
    rcases cusp_vals p q with h0 | h0 | h0
    · exact absurd h0 h
    all_goals
      rw [h0] at HC ⊢
      clear h h0
      go_enter Try.func14, Try.ntmps14
      go_wp2_with (first
        | (go_at_call 21; ((with_reducible refine (HC.out _).mono ?_); rintro e w1 ⟨rfl, hb⟩; obtain ⟨hc, hf⟩ := bcell hb; obtain hz0 : w.heap.size < w1.heap.size := (by have := hb.size; (try simp at this); omega); have HBn : Hid (Below w.heap.size w w1) := (by first | exact HB.out.trans (hb.mono HB.out.size) | exact (below1 _ _).trans (hb.mono (by simp)) | fail); have HB := Lib.hid HBn.out; clear HBn hb))
        | fail)
      first
        | (refine bodyPost_ret (v := .tuple #[.slice none 0 0, .int .i64 2]) ?_ rfl ⟨none, 0, rfl, rdz_nil _ _, by simp, HB.out⟩; simp [results, Try.results14, go_sem, *])
        | (refine bodyPost_ret (v := .tuple #[.slice none 0 0, .int .i64 3]) ?_ rfl ⟨none, 0, rfl, rdz_nil _ _, by simp, HB.out⟩; simp [results, Try.results14, go_sem, *])

end Go.Proofs.Ytbkombklfpjjpaa
