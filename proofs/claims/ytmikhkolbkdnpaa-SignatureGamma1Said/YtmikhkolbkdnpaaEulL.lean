/- The contracts of Euler, of the code and of the reference, and of the reference's cycles and Turn. -/
import Derived.Test.YtmikhkolbkdnpaaEuN
import Derived.Test.YtmikhkolbkdnpaaPPjL
import Derived.Laws.MakeOwn
import Derived.Deep.DeepCutAuto
import Derived.Deep.CutBlock
import Derived.Deep.RegionHeld3
import Derived.IntWalk
import Derived.Deep.AppendLies
namespace Go.Proofs.Ytmikhkolbkdnpaa
open Go.RowKit
set_option linter.unusedVariables false
set_option linter.unusedSimpArgs false

theorem rdz_rdn {w : World} {B c m : Nat} {A : Option Addr} {P : List Nat} {s : Nat → Nat} (h : RdZ w B A c (iz P)) (hl : P.length = m) (h0 : 0 < m) (hs : ∀ q, q < m → P.getD q 0 = s q) : ∃ b o, A = some ⟨b, o, none⟩ ∧ RdN w B b o m s := by
  obtain ⟨b, o, e, hb, _⟩ := h.at_ (k := 0) (by rw [iz_len]; omega)
  refine ⟨b, o, e, hb, fun q hq => ?_⟩
  obtain ⟨b', o', e', _, x⟩ := h.at_ (k := q) (by rw [iz_len]; omega)
  rw [e] at e'
  cases e'
  rw [x, ← hs q hq, List.getD_eq_getElem?_getD, List.getElem?_eq_getElem (by omega)]
  simp [iz]
theorem pS_len (g : Nat → Nat) (n : Nat) : (pS g n).length = mO g n := by unfold pS; rw [List.length_map]; rfl
theorem pT_len (g f : Nat → Nat) (n : Nat) : (pT g f n).length = mO g n := by unfold pT; rw [List.length_map]; rfl
theorem pS_at (g : Nat → Nat) (n q : Nat) (hq : q < mO g n) : (pS g n).getD q 0 = sO g n q := by
  have h : q < (pjN (fun i => g (g i)) n).2.length := hq
  show (((pjN (fun i => g (g i)) n).2.map fun i => (pjN (fun i => g (g i)) n).1 (g i))).getD q 0 = (pjN (fun i => g (g i)) n).1 (g ((pjN (fun i => g (g i)) n).2.getD q 0))
  simp [List.getD, h]
theorem pT_at (g f : Nat → Nat) (n q : Nat) (hq : q < mO g n) : (pT g f n).getD q 0 = tO g f n q := by
  have h : q < (pjN (fun i => g (g i)) n).2.length := hq
  show (((pjN (fun i => g (g i)) n).2.map fun i => (pjN (fun i => g (g i)) n).1 (f i))).getD q 0 = (pjN (fun i => g (g i)) n).1 (f ((pjN (fun i => g (g i)) n).2.getD q 0))
  simp [List.getD, h]
/-- S followed by T, as a list on the way. -/
structure EW (w1 wr : World) (vs vt : Value) (m : Nat) (s t : Nat → Nat) (k : Nat) : Prop where
  row : wr.rowIs (w1.heap.size + 1) 3 m (fun j => .int .i64 (if j < k then t (s j) else 0 : Nat))
  p : wr.heap[w1.heap.size]? = some (.cells #[vs, vt] 24 (0, 0))
  bel : Below w1.heap.size w1 wr
theorem EW.set {w1 wr : World} {vs vt : Value} {m k : Nat} {s t : Nat → Nat} (h : EW w1 wr vs vt m s t k) : EW w1 (wr.setCell ⟨w1.heap.size + 1, k, none⟩ (.int .i64 (t (s k) : Nat))) vs vt m s t (k + 1) := by
  refine ⟨World.rowIs.congr (h.row.set k _) fun j _ => ?_, set_ne h.p (by omega) _, h.bel.setCell (by show _ ≤ w1.heap.size + 1; omega) _⟩
  by_cases e : j = k
  · subst e; simp
  · rw [if_neg e]
    by_cases e2 : j < k
    · rw [if_pos e2, if_pos (by omega)]
    · rw [if_neg e2, if_neg (by omega)]
theorem ew_start (w1 : World) (vs vt : Value) (m : Nat) (s t : Nat → Nat) : EW w1 ((w1.alloc (.cells #[vs, vt] 24)).alloc (.cells (madeCells #[.int .i64 0] m) 3)) vs vt m s t 0 := by
  have hr := World.rowIs_made (w1.alloc (.cells #[vs, vt] 24)) (.int .i64 0) m 3
  exact ⟨World.rowIs.congr (by simpa using hr) fun j _ => by simp, block_alloc (heap_alloc_new w1 _) _, below2 w1 _ _⟩
set_option maxHeartbeats 6400000 in
set_option maxRecDepth 1000000 in
theorem euler_any {S T : List Int} {B bS oS bT oT cS cT : Nat} (w : World) (h : AI w B bS oS bT oT S T cS cT) :
    Calls Try.prog 14 #[.agg #[.slice (some ⟨bS, oS, none⟩) S.length cS, .slice (some ⟨bT, oT, none⟩) S.length cT]] w fun e w' => e = .returned (.tuple #[.int .i64 (eulZ (fnz S) (fnz T) S.length), .int .i64 0]) ∧ Below w.heap.size w w' := by
  have T0 : Hid ((w.alloc (.cells #[.slice (some ⟨bS, oS, none⟩) S.length cS, .slice (some ⟨bT, oT, none⟩) S.length cT] 24)).heap[w.heap.size]? = some (.cells #[.slice (some ⟨bS, oS, none⟩) S.length cS, .slice (some ⟨bT, oT, none⟩) S.length cT] 24 (0, 0))) := heap_alloc_new w _
  have HB0 : Hid (Below w.heap.size w (w.alloc (.cells #[.slice (some ⟨bS, oS, none⟩) S.length cS, .slice (some ⟨bT, oT, none⟩) S.length cT] 24))) := below1 w _
  have HCk : Hid (∀ W, Below w.heap.size w W → Calls Try.prog 34 #[.agg #[.slice (some ⟨bS, oS, none⟩) S.length cS, .slice (some ⟨bT, oT, none⟩) S.length cT]] W fun e w' => e = .returned (.int .i64 0) ∧ Below W.heap.size W w') := fun W hb => by
    have := pcheck_any W (h.below hb).zs (h.below hb).zt (h.below hb).le
    rwa [chkA_ok h.act, h.act.len] at this
  have HPr := Lib.hid (fun W (hb : Below w.heap.size w W) => pproj_raw (cS := cS) (cT := cT) W ((h.below hb).s.mono (h.below hb).le) ((h.below hb).t.mono (h.below hb).le) h.act.ps h.act.pt h.act.le)
  have hP := pact_of h.act
  have hle := h.act.le
  have hml := hP.mle
  have hm0 := hP.mpos
  obtain ⟨hb1, hb2, hb3⟩ := hP.bd
  have HSp := Lib.hid hP.ps
  have HTp := Lib.hid hP.pt
  have HUp := Lib.hid hP.ptu
  have HSa := Lib.hid (pS_at (fnz S) S.length)
  have HTa := Lib.hid (pT_at (fnz S) (fnz T) S.length)
  have hSl := pS_len (fnz S) S.length
  have hTl := pT_len (fnz S) (fnz T) S.length
  have HEu : Hid (eulZ (fnz S) (fnz T) S.length = ((cyN (sO (fnz S) S.length) (mO (fnz S) S.length)).length : Int) + (cyN (fun i => tO (fnz S) (fnz T) S.length (sO (fnz S) S.length i)) (mO (fnz S) S.length)).length + (cyN (tO (fnz S) (fnz T) S.length) (mO (fnz S) S.length)).length - mO (fnz S) S.length) := rfl
  clear h hP
  generalize eulZ (fnz S) (fnz T) S.length = E at *
  generalize pS (fnz S) S.length = PS at *
  generalize pT (fnz S) (fnz T) S.length = PT at *
  generalize sO (fnz S) S.length = s at *
  generalize tO (fnz S) (fnz T) S.length = t at *
  generalize mO (fnz S) S.length = m at *
  rw [hSl, hTl] at HPr
  have hm2 : m ≤ 1152 := by omega
  have HCS : Hid (∀ (W : World) A c, RdZ W W.heap.size A c (iz PS) → Calls Try.prog 36 #[.slice A m c] W fun e w' => ∃ A c, e = .returned (.slice A (cyN s m).length c) ∧ Below W.heap.size W w') := fun W A c h => by
    obtain ⟨b, o, rfl, r⟩ := rdz_rdn h hSl hm0 HSa.out
    refine (cycles_any W r HSp.out hm2).mono ?_
    rintro e w' ⟨A, c, rfl, _, hb⟩
    exact ⟨A, c, rfl, hb⟩
  have HCT : Hid (∀ (W : World) A c, RdZ W W.heap.size A c (iz PT) → Calls Try.prog 36 #[.slice A m c] W fun e w' => ∃ A c, e = .returned (.slice A (cyN t m).length c) ∧ Below W.heap.size W w') := fun W A c h => by
    obtain ⟨b, o, rfl, r⟩ := rdz_rdn h hTl hm0 HTa.out
    refine (cycles_any W r HTp.out hm2).mono ?_
    rintro e w' ⟨A, c, rfl, _, hb⟩
    exact ⟨A, c, rfl, hb⟩
  have HCU : Hid (∀ (W : World) b, RdN W W.heap.size b 0 m (fun j => t (s j)) → Calls Try.prog 36 #[.slice (some ⟨b, 0, none⟩) m m] W fun e w' => ∃ A c, e = .returned (.slice A (cyN (fun i => t (s i)) m).length c) ∧ Below W.heap.size W w') := fun W b h => by
    refine (cycles_any W h HUp.out hm2).mono ?_
    rintro e w' ⟨A, c, rfl, _, hb⟩
    exact ⟨A, c, rfl, hb⟩
  have hmk := fun W => mk_int2 m W hm2
  generalize (cyN s m).length = n1 at *
  generalize (cyN (fun i => t (s i)) m).length = n2 at *
  generalize (cyN t m).length = n3 at *
  have hSl9 := hSl
  have hTl9 := hTl
  clear hSl hTl
  go_enter Try.func14, Try.ntmps14
  go_wp2_with (first
    | (go_at_call 34; ((with_reducible refine (HCk.out _ HB0.out).mono ?_); rintro e w1 ⟨rfl, hb⟩; have HB1 := Lib.hid (bel0 HB0.out hb); have T1 := Lib.hid (block_below T0.out hb); obtain ⟨⟨t1, t2⟩, _⟩ := two_of_block T1.out; clear hb))
    | (go_at_call 35; ((with_reducible refine (HPr.out _ HB1.out).mono ?_); rintro e w2 ⟨A1, c1, A2, c2, rfl, h1, h2, hb⟩; have HB2 := Lib.hid (bel0 HB1.out hb); have H1 := Lib.hid h1; have H2 := Lib.hid h2; have HE0 := Lib.hid (ew_start w2 (.slice A1 m c1) (.slice A2 m c2) m s t); clear t1 t2 hb h1 h2))
    | fail)
  obtain ⟨b1, o1, rfl, r1⟩ := rdz_rdn H1.out hSl9 hm0 HSa.out
  obtain ⟨b2, o2, rfl, r2⟩ := rdz_rdn H2.out hTl9 hm0 HTa.out
  have R1 := Lib.hid r1
  have R2 := Lib.hid r2
  clear r1 r2 hmk
  obtain ⟨W0, hW0⟩ : ∃ W0, W0 = ((w2.alloc (.cells #[.slice (some ⟨b1, o1, none⟩) m c1, .slice (some ⟨b2, o2, none⟩) m c2] 24)).alloc (.cells (madeCells #[.int .i64 0] m) 3)) := ⟨_, rfl⟩
  rw [← hW0] at HE0 ⊢
  clear hW0
  go_loopw [7, 8, 23] (fun _ _ I wr => ∃ (k : Nat), I = .int .i64 k ∧ k ≤ m ∧ Hid (EW w2 wr (.slice (some ⟨b1, o1, none⟩) m c1) (.slice (some ⟨b2, o2, none⟩) m c2) m s t k)) (fun _ _ I _ => m - (intOf I).toNat)
  case atStart => exact ⟨0, rfl, by omega, HE0.out⟩
  case round =>
    clear HE0
    obtain ⟨k, rfl, hk, HE⟩ := hrel
    by_cases hlt : k < m
    · have hki : (k : Int) < (m : Int) := by omega
      have hg := HSp.out.lt k hlt
      have hf := HTp.out.lt _ hg
      have s1 : wr.cell? ⟨b1, o1 + k, none⟩ = some (.int .i64 (s k : Nat)) := (HE.out.bel.cell (p := ⟨b1, o1 + k, none⟩) R1.out.1).trans (R1.out.2 k hlt)
      have s2 : wr.cell? ⟨b2, o2 + s k, none⟩ = some (.int .i64 (t (s k) : Nat)) := (HE.out.bel.cell (p := ⟨b2, o2 + s k, none⟩) R2.out.1).trans (R2.out.2 _ hg)
      obtain ⟨⟨p1, p2⟩, _⟩ := two_of_block HE.out.p
      have hcs := HE.out.row.cell (i := k) hlt
      have hfz := HE.out.row.frozen k
      have HE2 := Lib.hid HE.out.set
      generalize t (s k) = y at *
      generalize s k = x at *
      have hxi : (x : Int) < (m : Int) := by omega
      go_wp2
      go_roundw
      case rel => exact ⟨k + 1, by go_num, by omega, HE2.out⟩
      case measure => simp [intOf]; omega
    · obtain rfl : m = k := by omega
      have h33 : ¬ (m : Int) < (m : Int) := by omega
      have HRu : Hid (∀ {W : World}, Below wr.heap.size wr W → RdN W W.heap.size (w2.heap.size + 1) 0 m (fun j => t (s j))) := fun {W} hb => ⟨Nat.lt_of_lt_of_le HE.out.row.lt hb.size, fun i hi => by
        have h := HE.out.row.cell (i := i) hi
        rw [if_pos hi] at h
        rw [Nat.zero_add]
        exact (hb.cell (p := ⟨w2.heap.size + 1, i, none⟩) HE.out.row.lt).trans h⟩
      have HS1 : Hid (∀ {W : World}, Below wr.heap.size wr W → RdZ W W.heap.size (some ⟨b1, o1, none⟩) c1 (iz PS)) := fun {W} hb => ((H1.out.below HE.out.bel).below (hb.mono HE.out.bel.size)).mono (Nat.le_trans HE.out.bel.size hb.size)
      have HS2 : Hid (∀ {W : World}, Below wr.heap.size wr W → RdZ W W.heap.size (some ⟨b2, o2, none⟩) c2 (iz PT)) := fun {W} hb => ((H2.out.below HE.out.bel).below (hb.mono HE.out.bel.size)).mono (Nat.le_trans HE.out.bel.size hb.size)
      have HPb : Hid (∀ {W : World}, Below wr.heap.size wr W → W.cell? ⟨w2.heap.size, 0, none⟩ = some (.slice (some ⟨b1, o1, none⟩) m c1) ∧ W.cell? ⟨w2.heap.size, 1, none⟩ = some (.slice (some ⟨b2, o2, none⟩) m c2)) := fun {W} hb => (two_of_block (block_below HE.out.p hb)).1
      have B0 := Lib.hid ((Below.refl wr.heap.size wr).drew)
      go_wp2
      go_region_held3 (fun w' => w'.cell? ⟨w2.heap.size, 0, none⟩ = some (.slice (some ⟨b1, o1, none⟩) m c1) ∧ w'.cell? ⟨w2.heap.size, 1, none⟩ = some (.slice (some ⟨b2, o2, none⟩) m c2))
        (with_reducible first | exact HPb.out B3.out | exact HPb.out B2.out | exact HPb.out B1.out | exact HPb.out B0.out | fail)
        (first
          | (go_at_call 36; ((with_reducible refine (HCS.out _ _ _ (HS1.out B0.out)).mono ?_); rintro e w4 ⟨A4, c4, rfl, hb⟩; have B1 := Lib.hid (bel0 B0.out hb); clear hb))
          | (go_at_call 36; ((with_reducible refine (HCU.out _ _ (HRu.out B1.out)).mono ?_); rintro e w5 ⟨A5, c5, rfl, hb⟩; have B2 := Lib.hid (bel0 B1.out hb); clear hb))
          | (go_at_call 36; ((with_reducible refine (HCT.out _ _ _ (HS2.out B2.out)).mono ?_); rintro e w6 ⟨A6, c6, rfl, hb⟩; have B3 := Lib.hid (bel0 B2.out hb); clear hb))
          | fail)
      go_wp2
      have q1 : IntKind.i64.wrap ((n1 : Int) + n2) = n1 + n2 := IntWalk.i64_in _ (by omega)
      have q2 : IntKind.i64.wrap ((n1 : Int) + n2 + n3) = n1 + n2 + n3 := IntWalk.i64_in _ (by omega)
      have q3 : IntKind.i64.wrap ((n1 : Int) + n2 + n3 - m) = n1 + n2 + n3 - m := IntWalk.i64_in _ (by omega)
      refine bodyPost_ret (v := .tuple #[.int .i64 (n1 + n2 + n3 - m), .int .i64 0]) ?_ rfl ⟨by rw [HEu.out], HB2.out.trans ((HE.out.bel.trans (B3.out.mono HE.out.bel.size)).mono HB2.out.size)⟩
      simp [results, Try.results14, go_sem, q1, q2, q3]
/-- The point is the least of its cycle. -/
def lst (f : Nat → Nat) (i : Nat) : Prop := ∀ j, onC f i j → i ≤ j
open Classical in
noncomputable def lcnt (f : Nat → Nat) : Nat → Nat
  | 0 => 0
  | k + 1 => lcnt f k + (if lst f k then 1 else 0)
theorem lcnt_yes {f : Nat → Nat} {k : Nat} (h : lst f k) : lcnt f (k + 1) = lcnt f k + 1 := by show lcnt f k + _ = _; rw [if_pos h]
theorem lcnt_no {f : Nat → Nat} {k : Nat} (h : ¬ lst f k) : lcnt f (k + 1) = lcnt f k := by show lcnt f k + _ = _; rw [if_neg h]; rfl
theorem lcnt_list {f : Nat → Nat} : ∀ k, ∃ L : List Nat, L.length = lcnt f k ∧ L.Nodup ∧ ∀ x, x ∈ L ↔ x < k ∧ lst f x
  | 0 => ⟨[], rfl, by simp, by simp⟩
  | k + 1 => by
    obtain ⟨L, h1, h2, h3⟩ := lcnt_list (f := f) k
    by_cases h : lst f k
    · refine ⟨k :: L, by rw [lcnt_yes h, List.length_cons, h1], List.nodup_cons.2 ⟨fun hm => by have := ((h3 k).1 hm).1; omega, h2⟩, fun x => ?_⟩
      rw [List.mem_cons, h3]
      constructor
      · rintro (e | ⟨e, e2⟩)
        · exact ⟨by omega, by rw [e]; exact h⟩
        · exact ⟨by omega, e2⟩
      · rintro ⟨e, e2⟩
        by_cases e3 : x = k
        · exact .inl e3
        · exact .inr ⟨by omega, e2⟩
    · refine ⟨L, by rw [lcnt_no h]; exact h1, h2, fun x => ?_⟩
      rw [h3]
      constructor
      · rintro ⟨e, e2⟩; exact ⟨by omega, e2⟩
      · rintro ⟨e, e2⟩
        refine ⟨?_, e2⟩
        rcases Nat.lt_or_ge x k with e3 | e3
        · exact e3
        · exact absurd (by rw [show k = x by omega]; exact e2) h
theorem lcnt_eq {f : Nat → Nat} {n : Nat} (hp : Prm f n) : lcnt f n = (cyN f n).length := by
  obtain ⟨L, h1, h2, h3⟩ := lcnt_list (f := f) n
  rw [← h1]
  refine IsCls.uniq (onC_eqv hp) ⟨L, ⟨fun x hx => ((h3 x).1 hx).1, h2, fun x hx y hy hr => ?_, fun i hi => ?_⟩, rfl⟩ (cyN_cls hp)
  · have a := ((h3 x).1 hx)
    have b := ((h3 y).1 hy)
    have := a.2 y hr
    have := b.2 x (onC_symm hp a.1 hr)
    omega
  · obtain ⟨k, hk, hr, hm⟩ := least_of (p := fun x => onC f i x) i ⟨i, Nat.le_refl _, onC_refl f i⟩
    have hkn : k < n := by omega
    exact ⟨k, (h3 k).2 ⟨hkn, fun j hj => by
      rcases Nat.lt_or_ge j k with h | h
      · exact absurd (onC_trans hr hj) (hm j h)
      · exact h⟩, onC_symm hp hi hr⟩
theorem lst_iff {f : Nat → Nat} {i c : Nat} (h : IsPer f i c) : (∀ j, 1 ≤ j → j < c → i < itr f j i) ↔ lst f i := by
  constructor
  · rintro hh j ⟨k, rfl⟩
    rw [h.mod]
    have hm := Nat.mod_lt k h.pos
    rcases Nat.eq_zero_or_pos (k % c) with e | e
    · rw [e]; exact Nat.le_refl _
    · exact Nat.le_of_lt (hh _ e hm)
  · intro hh j h1 h2
    have h3 := hh _ ⟨j, rfl⟩
    have h4 := h.least j h1 h2
    omega
/-- How far it is to i. -/
def dsn (f : Nat → Nat) (i : Nat) : Nat → Nat → Nat
  | 0, _ => 0
  | m + 1, x => if x = i then 0 else dsn f i m (f x) + 1
theorem dsn_spec {f : Nat → Nat} {i c : Nat} (h : IsPer f i c) : ∀ m j, 1 ≤ j → j ≤ c → c ≤ j + m → dsn f i m (itr f j i) = c - j
  | 0, j, h1, h2, h3 => by show 0 = _; omega
  | m + 1, j, h1, h2, h3 => by
    show (if itr f j i = i then 0 else dsn f i m (itr f (j + 1) i) + 1) = _
    by_cases e : itr f j i = i
    · rw [if_pos e]
      rcases Nat.lt_or_ge j c with h4 | h4
      · exact absurd e (h.least j h1 h4)
      · omega
    · rw [if_neg e]
      have h4 : j < c := by
        rcases Nat.lt_or_ge j c with h4 | h4
        · exact h4
        · exact absurd (by rw [show j = c by omega]; exact h.back) e
      rw [dsn_spec h m (j + 1) (by omega) h4 (by omega)]
      omega
/-- Turn's world: the action's box, the list so far. -/
structure TV (w wr : World) (xs : Array Value) (v : Value) (L : List Nat) : Prop where
  x : wr.heap[w.heap.size]? = some (.cells xs 24 (0, 0))
  own : wr.ownsRow (w.heap.size + 1) 3 1 v L.length (zs (iz L))
  bel : Below w.heap.size w wr
  le : w.heap.size + 1 ≤ wr.heap.size
theorem TV.drew {w wr : World} {xs : Array Value} {v : Value} {L : List Nat} (h : TV w wr xs v L) : TV w wr.drew xs v L := ⟨h.x, own_low h.own fun _ _ => rfl, h.bel.drew, h.le⟩
theorem TV.alloc {w wr : World} {xs : Array Value} {v : Value} {L : List Nat} (h : TV w wr xs v L) (o : Obj) : TV w (wr.alloc o) xs v L := ⟨block_alloc h.x _, h.own.alloc _, h.bel.alloc h.bel.size _, by have := h.le; simp; omega⟩
theorem TV.push {w wr w' : World} {xs : Array Value} {v : Value} {L : List Nat} {x g c : Nat} (h : TV w wr xs v L) (hown : w'.ownsRow (w.heap.size + 1) 3 1 (.slice (some ⟨g, 0, none⟩) (L.length + 1) c) (L.length + 1) (zs (iz L) ++ [.int .i64 (x : Nat)])) (hg : wr.grownBy w' v.ownBlock) : TV w w' xs (.slice (some ⟨g, 0, none⟩) (L.length + 1) c) (L ++ [x]) :=
  ⟨(hg.block _ (lt_of_block h.x) (row_ne2 h.x h.own (by decide))).trans h.x, by rw [List.length_append, iz_append, zs_append]; exact hown, h.bel.grown hg h.bel.size fun j hj => by have := (h.own.lt j hj).1; omega, Nat.le_trans h.le hg.size⟩
set_option maxHeartbeats 6400000 in
set_option maxRecDepth 1000000 in
theorem rturn_any {s t : Nat → Nat} {m bS oS bT oT cS cT : Nat} (w : World) (hs : RdN w w.heap.size bS oS m s) (ht : RdN w w.heap.size bT oT m t) (hsl : ∀ i, i < m → s i < m) (hm : m ≤ 1152) :
    Calls Try.prog 32 #[.agg #[.slice (some ⟨bS, oS, none⟩) m cS, .slice (some ⟨bT, oT, none⟩) m cT]] w fun e w' => ∃ A c, e = .returned (.slice A m c) ∧ w'.ownsRow (w.heap.size + 1) 3 1 (.slice A m c) m (zs (iz ((List.range m).map fun i => t (s i)))) ∧ Below w.heap.size w w' := by
  obtain ⟨i0, hi0, z0, z1, z2⟩ := info_parts Try.infoInt
  have HS := Lib.hid hs
  have HT := Lib.hid ht
  have HSl := Lib.hid hsl
  have HV0 : Hid (TV w (w.alloc (.cells #[.slice (some ⟨bS, oS, none⟩) m cS, .slice (some ⟨bT, oT, none⟩) m cT] 24)) #[.slice (some ⟨bS, oS, none⟩) m cS, .slice (some ⟨bT, oT, none⟩) m cT] (.slice none 0 0) []) := ⟨heap_alloc_new w _, World.ownsRow_nil _ _ _ _, below1 w _, by simp⟩
  clear hs ht hsl
  go_enter Try.func32, Try.ntmps32
  go_wp2
  obtain ⟨W0, hW0⟩ : ∃ W0, W0 = w.alloc (.cells #[.slice (some ⟨bS, oS, none⟩) m cS, .slice (some ⟨bT, oT, none⟩) m cT] 24) := ⟨_, rfl⟩
  rw [← hW0] at HV0 ⊢
  clear hW0
  go_loopw [3, 4] (fun V I wr => ∃ (k : Nat), I = .int .i64 k ∧ k ≤ m ∧ Hid (TV w wr #[.slice (some ⟨bS, oS, none⟩) m cS, .slice (some ⟨bT, oT, none⟩) m cT] V ((List.range k).map fun i => t (s i)))) (fun _ I _ => m - (intOf I).toNat)
  case atStart => exact ⟨0, rfl, Nat.zero_le _, HV0.out⟩
  case round =>
    clear HV0
    rename_i V0 _
    obtain ⟨k, rfl, hk, HV⟩ := hrel
    have u0 := (two_of_block HV.out.x).1.1
    by_cases hlt : k < m
    · have hki : (k : Int) < (m : Int) := by omega
      have h1 := HSl.out k hlt
      have HR : Hid ((List.range (k + 1)).map (fun i => t (s i)) = (List.range k).map (fun i => t (s i)) ++ [t (s k)]) := by show _ = _; rw [List.range_succ, List.map_append]; rfl
      have hPl : ((List.range k).map fun i => t (s i)).length = k := by rw [List.length_map, List.length_range]
      generalize hPe : (List.range k).map (fun i => t (s i)) = P at *
      clear hPe
      have HHd : Hid (∀ {W : World} {v : Value} {L : List Nat}, TV w W #[.slice (some ⟨bS, oS, none⟩) m cS, .slice (some ⟨bT, oT, none⟩) m cT] v L → (W.cell? ⟨w.heap.size, 0, none⟩ = some (.slice (some ⟨bS, oS, none⟩) m cS) ∧ W.cell? ⟨w.heap.size, 1, none⟩ = some (.slice (some ⟨bT, oT, none⟩) m cT)) ∧ W.cell? ⟨bS, oS + k, none⟩ = some (.int .i64 (s k : Nat)) ∧ W.cell? ⟨bT, oT + s k, none⟩ = some (.int .i64 (t (s k) : Nat))) := fun h =>
        ⟨(two_of_block h.x).1, (h.bel.cell (p := ⟨bS, oS + k, none⟩) HS.out.1).trans (HS.out.2 k hlt), (h.bel.cell (p := ⟨bT, oT + s k, none⟩) HT.out.1).trans (HT.out.2 _ h1)⟩
      generalize t (s k) = y at *
      generalize s k = x at *
      have hxi : (x : Int) < (m : Int) := by omega
      have hP1 : P.length ≤ 1152 := by omega
      clear hPl
      have HVd := Lib.hid HV.out.drew
      obtain ⟨A0, c0, rfl⟩ := own_len HV.out.own
      go_upto_region 5 with fail
      obtain ⟨wd, hwd⟩ : ∃ wd, wd = wr.drew := ⟨_, rfl⟩
      rw [← hwd] at HVd
      refine region_E 11 (fun w' => (w'.cell? ⟨w.heap.size, 0, none⟩ = some (.slice (some ⟨bS, oS, none⟩) m cS) ∧ w'.cell? ⟨w.heap.size, 1, none⟩ = some (.slice (some ⟨bT, oT, none⟩) m cT)) ∧ w'.cell? ⟨bS, oS + k, none⟩ = some (.int .i64 (x : Nat)) ∧ w'.cell? ⟨bT, oT + x, none⟩ = some (.int .i64 (y : Nat))) (by kernel_rfl) ?_
      rw [← hwd]
      clear hwd
      have hHeld := HHd.out HVd.out
      refine take_E (n := 11) (i := 0) (v := ?vtt_0) rfl (by kernel_rfl) (fun _ _ _ h => h) ?hytt_0 (by rfl) hHeld ?resttt_0
      case hytt_0 => (intro w9 hSw; (try dsimp only at hSw); go_simp <;> with_reducible rfl)
      (try simp only [List.getElem_toArray, List.getElem_cons_zero, List.getElem_cons_succ, Act.put, List.setIfInBounds_toArray, List.set_cons_zero, List.set_cons_succ])
      refine take_E (n := 11) (i := 1) (v := ?vtt_1) rfl (by kernel_rfl) (fun _ _ _ h => h) ?hytt_1 (by rfl) hHeld ?resttt_1
      case hytt_1 => (intro w9 hSw; (try dsimp only at hSw); go_simp <;> with_reducible rfl)
      (try simp only [List.getElem_toArray, List.getElem_cons_zero, List.getElem_cons_succ, Act.put, List.setIfInBounds_toArray, List.set_cons_zero, List.set_cons_succ])
      refine take_E (n := 11) (i := 2) (v := ?vtt_2) rfl (by kernel_rfl) (fun _ _ _ h => h) ?hytt_2 (by rfl) hHeld ?resttt_2
      case hytt_2 => (intro w9 hSw; (try dsimp only at hSw); go_simp <;> with_reducible rfl)
      (try simp only [List.getElem_toArray, List.getElem_cons_zero, List.getElem_cons_succ, Act.put, List.setIfInBounds_toArray, List.set_cons_zero, List.set_cons_succ])
      refine take_E (n := 11) (i := 3) (v := ?vtt_3) rfl (by kernel_rfl) (fun _ _ _ h => h) ?hytt_3 (by rfl) hHeld ?resttt_3
      case hytt_3 => (intro w9 hSw; (try dsimp only at hSw); go_simp <;> with_reducible rfl)
      (try simp only [List.getElem_toArray, List.getElem_cons_zero, List.getElem_cons_succ, Act.put, List.setIfInBounds_toArray, List.set_cons_zero, List.set_cons_succ])
      refine take_E (n := 11) (i := 4) (v := ?vtt_4) rfl (by kernel_rfl) (fun _ _ _ h => h) ?hytt_4 (by rfl) hHeld ?resttt_4
      case hytt_4 => (intro w9 hSw; (try dsimp only at hSw); go_simp <;> with_reducible rfl)
      (try simp only [List.getElem_toArray, List.getElem_cons_zero, List.getElem_cons_succ, Act.put, List.setIfInBounds_toArray, List.set_cons_zero, List.set_cons_succ])
      refine take_E (n := 11) (i := 5) (v := ?vtt_5) rfl (by kernel_rfl) (fun _ _ _ h => h) ?hytt_5 (by rfl) hHeld ?resttt_5
      case hytt_5 => (intro w9 hSw; (try dsimp only at hSw); go_simp <;> with_reducible rfl)
      (try simp only [List.getElem_toArray, List.getElem_cons_zero, List.getElem_cons_succ, Act.put, List.setIfInBounds_toArray, List.set_cons_zero, List.set_cons_succ])
      refine take_E (n := 11) (i := 6) (v := ?vtt_6) rfl (by kernel_rfl) (fun _ _ _ h => h) ?hytt_6 (by rfl) hHeld ?resttt_6
      case hytt_6 => (intro w9 hSw; (try dsimp only at hSw); go_simp <;> with_reducible rfl)
      (try simp only [List.getElem_toArray, List.getElem_cons_zero, List.getElem_cons_succ, Act.put, List.setIfInBounds_toArray, List.set_cons_zero, List.set_cons_succ])
      refine take_E (n := 11) (i := 7) (v := ?vtt_7) rfl (by kernel_rfl) (fun _ _ _ h => h) ?hytt_7 (by rfl) hHeld ?resttt_7
      case hytt_7 => (intro w9 hSw; (try dsimp only at hSw); go_simp <;> with_reducible rfl)
      (try simp only [List.getElem_toArray, List.getElem_cons_zero, List.getElem_cons_succ, Act.put, List.setIfInBounds_toArray, List.set_cons_zero, List.set_cons_succ])
      refine take_E (n := 11) (i := 8) (v := ?vtt_8) rfl (by kernel_rfl) (fun _ _ _ h => h) ?hytt_8 (by rfl) hHeld ?resttt_8
      case hytt_8 => (intro w9 hSw; (try dsimp only at hSw); go_simp <;> with_reducible rfl)
      (try simp only [List.getElem_toArray, List.getElem_cons_zero, List.getElem_cons_succ, Act.put, List.setIfInBounds_toArray, List.set_cons_zero, List.set_cons_succ])
      refine take_E (n := 11) (i := 9) (v := ?vtt_9) rfl (by kernel_rfl) (fun _ _ _ h => h) ?hytt_9 (by rfl) hHeld ?resttt_9
      case hytt_9 => (intro w9 hSw; (try dsimp only at hSw); go_simp <;> with_reducible rfl)
      (try simp only [List.getElem_toArray, List.getElem_cons_zero, List.getElem_cons_succ, Act.put, List.setIfInBounds_toArray, List.set_cons_zero, List.set_cons_succ])
      refine one_E (n := 11) (i := 10) (by kernel_rfl) rfl (fun K hK => ?_)
      go_simp
      refine hK.out _ _ (fun _ => HHd.out (HVd.out.alloc _)) (fun hHeld10 => ?_)
      clear hK K
      (try simp only [List.getElem_toArray, List.getElem_cons_zero, List.getElem_cons_succ, Act.put, List.setIfInBounds_toArray, List.set_cons_zero, List.set_cons_succ])
      refine one_E (n := 11) (i := 11) (by kernel_rfl) rfl (fun K hK => ?_)
      refine step_append_lies _ (by rfl) _ _ _ (by rfl) (w.heap.size + 1) 3 i0 _ 1 8 Try.underlying22 hi0 z0 z1 z2 rfl (by omega) (.slice A0 P.length c0) P.length (zs (iz P)) (by rfl) (HVd.out.alloc _).own ⟨wd.heap.size, 0, none⟩ 1 1 [.int .i64 (y : Nat)] (by rfl) (by rfl) (World.news_of_block (cs := #[.int .i64 (y : Nat)]) (t := 3) (fr := (0, 0)) (heap_alloc_new wd _)) (by simp [Value.oneCell']) (by omega) (by unfold maxLen; omega) (by omega) (by have := HVd.out.le; simp; omega) (wd.heap.size + 1) (by simp) ?_
      intro gg cap' p2 hown2 hgrow hat hlt3
      have HVb := Lib.hid ((HVd.out.alloc _).push hown2 hgrow)
      clear hown2 hgrow hat
      refine hK.out _ _ (fun h => absurd h (by decide)) (fun hHeld11 => ?_)
      clear hK K
      (try simp only [List.getElem_toArray, List.getElem_cons_zero, List.getElem_cons_succ, Act.put, List.setIfInBounds_toArray, List.set_cons_zero, List.set_cons_succ])
      refine one_E (n := 11) (i := 12) (by kernel_rfl) rfl (fun K hK => ?_)
      go_simp
      refine hK.out _ _ (fun h => absurd h (by decide)) (fun hHeld12 => ?_)
      clear hK K
      (try simp only [List.getElem_toArray, List.getElem_cons_zero, List.getElem_cons_succ, Act.put, List.setIfInBounds_toArray, List.set_cons_zero, List.set_cons_succ])
      refine done_E (by kernel_rfl) ?_ _
      go_wp2
      go_roundw
      case rel => exact ⟨k + 1, by go_num, hlt, by rw [HR.out]; exact HVb.out⟩
      case measure => simp [intOf]; omega
    · obtain rfl : m = k := by omega
      have hk2 : ¬ (m : Int) < (m : Int) := by omega
      have hown := HV.out.own
      rw [List.length_map, List.length_range] at hown
      obtain ⟨A0, c0, rfl⟩ := own_len hown
      have HO := Lib.hid hown
      have HB := Lib.hid HV.out.bel
      clear hown HV
      go_wp2
      go_ret
      exact ⟨A0, c0, rfl, HO.out, HB.out⟩
end Go.Proofs.Ytmikhkolbkdnpaa
