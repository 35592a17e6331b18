/- The contract of Value. -/
import Derived.Test.YtnccamhajndkjaaLawK
import Derived.Test.YtnccamhajndkjaaWordM
import Derived.Deep.CutRange
namespace Go.Proofs.Ytnccamhajndkjaa
open Go.RowKit

/-- Whether a word may have these exponents. -/
def expB (l : List Int) : Bool := decide (l.length ≤ 200) && l.all inE
set_option maxHeartbeats 1600000 in
set_option maxRecDepth 1000000 in
theorem areExponents_any {B c : Nat} {A : Option Addr} {l : List Int} (w : World) (h : RdZ w B A c l) :
    Calls Try.prog 51 #[.slice A l.length c] w fun e w' => e = .returned (.bool (expB l)) ∧ w = w' := by
  have hl := h.len
  have HR := Lib.hid h
  clear h
  rcases Nat.lt_or_ge 200 l.length with h2 | h2
  · have he : expB l = false := by unfold expB; rw [decide_eq_false (by omega)]; rfl
    have hd : decide (200 < (l.length : Int)) = true := decide_eq_true (by omega)
    rw [he]
    go_enter Try.func51, Try.ntmps51
    go_wp2
    go_ret
    exact ⟨rfl, rfl⟩
  · have HE : Hid (expB l = l.all inE) := by show _ = _; unfold expB; rw [decide_eq_true h2]; rfl
    have hd : decide (200 < (l.length : Int)) = false := decide_eq_false (by omega)
    have HI := Lib.hid (fun n W => isEntry_any n W)
    go_enter Try.func51, Try.ntmps51
    go_wp2
    go_loop [4, 10] (fun _ I => ∃ k : Nat, k ≤ l.length ∧ I = .int .i64 k ∧ Hid ((l.take k).all inE = true)) (fun _ I => l.length - (intOf I).toNat)
    case atStart => exact ⟨0, Nat.zero_le _, rfl, rfl⟩
    case round =>
      obtain ⟨k, hk, rfl, HA⟩ := hrel
      by_cases hlt : k < l.length
      · obtain ⟨b1, o1, rfl, _, x1⟩ := HR.out.at_ hlt
        have hlt2 : (k : Int) < (l.length : Int) := by omega
        have HT : Hid ((l.take (k + 1)).all inE = inE l[k]) := by
          show _ = _
          rw [List.take_succ_eq_append_getElem hlt, List.all_append, HA.out]; simp
        have HF : Hid (inE l[k] = false → l.all inE = false) := fun h => by
          rw [List.all_eq_false]; exact ⟨l[k], List.getElem_mem hlt, by rw [h]; simp⟩
        generalize l[k] = x at *
        have HX := Lib.hid (fun W => isEntry_any x W)
        cases hx : inE x with
        | false =>
          have HF2 := Lib.hid (HF.out hx)
          rw [hx] at HX
          clear hx HF HT HI
          go_wp2_with (first | (go_at_call 42; ((with_reducible refine (HX.out _).mono ?_); rintro e w' ⟨rfl, rfl⟩)) | fail)
          go_ret
          exact ⟨by rw [HE.out, HF2.out]; rfl, rfl⟩
        | true =>
          rw [hx] at HX HT
          clear hx HF HI
          go_wp2_with (first | (go_at_call 42; ((with_reducible refine (HX.out _).mono ?_); rintro e w' ⟨rfl, rfl⟩)) | fail)
          go_round
          case rel => exact ⟨k + 1, hlt, by go_num, HT.out⟩
          case measure => simp [intOf]; omega
      · have hkl : k = l.length := by omega
        subst hkl
        have HA2 := Lib.hid HA.out
        rw [List.take_length] at HA2
        go_wp2
        go_ret
        exact ⟨by rw [HE.out, HA2.out]; rfl, rfl⟩
/-- Block g holds a word's sign and slice. -/
def WBox (w : World) (g : Nat) (n : Bool) (A : Option Addr) (l c : Nat) : Prop := w.heap[g]? = some (.cells #[.bool n, .slice A l c] 59 (0, 0))
theorem WBox.below {w w' : World} {g l c : Nat} {n : Bool} {A : Option Addr} (h : WBox w g n A l c) (hb : Below w.heap.size w w') : WBox w' g n A l c := block_below h hb
theorem WBox.alloc {w : World} {g l c : Nat} {n : Bool} {A : Option Addr} (h : WBox w g n A l c) (o : Obj) : WBox (w.alloc o) g n A l c := block_alloc h o
theorem WBox.cells {w : World} {g l c : Nat} {n : Bool} {A : Option Addr} (h : WBox w g n A l c) : w.cell? ⟨g, 0, none⟩ = some (.bool n) ∧ w.cell? ⟨g, 1, none⟩ = some (.slice A l c) := (two_of_block h).1
theorem WBox.lt {w : World} {g l c : Nat} {n : Bool} {A : Option Addr} (h : WBox w g n A l c) : g < w.heap.size := lt_of_block h
theorem WBox.at (w : World) {g : Nat} (hg : g = w.heap.size) (n : Bool) (A : Option Addr) (l c : Nat) : WBox (w.alloc (.cells #[.bool n, .slice A l c] 59)) g n A l c := by subst hg; exact heap_alloc_new w _
theorem WBox.other {w : World} {g l c : Nat} {n : Bool} {A : Option Addr} (h : WBox w g n A l c) {k : Nat} (hk : g ≠ k) (v0 v1 v2 v3 : Value) : WBox ((((w.setCell ⟨k, 0, none⟩ v0).setCell ⟨k, 1, none⟩ v1).setCell ⟨k, 2, none⟩ v2).setCell ⟨k, 3, none⟩ v3) g n A l c := set4_ne h hk _ _ _ _
theorem RdZ.alloc {w : World} {B c : Nat} {A : Option Addr} {l : List Int} (h : RdZ w B A c l) (hB : B ≤ w.heap.size) (o : Obj) : RdZ (w.alloc o) B A c l := h.below ((below1 w o).mono hB)
theorem vgo_snoc : ∀ (l : List Int) (m y : M) (n : Int), vgo m l = some y → vgo m (l ++ [n]) = if (y.stn n).ok then some (y.stn n) else none
  | [], m, y, n, h => by
    cases h
    show (if (m.stn n).ok then vgo (m.stn n) [] else none) = _
    rfl
  | x :: l, m, y, n, h => by
    unfold vgo at h
    split at h
    · rename_i hx
      show (if (m.stn x).ok then vgo (m.stn x) (l ++ [n]) else none) = _
      rw [if_pos hx]; exact vgo_snoc l _ y n h
    · cases h
theorem vgo_stop : ∀ (l r : List Int) (m : M), vgo m l = none → vgo m (l ++ r) = none
  | [], _, m, h => by cases h
  | x :: l, r, m, h => by
    unfold vgo at h
    show (if (m.stn x).ok then vgo (m.stn x) (l ++ r) else none) = _
    split at h
    · rename_i hx; rw [if_pos hx]; exact vgo_stop l r _ h
    · rename_i hx; rw [if_neg hx]
theorem vgo_take {m y : M} {r : List Int} {k : Nat} (hk : k < r.length) (h : vgo m (r.take k) = some y) : vgo m (r.take (k + 1)) = if (y.stn r[k]).ok then some (y.stn r[k]) else none := by
  rw [List.take_succ_eq_append_getElem hk]; exact vgo_snoc _ _ _ _ h
theorem vgo_none {m y : M} {r : List Int} {k : Nat} (hk : k < r.length) (h : vgo m (r.take k) = some y) (ho : (y.stn r[k]).ok = false) : vgo m r = none := by
  have e := vgo_take hk h
  rw [ho, if_neg (by simp)] at e
  have e2 := vgo_stop (r.take (k + 1)) (r.drop (k + 1)) m e
  rwa [List.take_append_drop] at e2
theorem T_ok {e : Int} (h : inE e = true) : (M.T e).ok = true := by
  have := inE_iff.1 h
  exact M.ok_iff.2 ⟨by simp [M.T], by simpa [M.T] using this, by simp [M.T], by simp [M.T]⟩
/-- The world on the way: the word's box B, the result's box B + 1, the matrix' box g. -/
structure VS (B g : Nat) (w0 wr : World) (n : Bool) (A : Option Addr) (l c : Nat) (y : M) : Prop where
  word : WBox wr B n A l c
  res : Four wr (B + 1) 0 0 0 0
  mat : Four wr g y.a y.b y.c y.d
  bel : Below B w0 wr
  hg : B + 2 ≤ g
theorem VS.below {B g : Nat} {w0 wr w' : World} {n : Bool} {A : Option Addr} {l c : Nat} {y : M} (h : VS B g w0 wr n A l c y) (hb : Below wr.heap.size wr w') : VS B g w0 w' n A l c y :=
  ⟨h.word.below hb, h.res.below hb, h.mat.below hb, h.bel.trans (hb.mono (by have := h.word.lt; omega)), h.hg⟩
theorem VS.drew {B g : Nat} {w0 wr : World} {n : Bool} {A : Option Addr} {l c : Nat} {y : M} (h : VS B g w0 wr n A l c y) : VS B g w0 wr.drew n A l c y := ⟨h.word, h.res, h.mat, h.bel.drew, h.hg⟩
theorem VS.set {B g : Nat} {w0 wr : World} {n : Bool} {A : Option Addr} {l c' : Nat} {y : M} (h : VS B g w0 wr n A l c' y) (a b c d : Int) :
    VS B g w0 ((((wr.setCell ⟨g, 0, none⟩ (.int .i64 a)).setCell ⟨g, 1, none⟩ (.int .i64 b)).setCell ⟨g, 2, none⟩ (.int .i64 c)).setCell ⟨g, 3, none⟩ (.int .i64 d)) n A l c' ⟨a, b, c, d⟩ := by
  have := h.hg
  exact ⟨h.word.other (by omega) _ _ _ _, h.res.other (by omega) _ _ _ _, h.mat.set _ _ _ _, below_set4 h.bel (by omega) _ _ _ _, h.hg⟩

set_option maxHeartbeats 1600000 in
theorem value_nil (n : Bool) {A : Option Addr} {c : Nat} (w : World) :
    Calls Try.prog 32 #[.agg #[.bool n, .slice A 0 c]] w fun e w' => e = .returned (.tuple #[.agg #[.int .i64 0, .int .i64 0, .int .i64 0, .int .i64 0], .int .i64 3]) ∧ Below w.heap.size w w' := by
  go_enter Try.func32, Try.ntmps32
  go_wp2
  refine bodyPost_ret (v := .tuple #[.agg #[.int .i64 0, .int .i64 0, .int .i64 0, .int .i64 0], .int .i64 3]) ?_ rfl ⟨rfl, ?_⟩
  · simp [results, Try.results32, go_sem]
  · exact below2 _ _ _
set_option maxHeartbeats 1600000 in
theorem value_out (n : Bool) {A : Option Addr} {B c : Nat} {e0 : Int} {l : List Int} (w : World) (h : RdZ w B A c (e0 :: l)) (hB : B ≤ w.heap.size) (he : expB (e0 :: l) = false) :
    Calls Try.prog 32 #[.agg #[.bool n, .slice A (e0 :: l).length c]] w fun e w' => e = .returned (.tuple #[.agg #[.int .i64 0, .int .i64 0, .int .i64 0, .int .i64 0], .int .i64 2]) ∧ Below w.heap.size w w' := by
  have HA : Hid (∀ W, RdZ W B A c (e0 :: l) → Calls Try.prog 51 #[.slice A (e0 :: l).length c] W fun e w' => e = .returned (.bool false) ∧ W = w') := fun W hW => by
    have := areExponents_any W hW
    rwa [he] at this
  have HR := Lib.hid h
  have hl : ((e0 :: l).length : Int) ≤ 9223372036854775807 := h.len
  have hl0 : (((e0 :: l).length : Int) == 0) = false := by rw [beq_eq_false_iff_ne, List.length_cons]; omega
  clear h he
  generalize (e0 :: l).length = len at *
  go_enter Try.func32, Try.ntmps32
  go_wp2_with (first | (go_at_call 51; ((with_reducible refine (HA.out _ ((HR.out.alloc hB _).alloc (by simp; omega) _)).mono ?_); rintro e w' ⟨rfl, rfl⟩)) | fail)
  refine bodyPost_ret (v := .tuple #[.agg #[.int .i64 0, .int .i64 0, .int .i64 0, .int .i64 0], .int .i64 2]) ?_ rfl ⟨rfl, ?_⟩
  · simp [results, Try.results32, go_sem]
  · exact below2 _ _ _
set_option maxHeartbeats 3200000 in
set_option maxRecDepth 1000000 in
theorem value_go (n : Bool) {A : Option Addr} {B c : Nat} {e0 : Int} {l : List Int} (p q r s k : Int) (w : World) (h : RdZ w B A c (e0 :: l)) (hB : B ≤ w.heap.size) (he : expB (e0 :: l) = true) (hv : valE n (e0 :: l) = (⟨p, q, r, s⟩, k)) :
    Calls Try.prog 32 #[.agg #[.bool n, .slice A (e0 :: l).length c]] w fun e w' => e = .returned (.tuple #[.agg #[.int .i64 p, .int .i64 q, .int .i64 r, .int .i64 s], .int .i64 k]) ∧ Below w.heap.size w w' := by
  have HA : Hid (∀ W, RdZ W B A c (e0 :: l) → Calls Try.prog 51 #[.slice A (e0 :: l).length c] W fun e w' => e = .returned (.bool true) ∧ W = w') := fun W hW => by
    have := areExponents_any W hW
    rwa [he] at this
  have hh : (e0 :: l).length ≤ 200 ∧ (e0 :: l).all inE = true := by unfold expB at he; simpa using he
  obtain ⟨hlen, hall⟩ := hh
  have HV : Hid (∀ y, vgo (M.T e0) l = some y → (if n then y.neg else y, (0 : Int)) = (⟨p, q, r, s⟩, k)) := fun y hy => by rw [← hv, valE_some hlen hall hy]
  have HW : Hid (vgo (M.T e0) l = none → (M.zero, (7 : Int)) = (⟨p, q, r, s⟩, k)) := fun hy => by rw [← hv, valE_none hlen hall hy]
  have he0 : inE e0 = true := List.all_eq_true.1 hall e0 List.mem_cons_self
  have HIN : Hid (∀ j (hj : j < l.length), inE l[j] = true) := fun j hj => List.all_eq_true.1 hall _ (List.mem_cons_of_mem _ (List.getElem_mem hj))
  have HTO : Hid ((M.T e0).ok = true) := T_ok he0
  have HR := Lib.hid h
  obtain ⟨b1, o1, rfl, hb1, hx0⟩ := h.at_ (k := 0) (by simp)
  have hc1 := h.1
  have hl2 : (l.length : Int) + 1 ≤ 200 := by rw [List.length_cons] at hlen; omega
  have hlc : l.length + 1 ≤ c := by rw [List.length_cons] at hc1; exact hc1
  have hx0' : w.cell? ⟨b1, o1, none⟩ = some (.int .i64 e0) := hx0
  have hbl : b1 < w.heap.size := by omega
  rw [List.length_cons] at *
  clear h he hv hlen hall he0 hx0 hc1
  have hn1 : (((l.length + 1 : Nat) : Int) == 0) = false := by rw [beq_eq_false_iff_ne]; omega
  have HS0 : Hid (VS w.heap.size (w.heap.size + 1 + 1) w (((w.alloc (.cells #[.bool n, .slice (some ⟨b1, o1, none⟩) (l.length + 1) c] 59)).alloc (.cells #[.int .i64 0, .int .i64 0, .int .i64 0, .int .i64 0] 23)).alloc (.cells #[.int .i64 1, .int .i64 e0, .int .i64 0, .int .i64 1] 23)) n (some ⟨b1, o1, none⟩) (l.length + 1) c (M.T e0)) :=
    ⟨((WBox.at w rfl n _ _ _).alloc _).alloc _, (Four.at (w.alloc _) (g := w.heap.size + 1) (by simp) 0 0 0 0).alloc _, Four.at _ (by simp) 1 e0 0 1, below3 _ _ _ _, by omega⟩
  by_cases hc : c = 1
  · obtain rfl : l = [] := List.eq_nil_of_length_eq_zero (by omega)
    subst hc
    have HE := Lib.hid (HV.out (M.T e0) rfl)
    have he1 := inE_iff.1 (show inE e0 = true from by have := (M.ok_iff.1 HTO.out).2.1; exact inE_iff.2 this)
    obtain ⟨he2, he3⟩ := he1
    simp only [List.length_nil, Nat.zero_add] at *
    unfold M.T at HE
    clear HV HW HIN HTO HS0
    cases n with
    | false =>
      rw [if_neg (by simp)] at HE
      have he := HE.out
      cases he
      go_enter Try.func32, Try.ntmps32
      go_wp2_with (first | (go_at_call 51; ((with_reducible refine (HA.out _ ((HR.out.alloc hB _).alloc (by simp; omega) _)).mono ?_); rintro e w' ⟨rfl, rfl⟩)) | fail)
      refine wp_loop_rounds 1 ?_
      rw [rounds_succ]
      go_wp2
      refine bodyPost_ret (v := .tuple #[.agg #[.int .i64 1, .int .i64 e0, .int .i64 0, .int .i64 1], .int .i64 0]) ?_ rfl ⟨rfl, ?_⟩
      · simp [results, Try.results32, go_sem, *]
      · exact below3 _ _ _ _
    | true =>
      rw [if_pos rfl] at HE
      unfold M.neg at HE
      have he := HE.out
      dsimp only at he
      cases he
      go_enter Try.func32, Try.ntmps32
      go_wp2_with (first | (go_at_call 51; ((with_reducible refine (HA.out _ ((HR.out.alloc hB _).alloc (by simp; omega) _)).mono ?_); rintro e w' ⟨rfl, rfl⟩)) | fail)
      refine wp_loop_rounds 1 ?_
      rw [rounds_succ]
      go_wp2
      refine bodyPost_ret (v := .tuple #[.agg #[.int .i64 (-1), .int .i64 (-e0), .int .i64 0, .int .i64 (-1)], .int .i64 0]) ?_ rfl ⟨rfl, ?_⟩
      · simp [results, Try.results32, go_sem, *]
      · exact below3 _ _ _ _
  · go_enter Try.func32, Try.ntmps32
    go_wp2_with (first | (go_at_call 51; ((with_reducible refine (HA.out _ ((HR.out.alloc hB _).alloc (by simp; omega) _)).mono ?_); rintro e w' ⟨rfl, rfl⟩)) | fail)
    go_loopw [6, 26] (fun _ I wr => ∃ (j : Nat) (y : M), I = .int .i64 j ∧ j ≤ l.length ∧ Hid (vgo (M.T e0) (l.take j) = some y) ∧ Hid (y.ok = true) ∧ Hid (VS w.heap.size (w.heap.size + 1 + 1) w wr n (some ⟨b1, o1, none⟩) (l.length + 1) c y)) (fun _ I _ => l.length - (intOf I).toNat)
    case atStart => exact ⟨0, M.T e0, rfl, Nat.zero_le _, rfl, HTO.out, HS0.out⟩
    case round =>
      clear HS0 HTO HA
      obtain ⟨j, ⟨y1, y2, y3, y4⟩, rfl, hj, HY, HO, HS⟩ := hrel
      have hg2 := HS.out.hg
      obtain ⟨t0, t1⟩ := HS.out.word.cells
      obtain ⟨v0, v1, v2, v3⟩ := HS.out.mat.cells
      obtain ⟨z0, z1, z2, z3⟩ := HS.out.res.cells
      have tl := HS.out.word.lt
      have vl := HS.out.mat.lt
      have zl := HS.out.res.lt
      have vf := HS.out.mat.free
      have zf := HS.out.res.free
      dsimp only at v0 v1 v2 v3
      obtain ⟨⟨a1, a2⟩, ⟨b1', b2'⟩, ⟨c1, c2⟩, d1, d2⟩ := M.ok_iff.1 HO.out
      dsimp only at a1 a2 b1' b2' c1 c2 d1 d2
      by_cases hlt : j < l.length
      · have hlt2 : (j : Int) < (l.length : Int) := by omega
        obtain ⟨b2, o2, hb2, hb3, hx⟩ := (HR.out.below (HS.out.bel.mono hB)).at_ (k := j + 1) (by rw [List.length_cons]; omega)
        simp only [Option.some.injEq, Addr.mk.injEq] at hb2
        obtain ⟨rfl, rfl, _⟩ := hb2
        rw [List.getElem_cons_succ, show o1 + (j + 1) = o1 + 1 + j by omega] at hx
        obtain ⟨e1, e2⟩ := inE_iff.1 (HIN.out j hlt)
        have HT := Lib.hid (vgo_take hlt HY.out)
        have HN := Lib.hid (fun h => vgo_none hlt HY.out h)
        generalize l[j] = x at *
        obtain ⟨p1, p2⟩ := prod_le b1' b2' e1 e2
        obtain ⟨p3, p4⟩ := prod_le d1 d2 e1 e2
        have HA2 := Lib.hid (fun W => areEntries_any y2 (y2 * x - y1) y4 (y4 * x - y3) W)
        unfold M.stn at HT HN
        dsimp only at HT HN
        cases ho : fitB y2 (y2 * x - y1) y4 (y4 * x - y3) with
        | false =>
          have HZ := Lib.hid (HW.out (HN.out ho))
          rw [ho] at HA2
          have hz := HZ.out
          unfold M.zero at hz
          cases hz
          clear ho HV HN HT HIN
          go_wp2_with (first
            | (go_at_call 36; ((with_reducible refine (HA2.out _).mono ?_); rintro e w4 ⟨rfl, hb⟩; have S2 := Lib.hid ((HS.out.set y2 (y2 * x - y1) y4 (y4 * x - y3)).below hb); obtain ⟨z0, z1, z2, z3⟩ := S2.out.res.cells; have zf := S2.out.res.free; clear hb))
            | fail)
          refine bodyPost_ret (v := .tuple #[.agg #[.int .i64 0, .int .i64 0, .int .i64 0, .int .i64 0], .int .i64 7]) ?_ rfl ⟨rfl, ?_⟩
          · simp [results, Try.results32, go_sem, *]
          · exact below_set4 S2.out.bel (by omega) _ _ _ _
        | true =>
          rw [if_pos (show (M.mk y2 (y2 * x - y1) y4 (y4 * x - y3)).ok = true from ho)] at HT
          have HO2 : Hid ((M.mk y2 (y2 * x - y1) y4 (y4 * x - y3)).ok = true) := ho
          rw [ho] at HA2
          clear ho HN
          go_wp2_with (first
            | (go_at_call 36; ((with_reducible refine (HA2.out _).mono ?_); rintro e w4 ⟨rfl, hb⟩; have S2 := Lib.hid ((HS.out.set y2 (y2 * x - y1) y4 (y4 * x - y3)).below hb); clear hb))
            | fail)
          go_roundw
          case rel => exact ⟨j + 1, ⟨y2, y2 * x - y1, y4, y4 * x - y3⟩, by go_num, hlt, HT.out, HO2.out, S2.out⟩
          case measure => simp [intOf]; omega
      · have hje : j = l.length := by omega
        subst hje
        have HE := Lib.hid (HV.out ⟨y1, y2, y3, y4⟩ (by have := HY.out; rwa [List.take_length] at this))
        clear HY HV HW HIN
        cases n with
        | false =>
          rw [if_neg (by simp)] at HE
          have he := HE.out
          cases he
          go_wp2
          refine bodyPost_ret (v := .tuple #[.agg #[.int .i64 p, .int .i64 q, .int .i64 r, .int .i64 s], .int .i64 0]) ?_ rfl ⟨rfl, ?_⟩
          · simp [results, Try.results32, go_sem, *]
          · exact below_set4 HS.out.bel (by omega) _ _ _ _
        | true =>
          rw [if_pos rfl] at HE
          unfold M.neg at HE
          have he := HE.out
          dsimp only at he
          cases he
          go_wp2
          refine bodyPost_ret (v := .tuple #[.agg #[.int .i64 (-y1), .int .i64 (-y2), .int .i64 (-y3), .int .i64 (-y4)], .int .i64 0]) ?_ rfl ⟨rfl, ?_⟩
          · simp [results, Try.results32, go_sem, *]
          · exact below_set4 (below_set4 HS.out.bel (by omega) _ _ _ _) (by omega) _ _ _ _
theorem valE_bad {n : Bool} {e : Int} {r : List Int} (h : expB (e :: r) = false) : valE n (e :: r) = (.zero, 2) := by
  rcases Nat.lt_or_ge 200 (e :: r).length with k | k
  · exact valE_long k
  · unfold expB at h
    rw [decide_eq_true k] at h
    exact valE_out k (by simpa using h)
theorem value_any (n : Bool) {A : Option Addr} {B c : Nat} {l : List Int} (p q r s k : Int) (w : World) (h : RdZ w B A c l) (hB : B ≤ w.heap.size) (hv : valE n l = (⟨p, q, r, s⟩, k)) :
    Calls Try.prog 32 #[.agg #[.bool n, .slice A l.length c]] w fun e w' => e = .returned (.tuple #[.agg #[.int .i64 p, .int .i64 q, .int .i64 r, .int .i64 s], .int .i64 k]) ∧ Below w.heap.size w w' := by
  cases l with
  | nil =>
    rw [valE_nil] at hv
    unfold M.zero at hv
    cases hv
    exact value_nil n w
  | cons e0 l =>
    cases he : expB (e0 :: l) with
    | false =>
      rw [valE_bad he] at hv
      unfold M.zero at hv
      cases hv
      exact value_out n w h hB he
    | true => exact value_go n p q r s k w h hB he hv
end Go.Proofs.Ytnccamhajndkjaa
