/- The contract of the reference's Farey. -/
import Derived.Test.YtbkombklfpjjpaaFarN
import Derived.Test.YtbkombklfpjjpaaFarL
import Derived.Test.YtbkombklfpjjpaaGcdL
import Derived.Test.YtbkombklfpjjpaaValueL
import Derived.Laws.AppendOwnNone
import Derived.Deep.CutBlock
import Derived.Deep.DeepCutAuto
import Derived.Deep.QuietTactic
import Derived.BigQuiet
namespace Go.Proofs.Ytbkombklfpjjpaa
open Go.RowKit

/-- A list on the way, and its memory. -/
structure FarSt (w W : World) (v : Value) (C : List (Int × Int)) : Prop where
  own : W.ownsRow w.heap.size 23 2 v C.length (cs C)
  bel : Below w.heap.size w W
theorem FarSt.drawn {w W : World} {v : Value} {C : List (Int × Int)} (h : FarSt w W v C) (n : Nat) : FarSt w (W.drewN n) v C := ⟨own_low h.own fun _ _ => rfl, below_drewN h.bel n⟩
/-- The list behind the fractions with smaller denominators than q, and those with q below p. -/
structure FB (C : List (Int × Int)) (q p : Nat) : Prop where
  bd : ∀ y ∈ C, (0 ≤ y.1 ∧ y.1 ≤ 60) ∧ 0 ≤ y.2 ∧ y.2 ≤ 60
  len : C.length ≤ 61 * (q - 1) + p
  eq : insQ q (q + 1 - p) p C.reverse = sR q
theorem FB.skip {C : List (Int × Int)} {q p : Nat} (h : FB C q p) (hp : p ≤ q) (hg : ¬ Int.gcd p q = 1) : FB C q (p + 1) := by
  refine ⟨h.bd, by have := h.len; omega, ?_⟩
  have e := h.eq
  rw [show q + 1 - p = (q + 1 - (p + 1)) + 1 by omega] at e
  unfold insQ at e
  rw [if_neg hg] at e
  exact e
theorem FB.put {C : List (Int × Int)} {q p : Nat} (h : FB C q p) (hp : p ≤ q) (hq : q ≤ 60) (hg : Int.gcd p q = 1) : FB (ins C p q) q (p + 1) := by
  refine ⟨fun y hy => ?_, by rw [ins_len]; have := h.len; omega, ?_⟩
  · rcases ins_mem hy with hy | rfl
    · exact h.bd y hy
    · exact ⟨⟨by omega, by show (p : Int) ≤ 60; omega⟩, by show 0 ≤ (q : Int); omega, by show (q : Int) ≤ 60; omega⟩
  · have e := h.eq
    rw [show q + 1 - p = (q + 1 - (p + 1)) + 1 by omega] at e
    unfold insQ at e
    rw [if_pos hg] at e
    have e2 : (ins C p q).reverse = insR p q C.reverse := by
      have := insR_rev C.reverse p q
      rw [List.reverse_reverse] at this
      rw [← this, List.reverse_reverse]
    rw [e2]; exact e
theorem FB.next {C : List (Int × Int)} {q : Nat} (h : FB C q (q + 1)) (hq : 1 ≤ q) (hq2 : q ≤ 60) : FB C (q + 1) 0 := by
  refine ⟨h.bd, by have := h.len; omega, ?_⟩
  have e := h.eq
  rw [Nat.sub_self] at e
  unfold insQ at e
  rw [e]; rfl
theorem FB.start : FB [] 1 0 := ⟨fun y hy => (by cases hy), by simp, rfl⟩
theorem take_cells {w : World} {B c b o m : Nat} {C : List (Int × Int)} (h : RdC w B (some ⟨b, o, none⟩) c C) : ∀ j u, (cs (C.take m))[j]? = some u → w.cell? ((⟨b, o, none⟩ : Addr).add j) = some u := by
  intro j u hj
  have e : cs C = cs (C.take m) ++ cs (C.drop m) := by rw [← cs_append, List.take_append_drop]
  have hl := (List.getElem?_eq_some_iff.1 hj).1
  have hj2 : (cs C)[j]? = some u := by rw [e, List.getElem?_append_left hl]; exact hj
  have e2 : (⟨b, o, none⟩ : Addr).add j = ⟨b, o + j, none⟩ := by unfold Addr.add; split <;> simp_all
  rw [e2]
  exact h.cells _ _ hj2
theorem ins_end {w V w3 : World} {v3 : Value} {n : Nat} {xs : List Value} {D : List (Int × Int)} (h0 : Below w.heap.size w V) (h1 : w3.ownsRow V.heap.size 23 2 v3 n xs) (h2 : Below V.heap.size V w3) (hn : n = D.length) (hx : xs = cs D) :
    ∃ A c, v3 = .slice A D.length c ∧ Hid (FarSt w w3 (.slice A D.length c) D) := by
  subst hn hx
  obtain ⟨A, c, rfl⟩ := own_len h1
  exact ⟨A, c, rfl, ⟨own_base h0.size h1, h0.trans (h2.mono h0.size)⟩⟩
set_option maxHeartbeats 12800000 in
set_option maxRecDepth 1000000 in
theorem rfarey_any (n : Int) (w : World) (n1 : 1 ≤ n) (n2 : n ≤ 60) :
    Calls Try.prog 36 #[.int .i64 n] w (CusTup w 0 (sR n.toNat).reverse) := by
  obtain ⟨i0, hi, z0, z1, z2⟩ := info_parts Try.infoCusp
  obtain ⟨Z, hZ⟩ : ∃ Z, Z = (sR n.toNat).reverse := ⟨_, rfl⟩
  rw [← hZ]
  have HZ := Lib.hid hZ
  clear hZ
  have d1 : decide (n < 1) = false := by simp; omega
  have d2 : decide (60 < n) = false := by simp; omega
  go_enter Try.func36, Try.ntmps36
  go_wp2
  go_loopw [5, 4, 6, 7, 8] (fun s5 s4 _ _ _ wr => ∃ (q : Nat) (A : Option Addr) (k : Nat) (C : List (Int × Int)), s5 = .int .i64 q ∧ 1 ≤ q ∧ (q : Int) ≤ n + 1 ∧ s4 = .slice A C.length k ∧ Hid (C.reverse = sR (q - 1) ∧ FB C q 0) ∧ Hid (FarSt w wr (.slice A C.length k) C)) (fun s5 _ _ _ _ _ => 61 - (intOf s5).toNat)
  case atStart => exact ⟨1, none, 0, [], rfl, by omega, by omega, rfl, ⟨rfl, FB.start⟩, World.ownsRow_nil _ _ _ _, Below.refl _ _⟩
  case round =>
    obtain ⟨q, A, k, C, rfl, hq1, hq2, rfl, HF, HS⟩ := hrel
    by_cases hq : (q : Int) ≤ n
    · have hq60 : q ≤ 60 := by omega
      go_wp2
      go_loopw [6, 4, 7, 8] (fun s6 s4 _ _ wr => ∃ (p : Nat) (A : Option Addr) (k : Nat) (C : List (Int × Int)), s6 = .int .i64 p ∧ p ≤ q + 1 ∧ s4 = .slice A C.length k ∧ Hid (FB C q p) ∧ Hid (FarSt w wr (.slice A C.length k) C)) (fun s6 _ _ _ _ => q + 1 - (intOf s6).toNat)
      case atStart => exact ⟨0, A, k, C, rfl, by omega, rfl, HF.out.2, HS.out⟩
      case round =>
        clear HF HS
        obtain ⟨p, A, k, C, rfl, hp1, rfl, HF, HS⟩ := hrel
        by_cases hp : p ≤ q
        · have hpi : (p : Int) ≤ (q : Int) := by omega
          have HG := Lib.hid (fun W => rGcd_any p q W (mid_of (by omega) (by omega)) (mid_of (by omega) (by omega)))
          by_cases hg : Int.gcd p q = 1
          · have HF2 := Lib.hid (HF.out.put hp hq60 hg)
            have HBD := Lib.hid HF.out.bd
            have hlen : C.length ≤ 3721 := by
              have h1 := HF.out.len
              have h2 := Nat.mul_le_mul_left 61 (show q - 1 ≤ 59 by omega)
              omega
            rw [hg] at HG
            have HPL := Lib.hid (posf_le C p q)
            have HPY := Lib.hid (fun (k : Nat) (y : Int × Int) (hy : C[k]? = some y) => @posf_yes C p q k y hy)
            have HPN := Lib.hid (fun (k : Nat) (y : Int × Int) (hy : C[k]? = some y) => @posf_no C p q k y hy)
            have HP0 : Hid (posf C p q 0 = 0) := rfl
            have HIN : Hid (ins C p q = C.take (posf C p q C.length) ++ ((p : Int), (q : Int)) :: C.drop (posf C p q C.length)) := rfl
            have hpl := posf_le C p q C.length
            have HIL := Lib.hid (ins_len C p q)
            clear hg HF
            generalize ins C p q = D at *
            go_upto_block 4 with (first
              | (go_at_call 50; ((with_reducible refine (HG.out _).mono ?_); rintro e W ⟨rfl, hw⟩; have HS2 : Hid (FarSt w W (.slice A C.length k) C) := (by obtain ⟨m, rfl⟩ := hw; exact HS.out.drawn m); clear hw))
              | fail)
            have RC := Lib.hid (own_rdc HS2.out.own)
            go_cut [7] (fun s7 wx => ∃ n : Nat, s7 = .int .i64 (posf C p q C.length) ∧ wx = W.drewN n)
            case first =>
              go_wp2_with fail
              go_loopw [7] (fun s7 wx => ∃ (t n : Nat), s7 = .int .i64 t ∧ Hid (posf C p q C.length = posf C p q t) ∧ t ≤ C.length ∧ wx = W.drewN n) (fun s7 _ => (intOf s7).toNat)
              case atStart => exact ⟨C.length, 0, rfl, rfl, Nat.le_refl _, rfl⟩
              case round =>
                obtain ⟨t, n, rfl, HT, ht, rfl⟩ := hrel
                rcases Nat.eq_zero_or_pos t with h0 | h0
                · subst h0
                  have e1 := Lib.hid (HT.out.trans HP0.out)
                  go_wp2
                  go_quiet (fail)
                  all_goals go_wp2_with fail
                  all_goals go_meet
                  all_goals exact ⟨n + nq, by first | (rw [e1.out]; done) | (rw [e1.out]; rfl), by first | rfl | exact World.drewN_drewN W n nq⟩
                · obtain ⟨t, rfl⟩ : ∃ s, t = s + 1 := ⟨t - 1, by omega⟩
                  obtain ⟨y, hy⟩ : ∃ y, C[t]? = some y := ⟨_, List.getElem?_eq_getElem (by omega)⟩
                  obtain ⟨b1, o1, rfl, _, x1, x3⟩ := RC.out.at_ (show t < C.length by omega)
                  obtain ⟨x1, x3⟩ := RC.out.get2 hy
                  have y1 := fun N => (show (W.drewN N).cell? ⟨b1, o1 + t * 2, none⟩ = _ from x1)
                  have y3 := fun N => (show (W.drewN N).cell? ⟨b1, o1 + t * 2 + 1, none⟩ = _ from x3)
                  obtain ⟨⟨v1, v2⟩, v3, v4⟩ := HBD.out y (List.mem_of_getElem? hy)
                  have HY := Lib.hid (HPY.out t y hy)
                  have HN := Lib.hid (HPN.out t y hy)
                  clear x1 x3 hy
                  generalize y.1 = a at *
                  generalize y.2 = b at *
                  have m1 : 0 ≤ a * (q : Int) := Int.mul_nonneg v1 (by omega)
                  have m2 : a * (q : Int) ≤ 60 * 60 := Int.mul_le_mul v2 (by omega) (by omega) (by omega)
                  have m3 : 0 ≤ (p : Int) * b := Int.mul_nonneg (by omega) v3
                  have m4 : (p : Int) * b ≤ 60 * 60 := Int.mul_le_mul (by omega) v4 v3 (by omega)
                  have h1 : (t : Int) < (C.length : Int) := by omega
                  by_cases hc : (p : Int) * b < a * (q : Int)
                  · have HT2 := Lib.hid (HT.out.trans (HY.out hc))
                    have hc2 : decide ((p : Int) * b < a * (q : Int)) = true := by simpa using hc
                    clear HT HY HN
                    go_wp2
                    go_quiet (fail)
                    go_wp2
                    go_roundw
                    case rel => exact ⟨t, n + nq, by go_num, HT2.out, by omega, by first | rfl | exact World.drewN_drewN W n nq⟩
                    case measure => simp [intOf]
                  · have e1 := Lib.hid (HT.out.trans (HN.out (by first | exact hc | exact Int.not_lt.1 hc)))
                    have hc2 : decide ((p : Int) * b < a * (q : Int)) = false := by simpa using hc
                    clear HT HY HN
                    go_wp2
                    go_quiet (fail)
                    all_goals go_wp2_with fail
                    all_goals go_meet
                    all_goals exact ⟨n + nq, by first | (rw [e1.out]; done) | (rw [e1.out]; rfl), by first | rfl | exact World.drewN_drewN W n nq⟩
            case rest =>
              obtain ⟨n0, rfl, rfl⟩ := hcut
              have HS3 : Hid (FarSt w (W.drewN n0) (.slice A C.length k) C) := HS2.out.drawn n0
              have RC3 : Hid (RdC (W.drewN n0) (W.drewN n0).heap.size A k C) := RC.out
              clear RC HS2 HPL HPY HPN HP0 HBD
              generalize W.drewN n0 = V at *
              have hVs := HS3.out.bel.size
              have hk1 := RC3.out.1
              have hk2 := RC3.out.2.1
              unfold maxLen at hk2
              generalize posf C p q C.length = m at *
              have hm1 : (m : Int) ≤ (C.length : Int) := by omega
              rcases HS3.out.own.2 with ⟨e, hn⟩ | ⟨g, cap, cur, e, _⟩
              · obtain ⟨rfl, hC0, rfl⟩ : A = none ∧ C.length = 0 ∧ k = 0 := by simpa using e
                obtain rfl : C = [] := List.length_eq_zero_iff.1 hC0
                obtain rfl : m = 0 := by simp at hpl; omega
                clear e hn hC0 hk1 hk2 hm1 hpl
                go_wp2_with (first
                  | (at_builtin; (refine wpList_append_own_none (w := V) rfl _ _ 35 rfl V.heap.size 23 i0 2 Try.underlying35 hi _ 0 [] rfl (World.ownsRow_nil _ _ _ _) rfl ?_))
                  | (at_builtin; (refine wpList_append_own _ rfl _ _ 35 rfl V.heap.size 23 i0 (.agg #[.int .i64 0, .int .i64 0]) 2 16 Try.underlying35 hi z0 z1 z2 rfl (by decide) _ _ _ rfl (World.ownsRow_nil (V.alloc _) V.heap.size 23 2) ⟨V.heap.size, 0, none⟩ 1 1 [.int .i64 p, .int .i64 q] rfl rfl (cell_two_new _ _ _ _) (fun x hx => by simp at hx; rcases hx with hx | hx <;> (rw [hx]; rfl)) (by unfold maxLen; omega) (by omega) (by simp) ?_); intro v2 w2 h2 g2 hn; have O2 := Lib.hid h2; have B2 : Hid (Below V.heap.size V w2) := below_app (Below.refl _ _) (Nat.le_refl _) (World.ownsRow_nil V V.heap.size 23 2) (Nat.le_refl _) g2; have hz2 : V.heap.size ≤ w2.heap.size := B2.out.size; clear h2 g2 hn)
                  | (at_builtin; (refine wpList_append_own_none (w := w2) rfl _ _ 35 rfl V.heap.size 23 i0 2 Try.underlying35 hi _ _ _ rfl O2.out rfl ?_))
                  | fail)
                have eX : [] ++ [Value.int .i64 p, Value.int .i64 q] = cs D := by rw [HIN.out]; rfl
                have eL : 0 + 1 = D.length := by rw [HIL.out]; rfl
                obtain ⟨A3, c3, rfl, HFS⟩ := ins_end HS3.out.bel O2.out B2.out eL eX
                clear eX eL
                go_roundw
                case rel => exact ⟨p + 1, A3, c3, D, by go_num, by omega, rfl, HF2.out, HFS.out⟩
                case measure => simp [intOf]; omega
              · obtain ⟨hA, rfl⟩ : A = some ⟨g, 0, none⟩ ∧ k = cap := by simpa using e
                obtain ⟨b, o, rfl⟩ : ∃ b o, A = some ⟨b, o, none⟩ := ⟨g, 0, hA⟩
                clear e hA
                have HN1 : Hid (∀ j u, (cs (C.take m))[j]? = some u → V.cell? ((⟨b, o, none⟩ : Addr).add j) = some u) := take_cells RC3.out
                by_cases hcap : k = m
                · subst hcap
                  have HDR : Hid (C.drop k = []) := List.drop_of_length_le hk1
                  go_wp2_with (first
                    | (at_builtin; (refine wpList_append_own _ rfl _ _ 35 rfl V.heap.size 23 i0 (.agg #[.int .i64 0, .int .i64 0]) 2 16 Try.underlying35 hi z0 z1 z2 rfl (by decide) _ _ _ rfl (World.ownsRow_nil _ _ _ _) ⟨b, o, none⟩ k _ (cs (C.take k)) rfl (by rw [cs_length, List.length_take]; omega) HN1.out (cs_one _) (by unfold maxLen; omega) (by omega) (Nat.le_refl _) ?_); intro v1 w1 h1 g1 hn; have O1 := Lib.hid h1; have B1 : Hid (Below V.heap.size V w1) := below_app0 (Below.refl _ _) (Nat.le_refl _) (World.ownsRow_nil V V.heap.size 23 2) (Nat.le_refl _) g1; have hz1 : V.heap.size ≤ w1.heap.size := B1.out.size; clear h1 g1 hn)
                    | (at_builtin; (refine wpList_append_own _ rfl _ _ 35 rfl V.heap.size 23 i0 (.agg #[.int .i64 0, .int .i64 0]) 2 16 Try.underlying35 hi z0 z1 z2 rfl (by decide) _ _ _ rfl (O1.out.alloc _) ⟨w1.heap.size, 0, none⟩ 1 1 [.int .i64 p, .int .i64 q] rfl rfl (cell_two_new _ _ _ _) (fun x hx => by simp at hx; rcases hx with hx | hx <;> (rw [hx]; rfl)) (by unfold maxLen; omega) (by omega) (by simp; omega) ?_); intro v2 w2 h2 g2 hn; have O2 := Lib.hid h2; have B2 : Hid (Below V.heap.size V w2) := below_app B1.out hz1 O1.out (Nat.le_refl _) g2; have hz2 : V.heap.size ≤ w2.heap.size := B2.out.size; clear h2 g2 hn)
                    | (at_builtin; (refine wpList_append_own _ rfl _ _ 35 rfl V.heap.size 23 i0 (.agg #[.int .i64 0, .int .i64 0]) 2 16 Try.underlying35 hi z0 z1 z2 rfl (by decide) _ _ _ rfl O2.out ⟨b, o, none⟩ 0 _ [] rfl rfl (fun i u hi' => by cases hi') (fun u hu => by cases hu) (by unfold maxLen; omega) (by omega) (by omega) ?_); intro v3 w3 h3 g3 hn; have O3 := Lib.hid h3; have B3 : Hid (Below V.heap.size V w3) := below_app0 B2.out hz2 O2.out (Nat.le_refl _) g3; have hz3 : V.heap.size ≤ w3.heap.size := B3.out.size; clear h3 g3 hn)
                    | fail)
                  have eX : [] ++ cs (C.take k) ++ [Value.int .i64 p, Value.int .i64 q] ++ [] = cs D := by
                    rw [HIN.out, HDR.out, cs_append, List.append_nil, List.nil_append]; rfl
                  have eL : 0 + k + 1 + 0 = D.length := by rw [HIL.out]; omega
                  obtain ⟨A3, c3, rfl, HFS⟩ := ins_end HS3.out.bel O3.out B3.out eL eX
                  clear eX eL
                  go_roundw
                  case rel => exact ⟨p + 1, A3, c3, D, by go_num, by omega, rfl, HF2.out, HFS.out⟩
                  case measure => simp [intOf]; omega
                · go_wp2_with (first
                    | (at_builtin; (refine wpList_append_own _ rfl _ _ 35 rfl V.heap.size 23 i0 (.agg #[.int .i64 0, .int .i64 0]) 2 16 Try.underlying35 hi z0 z1 z2 rfl (by decide) _ _ _ rfl (World.ownsRow_nil _ _ _ _) ⟨b, o, none⟩ m _ (cs (C.take m)) rfl (by rw [cs_length, List.length_take]; omega) HN1.out (cs_one _) (by unfold maxLen; omega) (by omega) (Nat.le_refl _) ?_); intro v1 w1 h1 g1 hn; have O1 := Lib.hid h1; have B1 : Hid (Below V.heap.size V w1) := below_app0 (Below.refl _ _) (Nat.le_refl _) (World.ownsRow_nil V V.heap.size 23 2) (Nat.le_refl _) g1; have hz1 : V.heap.size ≤ w1.heap.size := B1.out.size; clear h1 g1 hn)
                    | (at_builtin; (refine wpList_append_own _ rfl _ _ 35 rfl V.heap.size 23 i0 (.agg #[.int .i64 0, .int .i64 0]) 2 16 Try.underlying35 hi z0 z1 z2 rfl (by decide) _ _ _ rfl (O1.out.alloc _) ⟨w1.heap.size, 0, none⟩ 1 1 [.int .i64 p, .int .i64 q] rfl rfl (cell_two_new _ _ _ _) (fun x hx => by simp at hx; rcases hx with hx | hx <;> (rw [hx]; rfl)) (by unfold maxLen; omega) (by omega) (by simp; omega) ?_); intro v2 w2 h2 g2 hn; have O2 := Lib.hid h2; have B2 : Hid (Below V.heap.size V w2) := below_app B1.out hz1 O1.out (Nat.le_refl _) g2; have hz2 : V.heap.size ≤ w2.heap.size := B2.out.size; have HN2 : Hid (∀ j u, (cs (C.drop m))[j]? = some u → w2.cell? ((⟨b, o + m * 2, none⟩ : Addr).add j) = some u) := (RC3.out.below B2.out).drop_cells; clear h2 g2 hn)
                    | (at_builtin; (refine wpList_append_own _ rfl _ _ 35 rfl V.heap.size 23 i0 (.agg #[.int .i64 0, .int .i64 0]) 2 16 Try.underlying35 hi z0 z1 z2 rfl (by decide) _ _ _ rfl O2.out ⟨b, o + m * 2, none⟩ (C.length - m) _ (cs (C.drop m)) rfl (by rw [cs_length, List.length_drop]; omega) HN2.out (cs_one _) (by unfold maxLen; omega) (by omega) (by omega) ?_); intro v3 w3 h3 g3 hn; have O3 := Lib.hid h3; have B3 : Hid (Below V.heap.size V w3) := below_app0 B2.out hz2 O2.out (Nat.le_refl _) g3; have hz3 : V.heap.size ≤ w3.heap.size := B3.out.size; clear h3 g3 hn)
                    | fail)
                  have eX : [] ++ cs (C.take m) ++ [Value.int .i64 p, Value.int .i64 q] ++ cs (C.drop m) = cs D := by
                    rw [HIN.out, cs_append, List.nil_append, List.append_assoc]; rfl
                  have eL : 0 + m + 1 + (C.length - m) = D.length := by rw [HIL.out]; omega
                  obtain ⟨A3, c3, rfl, HFS⟩ := ins_end HS3.out.bel O3.out B3.out eL eX
                  clear eX eL
                  go_roundw
                  case rel => exact ⟨p + 1, A3, c3, D, by go_num, by omega, rfl, HF2.out, HFS.out⟩
                  case measure => simp [intOf]; omega
          · have HF2 := Lib.hid (HF.out.skip hp hg)
            have hg2 : ((Int.gcd p q : Int) != 1) = true := by rw [bne_iff_ne]; omega
            clear hg HF
            generalize Int.gcd p q = g at *
            go_wp2_with (first
              | (go_at_call 50; ((with_reducible refine (HG.out _).mono ?_); rintro e W ⟨rfl, hw⟩; have HS2 : Hid (FarSt w W (.slice A C.length k) C) := (by obtain ⟨m, rfl⟩ := hw; exact HS.out.drawn m); clear hw))
              | fail)
            go_roundw
            case rel => exact ⟨p + 1, A, k, C, by go_num, by omega, rfl, HF2.out, HS2.out⟩
            case measure => simp [intOf]; omega
        · obtain rfl : p = q + 1 := by omega
          have HF2 := Lib.hid (HF.out.next hq1 hq60)
          have HE : Hid (C.reverse = sR q) := by
            have e := HF.out.eq
            rw [Nat.sub_self] at e
            exact e
          clear HF
          go_wp2
          go_roundw
          case rel => exact ⟨q + 1, A, k, C, by go_num, by omega, by omega, rfl, ⟨HE.out, HF2.out⟩, HS.out⟩
          case measure => simp [intOf]; omega
    · have e1 : C = Z := by
        have e := HF.out.1
        rw [show q - 1 = n.toNat by omega] at e
        rw [HZ.out, ← e, List.reverse_reverse]
      have hqn : n < (q : Int) := by omega
      subst e1
      clear HF hq
      go_wp2
      refine bodyPost_ret (v := .tuple #[.slice A C.length k, .int .i64 0]) ?_ rfl ⟨A, k, rfl, HS.out.own, HS.out.bel⟩
      simp [results, Try.results36, go_sem, *]
end Go.Proofs.Ytbkombklfpjjpaa
