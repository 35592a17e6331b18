/- Contracts of Reduce, Apply and of the reference's Reduce, Image, Apply. -/
import Derived.Test.YtfojlanjhdifoaaCuspL
namespace Go.Proofs.Ytfojlanjhdifoaa
open Go.RowKit

/-- The answer of Reduce. -/
def redE (p q : Int) : Int × Int × Int := if inE p = false ∨ inE q = false then (0, 0, 2) else if p = 0 ∧ q = 0 then (0, 0, 5) else ((low p q).1, (low p q).2, 0)
theorem redE_out {p q : Int} (h : inE p = false ∨ inE q = false) : redE p q = (0, 0, 2) := if_pos h
theorem redE_zero : redE 0 0 = (0, 0, 5) := rfl
theorem redE_yes {p q u v : Int} (hp : inE p = true) (hq : inE q = true) (h : ¬ (p = 0 ∧ q = 0)) (hl : low p q = (u, v)) : redE p q = (u, v, 0) := by
  unfold redE; rw [if_neg (by rw [hp, hq]; simp), if_neg h, hl]
/-- The answer of Apply. -/
def appE (a b c d p q : Int) : Int × Int × Int :=
  if fitB a b c d = false then (0, 0, 2) else if a * d - b * c = 0 then (0, 0, 11) else if ¬ cuspI p q = 0 then (0, 0, cuspI p q) else
  if inE (low (a * p + b * q) (c * p + d * q)).1 = false ∨ inE (low (a * p + b * q) (c * p + d * q)).2 = false then (0, 0, 7) else ((low (a * p + b * q) (c * p + d * q)).1, (low (a * p + b * q) (c * p + d * q)).2, 0)
theorem appE_1 {a b c d p q : Int} (h : fitB a b c d = false) : appE a b c d p q = (0, 0, 2) := if_pos h
theorem appE_2 {a b c d p q : Int} (h : fitB a b c d = true) (k : a * d - b * c = 0) : appE a b c d p q = (0, 0, 11) := by
  unfold appE; rw [if_neg (by rw [h]; simp), if_pos k]
theorem appE_3 {a b c d p q : Int} (h : fitB a b c d = true) (k : ¬ a * d - b * c = 0) (l : ¬ cuspI p q = 0) : appE a b c d p q = (0, 0, cuspI p q) := by
  unfold appE; rw [if_neg (by rw [h]; simp), if_neg k, if_pos l]
theorem appE_4 {a b c d p q u v : Int} (h : fitB a b c d = true) (k : ¬ a * d - b * c = 0) (l : cuspI p q = 0) (hl : low (a * p + b * q) (c * p + d * q) = (u, v)) (hu : inE u = false ∨ inE v = false) : appE a b c d p q = (0, 0, 7) := by
  unfold appE; rw [if_neg (by rw [h]; simp), if_neg k, if_neg (by omega), hl, if_pos hu]
theorem appE_5 {a b c d p q u v : Int} (h : fitB a b c d = true) (k : ¬ a * d - b * c = 0) (l : cuspI p q = 0) (hl : low (a * p + b * q) (c * p + d * q) = (u, v)) (hu : inE u = true) (hv : inE v = true) : appE a b c d p q = (u, v, 0) := by
  unfold appE; rw [if_neg (by rw [h]; simp), if_neg k, if_neg (by omega), hl, if_neg (by rw [hu, hv]; simp)]
/-- A matrix with a determinant maps what is not 0 to what is not 0. -/
theorem img_ne {a b c d p q : Int} (hd : ¬ a * d - b * c = 0) (h : ¬ (p = 0 ∧ q = 0)) : ¬ (a * p + b * q = 0 ∧ c * p + d * q = 0) := by
  rintro ⟨h1, h2⟩
  have e1 : (a * d - b * c) * p = d * (a * p + b * q) - b * (c * p + d * q) := by
    simp only [Int.sub_mul, Int.mul_add]
    rw [show a * d * p = d * (a * p) by rw [Int.mul_comm a d, Int.mul_assoc], show b * c * p = b * (c * p) by rw [Int.mul_assoc], show d * (b * q) = b * (d * q) by rw [Int.mul_left_comm]]
    omega
  have e2 : (a * d - b * c) * q = a * (c * p + d * q) - c * (a * p + b * q) := by
    simp only [Int.sub_mul, Int.mul_add]
    rw [show a * d * q = a * (d * q) by rw [Int.mul_assoc], show b * c * q = c * (b * q) by rw [Int.mul_comm b c, Int.mul_assoc], show a * (c * p) = c * (a * p) by rw [Int.mul_left_comm]]
    omega
  rw [h1, h2, Int.mul_zero, Int.mul_zero, Int.sub_zero] at e1 e2
  exact h ⟨(Int.mul_eq_zero.1 e1).resolve_left hd, (Int.mul_eq_zero.1 e2).resolve_left hd⟩
theorem cusp_ne {p q : Int} (h : cuspI p q = 0) : ¬ (p = 0 ∧ q = 0) := (cuspI_zero.1 h).2.2.ne
theorem mid_sum {x y : Int} (h1 : -1152921504606846976 ≤ x) (h2 : x ≤ 1152921504606846976) (h3 : -1152921504606846976 ≤ y) (h4 : y ≤ 1152921504606846976) : Mid (x + y) := by unfold Mid; omega

theorem below_set2a {B g : Nat} {w W : World} (h : Below B w W) (hg : B ≤ g) (hB : B ≤ W.heap.size) (v0 v1 : Value) (o : Obj) : Below B w (((W.setCell ⟨g, 0, none⟩ v0).setCell ⟨g, 1, none⟩ v1).alloc o) :=
  (below_set2 h hg v0 v1).alloc (by simp [World.setCell]; exact hB) o
set_option maxHeartbeats 1600000 in
theorem apply_any (a b c d p q u v k : Int) (w : World) (hr : appE a b c d p q = (u, v, k)) :
    Calls Try.prog 12 #[.agg #[.int .i64 a, .int .i64 b, .int .i64 c, .int .i64 d], .agg #[.int .i64 p, .int .i64 q]] w fun e w' => e = .returned (.tuple #[.agg #[.int .i64 u, .int .i64 v], .int .i64 k]) ∧ Below w.heap.size w w' := by
  have HC := Lib.hid (fun W => checkCusp_any p q W)
  cases hf : fitB a b c d with
  | false =>
    have HD := Lib.hid (fun W => det_no a b c d W hf)
    rw [appE_1 hf] at hr
    cases hr
    clear hf HC
    go_enter Try.func12, Try.ntmps12
    go_wp2_with (first
      | (go_at_call 28; ((with_reducible refine (HD.out _).mono ?_); rintro e w1 ⟨rfl, hb⟩; obtain ⟨hc, hf⟩ := bcell hb; obtain ⟨hz0, hz1, hz2⟩ : w.heap.size < w1.heap.size ∧ w.heap.size + 1 < w1.heap.size ∧ w.heap.size + 1 + 1 < w1.heap.size := (by have := hb.size; (try simp at this); omega); have HBn : Hid (Below w.heap.size w w1) := (by first | exact HB.out.trans (hb.mono HB.out.size) | exact (HB.out.trans ((below1 _ _).mono HB.out.size)).trans (hb.mono (by have := HB.out.size; (try simp); omega)) | exact (below3 _ _ _ _).trans (hb.mono (by simp; omega)) | fail); have HB := Lib.hid HBn.out; clear HBn hb))
      | fail)
    refine bodyPost_ret (v := .tuple #[.agg #[.int .i64 0, .int .i64 0], .int .i64 2]) ?_ rfl ⟨rfl, ?_⟩
    · simp [results, Try.results12, go_sem, *]
    · exact below_set2 HB.out (by omega) _ _
  | true =>
    have HD := Lib.hid (fun W => det_yes a b c d W hf)
    by_cases h0 : a * d - b * c = 0
    · rw [appE_2 hf h0] at hr
      rw [h0] at HD
      cases hr
      clear hf HC h0
      go_enter Try.func12, Try.ntmps12
      go_wp2_with (first
        | (go_at_call 28; ((with_reducible refine (HD.out _).mono ?_); rintro e w1 ⟨rfl, hb⟩; obtain ⟨hc, hf⟩ := bcell hb; obtain ⟨hz0, hz1, hz2⟩ : w.heap.size < w1.heap.size ∧ w.heap.size + 1 < w1.heap.size ∧ w.heap.size + 1 + 1 < w1.heap.size := (by have := hb.size; (try simp at this); omega); have HBn : Hid (Below w.heap.size w w1) := (by first | exact HB.out.trans (hb.mono HB.out.size) | exact (HB.out.trans ((below1 _ _).mono HB.out.size)).trans (hb.mono (by have := HB.out.size; (try simp); omega)) | exact (below3 _ _ _ _).trans (hb.mono (by simp; omega)) | fail); have HB := Lib.hid HBn.out; clear HBn hb))
        | fail)
      refine bodyPost_ret (v := .tuple #[.agg #[.int .i64 0, .int .i64 0], .int .i64 11]) ?_ rfl ⟨rfl, ?_⟩
      · simp [results, Try.results12, go_sem, *]
      · exact below_set2 HB.out (by omega) _ _
    · have hz := h0
      obtain ⟨z, he⟩ : ∃ z, z = a * d - b * c := ⟨_, rfl⟩
      rw [← he] at HD hz
      clear he
      have hz1 : (z == 0) = false := by simpa using hz
      clear hz
      by_cases hc : cuspI p q = 0
      · obtain ⟨x, y, hl⟩ : ∃ x y, low (a * p + b * q) (c * p + d * q) = (x, y) := ⟨_, _, rfl⟩
        rw [hc] at HC
        have hi := img_ne h0 (cusp_ne hc)
        obtain ⟨⟨a1, a2⟩, ⟨b1, b2⟩, ⟨c1, c2⟩, d1, d2⟩ := fitB_iff.1 hf
        have hpe := (cuspI_zero.1 hc).1
        obtain ⟨p1, p2⟩ := inE_iff.1 hpe
        have q2 := (cuspI_zero.1 hc).2.1
        have q1 := (cuspI_zero.1 hc).2.2.pos
        have hqe := inE_yes (n := q) (by omega) q2
        obtain ⟨r1, r2⟩ := prod_le a1 a2 p1 p2
        obtain ⟨r3, r4⟩ := prod_le b1 b2 (show -1073741824 ≤ q by omega) q2
        obtain ⟨r5, r6⟩ := prod_le c1 c2 p1 p2
        obtain ⟨r7, r8⟩ := prod_le d1 d2 (show -1073741824 ≤ q by omega) q2
        have HL := Lib.hid (fun W => reduced_any _ _ x y W (mid_sum r1 r2 r3 r4) (mid_sum r5 r6 r7 r8) hi hl)
        have HU := Lib.hid (fun W => isEntry_any x W)
        have HV := Lib.hid (fun W => isEntry_any y W)
        cases hu : inE x with
        | false =>
          rw [appE_4 hf h0 hc hl (.inl hu)] at hr
          rw [hu] at HU
          cases hr
          clear hf h0 hc hl hi hpe hqe hu HV
          go_enter Try.func12, Try.ntmps12
          go_wp2_with (first
            | (go_at_call 28; ((with_reducible refine (HD.out _).mono ?_); rintro e w1 ⟨rfl, hb⟩; obtain ⟨hc, hf⟩ := bcell hb; obtain ⟨hz0, hz1, hz2⟩ : w.heap.size < w1.heap.size ∧ w.heap.size + 1 < w1.heap.size ∧ w.heap.size + 1 + 1 < w1.heap.size := (by have := hb.size; (try simp at this); omega); have HBn : Hid (Below w.heap.size w w1) := (by first | exact HB.out.trans (hb.mono HB.out.size) | exact (HB.out.trans ((below1 _ _).mono HB.out.size)).trans (hb.mono (by have := HB.out.size; (try simp); omega)) | exact (below3 _ _ _ _).trans (hb.mono (by simp; omega)) | fail); have HB := Lib.hid HBn.out; clear HBn hb))
            | (go_at_call 29; ((with_reducible refine (HC.out _).mono ?_); rintro e w2 ⟨rfl, hb⟩; obtain ⟨hc, hf⟩ := bcell hb; obtain ⟨hz0, hz1, hz2⟩ : w.heap.size < w2.heap.size ∧ w.heap.size + 1 < w2.heap.size ∧ w.heap.size + 1 + 1 < w2.heap.size := (by have := hb.size; (try simp at this); omega); have HBn : Hid (Below w.heap.size w w2) := (by first | exact HB.out.trans (hb.mono HB.out.size) | exact (HB.out.trans ((below1 _ _).mono HB.out.size)).trans (hb.mono (by have := HB.out.size; (try simp); omega)) | exact (below3 _ _ _ _).trans (hb.mono (by simp; omega)) | fail); have HB := Lib.hid HBn.out; clear HBn hb))
            | (go_at_call 30; ((with_reducible refine (HL.out _).mono ?_); rintro e w3 ⟨rfl, hb⟩; obtain ⟨hc, hf⟩ := bcell hb; obtain ⟨hz0, hz1, hz2⟩ : w.heap.size < w3.heap.size ∧ w.heap.size + 1 < w3.heap.size ∧ w.heap.size + 1 + 1 < w3.heap.size := (by have := hb.size; (try simp at this); omega); have HBn : Hid (Below w.heap.size w w3) := (by first | exact HB.out.trans (hb.mono HB.out.size) | exact (HB.out.trans ((below1 _ _).mono HB.out.size)).trans (hb.mono (by have := HB.out.size; (try simp); omega)) | exact (below3 _ _ _ _).trans (hb.mono (by simp; omega)) | fail); have HB := Lib.hid HBn.out; clear HBn hb))
            | (go_at_call 31; ((with_reducible refine (HU.out _).mono ?_); rintro e w' ⟨rfl, rfl⟩))
            | fail)
          refine bodyPost_ret (v := .tuple #[.agg #[.int .i64 0, .int .i64 0], .int .i64 7]) ?_ rfl ⟨rfl, ?_⟩
          · simp [results, Try.results12, go_sem, *]
          · exact below_set2a HB.out (by omega) HB.out.size _ _ _
        | true =>
          rw [hu] at HU
          cases hv : inE y with
          | false =>
            rw [appE_4 hf h0 hc hl (.inr hv)] at hr
            rw [hv] at HV
            cases hr
            clear hf h0 hc hl hi hpe hqe hu hv
            go_enter Try.func12, Try.ntmps12
            go_wp2_with (first
              | (go_at_call 28; ((with_reducible refine (HD.out _).mono ?_); rintro e w1 ⟨rfl, hb⟩; obtain ⟨hc, hf⟩ := bcell hb; obtain ⟨hz0, hz1, hz2⟩ : w.heap.size < w1.heap.size ∧ w.heap.size + 1 < w1.heap.size ∧ w.heap.size + 1 + 1 < w1.heap.size := (by have := hb.size; (try simp at this); omega); have HBn : Hid (Below w.heap.size w w1) := (by first | exact HB.out.trans (hb.mono HB.out.size) | exact (HB.out.trans ((below1 _ _).mono HB.out.size)).trans (hb.mono (by have := HB.out.size; (try simp); omega)) | exact (below3 _ _ _ _).trans (hb.mono (by simp; omega)) | fail); have HB := Lib.hid HBn.out; clear HBn hb))
              | (go_at_call 29; ((with_reducible refine (HC.out _).mono ?_); rintro e w2 ⟨rfl, hb⟩; obtain ⟨hc, hf⟩ := bcell hb; obtain ⟨hz0, hz1, hz2⟩ : w.heap.size < w2.heap.size ∧ w.heap.size + 1 < w2.heap.size ∧ w.heap.size + 1 + 1 < w2.heap.size := (by have := hb.size; (try simp at this); omega); have HBn : Hid (Below w.heap.size w w2) := (by first | exact HB.out.trans (hb.mono HB.out.size) | exact (HB.out.trans ((below1 _ _).mono HB.out.size)).trans (hb.mono (by have := HB.out.size; (try simp); omega)) | exact (below3 _ _ _ _).trans (hb.mono (by simp; omega)) | fail); have HB := Lib.hid HBn.out; clear HBn hb))
              | (go_at_call 30; ((with_reducible refine (HL.out _).mono ?_); rintro e w3 ⟨rfl, hb⟩; obtain ⟨hc, hf⟩ := bcell hb; obtain ⟨hz0, hz1, hz2⟩ : w.heap.size < w3.heap.size ∧ w.heap.size + 1 < w3.heap.size ∧ w.heap.size + 1 + 1 < w3.heap.size := (by have := hb.size; (try simp at this); omega); have HBn : Hid (Below w.heap.size w w3) := (by first | exact HB.out.trans (hb.mono HB.out.size) | exact (HB.out.trans ((below1 _ _).mono HB.out.size)).trans (hb.mono (by have := HB.out.size; (try simp); omega)) | exact (below3 _ _ _ _).trans (hb.mono (by simp; omega)) | fail); have HB := Lib.hid HBn.out; clear HBn hb))
              | (go_at_call 31; ((with_reducible refine (HU.out _).mono ?_); rintro e w' ⟨rfl, rfl⟩))
              | (go_at_call 31; ((with_reducible refine (HV.out _).mono ?_); rintro e w' ⟨rfl, rfl⟩))
              | fail)
            refine bodyPost_ret (v := .tuple #[.agg #[.int .i64 0, .int .i64 0], .int .i64 7]) ?_ rfl ⟨rfl, ?_⟩
            · simp [results, Try.results12, go_sem, *]
            · exact below_set2a HB.out (by omega) HB.out.size _ _ _
          | true =>
            rw [appE_5 hf h0 hc hl hu hv] at hr
            rw [hv] at HV
            cases hr
            clear hf h0 hc hl hi hpe hqe hu hv
            go_enter Try.func12, Try.ntmps12
            go_wp2_with (first
              | (go_at_call 28; ((with_reducible refine (HD.out _).mono ?_); rintro e w1 ⟨rfl, hb⟩; obtain ⟨hc, hf⟩ := bcell hb; obtain ⟨hz0, hz1, hz2⟩ : w.heap.size < w1.heap.size ∧ w.heap.size + 1 < w1.heap.size ∧ w.heap.size + 1 + 1 < w1.heap.size := (by have := hb.size; (try simp at this); omega); have HBn : Hid (Below w.heap.size w w1) := (by first | exact HB.out.trans (hb.mono HB.out.size) | exact (HB.out.trans ((below1 _ _).mono HB.out.size)).trans (hb.mono (by have := HB.out.size; (try simp); omega)) | exact (below3 _ _ _ _).trans (hb.mono (by simp; omega)) | fail); have HB := Lib.hid HBn.out; clear HBn hb))
              | (go_at_call 29; ((with_reducible refine (HC.out _).mono ?_); rintro e w2 ⟨rfl, hb⟩; obtain ⟨hc, hf⟩ := bcell hb; obtain ⟨hz0, hz1, hz2⟩ : w.heap.size < w2.heap.size ∧ w.heap.size + 1 < w2.heap.size ∧ w.heap.size + 1 + 1 < w2.heap.size := (by have := hb.size; (try simp at this); omega); have HBn : Hid (Below w.heap.size w w2) := (by first | exact HB.out.trans (hb.mono HB.out.size) | exact (HB.out.trans ((below1 _ _).mono HB.out.size)).trans (hb.mono (by have := HB.out.size; (try simp); omega)) | exact (below3 _ _ _ _).trans (hb.mono (by simp; omega)) | fail); have HB := Lib.hid HBn.out; clear HBn hb))
              | (go_at_call 30; ((with_reducible refine (HL.out _).mono ?_); rintro e w3 ⟨rfl, hb⟩; obtain ⟨hc, hf⟩ := bcell hb; obtain ⟨hz0, hz1, hz2⟩ : w.heap.size < w3.heap.size ∧ w.heap.size + 1 < w3.heap.size ∧ w.heap.size + 1 + 1 < w3.heap.size := (by have := hb.size; (try simp at this); omega); have HBn : Hid (Below w.heap.size w w3) := (by first | exact HB.out.trans (hb.mono HB.out.size) | exact (HB.out.trans ((below1 _ _).mono HB.out.size)).trans (hb.mono (by have := HB.out.size; (try simp); omega)) | exact (below3 _ _ _ _).trans (hb.mono (by simp; omega)) | fail); have HB := Lib.hid HBn.out; clear HBn hb))
              | (go_at_call 31; ((with_reducible refine (HU.out _).mono ?_); rintro e w' ⟨rfl, rfl⟩))
              | (go_at_call 31; ((with_reducible refine (HV.out _).mono ?_); rintro e w' ⟨rfl, rfl⟩))
              | fail)
            refine bodyPost_ret (v := .tuple #[.agg #[.int .i64 u, .int .i64 v], .int .i64 0]) ?_ rfl ⟨rfl, ?_⟩
            · simp [results, Try.results12, go_sem, *]
            · exact below_set2a HB.out (by omega) HB.out.size _ _ _
      · rw [appE_3 hf h0 hc] at hr
        generalize cuspI p q = y at *
        cases hr
        have hk1 : (k != 0) = true := by simpa using hc
        have hk2 : (k == 0) = false := by simpa using hc
        clear hf h0 hc
        go_enter Try.func12, Try.ntmps12
        go_wp2_with (first
          | (go_at_call 28; ((with_reducible refine (HD.out _).mono ?_); rintro e w1 ⟨rfl, hb⟩; obtain ⟨hc, hf⟩ := bcell hb; obtain ⟨hz0, hz1, hz2⟩ : w.heap.size < w1.heap.size ∧ w.heap.size + 1 < w1.heap.size ∧ w.heap.size + 1 + 1 < w1.heap.size := (by have := hb.size; (try simp at this); omega); have HBn : Hid (Below w.heap.size w w1) := (by first | exact HB.out.trans (hb.mono HB.out.size) | exact (HB.out.trans ((below1 _ _).mono HB.out.size)).trans (hb.mono (by have := HB.out.size; (try simp); omega)) | exact (below3 _ _ _ _).trans (hb.mono (by simp; omega)) | fail); have HB := Lib.hid HBn.out; clear HBn hb))
          | (go_at_call 29; ((with_reducible refine (HC.out _).mono ?_); rintro e w2 ⟨rfl, hb⟩; obtain ⟨hc, hf⟩ := bcell hb; obtain ⟨hz0, hz1, hz2⟩ : w.heap.size < w2.heap.size ∧ w.heap.size + 1 < w2.heap.size ∧ w.heap.size + 1 + 1 < w2.heap.size := (by have := hb.size; (try simp at this); omega); have HBn : Hid (Below w.heap.size w w2) := (by first | exact HB.out.trans (hb.mono HB.out.size) | exact (HB.out.trans ((below1 _ _).mono HB.out.size)).trans (hb.mono (by have := HB.out.size; (try simp); omega)) | exact (below3 _ _ _ _).trans (hb.mono (by simp; omega)) | fail); have HB := Lib.hid HBn.out; clear HBn hb))
          | fail)
        refine bodyPost_ret (v := .tuple #[.agg #[.int .i64 0, .int .i64 0], .int .i64 k]) ?_ rfl ⟨rfl, ?_⟩
        · simp [results, Try.results12, go_sem, *]
        · exact below_set2 HB.out (by omega) _ _
end Go.Proofs.Ytfojlanjhdifoaa
