/- Long division (Knuth's algorithm D): the estimate of a digit, and the digits one by one. Long division: a multiple subtracted in place, a digit of the quotient, and the whole. The contract of estimate: a digit of a quotient, or one more. The contract of shiftLeft. The contract of shiftRight. -/
import Derived.Test.YtbijjiadokgmoaaDoorMulMath
import Derived.Test.YtbijjiadokgmoaaDoorWords
import Derived.Test.YtbijjiadokgmoaaDoorAddMul
import Derived.Test.YtbijjiadokgmoaaDoorProdD
import Derived.Test.YtbijjiadokgmoaaDoorRMul
import Derived.Deep.RegionWith
namespace Go.Proofs.YtbijjiadokgmoaaDoor

theorem est_low {K yl pl y2 u3 q : Nat} (hp : pl < K) (h : q * (yl + K * y2) ≤ pl + K * u3) : q * y2 ≤ u3 := by
  rcases Nat.lt_or_ge u3 (q * y2) with h1 | h1
  · exfalso
    have h2 : K * (u3 + 1) ≤ K * (q * y2) := Nat.mul_le_mul_left K h1
    have h3 : q * (yl + K * y2) = q * yl + K * (q * y2) := by rw [Nat.mul_add, Nat.mul_left_comm]
    have h4 : K * (u3 + 1) = K * u3 + K := Nat.mul_succ _ _
    have := Nat.zero_le (q * yl)
    omega
  · exact h1
theorem est_up {K yl pl y2 u3 q d : Nat} (hy : yl < K) (hq : pl + K * u3 < (q + 1) * (yl + K * y2)) (hd : d * y2 ≤ u3) (hB : d ≤ y2) : d ≤ q + 1 := by
  rcases Nat.lt_or_ge (q + 1) d with h1 | h1
  · exfalso
    have h2 : (q + 1) * (yl + K * y2) ≤ (d - 1) * (yl + K * y2) := Nat.mul_le_mul_right _ (by omega)
    have h3 : (d - 1) * (yl + K * y2) ≤ (d - 1) * (K + K * y2) := Nat.mul_le_mul_left _ (by omega)
    have h4 : (d - 1) * (K + K * y2) = K * ((d - 1) * (y2 + 1)) := by
      rw [show K + K * y2 = K * (y2 + 1) by rw [Nat.mul_succ]; omega, Nat.mul_left_comm]
    have h5 : K * (d * y2) ≤ K * u3 := Nat.mul_le_mul_left K hd
    have h6 : (d - 1) * (y2 + 1) ≤ d * y2 := by
      obtain ⟨e, rfl⟩ : ∃ e, d = e + 1 := ⟨d - 1, by omega⟩
      rw [Nat.add_sub_cancel, Nat.mul_succ, Nat.succ_mul]; omega
    have h7 : K * ((d - 1) * (y2 + 1)) ≤ K * (d * y2) := Nat.mul_le_mul_left K h6
    omega
  · exact h1

/-- The estimate of a digit: 'd' times the first digit, and 'r', are the first two digits of the part. -/
structure Est (q y1 y0 u2 u1 u0 d r : Nat) : Prop where
  sum : d * y1 + r = u2 * 4294967296 + u1
  low : q ≤ d
  r_lt : r < 4294967296
  d_le : d ≤ 4294967297
theorem Est.start {q y1 y0 u2 u1 u0 : Nat} (hq : q * (y1 * 4294967296 + y0) ≤ (u2 * 4294967296 + u1) * 4294967296 + u0) (hy : 2147483648 ≤ y1) (hy2 : y1 < 4294967296) (h2 : u2 ≤ y1) (h1 : u1 < 4294967296) (h0 : u0 < 4294967296) :
    Est q y1 y0 u2 u1 u0 ((u2 * 4294967296 + u1) / y1) ((u2 * 4294967296 + u1) % y1) := by
  refine ⟨?_, ?_, ?_, ?_⟩
  · rw [Nat.mul_comm]; exact Nat.div_add_mod _ _
  · rw [Nat.le_div_iff_mul_le (by omega)]
    have : q * (y1 * 4294967296 + y0) = (q * y1) * 4294967296 + q * y0 := by rw [Nat.mul_add, Nat.mul_assoc]
    omega
  · have := Nat.mod_lt (u2 * 4294967296 + u1) (show y1 > 0 by omega)
    omega
  · rw [← Nat.lt_succ_iff, Nat.div_lt_iff_lt_mul (by omega)]
    have : y1 * 4294967296 + 2 * y1 = (Nat.succ 4294967297) * y1 := by
      show _ = 4294967298 * y1; omega
    omega
/-- One more than the quotient at most when the test fails. -/
theorem Est.stop {q y1 y0 u2 u1 u0 d r : Nat} (h : Est q y1 y0 u2 u1 u0 d r) (ht : d * y0 ≤ r * 4294967296 + u0) : d * (y1 * 4294967296 + y0) ≤ (u2 * 4294967296 + u1) * 4294967296 + u0 := by
  have e : d * (y1 * 4294967296 + y0) = (d * y1) * 4294967296 + d * y0 := by rw [Nat.mul_add, Nat.mul_assoc]
  have := h.sum
  omega
theorem Est.down {q y1 y0 u2 u1 u0 d r : Nat} (h : Est q y1 y0 u2 u1 u0 d r) (hq : q < 4294967296) (hy0 : q * (y1 * 4294967296 + y0) ≤ (u2 * 4294967296 + u1) * 4294967296 + u0) (hu0 : u0 < 4294967296) (ht : 4294967296 ≤ d ∨ r * 4294967296 + u0 < d * y0) : 0 < d ∧ q ≤ d - 1 ∧ (d - 1) * y1 + (r + y1) = u2 * 4294967296 + u1 := by
  have hd : 0 < d := by
    rcases ht with h1 | h1
    · omega
    · rcases Nat.eq_zero_or_pos d with h2 | h2
      · subst h2; omega
      · exact h2
  refine ⟨hd, ?_, ?_⟩
  · rcases ht with h1 | h1
    · omega
    · rcases Nat.lt_or_ge q d with h2 | h2
      · omega
      · exfalso
        have : d = q := by have := h.low; omega
        subst this
        have e : d * (y1 * 4294967296 + y0) = (d * y1) * 4294967296 + d * y0 := by rw [Nat.mul_add, Nat.mul_assoc]
        have := h.sum
        omega
  · obtain ⟨e, rfl⟩ : ∃ e, d = e + 1 := ⟨d - 1, by omega⟩
    have := h.sum
    rw [Nat.succ_mul] at this
    rw [Nat.add_sub_cancel]; omega
theorem Est.next {q y1 y0 u2 u1 u0 d r : Nat} (h : Est q y1 y0 u2 u1 u0 d r) (hd : 0 < d) (h1 : q ≤ d - 1) (h2 : (d - 1) * y1 + (r + y1) = u2 * 4294967296 + u1) (hr : r + y1 < 4294967296) : Est q y1 y0 u2 u1 u0 (d - 1) (r + y1) :=
  ⟨h2, h1, hr, by have := h.d_le; omega⟩
/-- Behind a step that makes the rest a digit more. -/
theorem Est.high {y1 y0 u2 u1 u0 d r : Nat} (h2 : d * y1 + r = u2 * 4294967296 + u1) (hr : 4294967296 ≤ r) (hu2 : u2 ≤ y1) (hu1 : u1 < 4294967296) (hy0 : y0 < 4294967296) : d < 4294967296 ∧ d * y0 ≤ r * 4294967296 + u0 := by
  have hd : d < 4294967296 := by
    rcases Nat.lt_or_ge d 4294967296 with h | h
    · exact h
    · exfalso
      have : 4294967296 * y1 ≤ d * y1 := Nat.mul_le_mul_right _ h
      omega
  refine ⟨hd, ?_⟩
  have h3 : d * y0 ≤ 4294967296 * 4294967296 := Nat.mul_le_mul (by omega) (by omega)
  have h4 : 4294967296 * 4294967296 ≤ r * 4294967296 := Nat.mul_le_mul_right _ hr
  omega
end Go.Proofs.YtbijjiadokgmoaaDoor
namespace Go.Proofs.YtbijjiadokgmoaaDoor

/-- y * d is being subtracted from u: i digits are done. -/
structure SubM (u y : List Nat) (d : Nat) (ui : List Nat) (i c b : Nat) : Prop where
  up : Upto u ui i
  one : b ≤ 1
  small : c < 4294967296
  eq : val (ui.take i) + d * val (y.take i) = val (u.take i) + 4294967296 ^ i * (c + b)
theorem SubM.start {u : List Nat} (y : List Nat) (d : Nat) (h : Dgs u) : SubM u y d u 0 0 0 := ⟨.start h, by omega, by omega, by simp [val]⟩
theorem mulP {P a b : Nat} (h : a = b) : P * a = P * b := by rw [h]
theorem SubM.step {u y ui : List Nat} {d i c b s c' b' lo : Nat} (h : SubM u y d ui i c b) (hi : i < u.length) (hs : s < 4294967296) (hb : b' ≤ 1) (hc : c' < 4294967296)
    (hw : y.getD i 0 * d + c = lo + 4294967296 * c') (hq : s + lo + b = u[i] + 4294967296 * b') : SubM u y d (ui.set i s) (i + 1) c' b' := by
  obtain ⟨h1, h2, h3⟩ := h.up.set hi hs
  refine ⟨h1, hb, hc, ?_⟩
  rw [h2, h3, val_take_get, Nat.pow_succ]
  have h5 := h.eq
  generalize 4294967296 ^ i = P at *
  have h6 : P * (s + (y.getD i 0 * d) + (c + b)) = P * (u[i] + 4294967296 * (c' + b')) := mulP (by omega)
  have h7 : d * (P * y.getD i 0) = P * (y.getD i 0 * d) := by rw [Nat.mul_left_comm, Nat.mul_comm d]
  simp only [Nat.mul_add, Nat.mul_assoc] at h5 h6 ⊢
  rw [h7]
  omega
theorem SubM.done {u y ui : List Nat} {d c b s b' : Nat} (h : SubM u y d ui y.length c b) (hl : u.length = y.length + 1) (hs : s < 4294967296) (hq : s + c + b = u[y.length]'(by omega) + 4294967296 * b') :
    val (ui.set y.length s) + d * val y = val u + 4294967296 ^ (y.length + 1) * b' := by
  obtain ⟨h1, h2, h3⟩ := h.up.set (i := y.length) (by omega) hs
  have h5 := h.eq
  rw [List.take_length] at h5
  rw [List.take_of_length_le (by rw [List.length_set, h.up.len]; omega)] at h2
  rw [List.take_of_length_le (by omega)] at h3
  rw [h2, h3, Nat.pow_succ]
  generalize 4294967296 ^ y.length = P at *
  have h6 : P * (s + (c + b)) = P * (u[y.length] + 4294967296 * b') := mulP (by omega)
  simp only [Nat.mul_add, Nat.mul_assoc] at h5 h6 ⊢
  omega

/-- With an estimate that is the quotient, or greater by one: the digit is right where nothing is borrowed. -/
theorem digit_right {Pv Y d q R b : Nat} (hY : 0 < Y) (hq : q = Pv / Y) (h1 : q ≤ d) (h2 : d ≤ q + 1) (K : Nat) (hR : R < K) (hb : b ≤ 1) (h : R + d * Y = Pv + K * b) :
    (b = 0 → d = q ∧ R = Pv % Y) ∧ (b = 1 → d = q + 1 ∧ R + Y = Pv % Y + K) := by
  have e1 := Nat.div_add_mod Pv Y
  have e2 := Nat.mod_lt Pv hY
  rw [← hq, Nat.mul_comm] at e1
  rcases (show d = q ∨ d = q + 1 by omega) with rfl | rfl
  · constructor
    · rintro rfl; exact ⟨rfl, by omega⟩
    · rintro rfl; exfalso; omega
  · rw [Nat.succ_mul] at h
    constructor
    · rintro rfl; exfalso; omega
    · rintro rfl; exact ⟨rfl, by omega⟩
/-- Adding the divisor back: the carry out of the highest digit is dropped. -/
theorem add_back {lo hi lo' c Y Rm K : Nat} (hlo' : lo' < K) (hadd : lo' + K * c = lo + Y) (hR : lo + K * hi + Y = Rm + K * 4294967296) (hRm : Rm < K) : lo' + K * ((hi + c) % 4294967296) = Rm := by
  have h1 : lo' + K * (hi + c) = Rm + K * 4294967296 := by rw [Nat.mul_add]; omega
  have hK : 0 < K := by omega
  have h2 : hi + c = 4294967296 := by
    rcases Nat.lt_trichotomy (hi + c) 4294967296 with h | h | h
    · exfalso
      have : K * (hi + c + 1) ≤ K * 4294967296 := Nat.mul_le_mul_left _ h
      rw [Nat.mul_succ] at this
      omega
    · exact h
    · exfalso
      have : K * (4294967296 + 1) ≤ K * (hi + c) := Nat.mul_le_mul_left _ h
      rw [Nat.mul_succ] at this
      omega
  rw [h2] at h1 ⊢
  simp only [Nat.mod_self, Nat.mul_zero]
  omega

/-- The list with another part at j. -/
def putPart (U part : List Nat) (j : Nat) : List Nat := U.take j ++ (part ++ U.drop (j + part.length))
theorem putPart_len {U part : List Nat} {j : Nat} (h : j + part.length ≤ U.length) : (putPart U part j).length = U.length := by
  unfold putPart; simp; omega
/-- Long division: the digits of the quotient from j on have been found. -/
structure DivSt (X : Nat) (y U Q : List Nat) (m j : Nat) : Prop where
  lenU : U.length = m + y.length
  lenQ : Q.length = m
  dgsU : Dgs U
  dgsQ : Dgs Q
  eq : X = val Q * val y + val U
  low : val (U.drop j) < val y
  zero : Q.take j = List.replicate j 0
theorem DivSt.start {x y : List Nat} {m : Nat} (hx : Dgs x) (hm : x.length + 1 = m + y.length) (hy : 4294967296 ^ (y.length - 1) ≤ val y) (hy1 : 0 < y.length) : DivSt (val x) y (x ++ [0]) (List.replicate m 0) m m := by
  refine ⟨by simp; omega, by simp, dgs_append hx (dgs_cons (by omega) dgs_nil), dgs_zeros _, ?_, ?_, by simp [List.take_replicate]⟩
  · rw [val_zeros, val_append]; simp [val]
  · rw [List.drop_append_of_le_length (by omega), val_append]
    have h1 := val_lt (hx.drop m)
    have h2 : (x.drop m).length = y.length - 1 := by rw [List.length_drop]; omega
    rw [h2] at h1
    simp only [val, Nat.mul_zero, Nat.add_zero]
    omega
theorem val_drop_zero {l : List Nat} {k : Nat} (h : val l < 4294967296 ^ k) : val (l.drop k) = 0 := by
  rcases Nat.lt_or_ge k l.length with hk | hk
  · have := val_split l k (by omega)
    rcases Nat.eq_zero_or_pos (val (l.drop k)) with h0 | h0
    · exact h0
    · exfalso
      have : 4294967296 ^ k * 1 ≤ 4294967296 ^ k * val (l.drop k) := Nat.mul_le_mul_left _ h0
      omega
  · rw [List.drop_eq_nil_of_le hk]; rfl
theorem lt_of_parts {a b c B : Nat} (h : a < B) (k : b < c) : a + B * b < B * c := by
  have : B * (b + 1) ≤ B * c := Nat.mul_le_mul_left _ k
  rw [Nat.mul_succ] at this
  omega
theorem DivSt.p1 {X m j : Nat} {y U Q : List Nat} (h : DivSt X y U Q m (j + 1)) (hj : j < m) : ((U.drop j).take (y.length + 1)).length = y.length + 1 := by
  have hU := h.lenU
  simp; omega
theorem DivSt.p2 {X m j : Nat} {y U Q : List Nat} (h : DivSt X y U Q m (j + 1)) (hyd : Dgs y) : val (U.drop (j + (y.length + 1))) = 0 := by
  have h2 := val_lt hyd
  have h3 := val_drop_zero (l := U.drop (j + 1)) (k := y.length) (Nat.lt_trans h.low h2)
  rw [List.drop_drop, show j + 1 + y.length = j + (y.length + 1) by omega] at h3
  exact h3
theorem DivSt.p3 {X m j : Nat} {y U Q : List Nat} (h : DivSt X y U Q m (j + 1)) (hj : j < m) (hyd : Dgs y) : val (U.drop j) = val ((U.drop j).take (y.length + 1)) := by
  have h3 := DivSt.p2 h hyd
  have hU := h.lenU
  have h4 := val_split (U.drop j) (y.length + 1) (by rw [List.length_drop]; omega)
  rw [List.drop_drop, h3, Nat.mul_zero, Nat.add_zero] at h4
  exact h4
theorem DivSt.p4 {X m j : Nat} {y U Q : List Nat} (h : DivSt X y U Q m (j + 1)) (hj : j < m) : val (U.drop j) < 4294967296 * val y := by
  have hU := h.lenU
  have hlt : j < U.length := by omega
  have h7 := h.dgsU.get hlt
  have h5 := val_drop hlt
  have h6 := h.low
  rw [h5]
  generalize val (U.drop (j + 1)) = A at *
  generalize val y = C at *
  generalize U[j] = D at *
  exact lt_of_parts h7 h6
theorem DivSt.p5 {X m j : Nat} {y U Q : List Nat} (h : DivSt X y U Q m (j + 1)) (hj : j < m) (hyd : Dgs y) : val ((U.drop j).take (y.length + 1)) = val (U.drop j) := (DivSt.p3 h hj hyd).symm
theorem lt_of_eqlt {a b c : Nat} (h : a = b) (k : b < c) : a < c := by omega
theorem DivSt.p6 {X m j : Nat} {y U Q : List Nat} (h : DivSt X y U Q m (j + 1)) (hj : j < m) (hyd : Dgs y) : val ((U.drop j).take (y.length + 1)) < 4294967296 * val y := lt_of_eqlt (DivSt.p5 h hj hyd) (DivSt.p4 h hj)
theorem val_putPart {U part : List Nat} {j : Nat} (hj : j ≤ U.length) (h0 : val (U.drop (j + part.length)) = 0) : val (putPart U part j) = val (U.take j) + 4294967296 ^ j * val part := by
  unfold putPart
  rw [val_append, val_append, h0, List.length_take, Nat.min_eq_left hj, Nat.mul_zero, Nat.add_zero]
theorem val_set_zero {Q : List Nat} {j q : Nat} (hj : j < Q.length) (h0 : Q[j] = 0) : val (Q.set j q) = val Q + 4294967296 ^ j * q := by
  have a1 := val_split (Q.set j q) j (by rw [List.length_set]; omega)
  have a2 := val_split Q j (by omega)
  rw [val_drop (by rw [List.length_set]; exact hj), List.getElem_set_self, List.drop_set_of_lt (by omega), List.take_set_of_le (by omega)] at a1
  rw [val_drop hj, h0, Nat.zero_add] at a2
  rw [Nat.mul_add] at a1
  rw [a1, a2]
  generalize 4294967296 ^ j * (4294967296 * val (List.drop (j + 1) Q)) = A
  generalize 4294967296 ^ j * q = C
  omega
theorem DivSt.zero_at {X m j : Nat} {y U Q : List Nat} (h : DivSt X y U Q m (j + 1)) (hj : j < Q.length) : Q[j] = 0 := by
  have := congrArg (fun l => l[j]?) h.zero
  simp only [List.getElem?_take, List.getElem?_replicate] at this
  rw [if_pos (by omega), if_pos (by omega), List.getElem?_eq_getElem hj] at this
  injection this
theorem div_eq_step {X Q Y U Ut K P Pn q : Nat} (h : X = Q * Y + U) (hU : U = Ut + K * P) (hP : P = Y * q + Pn) : X = (Q + K * q) * Y + (Ut + K * Pn) := by
  subst hP hU h
  rw [Nat.add_mul, Nat.mul_add, Nat.mul_assoc, Nat.mul_comm q Y]
  omega
theorem DivSt.step {X m j q : Nat} {y U Q part : List Nat} (h : DivSt X y U Q m (j + 1)) (hj : j < m) (hyd : Dgs y) (hl : part.length = y.length + 1) (hd : Dgs part)
    (hq : q = val ((U.drop j).take (y.length + 1)) / val y) (hv : val part = val ((U.drop j).take (y.length + 1)) % val y) : DivSt X y (putPart U part j) (Q.set j q) m j := by
  have h1 := h.p1 hj
  have h2 := h.p3 hj hyd
  have h3 := h.p2 hyd
  have h4 := h.p6 hj hyd
  have hU := h.lenU
  have hQ := h.lenQ
  have hy0 : 0 < val y := Nat.pos_of_ne_zero fun e => by rw [e] at h4; exact absurd h4 (by rw [Nat.mul_zero]; exact Nat.not_lt_zero _)
  have hq2 : q < 4294967296 := by rw [hq]; exact Nat.div_lt_of_lt_mul (by rw [Nat.mul_comm]; exact h4)
  rw [← hl] at h3
  have e3 := val_putPart (part := part) (show j ≤ U.length by omega) h3
  have e4 := val_set_zero (q := q) (show j < Q.length by omega) (h.zero_at (by omega))
  have e2 : val U = val (U.take j) + 4294967296 ^ j * val (U.drop j) := val_split U j (by omega)
  refine ⟨by rw [putPart_len (by omega), hU], by rw [List.length_set, hQ], ?_, ?_, ?_, ?_, ?_⟩
  · unfold putPart
    exact dgs_append (h.dgsU.take _) (dgs_append hd (h.dgsU.drop _))
  · intro x hx
    rcases List.mem_or_eq_of_mem_set hx with h5 | h5
    · exact h.dgsQ x h5
    · rw [h5]; exact hq2
  · rw [e4, e3]
    refine div_eq_step h.eq e2 ?_
    rw [h2, hq, hv]
    exact (Nat.div_add_mod _ _).symm
  · unfold putPart
    rw [List.drop_left' (by rw [List.length_take]; omega), val_append, h3, Nat.mul_zero, Nat.add_zero, hv]
    exact Nat.mod_lt _ hy0
  · rw [List.take_set_of_le (by omega)]
    have := congrArg (List.take j) h.zero
    rwa [List.take_take, Nat.min_eq_left (by omega), List.take_replicate, Nat.min_eq_left (by omega)] at this
theorem DivSt.done {X m : Nat} {y U Q : List Nat} (h : DivSt X y U Q m 0) : val Q = X / val y ∧ val U = X % val y := by
  have h1 := h.low
  rw [List.drop_zero] at h1
  have h2 := h.eq
  have := Nat.div_add_mod X (val y)
  constructor
  · refine (Nat.div_eq_of_lt_le ?_ ?_).symm
    · omega
    · rw [Nat.succ_mul]; omega
  · rw [h2, Nat.mul_comm, Nat.mul_add_mod, Nat.mod_eq_of_lt h1]
end Go.Proofs.YtbijjiadokgmoaaDoor
namespace Go.Proofs.YtbijjiadokgmoaaDoor
open Go.RowKit

theorem or32 {x y : Nat} (hx : x < 4294967296) (hy : y < 4294967296) : bits BinOp.or IntKind.u64 ((x : Int) * 4294967296) (y : Int) = ((x * 4294967296 + y : Nat) : Int) := by
  rw [show ((x : Int) * 4294967296) = ((x * 4294967296 : Nat) : Int) by omega, u64_or_nat _ _ (by omega) (by omega), show (4294967296 : Nat) = 2 ^ 32 by rfl, ← Nat.shiftLeft_eq, ← Nat.shiftLeft_add_eq_or_of_lt (by omega), Nat.shiftLeft_eq]

set_option maxHeartbeats 3200000 in
set_option maxRecDepth 1000000 in
theorem estimate_any {g j N N1 N2 c1 c2 b o q y1 y0 u2 u1 u0 : Nat} (w : World) (e1 : N = N1 + 1) (e2 : N = N2 + 2) (hN : N ≤ 1000000)
    (cu2 : w.cell? ⟨g, j + N, none⟩ = some (.int .u32 (u2 : Int))) (cu1 : w.cell? ⟨g, j + N1, none⟩ = some (.int .u32 (u1 : Int))) (cu0 : w.cell? ⟨g, j + N2, none⟩ = some (.int .u32 (u0 : Int)))
    (cy1 : w.cell? ⟨b, o + N1, none⟩ = some (.int .u32 (y1 : Int))) (cy0 : w.cell? ⟨b, o + N2, none⟩ = some (.int .u32 (y0 : Int)))
    (bu1 : u1 < 4294967296) (bu0 : u0 < 4294967296) (by1 : y1 < 4294967296) (by0 : y0 < 4294967296) (hy : 2147483648 ≤ y1) (hu2 : u2 ≤ y1) (hq : q < 4294967296)
    (hqu : q * (y1 * 4294967296 + y0) ≤ (u2 * 4294967296 + u1) * 4294967296 + u0) :
    Calls Tryd.prog 129 #[.slice (some ⟨g, j, none⟩) (N + 1) c1, .slice (some ⟨b, o, none⟩) N c2] w
      (fun e w' => ∃ d : Nat, e = .returned (.int .u32 (d : Int)) ∧ d < 4294967296 ∧ q ≤ d ∧ d * (y1 * 4294967296 + y0) ≤ (u2 * 4294967296 + u1) * 4294967296 + u0 ∧ ∃ k, w' = w.drewN k) := by
  obtain ⟨top, hT⟩ : ∃ t, u2 * 4294967296 + u1 = t := ⟨_, rfl⟩
  have HE0 : Hid (Est q y1 y0 u2 u1 u0 (top / y1) (top % y1)) := by rw [← hT]; exact Est.start hqu hy by1 hu2 bu1 bu0
  have HDN : Hid (∀ d r, Est q y1 y0 u2 u1 u0 d r → (4294967296 ≤ d ∨ r * 4294967296 + u0 < d * y0) → 0 < d ∧ q ≤ d - 1 ∧ (d - 1) * y1 + (r + y1) = u2 * 4294967296 + u1) := fun d r h ht => h.down hq hqu bu0 ht
  have HQU := Lib.hid hqu
  have bu2 : u2 < 4294967296 := by omega
  have htop : top < 18446744073709551616 := by omega
  have f1 : (N : Int) - 1 = (N1 : Int) := by omega
  have f2 : (N : Int) - 2 = (N2 : Int) := by omega
  have hN1 : (N1 : Int) < (N : Int) := by omega
  have hN2 : (N2 : Int) < (N : Int) := by omega
  have hN3 : N1 < N := by omega
  have hN4 : N2 < N := by omega
  have hN1i : (N1 : Int) ≤ 1000000 := by omega
  have hN2i : (N2 : Int) ≤ 1000000 := by omega
  have w1 : IntKind.i64.wrap (N1 : Int) = (N1 : Int) := IntWalk.i64_in _ (by omega)
  have w2 : IntKind.i64.wrap (N2 : Int) = (N2 : Int) := IntWalk.i64_in _ (by omega)
  have s1 : IntKind.u64.wrap ((u2 : Int) * 4294967296) = (u2 : Int) * 4294967296 := IntWalk.u64_in _ (by omega)
  have s2 : bits BinOp.or IntKind.u64 ((u2 : Int) * 4294967296) (u1 : Int) = (top : Int) := by rw [← hT]; exact or32 bu2 bu1
  clear e1 e2 hqu
  have d1 : (top : Int).tdiv (y1 : Int) = ((top / y1 : Nat) : Int) := rfl
  have d2 : (top : Int).tmod (y1 : Int) = ((top % y1 : Nat) : Int) := rfl
  have d3 : (top : Int) / (y1 : Int) = ((top / y1 : Nat) : Int) := by omega
  have d4 : (top : Int) % (y1 : Int) = ((top % y1 : Nat) : Int) := by omega
  have hdl : top / y1 ≤ top := Nat.div_le_self _ _
  have hml : top % y1 ≤ top := Nat.mod_le _ _
  have d5 : IntKind.u64.wrap ((top / y1 : Nat) : Int) = ((top / y1 : Nat) : Int) := IntWalk.u64_in _ ⟨Int.natCast_nonneg _, by omega⟩
  have d6 : IntKind.u64.wrap ((top % y1 : Nat) : Int) = ((top % y1 : Nat) : Int) := IntWalk.u64_in _ ⟨Int.natCast_nonneg _, by omega⟩
  have y1n : ((y1 : Int) == 0) = false := by rw [beq_eq_false_iff_ne]; omega
  have y1p : (0 : Int) < (y1 : Int) := by omega
  clear hdl hml
  have HTOP := Lib.hid hT
  clear hT
  generalize top / y1 = D0 at *
  generalize top % y1 = R0 at *
  go_enter Tryd.func129, Tryd.ntmps129
  go_wp2
  go_quiet (fail)
  go_wp2
  go_quiet (fail)
  go_wp2
  clear cu1 cu2 cy1 d1 d2 d3 d4 d5 d6 s1 s2
  go_loopw [8, 9] (fun D R wr => ∃ (d r k : Nat), D = .int .u64 d ∧ R = .int .u64 r ∧ Hid (Est q y1 y0 u2 u1 u0 d r) ∧ wr = w.drewN k) (fun D _ _ => (intOf D).toNat)
  case atStart => exact ⟨D0, R0, _, rfl, rfl, HE0.out, by first | rfl | exact World.drewN_drewN _ _ _⟩
  case round =>
    obtain ⟨d, r, k, rfl, rfl, HE, rfl⟩ := hrel
    have hdle := HE.out.d_le
    have hrl := HE.out.r_lt
    have cv0 : (w.drewN k).cell? ⟨g, j + N2, none⟩ = some (.int .u32 (u0 : Int)) := cu0
    have cz0 : (w.drewN k).cell? ⟨b, o + N2, none⟩ = some (.int .u32 (y0 : Int)) := cy0
    have s1 : IntKind.u64.wrap ((r : Int) * 4294967296) = (r : Int) * 4294967296 := IntWalk.u64_in _ (by omega)
    obtain ⟨t, ht⟩ : ∃ t, r * 4294967296 + u0 = t := ⟨_, rfl⟩
    have s2 : bits BinOp.or IntKind.u64 ((r : Int) * 4294967296) (u0 : Int) = (t : Int) := by rw [← ht]; exact or32 hrl bu0
    by_cases hd : 4294967296 ≤ d
    · have hdb : decide ((4294967296 : Int) ≤ (d : Int)) = true := decide_eq_true (by omega)
      obtain ⟨h0, h1, h2⟩ := HDN.out d r HE.out (.inl hd)
      have HT := Lib.hid ht
      clear ht s1 s2 hd
      obtain ⟨d', hd'⟩ : ∃ d', d = d' + 1 := ⟨d - 1, by omega⟩
      obtain ⟨r', hr'⟩ : ∃ r', r + y1 = r' := ⟨_, rfl⟩
      have fd : (d : Int) - 1 = (d' : Int) := by omega
      have fr : (r : Int) + (y1 : Int) = (r' : Int) := by omega
      have wd : IntKind.u64.wrap (d' : Int) = (d' : Int) := IntWalk.u64_in _ ⟨Int.natCast_nonneg _, by omega⟩
      have wr' : IntKind.u64.wrap (r' : Int) = (r' : Int) := IntWalk.u64_in _ ⟨Int.natCast_nonneg _, by omega⟩
      have hq1 : q ≤ d' := by omega
      have hsum : d' * y1 + r' = u2 * 4294967296 + u1 := by rw [← hr', show d' = d - 1 by omega]; exact h2
      by_cases hbr : 4294967296 ≤ r'
      · have hbb : decide ((4294967296 : Int) ≤ (r' : Int)) = true := decide_eq_true (by omega)
        obtain ⟨hdl, hst⟩ := Est.high (y0 := y0) (u0 := u0) hsum hbr hu2 bu1 by0
        have HRES : Hid (d' < 4294967296 ∧ q ≤ d' ∧ d' * (y1 * 4294967296 + y0) ≤ (u2 * 4294967296 + u1) * 4294967296 + u0) := ⟨hdl, hq1, by
          have e : d' * (y1 * 4294967296 + y0) = (d' * y1) * 4294967296 + d' * y0 := by rw [Nat.mul_add, Nat.mul_assoc]
          omega⟩
        have w32 : IntKind.u32.wrap (d' : Int) = (d' : Int) := by rw [IntKind.wrap_u32]; omega
        have HD := Lib.hid hd'
        have HRR := Lib.hid hr'
        clear hst hsum h1 h2 h0 hd' hr' hq1 hdl hbr
        go_wp2
        go_quiet (fail)
        go_wp2
        go_ret
        exact ⟨d', rfl, HRES.out.1, HRES.out.2.1, HRES.out.2.2, _, by first | rfl | exact World.drewN_drewN _ _ _ | (rw [World.drewN_drewN, World.drewN_drewN])⟩
      · have hbb : decide ((4294967296 : Int) ≤ (r' : Int)) = false := decide_eq_false (by omega)
        have HEN : Hid (Est q y1 y0 u2 u1 u0 d' r') := ⟨hsum, hq1, by omega, by omega⟩
        have HD := Lib.hid hd'
        have HRR := Lib.hid hr'
        clear hsum h1 h2 h0 hd' hr' hq1 hbr
        go_wp2
        go_quiet (fail)
        go_wp2
        go_roundw
        case rel => exact ⟨d', r', _, rfl, rfl, HEN.out, by first | rfl | exact World.drewN_drewN _ _ _⟩
        case measure => simp [intOf]; have := HD.out; omega
    · have hdb : decide ((4294967296 : Int) ≤ (d : Int)) = false := decide_eq_false (by omega)
      obtain ⟨p, hp⟩ : ∃ p, d * y0 = p := ⟨_, rfl⟩
      have hpl : d * y0 ≤ 4294967295 * 4294967295 := Nat.mul_le_mul (by omega) (by omega)
      have s3 : IntKind.u64.wrap ((d : Int) * (y0 : Int)) = (p : Int) := by rw [← hp]; exact u64_mul (by omega) by0
      by_cases htest : t < p
      · have hdc : decide (t < p) = true := decide_eq_true htest
        have hdd : decide ((t : Int) < (p : Int)) = true := decide_eq_true (by omega)
        obtain ⟨h0, h1, h2⟩ := HDN.out d r HE.out (.inr (by omega))
        have HT := Lib.hid ht
        have HP := Lib.hid hp
        clear ht hp htest hpl hd
        obtain ⟨d', hd'⟩ : ∃ d', d = d' + 1 := ⟨d - 1, by omega⟩
        obtain ⟨r', hr'⟩ : ∃ r', r + y1 = r' := ⟨_, rfl⟩
        have fd : (d : Int) - 1 = (d' : Int) := by omega
        have fr : (r : Int) + (y1 : Int) = (r' : Int) := by omega
        have wd : IntKind.u64.wrap (d' : Int) = (d' : Int) := IntWalk.u64_in _ ⟨Int.natCast_nonneg _, by omega⟩
        have wr' : IntKind.u64.wrap (r' : Int) = (r' : Int) := IntWalk.u64_in _ ⟨Int.natCast_nonneg _, by omega⟩
        have hq1 : q ≤ d' := by omega
        have hsum : d' * y1 + r' = u2 * 4294967296 + u1 := by rw [← hr', show d' = d - 1 by omega]; exact h2
        by_cases hbr : 4294967296 ≤ r'
        · have hbb : decide ((4294967296 : Int) ≤ (r' : Int)) = true := decide_eq_true (by omega)
          obtain ⟨hdl, hst⟩ := Est.high (y0 := y0) (u0 := u0) hsum hbr hu2 bu1 by0
          have HRES : Hid (d' < 4294967296 ∧ q ≤ d' ∧ d' * (y1 * 4294967296 + y0) ≤ (u2 * 4294967296 + u1) * 4294967296 + u0) := ⟨hdl, hq1, by
            have e : d' * (y1 * 4294967296 + y0) = (d' * y1) * 4294967296 + d' * y0 := by rw [Nat.mul_add, Nat.mul_assoc]
            omega⟩
          have w32 : IntKind.u32.wrap (d' : Int) = (d' : Int) := by rw [IntKind.wrap_u32]; omega
          have HD := Lib.hid hd'
          have HRR := Lib.hid hr'
          clear hst hsum h1 h2 h0 hd' hr' hq1 hdl hbr
          go_wp2
          go_quiet (fail)
          go_wp2
          go_ret
          exact ⟨d', rfl, HRES.out.1, HRES.out.2.1, HRES.out.2.2, _, by first | rfl | exact World.drewN_drewN _ _ _ | (rw [World.drewN_drewN, World.drewN_drewN])⟩
        · have hbb : decide ((4294967296 : Int) ≤ (r' : Int)) = false := decide_eq_false (by omega)
          have HEN : Hid (Est q y1 y0 u2 u1 u0 d' r') := ⟨hsum, hq1, by omega, by omega⟩
          have HD := Lib.hid hd'
          have HRR := Lib.hid hr'
          clear hsum h1 h2 h0 hd' hr' hq1 hbr
          go_wp2
          go_quiet (fail)
          go_wp2
          go_roundw
          case rel => exact ⟨d', r', _, rfl, rfl, HEN.out, by first | rfl | exact World.drewN_drewN _ _ _⟩
          case measure => simp [intOf]; have := HD.out; omega
      · have hdc : decide (t < p) = false := decide_eq_false htest
        have hdd : decide ((t : Int) < (p : Int)) = false := decide_eq_false (by omega)
        have HRES : Hid (d < 4294967296 ∧ q ≤ d ∧ d * (y1 * 4294967296 + y0) ≤ (u2 * 4294967296 + u1) * 4294967296 + u0) := ⟨by omega, HE.out.low, HE.out.stop (by omega)⟩
        have w32 : IntKind.u32.wrap (d : Int) = (d : Int) := by rw [IntKind.wrap_u32]; omega
        have HT := Lib.hid ht
        have HP := Lib.hid hp
        clear ht hp htest hpl hd
        go_wp2
        go_quiet (fail)
        go_wp2
        go_ret
        exact ⟨d, rfl, HRES.out.1, HRES.out.2.1, HRES.out.2.2, _, by first | rfl | exact World.drewN_drewN _ _ _ | (rw [World.drewN_drewN, World.drewN_drewN])⟩
end Go.Proofs.YtbijjiadokgmoaaDoor
namespace Go.Proofs.YtbijjiadokgmoaaDoor
open Go.RowKit

/-- The first k digits of x have been shifted into z. -/
structure ShL (x z : List Nat) (wh pt k : Nat) : Prop where
  len : z.length = x.length + wh + 1
  dgs : Dgs z
  eq : val z = val (x.take k) * 2 ^ pt * 4294967296 ^ wh
  zero : z.drop (k + wh + 1) = List.replicate (x.length - k) 0
  low : ∀ h : k + wh < z.length, z[k + wh] < 2 ^ pt
theorem ShL.start (x : List Nat) (wh pt : Nat) : ShL x (List.replicate (x.length + wh + 1) 0) wh pt 0 :=
  ⟨by simp, dgs_zeros _, by simp [val_zeros, val], by simp [List.drop_replicate] <;> omega, fun h => by simp; exact Nat.pos_of_ne_zero (by simp)⟩
theorem val_set {l : List Nat} {i v : Nat} (h : i < l.length) : val (l.set i v) + 4294967296 ^ i * l[i] = val l + 4294967296 ^ i * v := by
  have a1 := val_split (l.set i v) i (by rw [List.length_set]; omega)
  have a2 := val_split l i (by omega)
  rw [val_drop (by rw [List.length_set]; exact h), List.getElem_set_self, List.drop_set_of_lt (by omega), List.take_set_of_le (by omega)] at a1
  rw [val_drop h] at a2
  rw [Nat.mul_add] at a1 a2
  generalize 4294967296 ^ i * (4294967296 * val (List.drop (i + 1) l)) = A at *
  generalize 4294967296 ^ i * v = C at *
  generalize 4294967296 ^ i * l[i] = D at *
  omega
theorem Dgs.set {l : List Nat} (h : Dgs l) {i v : Nat} (hv : v < 4294967296) : Dgs (l.set i v) := fun x hx => by
  rcases List.mem_or_eq_of_mem_set hx with h1 | h1
  · exact h x h1
  · rw [h1]; exact hv
/-- The low digit of a shifted one leaves room for what was shifted out of the one below. -/
theorem sh_room {d pt lo hi t : Nat} (hd : d < 4294967296) (hp : pt < 32) (ht : t < 2 ^ pt) (he : d * 2 ^ pt = lo + 4294967296 * hi) (hl : lo < 4294967296) : t + lo < 4294967296 ∧ t ||| lo = t + lo ∧ hi < 2 ^ pt := by
  have e32 : (4294967296 : Nat) = 2 ^ (32 - pt) * 2 ^ pt := by rw [← Nat.pow_add, show 32 - pt + pt = 32 by omega]
  have hdvd : lo = 2 ^ pt * (d % 2 ^ (32 - pt)) := by
    have h1 : lo = (d * 2 ^ pt) % 4294967296 := by rw [he, Nat.add_mul_mod_self_left, Nat.mod_eq_of_lt hl]
    rw [h1, e32, Nat.mul_mod_mul_right, Nat.mul_comm]
  have hm : d % 2 ^ (32 - pt) < 2 ^ (32 - pt) := Nat.mod_lt _ (Nat.pow_pos (by omega))
  have hle : 2 ^ pt * (d % 2 ^ (32 - pt) + 1) ≤ 2 ^ pt * 2 ^ (32 - pt) := Nat.mul_le_mul_left _ hm
  rw [Nat.mul_succ, ← hdvd, Nat.mul_comm (2 ^ pt) (2 ^ (32 - pt)), ← e32] at hle
  refine ⟨by omega, ?_, ?_⟩
  · rw [hdvd, Nat.or_comm t, Nat.add_comm t]
    exact (Nat.two_pow_add_eq_or_of_lt ht _).symm
  · have h2 : d * 2 ^ pt < 4294967296 * 2 ^ pt := Nat.mul_lt_mul_of_pos_right hd (Nat.pow_pos (by omega))
    have h3 : 4294967296 * hi < 4294967296 * 2 ^ pt := by omega
    exact Nat.lt_of_mul_lt_mul_left h3
theorem ShL.next {x z : List Nat} {wh pt k lo hi : Nat} (h : ShL x z wh pt k) (hk : k < x.length) (hkz : k + wh < z.length) (he : x[k] * 2 ^ pt = lo + 4294967296 * hi) (hs : z[k + wh] + lo < 4294967296) (hh : hi < 2 ^ pt) (hb : hi < 4294967296) :
    ShL x ((z.set (k + wh) (z[k + wh] + lo)).set (k + wh + 1) hi) wh pt (k + 1) := by
  have hl := h.len
  have hk2 : k + wh + 1 < (z.set (k + wh) (z[k + wh] + lo)).length := by rw [List.length_set]; omega
  have hz0 : (z.set (k + wh) (z[k + wh] + lo))[k + wh + 1] = 0 := by
    rw [List.getElem_set_ne (by omega)]
    have := congrArg (fun l => l[0]?) h.zero
    simp only [List.getElem?_drop, List.getElem?_replicate, Nat.add_zero] at this
    rw [if_pos (by omega), List.getElem?_eq_getElem (by omega)] at this
    injection this
  refine ⟨by rw [List.length_set, List.length_set, hl], (h.dgs.set hs).set hb, ?_, ?_, fun h1 => ?_⟩
  · have a1 := val_set (v := hi) hk2
    have a2 := val_set (v := z[k + wh] + lo) hkz
    rw [hz0, Nat.mul_zero, Nat.add_zero] at a1
    rw [a1, val_take_succ hk]
    have e := h.eq
    have e5 : (val (x.take k) + 4294967296 ^ k * x[k]) * 2 ^ pt * 4294967296 ^ wh = val z + 4294967296 ^ (k + wh) * (lo + 4294967296 * hi) := by
      rw [e, ← he, Nat.pow_add, Nat.add_mul, Nat.add_mul]
      congr 1
      rw [Nat.mul_assoc, Nat.mul_assoc, Nat.mul_assoc, ← Nat.mul_assoc x[k], Nat.mul_comm (4294967296 ^ wh)]
    rw [e5, Nat.pow_succ]
    rw [Nat.mul_add] at a2 ⊢
    rw [Nat.mul_assoc]
    generalize 4294967296 ^ (k + wh) * (4294967296 * hi) = P at *
    omega
  · have := congrArg (List.drop 1) h.zero
    rw [List.drop_drop, List.drop_replicate] at this
    rw [List.drop_set_of_lt (by omega), List.drop_set_of_lt (by omega), show k + 1 + wh + 1 = k + wh + 1 + 1 by omega, this]
    congr 1
  · have : ((z.set (k + wh) (z[k + wh] + lo)).set (k + wh + 1) hi)[k + 1 + wh] = ((z.set (k + wh) (z[k + wh] + lo)).set (k + wh + 1) hi)[k + wh + 1]'(by rw [List.length_set]; exact hk2) := by congr 1; omega
    rw [this, List.getElem_set_self]
    exact hh
theorem ShL.done {x z : List Nat} {wh pt n : Nat} (h : ShL x z wh pt x.length) (hn : n = 32 * wh + pt) : val z = val x * 2 ^ n := by
  have e := h.eq
  rw [List.take_length] at e
  rw [e, hn, Nat.pow_add, Nat.pow_mul, Nat.mul_assoc, Nat.mul_comm (2 ^ pt)]

set_option maxHeartbeats 1600000 in
set_option maxRecDepth 1000000 in
theorem shl_any {B c wh pt n : Nat} {A : Option Addr} {xs : List Nat} (w : World) (h : Rd w B A c xs) (hB : B ≤ w.heap.size) (hx : xs.length ≤ 400000) (hw : wh ≤ 400000) (hp : pt < 32) (hn : n = 32 * wh + pt) :
    Calls Tryd.prog 103 #[.slice A xs.length c, .int .i64 n] w (MagRet w (val xs * 2 ^ n)) := by
  have hlc := h.2.1
  have HX := Lib.hid h
  have HMK := Lib.hid (fun W => make_zeros (n := xs.length + wh + 1) ((xs.length : Int) + (wh : Int) + 1) W (by omega) (by omega))
  have hmk := HMK.out
  have q1 : (n : Int) / 32 = (wh : Int) := by omega
  have q2 : (n : Int) % 32 = (pt : Int) := by omega
  have q3 : IntKind.u64.wrap (pt : Int) = (pt : Int) := IntWalk.u64_in _ (by omega)
  have hn0 : (0 : Int) ≤ (n : Int) := by omega
  have hpi : (pt : Int) < 32 := by omega
  have HO0 := Lib.hid (own_zeros w (xs.length + wh + 1))
  have HNN := Lib.hid hn
  clear h HMK hn
  go_enter Tryd.func103, Tryd.ntmps103
  go_wp2
  clear hmk
  go_loopw [8, 9, 10, 24] (fun _ _ _ I wr => ∃ (k : Nat) (z : List Nat), I = .int .i64 k ∧ k ≤ xs.length ∧ Hid (ShL xs z wh pt k) ∧ Hid (Own wr w.heap.size 0 z) ∧ Hid (Gr w wr)) (fun _ _ _ I _ => xs.length - (intOf I).toNat)
  case atStart => exact ⟨0, _, rfl, Nat.zero_le _, ShL.start xs wh pt, HO0.out, (Gr.refl _).alloc _⟩
  case round =>
    obtain ⟨k, z, rfl, hk, HS, HO, HG⟩ := hrel
    by_cases hlt : k < xs.length
    · have hlti : (k : Int) < (xs.length : Int) := by omega
      have hzl := HS.out.len
      have HX2 := Lib.hid (HX.out.below (HG.out.mono hB))
      obtain ⟨b, o, rfl, _, hcx⟩ := HX2.out.at_ hlt
      have hd := HX2.out.dgs.get hlt
      have hkz : k + wh < z.length := by omega
      have hcz := HO.out.cell hkz
      have hfz := HO.out.free (k + wh)
      rw [Nat.zero_add] at hcz
      have ht := HS.out.low hkz
      obtain ⟨lo, hlo⟩ : ∃ lo, (xs[k] * 2 ^ pt) % 4294967296 = lo := ⟨_, rfl⟩
      obtain ⟨hi, hhi⟩ : ∃ hi, (xs[k] * 2 ^ pt) / 4294967296 = hi := ⟨_, rfl⟩
      have hll : lo < 4294967296 := by rw [← hlo]; exact Nat.mod_lt _ (by omega)
      have he : xs[k] * 2 ^ pt = lo + 4294967296 * hi := by rw [← hlo, ← hhi]; exact (Nat.mod_add_div _ _).symm
      obtain ⟨r1, r2, r3⟩ := sh_room hd hp ht he hll
      have hpp : 2 ^ pt ≤ 2147483648 := Nat.pow_le_pow_right (n := 2) (by omega) (show pt ≤ 31 by omega)
      have hhl : hi < 4294967296 := by omega
      have HN1 := Lib.hid (HS.out.next hlt hkz he r1 r3 hhl)
      have HO1 := Lib.hid (HO.out.setCell hkz r1)
      have hkz2 : k + wh + 1 < (z.set (k + wh) (z[k + wh] + lo)).length := by rw [List.length_set]; omega
      have HO2 := Lib.hid (HO1.out.setCell hkz2 hhl)
      have hcz1 := HO1.out.cell hkz2
      have hfz1 := HO1.out.free (k + wh + 1)
      simp only [Nat.zero_add] at HO1 HO2 hcz1
      obtain ⟨u0, hu0⟩ : ∃ u0 : Nat, (wr.setCell ⟨w.heap.size, k + wh, none⟩ (.int .u32 ((z[k + wh] + lo : Nat) : Int))).cell? ⟨w.heap.size, k + wh + 1, none⟩ = some (.int .u32 (u0 : Int)) := ⟨_, hcz1⟩
      have hfz2 : (wr.setCell ⟨w.heap.size, k + wh, none⟩ (.int .u32 ((z[k + wh] + lo : Nat) : Int))).frozen? ⟨w.heap.size, k + wh + 1, none⟩ = false := by
        have := hfz1; simpa only [Nat.zero_add] using this
      clear hcz1 hfz1
      have HG1 : Hid (Gr w ((wr.setCell ⟨w.heap.size, k + wh, none⟩ (.int .u32 ((z[k + wh] + lo : Nat) : Int))).setCell ⟨w.heap.size, k + wh + 1, none⟩ (.int .u32 (hi : Int)))) := Below.setCell (Below.setCell HG.out (Nat.le_refl _) _) (Nat.le_refl _) _
      have hww : xs[k] * 2 ^ pt ≤ 4294967295 * 2147483648 := Nat.mul_le_mul (by omega) hpp
      have e1 : IntKind.u64.wrap ((xs[k] : Int) * 2 ^ pt) = ((xs[k] * 2 ^ pt : Nat) : Int) := by
        rw [show ((xs[k] : Int) * 2 ^ pt) = ((xs[k] * 2 ^ pt : Nat) : Int) by rw [Int.natCast_mul, Int.natCast_pow]; rfl]
        exact IntWalk.u64_in _ ⟨Int.natCast_nonneg _, by omega⟩
      have e3 : bits BinOp.or IntKind.u32 (z[k + wh] : Int) (lo : Int) = ((z[k + wh] + lo : Nat) : Int) := by
        rw [u32_or_nat _ _ (by omega) (by omega), r2]
      generalize xs[k] * 2 ^ pt = W at *
      have e2 : (W : Int) % 4294967296 = (lo : Int) := by omega
      have e4 : (W : Int) / 4294967296 = (hi : Int) := by omega
      have e5 : (hi : Int) % 4294967296 = (hi : Int) := by omega
      have e6 : IntKind.u32.wrap (hi : Int) = (hi : Int) := by rw [IntKind.wrap_u32]; omega
      generalize xs[k] = d at *
      have hkw : k + wh + 1 < xs.length + wh + 1 := by omega
      have hkw2 : k + wh < xs.length + wh + 1 := by omega
      generalize hsn : z[k + wh] + lo = sn at *
      generalize z[k + wh] = t at *
      clear r2 he hlo hhi hww hpp hsn
      go_wp2
      go_roundw
      case rel => exact ⟨k + 1, _, by go_num, hlt, HN1.out, HO2.out, HG1.out⟩
      case measure => simp [intOf]; omega
    · have hn1 : ¬ (k : Int) < (xs.length : Int) := by omega
      obtain rfl : k = xs.length := by omega
      have hzl := HS.out.len
      have hzv := HS.out.done HNN.out
      have HT : Hid (Calls Tryd.prog 55 #[.slice (some ⟨w.heap.size, 0, none⟩) (xs.length + wh + 1) (xs.length + wh + 1)] wr fun e w' => e = .returned (.slice (some ⟨w.heap.size, 0, none⟩) (digs (val xs * 2 ^ n)).length (xs.length + wh + 1)) ∧ wr = w') := by
        have := trim_any wr (HO.out.rd (c := xs.length + wh + 1) (B := wr.heap.size) (by omega) (by unfold maxLen; omega) HO.out.lt) (by omega)
        rwa [hzv, hzl] at this
      have HRES : Hid (Rd wr wr.heap.size (some ⟨w.heap.size, 0, none⟩) (xs.length + wh + 1) (digs (val xs * 2 ^ n))) := by
        have h5 := HO.out.rd (c := xs.length + wh + 1) (B := wr.heap.size) (by omega) (by unfold maxLen; omega) HO.out.lt
        have h6 := digs_take HO.out.dgs
        rw [hzv] at h6
        rw [h6]; exact h5.take _
      clear hzl hzv
      go_wp2_with (go_at_call 55; ((with_reducible refine HT.out.mono ?_); rintro e w' ⟨rfl, rfl⟩))
      go_ret
      exact ⟨_, _, rfl, HRES.out, fun a ha => by injection ha with ha; rw [← ha]; exact Nat.le_refl _, HG.out⟩
end Go.Proofs.YtbijjiadokgmoaaDoor
namespace Go.Proofs.YtbijjiadokgmoaaDoor
open Go.RowKit

/-- The first k digits have been shifted. -/
structure ShR (x zi : List Nat) (pt k : Nat) : Prop where
  up : Upto x zi k
  eq : val (zi.take k) = (val x / 2 ^ pt) % 4294967296 ^ k
theorem ShR.start {x : List Nat} (pt : Nat) (h : Dgs x) : ShR x x pt 0 := ⟨.start h, by simp [val, Nat.mod_one]⟩
theorem shr_mod {a b r pt : Nat} (hp : pt < 32) : ((a + 4294967296 * (b + 4294967296 * r)) / 2 ^ pt) % 4294967296 = ((a + 4294967296 * b) / 2 ^ pt) % 4294967296 := by
  have e32 : (4294967296 : Nat) = 2 ^ pt * 2 ^ (32 - pt) := by rw [← Nat.pow_add, show pt + (32 - pt) = 32 by omega]
  have e : a + 4294967296 * (b + 4294967296 * r) = (a + 4294967296 * b) + 2 ^ pt * (4294967296 * (2 ^ (32 - pt) * r)) := by
    rw [Nat.mul_add, ← Nat.add_assoc]
    congr 1
    rw [Nat.mul_left_comm (2 ^ pt), ← Nat.mul_assoc (2 ^ pt), ← e32]
  rw [e, Nat.add_mul_div_left _ _ (Nat.pow_pos (by omega)), Nat.add_mul_mod_self_left]
theorem val_drop_get (x : List Nat) (k : Nat) : val (x.drop k) = x.getD k 0 + 4294967296 * val (x.drop (k + 1)) := by
  rcases Nat.lt_or_ge k x.length with h | h
  · rw [val_drop h, List.getD_eq_getElem?_getD, List.getElem?_eq_getElem h]; rfl
  · rw [List.drop_eq_nil_of_le h, List.drop_eq_nil_of_le (by omega), List.getD_eq_getElem?_getD, List.getElem?_eq_none h]; rfl
theorem ShR.next {x zi : List Nat} {pt k v : Nat} (h : ShR x zi pt k) (hd : Dgs x) (hk : k < x.length) (hp : pt < 32) (hv : v = ((x[k] + 4294967296 * x.getD (k + 1) 0) / 2 ^ pt) % 4294967296) : ShR x (zi.set k v) pt (k + 1) := by
  obtain ⟨h1, h2, _⟩ := h.up.set hk (s := v) (by rw [hv]; exact Nat.mod_lt _ (by omega))
  refine ⟨h1, ?_⟩
  rw [h2, h.eq, Nat.pow_succ, Nat.mod_mul, Nat.div_div_eq_div_mul, Nat.mul_comm (2 ^ pt), ← Nat.div_div_eq_div_mul]
  have e1 := val_split x k (by omega)
  have e2 : val x / 4294967296 ^ k = val (x.drop k) := by
    rw [e1, Nat.add_mul_div_left _ _ (Nat.pow_pos (by omega)), Nat.div_eq_of_lt, Nat.zero_add]
    have e3 := val_lt (hd.take k)
    rwa [List.length_take, Nat.min_eq_left (by omega)] at e3
  rw [e2, val_drop hk, val_drop_get x (k + 1), shr_mod hp, hv]
theorem ShR.done {x zi : List Nat} {pt : Nat} (h : ShR x zi pt x.length) (hd : Dgs x) : val zi = val x / 2 ^ pt := by
  have e := h.eq
  rw [List.take_of_length_le (by rw [h.up.len]; exact Nat.le_refl _)] at e
  rw [e, Nat.mod_eq_of_lt]
  exact Nat.lt_of_le_of_lt (Nat.div_le_self _ _) (val_lt hd)
theorem shr_cast {a pt v : Nat} (h : a / 2 ^ pt % 4294967296 = v) : (a : Int) / 2 ^ pt % 4294967296 = (v : Int) := by
  rw [← h, Int.natCast_emod, Int.natCast_ediv, Int.natCast_pow]; rfl
theorem or32r {x y : Nat} (hx : x < 4294967296) (hy : y < 4294967296) : bits BinOp.or IntKind.u64 (x : Int) ((y : Int) * 4294967296) = ((x + 4294967296 * y : Nat) : Int) := by
  rw [show ((y : Int) * 4294967296) = ((y * 4294967296 : Nat) : Int) by omega, u64_or_nat _ _ (by omega) (by omega), Nat.or_comm, show (4294967296 : Nat) = 2 ^ 32 by rfl, ← Nat.shiftLeft_eq, ← Nat.shiftLeft_add_eq_or_of_lt (by omega), Nat.shiftLeft_eq, Nat.add_comm, Nat.mul_comm]

set_option maxHeartbeats 1600000 in
set_option maxRecDepth 1000000 in
theorem shr_zero {B c wh pt n : Nat} {A : Option Addr} {xs : List Nat} (w : World) (h : Rd w B A c xs) (hw : wh ≤ 400000) (hp : pt < 32) (hn : n = 32 * wh + pt) (hle : xs.length ≤ wh) :
    Calls Tryd.prog 102 #[.slice A xs.length c, .int .i64 n] w (MagRet w (val xs / 2 ^ n)) := by
  have hv : val xs / 2 ^ n = 0 := by
    refine Nat.div_eq_of_lt (Nat.lt_of_lt_of_le (val_lt h.dgs) ?_)
    rw [hn, Nat.pow_add, Nat.pow_mul]
    exact Nat.le_trans (Nat.pow_le_pow_right (by omega) hle) (Nat.le_mul_of_pos_right _ (Nat.pow_pos (by omega)))
  have HR := Lib.hid (MagRet.zero w)
  rw [hv]
  have q1 : (n : Int) / 32 = (wh : Int) := by omega
  have q2 : (n : Int) % 32 = (pt : Int) := by omega
  have q3 : IntKind.u64.wrap (pt : Int) = (pt : Int) := IntWalk.u64_in _ (by omega)
  have hn0 : (0 : Int) ≤ (n : Int) := by omega
  have hl1 : (xs.length : Int) ≤ (wh : Int) := by omega
  clear h hn hv
  generalize xs.length = l at *
  go_enter Tryd.func102, Tryd.ntmps102
  go_wp2
  go_ret
  exact HR.out
set_option maxHeartbeats 1600000 in
set_option maxRecDepth 1000000 in
theorem shr_some {B c wh pt n : Nat} {A : Option Addr} {xs : List Nat} (w : World) (h : Rd w B A c xs) (hx : xs.length ≤ 400000) (hp : pt < 32) (hn : n = 32 * wh + pt) (hlt : wh < xs.length) :
    Calls Tryd.prog 102 #[.slice A xs.length c, .int .i64 n] w (MagRet w (val xs / 2 ^ n)) := by
  have hlc := h.2.1
  have hv : val (xs.drop wh) / 2 ^ pt = val xs / 2 ^ n := by
    rw [hn, Nat.pow_add, Nat.pow_mul, ← Nat.div_div_eq_div_mul]
    congr 1
    have e1 := val_split xs wh (by omega)
    rw [e1, Nat.add_mul_div_left _ _ (Nat.pow_pos (by omega)), Nat.div_eq_of_lt, Nat.zero_add]
    have := val_lt (h.dgs.take wh)
    rwa [List.length_take, Nat.min_eq_left (by omega)] at this
  obtain ⟨b, o, rfl, _, _⟩ := h.at_ (k := 0) (by omega)
  have hcw : ¬ c = wh := by omega
  have hdr := h.drop (n := wh) (by omega)
  rw [if_neg hcw] at hdr
  have hdl : (xs.drop wh).length = xs.length - wh := List.length_drop
  have HCL : Hid (Calls Tryd.prog 61 #[.slice (some ⟨b, o + wh, none⟩) (xs.length - wh) (c - wh)] w fun e w' => ∃ A' c', e = .returned (.slice A' (xs.length - wh) c') ∧ NewD w w' A' c' (xs.drop wh) ∧ Below w.heap.size w w') := by
    have := clone_any w hdr (by omega)
    rw [hdl] at this
    rw [show (Option.map (fun x : Addr => x.add wh) (some ⟨b, o, none⟩)) = some ⟨b, o + wh, none⟩ by simp [Addr.add]] at this
    exact this
  have HXD := Lib.hid (h.dgs.drop wh)
  have HV := Lib.hid hv
  have HDL := Lib.hid hdl
  have q1 : (n : Int) / 32 = (wh : Int) := by omega
  have q2 : (n : Int) % 32 = (pt : Int) := by omega
  have q3 : IntKind.u64.wrap (pt : Int) = (pt : Int) := IntWalk.u64_in _ (by omega)
  have hn0 : (0 : Int) ≤ (n : Int) := by omega
  have hl1 : (wh : Int) < (xs.length : Int) := by omega
  have hpi : (pt : Int) < 32 := by omega
  clear h hn hv hdr hdl
  generalize val xs / 2 ^ n = res at *
  generalize xs.drop wh = X at *
  go_enter Tryd.func102, Tryd.ntmps102
  go_wp2_with (go_at_call 61; fail)
  refine HCL.out.mono ?_
  rintro e w1 ⟨A', c', rfl, hnew, hb1⟩
  have hL0 : 0 < X.length := by rw [HDL.out]; omega
  obtain ⟨⟨_, _, he⟩ | ⟨g, rfl, hg, hown⟩, hlc', hcm⟩ := hnew
  · exact absurd hL0 (by rw [he]; exact Nat.lt_irrefl _)
  have HO1 := Lib.hid hown
  have HG1 : Hid (Gr w w1) := hb1
  have HLC : Hid (X.length ≤ c') := hlc'
  have HCM := Lib.hid hcm
  obtain ⟨L, hL⟩ : ∃ L, xs.length - wh = L := ⟨_, rfl⟩
  have hXL : X.length = L := by rw [HDL.out, hL]
  have HL := Lib.hid hL
  have HXL := Lib.hid hXL
  have hx1 : X.length ≤ L := Nat.le_of_eq hXL
  have hx2 : L ≤ X.length := Nat.le_of_eq hXL.symm
  have hL4 : L ≤ 400000 := by omega
  rw [hL]
  clear hown hb1 hlc' hcm hL hXL HCL
  go_wp2
  go_loopw [8, 9, 25] (fun _ _ I wr => ∃ (k : Nat) (zi : List Nat), I = .int .i64 k ∧ k ≤ L ∧ Hid (ShR X zi pt k) ∧ Hid (Own wr g 0 zi) ∧ Hid (Gr w wr)) (fun _ _ I _ => L - (intOf I).toNat)
  case atStart => exact ⟨0, X, rfl, Nat.zero_le _, ShR.start pt HXD.out, HO1.out, HG1.out⟩
  case round =>
    obtain ⟨k, zi, rfl, hk, HS, HO, HG⟩ := hrel
    by_cases hlt2 : k < L
    · have hlti : (k : Int) < (L : Int) := by omega
      have hzl := HS.out.up.len
      have hkx : k < X.length := by omega
      have hkz : k < zi.length := by omega
      have hcz := HO.out.cell hkz
      have hfz := HO.out.free k
      rw [Nat.zero_add] at hcz
      have hd1 := HO.out.dgs.get hkz
      have HN1 := Lib.hid (fun (v : Nat) (hv : v = ((X[k] + 4294967296 * X.getD (k + 1) 0) / 2 ^ pt) % 4294967296) => HS.out.next HXD.out hkx hp hv)
      have HGI := Lib.hid (HS.out.up.get (i := k) hkx)
      have HOS : Hid (∀ s : Nat, s < 4294967296 → Own (wr.setCell ⟨g, k, none⟩ (.int .u32 (s : Int))) g 0 (zi.set k s)) := fun s hs => by
        have := HO.out.setCell hkz hs
        rwa [Nat.zero_add] at this
      have HGS : Hid (∀ u : Value, Gr w (wr.setCell ⟨g, k, none⟩ u)) := fun u => Below.setCell HG.out hg _

      by_cases hlt3 : k + 1 < L
      · have hlt3i : (k : Int) + 1 < (L : Int) := by omega
        have hkz2 : k + 1 < zi.length := by omega
        have hcz2 := HO.out.cell hkz2
        rw [Nat.zero_add] at hcz2
        have hd2 := HO.out.dgs.get hkz2
        have hg2 : X.getD (k + 1) 0 = zi[k + 1] := by
          have h1 : (zi.drop k)[1]? = (X.drop k)[1]? := by rw [HS.out.up.rest]
          rw [List.getElem?_drop, List.getElem?_drop, List.getElem?_eq_getElem hkz2] at h1
          rw [List.getD_eq_getElem?_getD, ← h1]; rfl
        obtain ⟨v, hv⟩ : ∃ v, ((zi[k] + 4294967296 * zi[k + 1]) / 2 ^ pt) % 4294967296 = v := ⟨_, rfl⟩
        have HF := Lib.hid (HN1.out v (by rw [hg2, ← HGI.out]; exact hv.symm))
        have hvl : v < 4294967296 := by rw [← hv]; exact Nat.mod_lt _ (by omega)
        have HOV := Lib.hid (HOS.out v hvl)
        have HV2 := Lib.hid hv
        clear hv hg2 HN1 HGI HOS
        generalize zi[k] = x at *
        generalize zi[k + 1] = y at *
        have s1 : bits BinOp.or IntKind.u64 (x : Int) ((y : Int) * 4294967296) = ((x + 4294967296 * y : Nat) : Int) := or32r hd1 hd2
        have hve : ((x : Int) + 4294967296 * (y : Int)) / 2 ^ pt % 4294967296 = (v : Int) := by
          have := shr_cast HV2.out
          rwa [Int.natCast_add, Int.natCast_mul] at this
        go_wp2
        go_roundw
        case rel => exact ⟨k + 1, _, by go_num, hlt2, HF.out, HOV.out, HGS.out _⟩
        case measure => simp [intOf]; omega
      · have hlt3i : ¬ (k : Int) + 1 < (L : Int) := by omega
        have hg2 : X.getD (k + 1) 0 = 0 := by rw [List.getD_eq_getElem?_getD, List.getElem?_eq_none (by omega)]; rfl
        obtain ⟨v, hv⟩ : ∃ v, (zi[k] / 2 ^ pt) % 4294967296 = v := ⟨_, rfl⟩
        have HF := Lib.hid (HN1.out v (by rw [hg2, Nat.mul_zero, Nat.add_zero, ← HGI.out]; exact hv.symm))
        have hvl : v < 4294967296 := by rw [← hv]; exact Nat.mod_lt _ (by omega)
        have HOV := Lib.hid (HOS.out v hvl)
        have HV2 := Lib.hid hv
        clear hv hg2 HN1 HGI HOS
        generalize zi[k] = x at *
        have hve : (x : Int) / 2 ^ pt % 4294967296 = (v : Int) := shr_cast HV2.out
        go_wp2
        go_roundw
        case rel => exact ⟨k + 1, _, by go_num, hlt2, HF.out, HOV.out, HGS.out _⟩
        case measure => simp [intOf]; omega
    · have hn1 : ¬ (k : Int) < (L : Int) := by omega
      have hkL : k = X.length := by omega
      have hzl := HS.out.up.len
      have hzv : val zi = res := by
        have := HS.out
        rw [hkL] at this
        rw [← HV.out]; exact this.done HXD.out
      have hlcc := HLC.out
      have HRD : Hid (Rd wr wr.heap.size (some ⟨g, 0, none⟩) c' zi) := HO.out.rd (by omega) HCM.out HO.out.lt
      have HT : Hid (Calls Tryd.prog 55 #[.slice (some ⟨g, 0, none⟩) L c'] wr fun e w' => e = .returned (.slice (some ⟨g, 0, none⟩) (digs res).length c') ∧ wr = w') := by
        have := trim_any wr HRD.out (by omega)
        rwa [hzv, hzl, HXL.out] at this
      have HRES : Hid (Rd wr wr.heap.size (some ⟨g, 0, none⟩) c' (digs res)) := by
        have h6 := digs_take HO.out.dgs
        rw [hzv] at h6
        rw [h6]; exact HRD.out.take _
      clear hkL hzl hzv
      go_wp2_with (go_at_call 55; ((with_reducible refine HT.out.mono ?_); rintro e w' ⟨rfl, rfl⟩))
      go_ret
      exact ⟨_, _, rfl, HRES.out, fun a ha => by injection ha with ha; rw [← ha]; exact hg, HG.out⟩
theorem shr_any {B c n : Nat} {A : Option Addr} {xs : List Nat} (w : World) (h : Rd w B A c xs) (hx : xs.length ≤ 400000) (hn : n ≤ 12800000) :
    Calls Tryd.prog 102 #[.slice A xs.length c, .int .i64 n] w (MagRet w (val xs / 2 ^ n)) := by
  rcases Nat.lt_or_ge (n / 32) xs.length with hl | hl
  · exact shr_some w h hx (Nat.mod_lt n (by omega)) (by omega) hl
  · exact shr_zero w h (by omega) (Nat.mod_lt n (by omega)) (by omega) hl
end Go.Proofs.YtbijjiadokgmoaaDoor
