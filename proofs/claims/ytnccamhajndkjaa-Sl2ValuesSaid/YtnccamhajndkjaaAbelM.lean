/- Plain mathematics of the abelian class: a formula modulo 12 that multiplication adds up. -/
import Derived.Test.YtnccamhajndkjaaWordM
namespace Go.Proofs.Ytnccamhajndkjaa

/-- Congruence modulo 12. -/
def Cg (x y : Int) : Prop := x % 12 = y % 12
theorem Cg.refl (x : Int) : Cg x x := rfl
theorem Cg.add {x y z t : Int} (h : Cg x y) (k : Cg z t) : Cg (x + z) (y + t) := by unfold Cg at *; omega
theorem Cg.sub {x y z t : Int} (h : Cg x y) (k : Cg z t) : Cg (x - z) (y - t) := by unfold Cg at *; omega
theorem Cg.mul {x y z t : Int} (h : Cg x y) (k : Cg z t) : Cg (x * z) (y * t) := by
  unfold Cg at *; rw [Int.mul_emod, h, k, ← Int.mul_emod]
theorem Cg.trans {x y z : Int} (h : Cg x y) (k : Cg y z) : Cg x z := Eq.trans h k
theorem Cg.symm {x y : Int} (h : Cg x y) : Cg y x := Eq.symm h
/-- The class of a matrix modulo 12, before it is reduced. -/
def chP (a b c d : Int) : Int := (1 + 11 * (c * c)) * (b * d + 3 * (c + 11) * d + c + 3) + c * (a + d + 9)
theorem chP_cg {a b c d a' b' c' d' : Int} (h1 : Cg a a') (h2 : Cg b b') (h3 : Cg c c') (h4 : Cg d d') : Cg (chP a b c d) (chP a' b' c' d') := by
  unfold chP
  exact (((Cg.refl 1).add ((Cg.refl 11).mul (h3.mul h3))).mul ((((h2.mul h4).add (((Cg.refl 3).mul (h3.add (Cg.refl 11))).mul h4)).add h3).add (Cg.refl 3))).add (h3.mul ((h1.add h4).add (Cg.refl 9)))
/-- The same over natural numbers. -/
def chN (a b c d : Nat) : Nat := (1 + 11 * (c * c)) * (b * d + 3 * (c + 11) * d + c + 3) + c * (a + d + 9)
theorem chN_chP (a b c d : Nat) : chP a b c d = (chN a b c d : Nat) := by unfold chP chN; simp
/-- The law of T and of S, tried at all matrices modulo 12. -/
def okTS (a b c d : Nat) : Bool := (a * d) % 12 != (1 + b * c) % 12 || (chN a (b + a) c (d + c) % 12 == (chN a b c d + 1) % 12 && chN b (11 * a) d (11 * c) % 12 == (chN a b c d + 9) % 12)
def all12 (f : Nat → Bool) : Bool := f 0 && f 1 && f 2 && f 3 && f 4 && f 5 && f 6 && f 7 && f 8 && f 9 && f 10 && f 11
theorem all12_get {f : Nat → Bool} (h : all12 f = true) {n : Nat} (hn : n < 12) : f n = true := by
  simp [all12] at h
  match n, hn with
  | 0, _ => exact h.1.1.1.1.1.1.1.1.1.1.1
  | 1, _ => exact h.1.1.1.1.1.1.1.1.1.1.2
  | 2, _ => exact h.1.1.1.1.1.1.1.1.1.2
  | 3, _ => exact h.1.1.1.1.1.1.1.1.2
  | 4, _ => exact h.1.1.1.1.1.1.1.2
  | 5, _ => exact h.1.1.1.1.1.1.2
  | 6, _ => exact h.1.1.1.1.1.2
  | 7, _ => exact h.1.1.1.1.2
  | 8, _ => exact h.1.1.1.2
  | 9, _ => exact h.1.1.2
  | 10, _ => exact h.1.2
  | 11, _ => exact h.2
theorem okTS_all : all12 (fun a => all12 fun b => all12 fun c => all12 fun d => okTS a b c d) = true := by decide +kernel
theorem okTS_yes {a b c d : Nat} (h1 : a < 12) (h2 : b < 12) (h3 : c < 12) (h4 : d < 12) : okTS a b c d = true :=
  all12_get (f := fun d => okTS a b c d) (all12_get (f := fun c => all12 fun d => okTS a b c d) (all12_get (f := fun b => all12 fun c => all12 fun d => okTS a b c d) (all12_get okTS_all h1) h2) h3) h4
def M.ch (m : M) : Int := chP m.a m.b m.c m.d
theorem ch_TS {m : M} (h : m.det = 1) : Cg (chP m.a (m.b + m.a) m.c (m.d + m.c)) (m.ch + 1) ∧ Cg (chP m.b (11 * m.a) m.d (11 * m.c)) (m.ch + 9) := by
  unfold M.det at h
  unfold M.ch
  generalize m.a = a at *
  generalize m.b = b at *
  generalize m.c = c at *
  generalize m.d = d at *
  obtain ⟨x, hx⟩ : ∃ x : Nat, (x : Int) = a % 12 := ⟨(a % 12).toNat, by omega⟩
  obtain ⟨y, hy⟩ : ∃ y : Nat, (y : Int) = b % 12 := ⟨(b % 12).toNat, by omega⟩
  obtain ⟨z, hz⟩ : ∃ z : Nat, (z : Int) = c % 12 := ⟨(c % 12).toNat, by omega⟩
  obtain ⟨t, ht⟩ : ∃ t : Nat, (t : Int) = d % 12 := ⟨(d % 12).toNat, by omega⟩
  have cx : Cg a x := by unfold Cg; omega
  have cy : Cg b y := by unfold Cg; omega
  have cz : Cg c z := by unfold Cg; omega
  have ct : Cg d t := by unfold Cg; omega
  have hd : Cg (x * t) (1 + y * z) := by
    have k1 : Cg (a * d) (x * t) := cx.mul ct
    have k2 : Cg (b * c) (y * z) := cy.mul cz
    unfold Cg at *
    omega
  have hok := okTS_yes (a := x) (b := y) (c := z) (d := t) (by omega) (by omega) (by omega) (by omega)
  have hdn : (x * t) % 12 = (1 + y * z) % 12 := by
    unfold Cg at hd
    have e1 : ((x * t : Nat) : Int) % 12 = ((1 + y * z : Nat) : Int) % 12 := by simpa using hd
    omega
  unfold okTS at hok
  rw [hdn] at hok
  simp at hok
  obtain ⟨k1, k2⟩ := hok
  constructor
  · refine (chP_cg cx (cy.add cx) cz (ct.add cz)).trans (.trans ?_ ((chP_cg cx cy cz ct).add (Cg.refl 1)).symm)
    rw [← Int.natCast_add, ← Int.natCast_add, chN_chP, chN_chP]
    unfold Cg; omega
  · refine (chP_cg cy ((Cg.refl 11).mul cx) ct ((Cg.refl 11).mul cz)).trans (.trans ?_ ((chP_cg cx cy cz ct).add (Cg.refl 9)).symm)
    have e1 : (11 : Int) * (x : Int) = ((11 * x : Nat) : Int) := by simp
    have e2 : (11 : Int) * (z : Int) = ((11 * z : Nat) : Int) := by simp
    rw [e1, e2, chN_chP, chN_chP]
    unfold Cg; omega
theorem ch_T1 {m : M} (h : m.det = 1) : Cg (m.mul (M.T 1)).ch (m.ch + 1) := by
  have k := (ch_TS h).1
  refine Cg.trans ?_ k
  unfold M.ch
  refine chP_cg ?_ ?_ ?_ ?_ <;> (simp [M.mul, M.T]; unfold Cg; omega)
theorem ch_S {m : M} (h : m.det = 1) : Cg (m.mul M.S).ch (m.ch + 9) := by
  have k := (ch_TS h).2
  refine Cg.trans ?_ k
  unfold M.ch
  refine chP_cg ?_ ?_ ?_ ?_ <;> (simp [M.mul, M.S]; unfold Cg; omega)
theorem M.det_T (n : Int) : (M.T n).det = 1 := by simp [M.det, M.T]
theorem M.det_S : M.S.det = 1 := by simp [M.det, M.S]
theorem M.T_add (n k : Int) : (M.T n).mul (M.T k) = M.T (n + k) := by refine M.same ?_ ?_ ?_ ?_ <;> simp [M.mul, M.T] <;> omega
theorem det_mul_T {m : M} (h : m.det = 1) (n : Int) : (m.mul (M.T n)).det = 1 := by rw [M.det_mul, h, M.det_T]; rfl
theorem ch_Tn {m : M} (h : m.det = 1) : ∀ n : Nat, Cg (m.mul (M.T n)).ch (m.ch + n)
  | 0 => by
    have : m.mul (M.T ((0 : Nat) : Int)) = m := by refine M.same ?_ ?_ ?_ ?_ <;> simp [M.mul, M.T]
    rw [this]; unfold Cg; omega
  | n + 1 => by
    have e : m.mul (M.T ((n + 1 : Nat) : Int)) = (m.mul (M.T n)).mul (M.T 1) := by rw [M.mul_assoc, M.T_add]; rfl
    rw [e]
    have k := ch_T1 (det_mul_T h (n : Int))
    have k2 := ch_Tn h n
    unfold Cg at *; omega
theorem ch_T {m : M} (h : m.det = 1) (n : Int) : Cg (m.mul (M.T n)).ch (m.ch + n) := by
  rcases Int.lt_or_le n 0 with hn | hn
  · obtain ⟨k, rfl⟩ : ∃ k : Nat, n = -(k : Int) := ⟨(-n).toNat, by omega⟩
    have e := ch_Tn (det_mul_T h (-(k : Int))) k
    rw [M.mul_assoc, M.T_add, show -(k : Int) + k = 0 by omega, show m.mul (M.T 0) = m by refine M.same ?_ ?_ ?_ ?_ <;> simp [M.mul, M.T]] at e
    unfold Cg at *; omega
  · obtain ⟨k, rfl⟩ : ∃ k : Nat, n = (k : Int) := ⟨n.toNat, by omega⟩
    exact ch_Tn h k
theorem ch_stn {m : M} (h : m.det = 1) (n : Int) : Cg (m.stn n).ch (m.ch + 9 + n) := by
  rw [M.stn_eq]
  have k1 := ch_S h
  have k2 := ch_T (m := m.mul M.S) (by rw [M.det_mul, h, M.det_S]; rfl) n
  unfold Cg at *; omega
theorem ch_neg {m : M} (h : m.det = 1) : Cg m.neg.ch (m.ch + 6) := by
  have e : m.neg = (m.mul M.S).mul M.S := by refine M.same ?_ ?_ ?_ ?_ <;> simp [M.mul, M.S, M.neg]
  rw [e]
  have k1 := ch_S h
  have k2 := ch_S (m := m.mul M.S) (by rw [M.det_mul, h, M.det_S]; rfl)
  unfold Cg at *; omega
/-- What the rest of a word adds. -/
def sumW : List Int → Int
  | [] => 0
  | n :: l => 9 + n + sumW l
theorem vprod_det : ∀ (l : List Int) {P : M}, P.det = 1 → (vprod P l).det = 1
  | [], _, h => h
  | n :: l, _, h => vprod_det l (M.stn_det h n)
theorem ch_prod : ∀ (l : List Int) {P : M}, P.det = 1 → Cg (vprod P l).ch (P.ch + sumW l)
  | [], P, _ => by unfold Cg sumW vprod; omega
  | n :: l, P, h => by
    have k1 := ch_stn h n
    have k2 := ch_prod l (M.stn_det h n)
    show Cg (vprod (P.stn n) l).ch (P.ch + (9 + n + sumW l))
    unfold Cg at *; omega
theorem mul_vprod (x : M) : ∀ (l : List Int) (P : M), x.mul (vprod P l) = vprod (x.mul P) l
  | [], _ => rfl
  | n :: l, P => by
    show x.mul (vprod (P.stn n) l) = vprod ((x.mul P).stn n) l
    rw [mul_vprod x l, M.stn_eq, M.stn_eq, M.mul_assoc x, M.mul_assoc x]
theorem mul_neg' (x y : M) : x.mul y.neg = (x.mul y).neg := by
  refine M.same ?_ ?_ ?_ ?_ <;> simp [M.mul, M.neg, Int.mul_neg] <;> omega
theorem ch_one : M.one.ch = 36 := by decide
/-- The class of a product is the sum of the classes. -/
theorem ch_mul {x y : M} (hx : x.det = 1) (hy : y.det = 1) (ho : y.ok = true) : Cg (x.mul y).ch (x.ch + y.ch) := by
  obtain ⟨e, r, R, _, h2, h3⟩ := word_prod hy ho
  have hR := vgo_prod r _ _ h2
  have dT := M.det_T e
  have dR : R.det = 1 := by rw [hR]; exact vprod_det r dT
  have k1 : Cg R.ch ((M.T e).ch + sumW r) := by rw [hR]; exact ch_prod r dT
  have k2 : Cg (x.mul R).ch ((x.mul (M.T e)).ch + sumW r) := by rw [hR, mul_vprod]; exact ch_prod r (det_mul_T hx e)
  have k3 := ch_T hx e
  have k4 := ch_T M.det_one e
  rw [M.one_mul, ch_one] at k4
  have dxR : (x.mul R).det = 1 := by rw [M.det_mul, hx, dR]; rfl
  cases hn : wn 32 y with
  | true =>
    rw [hn, if_pos rfl] at h3
    rw [← h3, mul_neg']
    have k5 := ch_neg dR
    have k6 := ch_neg dxR
    unfold Cg at *; omega
  | false =>
    rw [hn, if_neg (by simp)] at h3
    rw [← h3]
    unfold Cg at *; omega
/-- The sum of a list. -/
def sumL : List Int → Int
  | [] => 0
  | n :: l => n + sumL l
theorem sumW_sumL : ∀ l : List Int, sumW l = 9 * l.length + sumL l
  | [] => rfl
  | n :: l => by show 9 + n + sumW l = _; rw [sumW_sumL l, List.length_cons]; show _ = _ + (n + sumL l); omega
/-- The class that the code computes of the word is that of the formula. -/
theorem class_word {m : M} (hd : m.det = 1) (hm : m.ok = true) : Cg m.ch (9 * ((wl 32 m).length - 1 : Int) + sumL (wl 32 m) + if wn 32 m then 18 else 0) := by
  obtain ⟨e, r, R, h1, h2, h3⟩ := word_prod hd hm
  have hR := vgo_prod r _ _ h2
  have dT := M.det_T e
  have dR : R.det = 1 := by rw [hR]; exact vprod_det r dT
  have k1 : Cg R.ch ((M.T e).ch + sumW r) := by rw [hR]; exact ch_prod r dT
  have k4 := ch_T M.det_one e
  rw [M.one_mul, ch_one] at k4
  rw [h1, List.length_cons]
  have e2 : sumL (e :: r) = e + sumL r := rfl
  have e3 := sumW_sumL r
  rw [e2]
  cases hn : wn 32 m with
  | true =>
    rw [hn, if_pos rfl] at h3
    rw [← h3, if_pos rfl]
    have k5 := ch_neg dR
    unfold Cg at *; omega
  | false =>
    rw [hn, if_neg (by simp)] at h3
    rw [← h3, if_neg (by simp)]
    unfold Cg at *; omega
/-- The abelian class. -/
def abl (m : M) : Int := (9 * ((wl 32 m).length - 1 : Int) + sumL (wl 32 m) + if wn 32 m then 18 else 0) % 12
theorem abl_mul {x y : M} (hx : x.det = 1) (ox : x.ok = true) (hy : y.det = 1) (oy : y.ok = true) (oz : (x.mul y).ok = true) : abl (x.mul y) = (abl x + abl y) % 12 := by
  have k1 := class_word hx ox
  have k2 := class_word hy oy
  have k3 := class_word (m := x.mul y) (by rw [M.det_mul, hx, hy]; rfl) oz
  have k4 := ch_mul hx hy oy
  unfold abl
  unfold Cg at *; omega
end Go.Proofs.Ytnccamhajndkjaa
