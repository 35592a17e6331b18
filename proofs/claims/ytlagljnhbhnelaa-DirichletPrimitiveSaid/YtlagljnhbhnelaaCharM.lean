/- Tables of characters in general: the logarithms of the units, and that a table is a homomorphism. -/
import Derived.Test.YtlagljnhbhnelaaTabXb
namespace Go.Proofs.Ytlagljnhbhnelaa
set_option linter.unusedVariables false

/-! ### The units with their logarithms -/
def lgR (n v : Nat) (ds : List Nat) : Nat → Nat → Nat → List (Nat × List Nat)
  | 0, _, _ => []
  | j + 1, i, a => (a * v % n, (i + 1) :: ds) :: lgR n v ds j (i + 1) (a * v % n)
def lgU (n v o : Nat) : List (Nat × List Nat) → List (Nat × List Nat)
  | [] => []
  | p :: L => lgR n v p.2 (o - 1) 0 p.1 ++ lgU n v o L
def lgZ (L : List (Nat × List Nat)) : List (Nat × List Nat) := L.map fun p => (p.1, 0 :: p.2)
def lgG (n : Nat) : List (Nat × Nat) → List (Nat × List Nat) → List (Nat × List Nat)
  | [], L => L
  | g :: G, L => lgG n G (lgZ L ++ lgU n g.1 g.2 L)
/-- All units modulo n, each with its logarithms (of the last generator first). -/
def lgN (n : Nat) : List (Nat × List Nat) := lgG n (gensV n) [(1 % n, [])]
def dot : List Nat → List Int → Int
  | d :: ds, s :: ss => (d : Int) * s + dot ds ss
  | _, _ => 0
/-- The table T says the logarithms of L, and -1 elsewhere. -/
structure Ag (n m : Nat) (ss : List Int) (L : List (Nat × List Nat)) (T : List Int) : Prop where
  len : T.length = n
  lt : ∀ p ∈ L, p.1 < n
  at_ : ∀ p ∈ L, T.getD p.1 0 = dot p.2 ss % (m : Int)
  out : ∀ j, j < n → j ∉ L.map Prod.fst → T.getD j 0 = -1
theorem Ag.mono {n m : Nat} {ss : List Int} {L L' : List (Nat × List Nat)} {T : List Int} (h : Ag n m ss L T) (hs : ∀ p ∈ L', p ∈ L) (ht : ∀ j ∈ L.map Prod.fst, j ∈ L'.map Prod.fst) : Ag n m ss L' T :=
  ⟨h.len, fun p hp => h.lt p (hs p hp), fun p hp => h.at_ p (hs p hp), fun j hj hn => h.out j hj fun hm => hn (ht j hm)⟩
theorem ag_step {n m : Nat} {ss : List Int} {L : List (Nat × List Nat)} {T : List Int} {b : Nat} {es : List Nat} {y : Int} (h : Ag n m ss L T) (hb : b < n) (hn : b ∉ L.map Prod.fst) (hy : y = dot es ss % (m : Int)) : Ag n m ss (L ++ [(b, es)]) (T.set b y) := by
  have hl := h.len
  refine ⟨by simp [hl], fun p hp => ?_, fun p hp => ?_, fun j hj hm => ?_⟩
  · rcases List.mem_append.1 hp with hp | hp
    · exact h.lt p hp
    · rw [List.mem_singleton.1 hp]; exact hb
  · rcases List.mem_append.1 hp with hp | hp
    · rw [getD_setI T b p.1 y (by omega), if_neg (fun e => hn (by rw [← e]; exact List.mem_map_of_mem hp))]
      exact h.at_ p hp
    · rw [List.mem_singleton.1 hp, getD_setI T b b y (by omega), if_pos rfl]
      exact hy
  · rw [List.map_append, List.mem_append] at hm
    rw [getD_setI T b j y (by omega), if_neg (fun e => hm (.inr (by rw [e]; simp)))]
    exact h.out j hj fun k => hm (.inl k)
theorem nodup_pre {L M : List (Nat × List Nat)} {x : Nat × List Nat} (h : ((L ++ x :: M).map Prod.fst).Nodup) : x.1 ∉ L.map Prod.fst := by
  rw [List.map_append, List.map_cons] at h
  have := (List.nodup_append.1 h).2.2
  exact fun hm => this _ hm x.1 (List.mem_cons_self ..) rfl
theorem ag_P {n m v : Nat} {st : Int} {ss : List Int} {ds : List Nat} (n1 : 1 ≤ n) : ∀ (j i a : Nat) (L M : List (Nat × List Nat)) (T : List Int),
    Ag n m (st :: ss) L T → (a, i :: ds) ∈ L → ((L ++ (lgR n v ds j i a ++ M)).map Prod.fst).Nodup → Ag n m (st :: ss) (L ++ lgR n v ds j i a) (tbP n v st m j a (T, L.map Prod.fst)).1 ∧ (tbP n v st m j a (T, L.map Prod.fst)).2 = (L ++ lgR n v ds j i a).map Prod.fst
  | 0, i, a, L, M, T, h, _, _ => by
    show Ag n m (st :: ss) (L ++ []) T ∧ L.map Prod.fst = (L ++ []).map Prod.fst
    rw [List.append_nil]; exact ⟨h, rfl⟩
  | j + 1, i, a, L, M, T, h, hm, hd => by
    have hb : a * v % n < n := Nat.mod_lt _ n1
    have hd2 : ((L ++ ((a * v % n, (i + 1) :: ds) :: (lgR n v ds j (i + 1) (a * v % n) ++ M))).map Prod.fst).Nodup := hd
    have h2 : Ag n m (st :: ss) (L ++ [(a * v % n, (i + 1) :: ds)]) (T.set (a * v % n) ((T.getD a 0 + st) % (m : Int))) := by
      refine ag_step h hb (nodup_pre hd2) ?_
      have h3 := h.at_ _ hm
      simp only at h3
      rw [h3, Int.emod_add_emod]
      congr 1
      show ((i : Int) * st + dot ds ss) + st = (((i + 1 : Nat) : Int)) * st + dot ds ss
      rw [Int.natCast_add, Int.add_mul]; omega
    have h4 := ag_P n1 j (i + 1) (a * v % n) (L ++ [(a * v % n, (i + 1) :: ds)]) M _ h2 (List.mem_append_right _ (List.mem_singleton.2 rfl)) (by rw [List.append_assoc]; exact hd2)
    rw [List.map_append, List.append_assoc] at h4
    exact h4
theorem ag_U {n m v o : Nat} {st : Int} {ss : List Int} (n1 : 1 ≤ n) : ∀ (K L M : List (Nat × List Nat)) (T : List Int),
    Ag n m (st :: ss) L T → (∀ p ∈ K, (p.1, 0 :: p.2) ∈ L) → ((L ++ (lgU n v o K ++ M)).map Prod.fst).Nodup → Ag n m (st :: ss) (L ++ lgU n v o K) (tbU n v o st m (K.map Prod.fst) (T, L.map Prod.fst)).1 ∧ (tbU n v o st m (K.map Prod.fst) (T, L.map Prod.fst)).2 = (L ++ lgU n v o K).map Prod.fst
  | [], L, M, T, h, _, _ => by
    show Ag n m (st :: ss) (L ++ []) T ∧ L.map Prod.fst = (L ++ []).map Prod.fst
    rw [List.append_nil]; exact ⟨h, rfl⟩
  | p :: K, L, M, T, h, hk, hd => by
    have hd2 : ((L ++ (lgR n v p.2 (o - 1) 0 p.1 ++ (lgU n v o K ++ M))).map Prod.fst).Nodup := by
      rw [← List.append_assoc (lgR n v p.2 (o - 1) 0 p.1)]; exact hd
    obtain ⟨h1, h2⟩ := ag_P n1 (o - 1) 0 p.1 L (lgU n v o K ++ M) T h (hk p (List.mem_cons_self ..)) hd2
    have h3 := ag_U n1 K (L ++ lgR n v p.2 (o - 1) 0 p.1) M _ h1 (fun q hq => List.mem_append_left _ (hk q (List.mem_cons_of_mem _ hq))) (by rw [List.append_assoc]; exact hd2)
    rw [List.append_assoc] at h3
    show Ag n m (st :: ss) (L ++ (lgR n v p.2 (o - 1) 0 p.1 ++ lgU n v o K)) (tbU n v o st m (K.map Prod.fst) (tbP n v st m (o - 1) p.1 (T, L.map Prod.fst))).1 ∧ (tbU n v o st m (K.map Prod.fst) (tbP n v st m (o - 1) p.1 (T, L.map Prod.fst))).2 = _
    rw [show tbP n v st m (o - 1) p.1 (T, L.map Prod.fst) = ((tbP n v st m (o - 1) p.1 (T, L.map Prod.fst)).1, (L ++ lgR n v p.2 (o - 1) 0 p.1).map Prod.fst) from Prod.ext rfl h2]
    exact h3
theorem lgZ_map (L : List (Nat × List Nat)) : (lgZ L).map Prod.fst = L.map Prod.fst := by simp [lgZ]
theorem ag_Z {n m : Nat} {st : Int} {ss : List Int} {L : List (Nat × List Nat)} {T : List Int} (h : Ag n m ss L T) : Ag n m (st :: ss) (lgZ L) T := by
  refine ⟨h.len, fun p hp => ?_, fun p hp => ?_, fun j hj hn => h.out j hj (by rw [lgZ_map] at hn; exact hn)⟩
  · obtain ⟨q, hq, rfl⟩ := List.mem_map.1 hp; exact h.lt q hq
  · obtain ⟨q, hq, rfl⟩ := List.mem_map.1 hp
    show T.getD q.1 0 = (((0 : Nat) : Int) * st + dot q.2 ss) % (m : Int)
    rw [h.at_ q hq]; congr 1; simp
/-- The steps of the generators, the last one first. -/
def stG (m : Nat) : List (Nat × Nat) → List Int → List Int → List Int
  | g :: G, x :: E, ss => stG m G E (x * ((m / g.2 : Nat) : Int) :: ss)
  | _, _, ss => ss
theorem lgG_pre (n : Nat) : ∀ (G : List (Nat × Nat)) (L : List (Nat × List Nat)), ∃ M, (lgG n G L).map Prod.fst = L.map Prod.fst ++ M
  | [], L => ⟨[], by simp [lgG]⟩
  | g :: G, L => by
    obtain ⟨M, hM⟩ := lgG_pre n G (lgZ L ++ lgU n g.1 g.2 L)
    refine ⟨(lgU n g.1 g.2 L).map Prod.fst ++ M, ?_⟩
    show (lgG n G (lgZ L ++ lgU n g.1 g.2 L)).map Prod.fst = _
    rw [hM, List.map_append, lgZ_map, List.append_assoc]
theorem ag_G {n m : Nat} (n1 : 1 ≤ n) : ∀ (G : List (Nat × Nat)) (E : List Int) (ss : List Int) (L : List (Nat × List Nat)) (T : List Int), G.length = E.length →
    Ag n m ss L T → ((lgG n G L).map Prod.fst).Nodup → Ag n m (stG m G E ss) (lgG n G L) (tbG n m G E (T, L.map Prod.fst)).1
  | [], [], ss, L, T, _, h, _ => h
  | g :: G, x :: E, ss, L, T, hl, h, hd => by
    have hd1 : ((lgG n G (lgZ L ++ lgU n g.1 g.2 L)).map Prod.fst).Nodup := hd
    obtain ⟨M, hM⟩ := lgG_pre n G (lgZ L ++ lgU n g.1 g.2 L)
    have hd2 : ((lgZ L ++ (lgU n g.1 g.2 L ++ [])).map Prod.fst).Nodup := by
      rw [List.append_nil]
      rw [hM] at hd1
      exact (List.nodup_append.1 hd1).1
    obtain ⟨h1, h2⟩ := ag_U (v := g.1) (o := g.2) n1 L (lgZ L) [] T (ag_Z (st := x * ((m / g.2 : Nat) : Int)) h) (fun p hp => List.mem_map.2 ⟨p, hp, rfl⟩) hd2
    have h3 := ag_G n1 G E (x * ((m / g.2 : Nat) : Int) :: ss) (lgZ L ++ lgU n g.1 g.2 L) _ (by simpa using hl) h1 hd1
    show Ag n m (stG m G E (x * ((m / g.2 : Nat) : Int) :: ss)) (lgG n G (lgZ L ++ lgU n g.1 g.2 L)) (tbG n m G E (tbU n g.1 g.2 (x * ((m / g.2 : Nat) : Int)) m (L.map Prod.fst) (T, L.map Prod.fst))).1
    rw [lgZ_map] at h2 h3 h1
    rw [show tbU n g.1 g.2 (x * ((m / g.2 : Nat) : Int)) m (L.map Prod.fst) (T, L.map Prod.fst) = ((tbU n g.1 g.2 (x * ((m / g.2 : Nat) : Int)) m (L.map Prod.fst) (T, L.map Prod.fst)).1, (lgZ L ++ lgU n g.1 g.2 L).map Prod.fst) from Prod.ext rfl h2]
    exact h3
/-! ### Decided for n to 60 -/
def adM : List Nat → List Nat → List Nat → List Nat
  | a :: A, b :: B, o :: O => (a + b) % o :: adM A B O
  | _, _, _ => []
/-- The orders of the generators, the last one first. -/
def odN (n : Nat) : List Nat := ((gensV n).map (·.2)).reverse
def inB (x : Nat) : List (Nat × List Nat) → Bool
  | [] => false
  | p :: L => match Nat.beq p.1 x with
    | true => true
    | false => inB x L
theorem inB_iff (x : Nat) : ∀ L, inB x L = true ↔ x ∈ L.map Prod.fst
  | [] => by simp [inB]
  | p :: L => by
    unfold inB
    rw [List.map_cons, List.mem_cons]
    cases h : Nat.beq p.1 x with
    | true => simp [(Nat.beq_eq ▸ h : p.1 = x)]
    | false =>
      have h1 : p.1 ≠ x := fun e => by rw [e, Nat.beq_refl] at h; cases h
      simp only [inB_iff x L]
      exact ⟨.inr, fun k => k.resolve_left fun e => h1 e.symm⟩
def ndB : List (Nat × List Nat) → Bool
  | [] => true
  | p :: l => !(inB p.1 l) && ndB l
theorem ndB_ok : ∀ l, ndB l = true → (l.map Prod.fst).Nodup
  | [], _ => List.nodup_nil
  | x :: l, h => by
    unfold ndB at h
    simp only [Bool.and_eq_true, Bool.not_eq_true'] at h
    refine List.nodup_cons.2 ⟨fun hm => ?_, ndB_ok l h.2⟩
    have := (inB_iff x.1 l).2 hm
    rw [h.1] at this; cases this
def eqL : List Nat → List Nat → Bool
  | [], [] => true
  | a :: A, b :: B => Nat.beq a b && eqL A B
  | _, _ => false
theorem eqL_ok : ∀ A B, eqL A B = true → A = B
  | [], [], _ => rfl
  | [], _ :: _, h => by cases h
  | _ :: _, [], h => by cases h
  | a :: A, b :: B, h => by
    unfold eqL at h
    rw [Bool.and_eq_true] at h
    rw [Nat.eq_of_beq_eq_true h.1, eqL_ok A B h.2]
def fdE (x : Nat) (D : List Nat) : List (Nat × List Nat) → Bool
  | [] => false
  | p :: L => match Nat.beq p.1 x with
    | true => eqL p.2 D
    | false => fdE x D L
theorem fdE_ok (x : Nat) (D : List Nat) : ∀ L, fdE x D L = true → (x, D) ∈ L
  | [], h => by cases h
  | p :: L, h => by
    unfold fdE at h
    cases hb : Nat.beq p.1 x with
    | true =>
      rw [hb] at h
      have e1 := Nat.eq_of_beq_eq_true hb
      have e2 := eqL_ok _ _ h
      rw [← e1, ← e2]; exact List.mem_cons_self ..
    | false =>
      rw [hb] at h
      exact List.mem_cons_of_mem _ (fdE_ok x D L h)
def prX (n : Nat) (O : List Nat) (L : List (Nat × List Nat)) : List (Nat × List Nat) → Bool
  | [] => true
  | p :: K => ((p :: K).all fun q => fdE (p.1 * q.1 % n) (adM p.2 q.2 O) L) && prX n O L K
theorem adM_comm : ∀ A B O, adM A B O = adM B A O
  | [], [], _ => rfl
  | [], _ :: _, _ => rfl
  | _ :: _, [], _ => rfl
  | a :: A, b :: B, [] => rfl
  | a :: A, b :: B, o :: O => by
    show (a + b) % o :: adM A B O = (b + a) % o :: adM B A O
    rw [Nat.add_comm, adM_comm A B O]
theorem prX_ok {n : Nat} {O : List Nat} {L : List (Nat × List Nat)} : ∀ K, prX n O L K = true → ∀ p ∈ K, ∀ q ∈ K, (p.1 * q.1 % n, adM p.2 q.2 O) ∈ L
  | [], _, p, hp, _, _ => by cases hp
  | x :: K, h, p, hp, q, hq => by
    unfold prX at h
    rw [Bool.and_eq_true] at h
    have h1 : ∀ q ∈ x :: K, (x.1 * q.1 % n, adM x.2 q.2 O) ∈ L := fun q hq => fdE_ok _ _ _ (List.all_eq_true.1 h.1 q hq)
    rcases List.mem_cons.1 hp with rfl | hp2
    · exact h1 q hq
    · rcases List.mem_cons.1 hq with rfl | hq2
      · rw [Nat.mul_comm, adM_comm]; exact h1 p hp
      · exact prX_ok K h.2 p hp2 q hq2
def fdLg : List (Nat × List Nat) → Nat → List Nat
  | [], _ => []
  | p :: L, a => if p.1 = a then p.2 else fdLg L a
def lgOk (n : Nat) : Bool :=
  let L := lgN n
  let O := odN n
  let l := O.length
  ndB L && ((List.range n).all fun a => Nat.beq (Nat.gcd a n) 1 == inB a L) && (L.all fun p => Nat.beq p.2.length l) && prX n O L L && (O.all fun o => Nat.beq (tbM (gensV n) % o) 0 && Nat.ble 1 o)
set_option maxRecDepth 1000000 in
theorem lg_all : (List.range 60).all (fun i => lgOk (i + 1)) = true := by decide +kernel
structure LgF (n : Nat) : Prop where
  nd : ((lgN n).map Prod.fst).Nodup
  un : ∀ a, a < n → (Nat.gcd a n = 1 ↔ a ∈ (lgN n).map Prod.fst)
  ln : ∀ p ∈ lgN n, p.2.length = (odN n).length
  mu : ∀ p ∈ lgN n, ∀ q ∈ lgN n, (p.1 * q.1 % n, adM p.2 q.2 (odN n)) ∈ lgN n
  od : ∀ o ∈ odN n, tbM (gensV n) % o = 0 ∧ 1 ≤ o
theorem fdLg_mem : ∀ (L : List (Nat × List Nat)) (a : Nat), a ∈ L.map Prod.fst → (a, fdLg L a) ∈ L
  | [], a, h => by simp at h
  | p :: L, a, h => by
    unfold fdLg
    by_cases e : p.1 = a
    · rw [if_pos e, ← e]; exact List.mem_cons_self ..
    · rw [if_neg e]
      rw [List.map_cons, List.mem_cons] at h
      rcases h with h | h
      · exact absurd h.symm e
      · exact List.mem_cons_of_mem _ (fdLg_mem L a h)
theorem lg_of {n : Nat} (n1 : 1 ≤ n) (n2 : n ≤ 60) : LgF n := by
  have h := List.all_eq_true.1 lg_all (n - 1) (List.mem_range.2 (by omega))
  rw [show n - 1 + 1 = n by omega] at h
  unfold lgOk at h
  simp only [Bool.and_eq_true] at h
  obtain ⟨⟨⟨⟨a, b⟩, c⟩, e⟩, d⟩ := h
  refine ⟨ndB_ok _ a, fun x hx => ?_, fun p hp => Nat.eq_of_beq_eq_true (List.all_eq_true.1 c p hp), fun p hp q hq => prX_ok _ e p hp q hq, fun o ho => ?_⟩
  · have h1 := List.all_eq_true.1 b x (List.mem_range.2 hx)
    rw [beq_iff_eq] at h1
    rw [← inB_iff, ← h1]
    exact ⟨fun k => by rw [k]; rfl, fun k => Nat.eq_of_beq_eq_true k⟩
  · have h1 := List.all_eq_true.1 d o ho
    rw [Bool.and_eq_true] at h1
    exact ⟨Nat.eq_of_beq_eq_true h1.1, Nat.le_of_ble_eq_true h1.2⟩
/-! ### The table of a character is a homomorphism -/
def dvm (m : Nat) : List Nat → List Int → Prop
  | o :: O, s :: ss => ((m : Int) ∣ (o : Int) * s) ∧ dvm m O ss
  | [], [] => True
  | _, _ => False
theorem dvm_G {m : Nat} : ∀ (G : List (Nat × Nat)) (E ss : List Int) (O : List Nat), G.length = E.length → (∀ g ∈ G, m % g.2 = 0) → dvm m O ss → dvm m ((G.map Prod.snd).reverse ++ O) (stG m G E ss)
  | [], [], ss, O, _, _, h => h
  | g :: G, x :: E, ss, O, hl, hg, h => by
    show dvm m (((g.2 :: G.map Prod.snd).reverse) ++ O) (stG m G E (x * ((m / g.2 : Nat) : Int) :: ss))
    rw [List.reverse_cons, List.append_assoc]
    refine dvm_G G E _ _ (by simpa using hl) (fun k hk => hg k (List.mem_cons_of_mem _ hk)) ⟨?_, h⟩
    have hd : g.2 * (m / g.2) = m := Nat.mul_div_cancel' (Nat.dvd_of_mod_eq_zero (hg g (List.mem_cons_self ..)))
    have he : ((g.2 : Int)) * (x * ((m / g.2 : Nat) : Int)) = x * (m : Int) := by
      rw [Int.mul_left_comm, ← Int.natCast_mul, hd]
    rw [he]
    exact Int.dvd_mul_left x (m : Int)
theorem dot_ad {m : Nat} : ∀ (O : List Nat) (ss : List Int) (A B : List Nat), dvm m O ss → A.length = O.length → B.length = O.length → (m : Int) ∣ dot A ss + dot B ss - dot (adM A B O) ss
  | [], [], [], [], _, _, _ => by simp [dot, adM]
  | o :: O, s :: ss, a :: A, b :: B, h, ha, hb => by
    have h1 := dot_ad O ss A B h.2 (by simpa using ha) (by simpa using hb)
    show (m : Int) ∣ ((a : Int) * s + dot A ss) + ((b : Int) * s + dot B ss) - ((((a + b) % o : Nat) : Int) * s + dot (adM A B O) ss)
    have h2 : (m : Int) ∣ ((o : Int) * s) * (((a + b) / o : Nat) : Int) := Int.dvd_mul_of_dvd_left h.1
    have h3 : ((a + b : Nat) : Int) = ((o * ((a + b) / o) + (a + b) % o : Nat) : Int) := by rw [Nat.div_add_mod]
    have h4 : ((a : Int) * s + dot A ss) + ((b : Int) * s + dot B ss) - ((((a + b) % o : Nat) : Int) * s + dot (adM A B O) ss) = ((o : Int) * s) * (((a + b) / o : Nat) : Int) + (dot A ss + dot B ss - dot (adM A B O) ss) := by
      generalize (a + b) / o = q at *
      generalize (a + b) % o = r at *
      have h5 : (a : Int) + (b : Int) = (o : Int) * (q : Int) + (r : Int) := by
        have := h3
        rw [Int.natCast_add, Int.natCast_add, Int.natCast_mul] at this
        exact this
      have h6 : (a : Int) * s + (b : Int) * s = ((o : Int) * (q : Int)) * s + (r : Int) * s := by rw [← Int.add_mul, h5, Int.add_mul]
      have h7 : ((o : Int) * (q : Int)) * s = ((o : Int) * s) * (q : Int) := by rw [Int.mul_right_comm]
      omega
    rw [h4]
    exact Int.dvd_add h2 h1
/-- All that is said of the table of a character. -/
structure ChT (n m : Nat) (T : List Int) : Prop where
  len : T.length = n
  m1 : 1 ≤ m
  yes : ∀ a, a < n → Nat.gcd a n = 1 → 0 ≤ T.getD a 0 ∧ T.getD a 0 < (m : Int)
  no : ∀ a, a < n → Nat.gcd a n ≠ 1 → T.getD a 0 = -1
  mul : ∀ a b, a < n → b < n → Nat.gcd a n = 1 → Nat.gcd b n = 1 → T.getD (a * b % n) 0 = (T.getD a 0 + T.getD b 0) % (m : Int)
theorem ag_of {n : Nat} {E : List Int} (n1 : 1 ≤ n) (n2 : n ≤ 60) (hl : E.length = (gensV n).length) : Ag n (tbM (gensV n)) (stG (tbM (gensV n)) (gensV n) E []) (lgN n) (tbV n E) := by
  have hb : 1 % n < n := Nat.mod_lt _ n1
  have hm := (tbc_le n1 n2).2 (gensV n).length (Nat.le_refl _)
  rw [List.take_length] at hm
  refine ag_G n1 (gensV n) E [] [(1 % n, [])] _ hl.symm ⟨by simp, fun p hp => by rw [List.mem_singleton.1 hp]; exact hb, fun p hp => ?_, fun j hj hn => ?_⟩ (lg_of n1 n2).nd
  · rw [List.mem_singleton.1 hp, getD_setI _ _ _ _ (by simpa using hb), if_pos rfl]
    show (0 : Int) = 0 % _
    rw [Int.zero_emod]
  · have h1 : j ≠ 1 % n := fun e => hn (by rw [e]; simp)
    rw [getD_setI _ _ _ _ (by simpa using hb), if_neg h1, List.getD_eq_getElem?_getD, List.getElem?_replicate, if_pos hj]; rfl
theorem cht_of {n : Nat} {E : List Int} (n1 : 1 ≤ n) (n2 : n ≤ 60) (hl : E.length = (gensV n).length) : ChT n (tbM (gensV n)) (tbV n E) := by
  have h := ag_of n1 n2 hl
  have f := lg_of n1 n2
  have hm := (tbc_le n1 n2).2 (gensV n).length (Nat.le_refl _)
  rw [List.take_length] at hm
  have hod : ∀ g ∈ gensV n, tbM (gensV n) % g.2 = 0 := fun g hg => (f.od g.2 (List.mem_reverse.2 (List.mem_map_of_mem hg))).1
  have hdv : dvm (tbM (gensV n)) (odN n) (stG (tbM (gensV n)) (gensV n) E []) := by
    have := dvm_G (m := tbM (gensV n)) (gensV n) E [] [] hl.symm hod trivial
    rw [List.append_nil] at this; exact this
  generalize stG (tbM (gensV n)) (gensV n) E [] = ss at *
  generalize tbM (gensV n) = m at *
  have hmem : ∀ a, a < n → Nat.gcd a n = 1 → (a, fdLg (lgN n) a) ∈ lgN n := fun a ha hg => fdLg_mem _ _ ((f.un a ha).1 hg)
  refine ⟨h.len, hm.1, fun a ha hg => ?_, fun a ha hg => h.out a ha fun k => hg ((f.un a ha).2 k), fun a b ha hb hga hgb => ?_⟩
  · rw [h.at_ _ (hmem a ha hg)]
    exact ⟨Int.emod_nonneg _ (by omega), Int.emod_lt_of_pos _ (by omega)⟩
  · have ea := hmem a ha hga
    have eb := hmem b hb hgb
    have ec := f.mu _ ea _ eb
    have h1 := h.at_ _ ea
    have h2 := h.at_ _ eb
    have h3 := h.at_ _ ec
    simp only at h1 h2 h3
    rw [h1, h2, h3, ← Int.add_emod]
    have h4 := dot_ad (odN n) ss _ _ hdv (f.ln _ ea) (f.ln _ eb)
    exact (Int.emod_eq_emod_iff_emod_sub_eq_zero.2 (Int.emod_eq_zero_of_dvd h4)).symm
end Go.Proofs.Ytlagljnhbhnelaa
