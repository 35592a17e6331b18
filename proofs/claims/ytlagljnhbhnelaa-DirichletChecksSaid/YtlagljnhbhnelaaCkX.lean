/- The conductor by the reference's search (plain mathematics). Layer 28: the reference's Copy, one, Even, Order, Conductor; what is no character. Layer 28: Order, Conductor, Even of what is no character; the reference's Even, Order, Conductor. The reference's Conductor. -/
import Derived.Test.YtlagljnhbhnelaaVrX
import Derived.Test.YtlagljnhbhnelaaTabXa
namespace Go.Proofs.Ytlagljnhbhnelaa
set_option linter.unusedVariables false

theorem pdL_iff (T : List Int) {f : Nat} (f1 : 1 ≤ f) : ∀ (j a : Nat), T.length ≤ a + j → (pdL T f j a = true ↔ ∀ i, a + i * f < T.length → T.getD (a + i * f) 0 ≤ 0)
  | 0, a, h => by
    show (true = true ↔ _)
    refine ⟨fun _ i hi => ?_, fun _ => rfl⟩
    omega
  | j + 1, a, h => by
    have hd : pdL T f (j + 1) a = if a < T.length then (if 0 < T.getD a 0 then false else pdL T f j (a + f)) else true := rfl
    rw [hd]
    by_cases h1 : a < T.length
    · rw [if_pos h1]
      by_cases h2 : 0 < T.getD a 0
      · rw [if_pos h2]
        refine ⟨fun k => (by cases k), fun k => ?_⟩
        have := k 0 (by omega)
        rw [Nat.zero_mul, Nat.add_zero] at this
        omega
      · rw [if_neg h2, pdL_iff T f1 j (a + f) (by omega)]
        constructor
        · intro k i hi
          cases i with
          | zero => rw [Nat.zero_mul, Nat.add_zero]; omega
          | succ i =>
            have e : a + (i + 1) * f = a + f + i * f := by rw [Nat.add_mul]; omega
            rw [e] at hi ⊢
            exact k i hi
        · intro k i hi
          have e : a + f + i * f = a + (i + 1) * f := by rw [Nat.add_mul]; omega
          rw [e] at hi ⊢
          exact k (i + 1) hi
    · rw [if_neg h1]
      refine ⟨fun _ i hi => ?_, fun _ => rfl⟩
      omega
theorem pdV_iff {T : List Int} {f : Nat} (f1 : 1 ≤ f) : pdV T f = true ↔ T.length % f = 0 ∧ ∀ a, a < T.length → a % f = 1 % f → T.getD a 0 ≤ 0 := by
  unfold pdV
  by_cases h : T.length % f = 0
  · rw [if_pos h, pdL_iff T f1 T.length (1 % f) (by omega)]
    refine ⟨fun k => ⟨h, fun a ha hm => ?_⟩, fun k i hi => k.2 _ hi ?_⟩
    · have e : 1 % f + a / f * f = a := by rw [← hm, Nat.mul_comm]; exact Nat.mod_add_div a f
      have := k (a / f) (by omega)
      rwa [e] at this
    · rw [Nat.add_mul_mod_self_right, Nat.mod_mod]
  · rw [if_neg h]
    exact ⟨fun k => (by cases k), fun k => absurd k.1 h⟩
/-- One number a of the reference's test. -/
def stpC (n : Nat) (T : List Int) (f a : Nat) : Bool := decide (Nat.gcd a n ≠ 1) || (decide ((a - 1) % f ≠ 0) || decide (T.getD (a % n) 0 = 0))
def okC (n : Nat) (T : List Int) (f : Nat) : Nat → Bool
  | 0 => decide (n % f = 0)
  | t + 1 => okC n T f t && stpC n T f (t + 1)
theorem okC_false {n : Nat} {T : List Int} {f t : Nat} (h : okC n T f t = false) : ∀ s, t ≤ s → okC n T f s = false
  | 0, hs => by obtain rfl : t = 0 := by omega
                exact h
  | s + 1, hs => by
    by_cases e : t = s + 1
    · rw [← e]; exact h
    · show (okC n T f s && _) = false
      rw [okC_false h s (by omega)]; rfl
theorem okC_iff {n : Nat} {T : List Int} {f : Nat} : ∀ t, okC n T f t = true ↔ n % f = 0 ∧ ∀ a, 1 ≤ a → a ≤ t → Nat.gcd a n = 1 → (a - 1) % f = 0 → T.getD (a % n) 0 = 0
  | 0 => by
    show decide (n % f = 0) = true ↔ _
    rw [decide_eq_true_eq]
    exact ⟨fun h => ⟨h, fun a h1 h2 => by omega⟩, fun h => h.1⟩
  | t + 1 => by
    show (okC n T f t && stpC n T f (t + 1)) = true ↔ _
    rw [Bool.and_eq_true, okC_iff t]
    unfold stpC
    rw [Bool.or_eq_true, Bool.or_eq_true, decide_eq_true_eq, decide_eq_true_eq, decide_eq_true_eq]
    constructor
    · rintro ⟨⟨h0, h1⟩, h2⟩
      refine ⟨h0, fun a ha hb hg hf => ?_⟩
      by_cases e : a = t + 1
      · subst e
        rcases h2 with h2 | h2 | h2
        · exact absurd hg h2
        · exact absurd hf h2
        · exact h2
      · exact h1 a ha (by omega) hg hf
    · rintro ⟨h0, h1⟩
      refine ⟨⟨h0, fun a ha hb => h1 a ha (by omega)⟩, ?_⟩
      by_cases e1 : Nat.gcd (t + 1) n = 1
      · by_cases e2 : (t + 1 - 1) % f = 0
        · exact .inr (.inr (h1 (t + 1) (by omega) (Nat.le_refl _) e1 e2))
        · exact .inr (.inl e2)
      · exact .inl e1
theorem mod_pred {a f : Nat} (a1 : 1 ≤ a) (f1 : 1 ≤ f) : (a - 1) % f = 0 ↔ a % f = 1 % f := by
  constructor
  · intro h
    have e : a = 1 + f * ((a - 1) / f) := by have := Nat.mod_add_div (a - 1) f; omega
    rw [e, Nat.add_mul_mod_self_left]
  · intro h
    exact Nat.sub_mod_eq_zero_of_mod_eq h
/-- The reference's test is the program's. -/
theorem okC_pdV {n m f : Nat} {T : List Int} (h : ChT n m T) (n1 : 1 ≤ n) (f1 : 1 ≤ f) : okC n T f n = pdV T f := by
  have key : okC n T f n = true ↔ pdV T f = true := by
    rw [okC_iff, pdV_iff f1, h.len]
    constructor
    · rintro ⟨h0, h1⟩
      refine ⟨h0, fun a ha hm => ?_⟩
      by_cases hg : Nat.gcd a n = 1
      · by_cases ha0 : a = 0
        · subst ha0
          rw [Nat.gcd_zero_left] at hg
          subst hg
          have := h1 1 (Nat.le_refl _) (Nat.le_refl _) rfl (Nat.zero_mod _)
          rw [Nat.mod_self] at this
          omega
        · have := h1 a (by omega) (by omega) hg ((mod_pred (by omega) f1).2 hm)
          rw [Nat.mod_eq_of_lt ha] at this
          omega
      · rw [h.no a ha hg]; omega
    · rintro ⟨h0, h1⟩
      refine ⟨h0, fun a ha hb hg hf => ?_⟩
      have hl := Nat.mod_lt a (show 0 < n by omega)
      have hg2 : Nat.gcd (a % n) n = 1 := by rw [gcd_modn]; exact hg
      have h2 := (h.yes (a % n) hl hg2).1
      have h3 := h1 (a % n) hl (by rw [Nat.mod_mod_of_dvd a (Nat.dvd_of_mod_eq_zero h0)]; exact (mod_pred ha f1).1 hf)
      omega
  cases e1 : okC n T f n <;> cases e2 : pdV T f
  · rfl
  · rw [key.2 e2] at e1; cases e1
  · rw [key.1 e1] at e2; cases e2
  · rfl
/-- The modulus itself is a period. -/
theorem pdV_self {n m : Nat} {T : List Int} (h : ChT n m T) (n1 : 1 ≤ n) (h1 : T.getD (1 % n) 0 = 0) : pdV T n = true := by
  rw [pdV_iff n1, h.len]
  refine ⟨Nat.mod_self n, fun a ha hm => ?_⟩
  rw [Nat.mod_eq_of_lt ha] at hm
  rw [hm, h1]; omega
/-- The least period. -/
theorem least_pd {T : List Int} : ∀ (j f : Nat), 1 ≤ f → (∀ g, 1 ≤ g → g < f → pdV T g = false) → pdV T (f + j) = true → ∃ C, 1 ≤ C ∧ C ≤ f + j ∧ pdV T C = true ∧ ∀ g, 1 ≤ g → g < C → pdV T g = false
  | 0, f, f1, hl, h => ⟨f, f1, by omega, h, hl⟩
  | j + 1, f, f1, hl, h => by
    cases e : pdV T f with
    | true => exact ⟨f, f1, by omega, e, hl⟩
    | false =>
      obtain ⟨C, c1, c2, c3, c4⟩ := least_pd j (f + 1) (by omega) (fun g g1 g2 => by
        by_cases k : g = f
        · rw [k]; exact e
        · exact hl g g1 (by omega)) (by rw [show f + 1 + j = f + (j + 1) by omega]; exact h)
      exact ⟨C, c1, by omega, c3, c4⟩
theorem one_zero {n : Nat} {E : List Int} (n1 : 1 ≤ n) (n2 : n ≤ 60) (hl : E.length = (gensV n).length) : (tbV n E).getD (1 % n) 0 = 0 := by
  have h := cht_of n1 n2 hl
  have hlt := Nat.mod_lt 1 (show 0 < n by omega)
  have hg : Nat.gcd (1 % n) n = 1 := by rw [gcd_modn]; exact Nat.gcd_one_left n
  have h1 := h.mul (1 % n) (1 % n) hlt hlt hg hg
  have e : 1 % n * (1 % n) % n = 1 % n := by rw [← Nat.mul_mod, Nat.one_mul]
  rw [e] at h1
  obtain ⟨h2, h3⟩ := h.yes _ hlt hg
  generalize (tbV n E).getD (1 % n) 0 = k at *
  have hm := h.m1
  by_cases hk : k + k < (tbM (gensV n) : Int)
  · rw [Int.emod_eq_of_lt (by omega) hk] at h1; omega
  · have : (k + k) % (tbM (gensV n) : Int) = k + k - (tbM (gensV n) : Int) := by
      rw [← Int.sub_emod_right, Int.emod_eq_of_lt (by omega) (by omega)]
    omega
theorem cond_ex {n : Nat} {E : List Int} (n1 : 1 ≤ n) (n2 : n ≤ 60) (hl : E.length = (gensV n).length) : ∃ C, 1 ≤ C ∧ C ≤ n ∧ pdV (tbV n E) C = true ∧ ∀ g, 1 ≤ g → g < C → pdV (tbV n E) g = false := by
  obtain ⟨C, c1, c2, c3, c4⟩ := least_pd (T := tbV n E) (n - 1) 1 (Nat.le_refl _) (fun g h1 h2 => by omega) (by rw [show 1 + (n - 1) = n by omega]; exact pdV_self (cht_of n1 n2 hl) n1 (one_zero n1 n2 hl))
  exact ⟨C, c1, by omega, c3, c4⟩
theorem rouN_zero {k : Int} {m : Nat} (h0 : 0 ≤ k) (h1 : k < (m : Int)) : rouN k m = 0 ↔ k = 0 := by
  unfold rouN
  rw [if_neg (by omega)]
  obtain ⟨j, rfl⟩ : ∃ j : Nat, k = (j : Int) := ⟨k.toNat, by omega⟩
  rw [Int.toNat_natCast]
  constructor
  · intro h
    have h2 : j / Nat.gcd j m = 0 := by omega
    rcases Nat.eq_zero_or_pos j with e | e
    · omega
    · have := Nat.div_pos (Nat.gcd_le_left m e) (Nat.gcd_pos_of_pos_left m e)
      omega
  · intro h
    have : j = 0 := by omega
    rw [this, Nat.zero_div]; rfl
/-- The order, generator by generator from the first. -/
def odP (G : List (Nat × Nat)) (E : List Int) (j : Nat) : Nat := odF (E.take j) (G.take j) 1
theorem odF_snoc : ∀ (E : List Int) (G : List (Nat × Nat)) (x : Int) (g : Nat × Nat) (a : Nat), E.length = G.length → odF (E ++ [x]) (G ++ [g]) a = Nat.lcm (odF E G a) (g.2 / Nat.gcd g.2 x.toNat)
  | [], [], _, _, _, _ => rfl
  | y :: E, h :: G, x, g, a, hl => odF_snoc E G x g _ (by simpa using hl)
theorem odP_succ {G : List (Nat × Nat)} {E : List Int} {j : Nat} (h : j < G.length) (h2 : j < E.length) : odP G E (j + 1) = Nat.lcm (odP G E j) (G[j].2 / Nat.gcd G[j].2 E[j].toNat) := by
  unfold odP
  rw [List.take_add_one, List.getElem?_eq_getElem h2, List.take_add_one, List.getElem?_eq_getElem h, Option.toList_some, Option.toList_some, odF_snoc _ _ _ _ _ (by rw [List.length_take, List.length_take]; omega)]
theorem odP_dvd {G : List (Nat × Nat)} {E : List Int} {M : Nat} (hl : E.length = G.length) (hM : ∀ k (hk : k < G.length), M % G[k].2 = 0) : ∀ j, j ≤ G.length → odP G E j ∣ M
  | 0, _ => Nat.one_dvd M
  | j + 1, h => by
    rw [odP_succ (by omega) (by omega)]
    refine Nat.lcm_dvd (odP_dvd hl hM j (by omega)) ?_
    exact Nat.dvd_trans (Nat.div_dvd_of_dvd (Nat.gcd_dvd_left _ _)) (Nat.dvd_of_mod_eq_zero (hM j (by omega)))
theorem odP_end {G : List (Nat × Nat)} {E : List Int} (hl : E.length = G.length) : odP G E G.length = odF E G 1 := by
  unfold odP
  rw [List.take_length, ← hl, List.take_length]
end Go.Proofs.Ytlagljnhbhnelaa
namespace Go.Proofs.Ytlagljnhbhnelaa
open Go.RowKit
set_option linter.unusedVariables false
set_option linter.unusedSimpArgs false

theorem chkV_okC {n : Int} {E : List Int} (h : chkV n E = 0) : ∃ N : Nat, n = (N : Int) ∧ 1 ≤ N ∧ (N : Int) ≤ 60 ∧ ckX N E = 0 := by
  unfold chkV at h
  by_cases h1 : 1 ≤ n ∧ n ≤ 60
  · rw [if_pos h1] at h
    exact ⟨n.toNat, by omega, by omega, by omega, h⟩
  · rw [if_neg h1] at h; cases h
theorem addr_add7 (b o k : Nat) : (⟨b, o, none⟩ : Addr).add k = ⟨b, o + k, none⟩ := by unfold Addr.add; split <;> simp_all
/-- The append of a list that came in to an own empty row, as an operation of a drawn region. -/
theorem step_app3 {w : World} {ops : Array Oper} {o : Oper} {a : Act} {K : Act → World → Prop} {Q : Exit → Act → World → Prop} {E : Prop} {B c base : Nat} {A : Option Addr} {l : List Int} {v : Value} (hgd : o.guard = none) (s x : Operand)
    (ho : o.op = .call { callee := .builtin .append, args := #[s, x], argTypes := #[23, 23] })
    (hs : a.eval s = v) (hown : w.ownsRow base 3 1 v 0 []) (hx : a.eval x = .slice A l.length c) (hr : RdZ w B A c l) (hA : A = none → c = 0) (hl : l.length ≤ 17592186044416) (hbase : base ≤ w.heap.size)
    (h : ∀ v' w', w'.ownsRow base 3 1 v' l.length (zs l) → w.grownBy w' v.ownBlock → K (a.put o.dst v') w') : if Region.wanted o (yielded ops a.tmps) = true then Oper.wp Try.prog o a w K Q else E := by
  obtain ⟨i0, hi, hz0, hz1, hz2⟩ := info_parts Try.infoInt
  rw [if_pos (show Region.wanted o (yielded ops a.tmps) = true by simp [Region.wanted, hgd])]
  cases A with
  | none =>
    obtain rfl := hA rfl
    have hl0 : l = [] := by
      rcases Nat.eq_zero_or_pos l.length with h0 | h0
      · exact List.eq_nil_of_length_eq_zero h0
      · obtain ⟨b, o', e, _⟩ := hr.2.2.1 h0
        cases e
    subst hl0
    have hrun := run_append_owned_none (P := Try.prog) (w := w) base 23 o.type 3 i0 1 Try.underlying23 hi v 0 [] hown
    have hx' : a.eval x = .slice none 0 0 := hx
    have hk := h v w hown (World.grownBy.refl w _)
    unfold Oper.wp
    simp [execOp, ho, resolve, invoke, builtin, hs, hx', hrun, Result.andThen]
    exact hk
  | some ad =>
    obtain ⟨b, o', rfl⟩ := hr.2.2.2 ad rfl
    refine wp_append_own w s x 23 ho base 3 i0 (.int .i64 0) 1 8 Try.underlying23 hi hz0 hz1 hz2 rfl (by decide) v 0 [] hs hown ⟨b, o', none⟩ l.length c (zs l) hx (by simp [zs]) (fun j u hj => ?_) (fun u hu => ?_) (by unfold maxLen; omega) (by omega) hbase fun v' w' h1 h2 _ => h v' w' (by simpa using h1) h2
    · have hjl : j < l.length := by
        have := (List.getElem?_eq_some_iff.1 hj).1
        simpa [zs] using this
      obtain ⟨b2, o2, e, _, hc⟩ := hr.at_ hjl
      simp only [Option.some.injEq, Addr.mk.injEq] at e
      obtain ⟨rfl, rfl, _⟩ := e
      rw [zs_get l j hjl] at hj
      rw [addr_add7, hc]
      exact hj
    · obtain ⟨x', _, rfl⟩ := List.mem_map.1 hu
      rfl
theorem own_empty7 (w : World) {g : Nat} (hg : g = w.heap.size) : (w.alloc (.cells #[] 3)).ownsRow g 3 1 (.slice (some ⟨g, 0, none⟩) 0 0) 0 [] := by
  subst hg
  exact ⟨rfl, .inr ⟨w.heap.size, 0, #[], rfl, Nat.le_refl _, heap_alloc_new w _, Nat.le_refl _, by unfold maxLen; omega, rfl, rfl⟩⟩
theorem own_of_block {w : World} {g : Nat} (h : w.heap[g]? = some (.cells #[] 3 (0, 0))) : w.ownsRow g 3 1 (.slice (some ⟨g, 0, none⟩) 0 0) 0 [] :=
  ⟨rfl, .inr ⟨g, 0, #[], rfl, Nat.le_refl _, h, Nat.le_refl _, by unfold maxLen; omega, rfl, rfl⟩⟩

set_option maxHeartbeats 800000 in
set_option maxRecDepth 1000000 in
theorem one_any (z : Bool) (x y : Int) (w : World) : Calls Try.prog 56 #[.agg #[.bool z, .int .i64 x, .int .i64 y]] w fun e w' => e = .returned (.bool (!z && decide (x = 0))) ∧ Below w.heap.size w w' := by
  have X0 : Hid ((w.alloc (.cells #[.bool z, .int .i64 x, .int .i64 y] 48)).heap[w.heap.size]? = some (.cells #[.bool z, .int .i64 x, .int .i64 y] 48 (0, 0))) := heap_alloc_new w _
  have B0 : Hid (Below w.heap.size w (w.alloc (.cells #[.bool z, .int .i64 x, .int .i64 y] 48))) := below1 w _
  obtain ⟨⟨x0, x1, x2⟩, _⟩ := three_of_blockD X0.out
  cases z with
  | true =>
    go_enter Try.func56, Try.ntmps56
    go_wp2
    go_ret
    exact ⟨by first | rfl | simp, B0.out⟩
  | false =>
    by_cases h : x = 0
    · have hx2 : (x == 0) = true := by rw [beq_iff_eq]; exact h
      rw [decide_eq_true h]
      clear h
      go_enter Try.func56, Try.ntmps56
      go_wp2
      go_ret
      exact ⟨by first | rfl | (rw [hx2]; rfl) | simp [hx2], B0.out⟩
    · have hx2 : (x == 0) = false := by rw [beq_eq_false_iff_ne]; exact h
      rw [decide_eq_false h]
      clear h
      go_enter Try.func56, Try.ntmps56
      go_wp2
      go_ret
      exact ⟨by first | rfl | (rw [hx2]; rfl) | simp [hx2], B0.out⟩
set_option maxHeartbeats 3200000 in
set_option maxRecDepth 1000000 in
theorem rcopy28_any (n : Int) (E : List Int) (A : Option Addr) (c : Nat) (w : World) (hE : RdZ w w.heap.size A c E) (hA : A = none → c = 0) (hl : E.length ≤ 1000) :
    Calls Try.prog 19 #[.agg #[.int .i64 n, .slice A E.length c]] w fun e w' => ∃ A' c', e = .returned (.agg #[.int .i64 n, .slice A' E.length c']) ∧ RdZ w' w'.heap.size A' c' E ∧ Below w.heap.size w w' := by
  obtain ⟨W0, hW0⟩ : ∃ W0, W0 = (w.alloc (.cells #[.int .i64 n, .slice A E.length c] 33)).alloc (.cells #[.int .i64 0, .slice none 0 0] 33) := ⟨_, rfl⟩
  have X0 : Hid (W0.heap[w.heap.size]? = some (.cells #[.int .i64 n, .slice A E.length c] 33 (0, 0))) := by rw [hW0]; exact block_alloc (heap_alloc_new w _) _
  have R0 : Hid (W0.heap[w.heap.size + 1]? = some (.cells #[.int .i64 0, .slice none 0 0] 33 (0, 0))) := by
    rw [hW0]
    have := heap_alloc_new (w.alloc (.cells #[.int .i64 n, .slice A E.length c] 33)) (.cells #[.int .i64 0, .slice none 0 0] 33)
    show _ = _; simpa using this
  have B0 : Hid (Below w.heap.size w W0) := by rw [hW0]; exact below2 w _ _
  have HEo := Lib.hid hE
  have HAo := Lib.hid hA
  have hW9 := Lib.hid hW0
  clear hE hA
  go_enter Try.func19, Try.ntmps19
  go_upto_region 1 with fail
  rw [← hW9.out]
  clear hW0 hW9
  have hsz := B0.out.size
  have hxl := lt_of_block X0.out
  have hrl := lt_of_block R0.out
  obtain ⟨k0, k1, kf⟩ := cells_two R0.out
  have HXk : Hid (∀ w' : World, w'.heap[w.heap.size]? = some (.cells #[.int .i64 n, .slice A E.length c] 33 (0, 0)) → w'.cell? ⟨w.heap.size, 0, none⟩ = some (.int .i64 n) ∧ w'.cell? ⟨w.heap.size, 1, none⟩ = some (.slice A E.length c)) := fun w' h => ⟨(cells_two h).1, (cells_two h).2.1⟩
  have XD : Hid (W0.drew.heap[w.heap.size]? = some (.cells #[.int .i64 n, .slice A E.length c] 33 (0, 0))) := X0.out
  have XA : Hid ((W0.alloc (.cells #[] 3)).drew.heap[w.heap.size]? = some (.cells #[.int .i64 n, .slice A E.length c] 33 (0, 0))) := block_alloc X0.out _
  have HEc : Hid ((W0.alloc (.cells #[] 3)).drew.heap[W0.heap.size]? = some (.cells #[] 3 (0, 0))) := heap_alloc_new W0 _
  have RA : Hid ((W0.alloc (.cells #[] 3)).drew.heap[w.heap.size + 1]? = some (.cells #[.int .i64 0, .slice none 0 0] 33 (0, 0))) := block_alloc R0.out _
  have BA : Hid (Below w.heap.size w (W0.alloc (.cells #[] 3)).drew) := (B0.out.alloc B0.out.size _).drew
  have hsa : W0.heap.size + 1 = (W0.alloc (.cells #[] 3)).drew.heap.size := by show _ = (W0.alloc (.cells #[] 3)).heap.size; simp
  have HSa := Lib.hid hsa
  clear hsa
  go_region_held3 (fun w' => w'.cell? ⟨w.heap.size, 0, none⟩ = some (.int .i64 n) ∧ w'.cell? ⟨w.heap.size, 1, none⟩ = some (.slice A E.length c))
    (with_reducible first | exact HXk.out _ X6.out | exact HXk.out _ X2.out | exact HXk.out _ XA.out | exact HXk.out _ XD.out | fail)
    (first
      | (refine step_app3 (v := .slice (some ⟨W0.heap.size, 0, none⟩) 0 0) rfl _ _ rfl rfl (own_of_block HEc.out) rfl (HEo.out.below BA.out) HAo.out (by omega) (by rw [← HSa.out]; omega) ?_; intro v' w2 hown hg; obtain ⟨A1, c1, rfl⟩ := own_len hown; have HO1 := Lib.hid hown; have X2 : Hid (w2.heap[w.heap.size]? = some (.cells #[.int .i64 n, .slice A E.length c] 33 (0, 0))) := (hg.block _ (by rw [← HSa.out]; omega) (by simp [Value.ownBlock]; omega)).trans XA.out; have R2 : Hid (w2.heap[w.heap.size + 1]? = some (.cells #[.int .i64 0, .slice none 0 0] 33 (0, 0))) := (hg.block _ (by rw [← HSa.out]; omega) (by simp [Value.ownBlock]; omega)).trans RA.out; have B2 : Hid (Below w.heap.size w w2) := BA.out.grown hg (by rw [← HSa.out]; omega) (fun j hj => by simp [Value.ownBlock] at hj; omega); obtain ⟨r0, r1, rf⟩ := cells_two R2.out; have hz2 := hg.size; have X6 : Hid (((w2.setCell ⟨w.heap.size + 1, 0, none⟩ (.int .i64 n)).setCell ⟨w.heap.size + 1, 1, none⟩ (.slice A1 E.length c1)).heap[w.heap.size]? = some (.cells #[.int .i64 n, .slice A E.length c] 33 (0, 0))) := (Below.heap_setCell _ ⟨w.heap.size + 1, 1, none⟩ _ _ (by show w.heap.size ≠ w.heap.size + 1; omega)).trans ((Below.heap_setCell _ ⟨w.heap.size + 1, 0, none⟩ _ _ (by show w.heap.size ≠ w.heap.size + 1; omega)).trans X2.out); clear hown hg)
      | fail)
  have R6 := Lib.hid (two_setC R2.out (.int .i64 n) (.slice A1 E.length c1))
  obtain ⟨s0, s1, sf⟩ := cells_two R6.out
  have HB6 := Lib.hid ((B2.out.setCell (p := ⟨w.heap.size + 1, 0, none⟩) (by show _ ≤ w.heap.size + 1; omega) (.int .i64 n)).setCell (p := ⟨w.heap.size + 1, 1, none⟩) (by show _ ≤ w.heap.size + 1; omega) (.slice A1 E.length c1))
  go_wp2
  refine bodyPost_ret (v := .agg #[.int .i64 n, .slice A1 E.length c1]) ?_ rfl ⟨A1, c1, rfl, ?_, HB6.out⟩
  · simp [results, Try.results19, go_sem, s0, s1]
  · obtain ⟨A9, c9, e9, hr⟩ := own_rdz (ownsRow_setCell_below (ownsRow_setCell_below HO1.out (a := ⟨w.heap.size + 1, 0, none⟩) (by show w.heap.size + 1 < W0.heap.size; omega) (.int .i64 n)) (a := ⟨w.heap.size + 1, 1, none⟩) (by show w.heap.size + 1 < W0.heap.size; omega) (.slice A1 E.length c1))
    injection e9 with e8 _ e7
    subst e8
    subst e7
    exact hr
end Go.Proofs.Ytlagljnhbhnelaa
namespace Go.Proofs.Ytlagljnhbhnelaa
open Go.RowKit
set_option linter.unusedVariables false
set_option linter.unusedSimpArgs false

set_option maxHeartbeats 1600000 in
set_option maxRecDepth 1000000 in
theorem dorder_bad (n : Int) (E : List Int) (A : Option Addr) (c : Nat) (w : World) (hE : RdZ w w.heap.size A c E) (h : chkV n E ≠ 0) :
    Calls Try.prog 20 #[.agg #[.int .i64 n, .slice A E.length c]] w fun e w' => e = .returned (.tuple #[.int .i64 0, .int .i64 (chkV n E)]) ∧ Below w.heap.size w w' := by
  have X0 : Hid ((w.alloc (.cells #[.int .i64 n, .slice A E.length c] 33)).heap[w.heap.size]? = some (.cells #[.int .i64 n, .slice A E.length c] 33 (0, 0))) := heap_alloc_new w _
  have B0 : Hid (Below w.heap.size w (w.alloc (.cells #[.int .i64 n, .slice A E.length c] 33))) := below1 w _
  have HCk := Lib.hid (dckv_any n E A c (w.alloc (.cells #[.int .i64 n, .slice A E.length c] 33)) ((hE.below B0.out).mono B0.out.size))
  obtain ⟨x0, x1, _⟩ := cells_two X0.out
  have hk : (chkV n E != 0) = true := by rw [bne_iff_ne]; exact h
  clear h hE
  generalize chkV n E = K at *
  go_enter Try.func20, Try.ntmps20
  go_wp2_with (first
    | (go_at_call 24; ((with_reducible refine HCk.out.mono ?_); rintro e w1 ⟨rfl, hb⟩; have B1 := Lib.hid (B0.out.trans (hb.mono B0.out.size)); clear hb x0 x1))
    | fail)
  exact bodyPost_ret (results_tmp2 rfl _ _ _) rfl ⟨by first | rfl | simp, B1.out⟩
set_option maxHeartbeats 1600000 in
set_option maxRecDepth 1000000 in
theorem dcond_bad (n : Int) (E : List Int) (A : Option Addr) (c : Nat) (w : World) (hE : RdZ w w.heap.size A c E) (h : chkV n E ≠ 0) :
    Calls Try.prog 21 #[.agg #[.int .i64 n, .slice A E.length c]] w fun e w' => e = .returned (.tuple #[.int .i64 0, .int .i64 (chkV n E)]) ∧ Below w.heap.size w w' := by
  have X0 : Hid ((w.alloc (.cells #[.int .i64 n, .slice A E.length c] 33)).heap[w.heap.size]? = some (.cells #[.int .i64 n, .slice A E.length c] 33 (0, 0))) := heap_alloc_new w _
  have B0 : Hid (Below w.heap.size w (w.alloc (.cells #[.int .i64 n, .slice A E.length c] 33))) := below1 w _
  have HCk := Lib.hid (dckv_any n E A c (w.alloc (.cells #[.int .i64 n, .slice A E.length c] 33)) ((hE.below B0.out).mono B0.out.size))
  obtain ⟨x0, x1, _⟩ := cells_two X0.out
  have hk : (chkV n E != 0) = true := by rw [bne_iff_ne]; exact h
  clear h hE
  generalize chkV n E = K at *
  go_enter Try.func21, Try.ntmps21
  go_wp2_with (first
    | (go_at_call 24; ((with_reducible refine HCk.out.mono ?_); rintro e w1 ⟨rfl, hb⟩; have B1 := Lib.hid (B0.out.trans (hb.mono B0.out.size)); clear hb x0 x1))
    | fail)
  exact bodyPost_ret (results_tmp2 rfl _ _ _) rfl ⟨by first | rfl | simp, B1.out⟩

set_option maxHeartbeats 1600000 in
set_option maxRecDepth 1000000 in
theorem deven_bad (n : Int) (E : List Int) (A : Option Addr) (c : Nat) (w : World) (hE : RdZ w w.heap.size A c E) (h : chkV n E ≠ 0) :
    Calls Try.prog 22 #[.agg #[.int .i64 n, .slice A E.length c]] w fun e w' => e = .returned (.tuple #[.bool false, .int .i64 (chkV n E)]) ∧ Below w.heap.size w w' := by
  have X0 : Hid ((w.alloc (.cells #[.int .i64 n, .slice A E.length c] 33)).heap[w.heap.size]? = some (.cells #[.int .i64 n, .slice A E.length c] 33 (0, 0))) := heap_alloc_new w _
  have B0 : Hid (Below w.heap.size w (w.alloc (.cells #[.int .i64 n, .slice A E.length c] 33))) := below1 w _
  have HVa := Lib.hid (dval_bad n E (-1) A c (w.alloc (.cells #[.int .i64 n, .slice A E.length c] 33)) ((hE.below B0.out).mono B0.out.size) h)
  obtain ⟨x0, x1, _⟩ := cells_two X0.out
  have hk : (chkV n E == 0) = false := by rw [beq_eq_false_iff_ne]; exact h
  clear h hE
  generalize chkV n E = K at *
  go_enter Try.func22, Try.ntmps22
  go_upto_region 2 with (first
    | (go_at_call 31; ((with_reducible refine HVa.out.mono ?_); rintro e w1 ⟨rfl, hb⟩; have B1 := Lib.hid (B0.out.trans (hb.mono B0.out.size)); clear hb x0 x1))
    | fail)
  have V1 : Hid ((w1.alloc (.cells #[.bool false, .int .i64 0, .int .i64 0] 48)).heap[w1.heap.size]? = some (.cells #[.bool false, .int .i64 0, .int .i64 0] 48 (0, 0))) := heap_alloc_new w1 _
  have B2 : Hid (Below w.heap.size w (w1.alloc (.cells #[.bool false, .int .i64 0, .int .i64 0] 48))) := B1.out.alloc B1.out.size _
  obtain ⟨⟨s0, s1, s2⟩, sf⟩ := three_of_blockD V1.out
  go_wp2
  exact bodyPost_ret (results_tmp2 rfl _ _ _) rfl ⟨by first | rfl | simp, B2.out⟩
set_option maxHeartbeats 1600000 in
set_option maxRecDepth 1000000 in
theorem reven_any (n : Nat) (E : List Int) (A : Option Addr) (c : Nat) (w : World) (n1 : 1 ≤ n) (n2 : (n : Int) ≤ 60) (hE : RdZ w w.heap.size A c E) (hck : ckX n E = 0) :
    Calls Try.prog 27 #[.agg #[.int .i64 (n : Int), .slice A E.length c]] w fun e w' => e = .returned (.bool (decide (rouN ((tbV n E).getD (-1 % (n : Int)).toNat 0) (tbM (gensV n)) = 0))) ∧ Below w.heap.size w w' := by
  have X0 : Hid ((w.alloc (.cells #[.int .i64 (n : Int), .slice A E.length c] 33)).heap[w.heap.size]? = some (.cells #[.int .i64 (n : Int), .slice A E.length c] 33 (0, 0))) := heap_alloc_new w _
  have B0 : Hid (Below w.heap.size w (w.alloc (.cells #[.int .i64 (n : Int), .slice A E.length c] 33))) := below1 w _
  obtain ⟨x0, x1, _⟩ := cells_two X0.out
  have HVa := Lib.hid (rval_any n E (-1) A c (w.alloc (.cells #[.int .i64 (n : Int), .slice A E.length c] 33)) n1 n2 ((hE.below B0.out).mono B0.out.size) hck (by omega) (by omega))
  have hj1 : (-1 % (n : Int)).toNat < n := by have h1 := Int.emod_lt_of_pos (-1) (show 0 < (n : Int) by omega); have := Int.emod_nonneg (-1) (show (n : Int) ≠ 0 by omega); omega
  have hgc : Nat.gcd (-1 % (n : Int)).toNat n = 1 := by
    rw [← gcd_red (-1) n1]
    show Nat.gcd (Int.natAbs (-1)) _ = 1
    exact Nat.gcd_one_left _
  have hyes := (cht_of n1 (show n ≤ 60 by omega) (ck_ok hck).1).yes _ hj1 hgc
  rw [rou_eq, decide_eq_false (by omega)] at HVa
  have HO : Hid (∀ x y W, Calls Try.prog 56 #[.agg #[.bool false, .int .i64 x, .int .i64 y]] W fun e w' => e = .returned (.bool (decide (x = 0))) ∧ Below W.heap.size W w') := fun x y W => by
    have := one_any false x y W
    simpa using this
  clear hE hck hyes hgc hj1
  generalize (tbV n E).getD (-1 % (n : Int)).toNat 0 = k at *
  generalize tbM (gensV n) = m at *
  generalize rouN k m = x at *
  generalize rouD k m = y at *
  have HO2 := Lib.hid (fun W => HO.out x y W)
  generalize decide (x = 0) = z at *
  go_enter Try.func27, Try.ntmps27
  go_wp2_with (first
    | (go_at_call 33; ((with_reducible refine HVa.out.mono ?_); rintro e w1 ⟨rfl, hb⟩; have B1 := Lib.hid (B0.out.trans (hb.mono B0.out.size)); clear hb x0 x1))
    | (go_at_call 56; ((with_reducible refine (HO2.out _).mono ?_); rintro e w2 ⟨rfl, hb⟩; have B2 := Lib.hid (B1.out.trans (hb.mono B1.out.size)); clear hb))
    | fail)
  go_ret
  exact ⟨by first | rfl | simp, B2.out⟩
theorem run_fieldR (a b c : Value) (W : World) : (Instr.field 48 (.agg #[a, b, c]) 2).run Try.prog W = .ok c W := by
  simp [Instr.field, go_sem, asAgg]
set_option maxHeartbeats 3200000 in
set_option maxRecDepth 1000000 in
theorem rorder_any (n : Nat) (E : List Int) (A : Option Addr) (c : Nat) (w : World) (n1 : 1 ≤ n) (n2 : (n : Int) ≤ 60) (hE : RdZ w w.heap.size A c E) (hck : ckX n E = 0) :
    Calls Try.prog 25 #[.agg #[.int .i64 (n : Int), .slice A E.length c]] w fun e w' => e = .returned (.int .i64 (ordV n E : Nat)) ∧ Below w.heap.size w w' := by
  obtain ⟨hel, hex⟩ := ck_ok hck
  have hM := (tbc_le n1 (show n ≤ 60 by omega)).2 (gensV n).length (Nat.le_refl _)
  rw [List.take_length] at hM
  obtain ⟨M1, M2⟩ := hM
  have hlgf := lg_of n1 (show n ≤ 60 by omega)
  have hod : ∀ k (hk : k < (gensV n).length), tbM (gensV n) % (gensV n)[k].2 = 0 := fun k hk => (hlgf.od _ (List.mem_reverse.2 (List.mem_map_of_mem (List.getElem_mem hk)))).1
  have HDv := Lib.hid (odP_dvd hel hod)
  have HEnd : Hid (odP (gensV n) E (gensV n).length = ordV n E) := odP_end hel
  have HSc := Lib.hid (fun (j : Nat) (h : j < (gensV n).length) (h2 : j < E.length) => odP_succ h h2)
  have HEl := Lib.hid hel
  have HEx := Lib.hid hex
  have HGe : Hid (∀ W, Calls Try.prog 16 #[.int .i64 (n : Int)] W fun e w' => ∃ A1 c1 A2 c2, e = .returned (.tuple #[.slice A1 (gensV n).length c1, .slice A2 (gensV n).length c2]) ∧ RdZ w' w'.heap.size A2 c2 ((gensV n).map fun g => (g.2 : Int)) ∧ Below W.heap.size W w') := fun W => by
    refine (rgenr_any n W n1 n2).mono fun e w' ⟨v1, v2, he, h1, h2, hb⟩ => ?_
    obtain ⟨A1, c1, rfl, r1⟩ := own_rdz h1
    obtain ⟨A2, c2, rfl, r2⟩ := own_rdz h2
    rw [List.length_map, List.length_map] at he
    exact ⟨A1, c1, A2, c2, he, r2, hb⟩
  have hgf := gens_facts n1 (show n ≤ 60 by omega)
  have hgl := hgf.len
  have HGk : Hid (∀ k (hk : k < (gensV n).length), 1 ≤ (gensV n)[k].2 ∧ (gensV n)[k].2 ≤ 60) := fun k hk => ⟨hgf.o1 _ (List.getElem_mem hk), hgf.o2 _ (List.getElem_mem hk)⟩
  have X0 : Hid ((w.alloc (.cells #[.int .i64 (n : Int), .slice A E.length c] 33)).heap[w.heap.size]? = some (.cells #[.int .i64 (n : Int), .slice A E.length c] 33 (0, 0))) := heap_alloc_new w _
  have B0 : Hid (Below w.heap.size w (w.alloc (.cells #[.int .i64 (n : Int), .slice A E.length c] 33))) := below1 w _
  have HEo := Lib.hid hE
  obtain ⟨x0, x1, _⟩ := cells_two X0.out
  clear hE hck hel hex hlgf hod hgf
  generalize ordV n E = R at *
  generalize tbM (gensV n) = M at *
  generalize gensV n = G at *
  have hLi : (G.length : Int) ≤ 8 := by omega
  go_enter Try.func25, Try.ntmps25
  go_wp2_with (first
    | (go_at_call 16; ((with_reducible refine (HGe.out _).mono ?_); rintro e w2 ⟨A1, c1, A2, c2, rfl, hr, hb⟩; have HR := Lib.hid hr; have X2 := Lib.hid (block_below X0.out hb); have B2 := Lib.hid (B0.out.trans (hb.mono B0.out.size)); clear hb hr x0 x1))
    | fail)
  clear HGe
  go_loopw [5, 6, 7] (fun O I _ wr => ∃ j : Nat, O = .int .i64 ((odP G E j : Nat) : Int) ∧ I = .int .i64 (j : Int) ∧ j ≤ G.length ∧ Hid (Below w2.heap.size w2 wr)) (fun _ I _ _ => G.length - (intOf I).toNat)
  case atStart => exact ⟨0, rfl, rfl, Nat.zero_le _, Below.refl _ _⟩
  case round =>
    obtain ⟨j, rfl, rfl, hj, HW⟩ := hrel
    have hdv := HDv.out j hj
    have ha60 : odP G E j ≤ 60 := Nat.le_trans (Nat.le_of_dvd M1 hdv) M2
    have ha1 : 1 ≤ odP G E j := Nat.pos_of_dvd_of_pos hdv M1
    by_cases hjl : j < G.length
    · have hjli : (j : Int) < (G.length : Int) := by omega
      have hjE : j < E.length := by have := HEl.out; omega
      have HS := Lib.hid (HSc.out j hjl hjE)
      have hdv2 := HDv.out (j + 1) (by omega)
      have hb60 : odP G E (j + 1) ≤ 60 := Nat.le_trans (Nat.le_of_dvd M1 hdv2) M2
      have hBw : Below w.heap.size w wr := B2.out.trans (HW.out.mono B2.out.size)
      obtain ⟨b, o, rfl, hbB, q1⟩ := (HEo.out.below hBw).at_ hjE
      obtain ⟨b2, o2, rfl, hb2, q2⟩ := (HR.out.below HW.out).at_ (show j < (G.map fun g => (g.2 : Int)).length by rw [List.length_map]; exact hjl)
      rw [List.getElem_map] at q2
      obtain ⟨g1, g2⟩ := HGk.out j hjl
      obtain ⟨e1, e2⟩ := HEx.out j hjE hjl
      have hE2 : E[j] = ((E[j].toNat : Nat) : Int) := by omega
      rw [hE2] at q1
      have hX : E[j].toNat < G[j].2 := by omega
      clear hdv hdv2 e1 e2 hE2
      generalize E[j].toNat = X at *
      generalize G[j].2 = q at *
      generalize odP G E j = k at *
      generalize hk2 : odP G E (j + 1) = k2 at *
      have HK2 := Lib.hid hk2
      clear hk2
      have HRt := Lib.hid (fun W => root_any X q W g1 (by omega) (by omega))
      rw [Nat.mod_eq_of_lt hX, Nat.gcd_comm X q] at HRt
      have hd1 : 1 ≤ q / Nat.gcd q X := Nat.div_pos (Nat.gcd_le_left _ g1) (Nat.gcd_pos_of_pos_left _ g1)
      have hd2 : q / Nat.gcd q X ≤ 60 := Nat.le_trans (Nat.div_le_self _ _) g2
      generalize X / Nat.gcd q X = X9 at *
      generalize q / Nat.gcd q X = d at *
      have hlc : k / Nat.gcd k d * d = k2 := by
        rw [HS.out]
        show k / Nat.gcd k d * d = k * d / Nat.gcd k d
        rw [Nat.div_mul_right_comm (Nat.gcd_dvd_left k d)]
      have HG := Lib.hid (fun W => rGcd_any (k : Int) (d : Int) W (by unfold Mid; omega) (by unfold Mid; omega))
      rw [show Int.gcd (k : Int) (d : Int) = Nat.gcd k d by simp [Int.gcd]] at HG
      have hg1 : 1 ≤ Nat.gcd k d := Nat.gcd_pos_of_pos_left _ ha1
      have hq1 : k / Nat.gcd k d ≤ k := Nat.div_le_self _ _
      have htd : Int.tdiv (k : Int) ((Nat.gcd k d : Nat) : Int) = ((k / Nat.gcd k d : Nat) : Int) := (Int.ofNat_tdiv _ _).symm
      have hdv : (k : Int) / ((Nat.gcd k d : Nat) : Int) = ((k / Nat.gcd k d : Nat) : Int) := (Int.natCast_ediv _ _).symm
      have hpr : ((k / Nat.gcd k d : Nat) : Int) * (d : Int) = (k2 : Int) := by rw [← hlc, Int.natCast_mul]
      clear hlc HS
      generalize k / Nat.gcd k d = z at *
      generalize Nat.gcd k d = g9 at *
      have g0 : ((g9 : Int) == 0) = false := by rw [beq_eq_false_iff_ne]; omega
      have g0' : ¬ ((g9 : Int) = 0) := by omega
      have g0'' : ¬ (g9 = 0) := by omega
      have hwz : IntKind.i64.wrap (z : Int) = (z : Int) := IntWalk.i64_in _ (by omega)
      have hwk : IntKind.i64.wrap (k2 : Int) = (k2 : Int) := IntWalk.i64_in _ (by omega)
      have hbl := B2.out.size
      have HKc : Hid (∀ W, Below wr.heap.size wr W → W.cell? ⟨w.heap.size, 1, none⟩ = some (.slice (some ⟨b, o, none⟩) E.length c) ∧ W.cell? ⟨b, o + j, none⟩ = some (.int .i64 (X : Int)) ∧ W.cell? ⟨b2, o2 + j, none⟩ = some (.int .i64 (q : Int))) := fun W hW => by
        have hsz := HW.out.size
        refine ⟨(cells_two (block_below (block_below X2.out HW.out) hW)).2.1, (hW.cell (p := ⟨b, o + j, none⟩) (by show b < _; omega)).trans q1, (hW.cell (p := ⟨b2, o2 + j, none⟩) (by show b2 < _; omega)).trans q2⟩
      have D4 : Hid (Below wr.heap.size wr wr.drew) := Below.drew (Below.refl _ _)
      have hfd := fun W => run_fieldR (.bool false) (.int .i64 (X9 : Int)) (.int .i64 (d : Int)) W
      go_upto_region 6 with fail
      go_region_held3 (fun w' => w'.cell? ⟨w.heap.size, 1, none⟩ = some (.slice (some ⟨b, o, none⟩) E.length c) ∧ w'.cell? ⟨b, o + j, none⟩ = some (.int .i64 (X : Int)) ∧ w'.cell? ⟨b2, o2 + j, none⟩ = some (.int .i64 (q : Int)))
        (with_reducible first | exact HKc.out _ D5.out | exact HKc.out _ D4.out | fail)
        (first
          | (go_at_call 55; ((with_reducible refine (HRt.out _).mono ?_); rintro e w5 ⟨rfl, hb⟩; have D5 := Lib.hid (D4.out.trans (hb.mono D4.out.size)); clear hb))
          | fail)
      go_wp2_with (first
        | (go_at_call 35; ((with_reducible refine (HG.out _).mono ?_); rintro e w6 ⟨rfl, hd⟩; have D6 := Lib.hid (D5.out.trans ((bel_drewN hd).mono D5.out.size)); clear hd))
        | fail)
      have HW6 := Lib.hid (HW.out.trans (D6.out.mono HW.out.size))
      go_roundw
      case rel => exact ⟨j + 1, by rw [HK2.out], by go_num, by omega, HW6.out⟩
      case measure => simp [intOf]; omega
    · obtain rfl : j = G.length := by omega
      have hk3 : ¬ (G.length : Int) < (G.length : Int) := by omega
      rw [HEnd.out]
      go_wp2
      go_ret
      exact ⟨rfl, B2.out.trans (HW.out.mono B2.out.size)⟩
end Go.Proofs.Ytlagljnhbhnelaa
namespace Go.Proofs.Ytlagljnhbhnelaa
open Go.RowKit
set_option linter.unusedVariables false
set_option linter.unusedSimpArgs false

set_option maxHeartbeats 6400000 in
set_option maxRecDepth 1000000 in
theorem rcond_any (n C : Nat) (E : List Int) (A : Option Addr) (c : Nat) (w : World) (n1 : 1 ≤ n) (n2 : (n : Int) ≤ 60) (hE : RdZ w w.heap.size A c E) (hck : ckX n E = 0) (C1 : 1 ≤ C) (C2 : C ≤ n) (hC : pdV (tbV n E) C = true) (hl : ∀ f, 1 ≤ f → f < C → pdV (tbV n E) f = false) :
    Calls Try.prog 26 #[.agg #[.int .i64 (n : Int), .slice A E.length c]] w fun e w' => e = .returned (.int .i64 (C : Int)) ∧ Below w.heap.size w w' := by
  have hct := cht_of n1 (show n ≤ 60 by omega) (ck_ok hck).1
  have X0 : Hid ((w.alloc (.cells #[.int .i64 (n : Int), .slice A E.length c] 33)).heap[w.heap.size]? = some (.cells #[.int .i64 (n : Int), .slice A E.length c] 33 (0, 0))) := heap_alloc_new w _
  have B0 : Hid (Below w.heap.size w (w.alloc (.cells #[.int .i64 (n : Int), .slice A E.length c] 33))) := below1 w _
  have HV : Hid (∀ (a : Nat) (h1 : a ≤ n) (W : World), Below w.heap.size w W → Calls Try.prog 33 #[.agg #[.int .i64 (n : Int), .slice A E.length c], .int .i64 (a : Int)] W fun e w' => e = .returned (rouV ((tbV n E).getD (a % n) 0) (tbM (gensV n))) ∧ Below W.heap.size W w') := fun a h1 W hW => by
    have := rval_any n E (a : Int) A c W n1 n2 ((hE.below hW).mono hW.size) hck (by omega) (by omega)
    rwa [show ((a : Int) % (n : Int)).toNat = a % n by rw [← Int.natCast_emod, Int.toNat_natCast]] at this
  have HYes : Hid (∀ a, Nat.gcd a n = 1 → 0 ≤ (tbV n E).getD (a % n) 0 ∧ (tbV n E).getD (a % n) 0 < (tbM (gensV n) : Int)) := fun a hg => hct.yes (a % n) (Nat.mod_lt _ (by omega)) (by rw [gcd_modn]; exact hg)
  have HPd : Hid (∀ f, 1 ≤ f → okC n (tbV n E) f n = pdV (tbV n E) f) := fun f h => okC_pdV hct n1 h
  have HC := Lib.hid hC
  have HL := Lib.hid hl
  obtain ⟨x0, x1, _⟩ := cells_two X0.out
  clear hE hck hct hC hl
  generalize tbV n E = T at *
  generalize tbM (gensV n) = M at *
  go_enter Try.func26, Try.ntmps26
  go_wp2
  go_loopw [4, 5, 6] (fun F _ _ wr => ∃ f : Nat, F = .int .i64 (f : Int) ∧ 1 ≤ f ∧ f ≤ C ∧ Hid (Below w.heap.size w wr) ∧ Hid (wr.heap[w.heap.size]? = some (.cells #[.int .i64 (n : Int), .slice A E.length c] 33 (0, 0)))) (fun F _ _ _ => n + 1 - (intOf F).toNat)
  case atStart => exact ⟨1, rfl, Nat.le_refl _, C1, B0.out, X0.out⟩
  case round =>
    clear B0 X0 x0 x1
    obtain ⟨f, rfl, f1, f2, HB, HX⟩ := hrel
    by_cases hfn : f < n
    · have hfni : (f : Int) < (n : Int) := by omega
      have hf0 : ((f : Int) == 0) = false := by rw [beq_eq_false_iff_ne]; omega
      have hf01 : ¬ ((f : Int) = 0) := by omega
      have hf02 : ¬ (f = 0) := by omega
      have hmod : (n : Int) % (f : Int) = ((n % f : Nat) : Int) := (Int.natCast_emod n f).symm
      have HP := Lib.hid (HPd.out f f1)
      have HSt : Hid (∀ t, okC n T f (t + 1) = (okC n T f t && stpC n T f (t + 1))) := fun t => rfl
      have hok0 : ((n : Int) % (f : Int) == 0) = okC n T f 0 := by
        show _ = decide (n % f = 0)
        rw [hmod]
        by_cases e : n % f = 0
        · rw [e]; rfl
        · rw [decide_eq_false e, beq_eq_false_iff_ne]; omega
      have hlf := Nat.mod_lt n (show 0 < f by omega)
      obtain ⟨wo, hwo⟩ : ∃ wo, wo = wr := ⟨_, rfl⟩
      rw [← hwo] at HB HX ⊢
      clear hwo hmod
      go_wp2
      go_loopw [5, 6] (fun K I wr => ∃ t : Nat, K = .bool (okC n T f t) ∧ I = .int .i64 ((t + 1 : Nat) : Int) ∧ t ≤ n ∧ Hid (Below w.heap.size w wr) ∧ Hid (wr.heap[w.heap.size]? = some (.cells #[.int .i64 (n : Int), .slice A E.length c] 33 (0, 0)))) (fun _ I _ => n + 1 - (intOf I).toNat)
      case atStart => exact ⟨0, rfl, rfl, Nat.zero_le _, HB.out, HX.out⟩
      case round =>
        clear HB HX hok0
        obtain ⟨t, rfl, rfl, ht, HB, HX⟩ := hrel
        obtain ⟨x0, x1, _⟩ := cells_two HX.out
        have HS := Lib.hid (HSt.out t)
        have HFa : Hid (okC n T f t = false → okC n T f n = false) := fun h => okC_false h n ht
        obtain ⟨u, hu⟩ : ∃ u, u = t + 1 := ⟨_, rfl⟩
        have hu1 : (u : Int) - 1 = (t : Int) := by omega
        have HU := Lib.hid hu
        rw [← hu] at HS ⊢
        cases hkb : okC n T f t with
        | false =>
          have HN := Lib.hid (HFa.out hkb)
          rw [HP.out] at HN
          have hfC : f < C := by
            rcases Nat.lt_or_ge f C with h | h
            · exact h
            · have : f = C := by omega
              rw [this, HC.out] at HN
              exact absurd HN.out (by decide)
          clear HFa HS HSt HP HN hkb hu
          by_cases hun : u ≤ n
          · have huni : (u : Int) ≤ (n : Int) := by omega
            go_wp2
            go_roundw
            case rel => exact ⟨f + 1, by go_num, by omega, by omega, HB.out, HX.out⟩
            case measure => simp [intOf]; omega
          · have huni : ¬ (u : Int) ≤ (n : Int) := by omega
            go_wp2
            go_roundw
            case rel => exact ⟨f + 1, by go_num, by omega, by omega, HB.out, HX.out⟩
            case measure => simp [intOf]; omega
        | true =>
          by_cases htn : t < n
          · have huni : (u : Int) ≤ (n : Int) := by omega
            have HG := Lib.hid (fun W => rGcd_any (u : Int) (n : Int) W (by unfold Mid; omega) (by unfold Mid; omega))
            rw [show Int.gcd (u : Int) (n : Int) = Nat.gcd u n by simp [Int.gcd]] at HG
            rw [hkb, Bool.true_and] at HS
            have hut : u - 1 = t := by omega
            have hmod : (t : Int) % (f : Int) = ((t % f : Nat) : Int) := (Int.natCast_emod t f).symm
            have hlt := Nat.mod_lt t (show 0 < f by omega)
            by_cases hg : Nat.gcd u n = 1
            · rw [hg] at HG
              by_cases hm : t % f = 0
              · have hm2 : ((t : Int) % (f : Int) != 0) = false := by rw [hmod, hm]; rfl
                have HVu := Lib.hid (HV.out u (by omega))
                obtain ⟨k1, k2⟩ := HYes.out u hg
                have HO : Hid (∀ W, Calls Try.prog 56 #[.agg #[.bool false, .int .i64 (rouN (T.getD (u % n) 0) M), .int .i64 (rouD (T.getD (u % n) 0) M)]] W fun e w' => e = .returned (.bool (okC n T f u)) ∧ Below W.heap.size W w') := fun W => by
                  have h9 := one_any false (rouN (T.getD (u % n) 0) M) (rouD (T.getD (u % n) 0) M) W
                  have e9 : (!false && decide (rouN (T.getD (u % n) 0) M = 0)) = okC n T f u := by
                    rw [HS.out]
                    unfold stpC
                    have hA : decide (Nat.gcd u n ≠ 1) = false := decide_eq_false (fun h => h hg)
                    have hB : decide ((u - 1) % f ≠ 0) = false := decide_eq_false (fun h => h (by rw [hut]; exact hm))
                    rw [hA, hB, Bool.not_false, Bool.true_and, Bool.false_or, Bool.false_or]
                    exact decide_eq_decide.2 (rouN_zero k1 k2)
                  rwa [e9] at h9
                rw [rou_eq, decide_eq_false (show ¬ T.getD (u % n) 0 = -1 by omega)] at HVu
                clear hkb HS HSt HFa hg hm hmod hlt k1 k2 hut hu
                generalize rouN (T.getD (u % n) 0) M = x at *
                generalize rouD (T.getD (u % n) 0) M = y at *
                go_wp2_with (first
                  | (go_at_call 35; ((with_reducible refine (HG.out _).mono ?_); rintro e w5 ⟨rfl, hd⟩; have HB5 := Lib.hid (HB.out.trans ((bel_drewN hd).mono HB.out.size)); have HX5 := Lib.hid (block_below HX.out (bel_drewN hd)); clear hd x0 x1; obtain ⟨x0, x1, _⟩ := cells_two HX5.out))
                  | (go_at_call 33; ((with_reducible refine (HVu.out _ HB5.out).mono ?_); rintro e w6 ⟨rfl, hb⟩; have HB6 := Lib.hid (HB5.out.trans (hb.mono HB5.out.size)); have HX6 := Lib.hid (block_below HX5.out hb); clear hb x0 x1))
                  | (go_at_call 56; ((with_reducible refine (HO.out _).mono ?_); rintro e w7 ⟨rfl, hb⟩; have HB7 := Lib.hid (HB6.out.trans (hb.mono HB6.out.size)); have HX7 := Lib.hid (block_below HX6.out hb); clear hb))
                  | fail)
                go_roundw
                case rel => exact ⟨u, rfl, by go_num, by omega, HB7.out, HX7.out⟩
                case measure => have := HU.out; simp [intOf]; omega
              · have hm2 : ((t : Int) % (f : Int) != 0) = true := by rw [hmod, bne_iff_ne]; omega
                have HE2 : Hid (okC n T f u = true) := by
                  show _ = _
                  rw [HS.out]; unfold stpC
                  rw [hut, decide_eq_true hm]; simp
                clear hkb HS HSt HFa hg hm hmod hlt hut hu
                go_wp2_with (first
                  | (go_at_call 35; ((with_reducible refine (HG.out _).mono ?_); rintro e w5 ⟨rfl, hd⟩; have HB5 := Lib.hid (HB.out.trans ((bel_drewN hd).mono HB.out.size)); have HX5 := Lib.hid (block_below HX.out (bel_drewN hd)); clear hd x0 x1; obtain ⟨x0, x1, _⟩ := cells_two HX5.out))
                  | fail)
                go_roundw
                case rel => exact ⟨u, by rw [HE2.out], by go_num, by omega, HB5.out, HX5.out⟩
                case measure => have := HU.out; simp [intOf]; omega
            · have hg2 : (((Nat.gcd u n : Nat) : Int) != 1) = true := by rw [bne_iff_ne]; omega
              have HE2 : Hid (okC n T f u = true) := by
                show _ = _
                rw [HS.out]; unfold stpC
                rw [decide_eq_true hg]; simp
              clear hkb HS HSt HFa hg hmod hlt hut hu
              generalize Nat.gcd u n = g9 at *
              go_wp2_with (first
                | (go_at_call 35; ((with_reducible refine (HG.out _).mono ?_); rintro e w5 ⟨rfl, hd⟩; have HB5 := Lib.hid (HB.out.trans ((bel_drewN hd).mono HB.out.size)); have HX5 := Lib.hid (block_below HX.out (bel_drewN hd)); clear hd x0 x1; obtain ⟨x0, x1, _⟩ := cells_two HX5.out))
                | fail)
              go_roundw
              case rel => exact ⟨u, by rw [HE2.out], by go_num, by omega, HB5.out, HX5.out⟩
              case measure => have := HU.out; simp [intOf]; omega
          · obtain rfl : t = n := by omega
            have huni : ¬ (u : Int) ≤ (t : Int) := by omega
            have hfC : f = C := by
              rcases Nat.lt_or_ge f C with h | h
              · rw [HP.out, HL.out f f1 h] at hkb; cases hkb
              · omega
            subst hfC
            clear hkb HS HSt HFa hu
            go_wp2
            go_ret
            exact ⟨rfl, HB.out⟩
    · have hfC : f = C := by omega
      have hnC : n = C := by omega
      subst hfC
      subst hnC
      have hk3 : ¬ (n : Int) < (n : Int) := by omega
      go_wp2
      go_ret
      exact ⟨rfl, HB.out⟩
end Go.Proofs.Ytlagljnhbhnelaa
