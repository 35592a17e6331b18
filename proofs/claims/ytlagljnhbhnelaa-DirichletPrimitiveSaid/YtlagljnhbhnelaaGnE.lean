/- generators: the generators modulo n for n to 60. -/
import Derived.Test.YtlagljnhbhnelaaGnD
namespace Go.Proofs.Ytlagljnhbhnelaa
open Go.RowKit
set_option linter.unusedVariables false
set_option linter.unusedSimpArgs false

def gnP (n p q : Nat) : List (Nat × Nat) :=
  if 2 < p then [(crV n q (rootV q : Nat), phV q)] else if q = 4 then [(crV n q (-1), 2)] else if 4 < q then [(crV n q (-1), 2), (crV n q 5, q / 4)] else []
def gnF (n : Nat) : List (Nat × Nat) → List (Nat × Nat)
  | [] => []
  | f :: l => gnP n f.1 (f.1 ^ f.2) ++ gnF n l
/-- The generators and their orders. -/
def gensV (n : Nat) : List (Nat × Nat) := gnF n (facs 2 n)
theorem gnF_append (n : Nat) : ∀ l m, gnF n (l ++ m) = gnF n l ++ gnF n m
  | [], _ => rfl
  | f :: l, m => by
    show gnP n f.1 (f.1 ^ f.2) ++ gnF n (l ++ m) = (gnP n f.1 (f.1 ^ f.2) ++ gnF n l) ++ gnF n m
    rw [gnF_append n l m, List.append_assoc]
theorem gnP_len (n p q : Nat) : (gnP n p q).length ≤ 2 := by
  unfold gnP
  split
  · simp
  · split
    · simp
    · split <;> simp
def crOk (n q : Nat) (a : Int) : Bool := decide (1 ≤ q) && decide (q * (n / q) = n) && decide (Nat.gcd q (n / q) = 1) && decide (crV n q a < n) && decide ((q : Int) ∣ (crV n q a : Int) - a) && decide (((n / q : Nat) : Int) ∣ (crV n q a : Int) - 1)
theorem cr_of {n q : Nat} {a : Int} (n1 : 1 ≤ n) (n2 : n ≤ 60) (h : crOk n q a = true) : CrF n q a := by
  unfold crOk at h
  simp only [Bool.and_eq_true, decide_eq_true_eq] at h
  obtain ⟨⟨⟨⟨⟨a1, b⟩, c⟩, d⟩, e⟩, f⟩ := h
  exact ⟨n1, n2, a1, b, c, d, e, f⟩
def gnOk (n : Nat) : Bool := (facs 2 n).all fun f =>
  decide (2 ≤ f.1) && decide (f.1 ≤ 60) && decide (1 ≤ f.2) && decide (f.2 ≤ 5) && decide (f.1 ^ f.2 ≤ 60) &&
  (if 2 < f.1 then decide (f.1 ^ f.2 ∈ oddPP) && crOk n (f.1 ^ f.2) (rootV (f.1 ^ f.2) : Nat) else if f.1 ^ f.2 = 4 then crOk n (f.1 ^ f.2) (-1) else if 4 < f.1 ^ f.2 then crOk n (f.1 ^ f.2) (-1) && crOk n (f.1 ^ f.2) 5 else true)
set_option maxRecDepth 100000 in
theorem gn_all : (List.range 60).all (fun i => gnOk (i + 1)) = true := by decide +kernel
structure GnF (n : Nat) (f : Nat × Nat) : Prop where
  p1 : 2 ≤ f.1
  p2 : f.1 ≤ 60
  e1 : 1 ≤ f.2
  e2 : f.2 ≤ 5
  q : f.1 ^ f.2 ≤ 60
  odd : 2 < f.1 → f.1 ^ f.2 ∈ oddPP ∧ CrF n (f.1 ^ f.2) (rootV (f.1 ^ f.2) : Nat)
  four : ¬ 2 < f.1 → f.1 ^ f.2 = 4 → CrF n (f.1 ^ f.2) (-1)
  big : ¬ 2 < f.1 → 4 < f.1 ^ f.2 → CrF n (f.1 ^ f.2) (-1) ∧ CrF n (f.1 ^ f.2) 5
theorem gn_of {n : Nat} (n1 : 1 ≤ n) (n2 : n ≤ 60) : ∀ f ∈ facs 2 n, GnF n f := fun f hf => by
  have h := List.all_eq_true.1 gn_all (n - 1) (List.mem_range.2 (by omega))
  rw [show n - 1 + 1 = n by omega] at h
  have h2 := List.all_eq_true.1 h f hf
  simp only [Bool.and_eq_true, decide_eq_true_eq] at h2
  obtain ⟨⟨⟨⟨⟨a, b⟩, c⟩, d⟩, e⟩, g⟩ := h2
  refine ⟨a, b, c, d, e, fun h3 => ?_, fun h3 h4 => ?_, fun h3 h4 => ?_⟩
  · rw [if_pos h3] at g
    simp only [Bool.and_eq_true, decide_eq_true_eq] at g
    exact ⟨g.1, cr_of n1 n2 g.2⟩
  · rw [if_neg h3, if_pos h4] at g
    exact cr_of n1 n2 g
  · rw [if_neg h3, if_neg (by omega), if_pos h4] at g
    simp only [Bool.and_eq_true] at g
    exact ⟨cr_of n1 n2 g.1, cr_of n1 n2 g.2⟩
/-- The block of a list of factors. -/
theorem fac_blk {w2 : World} {B : Nat} {F : List (Nat × Nat)} {la : Option Addr} {ll lc : Nat} (ho : w2.ownsRow B 91 2 (.slice la ll lc) F.length (flat F)) :
    ll = F.length ∧ ∀ k (hk : k < F.length), ∃ g cs, la = some ⟨g, 0, none⟩ ∧ w2.heap[g]? = some (.cells cs 91 (0, 0)) ∧ ∀ w : World, w.heap[g]? = some (.cells cs 91 (0, 0)) → w.cell? ⟨g, k * 2, none⟩ = some (.int .i64 (F[k].1 : Int)) ∧ w.cell? ⟨g, k * 2 + 1, none⟩ = some (.int .i64 (F[k].2 : Int)) := by
  have h1 := (fac_read ho).1
  refine ⟨h1, fun k hk => ?_⟩
  rcases ho.2 with hnil | ⟨g, cap, cur, h2, h3, h4, h5, h6, h7, h8⟩
  · have h9 : (Value.slice la ll lc) = .slice none 0 0 := hnil.1
    have h10 : la = none ∧ ll = 0 ∧ lc = 0 := by simpa using h9
    omega
  · have e : la = some ⟨g, 0, none⟩ := by simpa using (by simpa using h2 : la = some ⟨g, 0, none⟩ ∧ _).1
    refine ⟨g, cur, e, h4, fun w hw => ?_⟩
    have c1 := (flat_get F k hk).1
    have c2 := (flat_get F k hk).2
    rw [← h8] at c1 c2
    rw [List.getElem?_take] at c1 c2
    rw [if_pos (by omega)] at c1 c2
    rw [Array.getElem?_toList] at c1 c2
    exact ⟨by rw [cell_of_row w g _ _ _ _ hw]; exact c1, by rw [cell_of_row w g _ _ _ _ hw]; exact c2⟩
theorem add_m2 (B : Nat) (w0 w : World) (v : Value) (L : List (Nat × Nat)) (n q qb : Nat) (hw : GW B w0 v L n w) (hq : w.heap[qb]? = some (.cells #[.int .i64 (q : Int)] 3 (0, 0))) (hc : CrF n q (-1)) (hl : L.length ≤ 1000) :
    Calls Try.prog 68 #[.int .i64 (-1), .int .i64 2, .pointer (some ⟨qb, 0, none⟩), .pointer (some ⟨B, 0, none⟩), .pointer (some ⟨B + 1, 0, none⟩)] w fun e w' => e = .returned (.tuple #[]) ∧ ∃ v', GW B w0 v' (L ++ [(crV n q (-1), 2)]) n w' ∧ Keep w w' :=
  add_any B w0 w v L n q qb 2 (-1) hw hq hc (by omega) (by omega) (by omega) hl
set_option maxHeartbeats 6400000 in
set_option maxRecDepth 1000000 in
theorem gens_any (n : Nat) (w : World) (n1 : 1 ≤ n) (n2 : (n : Int) ≤ 60) :
    Calls Try.prog 47 #[.int .i64 (n : Int)] w fun e w' => ∃ v, e = .returned v ∧ w'.ownsRow (w.heap.size + 2) 73 2 v (gensV n).length (flat (gensV n)) ∧ Below w.heap.size w w' := by
  have hmf : ∀ (fn : Fn) (first cap : Array Value) (w : World), (Instr.makeFunc fn first cap).run Try.prog w = .ok (.func fn first cap) w := fun _ _ _ _ => rfl
  have HFa := Lib.hid (fun V => factor_any n V n1 (by omega))
  have HM : Hid (∀ (k : Nat) (h : k < (facs 2 n).length), GnF n (facs 2 n)[k]) := fun k h => gn_of n1 (by omega) _ (List.getElem_mem h)
  have hfl := (art_of n1 (show n ≤ 120 by omega)).fl
  have HP : Hid (gnF n ((facs 2 n).take (facs 2 n).length) = gensV n) := by show _ = _; rw [List.take_length]; rfl
  have HG0 : Hid (GW w.heap.size w (.slice none 0 0) [] n ((w.alloc (.cells #[.int .i64 (n : Int)] 3)).alloc (.cells #[.slice none 0 0] 70))) := by
    refine ⟨block_alloc (heap_alloc_new w _) _, ?_, World.ownsRow_nil _ _ _ _, below2 w _ _⟩
    have := heap_alloc_new (w.alloc (.cells #[.int .i64 (n : Int)] 3)) (.cells #[.slice none 0 0] 70)
    simpa using this
  have cn := cell_of_one HG0.out.nb
  generalize facs 2 n = F at *
  go_enter Try.func47, Try.ntmps47
  go_wp2_with (first
    | (go_at_call 67; ((with_reducible refine (HFa.out _).mono ?_); rintro e w2 ⟨v, rfl, ho, hb⟩; obtain ⟨la, ll, lc, rfl⟩ := ownsRow_slice ho; have HRd := Lib.hid (fac_blk ho); have HG2 := Lib.hid (HG0.out.on hb); clear ho hb cn))
    | fail)
  obtain ⟨hll, hrd⟩ := HRd.out
  have HR := Lib.hid hrd
  subst hll
  clear HRd hrd HFa
  go_loopw [7, 8, 9, 17, 23] (fun _ _ _ I _ wr => ∃ (k : Nat) (v : Value) (L : List (Nat × Nat)), I = .int .i64 k ∧ k ≤ F.length ∧ L.length ≤ 2 * k ∧ Hid (gnF n (F.take k) = L) ∧ Hid (GW w.heap.size w v L n wr) ∧ Hid (Keep w2 wr)) (fun _ _ _ I _ _ => F.length - (intOf I).toNat)
  case atStart => exact ⟨0, _, [], rfl, Nat.zero_le _, by simp, rfl, HG2.out, Keep.refl _⟩
  case round =>
    obtain ⟨k, v, L, rfl, hk, hL, HX, HW, HK⟩ := hrel
    by_cases hkl : k < F.length
    · have hkli : (k : Int) < (F.length : Int) := by omega
      obtain ⟨g, cs, rfl, hg1, hcell⟩ := HR.out k hkl
      obtain ⟨x1, x2⟩ := hcell wr (HK.out.at_ _ _ _ hg1 (by decide) (by decide))
      have hgn := HM.out k hkl
      have HN : Hid (gnF n (F.take (k + 1)) = L ++ gnP n F[k].1 (F[k].1 ^ F[k].2)) := by
        show _ = _
        rw [List.take_add_one, List.getElem?_eq_getElem hkl, Option.toList_some, gnF_append, HX.out]
        show L ++ (gnP n F[k].1 (F[k].1 ^ F[k].2) ++ []) = _
        rw [List.append_nil]
      have HLn := Lib.hid (gnP_len n F[k].1 (F[k].1 ^ F[k].2))
      clear HX hg1 hcell
      generalize F[k] = f at *
      obtain ⟨p, e⟩ := f
      obtain ⟨p1, p2, e1, e2, hq, hodd, hfour, hbig⟩ := hgn
      have HPw := Lib.hid (fun j (hj : j ≤ e) => Nat.le_trans (Nat.pow_le_pow_right (by omega) hj) hq)
      simp only at x1 x2 p1 p2 e1 e2 hq HN HLn
      have p1i : 2 ≤ (p : Int) := by omega
      have p2i : (p : Int) ≤ 60 := by omega
      have e2i : (e : Int) ≤ 5 := by omega
      go_upto_region 7 with fail
      have hwf := HK.out.size
      have hBf := HW.out.size
      have U0 : Hid (((wr.alloc (.cells #[.int .i64 (p : Int), .int .i64 (e : Int)] 91)).alloc (.cells #[.int .i64 1] 3)).heap[wr.heap.size]? = some (.cells #[.int .i64 (p : Int), .int .i64 (e : Int)] 91 (0, 0))) := block_alloc (heap_alloc_new wr _) _
      have Q0 : Hid (((wr.alloc (.cells #[.int .i64 (p : Int), .int .i64 (e : Int)] 91)).alloc (.cells #[.int .i64 1] 3)).heap[wr.heap.size + 1]? = some (.cells #[.int .i64 1] 3 (0, 0))) := by
        have := heap_alloc_new (wr.alloc (.cells #[.int .i64 (p : Int), .int .i64 (e : Int)] 91)) (.cells #[.int .i64 1] 3)
        show _ = _; simpa using this
      have G0 : Hid (GW w.heap.size w v L n ((wr.alloc (.cells #[.int .i64 (p : Int), .int .i64 (e : Int)] 91)).alloc (.cells #[.int .i64 1] 3))) := HW.out.on (below2 wr _ _)
      have K0 : Hid (Keep w2 ((wr.alloc (.cells #[.int .i64 (p : Int), .int .i64 (e : Int)] 91)).alloc (.cells #[.int .i64 1] 3))) := HK.out.below (below2 wr _ _)
      have k1 := (cells_two U0.out).2.1
      clear x1 x2 HW HK HG0 HG2
      generalize ((wr.alloc (.cells #[.int .i64 (p : Int), .int .i64 (e : Int)] 91)).alloc (.cells #[.int .i64 1] 3)) = W3 at *
      generalize wr.heap.size = fb at *
      go_wp2
      go_loopw [23] (fun J wi => ∃ j : Nat, J = .int .i64 j ∧ j ≤ e ∧ Hid (wi.heap[fb]? = some (.cells #[.int .i64 (p : Int), .int .i64 (e : Int)] 91 (0, 0))) ∧ Hid (wi.heap[fb + 1]? = some (.cells #[.int .i64 ((p ^ j : Nat) : Int)] 3 (0, 0))) ∧ Hid (GW w.heap.size w v L n wi) ∧ Hid (Keep w2 wi)) (fun J _ => e - (intOf J).toNat)
      case atStart => exact ⟨0, rfl, Nat.zero_le _, U0.out, Q0.out, G0.out, K0.out⟩
      case round =>
        obtain ⟨j, rfl, hj, HU, HQ, HG, HK⟩ := hrel
        obtain ⟨m0, m1, mf⟩ := cells_two HU.out
        have q0 := cell_of_one HQ.out
        have qf := free_of_one HQ.out
        clear U0 Q0 G0 K0 k1
        by_cases hje : j < e
        · have hjei : (j : Int) < (e : Int) := by omega
          have hr := HPw.out (j + 1) (by omega)
          have hs := HPw.out j (by omega)
          have hmul : ((p ^ j : Nat) : Int) * (p : Int) = ((p ^ (j + 1) : Nat) : Int) := by rw [Nat.pow_succ, Int.natCast_mul]
          have Q2 := Lib.hid (one_setCell HQ.out (u := .int .i64 ((p ^ (j + 1) : Nat) : Int)))
          have U2 : Hid ((wr.setCell ⟨fb + 1, 0, none⟩ (.int .i64 ((p ^ (j + 1) : Nat) : Int))).heap[fb]? = some (.cells #[.int .i64 (p : Int), .int .i64 (e : Int)] 91 (0, 0))) := (Below.heap_setCell _ _ _ _ (by show fb ≠ fb + 1; omega)).trans HU.out
          have G2 := Lib.hid (HG.out.set1 (by omega) HQ.out (.int .i64 ((p ^ (j + 1) : Nat) : Int)))
          have K2 := Lib.hid (HK.out.set1 (g := fb + 1) (by omega) (.int .i64 ((p ^ (j + 1) : Nat) : Int)))
          replace hr : p ^ (j + 1) ≤ 60 := hr
          replace hs : p ^ j ≤ 60 := hs
          clear HU HQ HG HK
          generalize hR : p ^ (j + 1) = r at *
          have HR2 := Lib.hid hR
          clear hR
          generalize p ^ j = s at *
          have hwp : IntKind.i64.wrap (r : Int) = (r : Int) := IntWalk.i64_in _ (by omega)
          go_wp2
          go_roundw
          case rel => exact ⟨j + 1, by go_num, by omega, U2.out, by rw [HR2.out]; exact Q2.out, G2.out, K2.out⟩
          case measure => simp [intOf]; omega
        · obtain rfl : j = e := by omega
          have hje2 : ¬ (j : Int) < (j : Int) := by omega
          replace hodd : 2 < p → p ^ j ∈ oddPP ∧ CrF n (p ^ j) (rootV (p ^ j) : Nat) := hodd
          replace hfour : ¬ 2 < p → p ^ j = 4 → CrF n (p ^ j) (-1) := hfour
          replace hbig : ¬ 2 < p → 4 < p ^ j → CrF n (p ^ j) (-1) ∧ CrF n (p ^ j) 5 := hbig
          generalize p ^ j = q at *
          have q2 : (q : Int) ≤ 60 := by omega
          by_cases hp : 2 < p
          · obtain ⟨hm, hcr⟩ := hodd hp
            have hpi : 2 < (p : Int) := by omega
            have hRt := rt_of hm
            have HPr := Lib.hid (fun V => prim_any q V hRt)
            have r1 := hRt.r1
            have r2 := hRt.r2
            have HAd := Lib.hid (fun V (hV : GW w.heap.size w v L n V) (hQ : V.heap[fb + 1]? = some (.cells #[.int .i64 (q : Int)] 3 (0, 0))) => add_any w.heap.size w V v L n q (fb + 1) (phV q) (rootV q : Nat) hV hQ hcr (by omega) (by omega) (by have := phV_le q; omega) (by omega))
            have HN2 : Hid (gnF n (F.take (k + 1)) = L ++ [(crV n q (rootV q : Nat), phV q)]) := by
              show _ = _; rw [HN.out]; unfold gnP; rw [if_pos hp]
            clear hodd hfour hbig hRt hm hcr
            generalize rootV q = rt at *
            generalize phV q = ph at *
            go_wp2_with (first
              | (go_at_call 70; ((with_reducible refine (HPr.out _).mono ?_); rintro e5 w5 ⟨rfl, hb⟩; have G5 := Lib.hid (HG.out.on hb); have Q5 := Lib.hid (block_below HQ.out hb); have K5 := Lib.hid (HK.out.below hb); clear hb))
              | (go_at_call 68; ((with_reducible refine (HAd.out _ G5.out Q5.out).mono ?_); rintro e6 w6 ⟨rfl, v6, hg6, hk6⟩; have G6 := Lib.hid hg6; have K6 := Lib.hid (K5.out.trans hk6); clear hg6 hk6))
              | fail)
            go_roundw
            case rel => exact ⟨k + 1, v6, _, by go_num, by omega, by simp; omega, HN2.out, G6.out, K6.out⟩
            case measure => simp [intOf]; omega
          · have hpi : ¬ 2 < (p : Int) := by omega
            by_cases h4 : q = 4
            · have h4i : ((q : Int) == 4) = true := by rw [beq_iff_eq]; omega
              have hcr := hfour hp h4
              have HAd := Lib.hid (fun V (hV : GW w.heap.size w v L n V) (hQ : V.heap[fb + 1]? = some (.cells #[.int .i64 (q : Int)] 3 (0, 0))) => add_m2 w.heap.size w V v L n q (fb + 1) hV hQ hcr (by omega))
              have HN2 : Hid (gnF n (F.take (k + 1)) = L ++ [(crV n q (-1), 2)]) := by
                show _ = _; rw [HN.out]; unfold gnP; rw [if_neg hp, if_pos h4]
              clear hodd hfour hbig hcr h4
              go_wp2_with (first
                | (go_at_call 68; ((with_reducible refine (HAd.out _ HG.out HQ.out).mono ?_); rintro e6 w6 ⟨rfl, v6, hg6, hk6⟩; have G6 := Lib.hid hg6; have K6 := Lib.hid (HK.out.trans hk6); clear hg6 hk6))
                | fail)
              go_roundw
              case rel => exact ⟨k + 1, v6, _, by go_num, by omega, by simp; omega, HN2.out, G6.out, K6.out⟩
              case measure => simp [intOf]; omega
            · have h4i : ((q : Int) == 4) = false := by rw [beq_eq_false_iff_ne]; omega
              by_cases h5 : 4 < q
              · have h5i : 4 < (q : Int) := by omega
                obtain ⟨hcr1, hcr2⟩ := hbig hp h5
                have HN2 : Hid (gnF n (F.take (k + 1)) = (L ++ [(crV n q (-1), 2)]) ++ [(crV n q 5, q / 4)]) := by
                  show _ = _; rw [HN.out]; unfold gnP; rw [if_neg hp, if_neg h4, if_pos h5, List.append_assoc]; rfl
                have hdv : (q : Int) / 4 = ((q / 4 : Nat) : Int) := by omega
                have htd : Int.tdiv (q : Int) 4 = ((q / 4 : Nat) : Int) := by rw [Int.tdiv_eq_ediv_of_nonneg (by omega)]; omega
                have hz : q / 4 ≤ 15 := by omega
                have HAd := Lib.hid (fun V (hV : GW w.heap.size w v L n V) (hQ : V.heap[fb + 1]? = some (.cells #[.int .i64 (q : Int)] 3 (0, 0))) => add_m2 w.heap.size w V v L n q (fb + 1) hV hQ hcr1 (by omega))
                have HAe := Lib.hid (fun V v6 (hV : GW w.heap.size w v6 (L ++ [(crV n q (-1), 2)]) n V) (hQ : V.heap[fb + 1]? = some (.cells #[.int .i64 (q : Int)] 3 (0, 0))) => add_any w.heap.size w V v6 (L ++ [(crV n q (-1), 2)]) n q (fb + 1) (q / 4) 5 hV hQ hcr2 (by omega) (by omega) (by omega) (by simp; omega))
                clear hodd hfour hbig hcr1 hcr2
                generalize crV n q (-1) = c1 at *
                generalize crV n q 5 = c2 at *
                generalize q / 4 = z at *
                have hwz : IntKind.i64.wrap (z : Int) = (z : Int) := IntWalk.i64_in _ (by omega)
                go_wp2_with (first
                  | (go_at_call 68; first
                      | ((with_reducible refine (HAd.out _ HG.out HQ.out).mono ?_); rintro e6 w6 ⟨rfl, v6, hg6, hk6⟩; have G6 := Lib.hid hg6; have Q6 := Lib.hid (hk6.at_ _ _ _ HQ.out (by decide) (by decide)); have K6 := Lib.hid (HK.out.trans hk6); have q6 := cell_of_one Q6.out; clear hg6 hk6)
                      | ((with_reducible refine (HAe.out _ _ G6.out Q6.out).mono ?_); rintro e7 w7 ⟨rfl, v7, hg7, hk7⟩; have G7 := Lib.hid hg7; have K7 := Lib.hid (K6.out.trans hk7); clear hg7 hk7)
                      | fail)
                  | fail)
                go_roundw
                case rel => exact ⟨k + 1, v7, _, by go_num, by omega, by simp; omega, HN2.out, G7.out, K7.out⟩
                case measure => simp [intOf]; omega
              · have h5i : ¬ 4 < (q : Int) := by omega
                have HN2 : Hid (gnF n (F.take (k + 1)) = L) := by
                  show _ = _; rw [HN.out]; unfold gnP; rw [if_neg hp, if_neg h4, if_neg h5, List.append_nil]
                clear hodd hfour hbig
                go_wp2
                go_roundw
                case rel => exact ⟨k + 1, v, L, by go_num, by omega, by omega, HN2.out, HG.out, HK.out⟩
                case measure => simp [intOf]; omega
    · obtain rfl : k = F.length := by omega
      have hk3 : ¬ (F.length : Int) < (F.length : Int) := by omega
      have cl := cell_of_one HW.out.list
      obtain rfl : L = gensV n := by rw [← HX.out]; exact HP.out
      go_wp2
      go_ret
      exact ⟨_, rfl, HW.out.own, HW.out.below⟩
end Go.Proofs.Ytlagljnhbhnelaa
