/- correspondence.Cosets: its contract, and IsPrime for small numbers. -/
import Derived.Test.YthkhdbngeifenaaCorM
import Derived.Test.YthkhdbngeifenaaDnB
namespace Go.Proofs.Ythkhdbngeifenaa
open Go.RowKit
set_option linter.unusedVariables false
set_option linter.unusedSimpArgs false

theorem infoMat4 : (Try.prog.info? 40).map (fun i => (i.zero, i.size, i.bytes)) = some (some (.agg #[.int .i64 0, .int .i64 0, .int .i64 0, .int .i64 0]), 4, 32) := by kernel_rfl
theorem cell_four_newK (w : World) (a b c d : Value) (t : TypeId) : ∀ j u, [a, b, c, d][j]? = some u → (w.alloc (.cells #[a, b, c, d] t)).cell? ((⟨w.heap.size, 0, none⟩ : Addr).add j) = some u := by
  intro j u hj
  match j, hj with
  | 0, hj => simp at hj; subst hj; simp [Addr.add]
  | 1, hj => simp at hj; subst hj; simp [Addr.add]
  | 2, hj => simp at hj; subst hj; simp [Addr.add]
  | 3, hj => simp at hj; subst hj; simp [Addr.add]
theorem own_keepK {w w' : World} {base n size : Nat} {e : TypeId} {v : Value} {xs : List Value} (h : w.ownsRow base e size v n xs) (hk : ∀ g, v.ownBlock = some g → w'.heap[g]? = w.heap[g]?) : w'.ownsRow base e size v n xs := by
  obtain ⟨h1, h2⟩ := h
  refine ⟨h1, ?_⟩
  rcases h2 with h2 | ⟨g, cap, cur, rfl, hb, hg, h3⟩
  · exact .inl h2
  · exact .inr ⟨g, cap, cur, rfl, hb, (hk g rfl).trans hg, h3⟩
theorem own_neK {w : World} {b1 b2 n1 n2 s1 s2 : Nat} {e1 e2 : TypeId} {v1 v2 : Value} {xs ys : List Value} (h1 : w.ownsRow b1 e1 s1 v1 n1 xs) (h2 : w.ownsRow b2 e2 s2 v2 n2 ys) (hne : e1 ≠ e2) {g : Nat} (hg : v1.ownBlock = some g) : v2.ownBlock ≠ some g := by
  intro hg2
  rcases h1.2 with ⟨rfl, _⟩ | ⟨g1, _, _, rfl, _, k1, _⟩
  · cases hg
  rcases h2.2 with ⟨rfl, _⟩ | ⟨g2, _, _, rfl, _, k2, _⟩
  · cases hg2
  have a1 : g1 = g := by simpa [Value.ownBlock] using hg
  have a2 : g2 = g := by simpa [Value.ownBlock] using hg2
  rw [a1] at k1
  rw [a2, k1] at k2
  injection k2 with k2
  injection k2 with _ k3
  exact hne k3
/-- The two lists on the way, above the block C. -/
structure CW (C : Nat) (w2 wr : World) (v1 v2 : Value) (L : List (Nat × Nat × Nat)) (F : List Int) : Prop where
  r1 : wr.ownsRow C 40 4 v1 L.length (m4s L)
  r2 : wr.ownsRow C 3 1 v2 F.length (zs F)
  bel : Below C w2 wr
  hC : C ≤ w2.heap.size
section
variable {C : Nat} {w2 w w1 : World} {v1 v2 v' : Value} {L : List (Nat × Nat × Nat)} {F : List Int}
theorem CW.on (h : CW C w2 w v1 v2 L F) (hb : Below w.heap.size w w1) : CW C w2 w1 v1 v2 L F :=
  ⟨own_below h.r1 hb, own_below h.r2 hb, h.bel.trans (hb.mono (Nat.le_trans h.hC h.bel.size)), h.hC⟩
theorem CW.pushM (h : CW C w2 w v1 v2 L F) {a b d : Nat} {o : Obj} (hown : w1.ownsRow C 40 4 v' (L.length + 1) (m4s L ++ [.int .i64 (a : Int), .int .i64 (b : Int), .int .i64 0, .int .i64 (d : Int)])) (hg : (w.alloc o).grownBy w1 v1.ownBlock) : CW C w2 w1 v' v2 (L ++ [(a, b, d)]) F := by
  have hs := h.bel.size
  have hc := h.hC
  refine ⟨by rw [m4s_append, m4s_one, List.length_append]; exact hown, own_keepK h.r2 fun k hk => ?_, (h.bel.alloc (by omega) o).grown hg (by simp; omega) fun j hj => (h.r1.lt j hj).1, hc⟩
  have h1 := h.r2.lt k hk
  rw [hg.block k (by simp; omega) (fun e => own_neK h.r2 h.r1 (by decide) hk e.symm), Below.heap_alloc _ _ _ h1.2]
theorem CW.pushF (h : CW C w2 w v1 v2 L F) {x : Int} {o : Obj} (hown : w1.ownsRow C 3 1 v' (F.length + 1) (zs F ++ [.int .i64 x])) (hg : (w.alloc o).grownBy w1 v2.ownBlock) : CW C w2 w1 v1 v' L (F ++ [x]) := by
  have hs := h.bel.size
  have hc := h.hC
  refine ⟨own_keepK h.r1 fun k hk => ?_, by rw [zs_append, List.length_append]; exact hown, (h.bel.alloc (by omega) o).grown hg (by simp; omega) fun j hj => (h.r2.lt j hj).1, hc⟩
  have h1 := h.r1.lt k hk
  rw [hg.block k (by simp; omega) (fun e => own_neK h.r1 h.r2 (by decide) hk e.symm), Below.heap_alloc _ _ _ h1.2]
end
theorem divs128 (n : Nat) (w : World) (hn : 1 ≤ n) (hn2 : (n : Int) ≤ 128) :
    Calls Try.prog 13 #[.int .i64 n] w fun e w' => ∃ (A : Option Addr) (c : Nat), e = .returned (.tuple #[.slice A (dvN n).length c, .int .i64 0]) ∧ (∀ k (hk : k < (dvN n).length), ∃ g, A = some ⟨g, 0, none⟩ ∧ g < w'.heap.size ∧ w'.cell? ⟨g, k, none⟩ = some (.int .i64 ((dvN n)[k] : Nat))) ∧ Below w.heap.size w w' :=
  (divisors_any n w hn (by omega)).mono fun e w' ⟨M, v, he, hd, _, ho, hb⟩ => by
    rw [sorted_dvN hd hn] at ho
    obtain ⟨A, c, rfl⟩ := own_len ho
    refine ⟨A, c, he, fun k hk => ?_, hb⟩
    obtain ⟨g, rfl, hg⟩ := own_some ho (by omega)
    have h2 := (ho.lt g rfl).2
    have hc0 := ho.cells (g := g) rfl _ _ (nats_get (dvN n) k hk)
    rw [addr_add] at hc0
    exact ⟨g, rfl, h2, hc0⟩
theorem dvN_bd128 {n : Nat} (h : 1 ≤ n) (n2 : n ≤ 128) : (dvN n).length ≤ 129 ∧ ∀ x ∈ dvN n, 1 ≤ x ∧ x ∣ n ∧ x ≤ 128 := by
  constructor
  · have := List.length_filter_le (fun d => decide (1 ≤ d) && decide (n % d = 0)) (List.range (n + 1))
    rw [List.length_range] at this
    exact Nat.le_trans this (by omega)
  · intro x hx
    have h1 := (mem_dvN h).1 hx
    have h2 := Nat.le_of_dvd h h1
    exact ⟨Nat.pos_of_dvd_of_pos h1 h, h1, by omega⟩
theorem gcd128 (a b : Nat) (w : World) (ha : (a : Int) ≤ 128) (hb : (b : Int) ≤ 128) : Calls Try.prog 10 #[.int .i64 (a : Int), .int .i64 (b : Int)] w fun e w' => e = .returned (.int .i64 (Nat.gcd a b : Nat)) ∧ ∃ n, w' = w.drewN n := by
  have := gcd_any (a : Int) (b : Int) w (by unfold Mid; omega) (by unfold Mid; omega)
  rwa [show Int.gcd (a : Int) (b : Int) = Nat.gcd a b from rfl] at this
set_option maxHeartbeats 3200000 in
set_option maxRecDepth 1000000 in
theorem cosets_ok (N n : Nat) (W D : Int) (w : World) (h : ckV N W D = 0) (n1 : 1 ≤ n) (n2 : (n : Int) ≤ 128) :
    Calls Try.prog 6 #[.agg #[.int .i64 (N : Int), .int .i64 W, .int .i64 D], .int .i64 (n : Int)] w fun e w' => ∃ A1 c1 A2 c2, e = .returned (.tuple #[.slice A1 (coM N n (dvN n)).length c1, .slice A2 (coF N n D (dvN n)).length c2, .int .i64 0]) ∧ CW w.heap.size w w' (.slice A1 (coM N n (dvN n)).length c1) (.slice A2 (coF N n D (dvN n)).length c2) (coM N n (dvN n)) (coF N n D (dvN n)) := by
  obtain ⟨iM, hiM, y0, y1, y2⟩ := info_parts infoMat4
  obtain ⟨i0, hi0, z0, z1, z2⟩ := info_parts Try.infoInt
  have T0 : Hid ((w.alloc (.cells #[.int .i64 (N : Int), .int .i64 W, .int .i64 D] 23)).heap[w.heap.size]? = some (.cells #[.int .i64 (N : Int), .int .i64 W, .int .i64 D] 23 (0, 0))) := heap_alloc_new w _
  have HB0 : Hid (Below w.heap.size w (w.alloc (.cells #[.int .i64 (N : Int), .int .i64 W, .int .i64 D] 23))) := below1 w _
  obtain ⟨⟨c0, c1, c2⟩, _⟩ := three_of_blockD T0.out
  obtain ⟨⟨N1, N2⟩, _, ⟨d1, d2⟩, _⟩ := ckV_ok h
  have HCk := Lib.hid (fun V => check_any N W D V)
  rw [h] at HCk
  have HDv := Lib.hid (fun V => divs128 n V n1 n2)
  have hDl := (dvN_bd128 n1 (by omega)).1
  have HMem := Lib.hid (dvN_bd128 n1 (by omega)).2
  have HLb := Lib.hid (coM_bd N n (show n ≤ 128 by omega))
  have HSm := Lib.hid (co_same N n D)
  have HPM := Lib.hid (coM_push N n)
  have HPF := Lib.hid (coF_push N n D)
  clear h
  generalize dvN n = G at *
  go_enter Try.func6, Try.ntmps6
  go_wp2_with (first
    | (go_at_call 12; ((with_reducible refine (HCk.out _).mono ?_); rintro e v1 ⟨rfl, hb⟩; have HB1 := Lib.hid (bel0 HB0.out hb); have T1 := Lib.hid (block_below T0.out hb); clear c0 c1 c2; obtain ⟨⟨c0, c1, c2⟩, _⟩ := three_of_blockD T1.out; clear hb))
    | (go_at_call 13; ((with_reducible refine (HDv.out _).mono ?_); rintro e w2 ⟨la, lc, rfl, hr, hb⟩; have HR := Lib.hid hr; have HB2 := Lib.hid (bel0 HB1.out hb); have T2 := Lib.hid (block_below T1.out hb); clear hr hb c0 c1 c2))
    | fail)
  clear HCk HDv
  have hsz2 := HB2.out.size
  have HQ0 : Hid (CW w2.heap.size w2 w2 (.slice none 0 0) (.slice none 0 0) [] []) := ⟨World.ownsRow_nil _ _ _ _, World.ownsRow_nil _ _ _ _, Below.refl _ _, Nat.le_refl _⟩
  go_loopw [8, 9, 13, 14, 33, 45] (fun V1 V2 _ _ I _ wr => ∃ (k : Nat) (A1 : Option Addr) (c1 : Nat) (A2 : Option Addr) (c2 : Nat), V1 = .slice A1 (coM N n (G.take k)).length c1 ∧ V2 = .slice A2 (coF N n D (G.take k)).length c2 ∧ I = .int .i64 (k : Int) ∧ k ≤ G.length ∧ Hid (CW w2.heap.size w2 wr (.slice A1 (coM N n (G.take k)).length c1) (.slice A2 (coF N n D (G.take k)).length c2) (coM N n (G.take k)) (coF N n D (G.take k)))) (fun _ _ _ _ I _ _ => G.length - (intOf I).toNat)
  case atStart => exact ⟨0, none, 0, none, 0, rfl, rfl, rfl, Nat.zero_le _, HQ0.out⟩
  case round =>
    obtain ⟨k, A1, c1, A2, c2, rfl, rfl, rfl, hk, HQ⟩ := hrel
    clear HQ0
    by_cases hkl : k < G.length
    · have hkli : (k : Int) < (G.length : Int) := by omega
      obtain ⟨g, rfl, hg, y1'⟩ := HR.out k hkl
      obtain ⟨m1, m2, m3⟩ := HMem.out G[k] (List.getElem_mem _)
      have x1 : wr.cell? ⟨g, k, none⟩ = some (.int .i64 (G[k] : Nat)) := (HQ.out.bel.cell (p := ⟨g, k, none⟩) hg).trans y1'
      have hgw : g < wr.heap.size := Nat.lt_of_lt_of_le hg HQ.out.bel.size
      have hTk : G.take (k + 1) = G.take k ++ [G[k]] := by rw [List.take_add_one, List.getElem?_eq_getElem hkl]; rfl
      have HN1 : Hid (coM N n (G.take (k + 1)) = coM N n (G.take k) ++ (if Nat.gcd G[k] N = 1 then coT G[k] (n / G[k]) (n / G[k]) else [])) := by show _ = _; rw [hTk, HPM.out]
      have HN2 : Hid (coF N n D (G.take (k + 1)) = coF N n D (G.take k) ++ (if Nat.gcd G[k] N = 1 then List.replicate (n / G[k]) (kron D G[k]) else [])) := by show _ = _; rw [hTk, HPF.out]
      have hLb := HLb.out (G.take k)
      have hLk : (G.take k).length ≤ 129 := by rw [List.length_take]; omega
      have hSm := Lib.hid (HSm.out (G.take k))
      have Tw := Lib.hid (block_below T2.out (HQ.out.bel))
      obtain ⟨⟨x2, x3, x4⟩, _⟩ := three_of_blockD Tw.out
      clear hTk y1'
      generalize coM N n (G.take k) = L at *
      generalize coF N n D (G.take k) = F at *
      generalize G[k] = d at *
      have hq1 : 1 ≤ n / d := Nat.div_pos (Nat.le_of_dvd (by omega) m2) m1
      have hq2 : n / d ≤ 128 := Nat.le_trans (Nat.div_le_self _ _) (by omega)
      have hqd : (n : Int) / (d : Int) = ((n / d : Nat) : Int) := (Int.natCast_ediv _ _).symm
      have htd : Int.tdiv (n : Int) (d : Int) = ((n / d : Nat) : Int) := (Int.ofNat_tdiv _ _).symm
      have hdi1 : 1 ≤ (d : Int) := by omega
      have hdi2 : (d : Int) ≤ 128 := by omega
      have hd0 : ((d : Int) == 0) = false := by rw [beq_eq_false_iff_ne]; omega
      have hd01 : ¬ ((d : Int) = 0) := by omega
      have hd02 : ¬ (d = 0) := by omega
      have HG := Lib.hid (fun V => gcd128 d N V hdi2 (by omega))
      have HKr := Lib.hid (fun V => kronk_any D d V (by omega) (by omega) (by omega) (by omega))
      clear m2
      by_cases hgc : Nat.gcd d N = 1
      · rw [if_pos hgc] at HN1 HN2
        rw [hgc] at HG
        clear hgc
        generalize n / d = q at *
        generalize kron D d = x at *
        have hqi : (q : Int) ≤ 128 := by omega
        go_upto_region 13 with (first
          | (go_at_call 10; ((with_reducible refine (HG.out _).mono ?_); rintro e w3 ⟨rfl, nn, rfl⟩))
          | fail)
        have HQ1 := Lib.hid (HQ.out.on (below_drewN (Below.refl _ _) nn))
        have Tw1 := Lib.hid (block_below Tw.out (below_drewN (Below.refl _ _) nn))
        clear x1 x2 x3 x4 Tw HQ
        obtain ⟨wa, hwa⟩ : ∃ wa, wa = wr.drewN nn := ⟨_, rfl⟩
        rw [← hwa] at HQ1 Tw1 ⊢
        clear hwa
        obtain ⟨⟨x2, x3, x4⟩, _⟩ := three_of_blockD Tw1.out
        have hLl : L.length ≤ 16512 := by omega
        have hFl : F.length ≤ 16512 := by have := hSm.out; omega
        clear hSm hLb hLk HLb
        go_wp2
        go_loopw [8, 9, 14, 45] (fun V1 V2 _ I wi => ∃ (j : Nat) (A1 : Option Addr) (c1 : Nat) (A2 : Option Addr) (c2 : Nat) (M : List (Nat × Nat × Nat)) (E : List Int), V1 = .slice A1 M.length c1 ∧ V2 = .slice A2 E.length c2 ∧ I = .int .i64 (j : Int) ∧ j ≤ q ∧ M.length ≤ 16512 + j ∧ E.length ≤ 16512 + j ∧ Hid (M = L ++ coT d q j) ∧ Hid (E = F ++ List.replicate j x) ∧ Hid (CW w2.heap.size w2 wi (.slice A1 M.length c1) (.slice A2 E.length c2) M E)) (fun _ _ _ I _ => q - (intOf I).toNat)
        case atStart => exact ⟨0, A1, c1, A2, c2, L, F, rfl, rfl, rfl, Nat.zero_le _, by omega, by omega, by show _ = _; simp [coT], by show _ = _; simp, HQ1.out⟩
        case round =>
          obtain ⟨j, B1, e1, B2, e2, M, E, rfl, rfl, rfl, hj, hMl, hEl, HM, HE, HQ2⟩ := hrel
          by_cases hjq : j < q
          · have hjqi : (j : Int) < (q : Int) := by omega
            have hszi : w2.heap.size ≤ wr.heap.size := HQ2.out.bel.size
            have HO1 : Hid (wr.ownsRow w2.heap.size 40 4 (.slice B1 M.length e1) M.length (m4s M)) := HQ2.out.r1
            have HM2 : Hid (M ++ [(d, j, q)] = L ++ coT d q (j + 1)) := by show _ = _; rw [HM.out, coT_succ, List.append_assoc]
            have HE2 : Hid (E ++ [x] = F ++ List.replicate (j + 1) x) := by show _ = _; rw [HE.out, List.replicate_succ', List.append_assoc]
            clear x2 x3 x4
            go_upto_region 17 with (first
              | (at_builtin; (refine wpList_append_own_at _ rfl _ _ 25 rfl w2.heap.size 40 iM (.agg #[.int .i64 0, .int .i64 0, .int .i64 0, .int .i64 0]) 4 32 Try.underlying25 hiM y0 y1 y2 rfl (by decide) _ _ _ rfl (HO1.out.alloc _) ⟨wr.heap.size, 0, none⟩ 1 1 [.int .i64 (d : Int), .int .i64 (j : Int), .int .i64 0, .int .i64 (q : Int)] rfl rfl (cell_four_newK _ _ _ _ _ _) (fun x hx => by simp at hx; rcases hx with rfl | rfl | rfl | rfl <;> rfl) (by unfold maxLen; omega) (by omega) (by simp; omega) ?_); intro v' w4 hown4 hg4 hnil4 hat4; obtain ⟨A3, c3, rfl⟩ := own_len hown4; have HQ4 := Lib.hid (HQ2.out.pushM hown4 hg4); clear hown4 hg4 hnil4 hat4)
              | fail)
            have T4 := Lib.hid (block_below T2.out (HQ4.out.bel))
            obtain ⟨⟨x2, x3, x4⟩, _⟩ := three_of_blockD T4.out
            have hsz4 : w2.heap.size ≤ w4.heap.size := HQ4.out.bel.size
            have HO2 : Hid (w4.ownsRow w2.heap.size 3 1 (.slice B2 E.length e2) E.length (zs E)) := HQ4.out.r2
            clear HO1 HQ2
            go_wp2_with (first
              | (go_at_call 14; ((with_reducible refine (HKr.out _).mono ?_); rintro e w5 ⟨rfl, rfl⟩))
              | (at_builtin; (refine wpList_append_own_at _ rfl _ _ 26 rfl w2.heap.size 3 i0 (.int .i64 0) 1 8 Try.underlying26 hi0 z0 z1 z2 rfl (by decide) _ _ _ rfl (HO2.out.alloc _) ⟨w4.heap.size, 0, none⟩ 1 1 [.int .i64 x] rfl rfl (cell_one_new' _ _ _) (fun x hx => by simp at hx; rw [hx]; rfl) (by unfold maxLen; omega) (by omega) (by simp; omega) ?_); intro v' w6 hown6 hg6 hnil6 hat6; obtain ⟨A4, c4, rfl⟩ := own_len hown6; have HQ6 := Lib.hid (HQ4.out.pushF hown6 hg6); clear hown6 hg6 hnil6 hat6)
              | fail)
            go_roundw
            case rel => exact ⟨j + 1, A3, c3, A4, c4, _, _, by rw [List.length_append]; rfl, by rw [List.length_append]; rfl, by go_num, by omega, by rw [List.length_append]; simp; omega, by rw [List.length_append]; simp; omega, HM2.out, HE2.out, by rw [List.length_append, List.length_append]; exact HQ6.out⟩
            case measure => simp [intOf]; omega
          · obtain rfl : j = q := by omega
            have hk3 : ¬ (j : Int) < (j : Int) := by omega
            go_wp2
            go_roundw
            case rel => exact ⟨k + 1, B1, e1, B2, e2, by rw [HN1.out, ← HM.out], by rw [HN2.out, ← HE.out], by go_num, by omega, by rw [HN1.out, ← HM.out, HN2.out, ← HE.out]; exact HQ2.out⟩
            case measure => simp [intOf]; omega
      · rw [if_neg hgc, List.append_nil] at HN1 HN2
        have hgc2 : (((Nat.gcd d N : Nat) : Int) == 1) = false := by rw [beq_eq_false_iff_ne]; omega
        clear hgc
        generalize Nat.gcd d N = gg at *
        go_wp2_with (first
          | (go_at_call 10; ((with_reducible refine (HG.out _).mono ?_); rintro e w3 ⟨rfl, nn, rfl⟩))
          | fail)
        go_roundw
        case rel => exact ⟨k + 1, A1, c1, A2, c2, by rw [HN1.out], by rw [HN2.out], by go_num, by omega, by rw [HN1.out, HN2.out]; exact HQ.out.on (below_drewN (Below.refl _ _) nn)⟩
        case measure => simp [intOf]; omega
    · obtain rfl : k = G.length := by omega
      have hk3 : ¬ (G.length : Int) < (G.length : Int) := by omega
      rw [List.take_length] at HQ
      have HQ9 : Hid (CW w.heap.size w wr (.slice A1 (coM N n G).length c1) (.slice A2 (coF N n D G).length c2) (coM N n G) (coF N n D G)) := ⟨own_base HB2.out.size HQ.out.r1, own_base HB2.out.size HQ.out.r2, HB2.out.trans (HQ.out.bel.mono HB2.out.size), Nat.le_refl _⟩
      rw [List.take_length]
      go_wp2
      refine bodyPost_ret (v := .tuple #[.slice A1 (coM N n G).length c1, .slice A2 (coF N n D G).length c2, .int .i64 0]) ?_ rfl ⟨_, _, _, _, rfl, HQ9.out⟩
      simp [results, Try.results6, go_sem]
end Go.Proofs.Ythkhdbngeifenaa
