/- The walk of Divisors. -/
import Derived.Test.YtoeailhcobbhjaaDivOwn
import Derived.IntWalk
import Derived.Deep.RegionLaw
import Derived.Deep.AppendLies
import Derived.ArgAppend
namespace Go.Proofs.Ytoeailhcobbhjaa
open Go.RowKit

theorem root_of (n : Nat) : ∃ D, D * D ≤ n ∧ n < (D + 1) * (D + 1) := by
  induction n with
  | zero => exact ⟨0, by omega, by omega⟩
  | succ n ih =>
    obtain ⟨D, h1, h2⟩ := ih
    by_cases h : n + 1 < (D + 1) * (D + 1)
    · exact ⟨D, by omega, h⟩
    · refine ⟨D + 1, by omega, ?_⟩
      have : (D + 1) * (D + 1) < (D + 1 + 1) * (D + 1 + 1) := Nat.mul_lt_mul_of_lt_of_le (by omega) (by omega) (by omega)
      omega
theorem mem_dvs_iff {n D x : Nat} (hn : 1 ≤ n) (h : n < (D + 1) * (D + 1)) : x ∈ dvs n D ↔ x ∣ n := ⟨dvs_dvd, mem_dvs hn h⟩
/-- No list of divisors is long. -/
theorem DivL.len {P : Nat} {L : List Nat} (h : DivL P L) (h1 : 1 ≤ P) (h2 : P ≤ 2147483647) : L.length ≤ 92682 := by
  obtain ⟨D, d1, d2⟩ := root_of P
  have hp : L.Perm (dvs P D) := (List.perm_ext_iff_of_nodup h.nd ((dvs_asc h1 d1).imp fun h => by omega)).2 fun x => (h.mem x).trans (mem_dvs_iff h1 d2).symm
  rw [hp.length_eq]
  have h3 := dvs_len P D
  rcases Nat.lt_or_ge 46341 D with h | h
  · have : 46342 * 46342 ≤ D * D := Nat.mul_le_mul h h
    omega
  · omega
theorem sorted_dvs {n D : Nat} {M : List Nat} (h : DivL n M) (hn : 1 ≤ n) (h1 : D * D ≤ n) (h2 : n < (D + 1) * (D + 1)) : sorted M = dvs n D :=
  asc_eq (sorted_asc h.nd) (dvs_asc hn h1) fun x => ((sorted_perm M).mem_iff.trans (h.mem x)).trans (mem_dvs_iff hn h2).symm
/-- The product of the first powers. -/
def pw (F : List (Nat × Nat)) (k : Nat) : Nat := prod ((F.take k).map fun p => p.1 ^ p.2)
theorem pw_succ {F : List (Nat × Nat)} {k : Nat} (h : k < F.length) : pw F (k + 1) = pw F k * F[k].1 ^ F[k].2 := by
  unfold pw
  rw [List.take_succ_eq_append_getElem h, List.map_append, prod_append]
  simp [prod]
theorem pw_not {n : Nat} {F : List (Nat × Nat)} (hF : FacIs 2 n F) {k : Nat} (h : k < F.length) : ¬ F[k].1 ∣ pw F k := by
  intro hd
  unfold pw at hd
  have hp := (hF.mem _ (List.getElem_mem h)).1
  obtain ⟨q, hq, he⟩ := pr_mem hp (F.take k) (fun x hx => (hF.mem x (List.mem_of_mem_take hx)).1) hd
  obtain ⟨j, hj, rfl⟩ := List.getElem_of_mem hq
  rw [List.length_take] at hj
  rw [List.getElem_take] at he
  have := List.pairwise_iff_getElem.1 hF.asc j k (by omega) h (by omega)
  omega
theorem pw_dvd {n : Nat} {F : List (Nat × Nat)} (hF : FacIs 2 n F) (k : Nat) : pw F k ∣ n := by
  conv => rhs; rw [← hF.mul, ← List.take_append_drop k F, List.map_append, prod_append]
  exact Nat.dvd_mul_right _ _
/-- How many divisors the first powers have. -/
def cnt (F : List (Nat × Nat)) (k : Nat) : Nat := prod ((F.take k).map fun p => p.2 + 1)
theorem cnt_succ {F : List (Nat × Nat)} {k : Nat} (h : k < F.length) : cnt F (k + 1) = cnt F k * (F[k].2 + 1) := by
  unfold cnt
  rw [List.take_succ_eq_append_getElem h, List.map_append, prod_append]
  simp [prod]
theorem row_lit (w : World) (n : Nat) : (w.alloc (.cells #[.int .i64 (n : Int)] 3)).ownsRow w.heap.size 3 1 (.slice (some ⟨w.heap.size, 0, none⟩) 1 1) [n].length (nats [n]) :=
  ⟨rfl, .inr ⟨w.heap.size, 1, _, rfl, Nat.le_refl _, heap_alloc_new w _, Nat.le_refl _, by unfold maxLen; omega, rfl, rfl⟩⟩

theorem own_base {w : World} {B B' : Nat} {e : TypeId} {size : Nat} {v : Value} {n : Nat} {xs : List Value} (hB : B' ≤ B) (h : w.ownsRow B e size v n xs) : w.ownsRow B' e size v n xs := by
  refine ⟨h.1, ?_⟩
  rcases h.2 with hn | ⟨g, cap, cur, hv, hb, rest⟩
  · exact .inl hn
  · exact .inr ⟨g, cap, cur, hv, by omega, rest⟩
theorem next_row {B fb gw gg cw cap x : Nat} {M : List Nat} {w1 wr w2 : World} {cs : Array Value} {o : Obj} {y : Int} (hown : wr.ownsRow B 3 1 (.slice (some ⟨gw, 0, none⟩) M.length cw) M.length (nats M)) (hf : wr.heap[fb]? = some (.cells cs 43 (0, 0))) (hb : Below B w1 wr) (hB : B ≤ wr.heap.size) (hy : (x : Int) = y)
    (hown1 : w2.ownsRow B 3 1 (.slice (some ⟨gg, 0, none⟩) (M.length + 1) cap) (M.length + 1) (nats M ++ [.int .i64 y])) (hg : ((wr.alloc o).drew).grownBy w2 (some gw)) :
    w2.ownsRow B 3 1 (.slice (some ⟨gg, 0, none⟩) (M ++ [x]).length cap) (M ++ [x]).length (nats (M ++ [x])) ∧ w2.heap[fb]? = some (.cells cs 43 (0, 0)) ∧ Below B w1 w2 := by
  have hlt := lt_of_block hf
  have hBg : B ≤ gw := (hown.lt gw rfl).1
  have hne : fb ≠ gw := by
    rintro rfl
    obtain ⟨_, hn | ⟨g', cap', cur, hv, _, hg2, _⟩⟩ := hown
    · exact absurd hn.1 (by simp)
    · injection hv with h1
      injection h1 with h1
      injection h1 with h1
      subst h1
      rw [hf] at hg2
      injection hg2 with h2
      injection h2 with _ h3
      exact absurd h3 (by decide)
  subst hy
  refine ⟨?_, ?_, ?_⟩
  · rw [nats_append, List.length_append]
    exact hown1
  · rw [hg.block fb (by simp; omega) (by simpa using hne)]
    exact (Below.heap_alloc wr o fb hlt).trans hf
  · exact ((hb.alloc hB o).drew).grown hg (by simp; omega) (fun k hk => by injection hk with hk; omega)

set_option maxHeartbeats 3200000 in
set_option maxRecDepth 1000000 in
theorem divisors_any (n : Nat) (w : World) (hn : 1 ≤ n) (hn2 : (n : Int) ≤ 2147483647) :
    Calls Try.prog 26 #[.int .i64 n] w fun e w' => ∃ (M : List Nat) (v : Value), e = .returned (.tuple #[v, .int .i64 0]) ∧ DivL n M ∧ M.length = cnt (facs 2 n) (facs 2 n).length ∧ w'.ownsRow w.heap.size 3 1 v (sorted M).length (nats (sorted M)) ∧ Below w.heap.size w w' := by
  obtain ⟨i0, hi, hz0, hz1, hz2⟩ := info_parts Try.info3
  have hfi := facs_two_is hn
  have hfa := fun W => factor_any n W hn hn2
  generalize facs 2 n = F at *
  have HFI := Lib.hid hfi
  have HFA := Lib.hid hfa
  have hlenI : (F.length : Int) ≤ 2147483647 := by have := hfi.len; omega
  clear hfi hfa
  go_enter Try.func26, Try.ntmps26
  go_wp2_with (go_at_call 25; fail)
  refine (HFA.out _).mono ?_
  rintro e w1 ⟨v, rfl, hown, hb⟩
  have HB := Lib.hid hb
  have hsz := hb.size
  clear HFA hb
  rcases own_shape hown with ⟨rfl, rfl⟩ | ⟨g, cap, rfl, hg, hgs, hcap, hcell⟩
  · have HR0 := Lib.hid (row_lit w1 1)
    have HDN : Hid (DivL n [1]) := by
      have h1 := HFI.out.mul
      have h2 : n = 1 := h1.symm
      rw [h2]; exact DivL.one
    have HS : Hid (Calls Try.prog 61 #[.slice (some ⟨w1.heap.size, 0, none⟩) 1 1] (w1.alloc (.cells #[.int .i64 1] 3)) fun e w' => e = .returned (.tuple #[]) ∧ w'.ownsRow w1.heap.size 3 1 (.slice (some ⟨w1.heap.size, 0, none⟩) 1 1) (sorted [1]).length (nats (sorted [1])) ∧ Below w1.heap.size (w1.alloc (.cells #[.int .i64 1] 3)) w') :=
      (sort_own (M := [1]) _ HR0.out (by simp)).mono fun e w' ⟨h1, h2, h3⟩ => ⟨h1, by rw [sorted_len] at h2 ⊢; exact h2, h3⟩
    clear hown HFI HR0
    go_wp2
    refine wp_loop_rounds 1 ?_
    rw [rounds_succ]
    go_wp2_with (go_at_call 61; ((with_reducible refine HS.out.mono ?_); rintro e w4 ⟨rfl, ho4, hb4⟩; have HO4 := Lib.hid ho4; have HB4 := Lib.hid hb4; clear ho4 hb4))
    go_ret2
    exact ⟨[1], _, rfl, HDN.out, rfl, by have := own_base hsz HO4.out; exact this, HB.out.trans ((((Below.refl _ _).alloc (Nat.le_refl _) _).trans HB4.out).mono hsz)⟩
  · have HL := Lib.hid hcell
    clear hcell hown
    have HR0 := Lib.hid (row_lit w1 1)
    go_wp2
    go_loopw [6, 8, 9, 10, 22] (fun V _ _ _ I wr => ∃ (k gv cv : Nat) (L : List Nat), I = .int .i64 k ∧ V = .slice (some ⟨gv, 0, none⟩) L.length cv ∧ k ≤ F.length ∧ Hid (DivL (pw F k) L) ∧ Hid (L.length = cnt F k) ∧ Hid (wr.ownsRow w1.heap.size 3 1 (.slice (some ⟨gv, 0, none⟩) L.length cv) L.length (nats L)) ∧ Hid (Below w1.heap.size w1 wr)) (fun _ _ _ _ I _ => F.length - (intOf I).toNat)
    case atStart => exact ⟨0, _, 1, [1], rfl, rfl, Nat.zero_le _, DivL.one, rfl, HR0.out, (Below.refl _ _).alloc (Nat.le_refl _) _⟩
    case round =>
      obtain ⟨k, gv, cv, L, rfl, rfl, hk, HD, HC, HO, HBR⟩ := hrel
      have hsr := HBR.out.size
      by_cases hlt : k < F.length
      · have c1 := (HBR.out.cell (p := ⟨g, k * 2, none⟩) hgs).trans (HL.out k hlt).1
        have c2 := (HBR.out.cell (p := ⟨g, k * 2 + 1, none⟩) hgs).trans (HL.out k hlt).2
        have hlt2 : (k : Int) < (F.length : Int) := by omega
        obtain ⟨_, _, _, _, s5, s6, s7, _⟩ := fund_step HFI.out hlt
        have hpk := pw_dvd HFI.out k
        have hpk1 : 1 ≤ pw F k := by
          rcases Nat.eq_zero_or_pos (pw F k) with h0 | h0
          · rw [h0] at hpk; have := Nat.eq_zero_of_zero_dvd hpk; omega
          · exact h0
        have hpk2 := Nat.le_of_dvd (by omega) hpk
        have hll := HD.out.len hpk1 (by omega)
        have hstep := HD.out.step (HFI.out.mem _ (List.getElem_mem hlt)).1 (e := F[k].2) (pw_not HFI.out hlt)
        rw [← pw_succ hlt] at hstep
        have hpk3 := pw_dvd HFI.out (k + 1)
        have hpk4 : 1 ≤ pw F (k + 1) := by
          rcases Nat.eq_zero_or_pos (pw F (k + 1)) with h0 | h0
          · rw [h0] at hpk3; have := Nat.eq_zero_of_zero_dvd hpk3; omega
          · exact h0
        have hll2 := hstep.len hpk4 (by have := Nat.le_of_dvd (by omega) hpk3; omega)
        rw [grow_len] at hll2
        have HSTEP := Lib.hid hstep
        have HCN : Hid ((grow L F[k].1 (L.length * F[k].2)).length = cnt F (k + 1)) := by
          show _ = _
          rw [grow_len, cnt_succ hlt, ← HC.out, Nat.mul_succ]; omega
        have HGB : Hid (∀ t, t < L.length * F[k].2 → (grow L F[k].1 t).getD t 0 * F[k].1 ≤ 2147483647) := fun t ht => by
          have h1 : (grow L F[k].1 (L.length * F[k].2)).getD (L.length + t) 0 ∈ grow L F[k].1 (L.length * F[k].2) := getD_mem (by rw [grow_len]; omega)
          have h2 := (hstep.mem _).1 h1
          have h3 := Nat.le_of_dvd (by omega) (Nat.dvd_trans h2 hpk3)
          have hL1 := HD.out.pos
          rw [grow_get L F[k].1 hL1 _ _ (by omega), Nat.add_mod_left, Nat.add_div_left _ (by omega), Nat.pow_succ, ← Nat.mul_assoc] at h3
          rw [grow_get L F[k].1 hL1 _ _ (by omega)]
          omega
        have HLL := Lib.hid hll2
        clear hk hpk hpk1 hpk2 hpk3 hpk4 hstep
        generalize F[k].1 = p at *
        generalize F[k].2 = q at *
        have hpi : (p : Int) ≤ 2147483647 := by omega
        have hqi : (q : Int) ≤ 2147483647 := by omega
        have hmul : ((L.length * q : Nat) : Int) = (L.length : Int) * (q : Int) := by simp
        have hm1 : 0 ≤ (L.length : Int) * (q : Int) := by omega
        have hm2 : (L.length : Int) * (q : Int) ≤ 92682 := by omega
        have HMUL := Lib.hid hmul
        clear hmul
        have HBA := Lib.hid (HBR.out.alloc hsr (.cells #[.int .i64 (p : Int), .int .i64 (q : Int)] 43))
        have HOA := Lib.hid (HO.out.alloc (.cells #[.int .i64 (p : Int), .int .i64 (q : Int)] 43))
        have HFB := Lib.hid (heap_alloc_new wr (.cells #[.int .i64 (p : Int), .int .i64 (q : Int)] 43))
        generalize wr = W0 at *
        go_wp2
        go_loopw [6, 10, 32] (fun V _ I wi => ∃ (t gw cw : Nat), I = .int .i64 t ∧ V = .slice (some ⟨gw, 0, none⟩) (grow L p t).length cw ∧ t ≤ L.length * q ∧ Hid (wi.ownsRow w1.heap.size 3 1 (.slice (some ⟨gw, 0, none⟩) (grow L p t).length cw) (grow L p t).length (nats (grow L p t))) ∧ Hid (wi.heap[W0.heap.size]? = some (.cells #[.int .i64 (p : Int), .int .i64 (q : Int)] 43 (0, 0))) ∧ Hid (Below w1.heap.size w1 wi)) (fun _ _ I _ => L.length * q - (intOf I).toNat)
        case atStart => exact ⟨0, gv, cv, rfl, rfl, Nat.zero_le _, HOA.out, HFB.out, HBA.out⟩
        case round =>
          obtain ⟨t, gw, cw, rfl, rfl, ht, HOT, HFT, HBT⟩ := hrel
          by_cases htq : t < L.length * q
          · have hgl := grow_len L p t
            have HOUT := Lib.hid HOT.out
            have hL1 := HD.out.pos
            have htl : t < (grow L p t).length := by rw [hgl]; omega
            have hti : (t : Int) < ((grow L p t).length : Int) := by omega
            have hbig := HGB.out t htq
            have hx0 := HOT.out.cells (g := gw) rfl _ _ (nats_get (grow L p t) t htl)
            rw [show (⟨gw, 0, none⟩ : Addr).add t = ⟨gw, t, none⟩ by unfold Addr.add; split <;> simp_all] at hx0
            have hgd : (grow L p t).getD t 0 = (grow L p t)[t] := by rw [List.getD_eq_getElem?_getD, List.getElem?_eq_getElem htl]; rfl
            have HNX : Hid (grow L p (t + 1) = grow L p t ++ [(grow L p t)[t] * p]) := by show _ = _; rw [← hgd]; rfl
            rw [hgd] at hbig
            have hcp := cell_of_row wr W0.heap.size 0 _ 43 _ HFT.out
            simp only [List.getElem?_toArray, List.getElem?_cons_zero] at hcp
            have hll3 : (grow L p t).length ≤ 92682 := by have := HLL.out; rw [hgl]; omega
            have hwlt := lt_of_block HFT.out
            clear hgl hgd
            generalize (grow L p t)[t] = x at *
            have hxi : ((x * p : Nat) : Int) = (x : Int) * (p : Int) := by simp
            have hx1 : 0 ≤ (x : Int) * (p : Int) := by omega
            have hx2 : (x : Int) * (p : Int) ≤ 2147483647 := by omega
            have HXI := Lib.hid hxi
            have hwx := IntWalk.i64_in ((x : Int) * (p : Int)) ⟨by omega, by omega⟩
            clear hxi hbig
            generalize grow L p t = M at *
            go_wp2_with fail
            go_region_law ((refine step_append_lies _ (by rfl) _ _ _ (by rfl) w1.heap.size 3 i0 _ 1 8 Try.underlying33 hi hz0 hz1 hz2 rfl (by omega) (.slice (some ⟨gw, 0, none⟩) M.length cw) M.length (nats M) (by rfl) ((HOUT.out.alloc _).drew) ⟨wr.heap.size, 0, none⟩ 1 1 [.int .i64 ((x : Int) * (p : Int))] (by rfl) (by rfl) (World.news_of_block (cs := #[.int .i64 ((x : Int) * (p : Int))]) (t := 3) (fr := (0, 0)) (heap_alloc_new wr _)) (by simp [Value.oneCell']) (by omega) (by unfold maxLen; omega) (by omega) (by simp; omega) (wr.heap.size + 1) (by simp) ?_; intro gg cap2 w5 hown1 hgrow hat hlt5))
            all_goals
              have HNR := Lib.hid (next_row HOUT.out HFT.out HBT.out HBT.out.size HXI.out hown1 hgrow)
              clear hown1 hgrow hat hlt5
              go_wp2
              go_roundw
              case rel =>
                refine ⟨t + 1, gg, cap2, by go_num, ?_, htq, ?_⟩
                · rw [HNX.out, List.length_append]; rfl
                · rw [HNX.out]; exact HNR.out
              case measure => simp [intOf]; omega
          · go_wp2
            go_roundw
            case rel =>
              obtain rfl : t = L.length * q := by omega
              exact ⟨k + 1, gw, cw, grow L p (L.length * q), by go_num, rfl, hlt, HSTEP.out, HCN.out, HOT.out, HBT.out⟩
            case measure => simp [intOf]; omega
      · have hn1 : ¬ (k : Int) < (F.length : Int) := by omega
        obtain rfl : k = F.length := by omega
        have HDN : Hid (DivL n L) := by
          have := HD.out
          unfold pw at this
          rw [List.take_length, HFI.out.mul] at this
          exact this
        have hll := HDN.out.len hn (by omega)
        have HS := Lib.hid (sort_own wr HO.out (by omega))
        go_wp2_with (go_at_call 61; ((with_reducible refine HS.out.mono ?_); rintro e w4 ⟨rfl, ho4, hb4⟩; have HO4 := Lib.hid ho4; have HB4 := Lib.hid hb4; clear ho4 hb4))
        go_ret2
        exact ⟨L, .slice (some ⟨gv, 0, none⟩) L.length cv, rfl, HDN.out, HC.out, by have := own_base hsz HO4.out; rwa [sorted_len] at this ⊢, HB.out.trans ((HBR.out.trans HB4.out).mono hsz)⟩
end Go.Proofs.Ytoeailhcobbhjaa
