/- The contract of List0: the cusps of Gamma0(n). -/
import Derived.Test.YtoledgfclmddmaaArL
import Derived.Test.YtoledgfclmddmaaAtkL
import Derived.Test.YtoledgfclmddmaaGcdL
import Derived.Deep.OwnRows
import Derived.Laws.MakeOwn
import Derived.Deep.Cut
import Derived.WalkSmall
namespace Go.Proofs.Ytoledgfclmddmaa
open Go.RowKit

theorem Try.infoBool : (Try.prog.info? 4).map (fun i => (i.zero, i.size, i.bytes)) = some (some (.bool false), 1, 1) := by kernel_rfl
/-- Of the cusps of denominator d: which classes are seen, and the list, behind the first t numbers. -/
def st (d g : Nat) : Nat → (Nat → Bool) × List (Int × Int)
  | 0 => (fun _ => false, [])
  | t + 1 => if Nat.gcd (t + 1) d = 1 ∧ (st d g t).1 ((t + 1) % g) = false then (fun j => if j = (t + 1) % g then true else (st d g t).1 j, (st d g t).2 ++ [(((t + 1 : Nat) : Int), (d : Int))]) else st d g t
def outD (n d : Nat) : List (Int × Int) := (st d (Nat.gcd d (n / d)) d).2
def outL (n : Nat) (D : List Nat) : List (Int × Int) := D.flatMap (outD n)
theorem st_yes {d g t : Nat} (h : Nat.gcd (t + 1) d = 1) (h2 : (st d g t).1 ((t + 1) % g) = false) : (st d g (t + 1)).2 = (st d g t).2 ++ [(((t + 1 : Nat) : Int), (d : Int))] ∧ (st d g (t + 1)).1 = fun j => if j = (t + 1) % g then true else (st d g t).1 j := by
  have e : st d g (t + 1) = (fun j => if j = (t + 1) % g then true else (st d g t).1 j, (st d g t).2 ++ [(((t + 1 : Nat) : Int), (d : Int))]) := if_pos ⟨h, h2⟩
  rw [e]; exact ⟨rfl, rfl⟩
theorem st_no {d g t : Nat} (h : ¬ (Nat.gcd (t + 1) d = 1 ∧ (st d g t).1 ((t + 1) % g) = false)) : st d g (t + 1) = st d g t := if_neg h
theorem st_len (d g : Nat) : ∀ t, (st d g t).2.length ≤ t
  | 0 => by simp [st]
  | t + 1 => by
    have ih := st_len d g t
    by_cases h : Nat.gcd (t + 1) d = 1 ∧ (st d g t).1 ((t + 1) % g) = false
    · rw [(st_yes h.1 h.2).1, List.length_append]; simp; omega
    · rw [st_no h]; omega
theorem outL_succ {n k : Nat} {D : List Nat} (h : k < D.length) : outL n (D.take (k + 1)) = outL n (D.take k) ++ outD n D[k] := by
  unfold outL
  rw [List.take_succ_eq_append_getElem h, List.flatMap_append]
  simp
theorem outL_len (n : Nat) {D : List Nat} (hd : ∀ x ∈ D, x ≤ 120) : ∀ k, k ≤ D.length → (outL n (D.take k)).length ≤ 120 * k
  | 0, _ => by simp [outL]
  | k + 1, h => by
    have ih := outL_len n hd k (by omega)
    rw [outL_succ (by omega), List.length_append]
    have h1 := st_len D[k] (Nat.gcd D[k] (n / D[k])) D[k]
    have h2 := hd D[k] (List.getElem_mem _)
    unfold outD; omega
/-- The list on the way, above the world of the divisors. -/
structure LS (w1 wr : World) (v : Value) (C : List (Int × Int)) : Prop where
  own : wr.ownsRow w1.heap.size 62 2 v C.length (cs C)
  bel : Below w1.heap.size w1 wr
theorem seen_ne {wr : World} {v : Value} {B b g n : Nat} {xs : List Value} {f : Nat → Value} (hown : wr.ownsRow B 62 2 v n xs) (hrow : wr.rowIs b 4 g f) : some b ≠ v.ownBlock := by
  intro e
  obtain ⟨_, hn | ⟨g', cap', cur, hv, _, hg2, _⟩⟩ := hown
  · rw [hn.1] at e; cases e
  · subst hv
    injection e with e
    subst e
    obtain ⟨c, hc, _⟩ := hrow
    rw [hc] at hg2
    injection hg2 with h2
    injection h2 with _ h3
    exact absurd h3 (by decide)
theorem LS.app {w1 wr w3 : World} {v v' : Value} {C : List (Int × Int)} {x y : Int} {o : Obj} {b g : Nat} {f : Nat → Value} (h : LS w1 wr v C) (hrow : wr.rowIs b 4 g f)
    (hown' : w3.ownsRow w1.heap.size 62 2 v' (C.length + 1) (cs C ++ [.int .i64 x, .int .i64 y])) (hg : (wr.alloc o).grownBy w3 v.ownBlock) : LS w1 w3 v' (C ++ [(x, y)]) ∧ w3.rowIs b 4 g f := by
  have h1 := h.bel.size
  refine ⟨⟨by rw [List.length_append, cs_append]; exact hown', (h.bel.alloc h1 o).grown hg (by simp; omega) (fun j hj => by have := (h.own.lt j hj).1; omega)⟩, hrow.of_block ?_⟩
  rw [hg.block b (by have := hrow.lt; simp; omega) (seen_ne h.own hrow), Below.heap_alloc _ _ _ hrow.lt]
theorem LS.setSeen {w1 wr : World} {v : Value} {C : List (Int × Int)} {b g i : Nat} {f : Nat → Value} {u : Value} (h : LS w1 wr v C) (hrow : wr.rowIs b 4 g f) (hb : w1.heap.size ≤ b) : LS w1 (wr.setCell ⟨b, i, none⟩ u) v C := by
  refine ⟨h.own.kept (row := some b) ⟨rfl, rfl, rfl, by simp, fun k _ hk => Below.heap_setCell wr ⟨b, i, none⟩ u k (fun e => hk (by rw [e]))⟩ (.inr fun e => seen_ne h.own hrow e.symm), h.bel.setCell hb _⟩
theorem st_yes' {d g p : Nat} (hp : 1 ≤ p) (h : Nat.gcd p d = 1) (h2 : (st d g (p - 1)).1 (p % g) = false) : (st d g p).2 = (st d g (p - 1)).2 ++ [((p : Int), (d : Int))] ∧ (st d g p).1 = fun j => if j = p % g then true else (st d g (p - 1)).1 j := by
  obtain ⟨t, rfl⟩ : ∃ t, p = t + 1 := ⟨p - 1, by omega⟩
  exact st_yes h h2
theorem st_no' {d g p : Nat} (hp : 1 ≤ p) (h : ¬ (Nat.gcd p d = 1 ∧ (st d g (p - 1)).1 (p % g) = false)) : st d g p = st d g (p - 1) := by
  obtain ⟨t, rfl⟩ : ∃ t, p = t + 1 := ⟨p - 1, by omega⟩
  exact st_no h
theorem LS.drewN {w1 wr : World} {v : Value} {C : List (Int × Int)} (h : LS w1 wr v C) (m : Nat) : LS w1 (wr.drewN m) v C := ⟨own_low h.own fun _ _ => rfl, below_drewN h.bel m⟩
theorem LS.alloc {w1 wr : World} {v : Value} {C : List (Int × Int)} (h : LS w1 wr v C) (o : Obj) : LS w1 (wr.alloc o) v C := ⟨h.own.alloc _, h.bel.alloc h.bel.size _⟩
theorem gcdn_any (a b : Nat) (w : World) (ha : (a : Int) ≤ 120) (hb : (b : Int) ≤ 120) : Calls Try.prog 33 #[.int .i64 (a : Int), .int .i64 (b : Int)] w fun e w' => e = .returned (.int .i64 (Nat.gcd a b : Nat)) ∧ ∃ n, w' = w.drewN n := by
  have := gcd_any (a : Int) (b : Int) w (by unfold Mid; omega) (by unfold Mid; omega)
  rwa [show Int.gcd (a : Int) (b : Int) = Nat.gcd a b from rfl] at this
theorem cast_mod (a b : Nat) : ((a : Int) + 1) % (b : Int) = (((a + 1) % b : Nat) : Int) := by
  rw [show (a : Int) + 1 = ((a + 1 : Nat) : Int) by simp, Int.natCast_emod]
theorem cast_div (a b : Nat) : (a : Int) / (b : Int) = ((a / b : Nat) : Int) := (Int.natCast_ediv a b).symm
set_option maxHeartbeats 3200000 in
set_option maxRecDepth 1000000 in
theorem list0_any (n : Nat) (w : World) (hn : 1 ≤ n) (hn2 : (n : Int) ≤ 120) :
    Calls Try.prog 17 #[.int .i64 n] w fun e w' => ∃ (M : List Nat) (A : Option Addr) (c : Nat), e = .returned (.tuple #[.slice A (outL n (sorted M)).length c, .int .i64 0]) ∧ DivL n M ∧ w'.ownsRow w.heap.size 62 2 (.slice A (outL n (sorted M)).length c) (outL n (sorted M)).length (cs (outL n (sorted M))) ∧ Below w.heap.size w w' := by
  obtain ⟨i0, hi, z0, z1, z2⟩ := info_parts Try.infoCusp
  obtain ⟨i1, hj, y0, y1, y2⟩ := info_parts Try.infoBool
  have HMK : Hid (∀ (g : Nat) (W : World), g ≤ 120 → (Instr.makeSlice 82 (.int .i64 (g : Int)) (.int .i64 (g : Int))).run Try.prog W = .ok (.slice (some ⟨W.heap.size, 0, none⟩) g g) (W.alloc (.cells (madeCells #[.bool false] g) 4))) := fun g W hg => by
    have h := run_make (P := Try.prog) W 82 4 i1 (.bool false) Try.underlying82 hj y0 .i64 .i64 (g : Int) (g : Int) (by omega) (by omega) (by rw [y2]; omega) (by omega)
    rw [show ((g : Int)).toNat = g by omega, y1, Nat.mul_one] at h
    exact h
  have HC := Lib.hid (fun W => check0_any (n : Int) W)
  rw [lv_yes (by omega) hn2] at HC
  have HD := Lib.hid (fun W => divisors_any n W hn (by omega))
  clear hj y0 y1 y2
  go_enter Try.func17, Try.ntmps17
  go_wp2_with (first
    | (go_at_call 30; ((with_reducible refine (HC.out _).mono ?_); rintro e w' ⟨rfl, rfl⟩))
    | (go_at_call 31; ((with_reducible refine (HD.out _).mono ?_); rintro e w1 ⟨M, v, rfl, hdl, _, ho, hb⟩; obtain ⟨A0, c0, rfl⟩ := own_len ho; have HM := Lib.hid hdl; have HO := Lib.hid ho; have HB := Lib.hid hb; clear ho hb hdl HD HC))
    | fail)
  obtain ⟨D, hD⟩ : ∃ D, D = sorted M := ⟨_, rfl⟩
  rw [← hD] at HO ⊢
  have HLen : D.length ≤ 92682 := by rw [hD, sorted_len]; exact HM.out.len hn (by omega)
  have HMem : Hid (∀ x ∈ D, 1 ≤ x ∧ x ∣ n ∧ x ≤ 120) := fun x hx => by
    rw [hD] at hx
    have h1 := (HM.out.mem x).1 ((sorted_perm M).mem_iff.1 hx)
    have h2 := Nat.le_of_dvd (by omega) h1
    exact ⟨Nat.pos_of_dvd_of_pos h1 (by omega), h1, by omega⟩
  have HE := Lib.hid hD
  clear hD
  go_loopw [7, 9, 10, 11, 12, 25] (fun V _ _ _ _ I wr => ∃ (A : Option Addr) (c k : Nat), I = .int .i64 k ∧ V = .slice A (outL n (D.take k)).length c ∧ k ≤ D.length ∧ Hid (LS w1 wr (.slice A (outL n (D.take k)).length c) (outL n (D.take k)))) (fun _ _ _ _ _ I _ => D.length - (intOf I).toNat)
  case atStart => exact ⟨none, 0, 0, rfl, rfl, Nat.zero_le _, ⟨World.ownsRow_nil _ _ _ _, Below.refl _ _⟩⟩
  case round =>
    obtain ⟨A, c, k, rfl, rfl, hk, HS⟩ := hrel
    have hsz1 := HS.out.bel.size
    by_cases hlt : k < D.length
    · have hlti : (k : Int) < (D.length : Int) := by omega
      obtain ⟨gd, rfl, hgd⟩ := own_some HO.out (by omega)
      have hgd2 := (HO.out.lt gd rfl).2
      have hc0 := HO.out.cells (g := gd) rfl _ _ (nats_get D k hlt)
      rw [addr_add] at hc0
      have hcell : wr.cell? ⟨gd, k, none⟩ = some (.int .i64 (D[k] : Int)) := (HS.out.bel.cell (p := ⟨gd, k, none⟩) hgd2).trans hc0
      clear hc0
      obtain ⟨m1, m2, m3⟩ := HMem.out D[k] (List.getElem_mem _)
      have HSucc := Lib.hid (outL_succ (n := n) hlt)
      have HLenC : (outL n (D.take k)).length ≤ 120 * k := outL_len n (fun x hx => (HMem.out x hx).2.2) k hk
      generalize D[k] = d at *
      generalize outL n (D.take k) = C at *
      obtain ⟨q, hq⟩ : ∃ q, q = n / d := ⟨_, rfl⟩
      have hqi : (n : Int) / (d : Int) = (q : Int) := by rw [hq]; exact cast_div n d
      have hq2 : q ≤ 120 := by rw [hq]; exact Nat.le_trans (Nat.div_le_self _ _) (by omega)
      have hqi2 : (q : Int) ≤ 120 := by omega
      have d1 : 1 ≤ (d : Int) := by omega
      have d2 : (d : Int) ≤ 120 := by omega
      obtain ⟨g, hg⟩ : ∃ g, g = Nat.gcd d q := ⟨_, rfl⟩
      have HG := Lib.hid (fun W => gcdn_any d q W d2 hqi2)
      rw [← hg] at HG
      have g1 : 1 ≤ g := by rw [hg]; exact Nat.gcd_pos_of_pos_left _ (by omega)
      have g2 : g ≤ 120 := by rw [hg]; exact Nat.le_trans (Nat.gcd_le_left _ (by omega)) m3
      have hmk := fun W => HMK.out g W g2
      have HOut : Hid (outL n (D.take (k + 1)) = C ++ (st d g d).2) := by have := HSucc.out; unfold outD at this; rw [← hq, ← hg] at this; exact this
      have HG' := Lib.hid hg
      clear hq hg HSucc
      go_upto_region 11 with (first
        | (go_at_call 33; ((with_reducible refine (HG.out _).mono ?_); rintro e w' ⟨rfl, n1, rfl⟩))
        | fail)
      have HS1 := Lib.hid ((HS.out.drewN n1).alloc (.cells (madeCells #[.bool false] g) 4))
      have HR1 : Hid (((wr.drewN n1).alloc (.cells (madeCells #[.bool false] g) 4)).rowIs wr.heap.size 4 g (fun _ => .bool false)) := World.rowIs_made _ _ _ _
      clear hmk hcell HS
      obtain ⟨W0, hW0⟩ : ∃ W0, W0 = (wr.drewN n1).alloc (.cells (madeCells #[.bool false] g) 4) := ⟨_, rfl⟩
      rw [← hW0] at HS1 HR1 ⊢
      clear hW0
      generalize wr.heap.size = b at *
      go_wp2
      go_loopw [7, 12] (fun V P wi => ∃ (A' : Option Addr) (c' p : Nat), P = .int .i64 (p : Int) ∧ V = .slice A' (C ++ (st d g (p - 1)).2).length c' ∧ 1 ≤ p ∧ p ≤ d + 1 ∧ Hid (LS w1 wi (.slice A' (C ++ (st d g (p - 1)).2).length c') (C ++ (st d g (p - 1)).2)) ∧ Hid (wi.rowIs b 4 g (fun j => .bool ((st d g (p - 1)).1 j)))) (fun _ P _ => d + 1 - (intOf P).toNat)
      case atStart => exact ⟨A, c, 1, rfl, by simp [st], Nat.le_refl _, by omega, by rw [show (st d g (1 - 1)).2 = [] from rfl, List.append_nil]; exact HS1.out, HR1.out⟩
      case round =>
        clear HS1 HR1
        obtain ⟨A', c', p, rfl, rfl, hp1, hp2, HL, HR⟩ := hrel
        by_cases hpd : p ≤ d
        · have hpdi : (p : Int) ≤ (d : Int) := by omega
          have hlc := st_len d g (p - 1)
          obtain ⟨r, hr⟩ : ∃ r, r = p % g := ⟨_, rfl⟩
          have hri : (p : Int) % (g : Int) = (r : Int) := by rw [hr]; exact (Int.natCast_emod p g).symm
          have hrg : r < g := by rw [hr]; exact Nat.mod_lt _ g1
          have hrgi : (r : Int) < (g : Int) := by omega
          have HG2 := Lib.hid (fun W => gcdn_any p d W (by omega) d2)
          have hcs := HR.out.cell (i := r) hrg
          have hfz := HR.out.frozen r
          have hb1 : b < wr.heap.size := HR.out.lt
          have hp0 : 1 ≤ (p : Int) := by omega
          by_cases hg1 : Nat.gcd p d = 1
          · rw [hg1] at HG2
            cases hs : (st d g (p - 1)).1 r with
            | false =>
              rw [hs] at hcs
              have HY := Lib.hid (st_yes' hp1 hg1 (by rw [← hr]; exact hs))
              rw [← hr] at HY
              clear hg1 hs hr
              generalize st d g (p - 1) = S at *
              go_upto_region 16 with (first
                | (go_at_call 33; ((with_reducible refine (HG2.out _).mono ?_); rintro e w' ⟨rfl, n2, rfl⟩))
                | fail)
              have HL2 := Lib.hid ((HL.out.drewN n2).setSeen (i := r) (u := .bool true) (HR.out.of_block rfl) hsz1)
              have HR2 : Hid (((wr.drewN n2).setCell ⟨b, r, none⟩ (.bool true)).rowIs b 4 g (fun j => .bool ((st d g p).1 j))) := World.rowIs.congr (World.rowIs.set (w := wr.drewN n2) (HR.out.of_block rfl) r (.bool true)) (fun j _ => by rw [HY.out.2]; show _ = Value.bool (if j = r then true else S.1 j); split <;> rfl)
              obtain ⟨W2, hW2⟩ : ∃ W2, W2 = (wr.drewN n2).setCell ⟨b, r, none⟩ (.bool true) := ⟨_, rfl⟩
              rw [← hW2] at HL2 HR2 ⊢
              obtain ⟨Z, hZ⟩ : ∃ Z, Z = C ++ S.2 := ⟨_, rfl⟩
              have HZ2 : Hid (Z ++ [((p : Int), (d : Int))] = C ++ (st d g p).2) := by show _ = _; rw [HY.out.1, hZ, List.append_assoc]
              have hZ1 : Z.length ≤ 11200000 := by rw [hZ, List.length_append]; omega
              have hZl : C.length + S.2.length = Z.length := by rw [hZ, List.length_append]
              rw [← hZ] at HL2
              rw [hZl]
              clear hW2 HL HR hcs hfz HY hZ hZl hlc
              have hown := HL2.out.own
              have hsz2 := HL2.out.bel.size
              go_wp2_with (first
                | (at_builtin; (refine wpList_append_own _ rfl _ _ 50 rfl w1.heap.size 62 i0 (.agg #[.int .i64 0, .int .i64 0]) 2 16 Try.underlying50 hi z0 z1 z2 rfl (by decide) _ _ _ rfl (hown.alloc _) ⟨W2.heap.size, 0, none⟩ 1 1 [.int .i64 (p : Int), .int .i64 (d : Int)] rfl rfl (cell_two_new _ _ _ _) (fun x hx => by simp at hx; rcases hx with hx | hx <;> (rw [hx]; rfl)) (by unfold maxLen; omega) (by omega) (by simp; omega) ?_); intro v' w3 hown' hgrow3 hnil3; obtain ⟨A2, c2, rfl⟩ := own_len hown'; have HN := Lib.hid (HL2.out.app HR2.out hown' hgrow3); clear hown' hgrow3 hnil3)
                | fail)
              go_roundw
              case rel => exact ⟨A2, c2, p + 1, by go_num, by rw [show p + 1 - 1 = p from rfl, ← HZ2.out, List.length_append]; rfl, by omega, by omega, by rw [show p + 1 - 1 = p from rfl, ← HZ2.out, List.length_append]; have := HN.out.1; exact this, by rw [show p + 1 - 1 = p from rfl]; exact HN.out.2⟩
              case measure => simp [intOf]; omega
            | true =>
              rw [hs] at hcs
              have HN := Lib.hid (st_no' (d := d) (g := g) hp1 (fun h => by rw [← hr, hs] at h; cases h.2))
              clear hg1 hs hr
              go_wp2_with (first
                | (go_at_call 33; ((with_reducible refine (HG2.out _).mono ?_); rintro e w' ⟨rfl, n2, rfl⟩))
                | fail)
              go_roundw
              case rel => exact ⟨A', c', p + 1, by go_num, by rw [show p + 1 - 1 = p from rfl, HN.out, List.length_append], by omega, by omega, by rw [show p + 1 - 1 = p from rfl, HN.out]; exact HL.out.drewN n2, by rw [show p + 1 - 1 = p from rfl, HN.out]; exact HR.out.of_block rfl⟩
              case measure => simp [intOf]; omega
          · have HN := Lib.hid (st_no' (d := d) (g := g) hp1 (fun h => hg1 h.1))
            obtain ⟨z, hz⟩ : ∃ z : Int, z = (Nat.gcd p d : Nat) := ⟨_, rfl⟩
            have hz1 : ¬ z = 1 := by omega
            rw [← hz] at HG2
            clear hg1 hz hr
            go_wp2_with (first
              | (go_at_call 33; ((with_reducible refine (HG2.out _).mono ?_); rintro e w' ⟨rfl, n2, rfl⟩))
              | fail)
            go_roundw
            case rel => exact ⟨A', c', p + 1, by go_num, by rw [show p + 1 - 1 = p from rfl, HN.out, List.length_append], by omega, by omega, by rw [show p + 1 - 1 = p from rfl, HN.out]; exact HL.out.drewN n2, by rw [show p + 1 - 1 = p from rfl, HN.out]; exact HR.out.of_block rfl⟩
            case measure => simp [intOf]; omega
        · obtain rfl : p = d + 1 := by omega
          have hpd2 : (d : Int) < (d : Int) + 1 := by omega
          go_wp2
          go_roundw
          case rel => exact ⟨A', c', k + 1, by go_num, by rw [HOut.out, List.length_append]; simp, hlt, by rw [HOut.out]; exact HL.out⟩
          case measure => simp [intOf]; omega
    · obtain rfl : k = D.length := by omega
      have hn3 : ¬ (D.length : Int) < (D.length : Int) := by omega
      have hT : D.take D.length = D := List.take_length
      rw [hT] at HS ⊢
      go_wp2
      have e1 := HE.out
      subst e1
      refine bodyPost_ret (v := .tuple #[.slice A (outL n (sorted M)).length c, .int .i64 0]) ?_ rfl ⟨M, A, c, rfl, HM.out, own_base HB.out.size HS.out.own, HB.out.trans (HS.out.bel.mono HB.out.size)⟩
      simp [results, Try.results17, go_sem, *]
end Go.Proofs.Ytoledgfclmddmaa
