/- Lists of points in memory; the contract of the code's list. -/
import Derived.Test.YtgnekmaonnjfkaaSecL
namespace Go.Proofs.Ytgnekmaonnjfkaa
open Go.RowKit
set_option linter.unusedVariables false

theorem Try.infoPt : (Try.prog.info? 24).map (fun i => (i.zero, i.size, i.bytes)) = some (some (.agg #[.int .i64 0, .int .i64 0, .int .i64 0]), 3, 24) := by kernel_rfl
/-- The cells of a list of points with the unit 1. -/
def pcs : List (Nat × Nat) → List Value
  | [] => []
  | x :: l => .int .i64 (x.1 : Int) :: .int .i64 (x.2 : Int) :: .int .i64 1 :: pcs l
theorem pcs_append : ∀ (l m : List (Nat × Nat)), pcs (l ++ m) = pcs l ++ pcs m
  | [], _ => rfl
  | x :: l, m => by show _ :: _ :: _ :: pcs (l ++ m) = _; rw [pcs_append l m]; rfl
theorem pcs_length : ∀ (C : List (Nat × Nat)), (pcs C).length = 3 * C.length
  | [] => rfl
  | x :: C => by show (pcs C).length + 1 + 1 + 1 = 3 * (C.length + 1); rw [pcs_length C]; omega
theorem pcs_get : ∀ (C : List (Nat × Nat)) (k : Nat) (h : k < C.length), (pcs C)[3 * k]? = some (.int .i64 (C[k].1 : Int)) ∧ (pcs C)[3 * k + 1]? = some (.int .i64 (C[k].2 : Int)) ∧ (pcs C)[3 * k + 2]? = some (.int .i64 1)
  | x :: C, 0, _ => ⟨rfl, rfl, rfl⟩
  | x :: C, k + 1, h => by
    have e := pcs_get C k (by simpa using h)
    show (Value.int .i64 x.1 :: Value.int .i64 x.2 :: Value.int .i64 1 :: pcs C)[3 * k + 1 + 1 + 1]? = _ ∧ (Value.int .i64 x.1 :: Value.int .i64 x.2 :: Value.int .i64 1 :: pcs C)[3 * k + 1 + 1 + 1 + 1]? = _ ∧ (Value.int .i64 x.1 :: Value.int .i64 x.2 :: Value.int .i64 1 :: pcs C)[3 * k + 1 + 1 + 1 + 1 + 1]? = _
    simpa using e
theorem cell_three_new (w : World) (a b c : Value) (t : TypeId) : ∀ j u, [a, b, c][j]? = some u → (w.alloc (.cells #[a, b, c] t)).cell? ((⟨w.heap.size, 0, none⟩ : Addr).add j) = some u := by
  intro j u hj
  match j, hj with
  | 0, hj => simp at hj; subst hj; simp [Addr.add]
  | 1, hj => simp at hj; subst hj; simp [Addr.add]
  | 2, hj => simp at hj; subst hj; simp [Addr.add]
/-- The slice value '.slice A C.length c' reads as the points C; its array lies below block B. -/
def RdP (w : World) (B : Nat) (A : Option Addr) (c : Nat) (C : List (Nat × Nat)) : Prop :=
  C.length ≤ c ∧ c ≤ maxLen ∧ (0 < C.length → ∃ b o, A = some ⟨b, o, none⟩ ∧ b < B ∧ ∀ k (h : k < C.length), w.cell? ⟨b, o + 3 * k, none⟩ = some (.int .i64 (C[k].1 : Int)) ∧ w.cell? ⟨b, o + 3 * k + 1, none⟩ = some (.int .i64 (C[k].2 : Int)) ∧ w.cell? ⟨b, o + 3 * k + 2, none⟩ = some (.int .i64 1)) ∧
  ∀ a, A = some a → ∃ b o, a = ⟨b, o, none⟩
section
variable {w w' : World} {B c : Nat} {A : Option Addr} {C : List (Nat × Nat)}
theorem RdP.keep (h : RdP w B A c C) (hk : ∀ b o, b < B → w'.cell? ⟨b, o, none⟩ = w.cell? ⟨b, o, none⟩) : RdP w' B A c C :=
  ⟨h.1, h.2.1, fun hn => by
    obtain ⟨b, o, e, hb, hc⟩ := h.2.2.1 hn
    exact ⟨b, o, e, hb, fun k hk' => ⟨(hk b _ hb).trans (hc k hk').1, (hk b _ hb).trans (hc k hk').2.1, (hk b _ hb).trans (hc k hk').2.2⟩⟩, h.2.2.2⟩
theorem RdP.below (h : RdP w B A c C) (hb : Below B w w') : RdP w' B A c C := h.keep fun b o hlt => hb.cell (p := ⟨b, o, none⟩) hlt
theorem RdP.mono (h : RdP w B A c C) {B' : Nat} (hB : B ≤ B') : RdP w B' A c C :=
  ⟨h.1, h.2.1, fun hn => by
    obtain ⟨b, o, e, hb, hc⟩ := h.2.2.1 hn
    exact ⟨b, o, e, by omega, hc⟩, h.2.2.2⟩
theorem RdP.at_ (h : RdP w B A c C) {k : Nat} (hk : k < C.length) : ∃ b o, A = some ⟨b, o, none⟩ ∧ b < B ∧ w.cell? ⟨b, o + k * 3, none⟩ = some (.int .i64 (C[k].1 : Int)) ∧ w.cell? ⟨b, o + k * 3 + 1, none⟩ = some (.int .i64 (C[k].2 : Int)) ∧ w.cell? ⟨b, o + k * 3 + 2, none⟩ = some (.int .i64 1) := by
  obtain ⟨b, o, e, hb, hc⟩ := h.2.2.1 (by omega)
  rw [Nat.mul_comm k 3]
  exact ⟨b, o, e, hb, hc k hk⟩
theorem RdP.len (h : RdP w B A c C) : (C.length : Int) ≤ 9223372036854775807 := by
  have h1 := h.1
  have h2 := h.2.1
  unfold maxLen at h2; omega
end
theorem rdp_nil (w : World) (B : Nat) : RdP w B none 0 [] := ⟨by simp, by unfold maxLen; omega, fun h0 => by simp at h0, fun _ h0 => by cases h0⟩
theorem own_rdp {w : World} {base c : Nat} {A : Option Addr} {C : List (Nat × Nat)} (h : w.ownsRow base 24 3 (.slice A C.length c) C.length (pcs C)) : RdP w w.heap.size A c C := by
  rcases h.2 with ⟨he, hn⟩ | ⟨g, cap, cur, he, hb, hg, hn, hc, hs, ht⟩
  · have : C = [] := List.length_eq_zero_iff.1 hn
    subst this
    cases he
    exact rdp_nil _ _
  · obtain ⟨rfl, rfl⟩ : A = some ⟨g, 0, none⟩ ∧ c = cap := by simpa using he
    refine ⟨hn, hc, fun _ => ⟨g, 0, rfl, lt_of_block hg, fun k hk => ?_⟩, fun a ha => by cases ha; exact ⟨_, _, rfl⟩⟩
    obtain ⟨c1, c2, c3⟩ := pcs_get C k hk
    have d1 := h.cells (g := g) rfl _ _ c1
    have d2 := h.cells (g := g) rfl _ _ c2
    have d3 := h.cells (g := g) rfl _ _ c3
    have e : ∀ j, (⟨g, 0, none⟩ : Addr).add j = ⟨g, 0 + j, none⟩ := fun j => by unfold Addr.add; split <;> simp_all
    rw [e] at d1 d2 d3
    exact ⟨d1, by rw [Nat.add_assoc]; exact d2, by rw [Nat.add_assoc]; exact d3⟩
/-- A list of points on the way, above the world w1. -/
structure LP (w1 wr : World) (v : Value) (C : List (Nat × Nat)) : Prop where
  own : wr.ownsRow w1.heap.size 24 3 v C.length (pcs C)
  bel : Below w1.heap.size w1 wr
theorem LP.start (w1 : World) : LP w1 w1 (.slice none 0 0) [] := ⟨World.ownsRow_nil _ _ _ _, Below.refl _ _⟩
theorem LP.drewN {w1 wr : World} {v : Value} {C : List (Nat × Nat)} (h : LP w1 wr v C) (m : Nat) : LP w1 (wr.drewN m) v C := ⟨own_low h.own fun _ _ => rfl, below_drewN h.bel m⟩
theorem LP.below {w1 wr w' : World} {v : Value} {C : List (Nat × Nat)} (h : LP w1 wr v C) (hb : Below wr.heap.size wr w') : LP w1 w' v C := ⟨own_below h.own hb, bel0 h.bel hb⟩
theorem LP.app {w1 wr w3 : World} {v v' : Value} {C : List (Nat × Nat)} {x y : Nat} {o : Obj} (h : LP w1 wr v C)
    (hown' : w3.ownsRow w1.heap.size 24 3 v' (C.length + 1) (pcs C ++ [.int .i64 (x : Int), .int .i64 (y : Int), .int .i64 1])) (hg : (wr.alloc o).grownBy w3 v.ownBlock) : LP w1 w3 v' (C ++ [(x, y)]) := by
  have h1 := h.bel.size
  exact ⟨by rw [List.length_append, pcs_append]; exact hown', (h.bel.alloc h1 o).grown hg (by simp; omega) (fun j hj => by have := (h.own.lt j hj).1; omega)⟩
/-- A row of integers stays when a row of points grows. -/
theorem own_other {wr w3 : World} {B B' n m : Nat} {vR vL : Value} {xs ys : List Value} {o : Obj} (hR : wr.ownsRow B 3 1 vR n xs) (hL : wr.ownsRow B' 24 3 vL m ys) (hg : (wr.alloc o).grownBy w3 vL.ownBlock) : w3.ownsRow B 3 1 vR n xs := by
  obtain ⟨h1, h2 | ⟨g, cap, cur, hv, hb, hgb, hn, hc, hs, ht⟩⟩ := hR
  · exact ⟨h1, .inl h2⟩
  · refine ⟨h1, .inr ⟨g, cap, cur, hv, hb, ?_, hn, hc, hs, ht⟩⟩
    have hlt : g < wr.heap.size := lt_of_block hgb
    rw [hg.block g (by simp; omega) ?_, Below.heap_alloc _ _ _ hlt]
    · exact hgb
    · intro e
      obtain ⟨_, hn2 | ⟨g', cap', cur', hv', _, hg2, _⟩⟩ := hL
      · rw [hn2.1] at e; cases e
      · subst hv'
        injection e with e
        subst e
        rw [hgb] at hg2
        injection hg2 with h2
        injection h2 with _ h3
        exact absurd h3 (by decide)
set_option maxHeartbeats 6400000 in
set_option maxRecDepth 1000000 in
theorem list_any (n : Nat) (w : World) (n1 : 1 ≤ n) (n2 : (n : Int) ≤ 120) :
    Calls Try.prog 37 #[.int .i64 (n : Int)] w fun e w' => ∃ A c, e = .returned (.slice A (pts n).length c) ∧
      w'.ownsRow w.heap.size 24 3 (.slice A (pts n).length c) (pts n).length (pcs (pts n)) ∧ Below w.heap.size w w' := by
  obtain ⟨i0, hi, z0, z1, z2⟩ := info_parts Try.infoInt
  obtain ⟨i1, hj, y0, y1, y2⟩ := info_parts Try.infoPt
  have n1i : 1 ≤ (n : Int) := by omega
  go_enter Try.func37, Try.ntmps37
  go_wp2
  go_loopw [3, 4, 10] (fun V _ I wr => ∃ (A' : Option Addr) (c' k : Nat), I = .int .i64 k ∧ V = .slice A' ((List.range k).filter fun t => Nat.gcd t n == 1).length c' ∧ k ≤ n ∧ Hid (LZ w wr (.slice A' ((List.range k).filter fun t => Nat.gcd t n == 1).length c') ((List.range k).filter fun t => Nat.gcd t n == 1))) (fun _ _ I _ => n - (intOf I).toNat)
  case atStart => exact ⟨none, 0, 0, rfl, rfl, Nat.zero_le _, LZ.start w⟩
  case round =>
    obtain ⟨A', c', k, rfl, rfl, hk, HL⟩ := hrel
    by_cases hlt : k < n
    · have hlti : (k : Int) < (n : Int) := by omega
      have HG := Lib.hid (fun W => gcdn_any k n W (by omega) n2)
      have hsz := HL.out.bel.size
      have hFl : ((List.range k).filter fun t => Nat.gcd t n == 1).length ≤ 120 := Nat.le_trans (List.length_filter_le _ _) (by rw [List.length_range]; omega)
      have HT : Hid ((List.range (k + 1)).filter (fun t => Nat.gcd t n == 1) = if Nat.gcd k n = 1 then (List.range k).filter (fun t => Nat.gcd t n == 1) ++ [k] else (List.range k).filter (fun t => Nat.gcd t n == 1)) := by
        show _ = _
        rw [List.range_succ, List.filter_append]
        by_cases h : Nat.gcd k n = 1
        · rw [if_pos h, List.filter_cons_of_pos (by simpa using h)]; rfl
        · rw [if_neg h, List.filter_cons_of_neg (by simpa using h)]; simp
      generalize (List.range k).filter (fun t => Nat.gcd t n == 1) = F at *
      by_cases hf : Nat.gcd k n = 1
      · have HT2 := Lib.hid (HT.out.trans (if_pos hf))
        rw [hf] at HG
        clear HT hf
        go_upto_region 6 with (first
          | (go_at_call 32; ((with_reducible refine (HG.out _).mono ?_); rintro e w' ⟨rfl, q1, rfl⟩))
          | fail)
        have HL2 := Lib.hid (HL.out.drewN q1)
        have hsz2 : w.heap.size ≤ (wr.drewN q1).heap.size := hsz
        clear HL
        generalize wr.drewN q1 = W2 at *
        have hown := HL2.out.own
        go_wp2_with (first
          | (at_builtin; (refine wpList_append_own _ rfl _ _ 73 rfl w.heap.size 3 i0 (.int .i64 0) 1 8 Try.underlying73 hi z0 z1 z2 rfl (by decide) _ _ _ rfl (hown.alloc _) ⟨W2.heap.size, 0, none⟩ 1 1 [.int .i64 (k : Int)] rfl rfl (cell_one_new' _ _ _) (fun x hx => by simp at hx; rw [hx]; rfl) (by unfold maxLen; omega) (by omega) (by simp; omega) ?_); intro v' w3 hown' hgrow3 hnil3; obtain ⟨A2, c2, rfl⟩ := own_len hown'; have HN := Lib.hid (HL2.out.app hown' hgrow3); clear hown' hgrow3 hnil3)
          | fail)
        go_roundw
        case rel => exact ⟨A2, c2, k + 1, by go_num, by rw [HT2.out, List.length_append]; rfl, hlt, by rw [HT2.out, List.length_append]; exact HN.out⟩
        case measure => simp [intOf]; omega
      · have HT2 := Lib.hid (HT.out.trans (if_neg hf))
        obtain ⟨z, hz⟩ : ∃ z : Int, z = (Nat.gcd k n : Nat) := ⟨_, rfl⟩
        have hz1 : (z == 1) = false := by rw [beq_eq_false_iff_ne]; omega
        rw [← hz] at HG
        clear HT hf hz
        go_wp2_with (first
          | (go_at_call 32; ((with_reducible refine (HG.out _).mono ?_); rintro e w' ⟨rfl, q1, rfl⟩))
          | fail)
        go_roundw
        case rel => exact ⟨A', c', k + 1, by go_num, by rw [HT2.out], hlt, by rw [HT2.out]; exact HL.out.drewN q1⟩
        case measure => simp [intOf]; omega
    · obtain rfl : k = n := by omega
      have hn3 : ¬ (k : Int) < (k : Int) := by omega
      have HU : Hid ((List.range k).filter (fun t => Nat.gcd t k == 1) = unitsN k) := rfl
      rw [HU.out] at HL ⊢
      obtain ⟨A0, c0, hv0, hrU⟩ := own_rdn HL.out.own
      obtain ⟨rfl, rfl⟩ : A' = A0 ∧ c' = c0 := by simpa using hv0
      have HRU := Lib.hid hrU
      have HBU := Lib.hid HL.out.bel
      clear hv0 hrU HL HU
      obtain ⟨w1, rfl⟩ : ∃ w1 : World, w1 = wr := ⟨_, rfl⟩
      have hul := units_len k
      have HDs := Lib.hid (fun (u : Nat) (W : World) (hu1 : u < k) (hu : u = 0 ∨ u ∣ k) (hb : Below w1.heap.size w1 W) => seconds_any k u W n1 n2 hu1 hu ((HRU.out.below hb).mono hb.size))
      have HNo : Hid (∀ u, u < k → ¬ (u = 0 ∨ u ∣ k) → ptu k (u + 1) = ptu k u) := fun u h1 h2 => by rw [ptu_succ, row_no n1 (by omega) h1 h2]; simp
      go_wp2
      go_loopw [5, 6, 8, 23] (fun V _ _ I wi => ∃ (A2 : Option Addr) (c2 u : Nat), I = .int .i64 u ∧ V = .slice A2 (ptu k u).length c2 ∧ u ≤ k ∧ Hid (LP w1 wi (.slice A2 (ptu k u).length c2) (ptu k u))) (fun _ _ _ I _ => k - (intOf I).toNat)
      case atStart => exact ⟨none, 0, 0, rfl, rfl, Nat.zero_le _, LP.start w1⟩
      case round =>
        obtain ⟨A2, c2, u, rfl, rfl, huk, HL⟩ := hrel
        obtain ⟨wo, rfl⟩ : ∃ wo : World, wo = wr := ⟨_, rfl⟩
        by_cases hu : u < k
        · have hui : (u : Int) < (k : Int) := by omega
          have hsz := HL.out.bel.size
          have hpl := ptu_len k u
          have hpl2 : (ptu k u).length ≤ 14400 := Nat.le_trans hpl (Nat.mul_le_mul (show k ≤ 120 by omega) (show u ≤ 120 by omega))
          by_cases hd : u = 0 ∨ u ∣ k
          · have HSe := Lib.hid (HDs.out u wo hu hd HL.out.bel)
            have HSu := Lib.hid (ptu_succ k u)
            have hrl := row_len k u
            generalize row k u = R at *
            obtain ⟨P, hP⟩ : ∃ P, P = ptu k u := ⟨_, rfl⟩
            rw [← hP] at HL HSu hpl2 ⊢
            clear hP hpl HNo HDs
            have hcond : ((u : Int) == 0) = true ∨ (((u : Int) == 0) = false ∧ 1 ≤ (u : Int) ∧ ((k : Int) % (u : Int) == 0) = true) := by
              by_cases h0 : u = 0
              · exact .inl (by rw [beq_iff_eq]; omega)
              · refine .inr ⟨by rw [beq_eq_false_iff_ne]; omega, by omega, ?_⟩
                rcases hd with h | h
                · exact absurd h h0
                · rw [beq_iff_eq, ← Int.natCast_emod]
                  rw [Nat.mod_eq_zero_of_dvd h]; rfl
            clear hd
            rcases hcond with h0 | ⟨h0, u1, h1⟩
            all_goals
              go_wp2_with (first
                | (go_at_call 50; ((with_reducible refine (HSe.out).mono ?_); rintro e w2 ⟨A3, c3, rfl, hown3, hb⟩; have HRo := Lib.hid hown3; have HL2 := Lib.hid (HL.out.below hb); clear hown3 hb))
                | fail)
              clear HSe HL
              go_loopw [5, 8, 39] (fun V _ I wz => ∃ (A4 : Option Addr) (c4 i : Nat), I = .int .i64 i ∧ V = .slice A4 (P ++ (R.take i).map fun v => (u, v)).length c4 ∧ i ≤ R.length ∧ Hid (LP w1 wz (.slice A4 (P ++ (R.take i).map fun v => (u, v)).length c4) (P ++ (R.take i).map fun v => (u, v))) ∧ Hid (wz.ownsRow wo.heap.size 3 1 (.slice A3 R.length c3) R.length (zs (zl R)))) (fun _ _ I _ => R.length - (intOf I).toNat)
              case atStart => exact ⟨A2, c2, 0, rfl, by simp, Nat.zero_le _, by simpa using HL2, HRo.out⟩
              case round =>
                clear HL2 HRo
                obtain ⟨A4, c4, i, rfl, rfl, hi2, HL, HRo⟩ := hrel
                by_cases hir : i < R.length
                · have hiri : (i : Int) < (R.length : Int) := by omega
                  obtain ⟨A0, c0, hv0, hrR⟩ := own_rdn HRo.out
                  obtain ⟨rfl, rfl⟩ : A3 = A0 ∧ c3 = c0 := by simpa using hv0
                  obtain ⟨br, or_, rfl, hbr, hc0⟩ := hrR.atn hir
                  have HTk : Hid (P ++ (R.take (i + 1)).map (fun v => (u, v)) = (P ++ (R.take i).map (fun v => (u, v))) ++ [(u, R[i])]) := by
                    show _ = _
                    rw [List.take_add_one, List.getElem?_eq_getElem hir, Option.toList_some, List.map_append, ← List.append_assoc]; rfl
                  have hZ1 : (P ++ (R.take i).map fun v => (u, v)).length ≤ 14600 := by rw [List.length_append, List.length_map, List.length_take]; omega
                  generalize R[i] = x at *
                  generalize P ++ (R.take i).map (fun v => (u, v)) = Z at *
                  have hown := HL.out.own
                  have hszz := HL.out.bel.size
                  clear hv0 hrR
                  go_wp2_with (first
                    | (at_builtin; (refine wpList_append_own _ rfl _ _ 35 rfl w1.heap.size 24 i1 (.agg #[.int .i64 0, .int .i64 0, .int .i64 0]) 3 24 Try.underlying35 hj y0 y1 y2 rfl (by decide) _ _ _ rfl (hown.alloc _) ⟨wr.heap.size, 0, none⟩ 1 1 [.int .i64 (u : Int), .int .i64 (x : Int), .int .i64 1] rfl rfl (cell_three_new _ _ _ _ _) (fun x hx => by simp at hx; rcases hx with hx | hx | hx <;> (rw [hx]; rfl)) (by unfold maxLen; omega) (by omega) (by simp; omega) ?_); intro v' w3 hown' hgrow3 hnil3; obtain ⟨A5, c5, rfl⟩ := own_len hown'; have HN := Lib.hid (HL.out.app hown' hgrow3); have HRn := Lib.hid (own_other HRo.out HL.out.own hgrow3); clear hown' hgrow3 hnil3)
                    | fail)
                  go_roundw
                  case rel => exact ⟨A5, c5, i + 1, by go_num, by rw [HTk.out, List.length_append]; rfl, hir, by rw [HTk.out, List.length_append]; exact HN.out, HRn.out⟩
                  case measure => simp [intOf]; omega
                · obtain rfl : i = R.length := by omega
                  have hi3 : ¬ (R.length : Int) < (R.length : Int) := by omega
                  have HEn : Hid (P ++ (R.take R.length).map (fun v => (u, v)) = ptu k (u + 1)) := by show _ = _; rw [List.take_length]; exact HSu.out.symm
                  rw [HEn.out] at HL ⊢
                  go_wp2_with fail
                  go_roundw
                  case rel => exact ⟨A4, c4, u + 1, by go_num, rfl, hu, HL.out⟩
                  case measure => simp [intOf]; omega
          · have E1 := Lib.hid (HNo.out u hu hd)
            have h0 : ((u : Int) == 0) = false := by rw [beq_eq_false_iff_ne]; intro h; exact hd (.inl (by omega))
            have u1 : 1 ≤ (u : Int) := by rcases Nat.eq_zero_or_pos u with h | h; exact absurd (.inl h) hd; omega
            have h1 : ((k : Int) % (u : Int) == 0) = false := by
              rw [beq_eq_false_iff_ne, ← Int.natCast_emod]
              intro h
              exact hd (.inr (Nat.dvd_of_mod_eq_zero (by omega)))
            clear hd HNo HDs hpl hpl2
            go_wp2_with fail
            go_roundw
            case rel => exact ⟨A2, c2, u + 1, by go_num, by rw [E1.out], hu, by rw [E1.out]; exact HL.out⟩
            case measure => simp [intOf]; omega
        · obtain rfl : u = k := by omega
          have hu3 : ¬ (u : Int) < (u : Int) := by omega
          rw [ptu_pts] at HL ⊢
          go_wp2
          refine bodyPost_ret (v := .slice A2 (pts u).length c2) ?_ rfl ⟨A2, c2, rfl, own_base (by have := HBU.out.size; omega) HL.out.own, HBU.out.trans (HL.out.bel.mono HBU.out.size)⟩
          simp [results, Try.results37, go_sem, *]
end Go.Proofs.Ytgnekmaonnjfkaa
