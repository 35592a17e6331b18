/- Plain mathematics: the intersection of two coset actions is the action of the intersection. SubgroupWithin answers true for all arguments. -/
import Derived.Test.YtjhdpcbkdeagnaaPvI
import Derived.Test.YtjhdpcbkdeagnaaSgX
import Derived.Test.YtjhdpcbkdeagnaaAwakeG
import Derived.Test.YtjhdpcbkdeagnaaSm22L
import Derived.Test.YtjhdpcbkdeagnaaGcdL
import Derived.Test.YtjhdpcbkdeagnaaInW
namespace Go.Proofs.Ytjhdpcbkdeagnaa
set_option linter.unusedVariables false
set_option linter.unusedSectionVars false

theorem srl {co : M4 → K4} {N : Nat} : (iz (srun co N).S).length = N ∧ (iz (srun co N).T).length = N := ⟨by rw [iz_len]; exact (srun_len co N).2.1, by rw [iz_len]; exact (srun_len co N).2.2⟩
theorem SFin.p0 {co : M4 → K4} {N : Nat} (h : SFin co N) : 0 < N := by have := h.ri.pos; rwa [h.len] at this
theorem SFin.pl_one {co : M4 → K4} {N : Nat} (h : SFin co N) : plC co N (1, 0, 0, 1) = 0 := by
  have := h.pl_L h.p0
  rwa [h.ri.first] at this
/-- The number of the pair of a matrix's cosets. -/
def prX (coA coB : M4 → K4) (n m : Nat) (x : M4) : Nat := plC coA n x * m + plC coB m x
section
variable {co coA coB : M4 → K4} {N n m : Nat} (hA : Cos coA) (fA : SFin coA n) (hB : Cos coB) (fB : SFin coB m) (hi : ∀ x y, dtM x = 1 → dtM y = 1 → (co x = co y ↔ coA x = coA y ∧ coB x = coB y))
include hA fA hB fB hi
theorem pr_iff {x y : M4} (hx : dtM x = 1) (hy : dtM y = 1) : prX coA coB n m x = prX coA coB n m y ↔ co x = co y := by
  rw [hi x y hx hy]
  have b1 := fB.pl_lt (fB.all hB hx)
  have b2 := fB.pl_lt (fB.all hB hy)
  constructor
  · intro e
    have e1 : plC coA n x = plC coA n y := by
      have := congrArg (· / m) e
      simp only [prX] at this
      rwa [two_div b1, two_div b2] at this
    have e2 : plC coB m x = plC coB m y := by
      have := congrArg (· % m) e
      simp only [prX] at this
      rwa [two_mod b1, two_mod b2] at this
    exact ⟨fA.pl_inj (fA.all hA hx) (fA.all hA hy) e1, fB.pl_inj (fB.all hB hx) (fB.all hB hy) e2⟩
  · rintro ⟨e1, e2⟩
    unfold prX plC
    rw [e1, e2]
theorem vis_vl {L : List M4} {x : M4} (hL : ∀ y ∈ L, dtM y = 1) (hx : dtM x = 1) : vis (L.map (prX coA coB n m)) (prX coA coB n m x) = (vl co L x).map (prX coA coB n m) := by
  have hiff : prX coA coB n m x ∈ L.map (prX coA coB n m) ↔ (L.map co).contains (co x) = true := by
    rw [List.contains_iff_mem]
    constructor
    · intro h
      obtain ⟨y, hy, e⟩ := List.mem_map.1 h
      exact List.mem_map.2 ⟨y, hy, (pr_iff hA fA hB fB hi (hL y hy) hx).1 e⟩
    · intro h
      obtain ⟨y, hy, e⟩ := List.mem_map.1 h
      exact List.mem_map.2 ⟨y, hy, (pr_iff hA fA hB fB hi (hL y hy) hx).2 e⟩
  unfold vis vl
  by_cases h : (L.map co).contains (co x) = true
  · rw [if_pos h, if_pos (hiff.2 h)]
  · rw [if_neg h, if_neg fun h' => h (hiff.1 h')]; simp
omit hi in
theorem eS_pr {x : M4} (hx : dtM x = 1) : eG (fnz (iz (srun coA n).S)) (fnz (iz (srun coB m).S)) m (prX coA coB n m x) = prX coA coB n m (mS x) := by
  have b := fB.pl_lt (fB.all hB hx)
  unfold eG prX
  rw [two_div b, two_mod b, fA.atS hA hx (fA.all hA hx), fB.atS hB hx (fB.all hB hx)]
omit hi in
theorem eT_pr {x : M4} (hx : dtM x = 1) : eG (fnz (iz (srun coA n).T)) (fnz (iz (srun coB m).T)) m (prX coA coB n m x) = prX coA coB n m (mT x) := by
  have b := fB.pl_lt (fB.all hB hx)
  unfold eG prX
  rw [two_div b, two_mod b, fA.atT hA hx (fA.all hA hx), fB.atT hB hx (fB.all hB hx)]
variable (hF : SFin co N)
include hF
theorem bst_pr : ∀ i, i ≤ N → bst (eG (fnz (iz (srun coA n).S)) (fnz (iz (srun coB m).S)) m) (eG (fnz (iz (srun coA n).T)) (fnz (iz (srun coB m).T)) m) 0 i = (srun co i).L.map (prX coA coB n m) := by
  intro i
  induction i with
  | zero =>
    intro _
    have e : prX coA coB n m (1, 0, 0, 1) = 0 := by unfold prX; rw [fA.pl_one, fB.pl_one]; simp
    show [0] = [prX coA coB n m (1, 0, 0, 1)]
    rw [e]
  | succ i ih =>
    intro h
    have hr := RI.all hF.lt i (by omega)
    have hl := hF.lt i (by omega)
    have hb := ih (by omega)
    have hx : dtM ((srun co i).L.getD i (0, 0, 0, 0)) = 1 := hr.d _ (getD_inM hl)
    have hg : ((srun co i).L.map (prX coA coB n m)).getD i 0 = prX coA coB n m ((srun co i).L.getD i (0, 0, 0, 0)) := by
      simp [List.getD_eq_getElem?_getD, hl]
    have hsx : dtM (mS ((srun co i).L.getD i (0, 0, 0, 0))) = 1 := by rw [dtM_S]; exact hx
    have htx : dtM (mT ((srun co i).L.getD i (0, 0, 0, 0))) = 1 := by rw [dtM_T]; exact hx
    rw [bst_step (by rw [hb, List.length_map]; exact hl), hb, hg, eS_pr hA fA hB fB hx, eT_pr hA fA hB fB hx, vis_vl hA fA hB fB hi hr.d hsx, vis_vl hA fA hB fB hi (vl_dt hr.d hsx) htx, (srun_one i hr.k).1]
theorem bst_prN : bst (eG (fnz (iz (srun coA n).S)) (fnz (iz (srun coB m).S)) m) (eG (fnz (iz (srun coA n).T)) (fnz (iz (srun coB m).T)) m) 0 (n * m) = (srun co N).L.map (prX coA coB n m) := by
  have hb := bst_pr hA fA hB fB hi hF N (Nat.le_refl _)
  have p := fA.pact hA
  have q := fB.pact hB
  rw [← hb]
  exact bst_done (eG_prm p.gp q.gp) (eG_prm p.fp q.fp) (Nat.mul_pos fA.p0 fB.p0) (by rw [hb, List.length_map, hF.len]; exact Nat.le_refl _)
theorem orb_prN : orbN (eG (fnz (iz (srun coA n).S)) (fnz (iz (srun coB m).S)) m) (eG (fnz (iz (srun coA n).T)) (fnz (iz (srun coB m).T)) m) (n * m) 0 = N := by
  unfold orbN
  rw [bst_prN hA fA hB fB hi hF, List.length_map, hF.len]
theorem ord_pr {k : Nat} (hk : k < N) : ordO (eG (fnz (iz (srun coA n).S)) (fnz (iz (srun coB m).S)) m) (eG (fnz (iz (srun coA n).T)) (fnz (iz (srun coB m).T)) m) (n * m) 0 k = prX coA coB n m ((srun co N).L.getD k (0, 0, 0, 0)) := by
  have hl : k < (srun co N).L.length := by rw [hF.len]; exact hk
  unfold ordO
  rw [bst_prN hA fA hB fB hi hF]
  simp [List.getD_eq_getElem?_getD, hl]
variable (hC : Cos co)
include hC
theorem plc_pr {y : M4} (hy : dtM y = 1) : plcR (eG (fnz (iz (srun coA n).S)) (fnz (iz (srun coB m).S)) m) (eG (fnz (iz (srun coA n).T)) (fnz (iz (srun coB m).T)) m) (n * m) 0 (prX coA coB n m y) = plC co N y := by
  have hm := hF.all hC hy
  have hl := hF.pl_lt hm
  have e : prX coA coB n m ((srun co N).L.getD (plC co N y) (0, 0, 0, 0)) = prX coA coB n m y := (pr_iff hA fA hB fB hi (hF.dL hl) hy).2 (hF.key hm)
  have h := plcR_ord (g := eG (fnz (iz (srun coA n).S)) (fnz (iz (srun coB m).S)) m) (f := eG (fnz (iz (srun coA n).T)) (fnz (iz (srun coB m).T)) m) (n := n * m) (i := 0) (plC co N y) (by rw [orb_prN hA fA hB fB hi hF]; exact hl)
  rw [ord_pr hA fA hB fB hi hF hl, e] at h
  exact h
theorem x_cos : xS (iz (srun coA n).S) (iz (srun coA n).T) (iz (srun coB m).S) (iz (srun coB m).T) = iz (srun co N).S ∧ xT (iz (srun coA n).S) (iz (srun coA n).T) (iz (srun coB m).S) (iz (srun coB m).T) = iz (srun co N).T ∧ xN (iz (srun coA n).S) (iz (srun coA n).T) (iz (srun coB m).S) (iz (srun coB m).T) = N := by
  have ho := orb_prN hA fA hB fB hi hF
  refine ⟨?_, ?_, ?_⟩
  · unfold xS rS
    rw [srl.1, srl.1, ho]
    congr 1
    refine List.ext_getElem (by rw [List.length_map, List.length_range]; exact (srun_len co N).2.1.symm) fun k h1 h2 => ?_
    have hk : k < N := by simpa using h1
    rw [List.getElem_map, List.getElem_range, ord_pr hA fA hB fB hi hF hk, eS_pr hA fA hB fB (hF.dL hk), plc_pr hA fA hB fB hi hF hC (by rw [dtM_S]; exact hF.dL hk)]
    have := (hF.ri.s k hk).2
    rw [List.getD_eq_getElem?_getD, List.getElem?_eq_getElem h2] at this
    exact this.symm
  · unfold xT rT
    rw [srl.1, srl.1, ho]
    congr 1
    refine List.ext_getElem (by rw [List.length_map, List.length_range]; exact (srun_len co N).2.2.symm) fun k h1 h2 => ?_
    have hk : k < N := by simpa using h1
    rw [List.getElem_map, List.getElem_range, ord_pr hA fA hB fB hi hF hk, eT_pr hA fA hB fB (hF.dL hk), plc_pr hA fA hB fB hi hF hC (by rw [dtM_T]; exact hF.dL hk)]
    have := (hF.ri.t k hk).2
    rw [List.getD_eq_getElem?_getD, List.getElem?_eq_getElem h2] at this
    exact this.symm
  · unfold xN
    rw [srl.1, srl.1]
    exact ho
end
/-- Two matrices lie in one coset of Gamma0(n) if and only if n divides a determinant of their lower rows. -/
theorem kc1_iff {n : Int} (n1 : 1 ≤ n) {x y : M4} (hx : dtM x = 1) (hy : dtM y = 1) : kc1 n x = kc1 n y ↔ n ∣ x.2.2.1 * y.2.2.2 - y.2.2.1 * x.2.2.2 := by
  obtain ⟨a, b, c, d⟩ := x
  obtain ⟨a', b', c', d'⟩ := y
  simp only [dtM] at hx hy
  show ((nfU n c d, nfV n c d, 0, 0) : K4) = (nfU n c' d', nfV n c' d', 0, 0) ↔ n ∣ c * d' - c' * d
  rw [nfk_iff n1]
  constructor
  · rintro ⟨s, hs, ⟨p, hp⟩, ⟨q, hq⟩⟩
    exact ⟨p * d - c * q, by grind⟩
  · rintro ⟨r, hr⟩
    refine ⟨a * d' - b * c', ?_, ⟨a * r, by grind⟩, ⟨b * r, by grind⟩⟩
    have e : ∃ u v : Int, u * (a * d' - b * c') + v * n = 1 := ⟨a' * d - b' * c, (a * b' - b * a') * r, by grind⟩
    obtain ⟨u, v, e⟩ := e
    have h1 : ((Int.gcd (a * d' - b * c') n : Nat) : Int) ∣ 1 := by
      rw [← e]
      exact Int.dvd_add (Int.dvd_trans (Int.gcd_dvd_left ..) (Int.dvd_mul_left _ _)) (Int.dvd_trans (Int.gcd_dvd_right ..) (Int.dvd_mul_left _ _))
    have h2 := Int.le_of_dvd (by decide) h1
    have h3 : Int.gcd (a * d' - b * c') n ≠ 0 := fun h => by rw [h] at h1; exact absurd h1 (by decide)
    omega
end Go.Proofs.Ytjhdpcbkdeagnaa
namespace Go.Proofs.Ytjhdpcbkdeagnaa
open Go.RowKit
set_option linter.unusedVariables false
set_option linter.unusedSimpArgs false
theorem lcm_all : ∀ a : Fin 13, ∀ b : Fin 13, 1 ≤ a.val → 1 ≤ b.val → 1 ≤ Nat.gcd a.val b.val ∧ Nat.gcd a.val b.val ≤ 12 ∧ 1 ≤ a.val / Nat.gcd a.val b.val ∧ a.val / Nat.gcd a.val b.val ≤ 12 ∧ a.val / Nat.gcd a.val b.val * b.val = Nat.lcm a.val b.val ∧ (Nat.lcm a.val b.val ≤ 120 ∨ Nat.lcm a.val b.val = 132) := by decide +kernel
theorem lcm_nums {X Y : Int} (x1 : 1 ≤ X) (x2 : X ≤ 12) (y1 : 1 ≤ Y) (y2 : Y ≤ 12) : ∃ g q l : Int, g = (Int.gcd X Y : Nat) ∧ (X ∣ l ∧ Y ∣ l ∧ (∀ z, X ∣ z → Y ∣ z → l ∣ z)) ∧ 1 ≤ g ∧ g ≤ 12 ∧ X / g = q ∧ 1 ≤ q ∧ q ≤ 12 ∧ q * Y = l ∧ (l ≤ 120 ∨ l = 132) := by
  obtain ⟨a, rfl⟩ : ∃ a : Nat, X = (a : Int) := ⟨X.toNat, by omega⟩
  obtain ⟨b, rfl⟩ : ∃ b : Nat, Y = (b : Int) := ⟨Y.toNat, by omega⟩
  obtain ⟨h1, h2, h3, h4, h5, h6⟩ := lcm_all ⟨a, by omega⟩ ⟨b, by omega⟩ (by show 1 ≤ a; omega) (by show 1 ≤ b; omega)
  have e : Int.gcd (a : Int) (b : Int) = Nat.gcd a b := rfl
  refine ⟨(Nat.gcd a b : Nat), (a / Nat.gcd a b : Nat), (Nat.lcm a b : Nat), by rw [e], ⟨?_, ?_, ?_⟩, Int.ofNat_le.2 h1, Int.ofNat_le.2 h2, by rw [Int.natCast_ediv], Int.ofNat_le.2 h3, Int.ofNat_le.2 h4, ?_, ?_⟩
  · exact Int.natCast_dvd_natCast.2 (Nat.dvd_lcm_left a b)
  · exact Int.natCast_dvd_natCast.2 (Nat.dvd_lcm_right a b)
  · intro z h h'
    rw [Int.ofNat_dvd_left] at h h' ⊢
    exact Nat.lcm_dvd h h'
  · rw [← Int.natCast_mul]; exact congrArg Int.ofNat h5
  · rcases h6 with h | h
    · exact .inl (Int.ofNat_le.2 h)
    · exact .inr (congrArg Int.ofNat h)
theorem ckx_one {n : Int} (n1 : 1 ≤ n) (n2 : n ≤ 120) : ckxI 1 n = 0 := by
  have hg : gckI 1 n = 0 := by unfold gckI; rw [if_neg (by omega), if_neg (by omega)]
  have hp : psiN n.toNat ≤ 1000 := psi_le (ps_of (by omega) (by omega))
  have hi : idxI 1 n = (psiN n.toNat : Nat) := by unfold idxI; rw [if_pos hg]; rfl
  unfold ckxI
  rw [if_pos hg, if_neg (by rw [hi]; omega)]
theorem krdw {w w' : World} {A : Option Addr} {c : Nat} {l : List Int} (h : RdZ w w.heap.size A c l) (hb : Below w.heap.size w w') : RdZ w' w'.heap.size A c l := (h.below hb).mono hb.size
set_option maxHeartbeats 3200000 in
set_option maxRecDepth 1000000 in
theorem lsw_ok {S1 T1 S2 T2 S3 T3 : List Int} (n m : Int) (w : World) (n1 : 0 ≤ n) (n2 : n ≤ 255) (m1 : 0 ≤ m) (m2 : m ≤ 255) (g q l : Int) (hg : g = (Int.gcd (n % 12 + 1) (m % 12 + 1) : Nat)) (g1 : 1 ≤ g) (g2 : g ≤ 12) (hq : (n % 12 + 1) / g = q) (q1 : 1 ≤ q) (q2 : q ≤ 12) (hl : q * (m % 12 + 1) = l) (l1 : 1 ≤ l) (l2 : l ≤ 120)
    (HO10 : ∀ W, Calls Try.prog 21 #[.agg #[.int .i64 1, .int .i64 (n % 12 + 1)]] W fun e w' => ∃ AS cS AT cT, e = .returned (.tuple #[.agg #[.slice AS S1.length cS, .slice AT T1.length cT], .int .i64 0]) ∧ RdZ w' w'.heap.size AS cS S1 ∧ RdZ w' w'.heap.size AT cT T1 ∧ Below W.heap.size W w') (HO20 : ∀ W, Calls Try.prog 21 #[.agg #[.int .i64 1, .int .i64 (m % 12 + 1)]] W fun e w' => ∃ AS cS AT cT, e = .returned (.tuple #[.agg #[.slice AS S2.length cS, .slice AT T2.length cT], .int .i64 0]) ∧ RdZ w' w'.heap.size AS cS S2 ∧ RdZ w' w'.heap.size AT cT T2 ∧ Below W.heap.size W w')
    (HO30 : ∀ W, Calls Try.prog 21 #[.agg #[.int .i64 1, .int .i64 l]] W fun e w' => ∃ AS cS AT cT, e = .returned (.tuple #[.agg #[.slice AS S3.length cS, .slice AT T3.length cT], .int .i64 0]) ∧ RdZ w' w'.heap.size AS cS S3 ∧ RdZ w' w'.heap.size AT cT T3 ∧ Below W.heap.size W w')
    (HW0 : ∀ (W : World) (A : Option Addr) (c : Nat) (A' : Option Addr) (c' : Nat) (B : Option Addr) (d : Nat) (B' : Option Addr) (d' : Nat), RdZ W W.heap.size A c S3 → RdZ W W.heap.size A' c' T3 → RdZ W W.heap.size B d S1 → RdZ W W.heap.size B' d' T1 → Calls Try.prog 33 #[.agg #[.slice A S3.length c, .slice A' T3.length c'], .agg #[.slice B S1.length d, .slice B' T1.length d']] W fun e w' => e = .returned (.tuple #[.bool true, .int .i64 0]) ∧ Below W.heap.size W w')
    (HI0 : ∀ (W : World) (A : Option Addr) (c : Nat) (A' : Option Addr) (c' : Nat) (B : Option Addr) (d : Nat) (B' : Option Addr) (d' : Nat), RdZ W W.heap.size A c S1 → RdZ W W.heap.size A' c' T1 → RdZ W W.heap.size B d S2 → RdZ W W.heap.size B' d' T2 → Calls Try.prog 34 #[.agg #[.slice A S1.length c, .slice A' T1.length c'], .agg #[.slice B S2.length d, .slice B' T2.length d']] W fun e w' => IntOut 0 S3 T3 W e w') :
    Calls Try.prog 11 #[.int .u8 n, .int .u8 m] w fun e w' => e = .returned (.bool true) ∧ Below w.heap.size w w' := by
  go_enter Try.func11, Try.ntmps11
  go_upto_region 4 with (first
    | (go_at_call 12; ((with_reducible refine (awake_any _).mono ?_); rintro e w1 ⟨rfl, hb⟩; have HB1 : Hid (Below w.heap.size w w1) := bel0 (Below.refl _ _) hb; clear hb))
    | fail)
  obtain ⟨X, hX⟩ : ∃ X : Int, X = n % 12 + 1 := ⟨_, rfl⟩
  obtain ⟨Y, hY⟩ : ∃ Y : Int, Y = m % 12 + 1 := ⟨_, rfl⟩
  have x1 : 1 ≤ X := by omega
  have x2 : X ≤ 12 := by omega
  have y1 : 1 ≤ Y := by omega
  have y2 : Y ≤ 12 := by omega
  rw [← hX] at HO10
  rw [← hY] at HO20
  rw [← hX, ← hY] at hg
  rw [← hX] at hq
  rw [← hY] at hl
  rw [← hX, ← hY]
  clear hX hY
  have HG := Lib.hid (fun W => rGcd_any X Y W (by unfold Mid; omega) (by unfold Mid; omega))
  rw [← hg] at HG
  clear hg
  go_upto_region 5 with (first
    | (go_at_call 32; ((with_reducible refine (HG.out _).mono ?_); rintro e w2 ⟨rfl, N2, rfl⟩; have HB2 := Lib.hid (below_drewN HB1.out N2)))
    | fail)
  have HO1 := Lib.hid HO10
  have HO2 := Lib.hid HO20
  have HO3 := Lib.hid HO30
  have HW := Lib.hid HW0
  have HI := Lib.hid HI0
  clear HO10 HO20 HO30 HW0 HI0
  go_wp2_with (first
    | (go_at_call 21; ((with_reducible refine (HO1.out _).mono ?_); rintro e w3 ⟨AS, cS, AT, cT, rfl, d1, d2, hb⟩; have HB3 : Hid (Below w.heap.size w (w3.alloc (.cells #[.slice AS S1.length cS, .slice AT T1.length cT] 47))) := bel0 (bel0 HB2.out hb) (below1 _ _); have A3 : Hid ((w3.alloc (.cells #[.slice AS S1.length cS, .slice AT T1.length cT] 47)).heap[w3.heap.size]? = some (.cells #[.slice AS S1.length cS, .slice AT T1.length cT] 47 (0, 0))) := heap_alloc_new w3 _; have DA3 : Hid (RdZ (w3.alloc (.cells #[.slice AS S1.length cS, .slice AT T1.length cT] 47)) (w3.alloc (.cells #[.slice AS S1.length cS, .slice AT T1.length cT] 47)).heap.size AS cS S1 ∧ RdZ (w3.alloc (.cells #[.slice AS S1.length cS, .slice AT T1.length cT] 47)) (w3.alloc (.cells #[.slice AS S1.length cS, .slice AT T1.length cT] 47)).heap.size AT cT T1) := ⟨krdw d1 (below1 w3 (.cells #[.slice AS S1.length cS, .slice AT T1.length cT] 47)), krdw d2 (below1 w3 (.cells #[.slice AS S1.length cS, .slice AT T1.length cT] 47))⟩; clear hb d1 d2))
    | (go_at_call 21; ((with_reducible refine (HO2.out _).mono ?_); rintro e w4 ⟨BS, dS, BT, dT, rfl, d1, d2, hb⟩; have HB4 : Hid (Below w.heap.size w (w4.alloc (.cells #[.slice BS S2.length dS, .slice BT T2.length dT] 47))) := bel0 (bel0 HB3.out hb) (below1 _ _); have A4 := Lib.hid (block_alloc (block_below A3.out hb) (.cells #[.slice BS S2.length dS, .slice BT T2.length dT] 47)); have B4 : Hid ((w4.alloc (.cells #[.slice BS S2.length dS, .slice BT T2.length dT] 47)).heap[w4.heap.size]? = some (.cells #[.slice BS S2.length dS, .slice BT T2.length dT] 47 (0, 0))) := heap_alloc_new w4 _; have DA4 : Hid (RdZ (w4.alloc (.cells #[.slice BS S2.length dS, .slice BT T2.length dT] 47)) (w4.alloc (.cells #[.slice BS S2.length dS, .slice BT T2.length dT] 47)).heap.size AS cS S1 ∧ RdZ (w4.alloc (.cells #[.slice BS S2.length dS, .slice BT T2.length dT] 47)) (w4.alloc (.cells #[.slice BS S2.length dS, .slice BT T2.length dT] 47)).heap.size AT cT T1) := ⟨krdw (krdw DA3.out.1 hb) (below1 w4 (.cells #[.slice BS S2.length dS, .slice BT T2.length dT] 47)), krdw (krdw DA3.out.2 hb) (below1 w4 (.cells #[.slice BS S2.length dS, .slice BT T2.length dT] 47))⟩; have DB4 : Hid (RdZ (w4.alloc (.cells #[.slice BS S2.length dS, .slice BT T2.length dT] 47)) (w4.alloc (.cells #[.slice BS S2.length dS, .slice BT T2.length dT] 47)).heap.size BS dS S2 ∧ RdZ (w4.alloc (.cells #[.slice BS S2.length dS, .slice BT T2.length dT] 47)) (w4.alloc (.cells #[.slice BS S2.length dS, .slice BT T2.length dT] 47)).heap.size BT dT T2) := ⟨krdw d1 (below1 w4 (.cells #[.slice BS S2.length dS, .slice BT T2.length dT] 47)), krdw d2 (below1 w4 (.cells #[.slice BS S2.length dS, .slice BT T2.length dT] 47))⟩; clear hb d1 d2))
    | (go_at_call 21; ((with_reducible refine (HO3.out _).mono ?_); rintro e w5 ⟨CS, eS, CT, eT, rfl, d1, d2, hb⟩; have HB5 : Hid (Below w.heap.size w (w5.alloc (.cells #[.slice CS S3.length eS, .slice CT T3.length eT] 47))) := bel0 (bel0 HB4.out hb) (below1 _ _); have A5 := Lib.hid (block_alloc (block_below A4.out hb) (.cells #[.slice CS S3.length eS, .slice CT T3.length eT] 47)); have B5 := Lib.hid (block_alloc (block_below B4.out hb) (.cells #[.slice CS S3.length eS, .slice CT T3.length eT] 47)); have C5 : Hid ((w5.alloc (.cells #[.slice CS S3.length eS, .slice CT T3.length eT] 47)).heap[w5.heap.size]? = some (.cells #[.slice CS S3.length eS, .slice CT T3.length eT] 47 (0, 0))) := heap_alloc_new w5 _; have DA5 : Hid (RdZ (w5.alloc (.cells #[.slice CS S3.length eS, .slice CT T3.length eT] 47)) (w5.alloc (.cells #[.slice CS S3.length eS, .slice CT T3.length eT] 47)).heap.size AS cS S1 ∧ RdZ (w5.alloc (.cells #[.slice CS S3.length eS, .slice CT T3.length eT] 47)) (w5.alloc (.cells #[.slice CS S3.length eS, .slice CT T3.length eT] 47)).heap.size AT cT T1) := ⟨krdw (krdw DA4.out.1 hb) (below1 w5 (.cells #[.slice CS S3.length eS, .slice CT T3.length eT] 47)), krdw (krdw DA4.out.2 hb) (below1 w5 (.cells #[.slice CS S3.length eS, .slice CT T3.length eT] 47))⟩; have DB5 : Hid (RdZ (w5.alloc (.cells #[.slice CS S3.length eS, .slice CT T3.length eT] 47)) (w5.alloc (.cells #[.slice CS S3.length eS, .slice CT T3.length eT] 47)).heap.size BS dS S2 ∧ RdZ (w5.alloc (.cells #[.slice CS S3.length eS, .slice CT T3.length eT] 47)) (w5.alloc (.cells #[.slice CS S3.length eS, .slice CT T3.length eT] 47)).heap.size BT dT T2) := ⟨krdw (krdw DB4.out.1 hb) (below1 w5 (.cells #[.slice CS S3.length eS, .slice CT T3.length eT] 47)), krdw (krdw DB4.out.2 hb) (below1 w5 (.cells #[.slice CS S3.length eS, .slice CT T3.length eT] 47))⟩; have DC5 : Hid (RdZ (w5.alloc (.cells #[.slice CS S3.length eS, .slice CT T3.length eT] 47)) (w5.alloc (.cells #[.slice CS S3.length eS, .slice CT T3.length eT] 47)).heap.size CS eS S3 ∧ RdZ (w5.alloc (.cells #[.slice CS S3.length eS, .slice CT T3.length eT] 47)) (w5.alloc (.cells #[.slice CS S3.length eS, .slice CT T3.length eT] 47)).heap.size CT eT T3) := ⟨krdw d1 (below1 w5 (.cells #[.slice CS S3.length eS, .slice CT T3.length eT] 47)), krdw d2 (below1 w5 (.cells #[.slice CS S3.length eS, .slice CT T3.length eT] 47))⟩; obtain ⟨⟨a1, a2⟩, _⟩ := two_of_block A5.out; obtain ⟨⟨c1, c2⟩, _⟩ := two_of_block C5.out; clear hb d1 d2))
    | (go_at_call 33; ((with_reducible refine (HW.out _ _ _ _ _ _ _ _ _ DC5.out.1 DC5.out.2 DA5.out.1 DA5.out.2).mono ?_); rintro e w6 ⟨rfl, hb⟩; have HB6 := Lib.hid (bel0 HB5.out hb); have A6 := Lib.hid (block_below A5.out hb); have B6 := Lib.hid (block_below B5.out hb); have C6 := Lib.hid (block_below C5.out hb); have DA6 := Lib.hid (And.intro (krdw DA5.out.1 hb) (krdw DA5.out.2 hb)); have DB6 := Lib.hid (And.intro (krdw DB5.out.1 hb) (krdw DB5.out.2 hb)); have DC6 := Lib.hid (And.intro (krdw DC5.out.1 hb) (krdw DC5.out.2 hb)); clear a1 a2 c1 c2; obtain ⟨⟨a1, a2⟩, _⟩ := two_of_block A6.out; obtain ⟨⟨b1, b2⟩, _⟩ := two_of_block B6.out; clear hb))
    | (go_at_call 34; ((with_reducible refine (HI.out _ _ _ _ _ _ _ _ _ DA6.out.1 DA6.out.2 DB6.out.1 DB6.out.2).mono ?_); rintro e w7 ⟨FS, fS, FT, fT, rfl, d1, d2, hb⟩; have HB7 : Hid (Below w.heap.size w (w7.alloc (.cells #[.slice FS S3.length fS, .slice FT T3.length fT] 47))) := bel0 (bel0 HB6.out hb) (below1 _ _); have C7 := Lib.hid (block_alloc (block_below C6.out hb) (.cells #[.slice FS S3.length fS, .slice FT T3.length fT] 47)); have F7 : Hid ((w7.alloc (.cells #[.slice FS S3.length fS, .slice FT T3.length fT] 47)).heap[w7.heap.size]? = some (.cells #[.slice FS S3.length fS, .slice FT T3.length fT] 47 (0, 0))) := heap_alloc_new w7 _; have DC7 : Hid (RdZ (w7.alloc (.cells #[.slice FS S3.length fS, .slice FT T3.length fT] 47)) (w7.alloc (.cells #[.slice FS S3.length fS, .slice FT T3.length fT] 47)).heap.size CS eS S3 ∧ RdZ (w7.alloc (.cells #[.slice FS S3.length fS, .slice FT T3.length fT] 47)) (w7.alloc (.cells #[.slice FS S3.length fS, .slice FT T3.length fT] 47)).heap.size CT eT T3) := ⟨krdw (krdw DC6.out.1 hb) (below1 w7 (.cells #[.slice FS S3.length fS, .slice FT T3.length fT] 47)), krdw (krdw DC6.out.2 hb) (below1 w7 (.cells #[.slice FS S3.length fS, .slice FT T3.length fT] 47))⟩; have DF7 : Hid (RdZ (w7.alloc (.cells #[.slice FS S3.length fS, .slice FT T3.length fT] 47)) (w7.alloc (.cells #[.slice FS S3.length fS, .slice FT T3.length fT] 47)).heap.size FS fS S3 ∧ RdZ (w7.alloc (.cells #[.slice FS S3.length fS, .slice FT T3.length fT] 47)) (w7.alloc (.cells #[.slice FS S3.length fS, .slice FT T3.length fT] 47)).heap.size FT fT T3) := ⟨krdw d1 (below1 w7 (.cells #[.slice FS S3.length fS, .slice FT T3.length fT] 47)), krdw d2 (below1 w7 (.cells #[.slice FS S3.length fS, .slice FT T3.length fT] 47))⟩; clear a1 a2 b1 b2; obtain ⟨⟨c1, c2⟩, _⟩ := two_of_block C7.out; obtain ⟨⟨f1, f2⟩, _⟩ := two_of_block F7.out; clear hb d1 d2))
    | (go_at_call 27; ((with_reducible refine (same22 _ (Nat.le_refl _) DC7.out.1 DC7.out.2 DF7.out.1 DF7.out.2).mono ?_); rintro e w8 ⟨rfl, hb⟩; have HB8 := Lib.hid (bel0 HB7.out hb); clear hb))
    | fail)
  go_ret
  exact ⟨rfl, HB8.out⟩
set_option maxHeartbeats 3200000 in
set_option maxRecDepth 1000000 in
theorem lsw_large {S1 T1 S2 T2 : List Int} (n m : Int) (w : World) (n1 : 0 ≤ n) (n2 : n ≤ 255) (m1 : 0 ≤ m) (m2 : m ≤ 255) (g q l : Int) (hg : g = (Int.gcd (n % 12 + 1) (m % 12 + 1) : Nat)) (g1 : 1 ≤ g) (g2 : g ≤ 12) (hq : (n % 12 + 1) / g = q) (q1 : 1 ≤ q) (q2 : q ≤ 12) (hl : q * (m % 12 + 1) = l) (l1 : 1 ≤ l) (l2 : l = 132)
    (HO10 : ∀ W, Calls Try.prog 21 #[.agg #[.int .i64 1, .int .i64 (n % 12 + 1)]] W fun e w' => ∃ AS cS AT cT, e = .returned (.tuple #[.agg #[.slice AS S1.length cS, .slice AT T1.length cT], .int .i64 0]) ∧ RdZ w' w'.heap.size AS cS S1 ∧ RdZ w' w'.heap.size AT cT T1 ∧ Below W.heap.size W w') (HO20 : ∀ W, Calls Try.prog 21 #[.agg #[.int .i64 1, .int .i64 (m % 12 + 1)]] W fun e w' => ∃ AS cS AT cT, e = .returned (.tuple #[.agg #[.slice AS S2.length cS, .slice AT T2.length cT], .int .i64 0]) ∧ RdZ w' w'.heap.size AS cS S2 ∧ RdZ w' w'.heap.size AT cT T2 ∧ Below W.heap.size W w') :
    Calls Try.prog 11 #[.int .u8 n, .int .u8 m] w fun e w' => e = .returned (.bool true) ∧ Below w.heap.size w w' := by
  go_enter Try.func11, Try.ntmps11
  go_upto_region 4 with (first
    | (go_at_call 12; ((with_reducible refine (awake_any _).mono ?_); rintro e w1 ⟨rfl, hb⟩; have HB1 : Hid (Below w.heap.size w w1) := bel0 (Below.refl _ _) hb; clear hb))
    | fail)
  obtain ⟨X, hX⟩ : ∃ X : Int, X = n % 12 + 1 := ⟨_, rfl⟩
  obtain ⟨Y, hY⟩ : ∃ Y : Int, Y = m % 12 + 1 := ⟨_, rfl⟩
  have x1 : 1 ≤ X := by omega
  have x2 : X ≤ 12 := by omega
  have y1 : 1 ≤ Y := by omega
  have y2 : Y ≤ 12 := by omega
  rw [← hX] at HO10
  rw [← hY] at HO20
  rw [← hX, ← hY] at hg
  rw [← hX] at hq
  rw [← hY] at hl
  rw [← hX, ← hY]
  clear hX hY
  have HG := Lib.hid (fun W => rGcd_any X Y W (by unfold Mid; omega) (by unfold Mid; omega))
  rw [← hg] at HG
  clear hg
  go_upto_region 5 with (first
    | (go_at_call 32; ((with_reducible refine (HG.out _).mono ?_); rintro e w2 ⟨rfl, N2, rfl⟩; have HB2 := Lib.hid (below_drewN HB1.out N2)))
    | fail)
  have HO1 := Lib.hid HO10
  have HO2 := Lib.hid HO20
  clear HO10 HO20
  subst l2
  go_wp2_with (first
    | (go_at_call 21; ((with_reducible refine (HO1.out _).mono ?_); rintro e w3 ⟨AS, cS, AT, cT, rfl, d1, d2, hb⟩; have HB3 : Hid (Below w.heap.size w (w3.alloc (.cells #[.slice AS S1.length cS, .slice AT T1.length cT] 47))) := bel0 (bel0 HB2.out hb) (below1 _ _); have A3 : Hid ((w3.alloc (.cells #[.slice AS S1.length cS, .slice AT T1.length cT] 47)).heap[w3.heap.size]? = some (.cells #[.slice AS S1.length cS, .slice AT T1.length cT] 47 (0, 0))) := heap_alloc_new w3 _; have DA3 : Hid (RdZ (w3.alloc (.cells #[.slice AS S1.length cS, .slice AT T1.length cT] 47)) (w3.alloc (.cells #[.slice AS S1.length cS, .slice AT T1.length cT] 47)).heap.size AS cS S1 ∧ RdZ (w3.alloc (.cells #[.slice AS S1.length cS, .slice AT T1.length cT] 47)) (w3.alloc (.cells #[.slice AS S1.length cS, .slice AT T1.length cT] 47)).heap.size AT cT T1) := ⟨krdw d1 (below1 w3 (.cells #[.slice AS S1.length cS, .slice AT T1.length cT] 47)), krdw d2 (below1 w3 (.cells #[.slice AS S1.length cS, .slice AT T1.length cT] 47))⟩; clear hb d1 d2))
    | (go_at_call 21; ((with_reducible refine (HO2.out _).mono ?_); rintro e w4 ⟨BS, dS, BT, dT, rfl, d1, d2, hb⟩; have HB4 : Hid (Below w.heap.size w (w4.alloc (.cells #[.slice BS S2.length dS, .slice BT T2.length dT] 47))) := bel0 (bel0 HB3.out hb) (below1 _ _); have A4 := Lib.hid (block_alloc (block_below A3.out hb) (.cells #[.slice BS S2.length dS, .slice BT T2.length dT] 47)); have B4 : Hid ((w4.alloc (.cells #[.slice BS S2.length dS, .slice BT T2.length dT] 47)).heap[w4.heap.size]? = some (.cells #[.slice BS S2.length dS, .slice BT T2.length dT] 47 (0, 0))) := heap_alloc_new w4 _; have DA4 : Hid (RdZ (w4.alloc (.cells #[.slice BS S2.length dS, .slice BT T2.length dT] 47)) (w4.alloc (.cells #[.slice BS S2.length dS, .slice BT T2.length dT] 47)).heap.size AS cS S1 ∧ RdZ (w4.alloc (.cells #[.slice BS S2.length dS, .slice BT T2.length dT] 47)) (w4.alloc (.cells #[.slice BS S2.length dS, .slice BT T2.length dT] 47)).heap.size AT cT T1) := ⟨krdw (krdw DA3.out.1 hb) (below1 w4 (.cells #[.slice BS S2.length dS, .slice BT T2.length dT] 47)), krdw (krdw DA3.out.2 hb) (below1 w4 (.cells #[.slice BS S2.length dS, .slice BT T2.length dT] 47))⟩; have DB4 : Hid (RdZ (w4.alloc (.cells #[.slice BS S2.length dS, .slice BT T2.length dT] 47)) (w4.alloc (.cells #[.slice BS S2.length dS, .slice BT T2.length dT] 47)).heap.size BS dS S2 ∧ RdZ (w4.alloc (.cells #[.slice BS S2.length dS, .slice BT T2.length dT] 47)) (w4.alloc (.cells #[.slice BS S2.length dS, .slice BT T2.length dT] 47)).heap.size BT dT T2) := ⟨krdw d1 (below1 w4 (.cells #[.slice BS S2.length dS, .slice BT T2.length dT] 47)), krdw d2 (below1 w4 (.cells #[.slice BS S2.length dS, .slice BT T2.length dT] 47))⟩; clear hb d1 d2))
    | fail)
  go_ret
  exact ⟨rfl, HB4.out⟩
theorem kco_one (n : Int) : kco 1 n = kc1 n := if_pos rfl
theorem kco1_iff {n : Int} (n1 : 1 ≤ n) {x y : M4} (hx : dtM x = 1) (hy : dtM y = 1) : kco 1 n x = kco 1 n y ↔ n ∣ x.2.2.1 * y.2.2.2 - y.2.2.1 * x.2.2.2 := by
  rw [kco_one]; exact kc1_iff n1 hx hy
theorem chk_act {S T : List Int} (h : Act2 S T) : chkA S T = 0 := by
  have h1 := h.pos
  have h2 := h.le
  have h3 := h.len
  unfold chkA
  rw [if_neg (by omega), if_neg (by omega), if_pos h]
theorem chk_act2 {S T S' T' : List Int} (h : Act2 S T) (h' : Act2 S' T') : chk2 S T S' T' = 0 := by
  unfold chk2
  rw [if_pos (chk_act h)]; exact chk_act h'
theorem in_self {X l : Int} (hX : ckxI 1 X = 0) (hl : ckxI 1 l = 0) (x1 : 1 ≤ X) (l1 : 1 ≤ l) (hd : X ∣ l) : xN (olS 1 l) (olT 1 l) (olS 1 X) (olT 1 X) = (olS 1 l).length := by
  obtain ⟨kl, _, _⟩ := ckx_kf hl
  obtain ⟨kx, _, _⟩ := ckx_kf hX
  rw [ol_len.1]
  refine (x_cos kl.cos kl.fin kx.cos kx.fin (fun x y hx hy => ?_) kl.fin kl.cos).2.2
  rw [kco1_iff l1 hx hy, kco1_iff x1 hx hy]
  exact ⟨fun h => ⟨h, Int.dvd_trans hd h⟩, fun h => h.1⟩
theorem two_meet {X Y l : Int} (hX : ckxI 1 X = 0) (hY : ckxI 1 Y = 0) (hl : ckxI 1 l = 0) (x1 : 1 ≤ X) (y1 : 1 ≤ Y) (l1 : 1 ≤ l) (hL : X ∣ l ∧ Y ∣ l ∧ (∀ z, X ∣ z → Y ∣ z → l ∣ z)) :
    xS (olS 1 X) (olT 1 X) (olS 1 Y) (olT 1 Y) = olS 1 l ∧ xT (olS 1 X) (olT 1 X) (olS 1 Y) (olT 1 Y) = olT 1 l ∧ xN (olS 1 X) (olT 1 X) (olS 1 Y) (olT 1 Y) = idxN 1 l.toNat := by
  obtain ⟨kl, _, _⟩ := ckx_kf hl
  obtain ⟨kx, _, _⟩ := ckx_kf hX
  obtain ⟨ky, _, _⟩ := ckx_kf hY
  refine x_cos kx.cos kx.fin ky.cos ky.fin (fun x y hx hy => ?_) kl.fin kl.cos
  rw [kco1_iff l1 hx hy, kco1_iff x1 hx hy, kco1_iff y1 hx hy]
  exact ⟨fun h => ⟨Int.dvd_trans hL.1 h, Int.dvd_trans hL.2.1 h⟩, fun h => hL.2.2 _ h.1 h.2⟩
theorem lsw_walk (n m : Int) (w : World) (hn : (Lit.int .u8 n).wf = true) (hm : (Lit.int .u8 m).wf = true) :
    Calls Try.prog 11 #[.int .u8 n, .int .u8 m] w fun e w' => e = .returned (.bool true) ∧ Below w.heap.size w w' := by
  obtain ⟨n1, n2⟩ : 0 ≤ n ∧ n ≤ 255 := by simpa [Lit.wf, IntKind.min, IntKind.max, IntKind.signed, IntKind.bits] using hn
  obtain ⟨m1, m2⟩ : 0 ≤ m ∧ m ≤ 255 := by simpa [Lit.wf, IntKind.min, IntKind.max, IntKind.signed, IntKind.bits] using hm
  have x1 : 1 ≤ n % 12 + 1 := by omega
  have x2 : n % 12 + 1 ≤ 12 := by omega
  have y1 : 1 ≤ m % 12 + 1 := by omega
  have y2 : m % 12 + 1 ≤ 12 := by omega
  obtain ⟨g, q, l, hg, hL, g1, g2, hq, q1, q2, hl, hl3⟩ := lcm_nums x1 x2 y1 y2
  have l1 : 1 ≤ l := by rw [← hl]; exact Int.mul_le_mul q1 y1 (by omega) (by omega)
  have hX := ckx_one x1 (by omega)
  have hY := ckx_one y1 (by omega)
  rcases hl3 with l2 | l2
  · have hZ := ckx_one l1 l2
    obtain ⟨e1, e2, e3⟩ := two_meet hX hY hZ x1 y1 l1 hL
    have hN := (ckx_kf hZ).2.1
    have e0 := in_self hX hZ x1 l1 hL.1
    have c1 := chk_act2 (ol_act hZ) (ol_act hX)
    have c2 := chk_act2 (ol_act hX) (ol_act hY)
    refine lsw_ok n m w n1 n2 m1 m2 g q l hg g1 g2 hq q1 q2 hl l1 l2 (fun W => of_ok hX W) (fun W => of_ok hY W) (fun W => of_ok hZ W) (fun W A c A' c' B d B' d' h1 h2 h3 h4 => ?_) fun W A c A' c' B d B' d' h1 h2 h3 h4 => ?_
    · have h := pwithin_any W h1 h2 h3 h4
      rw [e0, c1] at h
      simpa using h
    · have h := pint_any W h1 h2 h3 h4
      have k0 : xk (olS 1 (n % 12 + 1)) (olT 1 (n % 12 + 1)) (olS 1 (m % 12 + 1)) (olT 1 (m % 12 + 1)) = 0 := by
        unfold xk; rw [if_pos c2, if_pos (by rw [e3]; exact hN)]
      unfold xl xr at h
      rw [if_pos k0, if_pos k0, k0, e1, e2] at h
      exact h
  · exact lsw_large n m w n1 n2 m1 m2 g q l hg g1 g2 hq q1 q2 hl l1 l2 (fun W => of_ok hX W) (fun W => of_ok hY W)
end Go.Proofs.Ytjhdpcbkdeagnaa
