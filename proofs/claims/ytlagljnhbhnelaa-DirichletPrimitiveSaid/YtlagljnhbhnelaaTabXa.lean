/- Decided facts of quadratic characters and their extensions: exponents, conductors, what Extend and Check meet. dirichlet's tables: isPeriod, conductor. -/
import Derived.Test.YtlagljnhbhnelaaTabM
import Derived.Test.YtlagljnhbhnelaaGnH
namespace Go.Proofs.Ytlagljnhbhnelaa
set_option linter.unusedVariables false

/-- isPeriod's loop: from a on in steps of f no logarithm is positive. -/
def pdL (T : List Int) (f : Nat) : Nat → Nat → Bool
  | 0, _ => true
  | j + 1, a => if a < T.length then (if 0 < T.getD a 0 then false else pdL T f j (a + f)) else true
/-- What isPeriod answers. -/
def pdV (T : List Int) (f : Nat) : Bool := if T.length % f = 0 then pdL T f T.length (1 % f) else false
/-- What the tables of a quadratic character and of its extension to n give besides. -/
def exOk (D : Int) (n : Nat) : Bool :=
  let T := tbV n (exE D n)
  let T0 := tbV D.natAbs (quE D D.natAbs)
  (ckX n (exE D n) = 0) && (ckX D.natAbs (quE D D.natAbs) = 0) && ((gensV n).all fun g => decide (0 ≤ T0.getD (g.1 % D.natAbs) 0)) && pdV T D.natAbs && ((List.range D.natAbs).all fun f => f = 0 || !pdV T f)
def exB (D : Int) : Bool := (List.range 60).all fun i => if (i + 1) % D.natAbs = 0 then exOk D (i + 1) else true
set_option maxRecDepth 1000000 in
theorem ex_all : (fd6.all exB) = true := by decide +kernel
structure ExF (D : Int) (n : Nat) : Prop where
  ck : ckX n (exE D n) = 0
  ck0 : ckX D.natAbs (quE D D.natAbs) = 0
  g0 : ∀ g ∈ gensV n, 0 ≤ (tbV D.natAbs (quE D D.natAbs)).getD (g.1 % D.natAbs) 0
  pd : pdV (tbV n (exE D n)) D.natAbs = true
  np : ∀ f, 1 ≤ f → f < D.natAbs → pdV (tbV n (exE D n)) f = false
theorem ex_of {D : Int} {n : Nat} (d1 : -60 ≤ D) (d2 : D ≤ 60) (h : fdB D = true) (n1 : 1 ≤ n) (n2 : n ≤ 60) (hn : n % D.natAbs = 0) : ExF D n := by
  have h1 := List.all_eq_true.1 ex_all D (fd6_mem d1 d2 h)
  have h2 := List.all_eq_true.1 h1 (n - 1) (List.mem_range.2 (by omega))
  rw [show n - 1 + 1 = n by omega, if_pos hn] at h2
  unfold exOk at h2
  simp only [Bool.and_eq_true, decide_eq_true_eq] at h2
  obtain ⟨⟨⟨⟨a, b⟩, c⟩, d⟩, e⟩ := h2
  refine ⟨a, b, fun g hg => by simpa using List.all_eq_true.1 c g hg, d, fun f f1 f2 => ?_⟩
  have h3 := List.all_eq_true.1 e f (List.mem_range.2 f2)
  simp only [Bool.or_eq_true, decide_eq_true_eq, Bool.not_eq_true'] at h3
  rcases h3 with h3 | h3
  · omega
  · exact h3
end Go.Proofs.Ytlagljnhbhnelaa
namespace Go.Proofs.Ytlagljnhbhnelaa
open Go.RowKit
set_option linter.unusedVariables false
set_option linter.unusedSimpArgs false

theorem getD_some (T : List Int) (j : Nat) (h : j < T.length) : T[j]? = some (T.getD j 0) := by
  rw [List.getD_eq_getElem?_getD, List.getElem?_eq_getElem h]; rfl
set_option maxHeartbeats 1600000 in
set_option maxRecDepth 1000000 in
theorem isper_any (T : List Int) (m : Int) (f : Nat) (A : Option Addr) (c : Nat) (w : World) (hT : RdZ w w.heap.size A c T) (hn1 : 1 ≤ T.length) (hn2 : T.length ≤ 60) (f1 : 1 ≤ f) (f2 : (f : Int) ≤ 60) :
    Calls Try.prog 72 #[.agg #[.slice A T.length c, .int .i64 m], .int .i64 (f : Int)] w fun e w' => e = .returned (.bool (pdV T f)) ∧ Below w.heap.size w w' := by
  have T0 : Hid ((w.alloc (.cells #[.slice A T.length c, .int .i64 m] 76)).heap[w.heap.size]? = some (.cells #[.slice A T.length c, .int .i64 m] 76 (0, 0))) := heap_alloc_new w _
  have HB0 : Hid (Below w.heap.size w (w.alloc (.cells #[.slice A T.length c, .int .i64 m] 76))) := below1 w _
  have HT := Lib.hid (hT.below HB0.out)
  obtain ⟨c0, c1, _⟩ := cells_two T0.out
  have hlm : Int.tmod (T.length : Int) (f : Int) = ((T.length % f : Nat) : Int) := (Int.ofNat_tmod _ _).symm
  have hle : (T.length : Int) % (f : Int) = ((T.length % f : Nat) : Int) := (Int.natCast_emod _ _).symm
  have hom : Int.tmod 1 (f : Int) = ((1 % f : Nat) : Int) := (Int.ofNat_tmod 1 f).symm
  have hoe : 1 % (f : Int) = ((1 % f : Nat) : Int) := (Int.natCast_emod 1 f).symm
  have f0 : ((f : Int) == 0) = false := by rw [beq_eq_false_iff_ne]; omega
  have f0' : ¬ ((f : Int) = 0) := by omega
  have f0'' : ¬ (f = 0) := by omega
  have hr1 : T.length % f ≤ T.length := Nat.mod_le _ _
  have ho1 : 1 % f ≤ 1 := Nat.mod_le _ _
  have HV : Hid (pdV T f = if T.length % f = 0 then pdL T f T.length (1 % f) else false) := rfl
  have HL : Hid (∀ j a, pdL T f (j + 1) a = if a < T.length then (if 0 < T.getD a 0 then false else pdL T f j (a + f)) else true) := fun _ _ => rfl
  have HZ : Hid (∀ a, pdL T f 0 a = true) := fun _ => rfl
  have HCl : Hid (∀ a (h : a < T.length) W, Below (w.alloc (.cells #[.slice A T.length c, .int .i64 m] 76)).heap.size (w.alloc (.cells #[.slice A T.length c, .int .i64 m] 76)) W → ∃ b o, A = some ⟨b, o, none⟩ ∧ W.cell? ⟨b, o + a, none⟩ = some (.int .i64 (T.getD a 0))) := fun a h W hW => by
    obtain ⟨b, o, e, hb, hc⟩ := ((HT.out.mono (by simp)).below hW).at_ h
    refine ⟨b, o, e, ?_⟩
    rw [hc, List.getD_eq_getElem?_getD, List.getElem?_eq_getElem h]; rfl
  clear hT HT
  generalize pdV T f = r at *
  generalize hN : T.length = N at *
  clear hN
  go_enter Try.func72, Try.ntmps72
  by_cases hz : N % f = 0
  · rw [if_pos hz] at HV
    rw [hz] at hlm hle
    generalize 1 % f = u at *
    have hwu : IntKind.i64.wrap (u : Int) = (u : Int) := IntWalk.i64_in _ (by omega)
    go_upto_region 4 with fail
    obtain ⟨W1, hW1⟩ : ∃ W1, W1 = w.alloc (.cells #[.slice A N c, .int .i64 m] 76) := ⟨_, rfl⟩
    rw [← hW1] at T0 HB0 HCl ⊢
    clear c0 c1 hW1 hz
    go_loopw [5] (fun I wr => ∃ j a : Nat, I = .int .i64 (a : Int) ∧ a ≤ 120 ∧ N ≤ a + j ∧ Hid (pdL T f j a = r) ∧ Hid (Below W1.heap.size W1 wr)) (fun I _ => 121 - (intOf I).toNat)
    case atStart => exact ⟨N, u, rfl, by omega, by omega, HV.out.symm, Below.refl _ _⟩
    case round =>
      obtain ⟨j, a, rfl, ha, hj, HP, HW⟩ := hrel
      obtain ⟨c0, c1, _⟩ := cells_two (block_below T0.out HW.out)
      by_cases haN : a < N
      · have haNi : (a : Int) < (N : Int) := by omega
        obtain ⟨b, o, rfl, x1⟩ := HCl.out a haN wr HW.out
        obtain ⟨j, rfl⟩ : ∃ j', j = j' + 1 := ⟨j - 1, by omega⟩
        have hp := HP.out
        rw [HL.out, if_pos haN] at hp
        by_cases hx : 0 < T.getD a 0
        · rw [if_pos hx] at hp
          have HR := Lib.hid hp
          clear hp
          generalize T.getD a 0 = x at *
          go_wp2
          go_ret
          exact ⟨by rw [← HR.out]; rfl, HB0.out.trans (HW.out.mono HB0.out.size)⟩
        · rw [if_neg hx] at hp
          have HR := Lib.hid hp
          clear hp
          generalize T.getD a 0 = x at *
          have hx2 : x ≤ 0 := by omega
          go_wp2
          go_roundw
          case rel => exact ⟨j, a + f, by go_num, by omega, by omega, HR.out, HW.out⟩
          case measure => simp [intOf]; omega
      · have haNi : ¬ (a : Int) < (N : Int) := by omega
        have hp : Hid (r = true) := by
          show _ = _
          rcases j with _ | j
          · rw [← HP.out, HZ.out]
          · rw [← HP.out, HL.out, if_neg haN]
        go_wp2
        go_ret
        exact ⟨by rw [hp.out]; rfl, HB0.out.trans (HW.out.mono HB0.out.size)⟩
  · rw [if_neg hz] at HV
    have hz1 : ¬ (((N % f : Nat) : Int) = 0) := by omega
    have hz2 : (((N % f : Nat) : Int) == 0) = false := by rw [beq_eq_false_iff_ne]; omega
    have hwr : IntKind.i64.wrap ((N % f : Nat) : Int) = ((N % f : Nat) : Int) := IntWalk.i64_in _ (by generalize N % f = z at *; omega)
    have hz3 : (((N % f : Nat) : Int) != 0) = true := by rw [bne_iff_ne]; exact hz1
    generalize N % f = z at *
    go_wp2
    go_ret
    exact ⟨by rw [HV.out]; rfl, HB0.out⟩
set_option maxHeartbeats 1600000 in
set_option maxRecDepth 1000000 in
theorem tcond_any (T : List Int) (m : Int) (C : Nat) (A : Option Addr) (c : Nat) (w : World) (hT : RdZ w w.heap.size A c T) (hn1 : 1 ≤ T.length) (hn2 : T.length ≤ 60) (C1 : 1 ≤ C) (C2 : (C : Int) ≤ 60) (hC : pdV T C = true) (hl : ∀ f, 1 ≤ f → f < C → pdV T f = false) :
    Calls Try.prog 54 #[.agg #[.slice A T.length c, .int .i64 m]] w fun e w' => e = .returned (.int .i64 (C : Int)) ∧ Below w.heap.size w w' := by
  have T0 : Hid ((w.alloc (.cells #[.slice A T.length c, .int .i64 m] 76)).heap[w.heap.size]? = some (.cells #[.slice A T.length c, .int .i64 m] 76 (0, 0))) := heap_alloc_new w _
  have HB0 : Hid (Below w.heap.size w (w.alloc (.cells #[.slice A T.length c, .int .i64 m] 76))) := below1 w _
  have HT := Lib.hid (hT.below HB0.out)
  have HPe := Lib.hid (fun (f : Nat) (h1 : 1 ≤ f) (h2 : (f : Int) ≤ 60) (W : World) (hW : RdZ W W.heap.size A c T) => isper_any T m f A c W hW hn1 hn2 h1 h2)
  have HC := Lib.hid hC
  have HN := Lib.hid hl
  clear hT hC hl
  go_enter Try.func54, Try.ntmps54
  go_upto_region 2 with fail
  obtain ⟨W1, hW1⟩ : ∃ W1, W1 = w.alloc (.cells #[.slice A T.length c, .int .i64 m] 76) := ⟨_, rfl⟩
  have hsz : w.heap.size ≤ W1.heap.size := by rw [hW1]; simp
  rw [← hW1] at T0 HB0 HT ⊢
  clear hW1
  go_loopw [3] (fun I wr => ∃ f : Nat, I = .int .i64 (f : Int) ∧ 1 ≤ f ∧ f ≤ C ∧ Hid (Below W1.heap.size W1 wr)) (fun I _ => C - (intOf I).toNat)
  case atStart => exact ⟨1, rfl, by omega, by omega, Below.refl _ _⟩
  case round =>
    obtain ⟨f, rfl, hf1, hf2, HW⟩ := hrel
    obtain ⟨c0, c1, _⟩ := cells_two (block_below T0.out HW.out)
    have hp := HPe.out f hf1 (by omega) wr (((HT.out.mono hsz).below HW.out).mono HW.out.size)
    have Hp := Lib.hid hp
    clear hp
    by_cases hfC : f = C
    · subst hfC
      rw [HC.out] at Hp
      go_wp2_with (first
        | (go_at_call 72; ((with_reducible refine Hp.out.mono ?_); rintro e w3 ⟨rfl, hb⟩; have HW3 := Lib.hid (HW.out.trans (hb.mono HW.out.size)); clear hb))
        | fail)
      go_ret
      exact ⟨rfl, HB0.out.trans (HW3.out.mono HB0.out.size)⟩
    · rw [HN.out f hf1 (by omega)] at Hp
      go_wp2_with (first
        | (go_at_call 72; ((with_reducible refine Hp.out.mono ?_); rintro e w3 ⟨rfl, hb⟩; have HW3 := Lib.hid (HW.out.trans (hb.mono HW.out.size)); clear hb))
        | fail)
      go_roundw
      case rel => exact ⟨f + 1, by go_num, by omega, by omega, HW3.out⟩
      case measure => simp [intOf]; omega
end Go.Proofs.Ytlagljnhbhnelaa
