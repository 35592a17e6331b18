/- The dimensions of a character in general (general): its closure, the sums, cusp, eisenstein, modular. dimension.general, checkCharacter, CuspCharacter, ModularCharacter of a character with the values of a quadratic one. Decided: the values of a quadratic character's extension in the words of Value. DimensionQuadratic: the dimensions for the quadratic character of a space are those of the space. -/
import Derived.Test.YtaofkfphkkfbnaaTabXb
import Derived.Test.YtaofkfphkkfbnaaDnF
import Derived.Test.YtaofkfphkkfbnaaDnX
namespace Go.Proofs.Ytaofkfphkkfbnaa
open Go.RowKit
set_option linter.unusedVariables false
set_option linter.unusedSimpArgs false

/-- Twice the real part of a value. -/
def twV (k : Int) (m : Nat) : Int := if rouD k m = 1 then 2 else if rouD k m = 2 then -2 else if rouD k m = 3 then -1 else 0
set_option maxHeartbeats 1600000 in
set_option maxRecDepth 1000000 in
/-- The closure of general. -/
theorem gclo_any (n : Nat) (E : List Int) (a : Nat) (A : Option Addr) (c b : Nat) (w : World) (n1 : 1 ≤ n) (n2 : (n : Int) ≤ 60) (hck : ckX n E = 0) (ha : (a : Int) ≤ 60) (hc : w.heap[b]? = some (.cells #[.int .i64 (n : Int), .slice A E.length c] 39 (0, 0))) (hE : RdZ w w.heap.size A c E) :
    Calls Try.prog 92 #[.int .i64 (a : Int), .pointer (some ⟨b, 0, none⟩)] w fun e w' => e = .returned (.int .i64 (twV ((tbV n E).getD ((a : Int) % (n : Int)).toNat 0) (tbM (gensV n)))) ∧ Below w.heap.size w w' := by
  have HVa := Lib.hid (dval_any n E (a : Int) A c w n1 n2 hE hck (by omega) (by omega))
  rw [rou_eq] at HVa
  obtain ⟨x0, x1, _⟩ := cells_two hc
  generalize (tbV n E).getD ((a : Int) % (n : Int)).toNat 0 = k at *
  generalize tbM (gensV n) = m at *
  have HT : Hid (twV k m = if rouD k m = 1 then 2 else if rouD k m = 2 then -2 else if rouD k m = 3 then -1 else 0) := rfl
  generalize twV k m = R at *
  generalize rouN k m = x at *
  generalize rouD k m = y at *
  generalize decide (k = -1) = z at *
  clear hE hck hc
  go_enter Try.func92, Try.ntmps92
  go_upto_region 2 with (first
    | (go_at_call 93; ((with_reducible refine HVa.out.mono ?_); rintro e w1 ⟨rfl, hb⟩; have B1 := Lib.hid hb; clear hb x0 x1))
    | fail)
  have V1 : Hid ((w1.alloc (.cells #[.bool z, .int .i64 x, .int .i64 y] 93)).heap[w1.heap.size]? = some (.cells #[.bool z, .int .i64 x, .int .i64 y] 93 (0, 0))) := heap_alloc_new w1 _
  have B2 : Hid (Below w.heap.size w (w1.alloc (.cells #[.bool z, .int .i64 x, .int .i64 y] 93))) := B1.out.alloc B1.out.size _
  obtain ⟨⟨s0, s1, s2⟩, sf⟩ := three_of_blockD V1.out
  by_cases h1 : y = 1
  · subst h1
    rw [if_pos rfl] at HT
    go_wp2
    go_ret
    exact ⟨by rw [HT.out]; rfl, B2.out⟩
  · have e1 : (y == 1) = false := by rw [beq_eq_false_iff_ne]; exact h1
    rw [if_neg h1] at HT
    by_cases h2 : y = 2
    · subst h2
      rw [if_pos rfl] at HT
      clear h1
      go_wp2
      go_ret
      exact ⟨by rw [HT.out]; rfl, B2.out⟩
    · have e2 : (y == 2) = false := by rw [beq_eq_false_iff_ne]; exact h2
      rw [if_neg h2] at HT
      by_cases h3 : y = 3
      · subst h3
        rw [if_pos rfl] at HT
        clear h1 h2
        go_wp2
        go_ret
        exact ⟨by rw [HT.out]; rfl, B2.out⟩
      · have e3 : (y == 3) = false := by rw [beq_eq_false_iff_ne]; exact h3
        rw [if_neg h3] at HT
        clear h1 h2 h3
        go_wp2
        go_ret
        exact ⟨by rw [HT.out]; rfl, B2.out⟩
/-- A character with the values of a quadratic one. -/
structure GQ (n : Nat) (D : Int) (E : List Int) : Prop where
  n1 : 1 ≤ n
  n2 : n ≤ 60
  ld : LD n D
  ck : ckX n E = 0
  tw : ∀ a, 1 ≤ a → a ≤ n → Nat.gcd a n = 1 → twV ((tbV n E).getD ((a : Int) % (n : Int)).toNat 0) (tbM (gensV n)) = 2 * kron D (a : Int)
theorem gtw_any (n : Nat) (D : Int) (E : List Int) (a : Nat) (A : Option Addr) (c b : Nat) (w : World) (hq : GQ n D E) (a1 : 1 ≤ a) (a2 : a ≤ n) (hg : Nat.gcd a n = 1) (hc : w.heap[b]? = some (.cells #[.int .i64 (n : Int), .slice A E.length c] 39 (0, 0))) (hE : RdZ w w.heap.size A c E) :
    Calls Try.prog 92 #[.int .i64 (a : Int), .pointer (some ⟨b, 0, none⟩)] w fun e w' => e = .returned (.int .i64 (2 * kron D (a : Int))) ∧ Below w.heap.size w w' := by
  have h := gclo_any n E a A c b w hq.n1 (by have := hq.n2; omega) hq.ck (by have := hq.n2; omega) hc hE
  rw [hq.tw a a1 a2 hg] at h
  exact h
/-- What general answers; b is the block of the character. -/
def chW (n : Nat) (D : Int) (b : Nat) : Value := .agg #[.int .i64 (n : Int), .int .i64 (D.natAbs : Nat), .func (.func 92) #[] #[.pointer (some ⟨b, 0, none⟩)]]
set_option maxHeartbeats 3200000 in
set_option maxRecDepth 1000000 in
theorem gsum4_any (n : Nat) (D : Int) (E : List Int) (A : Option Addr) (c b : Nat) (w : World) (hq : GQ n D E) (hE : RdZ w w.heap.size A c E) (hc : w.heap[b]? = some (.cells #[.int .i64 (n : Int), .slice A E.length c] 39 (0, 0))) :
    Calls Try.prog 73 #[chW n D b, .func (.func 74) #[] #[]] w fun e w' => e = .returned (.int .i64 (s4 n D n)) ∧ Below w.heap.size w w' := by
  have n1 := hq.n1
  have n2 : (n : Int) ≤ 120 := by have := hq.n2; omega
  have d1 := hq.ld.d1
  have d2 := hq.ld.d2
  have HE0 : Hid (∀ W, Below w.heap.size w W → RdZ W W.heap.size A c E) := fun W hW => (hE.below hW).mono hW.size
  have H0 : Hid (s4 n D 0 = 0) := rfl
  have HS := Lib.hid (fun t => show s4 n D (t + 1) = (if rt4 n (t + 1) = true then s4 n D t + 2 * kron D ((t + 1 : Nat) : Int) else s4 n D t) from rfl)
  have HR : Hid (∀ t, rt4 n t = decide ((t * t + 1) % n = 0)) := fun t => rfl
  have HBd := Lib.hid (fun t => s4_bd n D t)
  have HKb := Lib.hid (fun t : Nat => kron_cases D (t : Int))
  have HPo := Lib.hid (fun (a : Nat) (h : (a : Int) ≤ 120) W => poly4_any a W h)
  have HTw := Lib.hid (fun (a : Nat) (h1 : 1 ≤ a) (h2 : a ≤ n) (hr : rt4 n a = true) (W : World) (hW : W.heap[b]? = some (.cells #[.int .i64 (n : Int), .slice A E.length c] 39 (0, 0))) (hE : RdZ W W.heap.size A c E) => gtw_any n D E a A c b W hq h1 h2 ((hq.ld.df).r4 a h1 h2 hr).1 hW hE)
  have hbs : b < w.heap.size := lt_of_block hc
  unfold chW
  generalize D.natAbs = m at *
  have T0 : Hid ((w.alloc (.cells #[.int .i64 (n : Int), .int .i64 (m : Nat), .func (.func 92) #[] #[.pointer (some ⟨b, 0, none⟩)]] 51)).heap[w.heap.size]? = some (.cells #[.int .i64 (n : Int), .int .i64 (m : Nat), .func (.func 92) #[] #[.pointer (some ⟨b, 0, none⟩)]] 51 (0, 0))) := heap_alloc_new w _
  have Tb : Hid ((w.alloc (.cells #[.int .i64 (n : Int), .int .i64 (m : Nat), .func (.func 92) #[] #[.pointer (some ⟨b, 0, none⟩)]] 51)).heap[b]? = some (.cells #[.int .i64 (n : Int), .slice A E.length c] 39 (0, 0))) := block_alloc hc _
  have HB0 : Hid (Below w.heap.size w (w.alloc (.cells #[.int .i64 (n : Int), .int .i64 (m : Nat), .func (.func 92) #[] #[.pointer (some ⟨b, 0, none⟩)]] 51))) := below1 w _
  clear hc hE hq
  go_enter Try.func73, Try.ntmps73
  go_upto_region 3 with fail
  obtain ⟨w1, hw1⟩ : ∃ w1, w1 = w.alloc (.cells #[.int .i64 (n : Int), .int .i64 (m : Nat), .func (.func 92) #[] #[.pointer (some ⟨b, 0, none⟩)]] 51) := ⟨_, rfl⟩
  rw [← hw1] at T0 Tb HB0 ⊢
  clear hw1
  go_loopw [5, 6] (fun X I wr => ∃ t : Nat, I = .int .i64 ((t + 1 : Nat) : Int) ∧ X = .int .i64 (s4 n D t) ∧ t ≤ n ∧ Hid (Below w1.heap.size w1 wr)) (fun _ I _ => n + 1 - (intOf I).toNat)
  case atStart => exact ⟨0, rfl, by rw [H0.out], Nat.zero_le _, Below.refl _ _⟩
  case round =>
    obtain ⟨t, rfl, rfl, ht, HW⟩ := hrel
    have Tw := Lib.hid (block_below T0.out HW.out)
    have Tbw := Lib.hid (block_below Tb.out HW.out)
    obtain ⟨⟨c0, c1, c2⟩, _⟩ := three_of_blockD Tw.out
    by_cases htn : t < n
    · have hti : (((t + 1 : Nat)) : Int) ≤ (n : Int) := by omega
      have hs := HS.out t
      have hr := HR.out (t + 1)
      have hbd := HBd.out t
      have hkb := HKb.out (t + 1)
      have hpo := HPo.out (t + 1) (by omega)
      have htw := HTw.out (t + 1) (by omega) (by omega)
      generalize s4 n D t = x at *
      obtain ⟨u, hu⟩ : ∃ u, u = t + 1 := ⟨_, rfl⟩
      rw [← hu] at hti hs hr hkb hpo htw ⊢
      have HU := Lib.hid hu
      have hu1 : 1 ≤ (u : Int) := by omega
      have hx1 : -240 ≤ x := by omega
      have hx2 : x ≤ 240 := by omega
      have hub : u * u + 1 ≤ 20000 := by
        have := Nat.mul_le_mul (show u ≤ 120 by omega) (show u ≤ 120 by omega)
        omega
      clear hu hbd
      have HPo2 := Lib.hid hpo
      have HTw2 := Lib.hid htw
      clear hpo htw
      generalize u * u + 1 = z at *
      have hmod : (z : Int) % (n : Int) = ((z % n : Nat) : Int) := (Int.natCast_emod z n).symm
      have htm : Int.tmod (z : Int) (n : Int) = ((z % n : Nat) : Int) := (Int.ofNat_tmod _ _).symm
      have hn0 : ((n : Int) == 0) = false := by rw [beq_eq_false_iff_ne]; omega
      have hn01 : ¬ ((n : Int) = 0) := by omega
      have hn02 : ¬ (n = 0) := by omega
      have hzi : (z : Int) ≤ 20000 := by omega
      have HKc : Hid (∀ W, Below wr.heap.size wr W → W.cell? ⟨w.heap.size, 0, none⟩ = some (.int .i64 (n : Nat)) ∧ W.cell? ⟨w.heap.size, 2, none⟩ = some (.func (.func 92) #[] #[.pointer (some ⟨b, 0, none⟩)])) := fun W hb => ⟨(three_of_blockD (block_below Tw.out hb)).1.1, (three_of_blockD (block_below Tw.out hb)).1.2.2⟩
      have D0 : Hid (Below wr.heap.size wr wr.drew) := Below.drew (Below.refl _ _)
      have HCb : Hid (wr.drew.heap[b]? = some (.cells #[.int .i64 (n : Int), .slice A E.length c] 39 (0, 0))) := block_below Tbw.out D0.out
      have HEr : Hid (RdZ wr.drew wr.drew.heap.size A c E) := HE0.out _ (HB0.out.trans (HW.out.drew.mono HB0.out.size))
      have c2d : wr.drew.cell? ⟨w.heap.size, 2, none⟩ = some (.func (.func 92) #[] #[.pointer (some ⟨b, 0, none⟩)]) := (HKc.out _ D0.out).2
      by_cases e : z % n = 0
      · have hN : Hid (s4 n D u = x + 2 * kron D (u : Int)) := by show _ = _; rw [hs, hr, decide_eq_true e, if_pos rfl]
        rw [e] at hmod htm
        have HTw3 := Lib.hid (HTw2.out (by rw [hr]; exact decide_eq_true e))
        clear hs hr e HTw2
        generalize kron D (u : Int) = K at *
        have hK1 : -1 ≤ K := hkb.1
        have hK2 : K ≤ 1 := hkb.2
        clear hkb
        go_upto_region 5 with fail
        go_region_held3 (fun w' => w'.cell? ⟨w.heap.size, 0, none⟩ = some (.int .i64 (n : Nat)))
          (with_reducible first | exact (HKc.out _ D0.out).1 | fail)
          (first
            | (go_at_call 74; ((with_reducible refine (HPo2.out _).mono ?_); rintro e w3 ⟨rfl, rfl⟩))
            | fail)
        go_wp2_with (first
          | (go_at_call 92; ((with_reducible refine (HTw3.out _ HCb.out HEr.out).mono ?_); rintro e w3 ⟨rfl, hb3⟩; have HW3 := Lib.hid (HW.out.drew.trans (hb3.mono HW.out.drew.size)); clear hb3))
          | fail)
        go_roundw
        case rel => exact ⟨u, by go_num, by rw [hN.out], by have := HU.out; omega, HW3.out⟩
        case measure => have := HU.out; simp [intOf]; omega
      · have hN : Hid (s4 n D u = x) := by show _ = _; rw [hs, hr, decide_eq_false e, if_neg (by decide)]
        have hne : (((z % n : Nat) : Int) == 0) = false := by rw [beq_eq_false_iff_ne]; omega
        have hwr : IntKind.i64.wrap ((z % n : Nat) : Int) = ((z % n : Nat) : Int) := IntWalk.i64_in _ (by have := Nat.mod_le z n; omega)
        clear hs hr e hkb
        generalize z % n = r at *
        go_upto_region 5 with fail
        go_region_held3 (fun w' => w'.cell? ⟨w.heap.size, 0, none⟩ = some (.int .i64 (n : Nat)))
          (with_reducible first | exact (HKc.out _ D0.out).1 | fail)
          (first
            | (go_at_call 74; ((with_reducible refine (HPo2.out _).mono ?_); rintro e w3 ⟨rfl, rfl⟩))
            | fail)
        go_wp2
        go_roundw
        case rel => exact ⟨u, by go_num, by rw [hN.out], by have := HU.out; omega, HW.out.drew⟩
        case measure => have := HU.out; simp [intOf]; omega
    · obtain rfl : t = n := by omega
      have hk3 : ¬ (((t + 1 : Nat)) : Int) ≤ (t : Int) := by omega
      go_wp2
      go_ret
      exact ⟨rfl, HB0.out.trans (HW.out.mono HB0.out.size)⟩
set_option maxHeartbeats 3200000 in
set_option maxRecDepth 1000000 in
theorem gsum3_any (n : Nat) (D : Int) (E : List Int) (A : Option Addr) (c b : Nat) (w : World) (hq : GQ n D E) (hE : RdZ w w.heap.size A c E) (hc : w.heap[b]? = some (.cells #[.int .i64 (n : Int), .slice A E.length c] 39 (0, 0))) :
    Calls Try.prog 73 #[chW n D b, .func (.func 76) #[] #[]] w fun e w' => e = .returned (.int .i64 (s3 n D n)) ∧ Below w.heap.size w w' := by
  have n1 := hq.n1
  have n2 : (n : Int) ≤ 120 := by have := hq.n2; omega
  have d1 := hq.ld.d1
  have d2 := hq.ld.d2
  have HE0 : Hid (∀ W, Below w.heap.size w W → RdZ W W.heap.size A c E) := fun W hW => (hE.below hW).mono hW.size
  have H0 : Hid (s3 n D 0 = 0) := rfl
  have HS := Lib.hid (fun t => show s3 n D (t + 1) = (if rt3 n (t + 1) = true then s3 n D t + 2 * kron D ((t + 1 : Nat) : Int) else s3 n D t) from rfl)
  have HR : Hid (∀ t, rt3 n t = decide ((t * t + t + 1) % n = 0)) := fun t => rfl
  have HBd := Lib.hid (fun t => s3_bd n D t)
  have HKb := Lib.hid (fun t : Nat => kron_cases D (t : Int))
  have HPo := Lib.hid (fun (a : Nat) (h : (a : Int) ≤ 120) W => poly3_any a W h)
  have HTw := Lib.hid (fun (a : Nat) (h1 : 1 ≤ a) (h2 : a ≤ n) (hr : rt3 n a = true) (W : World) (hW : W.heap[b]? = some (.cells #[.int .i64 (n : Int), .slice A E.length c] 39 (0, 0))) (hE : RdZ W W.heap.size A c E) => gtw_any n D E a A c b W hq h1 h2 ((hq.ld.df).r3 a h1 h2 hr).1 hW hE)
  have hbs : b < w.heap.size := lt_of_block hc
  unfold chW
  generalize D.natAbs = m at *
  have T0 : Hid ((w.alloc (.cells #[.int .i64 (n : Int), .int .i64 (m : Nat), .func (.func 92) #[] #[.pointer (some ⟨b, 0, none⟩)]] 51)).heap[w.heap.size]? = some (.cells #[.int .i64 (n : Int), .int .i64 (m : Nat), .func (.func 92) #[] #[.pointer (some ⟨b, 0, none⟩)]] 51 (0, 0))) := heap_alloc_new w _
  have Tb : Hid ((w.alloc (.cells #[.int .i64 (n : Int), .int .i64 (m : Nat), .func (.func 92) #[] #[.pointer (some ⟨b, 0, none⟩)]] 51)).heap[b]? = some (.cells #[.int .i64 (n : Int), .slice A E.length c] 39 (0, 0))) := block_alloc hc _
  have HB0 : Hid (Below w.heap.size w (w.alloc (.cells #[.int .i64 (n : Int), .int .i64 (m : Nat), .func (.func 92) #[] #[.pointer (some ⟨b, 0, none⟩)]] 51))) := below1 w _
  clear hc hE hq
  go_enter Try.func73, Try.ntmps73
  go_upto_region 3 with fail
  obtain ⟨w1, hw1⟩ : ∃ w1, w1 = w.alloc (.cells #[.int .i64 (n : Int), .int .i64 (m : Nat), .func (.func 92) #[] #[.pointer (some ⟨b, 0, none⟩)]] 51) := ⟨_, rfl⟩
  rw [← hw1] at T0 Tb HB0 ⊢
  clear hw1
  go_loopw [5, 6] (fun X I wr => ∃ t : Nat, I = .int .i64 ((t + 1 : Nat) : Int) ∧ X = .int .i64 (s3 n D t) ∧ t ≤ n ∧ Hid (Below w1.heap.size w1 wr)) (fun _ I _ => n + 1 - (intOf I).toNat)
  case atStart => exact ⟨0, rfl, by rw [H0.out], Nat.zero_le _, Below.refl _ _⟩
  case round =>
    obtain ⟨t, rfl, rfl, ht, HW⟩ := hrel
    have Tw := Lib.hid (block_below T0.out HW.out)
    have Tbw := Lib.hid (block_below Tb.out HW.out)
    obtain ⟨⟨c0, c1, c2⟩, _⟩ := three_of_blockD Tw.out
    by_cases htn : t < n
    · have hti : (((t + 1 : Nat)) : Int) ≤ (n : Int) := by omega
      have hs := HS.out t
      have hr := HR.out (t + 1)
      have hbd := HBd.out t
      have hkb := HKb.out (t + 1)
      have hpo := HPo.out (t + 1) (by omega)
      have htw := HTw.out (t + 1) (by omega) (by omega)
      generalize s3 n D t = x at *
      obtain ⟨u, hu⟩ : ∃ u, u = t + 1 := ⟨_, rfl⟩
      rw [← hu] at hti hs hr hkb hpo htw ⊢
      have HU := Lib.hid hu
      have hu1 : 1 ≤ (u : Int) := by omega
      have hx1 : -240 ≤ x := by omega
      have hx2 : x ≤ 240 := by omega
      have hub : u * u + u + 1 ≤ 20000 := by
        have := Nat.mul_le_mul (show u ≤ 120 by omega) (show u ≤ 120 by omega)
        omega
      clear hu hbd
      have HPo2 := Lib.hid hpo
      have HTw2 := Lib.hid htw
      clear hpo htw
      generalize u * u + u + 1 = z at *
      have hmod : (z : Int) % (n : Int) = ((z % n : Nat) : Int) := (Int.natCast_emod z n).symm
      have htm : Int.tmod (z : Int) (n : Int) = ((z % n : Nat) : Int) := (Int.ofNat_tmod _ _).symm
      have hn0 : ((n : Int) == 0) = false := by rw [beq_eq_false_iff_ne]; omega
      have hn01 : ¬ ((n : Int) = 0) := by omega
      have hn02 : ¬ (n = 0) := by omega
      have hzi : (z : Int) ≤ 20000 := by omega
      have HKc : Hid (∀ W, Below wr.heap.size wr W → W.cell? ⟨w.heap.size, 0, none⟩ = some (.int .i64 (n : Nat)) ∧ W.cell? ⟨w.heap.size, 2, none⟩ = some (.func (.func 92) #[] #[.pointer (some ⟨b, 0, none⟩)])) := fun W hb => ⟨(three_of_blockD (block_below Tw.out hb)).1.1, (three_of_blockD (block_below Tw.out hb)).1.2.2⟩
      have D0 : Hid (Below wr.heap.size wr wr.drew) := Below.drew (Below.refl _ _)
      have HCb : Hid (wr.drew.heap[b]? = some (.cells #[.int .i64 (n : Int), .slice A E.length c] 39 (0, 0))) := block_below Tbw.out D0.out
      have HEr : Hid (RdZ wr.drew wr.drew.heap.size A c E) := HE0.out _ (HB0.out.trans (HW.out.drew.mono HB0.out.size))
      have c2d : wr.drew.cell? ⟨w.heap.size, 2, none⟩ = some (.func (.func 92) #[] #[.pointer (some ⟨b, 0, none⟩)]) := (HKc.out _ D0.out).2
      by_cases e : z % n = 0
      · have hN : Hid (s3 n D u = x + 2 * kron D (u : Int)) := by show _ = _; rw [hs, hr, decide_eq_true e, if_pos rfl]
        rw [e] at hmod htm
        have HTw3 := Lib.hid (HTw2.out (by rw [hr]; exact decide_eq_true e))
        clear hs hr e HTw2
        generalize kron D (u : Int) = K at *
        have hK1 : -1 ≤ K := hkb.1
        have hK2 : K ≤ 1 := hkb.2
        clear hkb
        go_upto_region 5 with fail
        go_region_held3 (fun w' => w'.cell? ⟨w.heap.size, 0, none⟩ = some (.int .i64 (n : Nat)))
          (with_reducible first | exact (HKc.out _ D0.out).1 | fail)
          (first
            | (go_at_call 76; ((with_reducible refine (HPo2.out _).mono ?_); rintro e w3 ⟨rfl, rfl⟩))
            | fail)
        go_wp2_with (first
          | (go_at_call 92; ((with_reducible refine (HTw3.out _ HCb.out HEr.out).mono ?_); rintro e w3 ⟨rfl, hb3⟩; have HW3 := Lib.hid (HW.out.drew.trans (hb3.mono HW.out.drew.size)); clear hb3))
          | fail)
        go_roundw
        case rel => exact ⟨u, by go_num, by rw [hN.out], by have := HU.out; omega, HW3.out⟩
        case measure => have := HU.out; simp [intOf]; omega
      · have hN : Hid (s3 n D u = x) := by show _ = _; rw [hs, hr, decide_eq_false e, if_neg (by decide)]
        have hne : (((z % n : Nat) : Int) == 0) = false := by rw [beq_eq_false_iff_ne]; omega
        have hwr : IntKind.i64.wrap ((z % n : Nat) : Int) = ((z % n : Nat) : Int) := IntWalk.i64_in _ (by have := Nat.mod_le z n; omega)
        clear hs hr e hkb
        generalize z % n = r at *
        go_upto_region 5 with fail
        go_region_held3 (fun w' => w'.cell? ⟨w.heap.size, 0, none⟩ = some (.int .i64 (n : Nat)))
          (with_reducible first | exact (HKc.out _ D0.out).1 | fail)
          (first
            | (go_at_call 76; ((with_reducible refine (HPo2.out _).mono ?_); rintro e w3 ⟨rfl, rfl⟩))
            | fail)
        go_wp2
        go_roundw
        case rel => exact ⟨u, by go_num, by rw [hN.out], by have := HU.out; omega, HW.out.drew⟩
        case measure => have := HU.out; simp [intOf]; omega
    · obtain rfl : t = n := by omega
      have hk3 : ¬ (((t + 1 : Nat)) : Int) ≤ (t : Int) := by omega
      go_wp2
      go_ret
      exact ⟨rfl, HB0.out.trans (HW.out.mono HB0.out.size)⟩
set_option maxHeartbeats 3200000 in
set_option maxRecDepth 1000000 in
theorem gcusp_any (n k : Nat) (D : Int) (E : List Int) (A : Option Addr) (c b : Nat) (w : World) (hq : GQ n D E) (k1 : 2 ≤ (k : Int)) (k2 : (k : Int) ≤ 24) (hE : RdZ w w.heap.size A c E) (hc : w.heap[b]? = some (.cells #[.int .i64 (n : Int), .slice A E.length c] 39 (0, 0))) :
    Calls Try.prog 40 #[chW n D b, .int .i64 (k : Int)] w fun e w' => e = .returned (.int .i64 (cpV n k D)) ∧ Below w.heap.size w w' := by
  have h := hq.ld
  have HE0 : Hid (∀ W, Below w.heap.size w W → RdZ W W.heap.size A c E) := fun W hW => (hE.below hW).mono hW.size
  have n1 := h.n1
  have n2 : (n : Int) ≤ 120 := by have := h.n2; omega
  have d1 := h.d1
  have d2 := h.d2
  have HPs := Lib.hid (fun W => psi_any n W n1 n2)
  have HL := Lib.hid (fun v W => lam_any n D v W h)
  have HX := Lib.hid (fun v W => exc_any n k D.natAbs v W k2 (by omega))
  have HF4 := Lib.hid (fun W => f4_any k W k2)
  have HF3 := Lib.hid (fun W => f3_any k W k2)
  have HS4 := Lib.hid (fun (W : World) (hW : W.heap[b]? = some (.cells #[.int .i64 (n : Int), .slice A E.length c] 39 (0, 0))) (hE : RdZ W W.heap.size A c E) => gsum4_any n D E A c b W hq hE hW)
  have HS3 := Lib.hid (fun (W : World) (hW : W.heap[b]? = some (.cells #[.int .i64 (n : Int), .slice A E.length c] 39 (0, 0))) (hE : RdZ W W.heap.size A c E) => gsum3_any n D E A c b W hq hE hW)
  have hps := psV_le n1 h.n2
  have hla := lamP_le h
  have hex := exK_bd k D.natAbs
  have h4 := s4_bd n D n
  have h3 := s3_bd n D n
  have hf4 := f4K_bd k
  have hf3 := f3K_bd k
  have HV : Hid (cpV n k D = (2 * ((k : Int) - 1) * (psV n : Int) - 12 * (lamP n D.natAbs : Int) + 24 * exK k D.natAbs + f4K k * s4 n D n + f3K k * s3 n D n).tdiv 24) := rfl
  clear h hq hE
  unfold chW at *
  generalize D.natAbs = m at *
  generalize psV n = ps at *
  generalize lamP n m = la at *
  generalize exK k m = ex at *
  generalize s4 n D n = x4 at *
  generalize s3 n D n = x3 at *
  generalize f4K k = a4 at *
  generalize f3K k = a3 at *
  generalize cpV n k D = V at *
  obtain ⟨z1, hz1⟩ : ∃ z, z = 2 * ((k : Int) - 1) * (ps : Int) := ⟨_, rfl⟩
  obtain ⟨z4, hz4⟩ : ∃ z, z = a4 * x4 := ⟨_, rfl⟩
  obtain ⟨z3, hz3⟩ : ∃ z, z = a3 * x3 := ⟨_, rfl⟩
  have b1 : 0 ≤ z1 ∧ z1 ≤ 46000 := by
    rw [hz1]
    constructor
    · exact Int.mul_nonneg (by omega) (by omega)
    · have := Int.mul_le_mul (show 2 * ((k : Int) - 1) ≤ 46 by omega) (show (ps : Int) ≤ 1000 by omega) (by omega) (by omega)
      omega
  have b4 : -10000 ≤ z4 ∧ z4 ≤ 10000 := by rcases hf4 with r | r | r <;> rw [hz4, r] <;> omega
  have b3 : -10000 ≤ z3 ∧ z3 ≤ 10000 := by rcases hf3 with r | r | r <;> rw [hz3, r] <;> omega
  rw [← hz1, ← hz4, ← hz3] at HV
  have e1 : 2 * ((k : Int) - 1) * (ps : Int) = z1 := hz1.symm
  have e4 : a4 * x4 = z4 := hz4.symm
  have e3 : a3 * x3 = z3 := hz3.symm
  have wk : IntKind.i64.wrap ((k : Int) - 1) = (k : Int) - 1 := IntWalk.i64_in _ (by omega)
  have w2k : IntKind.i64.wrap (2 * ((k : Int) - 1)) = 2 * ((k : Int) - 1) := IntWalk.i64_in _ (by omega)
  have wz1 : IntKind.i64.wrap z1 = z1 := IntWalk.i64_in _ (by omega)
  have wla : IntKind.i64.wrap (12 * (la : Int)) = 12 * (la : Int) := IntWalk.i64_in _ (by omega)
  have wzl : IntKind.i64.wrap (z1 - 12 * (la : Int)) = z1 - 12 * (la : Int) := IntWalk.i64_in _ (by omega)
  have wex : IntKind.i64.wrap (24 * ex) = 24 * ex := IntWalk.i64_in _ (by omega)
  obtain ⟨t1, ht1⟩ : ∃ t, t = z1 - 12 * (la : Int) + 24 * ex := ⟨_, rfl⟩
  have et1 : z1 - 12 * (la : Int) + 24 * ex = t1 := ht1.symm
  have wt1 : IntKind.i64.wrap t1 = t1 := IntWalk.i64_in _ (by omega)
  have wz4 : IntKind.i64.wrap z4 = z4 := IntWalk.i64_in _ (by omega)
  have wz3 : IntKind.i64.wrap z3 = z3 := IntWalk.i64_in _ (by omega)
  obtain ⟨t2, ht2⟩ : ∃ t, t = t1 + z4 := ⟨_, rfl⟩
  have et2 : t1 + z4 = t2 := ht2.symm
  have wt2 : IntKind.i64.wrap t2 = t2 := IntWalk.i64_in _ (by omega)
  obtain ⟨t3, ht3⟩ : ∃ t, t = t2 + z3 := ⟨_, rfl⟩
  have et3 : t2 + z3 = t3 := ht3.symm
  have wt3 : IntKind.i64.wrap t3 = t3 := IntWalk.i64_in _ (by omega)
  rw [et1, et2, et3] at HV
  have bt1 : -100000 ≤ t3 := by omega
  have bt2 : t3 ≤ 100000 := by omega
  clear hz1 hz4 hz3 ht1 ht2 ht3 b1 b4 b3 hf4 hf3 h4 h3 hex hla hps
  have T0 : Hid ((w.alloc (.cells #[.int .i64 (n : Int), .int .i64 (m : Nat), .func (.func 92) #[] #[.pointer (some ⟨b, 0, none⟩)]] 51)).heap[w.heap.size]? = some (.cells #[.int .i64 (n : Int), .int .i64 (m : Nat), .func (.func 92) #[] #[.pointer (some ⟨b, 0, none⟩)]] 51 (0, 0))) := heap_alloc_new w _
  have Tb0 : Hid ((w.alloc (.cells #[.int .i64 (n : Int), .int .i64 (m : Nat), .func (.func 92) #[] #[.pointer (some ⟨b, 0, none⟩)]] 51)).heap[b]? = some (.cells #[.int .i64 (n : Int), .slice A E.length c] 39 (0, 0))) := block_alloc hc _
  have HB0 : Hid (Below w.heap.size w (w.alloc (.cells #[.int .i64 (n : Int), .int .i64 (m : Nat), .func (.func 92) #[] #[.pointer (some ⟨b, 0, none⟩)]] 51))) := below1 w _
  obtain ⟨⟨c0, c1, c2⟩, _⟩ := three_of_blockD T0.out
  clear hc
  go_enter Try.func40, Try.ntmps40
  go_upto_region 2 with (first
    | (go_at_call 36; ((with_reducible refine (HPs.out _).mono ?_); rintro e v1 ⟨rfl, hb⟩; have HB1 := Lib.hid (bel0 HB0.out hb).drew; have T1 : Hid (v1.drew.heap[w.heap.size]? = some (.cells #[.int .i64 (n : Int), .int .i64 (m : Nat), .func (.func 92) #[] #[.pointer (some ⟨b, 0, none⟩)]] 51 (0, 0))) := block_below T0.out hb.drew; have Tb1 : Hid (v1.drew.heap[b]? = some (.cells #[.int .i64 (n : Int), .slice A E.length c] 39 (0, 0))) := block_below Tb0.out hb.drew; clear hb c0 c1 c2))
    | fail)
  go_region_held3 (fun w' => w'.cell? ⟨w.heap.size, 0, none⟩ = some (.int .i64 (n : Int)) ∧ w'.cell? ⟨w.heap.size, 1, none⟩ = some (.int .i64 (m : Nat)) ∧ w'.cell? ⟨w.heap.size, 2, none⟩ = some (.func (.func 92) #[] #[.pointer (some ⟨b, 0, none⟩)]))
    (with_reducible first | exact (three_of_blockD T3.out).1 | exact (three_of_blockD T2.out).1 | exact (three_of_blockD T1.out).1 | fail)
    (first
      | (go_at_call 70; ((with_reducible refine (HL.out _ _).mono ?_); rintro e v2 ⟨rfl, hb⟩; have HB2 := Lib.hid (bel0 HB1.out hb); have T2 := Lib.hid (block_below T1.out hb); have Tb2 := Lib.hid (block_below Tb1.out hb); clear hb))
      | (go_at_call 71; ((with_reducible refine (HX.out _ _).mono ?_); rintro e v3 ⟨rfl, hb⟩; have HB3 := Lib.hid (bel0 HB2.out hb); have T3 := Lib.hid (block_below T2.out hb); have Tb3 := Lib.hid (block_below Tb2.out hb); clear hb))
      | fail)
  go_upto_region 3 with fail
  have HB4 := Lib.hid HB3.out.drew
  have T4 : Hid (v3.drew.heap[w.heap.size]? = some (.cells #[.int .i64 (n : Int), .int .i64 (m : Nat), .func (.func 92) #[] #[.pointer (some ⟨b, 0, none⟩)]] 51 (0, 0))) := T3.out
  have Tb4 : Hid (v3.drew.heap[b]? = some (.cells #[.int .i64 (n : Int), .slice A E.length c] 39 (0, 0))) := Tb3.out
  go_region_held3 (fun w' => w'.cell? ⟨w.heap.size, 0, none⟩ = some (.int .i64 (n : Int)) ∧ w'.cell? ⟨w.heap.size, 1, none⟩ = some (.int .i64 (m : Nat)) ∧ w'.cell? ⟨w.heap.size, 2, none⟩ = some (.func (.func 92) #[] #[.pointer (some ⟨b, 0, none⟩)]))
    (with_reducible first | exact (three_of_blockD T5.out).1 | exact (three_of_blockD T4.out).1 | fail)
    (first
      | (go_at_call 72; ((with_reducible refine (HF4.out _).mono ?_); rintro e v5 ⟨rfl, rfl⟩))
      | (go_at_call 73; ((with_reducible refine (HS4.out _ Tb4.out (HE0.out _ HB4.out)).mono ?_); rintro e v5 ⟨rfl, hb⟩; have HB5 := Lib.hid (bel0 HB4.out hb); have T5 := Lib.hid (block_below T4.out hb); have Tb5 := Lib.hid (block_below Tb4.out hb); clear hb))
      | fail)
  go_upto_region 4 with fail
  have HB6 := Lib.hid HB5.out.drew
  have T6 : Hid (v5.drew.heap[w.heap.size]? = some (.cells #[.int .i64 (n : Int), .int .i64 (m : Nat), .func (.func 92) #[] #[.pointer (some ⟨b, 0, none⟩)]] 51 (0, 0))) := T5.out
  have Tb6 : Hid (v5.drew.heap[b]? = some (.cells #[.int .i64 (n : Int), .slice A E.length c] 39 (0, 0))) := Tb5.out
  go_region_held3 (fun w' => w'.cell? ⟨w.heap.size, 0, none⟩ = some (.int .i64 (n : Int)) ∧ w'.cell? ⟨w.heap.size, 1, none⟩ = some (.int .i64 (m : Nat)) ∧ w'.cell? ⟨w.heap.size, 2, none⟩ = some (.func (.func 92) #[] #[.pointer (some ⟨b, 0, none⟩)]))
    (with_reducible first | exact (three_of_blockD T7.out).1 | exact (three_of_blockD T6.out).1 | fail)
    (first
      | (go_at_call 75; ((with_reducible refine (HF3.out _).mono ?_); rintro e v7 ⟨rfl, rfl⟩))
      | (go_at_call 73; ((with_reducible refine (HS3.out _ Tb6.out (HE0.out _ HB6.out)).mono ?_); rintro e v7 ⟨rfl, hb⟩; have HB7 := Lib.hid (bel0 HB6.out hb); have T7 := Lib.hid (block_below T6.out hb); clear hb))
      | fail)
  go_wp2
  go_ret
  exact ⟨by first | (rw [HV.out]; done) | (rw [HV.out]; rfl), HB7.out⟩
set_option maxHeartbeats 3200000 in
set_option maxRecDepth 1000000 in
theorem geis_any (n k : Nat) (D : Int) (b : Nat) (w : World) (h : LD n D) (k1 : 2 ≤ (k : Int)) (k2 : (k : Int) ≤ 24) :
    Calls Try.prog 41 #[chW n D b, .int .i64 (k : Int)] w fun e w' => e = .returned (.int .i64 (eiV n k D)) ∧ Below w.heap.size w w' := by
  have HL := Lib.hid (fun v W => lam_any n D v W h)
  have HX := Lib.hid (fun v W => exc_any n k D.natAbs v W k2 (by have := h.d1; have := h.d2; omega))
  have hla := lamP_le h
  have hex := exK_bd k D.natAbs
  have HV : Hid (eiV n k D = (lamP n D.natAbs : Int) - exK k D.natAbs) := rfl
  clear h
  unfold chW at *
  generalize D.natAbs = m at *
  generalize lamP n m = la at *
  generalize exK k m = ex at *
  generalize eiV n k D = V at *
  have wex : IntKind.i64.wrap ((la : Int) - ex) = (la : Int) - ex := IntWalk.i64_in _ (by omega)
  have T1 : Hid ((w.alloc (.cells #[.int .i64 (n : Int), .int .i64 (m : Nat), .func (.func 92) #[] #[.pointer (some ⟨b, 0, none⟩)]] 51)).drew.heap[w.heap.size]? = some (.cells #[.int .i64 (n : Int), .int .i64 (m : Nat), .func (.func 92) #[] #[.pointer (some ⟨b, 0, none⟩)]] 51 (0, 0))) := heap_alloc_new w _
  have HB1 : Hid (Below w.heap.size w (w.alloc (.cells #[.int .i64 (n : Int), .int .i64 (m : Nat), .func (.func 92) #[] #[.pointer (some ⟨b, 0, none⟩)]] 51)).drew) := (below1 w _).drew
  go_enter Try.func41, Try.ntmps41
  go_upto_region 1 with fail
  go_region_held3 (fun w' => w'.cell? ⟨w.heap.size, 0, none⟩ = some (.int .i64 (n : Int)) ∧ w'.cell? ⟨w.heap.size, 1, none⟩ = some (.int .i64 (m : Nat)) ∧ w'.cell? ⟨w.heap.size, 2, none⟩ = some (.func (.func 92) #[] #[.pointer (some ⟨b, 0, none⟩)]))
    (with_reducible first | exact (three_of_blockD T3.out).1 | exact (three_of_blockD T2.out).1 | exact (three_of_blockD T1.out).1 | fail)
    (first
      | (go_at_call 70; ((with_reducible refine (HL.out _ _).mono ?_); rintro e v2 ⟨rfl, hb⟩; have HB2 := Lib.hid (bel0 HB1.out hb); have T2 := Lib.hid (block_below T1.out hb); clear hb))
      | (go_at_call 71; ((with_reducible refine (HX.out _ _).mono ?_); rintro e v3 ⟨rfl, hb⟩; have HB3 := Lib.hid (bel0 HB2.out hb); have T3 := Lib.hid (block_below T2.out hb); clear hb))
      | fail)
  go_wp2
  go_ret
  exact ⟨by first | (rw [HV.out]; done) | (rw [HV.out]; rfl), HB3.out⟩
set_option maxHeartbeats 3200000 in
set_option maxRecDepth 1000000 in
theorem gmod_any (n k : Nat) (D : Int) (E : List Int) (A : Option Addr) (c b : Nat) (w : World) (hq : GQ n D E) (k1 : 2 ≤ (k : Int)) (k2 : (k : Int) ≤ 24) (hE : RdZ w w.heap.size A c E) (hc : w.heap[b]? = some (.cells #[.int .i64 (n : Int), .slice A E.length c] 39 (0, 0))) :
    Calls Try.prog 42 #[chW n D b, .int .i64 (k : Int)] w fun e w' => e = .returned (.int .i64 (cpV n k D + eiV n k D)) ∧ Below w.heap.size w w' := by
  have h := hq.ld
  have HE0 : Hid (∀ W, Below w.heap.size w W → RdZ W W.heap.size A c E) := fun W hW => (hE.below hW).mono hW.size
  have HL := Lib.hid (fun (W : World) (hW : W.heap[b]? = some (.cells #[.int .i64 (n : Int), .slice A E.length c] 39 (0, 0))) (hE : RdZ W W.heap.size A c E) => gcusp_any n k D E A c b W hq k1 k2 hE hW)
  have HX := Lib.hid (fun W => geis_any n k D b W h k1 k2)
  have hla := cp_bd (k := k) h (by omega) (by omega)
  have hex := ei_bd (k := k) h
  clear h hq hE
  unfold chW at *
  generalize D.natAbs = m at *
  generalize cpV n k D = la at *
  generalize eiV n k D = ex at *
  have wex : IntKind.i64.wrap (la + ex) = la + ex := IntWalk.i64_in _ (by omega)
  have T1 : Hid ((w.alloc (.cells #[.int .i64 (n : Int), .int .i64 (m : Nat), .func (.func 92) #[] #[.pointer (some ⟨b, 0, none⟩)]] 51)).drew.heap[w.heap.size]? = some (.cells #[.int .i64 (n : Int), .int .i64 (m : Nat), .func (.func 92) #[] #[.pointer (some ⟨b, 0, none⟩)]] 51 (0, 0))) := heap_alloc_new w _
  have Tb1 : Hid ((w.alloc (.cells #[.int .i64 (n : Int), .int .i64 (m : Nat), .func (.func 92) #[] #[.pointer (some ⟨b, 0, none⟩)]] 51)).drew.heap[b]? = some (.cells #[.int .i64 (n : Int), .slice A E.length c] 39 (0, 0))) := block_alloc hc _
  have HB1 : Hid (Below w.heap.size w (w.alloc (.cells #[.int .i64 (n : Int), .int .i64 (m : Nat), .func (.func 92) #[] #[.pointer (some ⟨b, 0, none⟩)]] 51)).drew) := (below1 w _).drew
  clear hc
  go_enter Try.func42, Try.ntmps42
  go_upto_region 1 with fail
  go_region_held3 (fun w' => w'.cell? ⟨w.heap.size, 0, none⟩ = some (.int .i64 (n : Int)) ∧ w'.cell? ⟨w.heap.size, 1, none⟩ = some (.int .i64 (m : Nat)) ∧ w'.cell? ⟨w.heap.size, 2, none⟩ = some (.func (.func 92) #[] #[.pointer (some ⟨b, 0, none⟩)]))
    (with_reducible first | exact (three_of_blockD T3.out).1 | exact (three_of_blockD T2.out).1 | exact (three_of_blockD T1.out).1 | fail)
    (first
      | (go_at_call 40; ((with_reducible refine (HL.out _ Tb1.out (HE0.out _ HB1.out)).mono ?_); rintro e v2 ⟨rfl, hb⟩; have HB2 := Lib.hid (bel0 HB1.out hb); have T2 := Lib.hid (block_below T1.out hb); clear hb))
      | (go_at_call 41; ((with_reducible refine (HX.out _).mono ?_); rintro e v3 ⟨rfl, hb⟩; have HB3 := Lib.hid (bel0 HB2.out hb); have T3 := Lib.hid (block_below T2.out hb); clear hb))
      | fail)
  go_wp2
  go_ret
  exact ⟨rfl, HB3.out⟩
end Go.Proofs.Ytaofkfphkkfbnaa
namespace Go.Proofs.Ytaofkfphkkfbnaa
open Go.RowKit
set_option linter.unusedVariables false
set_option linter.unusedSimpArgs false

/-- What else is known of the character: its conductor and its value at -1. -/
structure GR (n : Nat) (D : Int) (E : List Int) : Prop where
  q : GQ n D E
  d1 : 1 ≤ D.natAbs
  d2 : D.natAbs ≤ 60
  pd : pdV (tbV n E) D.natAbs = true
  np : ∀ f, 1 ≤ f → f < D.natAbs → pdV (tbV n E) f = false
  ev : rouN ((tbV n E).getD (-1 % (n : Int)).toNat 0) (tbM (gensV n)) = 0 ↔ 0 < D
set_option maxHeartbeats 1600000 in
set_option maxRecDepth 1000000 in
theorem gen_any (n : Nat) (D : Int) (E : List Int) (A : Option Addr) (c : Nat) (w : World) (h : GR n D E) (hE : RdZ w w.heap.size A c E) :
    Calls Try.prog 62 #[.agg #[.int .i64 (n : Int), .slice A E.length c]] w fun e w' => e = .returned (chW n D w.heap.size) ∧ Below w.heap.size w w' ∧ w'.heap[w.heap.size]? = some (.cells #[.int .i64 (n : Int), .slice A E.length c] 39 (0, 0)) := by
  have hmf : ∀ (fn : Fn) (first cap : Array Value) (w : World), (Instr.makeFunc fn first cap).run Try.prog w = .ok (.func fn first cap) w := fun _ _ _ _ => rfl
  have hsf : ∀ (a : Addr) (fn : Fn) (first cap : Array Value) (m : Mode) (w : World), (store a (.func fn first cap) m).run Try.prog w = stored Try.prog w a (.func fn first cap) m := fun a fn first cap m w => run_store Try.prog w a _ m rfl
  have HCo := Lib.hid (fun (W : World) (hW : RdZ W W.heap.size A c E) => dcond_any n D.natAbs E A c W h.q.n1 (by have := h.q.n2; omega) hW h.q.ck h.d1 (by have := h.d2; omega) h.pd h.np)
  have HE0 : Hid (∀ W, Below w.heap.size w W → RdZ W W.heap.size A c E) := fun W hW => (hE.below hW).mono hW.size
  clear h hE
  unfold chW
  generalize D.natAbs = m at *
  go_enter Try.func62, Try.ntmps62
  have X0 : Hid (((w.alloc (.cells #[.int .i64 (n : Int), .slice A E.length c] 39)).alloc (.cells #[.int .i64 0, .int .i64 0, .nilFunc] 51)).heap[w.heap.size]? = some (.cells #[.int .i64 (n : Int), .slice A E.length c] 39 (0, 0))) := block_alloc (heap_alloc_new w _) _
  have R0 : Hid (((w.alloc (.cells #[.int .i64 (n : Int), .slice A E.length c] 39)).alloc (.cells #[.int .i64 0, .int .i64 0, .nilFunc] 51)).heap[w.heap.size + 1]? = some (.cells #[.int .i64 0, .int .i64 0, .nilFunc] 51 (0, 0))) := by
    have := heap_alloc_new (w.alloc (.cells #[.int .i64 (n : Int), .slice A E.length c] 39)) (.cells #[.int .i64 0, .int .i64 0, .nilFunc] 51)
    show _ = _; simpa using this
  have B0 : Hid (Below w.heap.size w ((w.alloc (.cells #[.int .i64 (n : Int), .slice A E.length c] 39)).alloc (.cells #[.int .i64 0, .int .i64 0, .nilFunc] 51))) := below2 w _ _
  obtain ⟨x0, x1, _⟩ := cells_two X0.out
  go_upto_region 2 with (first
    | (go_at_call 91; ((with_reducible refine (HCo.out _ (HE0.out _ B0.out)).mono ?_); rintro e w1 ⟨rfl, hb⟩; have X1 := Lib.hid (block_below X0.out hb); have R1 := Lib.hid (block_below R0.out hb); have B1 := Lib.hid (B0.out.trans (hb.mono B0.out.size)); obtain ⟨y0, y1, _⟩ := cells_two X1.out; clear hb x0 x1))
    | fail)
  obtain ⟨⟨r0, r1, r2⟩, rf⟩ := three_of_blockD R1.out
  have R2 := Lib.hid (three_setV R1.out (.int .i64 (n : Int)) (.int .i64 (m : Int)) (.func (.func 92) #[] #[.pointer (some ⟨w.heap.size, 0, none⟩)]))
  obtain ⟨⟨s0, s1, s2⟩, sf⟩ := three_of_blockD R2.out
  have X2 : Hid ((((w1.setCell ⟨w.heap.size + 1, 0, none⟩ (.int .i64 (n : Int))).setCell ⟨w.heap.size + 1, 1, none⟩ (.int .i64 (m : Int))).setCell ⟨w.heap.size + 1, 2, none⟩ (.func (.func 92) #[] #[.pointer (some ⟨w.heap.size, 0, none⟩)])).heap[w.heap.size]? = some (.cells #[.int .i64 (n : Int), .slice A E.length c] 39 (0, 0))) :=
    (Below.heap_setCell _ _ _ _ (by show w.heap.size ≠ w.heap.size + 1; omega)).trans ((Below.heap_setCell _ _ _ _ (by show w.heap.size ≠ w.heap.size + 1; omega)).trans ((Below.heap_setCell _ _ _ _ (by show w.heap.size ≠ w.heap.size + 1; omega)).trans X1.out))
  have B2 := Lib.hid (((B1.out.setCell (p := ⟨w.heap.size + 1, 0, none⟩) (by show w.heap.size ≤ w.heap.size + 1; omega) (.int .i64 (n : Int))).setCell (p := ⟨w.heap.size + 1, 1, none⟩) (by show w.heap.size ≤ w.heap.size + 1; omega) (.int .i64 (m : Int))).setCell (p := ⟨w.heap.size + 1, 2, none⟩) (by show w.heap.size ≤ w.heap.size + 1; omega) (.func (.func 92) #[] #[.pointer (some ⟨w.heap.size, 0, none⟩)]))
  go_wp2
  refine bodyPost_ret (v := .agg #[.int .i64 (n : Int), .int .i64 (m : Int), .func (.func 92) #[] #[.pointer (some ⟨w.heap.size, 0, none⟩)]]) ?_ rfl ⟨rfl, B2.out, X2.out⟩
  simp [results, Try.results62, go_sem, s0, s1, s2]
set_option maxHeartbeats 1600000 in
set_option maxRecDepth 1000000 in
theorem chkc_any (n k : Nat) (D : Int) (E : List Int) (A : Option Addr) (c : Nat) (w : World) (h : GR n D E) (k1 : 2 ≤ (k : Int)) (k2 : (k : Int) ≤ 24) (hp : 0 < D ↔ k % 2 = 0) (hE : RdZ w w.heap.size A c E) :
    Calls Try.prog 61 #[.int .i64 (k : Int), .agg #[.int .i64 (n : Int), .slice A E.length c]] w fun e w' => e = .returned (.int .i64 0) ∧ Below w.heap.size w w' := by
  have HW := Lib.hid (fun W => isw_any (k : Int) W)
  rw [decide_eq_true ⟨k1, k2⟩] at HW
  have X0 : Hid ((w.alloc (.cells #[.int .i64 (n : Int), .slice A E.length c] 39)).heap[w.heap.size]? = some (.cells #[.int .i64 (n : Int), .slice A E.length c] 39 (0, 0))) := heap_alloc_new w _
  have B0 : Hid (Below w.heap.size w (w.alloc (.cells #[.int .i64 (n : Int), .slice A E.length c] 39))) := below1 w _
  obtain ⟨x0, x1, _⟩ := cells_two X0.out
  have HEv := Lib.hid (deven_any n E A c (w.alloc (.cells #[.int .i64 (n : Int), .slice A E.length c] 39)) h.q.n1 (by have := h.q.n2; omega) ((hE.below B0.out).mono B0.out.size) h.q.ck)
  have hz : decide (rouN ((tbV n E).getD (-1 % (n : Int)).toNat 0) (tbM (gensV n)) = 0) = decide (k % 2 = 0) := by
    rw [decide_eq_decide]; exact h.ev.trans hp
  rw [hz] at HEv
  clear hz h hE
  have htm : Int.tmod (k : Int) 2 = ((k % 2 : Nat) : Int) := (Int.ofNat_tmod k 2).symm
  have hem : (k : Int) % 2 = ((k % 2 : Nat) : Int) := (Int.natCast_emod k 2).symm
  have hk2 : k % 2 < 2 := Nat.mod_lt _ (by omega)
  clear hp
  by_cases hk : k % 2 = 0
  · rw [decide_eq_true hk] at HEv
    rw [hk] at htm hem
    clear hk hk2
    go_enter Try.func61, Try.ntmps61
    go_wp2_with (first
      | (go_at_call 37; ((with_reducible refine (HW.out _).mono ?_); rintro e w1 ⟨rfl, rfl⟩))
      | (go_at_call 90; ((with_reducible refine HEv.out.mono ?_); rintro e w2 ⟨rfl, hb⟩; have B2 := Lib.hid (B0.out.trans (hb.mono B0.out.size)); clear hb x0 x1))
      | fail)
    go_ret
    exact ⟨rfl, B2.out⟩
  · rw [decide_eq_false hk] at HEv
    have hk1 : k % 2 = 1 := by omega
    rw [hk1] at htm hem
    clear hk hk2 hk1
    go_enter Try.func61, Try.ntmps61
    go_wp2_with (first
      | (go_at_call 37; ((with_reducible refine (HW.out _).mono ?_); rintro e w1 ⟨rfl, rfl⟩))
      | (go_at_call 90; ((with_reducible refine HEv.out.mono ?_); rintro e w2 ⟨rfl, hb⟩; have B2 := Lib.hid (B0.out.trans (hb.mono B0.out.size)); clear hb x0 x1))
      | fail)
    go_ret
    exact ⟨rfl, B2.out⟩
set_option maxHeartbeats 1600000 in
set_option maxRecDepth 1000000 in
theorem cuspc_any (n k : Nat) (D : Int) (E : List Int) (A : Option Addr) (c : Nat) (w : World) (h : GR n D E) (k1 : 2 ≤ (k : Int)) (k2 : (k : Int) ≤ 24) (hp : 0 < D ↔ k % 2 = 0) (hE : RdZ w w.heap.size A c E) :
    Calls Try.prog 27 #[.int .i64 (k : Int), .agg #[.int .i64 (n : Int), .slice A E.length c]] w fun e w' => e = .returned (.tuple #[.int .i64 (cpV n k D), .int .i64 0]) ∧ Below w.heap.size w w' := by
  have HCk := Lib.hid (fun (W : World) (hW : RdZ W W.heap.size A c E) => chkc_any n k D E A c W h k1 k2 hp hW)
  have HGe := Lib.hid (fun (W : World) (hW : RdZ W W.heap.size A c E) => gen_any n D E A c W h hW)
  have HCu := Lib.hid (fun (b : Nat) (W : World) (hW : RdZ W W.heap.size A c E) (hb : W.heap[b]? = some (.cells #[.int .i64 (n : Int), .slice A E.length c] 39 (0, 0))) => gcusp_any n k D E A c b W h.q k1 k2 hW hb)
  have X0 : Hid ((w.alloc (.cells #[.int .i64 (n : Int), .slice A E.length c] 39)).heap[w.heap.size]? = some (.cells #[.int .i64 (n : Int), .slice A E.length c] 39 (0, 0))) := heap_alloc_new w _
  have B0 : Hid (Below w.heap.size w (w.alloc (.cells #[.int .i64 (n : Int), .slice A E.length c] 39))) := below1 w _
  have HE0 : Hid (∀ W, Below w.heap.size w W → RdZ W W.heap.size A c E) := fun W hW => (hE.below hW).mono hW.size
  obtain ⟨x0, x1, _⟩ := cells_two X0.out
  clear h hE hp
  go_enter Try.func27, Try.ntmps27
  go_wp2_with (first
    | (go_at_call 61; ((with_reducible refine (HCk.out _ (HE0.out _ B0.out)).mono ?_); rintro e w1 ⟨rfl, hb⟩; have X1 := Lib.hid (block_below X0.out hb); have B1 := Lib.hid (B0.out.trans (hb.mono B0.out.size)); obtain ⟨y0, y1, _⟩ := cells_two X1.out; clear hb x0 x1))
    | (go_at_call 62; ((with_reducible refine (HGe.out _ (HE0.out _ B1.out)).mono ?_); rintro e w2 ⟨rfl, hb, hc⟩; have HC2 := Lib.hid hc; have B2 := Lib.hid (B1.out.trans (hb.mono B1.out.size)); clear hb hc))
    | (go_at_call 40; ((with_reducible refine (HCu.out _ _ (HE0.out _ B2.out) HC2.out).mono ?_); rintro e w3 ⟨rfl, hb⟩; have B3 := Lib.hid (B2.out.trans (hb.mono B2.out.size)); clear hb))
    | fail)
  exact bodyPost_ret (results_tmp2 rfl _ _ _) rfl ⟨rfl, B3.out⟩
set_option maxHeartbeats 1600000 in
set_option maxRecDepth 1000000 in
theorem modc_any (n k : Nat) (D : Int) (E : List Int) (A : Option Addr) (c : Nat) (w : World) (h : GR n D E) (k1 : 2 ≤ (k : Int)) (k2 : (k : Int) ≤ 24) (hp : 0 < D ↔ k % 2 = 0) (hE : RdZ w w.heap.size A c E) :
    Calls Try.prog 28 #[.int .i64 (k : Int), .agg #[.int .i64 (n : Int), .slice A E.length c]] w fun e w' => e = .returned (.tuple #[.int .i64 (cpV n k D + eiV n k D), .int .i64 0]) ∧ Below w.heap.size w w' := by
  have HCk := Lib.hid (fun (W : World) (hW : RdZ W W.heap.size A c E) => chkc_any n k D E A c W h k1 k2 hp hW)
  have HGe := Lib.hid (fun (W : World) (hW : RdZ W W.heap.size A c E) => gen_any n D E A c W h hW)
  have HCu := Lib.hid (fun (b : Nat) (W : World) (hW : RdZ W W.heap.size A c E) (hb : W.heap[b]? = some (.cells #[.int .i64 (n : Int), .slice A E.length c] 39 (0, 0))) => gmod_any n k D E A c b W h.q k1 k2 hW hb)
  have X0 : Hid ((w.alloc (.cells #[.int .i64 (n : Int), .slice A E.length c] 39)).heap[w.heap.size]? = some (.cells #[.int .i64 (n : Int), .slice A E.length c] 39 (0, 0))) := heap_alloc_new w _
  have B0 : Hid (Below w.heap.size w (w.alloc (.cells #[.int .i64 (n : Int), .slice A E.length c] 39))) := below1 w _
  have HE0 : Hid (∀ W, Below w.heap.size w W → RdZ W W.heap.size A c E) := fun W hW => (hE.below hW).mono hW.size
  obtain ⟨x0, x1, _⟩ := cells_two X0.out
  clear h hE hp
  go_enter Try.func28, Try.ntmps28
  go_wp2_with (first
    | (go_at_call 61; ((with_reducible refine (HCk.out _ (HE0.out _ B0.out)).mono ?_); rintro e w1 ⟨rfl, hb⟩; have X1 := Lib.hid (block_below X0.out hb); have B1 := Lib.hid (B0.out.trans (hb.mono B0.out.size)); obtain ⟨y0, y1, _⟩ := cells_two X1.out; clear hb x0 x1))
    | (go_at_call 62; ((with_reducible refine (HGe.out _ (HE0.out _ B1.out)).mono ?_); rintro e w2 ⟨rfl, hb, hc⟩; have HC2 := Lib.hid hc; have B2 := Lib.hid (B1.out.trans (hb.mono B1.out.size)); clear hb hc))
    | (go_at_call 42; ((with_reducible refine (HCu.out _ _ (HE0.out _ B2.out) HC2.out).mono ?_); rintro e w3 ⟨rfl, hb⟩; have B3 := Lib.hid (B2.out.trans (hb.mono B2.out.size)); clear hb))
    | fail)
  exact bodyPost_ret (results_tmp2 rfl _ _ _) rfl ⟨rfl, B3.out⟩
end Go.Proofs.Ytaofkfphkkfbnaa
namespace Go.Proofs.Ytaofkfphkkfbnaa
set_option linter.unusedVariables false

def grOk (D : Int) (n : Nat) : Bool :=
  let T := tbV n (exE D n)
  let M := tbM (gensV n)
  ((List.range n).all fun i => if Nat.gcd (i + 1) n = 1 then decide (twV (T.getD ((i + 1) % n) 0) M = 2 * kron D ((i + 1 : Nat) : Int)) else true) && decide (rouN (T.getD (n - 1) 0) M = 0 ↔ 0 < D)
def grB (D : Int) : Bool := (List.range 60).all fun i => if (i + 1) % D.natAbs = 0 then grOk D (i + 1) else true
set_option maxRecDepth 1000000 in
theorem gr_all : (fd6.all grB) = true := by decide +kernel
theorem gr_of {D : Int} {n : Nat} (d1 : -60 ≤ D) (d2 : D ≤ 60) (hD : D ≠ 0) (h : fdB D = true) (n1 : 1 ≤ n) (n2 : n ≤ 60) (hn : n % D.natAbs = 0) (ld : LD n D) : GR n D (exE D n) := by
  have hx := ex_of d1 d2 h n1 n2 hn
  have h1 := List.all_eq_true.1 gr_all D (fd6_mem d1 d2 h)
  have h2 := List.all_eq_true.1 h1 (n - 1) (List.mem_range.2 (by omega))
  rw [show n - 1 + 1 = n by omega, if_pos hn] at h2
  unfold grOk at h2
  simp only [Bool.and_eq_true, decide_eq_true_eq] at h2
  obtain ⟨h3, h4⟩ := h2
  refine ⟨⟨n1, n2, ld, hx.ck, fun a a1 a2 hg => ?_⟩, by omega, by omega, hx.pd, hx.np, ?_⟩
  · have h5 := List.all_eq_true.1 h3 (a - 1) (List.mem_range.2 (by omega))
    rw [show a - 1 + 1 = a by omega, if_pos hg, decide_eq_true_eq] at h5
    rw [show ((a : Int) % (n : Int)).toNat = a % n by rw [← Int.natCast_emod, Int.toNat_natCast]]
    exact h5
  · rw [show (-1 % (n : Int)).toNat = n - 1 by
      have : (-1 : Int) % (n : Int) = (n : Int) - 1 := by
        rw [show (-1 : Int) = ((n : Int) - 1) + (n : Int) * (-1) by omega, Int.add_mul_emod_self_left, Int.emod_eq_of_lt (by omega) (by omega)]
      rw [this]; omega]
    exact h4
/-- What Extend answers of the quadratic character. -/
theorem ch_ex {D : Int} {n : Nat} (d1 : -60 ≤ D) (d2 : D ≤ 60) (h : fdB D = true) : chE (tbV D.natAbs (quE D D.natAbs)) (tbM (gensV D.natAbs)) n = exE D n := by
  have hl : (tbV D.natAbs (quE D D.natAbs)).length = D.natAbs := by
    have := tab_q d1 d2 h
    unfold tbOk at this
    simp only [Bool.and_eq_true, decide_eq_true_eq] at this
    exact this.1
  unfold chE exE chX
  rw [hl]
end Go.Proofs.Ytaofkfphkkfbnaa
namespace Go.Proofs.Ytaofkfphkkfbnaa
open Go.RowKit
set_option linter.unusedVariables false
set_option linter.unusedSimpArgs false

set_option maxHeartbeats 6400000 in
set_option maxRecDepth 1000000 in
theorem dqu_walk (N W D : Int) (w : World) : Calls Try.prog 7 #[.agg #[.int .i64 N, .int .i64 W, .int .i64 D]] w fun e w' => e = .returned (.bool true) ∧ Below w.heap.size w w' := by
  have HA := Lib.hid awake_any
  by_cases h : ckV N W D = 0
  · obtain ⟨⟨n1, n2⟩, ⟨w1, w2⟩, ⟨d1, d2⟩, hf, hND, hpar, _⟩ := ckV_ok h
    obtain ⟨n, rfl⟩ : ∃ n : Nat, N = n := ⟨N.toNat, by omega⟩
    obtain ⟨k, rfl⟩ : ∃ k : Nat, W = k := ⟨W.toNat, by omega⟩
    have hl := ckV_ld h
    have H1 := Lib.hid (fun V => cusp_ok n k D V h)
    have H2 := Lib.hid (fun V => mod_ok n k D V h)
    have T0 : Hid ((w.alloc (.cells #[.int .i64 (n : Int), .int .i64 (k : Int), .int .i64 D] 23)).heap[w.heap.size]? = some (.cells #[.int .i64 (n : Int), .int .i64 (k : Int), .int .i64 D] 23 (0, 0))) := heap_alloc_new w _
    have HB0 : Hid (Below w.heap.size w (w.alloc (.cells #[.int .i64 (n : Int), .int .i64 (k : Int), .int .i64 D] 23))) := below1 w _
    obtain ⟨⟨c0, c1, c2⟩, _⟩ := three_of_blockD T0.out
    by_cases h60 : n ≤ 60
    · have hD0 : D ≠ 0 := fun e => by rw [e] at hf; cases hf
      have hdv : n % D.natAbs = 0 := by
        have h1 : (D.natAbs : Int) ∣ (n : Int) := Int.natAbs_dvd.2 (Int.dvd_of_emod_eq_zero hND)
        exact Nat.mod_eq_zero_of_dvd (Int.natCast_dvd_natCast.1 h1)
      have hle : D.natAbs ≤ n := Nat.le_of_dvd (by omega) (Nat.dvd_of_mod_eq_zero hdv)
      have dd1 : -60 ≤ D := by omega
      have dd2 : D ≤ 60 := by omega
      have hgr := gr_of dd1 dd2 hD0 hf (by omega) h60 hdv hl
      have hex := ex_of dd1 dd2 hf (show 1 ≤ n by omega) h60 hdv
      have HQ := Lib.hid (fun V => dquad_any D V hf dd1 dd2)
      have HX := Lib.hid (fun (A : Option Addr) (c : Nat) (V : World) (hE : RdZ V V.heap.size A c (quE D D.natAbs)) => ext_any D.natAbs n (quE D D.natAbs) A c V (by omega) (by omega) (by omega) (by omega) hE hex.ck0 hdv hex.g0)
      rw [ch_ex dd1 dd2 hf] at HX
      have hpa : 0 < D ↔ k % 2 = 0 := by rw [hpar]; omega
      have HC := Lib.hid (fun (A : Option Addr) (c : Nat) (V : World) (hE : RdZ V V.heap.size A c (exE D n)) => cuspc_any n k D (exE D n) A c V hgr w1 w2 hpa hE)
      have HM := Lib.hid (fun (A : Option Addr) (c : Nat) (V : World) (hE : RdZ V V.heap.size A c (exE D n)) => modc_any n k D (exE D n) A c V hgr w1 w2 hpa hE)
      have h60i : (n : Int) ≤ 60 := by omega
      clear h hl hf hpar hND hgr hex hdv hpa
      generalize exE D n = E at *
      generalize quE D D.natAbs = Q at *
      generalize cpV n k D = a at *
      generalize eiV n k D = b at *
      generalize D.natAbs = m at *
      go_enter Try.func7, Try.ntmps7
      go_upto_region 8 with (first
        | (go_at_call 11; ((with_reducible refine (HA.out _).mono ?_); rintro e v1 ⟨rfl, hb⟩; have HB1 := Lib.hid (bel0 HB0.out hb); have T1 := Lib.hid (block_below T0.out hb); clear c0 c1 c2; obtain ⟨⟨c0, c1, c2⟩, _⟩ := three_of_blockD T1.out; clear hb))
        | (go_at_call 16; ((with_reducible refine (H1.out _).mono ?_); rintro e v2 ⟨rfl, hb⟩; have HB2 := Lib.hid (bel0 HB1.out hb); have T2 := Lib.hid (block_below T1.out hb); clear c0 c1 c2 hb; obtain ⟨⟨c0, c1, c2⟩, _⟩ := three_of_blockD T2.out))
        | (go_at_call 18; ((with_reducible refine (H2.out _).mono ?_); rintro e v3 ⟨rfl, hb⟩; have HB3 := Lib.hid (bel0 HB2.out hb); have T3 := Lib.hid (block_below T2.out hb); clear c0 c1 c2 hb; obtain ⟨⟨c0, c1, c2⟩, _⟩ := three_of_blockD T3.out))
        | (go_at_call 25; ((with_reducible refine (HQ.out _).mono ?_); rintro e v4 ⟨v, rfl, ho, hb⟩; obtain ⟨A4, c4, rfl, hr⟩ := own_rdz ho; have HR4 := Lib.hid hr; have HB4 := Lib.hid (bel0 HB3.out hb); have T4 := Lib.hid (block_below T3.out hb); clear c0 c1 c2 hb ho hr; obtain ⟨⟨c0, c1, c2⟩, _⟩ := three_of_blockD T4.out))
        | fail)
      have HB5 : Hid (Below w.heap.size w (v4.alloc (.cells #[.int .i64 (m : Int), .slice A4 Q.length c4] 39))) := HB4.out.alloc HB4.out.size _
      have T5 := Lib.hid (block_alloc T4.out (.cells #[.int .i64 (m : Int), .slice A4 Q.length c4] 39))
      have HR5 := Lib.hid ((HR4.out.below (below1 v4 (.cells #[.int .i64 (m : Int), .slice A4 Q.length c4] 39))).mono (below1 v4 (.cells #[.int .i64 (m : Int), .slice A4 Q.length c4] 39)).size)
      have hX5 := heap_alloc_new v4 (.cells #[.int .i64 (m : Int), .slice A4 Q.length c4] 39)
      obtain ⟨y0, y1, _⟩ := cells_two hX5
      clear c0 c1 c2 hX5
      generalize v4.alloc (.cells #[.int .i64 (m : Int), .slice A4 Q.length c4] 39) = v5 at *
      obtain ⟨⟨c0, c1, c2⟩, _⟩ := three_of_blockD T5.out
      go_upto_region 9 with (first
        | (go_at_call 26; ((with_reducible refine (HX.out _ _ _ HR5.out).mono ?_); rintro e v6 ⟨v, rfl, ho, hb⟩; obtain ⟨A6, c6, rfl, hr⟩ := own_rdz ho; have HR6 := Lib.hid hr; have HB6 := Lib.hid (bel0 HB5.out hb); have T6 := Lib.hid (block_below T5.out hb); clear c0 c1 c2 y0 y1 hb ho hr))
        | fail)
      have HB7 : Hid (Below w.heap.size w (v6.alloc (.cells #[.int .i64 (n : Int), .slice A6 E.length c6] 39))) := HB6.out.alloc HB6.out.size _
      have T7 := Lib.hid (block_alloc T6.out (.cells #[.int .i64 (n : Int), .slice A6 E.length c6] 39))
      have HR7 := Lib.hid ((HR6.out.below (below1 v6 (.cells #[.int .i64 (n : Int), .slice A6 E.length c6] 39))).mono (below1 v6 (.cells #[.int .i64 (n : Int), .slice A6 E.length c6] 39)).size)
      have X7 := Lib.hid (heap_alloc_new v6 (.cells #[.int .i64 (n : Int), .slice A6 E.length c6] 39))
      generalize v6.alloc (.cells #[.int .i64 (n : Int), .slice A6 E.length c6] 39) = v7 at *
      generalize v6.heap.size = xb at *
      obtain ⟨⟨c0, c1, c2⟩, _⟩ := three_of_blockD T7.out
      obtain ⟨y0, y1, _⟩ := cells_two X7.out
      go_wp2_with (first
        | (go_at_call 27; ((with_reducible refine (HC.out _ _ _ HR7.out).mono ?_); rintro e v8 ⟨rfl, hb⟩; have HR8 := Lib.hid ((HR7.out.below hb).mono hb.size); have HB8 := Lib.hid (bel0 HB7.out hb); have T8 := Lib.hid (block_below T7.out hb); have X8 := Lib.hid (block_below X7.out hb); clear c0 c1 c2 y0 y1 hb; obtain ⟨⟨c0, c1, c2⟩, _⟩ := three_of_blockD T8.out; obtain ⟨y0, y1, _⟩ := cells_two X8.out))
        | (go_at_call 28; ((with_reducible refine (HM.out _ _ _ HR8.out).mono ?_); rintro e v9 ⟨rfl, hb⟩; have HB9 := Lib.hid (bel0 HB8.out hb); clear c0 c1 c2 y0 y1 hb))
        | fail)
      go_ret
      exact ⟨by first | rfl | simp, HB9.out⟩
    · have h60i : 60 < (n : Int) := by omega
      clear h hl hf hpar hND
      generalize cpV n k D = a at *
      generalize eiV n k D = b at *
      go_enter Try.func7, Try.ntmps7
      go_wp2_with (first
        | (go_at_call 11; ((with_reducible refine (HA.out _).mono ?_); rintro e v1 ⟨rfl, hb⟩; have HB1 := Lib.hid (bel0 HB0.out hb); have T1 := Lib.hid (block_below T0.out hb); clear c0 c1 c2; obtain ⟨⟨c0, c1, c2⟩, _⟩ := three_of_blockD T1.out; clear hb))
        | (go_at_call 16; ((with_reducible refine (H1.out _).mono ?_); rintro e v2 ⟨rfl, hb⟩; have HB2 := Lib.hid (bel0 HB1.out hb); have T2 := Lib.hid (block_below T1.out hb); clear c0 c1 c2 hb; obtain ⟨⟨c0, c1, c2⟩, _⟩ := three_of_blockD T2.out))
        | (go_at_call 18; ((with_reducible refine (H2.out _).mono ?_); rintro e v3 ⟨rfl, hb⟩; have HB3 := Lib.hid (bel0 HB2.out hb); have T3 := Lib.hid (block_below T2.out hb); clear c0 c1 c2 hb; obtain ⟨⟨c0, c1, c2⟩, _⟩ := three_of_blockD T3.out))
        | fail)
      go_ret
      exact ⟨by first | rfl | simp, HB3.out⟩
  · have H1 := Lib.hid (fun V => cusp_bad N W D V h)
    have H2 := Lib.hid (fun V => mod_bad N W D V h)
    have hk1 : (ckV N W D != 0) = true := by rw [bne_iff_ne]; exact h
    clear h
    generalize ckV N W D = kk at *
    have T0 : Hid ((w.alloc (.cells #[.int .i64 N, .int .i64 W, .int .i64 D] 23)).heap[w.heap.size]? = some (.cells #[.int .i64 N, .int .i64 W, .int .i64 D] 23 (0, 0))) := heap_alloc_new w _
    have HB0 : Hid (Below w.heap.size w (w.alloc (.cells #[.int .i64 N, .int .i64 W, .int .i64 D] 23))) := below1 w _
    obtain ⟨⟨c0, c1, c2⟩, _⟩ := three_of_blockD T0.out
    go_enter Try.func7, Try.ntmps7
    go_wp2_with (first
      | (go_at_call 11; ((with_reducible refine (HA.out _).mono ?_); rintro e v1 ⟨rfl, hb⟩; have HB1 := Lib.hid (bel0 HB0.out hb); have T1 := Lib.hid (block_below T0.out hb); clear c0 c1 c2; obtain ⟨⟨c0, c1, c2⟩, _⟩ := three_of_blockD T1.out; clear hb))
      | (go_at_call 16; ((with_reducible refine (H1.out _).mono ?_); rintro e v2 ⟨rfl, hb⟩; have HB2 := Lib.hid (bel0 HB1.out hb); have T2 := Lib.hid (block_below T1.out hb); clear c0 c1 c2 hb; obtain ⟨⟨c0, c1, c2⟩, _⟩ := three_of_blockD T2.out))
      | (go_at_call 18; ((with_reducible refine (H2.out _).mono ?_); rintro e v3 ⟨rfl, hb⟩; have HB3 := Lib.hid (bel0 HB2.out hb); clear c0 c1 c2 hb))
      | fail)
    go_ret
    exact ⟨by first | rfl | simp, HB3.out⟩
end Go.Proofs.Ytaofkfphkkfbnaa
