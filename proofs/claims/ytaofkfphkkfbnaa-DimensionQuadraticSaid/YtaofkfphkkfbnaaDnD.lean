/- The character of a discriminant: quadratic, exception, lambda, sum, and the dimensions by the formula. -/
import Derived.Test.YtaofkfphkkfbnaaDnB
namespace Go.Proofs.Ytaofkfphkkfbnaa
open Go.RowKit
set_option linter.unusedVariables false
set_option linter.unusedSimpArgs false

/-- The value of a quadratic character; b is the block that its closure reads. -/
def chV (n : Nat) (D : Int) (b : Nat) : Value := .agg #[.int .i64 (n : Int), .int .i64 (D.natAbs : Nat), .func (.func 69) #[] #[.pointer (some ⟨b, 0, none⟩)]]
theorem blk_of {w2 wr : World} {b : Nat} {o : Obj} (h : w2.heap[b]? = some o) (hw : Below w2.heap.size w2 wr) (hb : b < w2.heap.size) : wr.heap[b]? = some o := by rw [hw.block b hb]; exact h
theorem one_blk {w : World} {b : Nat} {x : Value} {t : TypeId} (h : w.heap[b]? = some (.cells #[x] t (0, 0))) : w.cell? ⟨b, 0, none⟩ = some x := by rw [cell_of_row w b 0 _ t _ h]; rfl
set_option maxHeartbeats 1600000 in
theorem quad_any (n : Nat) (D : Int) (w : World) (d1 : -120 ≤ D) (d2 : D ≤ 120) (n2 : (n : Int) ≤ 120) :
    Calls Try.prog 39 #[.int .i64 (n : Int), .int .i64 D] w fun e w' => e = .returned (chV n D w.heap.size) ∧ Below w.heap.size w w' ∧ w'.heap[w.heap.size]? = some (.cells #[.int .i64 D] 3 (0, 0)) ∧ w.heap.size < w'.heap.size := by
  have hmf : ∀ (fn : Fn) (first cap : Array Value) (w : World), (Instr.makeFunc fn first cap).run Try.prog w = .ok (.func fn first cap) w := fun _ _ _ _ => rfl
  have hsf : ∀ (a : Addr) (fn : Fn) (first cap : Array Value) (m : Mode) (w : World), (store a (.func fn first cap) m).run Try.prog w = stored Try.prog w a (.func fn first cap) m := fun a fn first cap m w => run_store Try.prog w a _ m rfl
  have hmax : max D (-D) = ((D.natAbs : Nat) : Int) := by omega
  unfold chV
  generalize D.natAbs = m at *
  go_enter Try.func39, Try.ntmps39
  go_wp2
  have hB : ((w.alloc (.cells #[.int .i64 D] 3)).alloc (.cells #[.int .i64 (n : Int), .int .i64 (m : Int), .func (.func 69) #[] #[.pointer (some ⟨w.heap.size, 0, none⟩)]] 51)).heap[w.heap.size + 1]? = some (.cells #[.int .i64 (n : Int), .int .i64 (m : Int), .func (.func 69) #[] #[.pointer (some ⟨w.heap.size, 0, none⟩)]] 51 (0, 0)) := by
    have := heap_alloc_new (w.alloc (.cells #[.int .i64 D] 3)) (.cells #[.int .i64 (n : Int), .int .i64 (m : Int), .func (.func 69) #[] #[.pointer (some ⟨w.heap.size, 0, none⟩)]] 51)
    simpa using this
  obtain ⟨⟨s0, s1, s2⟩, _⟩ := three_of_blockD hB
  refine bodyPost_ret (v := .agg #[.int .i64 (n : Int), .int .i64 (m : Int), .func (.func 69) #[] #[.pointer (some ⟨w.heap.size, 0, none⟩)]]) ?_ rfl ⟨rfl, below2 _ _ _, block_alloc (heap_alloc_new w _) _, by simp; omega⟩
  simp [results, Try.results39, go_sem, s0, s1, s2]
set_option maxHeartbeats 1600000 in
/-- The closure of quadratic. -/
theorem twice_any (D : Int) (a b : Nat) (w : World) (d1 : -120 ≤ D) (d2 : D ≤ 120) (a2 : (a : Int) ≤ 120) (hc : w.cell? ⟨b, 0, none⟩ = some (.int .i64 D)) :
    Calls Try.prog 69 #[.int .i64 (a : Int), .pointer (some ⟨b, 0, none⟩)] w fun e w' => e = .returned (.int .i64 (2 * kron D (a : Int))) ∧ w = w' := by
  have HK := Lib.hid (fun W => kronk_any D (a : Int) W (by omega) (by omega) (by omega) (by omega))
  obtain ⟨k1, k2⟩ := kron_cases D (a : Int)
  generalize kron D (a : Int) = z at *
  go_enter Try.func69, Try.ntmps69
  go_wp2_with (first
    | (go_at_call 56; ((with_reducible refine (HK.out _).mono ?_); rintro e w1 ⟨rfl, rfl⟩))
    | fail)
  go_ret
  exact ⟨rfl, rfl⟩
set_option maxHeartbeats 1600000 in
theorem exc_any (n k c : Nat) (v : Value) (w : World) (k2 : (k : Int) ≤ 24) (c2 : (c : Int) ≤ 120) :
    Calls Try.prog 71 #[.agg #[.int .i64 (n : Int), .int .i64 (c : Int), v], .int .i64 (k : Int)] w fun e w' => e = .returned (.int .i64 (exK k c)) ∧ Below w.heap.size w w' := by
  have T0 : Hid ((w.alloc (.cells #[.int .i64 (n : Int), .int .i64 (c : Int), v] 51)).heap[w.heap.size]? = some (.cells #[.int .i64 (n : Int), .int .i64 (c : Int), v] 51 (0, 0))) := heap_alloc_new w _
  have HB0 : Hid (Below w.heap.size w (w.alloc (.cells #[.int .i64 (n : Int), .int .i64 (c : Int), v] 51))) := below1 w _
  obtain ⟨⟨c0, c1, c2'⟩, _⟩ := three_of_blockD T0.out
  by_cases hk : k = 2
  · subst hk
    by_cases hc : c = 1
    · subst hc
      rw [show exK 2 1 = 1 from rfl]
      go_enter Try.func71, Try.ntmps71
      go_wp2
      go_ret
      exact ⟨rfl, HB0.out⟩
    · rw [show exK 2 c = 0 by unfold exK; rw [if_neg (by omega)]]
      have e1 : ((c : Int) == 1) = false := by rw [beq_eq_false_iff_ne]; omega
      clear hc
      go_enter Try.func71, Try.ntmps71
      go_wp2
      go_ret
      exact ⟨rfl, HB0.out⟩
  · rw [show exK k c = 0 by unfold exK; rw [if_neg (by omega)]]
    have e1 : ((k : Int) == 2) = false := by rw [beq_eq_false_iff_ne]; omega
    clear hk
    go_enter Try.func71, Try.ntmps71
    go_wp2
    go_ret
    exact ⟨rfl, HB0.out⟩
theorem lamF_append (f : Nat) : ∀ l m x, lamF f (l ++ m) x = lamF f m (lamF f l x)
  | [], _, _ => rfl
  | p :: l, m, x => lamF_append f l m _
set_option maxHeartbeats 3200000 in
set_option maxRecDepth 1000000 in
theorem lam_any (n : Nat) (D : Int) (v : Value) (w : World) (h : LD n D) :
    Calls Try.prog 70 #[.agg #[.int .i64 (n : Int), .int .i64 (D.natAbs : Nat), v]] w fun e w' => e = .returned (.int .i64 (lamP n D.natAbs : Nat)) ∧ Below w.heap.size w w' := by
  have n1 := h.n1
  have n2 : (n : Int) ≤ 120 := by have := h.n2; omega
  have hdf := h.df
  have HFa := Lib.hid (fun W => factor_any n W n1 (by omega))
  have HC := Lib.hid (art_of n1 (show n ≤ 120 by omega))
  have hfl := HC.out.fl
  have hm1 : 1 ≤ D.natAbs := by have : D ≠ 0 := (fun e => by have := h.f; rw [e] at this; cases this); omega
  have hm2 : (D.natAbs : Int) ≤ 120 := by have := h.d1; have := h.d2; omega
  have HP : Hid (lamF D.natAbs ((facs 2 n).take (facs 2 n).length) 1 = lamP n D.natAbs) := by show _ = _; rw [List.take_length]; rfl
  have HB : Hid (∀ k, k ≤ (facs 2 n).length → lamF D.natAbs ((facs 2 n).take k) 1 ≤ 1000) := hdf.lb
  have HM : Hid (∀ (k : Nat) (h : k < (facs 2 n).length), 2 ≤ (facs 2 n)[k].1 ∧ (facs 2 n)[k].1 ≤ 120 ∧ 1 ≤ (facs 2 n)[k].2 ∧ (facs 2 n)[k].2 ≤ 7 ∧ (strip D.natAbs (facs 2 n)[k].1 D.natAbs).1 ≤ (facs 2 n)[k].2 ∧ locF (facs 2 n)[k].1 (facs 2 n)[k].2 (strip D.natAbs (facs 2 n)[k].1 D.natAbs).1 ≤ 1000) := fun k h => hdf.q _ (List.getElem_mem h)
  clear HC hdf h
  generalize D.natAbs = m at *
  generalize facs 2 n = F at *
  have T0 : Hid ((w.alloc (.cells #[.int .i64 (n : Int), .int .i64 (m : Int), v] 51)).heap[w.heap.size]? = some (.cells #[.int .i64 (n : Int), .int .i64 (m : Int), v] 51 (0, 0))) := heap_alloc_new w _
  have HB0 : Hid (Below w.heap.size w (w.alloc (.cells #[.int .i64 (n : Int), .int .i64 (m : Int), v] 51))) := below1 w _
  obtain ⟨⟨c0, c1, c2'⟩, _⟩ := three_of_blockD T0.out
  go_enter Try.func70, Try.ntmps70
  go_wp2_with (first
    | (go_at_call 68; ((with_reducible refine (HFa.out _).mono ?_); rintro e w2 ⟨v, rfl, ho, hb⟩; obtain ⟨la, ll, lc, rfl⟩ := ownsRow_slice ho; have HRd := Lib.hid (fac_read ho); have HB2 := Lib.hid (bel0 HB0.out hb); have T2 := Lib.hid (block_below T0.out hb); clear ho hb))
    | fail)
  obtain ⟨hll, hrd⟩ := HRd.out
  have HR := Lib.hid hrd
  subst hll
  clear HRd hrd HFa c0 c1 c2'
  have hs2 : w.heap.size < w2.heap.size := lt_of_block T2.out
  go_loopw [3, 7, 16] (fun X _ I wr => ∃ k x : Nat, I = .int .i64 k ∧ X = .int .i64 x ∧ k ≤ F.length ∧ (x : Int) ≤ 1000 ∧ Hid (lamF m (F.take k) 1 = x) ∧ Hid (Below w2.heap.size w2 wr)) (fun _ _ I _ => F.length - (intOf I).toNat)
  case atStart => exact ⟨0, 1, rfl, rfl, Nat.zero_le _, by omega, rfl, Below.refl _ _⟩
  case round =>
    obtain ⟨k, x, rfl, rfl, hk, hx, HX, HW⟩ := hrel
    by_cases hkl : k < F.length
    · have hkli : (k : Int) < (F.length : Int) := by omega
      obtain ⟨g, rfl, hg, y1, y2⟩ := HR.out k hkl
      obtain ⟨p1, p2, q1, q2, hsq, hlb⟩ := HM.out k hkl
      have x1 : wr.cell? ⟨g, k * 2, none⟩ = some (.int .i64 (F[k].1 : Int)) := (HW.out.cell (p := ⟨g, k * 2, none⟩) hg).trans y1
      have x2 : wr.cell? ⟨g, k * 2 + 1, none⟩ = some (.int .i64 (F[k].2 : Int)) := (HW.out.cell (p := ⟨g, k * 2 + 1, none⟩) hg).trans y2
      have hgw : g < wr.heap.size := Nat.lt_of_lt_of_le hg HW.out.size
      have HN : Hid (lamF m (F.take (k + 1)) 1 = x * locF F[k].1 F[k].2 (strip m F[k].1 m).1) := by
        show _ = _
        rw [List.take_add_one, List.getElem?_eq_getElem hkl, Option.toList_some, lamF_append, HX.out]; rfl
      have hb := HB.out (k + 1) (by omega)
      rw [HN.out] at hb
      have HEx := Lib.hid (fun W => exp_any m F[k].1 W hm1 hm2 (by omega) (by omega))
      have HLo := Lib.hid (fun W => loc_any F[k].1 F[k].2 (strip m F[k].1 m).1 W p1 (by omega) q1 (by omega) hsq hlb)
      have Tw : Hid (wr.heap[w.heap.size]? = some (.cells #[.int .i64 (n : Int), .int .i64 (m : Int), v] 51 (0, 0))) := blk_of T2.out HW.out hs2
      clear y1 y2 HX hsq
      generalize locF F[k].1 F[k].2 (strip m F[k].1 m).1 = L at *
      generalize (strip m F[k].1 m).1 = sx at *
      generalize F[k].1 = p at *
      generalize F[k].2 = q at *
      obtain ⟨z, hz⟩ : ∃ z, z = x * L := ⟨_, rfl⟩
      have hzi : (x : Int) * (L : Int) = (z : Int) := by rw [hz, Int.natCast_mul]
      rw [← hz] at hb HN
      have hwz : IntKind.i64.wrap (z : Int) = (z : Int) := IntWalk.i64_in _ (by omega)
      have hzb : (z : Int) ≤ 1000 := by omega
      clear hz
      go_upto_region 6 with fail
      obtain ⟨W3, hW3⟩ : ∃ W3, W3 = wr.alloc (.cells #[.int .i64 (p : Int), .int .i64 (q : Int)] 75) := ⟨_, rfl⟩
      rw [← hW3]
      have hg3 : W3.heap.size = wr.heap.size + 1 := by rw [hW3]; simp
      have U0 : Hid (W3.drew.heap[wr.heap.size]? = some (.cells #[.int .i64 (p : Int), .int .i64 (q : Int)] 75 (0, 0))) := by rw [hW3]; exact heap_alloc_new wr _
      have T3 : Hid (W3.drew.heap[w.heap.size]? = some (.cells #[.int .i64 (n : Int), .int .i64 (m : Int), v] 51 (0, 0))) := by rw [hW3]; exact block_alloc Tw.out _
      have HB3 : Hid (Below w2.heap.size w2 W3.drew) := by rw [hW3]; exact (HW.out.alloc HW.out.size _).drew
      clear hW3
      go_region_held3 (fun w' => (w'.cell? ⟨wr.heap.size, 0, none⟩ = some (.int .i64 (p : Int)) ∧ w'.cell? ⟨wr.heap.size, 1, none⟩ = some (.int .i64 (q : Int))) ∧ w'.cell? ⟨w.heap.size, 1, none⟩ = some (.int .i64 (m : Int)))
        (with_reducible first | exact ⟨(two_of_block U0.out).1, (three_of_blockD T3.out).1.2.1⟩ | fail)
        (first
          | (go_at_call 98; ((with_reducible refine (HEx.out _).mono ?_); rintro e w4 ⟨rfl, rfl⟩))
          | (go_at_call 97; ((with_reducible refine (HLo.out _).mono ?_); rintro e w4 ⟨rfl, rfl⟩))
          | fail)
      go_wp2
      go_roundw
      case rel => exact ⟨k + 1, z, by go_num, by go_num, by omega, hzb, HN.out, HB3.out⟩
      case measure => simp [intOf]; omega
    · obtain rfl : k = F.length := by omega
      have hk3 : ¬ (F.length : Int) < (F.length : Int) := by omega
      have HE : Hid ((x : Int) = (lamP n m : Nat)) := by show _ = _; rw [← HP.out, HX.out]
      go_wp2
      go_ret
      exact ⟨ret_int' HE.out, HB2.out.trans (HW.out.mono HB2.out.size)⟩
end Go.Proofs.Ytaofkfphkkfbnaa
