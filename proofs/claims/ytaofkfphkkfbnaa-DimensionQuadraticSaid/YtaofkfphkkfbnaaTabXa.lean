/- dirichlet: lcm, the closure of Quadratic, a table's value at a number. dirichlet.character of the closure of Quadratic. dirichlet.Quadratic of a fundamental discriminant. Tables of characters: what tableOf answers, as plain lists; decided for quadratic characters and their extensions to 60. Decided facts of quadratic characters and their extensions: exponents, conductors, what Extend and Check meet. dirichlet's tables: isPeriod, conductor. -/
import Derived.Test.YtaofkfphkkfbnaaGnG
import Derived.Test.YtaofkfphkkfbnaaDimM
import Derived.Test.YtaofkfphkkfbnaaHeadT
import Derived.Test.YtaofkfphkkfbnaaDnB
import Derived.Deep.AppendLies
namespace Go.Proofs.Ytaofkfphkkfbnaa
open Go.RowKit
set_option linter.unusedVariables false
set_option linter.unusedSimpArgs false

set_option maxHeartbeats 1600000 in
theorem dlcm_any (a b : Nat) (w : World) (a1 : 1 ≤ a) (b1 : 1 ≤ b) (a2 : (a : Int) ≤ 1000000) (b2 : (b : Int) ≤ 1000) :
    Calls Try.prog 89 #[.int .i64 (a : Int), .int .i64 (b : Int)] w fun e w' => e = .returned (.int .i64 (Nat.lcm a b : Nat)) ∧ ∃ n, w' = w.drewN n := by
  have HG := Lib.hid (fun W => gcd_any (a : Int) (b : Int) W (by unfold Mid; omega) (by unfold Mid; omega))
  have hgp : 1 ≤ Nat.gcd a b := Nat.gcd_pos_of_pos_left b a1
  have hgl : Nat.gcd a b ≤ a := Nat.gcd_le_left b a1
  have hgi : Int.gcd (a : Int) (b : Int) = Nat.gcd a b := by simp [Int.gcd]
  have hl : Nat.lcm a b = a / Nat.gcd a b * b := by
    unfold Nat.lcm
    rw [Nat.div_mul_right_comm (Nat.gcd_dvd_left a b)]
  have hq : a / Nat.gcd a b ≤ a := Nat.div_le_self _ _
  have hml : a / Nat.gcd a b * b ≤ 1000000 * 1000 := Nat.mul_le_mul (by omega) (by omega)
  rw [hl]
  rw [hgi] at HG
  clear hl hgi
  generalize Nat.gcd a b = g at *
  have htd : Int.tdiv (a : Int) (g : Int) = ((a / g : Nat) : Int) := (Int.ofNat_tdiv _ _).symm
  have hdv : (a : Int) / (g : Int) = ((a / g : Nat) : Int) := (Int.natCast_ediv _ _).symm
  have hg0 : ((g : Int) == 0) = false := by rw [beq_eq_false_iff_ne]; omega
  have hg1 : ¬ ((g : Int) = 0) := by omega
  have hg2 : ¬ (g = 0) := by omega
  generalize a / g = q at *
  have hmu : (q : Int) * (b : Int) = ((q * b : Nat) : Int) := (Int.natCast_mul _ _).symm
  generalize q * b = r at *
  have hwq : IntKind.i64.wrap (q : Int) = (q : Int) := IntWalk.i64_in _ (by omega)
  have hwr : IntKind.i64.wrap (r : Int) = (r : Int) := IntWalk.i64_in _ (by omega)
  go_enter Try.func89, Try.ntmps89
  go_wp2_with (first
    | (go_at_call 83; ((with_reducible refine (HG.out _).mono ?_); rintro e w1 ⟨rfl, nn, rfl⟩))
    | fail)
  go_ret
  exact ⟨rfl, nn, rfl⟩
set_option maxHeartbeats 1600000 in
/-- The closure of Quadratic. -/
theorem qclo_any (D a : Int) (b : Nat) (w : World) (d1 : -120 ≤ D) (d2 : D ≤ 120) (a1 : -120 ≤ a) (a2 : a ≤ 120) (hc : w.cell? ⟨b, 0, none⟩ = some (.int .i64 D)) :
    Calls Try.prog 55 #[.int .i64 a, .pointer (some ⟨b, 0, none⟩)] w fun e w' => e = .returned (.tuple #[.int .i64 (if kron D a = 1 then 0 else 1), .int .i64 2]) ∧ w = w' := by
  have HK := Lib.hid (fun W => kronk_any D a W (by omega) (by omega) (by omega) (by omega))
  generalize kron D a = z at *
  by_cases h : z = 1
  · rw [if_pos h]
    have h1 : (z == 1) = true := by rw [beq_iff_eq]; exact h
    clear h
    go_enter Try.func55, Try.ntmps55
    go_wp2_with (first
      | (go_at_call 56; ((with_reducible refine (HK.out _).mono ?_); rintro e w1 ⟨rfl, rfl⟩))
      | fail)
    exact bodyPost_ret (results_tmp2 rfl _ _ _) rfl ⟨rfl, rfl⟩
  · rw [if_neg h]
    have h1 : (z == 1) = false := by rw [beq_eq_false_iff_ne]; exact h
    clear h
    go_enter Try.func55, Try.ntmps55
    go_wp2_with (first
      | (go_at_call 56; ((with_reducible refine (HK.out _).mono ?_); rintro e w1 ⟨rfl, rfl⟩))
      | fail)
    exact bodyPost_ret (results_tmp2 rfl _ _ _) rfl ⟨rfl, rfl⟩
theorem mod_go (a n : Int) (h : 1 ≤ n) : Int.tmod (Int.tmod a n + n) n = a % n := by
  have h1 := Int.tmod_lt_of_pos a (show 0 < n by omega)
  have h2 := Int.lt_tmod_of_pos a (show 0 < n by omega)
  by_cases h0 : 0 ≤ Int.tmod a n
  · have h3 := tmod_same a n (by omega) h0
    rw [Int.tmod_eq_emod_of_nonneg (by omega), Int.add_emod_right, h3, Int.emod_emod_of_dvd _ (Int.dvd_refl n)]
  · have h3 := tmod_add a n (by omega) (by omega)
    rw [h3, Int.tmod_eq_emod_of_nonneg (Int.emod_nonneg _ (by omega)), Int.emod_emod_of_dvd _ (Int.dvd_refl n)]
set_option maxHeartbeats 1600000 in
theorem at_any (T : List Int) (m a : Int) (A : Option Addr) (c j : Nat) (x : Int) (w : World) (hT : RdZ w w.heap.size A c T) (hn : T.length ≤ 60) (a1 : -1073741824 ≤ a) (a2 : a ≤ 1073741824) (hj : a % (T.length : Int) = (j : Int)) (hx : T[j]? = some x) :
    Calls Try.prog 60 #[.agg #[.slice A T.length c, .int .i64 m], .int .i64 a] w fun e w' => e = .returned (.tuple #[.int .i64 x, .int .i64 m]) ∧ Below w.heap.size w w' := by
  obtain ⟨hjl, hjx⟩ := List.getElem?_eq_some_iff.1 hx
  have T0 : Hid ((w.alloc (.cells #[.slice A T.length c, .int .i64 m] 65)).heap[w.heap.size]? = some (.cells #[.slice A T.length c, .int .i64 m] 65 (0, 0))) := heap_alloc_new w _
  have HB0 : Hid (Below w.heap.size w (w.alloc (.cells #[.slice A T.length c, .int .i64 m] 65))) := below1 w _
  obtain ⟨c0, c1, _⟩ := cells_two T0.out
  obtain ⟨b, o, rfl, hb, hc⟩ := hT.at_ hjl
  rw [hjx] at hc
  have hc2 := (HB0.out.cell (p := ⟨b, o + j, none⟩) hb).trans hc
  have hm1 := mod_go a (T.length : Int) (by omega)
  rw [hj] at hm1
  have h1 := Int.tmod_lt_of_pos a (show 0 < (T.length : Int) by omega)
  have h2 := Int.lt_tmod_of_pos a (show 0 < (T.length : Int) by omega)
  have hj2 : (j : Int) < (T.length : Int) := by omega
  have hn2 : (T.length : Int) ≤ 60 := by omega
  have hn0 : ((T.length : Int) == 0) = false := by rw [beq_eq_false_iff_ne]; omega
  have hn1 : ¬ ((T.length : Int) = 0) := by omega
  have hn3 : ¬ (T.length = 0) := by omega
  clear hT hx hjx hj hc hjl
  generalize T.length = N at *
  generalize hR : Int.tmod a (N : Int) = R at *
  have hwR : IntKind.i64.wrap R = R := IntWalk.i64_in _ (by omega)
  have hwS : IntKind.i64.wrap (R + (N : Int)) = R + (N : Int) := IntWalk.i64_in _ (by omega)
  have hwj : IntKind.i64.wrap (j : Int) = (j : Int) := IntWalk.i64_in _ (by omega)
  go_enter Try.func60, Try.ntmps60
  go_wp2
  go_region
  go_wp2
  exact bodyPost_ret (results_tmp2 rfl _ _ _) rfl ⟨rfl, HB0.out.drew⟩
end Go.Proofs.Ytaofkfphkkfbnaa
namespace Go.Proofs.Ytaofkfphkkfbnaa
open Go.RowKit
set_option linter.unusedVariables false
set_option linter.unusedSimpArgs false

theorem Try.infoIntC : (Try.prog.info? 3).map (fun i => (i.zero, i.size, i.bytes)) = some (some (.int .i64 0), 1, 8) := by kernel_rfl
def quX (D : Int) (g : Nat × Nat) : Nat := (if kron D (g.1 : Int) = 1 then 0 else 1) * g.2 / 2
/-- The exponents of the quadratic character. -/
def quE (D : Int) (n : Nat) : List Int := (gensV n).map fun g => (quX D g : Int)
/-- The world within character: the character's box, its exponents; all else below C is as it was. -/
structure XW (B C : Nat) (w0 w2 : World) (n : Nat) (v : Value) (E : List Int) (w : World) : Prop where
  hC : B + 2 ≤ C
  size : C ≤ w.heap.size
  box : w.heap[B + 1]? = some (.cells #[.int .i64 (n : Int), v] 39 (0, 0))
  own : w.ownsRow C 3 1 v E.length (zs E)
  keep : ∀ j, j < C → j ≠ B + 1 → w.heap[j]? = w2.heap[j]?
  below : Below B w0 w
theorem XW.on {B C : Nat} {w0 w2 w w1 : World} {n : Nat} {v : Value} {E : List Int} (h : XW B C w0 w2 n v E w) (hb : Below w.heap.size w w1) : XW B C w0 w2 n v E w1 :=
  ⟨h.hC, Nat.le_trans h.size hb.size, block_below h.box hb, own_keepD h.own (fun g hg => (hb.block g (h.own.lt g hg).2)), fun j hj hn => (hb.block j (by have := h.size; omega)).trans (h.keep j hj hn), h.below.trans (hb.mono (by have h1 := h.size; have h2 := h.hC; omega))⟩
theorem XW.drew {B C : Nat} {w0 w2 w : World} {n : Nat} {v : Value} {E : List Int} (h : XW B C w0 w2 n v E w) : XW B C w0 w2 n v E w.drew := h.on (Below.refl _ _).drew
theorem XW.push {B C : Nat} {w0 w2 w w1 : World} {n : Nat} {v v' : Value} {E : List Int} {x : Int} {o : Obj} (h : XW B C w0 w2 n v E w)
    (hown : w1.ownsRow C 3 1 v' (E.length + 1) (zs E ++ [.int .i64 x])) (hg : (w.alloc o).grownBy w1 v.ownBlock) :
    w1.heap[B + 1]? = some (.cells #[.int .i64 (n : Int), v] 39 (0, 0)) ∧ XW B C w0 w2 n v' (E ++ [x]) (w1.setCell ⟨B + 1, 1, none⟩ v') := by
  have hs := h.size
  have hc := h.hC
  have hne : ∀ j, j < C → some j ≠ v.ownBlock := fun j hj e => by have := (h.own.lt j e.symm).1; omega
  have hat : ∀ j, j < C → w1.heap[j]? = w.heap[j]? := fun j hj => by
    rw [hg.block j (by simp; omega) (hne _ hj), Below.heap_alloc _ _ _ (by omega)]
  have h1 : w1.heap[B + 1]? = some (.cells #[.int .i64 (n : Int), v] 39 (0, 0)) := (hat _ (by omega)).trans h.box
  refine ⟨h1, hc, ?_, ?_, ?_, fun j hj hn => ((Below.heap_setCell _ _ _ _ (by show j ≠ B + 1; exact hn)).trans (hat j hj)).trans (h.keep j hj hn), ?_⟩
  · have h9 := hg.size; simp at h9; simp; omega
  · exact heap_setCell_same _ (B + 1) 1 #[.int .i64 (n : Int), v] _ v' h1
  · rw [zs_append, List.length_append]
    exact ownsRow_setCell_below hown (by show B + 1 < C; omega) _
  · exact ((h.below.alloc (by omega) o).grown hg (by simp; omega) (fun j hj => by have := (h.own.lt j hj).1; omega)).setCell (by show B ≤ B + 1; omega) _
set_option maxHeartbeats 6400000 in
set_option maxRecDepth 1000000 in
theorem charq_any (D : Int) (n b : Nat) (w : World) (n1 : 1 ≤ n) (n2 : (n : Int) ≤ 60) (d1 : -60 ≤ D) (d2 : D ≤ 60) (hD : w.heap[b]? = some (.cells #[.int .i64 D] 3 (0, 0))) :
    Calls Try.prog 54 #[.int .i64 (n : Int), .func (.func 55) #[] #[.pointer (some ⟨b, 0, none⟩)]] w fun e w' => ∃ v, e = .returned (.agg #[.int .i64 (n : Int), v]) ∧ w'.ownsRow (w.heap.size + 2) 3 1 v (quE D n).length (zs (quE D n)) ∧ Below w.heap.size w w' := by
  obtain ⟨i0, hi0, z0, z1, z2⟩ := info_parts Try.infoIntC
  have HGe := Lib.hid (fun W => gens_any n W n1 n2)
  have HGb := Lib.hid (gens_facts n1 (show n ≤ 60 by omega))
  have hgl := HGb.out.len
  have HQ := Lib.hid (fun (V : World) (a : Nat) (h1 : (a : Int) ≤ 60) (hc : V.cell? ⟨b, 0, none⟩ = some (.int .i64 D)) => qclo_any D (a : Int) b V (by omega) (by omega) (by omega) (by omega) hc)
  have HP : Hid (((gensV n).take (gensV n).length).map (fun g => (quX D g : Int)) = quE D n) := by show _ = _; rw [List.take_length]; rfl
  have hbl := lt_of_block hD
  have HD := Lib.hid hD
  have HX0 : Hid (((w.alloc (.cells #[.int .i64 0, .slice none 0 0] 39)).alloc (.cells #[.int .i64 (n : Int), .slice none 0 0] 39)).heap[w.heap.size + 1]? = some (.cells #[.int .i64 (n : Int), .slice none 0 0] 39 (0, 0))) := by
    have := heap_alloc_new (w.alloc (.cells #[.int .i64 0, .slice none 0 0] 39)) (.cells #[.int .i64 (n : Int), .slice none 0 0] 39)
    show _ = _
    simpa using this
  have HR0 : Hid (((w.alloc (.cells #[.int .i64 0, .slice none 0 0] 39)).alloc (.cells #[.int .i64 (n : Int), .slice none 0 0] 39)).heap[w.heap.size]? = some (.cells #[.int .i64 0, .slice none 0 0] 39 (0, 0))) := block_alloc (heap_alloc_new w _) _
  have HB0 : Hid (Below w.heap.size w ((w.alloc (.cells #[.int .i64 0, .slice none 0 0] 39)).alloc (.cells #[.int .i64 (n : Int), .slice none 0 0] 39))) := below2 w _ _
  clear hD
  generalize gensV n = G at *
  go_enter Try.func54, Try.ntmps54
  go_wp2_with (first
    | (go_at_call 86; ((with_reducible refine (HGe.out _).mono ?_); rintro e w2 ⟨v, rfl, ho, hb⟩; obtain ⟨la, lc, rfl, hrd⟩ := gen_blk ho; have HR := Lib.hid hrd; have HX2 := Lib.hid (block_below HX0.out hb); have HR2 := Lib.hid (block_below HR0.out hb); have HB2 := Lib.hid (HB0.out.trans (hb.mono HB0.out.size)); clear ho hb hrd))
    | fail)
  have hs2 := lt_of_block HX2.out
  have HXs : Hid (XW w.heap.size w2.heap.size w w2 n (.slice none 0 0) [] w2) := ⟨by omega, Nat.le_refl _, HX2.out, World.ownsRow_nil _ _ _ _, fun _ _ _ => rfl, HB2.out⟩
  clear HX0 HR0 HB0 HGe
  go_loopw [7, 8, 9, 15] (fun _ _ _ I wr => ∃ (k : Nat) (v : Value), I = .int .i64 k ∧ k ≤ G.length ∧ Hid (XW w.heap.size w2.heap.size w w2 n v ((G.take k).map fun g => (quX D g : Int)) wr)) (fun _ _ _ I _ => G.length - (intOf I).toNat)
  case atStart => exact ⟨0, _, rfl, Nat.zero_le _, HXs.out⟩
  case round =>
    obtain ⟨k, v, rfl, hk, HX⟩ := hrel
    by_cases hkl : k < G.length
    · have hkli : (k : Int) < (G.length : Int) := by omega
      obtain ⟨g, cs, rfl, hg1, hcell⟩ := HR.out k hkl
      obtain ⟨x1, x2⟩ := hcell wr ((HX.out.keep g (lt_of_block hg1) (blk_ne HX2.out hg1 (by decide))).trans hg1)
      have HN : Hid ((G.take (k + 1)).map (fun g => (quX D g : Int)) = (G.take k).map (fun g => (quX D g : Int)) ++ [(quX D G[k] : Int)]) := by
        show _ = _
        rw [List.take_add_one, List.getElem?_eq_getElem hkl, Option.toList_some, List.map_append]; rfl
      have p60 := HGb.out.v _ (List.getElem_mem hkl)
      have q1 := HGb.out.o1 _ (List.getElem_mem hkl)
      have q60 := HGb.out.o2 _ (List.getElem_mem hkl)
      clear hg1 hcell
      generalize G[k] = f at *
      obtain ⟨p, q⟩ := f
      simp only at x1 x2 p60 q1 q60
      have hqx : quX D (p, q) = (if kron D (p : Int) = 1 then 0 else 1) * q / 2 := rfl
      have hmul : (if kron D (p : Int) = 1 then (0 : Int) else 1) * (q : Int) = (((if kron D (p : Int) = 1 then 0 else 1) * q : Nat) : Int) := by split <;> simp
      have hy : (if kron D (p : Int) = 1 then 0 else 1) * q ≤ q := by split <;> omega
      generalize quX D (p, q) = x at *
      go_upto_region 5 with fail
      have HX3 : Hid (XW w.heap.size w2.heap.size w w2 n v ((G.take k).map fun g => (quX D g : Int)) (wr.alloc (.cells #[.int .i64 (p : Int), .int .i64 (q : Int)] 85))) := HX.out.on (below1 wr _)
      have HG3 : Hid ((wr.alloc (.cells #[.int .i64 (p : Int), .int .i64 (q : Int)] 85)).heap[wr.heap.size]? = some (.cells #[.int .i64 (p : Int), .int .i64 (q : Int)] 85 (0, 0))) := heap_alloc_new wr _
      have hgb : w2.heap.size ≤ wr.heap.size := HX.out.size
      clear x1 x2 HX
      generalize (wr.alloc (.cells #[.int .i64 (p : Int), .int .i64 (q : Int)] 85)) = W3 at *
      generalize wr.heap.size = gb at *
      obtain ⟨y1, y2, _⟩ := cells_two HG3.out
      obtain ⟨b1, b2, _⟩ := cells_two HX3.out.box
      have hcl := cell_of_one (t := 3) ((HX3.out.below.block b hbl).trans HD.out)
      have HQ3 := Lib.hid (HQ.out W3 p (by omega) hcl)
      generalize (if kron D (p : Int) = 1 then (0 : Int) else 1) = z at *
      generalize (if kron D (p : Int) = 1 then 0 else 1) * q = y at *
      have htd : Int.tdiv (y : Int) 2 = (x : Int) := by rw [Int.tdiv_eq_ediv_of_nonneg (by omega)]; omega
      have hdv : (y : Int) / 2 = (x : Int) := by omega
      have hwy : IntKind.i64.wrap (y : Int) = (y : Int) := IntWalk.i64_in _ (by omega)
      have hwx : IntKind.i64.wrap (x : Int) = (x : Int) := IntWalk.i64_in _ (by omega)
      have htl : (G.take k).length ≤ 8 := by rw [List.length_take]; omega
      clear hqx hy
      go_wp2_with (first
        | (go_at_call 55; ((with_reducible refine HQ3.out.mono ?_); rintro e w5 ⟨rfl, rfl⟩))
        | fail)
      have HHd : Hid (∀ V, XW w.heap.size w2.heap.size w w2 n v ((G.take k).map fun g => (quX D g : Int)) V → V.heap[gb]? = some (.cells #[.int .i64 (p : Int), .int .i64 (q : Int)] 85 (0, 0)) → V.cell? ⟨w.heap.size + 1, 1, none⟩ = some v ∧ V.cell? ⟨gb, 1, none⟩ = some (.int .i64 (q : Int))) := fun V h1 h2 => ⟨(cells_two h1.box).2.1, (cells_two h2).2.1⟩
      have HXd := Lib.hid HX3.out.drew
      have HGd : Hid (W3.drew.heap[gb]? = some (.cells #[.int .i64 (p : Int), .int .i64 (q : Int)] 85 (0, 0))) := HG3.out
      clear y1 y2 b1 b2 hcl HX3 HG3
      go_upto_region 6 with fail
      obtain ⟨wd, hwd⟩ : ∃ wd, wd = W3.drew := ⟨_, rfl⟩
      rw [← hwd] at HXd HGd
      refine region_E 9 (fun w' => w'.cell? ⟨w.heap.size + 1, 1, none⟩ = some v ∧ w'.cell? ⟨gb, 1, none⟩ = some (.int .i64 (q : Int))) (by kernel_rfl) ?_
      rw [← hwd]
      clear hwd
      have hHeld := HHd.out wd HXd.out HGd.out
      refine take_E (n := 9) (i := 0) (v := ?vtt_0) rfl (by kernel_rfl) (fun _ _ _ h => h) ?hytt_0 (by rfl) hHeld ?resttt_0
      case hytt_0 => (intro w9 hSw; (try dsimp only at hSw); go_simp <;> with_reducible rfl)
      (try simp only [List.getElem_toArray, List.getElem_cons_zero, List.getElem_cons_succ, Act.put, List.setIfInBounds_toArray, List.set_cons_zero, List.set_cons_succ])
      refine take_E (n := 9) (i := 1) (v := ?vtt_1) rfl (by kernel_rfl) (fun _ _ _ h => h) ?hytt_1 (by rfl) hHeld ?resttt_1
      case hytt_1 => (intro w9 hSw; (try dsimp only at hSw); go_simp <;> with_reducible rfl)
      (try simp only [List.getElem_toArray, List.getElem_cons_zero, List.getElem_cons_succ, Act.put, List.setIfInBounds_toArray, List.set_cons_zero, List.set_cons_succ])
      refine take_E (n := 9) (i := 2) (v := ?vtt_2) rfl (by kernel_rfl) (fun _ _ _ h => h) ?hytt_2 (by rfl) hHeld ?resttt_2
      case hytt_2 => (intro w9 hSw; (try dsimp only at hSw); go_simp <;> with_reducible rfl)
      (try simp only [List.getElem_toArray, List.getElem_cons_zero, List.getElem_cons_succ, Act.put, List.setIfInBounds_toArray, List.set_cons_zero, List.set_cons_succ])
      refine take_E (n := 9) (i := 3) (v := ?vtt_3) rfl (by kernel_rfl) (fun _ _ _ h => h) ?hytt_3 (by rfl) hHeld ?resttt_3
      case hytt_3 => (intro w9 hSw; (try dsimp only at hSw); go_simp <;> with_reducible rfl)
      (try simp only [List.getElem_toArray, List.getElem_cons_zero, List.getElem_cons_succ, Act.put, List.setIfInBounds_toArray, List.set_cons_zero, List.set_cons_succ])
      refine take_E (n := 9) (i := 4) (v := ?vtt_4) rfl (by kernel_rfl) (fun _ _ _ h => h) ?hytt_4 (by rfl) hHeld ?resttt_4
      case hytt_4 => (intro w9 hSw; (try dsimp only at hSw); go_simp <;> with_reducible rfl)
      (try simp only [List.getElem_toArray, List.getElem_cons_zero, List.getElem_cons_succ, Act.put, List.setIfInBounds_toArray, List.set_cons_zero, List.set_cons_succ])
      refine take_E (n := 9) (i := 5) (v := ?vtt_5) rfl (by kernel_rfl) (fun _ _ _ h => h) ?hytt_5 (by rfl) hHeld ?resttt_5
      case hytt_5 => (intro w9 hSw; (try dsimp only at hSw); go_simp <;> with_reducible rfl)
      (try simp only [List.getElem_toArray, List.getElem_cons_zero, List.getElem_cons_succ, Act.put, List.setIfInBounds_toArray, List.set_cons_zero, List.set_cons_succ])
      refine take_E (n := 9) (i := 6) (v := ?vtt_6) rfl (by kernel_rfl) (fun _ _ _ h => h) ?hytt_6 (by rfl) hHeld ?resttt_6
      case hytt_6 => (intro w9 hSw; (try dsimp only at hSw); go_simp <;> with_reducible rfl)
      (try simp only [List.getElem_toArray, List.getElem_cons_zero, List.getElem_cons_succ, Act.put, List.setIfInBounds_toArray, List.set_cons_zero, List.set_cons_succ])
      refine take_E (n := 9) (i := 7) (v := ?vtt_7) rfl (by kernel_rfl) (fun _ _ _ h => h) ?hytt_7 (by rfl) hHeld ?resttt_7
      case hytt_7 => (intro w9 hSw; (try dsimp only at hSw); go_simp <;> with_reducible rfl)
      (try simp only [List.getElem_toArray, List.getElem_cons_zero, List.getElem_cons_succ, Act.put, List.setIfInBounds_toArray, List.set_cons_zero, List.set_cons_succ])
      refine one_E (n := 9) (i := 8) (by kernel_rfl) rfl (fun K hK => ?_)
      go_simp
      refine hK.out _ _ (fun _ => HHd.out _ (HXd.out.on (below1 wd _)) (block_alloc HGd.out _)) (fun hHeld8 => ?_)
      clear hK K
      (try simp only [List.getElem_toArray, List.getElem_cons_zero, List.getElem_cons_succ, Act.put, List.setIfInBounds_toArray, List.set_cons_zero, List.set_cons_succ])
      refine one_E (n := 9) (i := 9) (by kernel_rfl) rfl (fun K hK => ?_)
      refine step_append_lies _ (by rfl) _ _ _ (by rfl) w2.heap.size 3 i0 _ 1 8 Try.underlying36 hi0 z0 z1 z2 rfl (by omega) v _ _ (by rfl) (HXd.out.on (below1 wd _)).own ⟨wd.heap.size, 0, none⟩ 1 1 [.int .i64 (x : Nat)] (by rfl) (by rfl) (World.news_of_block (cs := #[.int .i64 (x : Nat)]) (t := 3) (fr := (0, 0)) (heap_alloc_new wd _)) (by simp [Value.oneCell']) (by omega) (by simp; unfold maxLen; omega) (by simp; omega) (by have := HXd.out.size; simp; omega) (wd.heap.size + 1) (by simp) ?_
      intro gg cap' p2 hown2 hgrow hat hlt3
      obtain ⟨hbx, hxn⟩ := HXd.out.push hown2 hgrow
      have hlk : ((G.take k).map fun g => (quX D g : Int)).length = k := by rw [List.length_map, List.length_take]; omega
      rw [hlk] at hxn
      have HXn := Lib.hid hxn
      obtain ⟨e1, e2, ef⟩ := cells_two hbx
      clear hown2 hgrow hat hxn hbx
      refine hK.out _ _ (fun h => absurd h (by decide)) (fun hHeld9 => ?_)
      clear hK K
      (try simp only [List.getElem_toArray, List.getElem_cons_zero, List.getElem_cons_succ, Act.put, List.setIfInBounds_toArray, List.set_cons_zero, List.set_cons_succ])
      refine one_E (n := 9) (i := 10) (by kernel_rfl) rfl (fun K hK => ?_)
      go_simp
      refine hK.out _ _ (fun h => absurd h (by decide)) (fun hHeld10 => ?_)
      clear hK K
      (try simp only [List.getElem_toArray, List.getElem_cons_zero, List.getElem_cons_succ, Act.put, List.setIfInBounds_toArray, List.set_cons_zero, List.set_cons_succ])
      refine one_E (n := 9) (i := 11) (by kernel_rfl) rfl (fun K hK => ?_)
      go_simp
      refine hK.out _ _ (fun h => absurd h (by decide)) (fun hHeld11 => ?_)
      clear hK K
      (try simp only [List.getElem_toArray, List.getElem_cons_zero, List.getElem_cons_succ, Act.put, List.setIfInBounds_toArray, List.set_cons_zero, List.set_cons_succ])
      refine done_E (by kernel_rfl) ?_ _
      go_wp2
      go_roundw
      case rel => exact ⟨k + 1, _, by go_num, by omega, by rw [HN.out]; exact HXn.out⟩
      case measure => simp [intOf]; omega
    · obtain rfl : k = G.length := by omega
      have hk3 : ¬ (G.length : Int) < (G.length : Int) := by omega
      have HE := Lib.hid HP.out
      rw [HE.out] at HX
      obtain ⟨A0, l0, c0, rfl⟩ := ownsRow_slice HX.out.own
      obtain ⟨e0, e1, ef⟩ := cells_two HX.out.box
      have HRr := Lib.hid ((HX.out.keep w.heap.size (by omega) (by omega)).trans HR2.out)
      obtain ⟨r0, r1, rf⟩ := cells_two HRr.out
      have HRs := Lib.hid (two_setC HRr.out (.int .i64 (n : Int)) (.slice A0 l0 c0))
      obtain ⟨s0, s1, sf⟩ := cells_two HRs.out
      have HO := Lib.hid (own_base (show w.heap.size + 2 ≤ w2.heap.size by omega) (ownsRow_setCell_below (ownsRow_setCell_below HX.out.own (a := ⟨w.heap.size, 0, none⟩) (by show w.heap.size < w2.heap.size; omega) (.int .i64 (n : Int))) (a := ⟨w.heap.size, 1, none⟩) (by show w.heap.size < w2.heap.size; omega) (.slice A0 l0 c0)))
      have HBe := Lib.hid ((HX.out.below.setCell (p := ⟨w.heap.size, 0, none⟩) (Nat.le_refl _) (.int .i64 (n : Int))).setCell (p := ⟨w.heap.size, 1, none⟩) (Nat.le_refl _) (.slice A0 l0 c0))
      go_wp2
      refine bodyPost_ret (v := .agg #[.int .i64 (n : Int), .slice A0 l0 c0]) ?_ rfl ⟨_, rfl, HO.out, HBe.out⟩
      simp [results, Try.results54, go_sem, s0, s1]
end Go.Proofs.Ytaofkfphkkfbnaa
namespace Go.Proofs.Ytaofkfphkkfbnaa
open Go.RowKit
set_option linter.unusedVariables false
set_option linter.unusedSimpArgs false

set_option maxHeartbeats 3200000 in
set_option maxRecDepth 1000000 in
theorem dquad_any (D : Int) (w : World) (hf : fdB D = true) (d1 : -60 ≤ D) (d2 : D ≤ 60) :
    Calls Try.prog 25 #[.int .i64 D] w fun e w' => ∃ v, e = .returned (.tuple #[.agg #[.int .i64 (D.natAbs : Nat), v], .int .i64 0]) ∧ w'.ownsRow (w.heap.size + 2) 3 1 v (quE D D.natAbs).length (zs (quE D D.natAbs)) ∧ Below w.heap.size w w' := by
  unfold fdB at hf
  simp only [Bool.and_eq_true, decide_eq_true_eq] at hf
  obtain ⟨⟨h0, h4⟩, he⟩ := hf
  have hmax : max D (-D) = ((D.natAbs : Nat) : Int) := by omega
  have hneg : IntKind.i64.wrap (-D) = -D := IntWalk.i64_in _ (by omega)
  have HF := Lib.hid (fun W => fund_F D (sgn D) D.natAbs (facs 2 D.natAbs) W rfl h0 rfl (by omega) rfl h4)
  have HC := Lib.hid (fun V hV => charq_any D D.natAbs w.heap.size V (by omega) (by omega) d1 d2 hV)
  have HB0 : Hid (Below w.heap.size w ((w.alloc (.cells #[.int .i64 D] 3)).alloc (.cells #[.int .i64 0, .slice none 0 0] 39))) := below2 w _ _
  have T0 : Hid (((w.alloc (.cells #[.int .i64 D] 3)).alloc (.cells #[.int .i64 0, .slice none 0 0] 39)).heap[w.heap.size]? = some (.cells #[.int .i64 D] 3 (0, 0))) := block_alloc (heap_alloc_new w _) _
  have R0 : Hid (((w.alloc (.cells #[.int .i64 D] 3)).alloc (.cells #[.int .i64 0, .slice none 0 0] 39)).heap[w.heap.size + 1]? = some (.cells #[.int .i64 0, .slice none 0 0] 39 (0, 0))) := by
    have := heap_alloc_new (w.alloc (.cells #[.int .i64 D] 3)) (.cells #[.int .i64 0, .slice none 0 0] 39)
    show _ = _
    simpa using this
  have c0 := cell_of_one T0.out
  have i1 : ¬ D < -60 := by omega
  have i2 : (D == 0) = false := by rw [beq_eq_false_iff_ne]; exact h0
  have i3 : ¬ 60 < D := by omega
  clear h4
  go_enter Try.func25, Try.ntmps25
  go_wp2_with (first
    | (go_at_call 53; ((with_reducible refine (HF.out _).mono ?_); rintro e w1 ⟨disc, f, rfl, hh, hb⟩; have HB := Lib.hid (HB0.out.trans (hb.mono HB0.out.size)); have T1 := Lib.hid (block_below T0.out hb); have R1 := Lib.hid (block_below R0.out hb); have c1 := cell_of_one T1.out; have hdd := funV_of rfl hh.out; rw [he] at hdd; subst hdd; clear hb hh he HF c0))
    | (go_at_call 54; ((with_reducible refine (HC.out _ T1.out).mono ?_); rintro e w3 ⟨v, rfl, ho, hb⟩; obtain ⟨A0, l0, cc0, rfl⟩ := ownsRow_slice ho; have HO := Lib.hid ho; have HB3 := Lib.hid (HB.out.trans (hb.mono HB.out.size)); have R3 := Lib.hid (block_below R1.out hb); obtain ⟨r0, r1, rf⟩ := cells_two R3.out; clear hb ho))
    | fail)
  have hs1 := lt_of_block R1.out
  have R4 := Lib.hid (two_setC R3.out (.int .i64 (disc.natAbs : Nat)) (.slice A0 l0 cc0))
  obtain ⟨s0, s1, sf⟩ := cells_two R4.out
  have HO2 := Lib.hid (own_base (show w.heap.size + 2 ≤ w1.heap.size + 2 by omega) (ownsRow_setCell_below (ownsRow_setCell_below HO.out (a := ⟨w.heap.size + 1, 0, none⟩) (by show w.heap.size + 1 < w1.heap.size + 2; omega) (.int .i64 (disc.natAbs : Nat))) (a := ⟨w.heap.size + 1, 1, none⟩) (by show w.heap.size + 1 < w1.heap.size + 2; omega) (.slice A0 l0 cc0)))
  have HB4 := Lib.hid ((HB3.out.setCell (p := ⟨w.heap.size + 1, 0, none⟩) (by show w.heap.size ≤ w.heap.size + 1; omega) (.int .i64 (disc.natAbs : Nat))).setCell (p := ⟨w.heap.size + 1, 1, none⟩) (by show w.heap.size ≤ w.heap.size + 1; omega) (.slice A0 l0 cc0))
  refine bodyPost_ret (v := .tuple #[.agg #[.int .i64 (disc.natAbs : Nat), .slice A0 l0 cc0], .int .i64 0]) ?_ rfl ⟨_, rfl, HO2.out, HB4.out⟩
  simp [results, Try.results25, go_sem, s0, s1]
end Go.Proofs.Ytaofkfphkkfbnaa
namespace Go.Proofs.Ytaofkfphkkfbnaa
set_option linter.unusedVariables false

/-- The common modulus of the logarithms. -/
def tbM (G : List (Nat × Nat)) : Nat := G.foldl (fun m g => Nat.lcm m g.2) 1
/-- The powers of one generator from one unit on. -/
def tbP (n v : Nat) (st : Int) (m : Nat) : Nat → Nat → List Int × List Nat → List Int × List Nat
  | 0, _, s => s
  | j + 1, a, s => tbP n v st m j (a * v % n) (s.1.set (a * v % n) ((s.1.getD a 0 + st) % (m : Int)), s.2 ++ [a * v % n])
def tbU (n v o : Nat) (st : Int) (m : Nat) : List Nat → List Int × List Nat → List Int × List Nat
  | [], s => s
  | a :: l, s => tbU n v o st m l (tbP n v st m (o - 1) a s)
def tbG (n m : Nat) : List (Nat × Nat) → List Int → List Int × List Nat → List Int × List Nat
  | g :: G, x :: E, s => tbG n m G E (tbU n g.1 g.2 (x * ((m / g.2 : Nat) : Int)) m s.2 s)
  | _, _, s => s
/-- The logarithms of a character. -/
def tbV (n : Nat) (E : List Int) : List Int := (tbG n (tbM (gensV n)) (gensV n) E ((List.replicate n (-1)).set (1 % n) 0, [1 % n])).1
def kv (D : Int) (a : Nat) : Int := if kron D (a : Int) = 1 then 0 else 1
/-- What a quadratic character's table is. -/
def tbOk (D : Int) (n : Nat) (E : List Int) : Bool :=
  decide ((tbV n E).length = n) && (List.range n).all fun a => if Nat.gcd a n = 1 then decide ((tbV n E).getD a 0 * 2 = (tbM (gensV n) : Int) * kv D a) else decide ((tbV n E).getD a 0 = -1)
/-- The exponents that Extend answers. -/
def exE (D : Int) (n : Nat) : List Int := (gensV n).map fun g => (tbV D.natAbs (quE D D.natAbs)).getD (g.1 % D.natAbs) 0 * (g.2 : Int) / (tbM (gensV D.natAbs) : Int)
def fd6 : List Int := ((List.range 121).map fun (i : Nat) => (i : Int) - 60).filter fdB
def tbA (D : Int) : Bool := tbOk D D.natAbs (quE D D.natAbs)
set_option maxRecDepth 1000000 in
theorem tab_quad : (fd6.all tbA) = true := by decide +kernel
def tbB (D : Int) : Bool := (List.range 60).all fun i => if (i + 1) % D.natAbs = 0 then tbOk D (i + 1) (exE D (i + 1)) else true
set_option maxRecDepth 1000000 in
theorem tab_ext : (fd6.all tbB) = true := by decide +kernel
theorem fd6_mem {D : Int} (d1 : -60 ≤ D) (d2 : D ≤ 60) (h : fdB D = true) : D ∈ fd6 := by
  unfold fd6
  rw [List.mem_filter]
  refine ⟨List.mem_map.2 ⟨(D + 60).toNat, List.mem_range.2 (by omega), by omega⟩, h⟩
/-- The table of the quadratic character. -/
theorem tab_q {D : Int} (d1 : -60 ≤ D) (d2 : D ≤ 60) (h : fdB D = true) : tbOk D D.natAbs (quE D D.natAbs) = true := List.all_eq_true.1 tab_quad D (fd6_mem d1 d2 h)
/-- The table of its extension to n. -/
theorem tab_e {D : Int} {n : Nat} (d1 : -60 ≤ D) (d2 : D ≤ 60) (h : fdB D = true) (n1 : 1 ≤ n) (n2 : n ≤ 60) (hn : n % D.natAbs = 0) : tbOk D n (exE D n) = true := by
  have h1 := List.all_eq_true.1 tab_ext D (fd6_mem d1 d2 h)
  have h2 := List.all_eq_true.1 h1 (n - 1) (List.mem_range.2 (by omega))
  rw [show n - 1 + 1 = n by omega, if_pos hn] at h2
  exact h2
end Go.Proofs.Ytaofkfphkkfbnaa
namespace Go.Proofs.Ytaofkfphkkfbnaa
set_option linter.unusedVariables false

/-- isPeriod's loop: from a on in steps of f no logarithm is positive. -/
def pdL (T : List Int) (f : Nat) : Nat → Nat → Bool
  | 0, _ => true
  | j + 1, a => if a < T.length then (if 0 < T.getD a 0 then false else pdL T f j (a + f)) else true
/-- What isPeriod answers. -/
def pdV (T : List Int) (f : Nat) : Bool := if T.length % f = 0 then pdL T f T.length (1 % f) else false
/-- What the tables of a quadratic character and of its extension to n give besides. -/
def exOk (D : Int) (n : Nat) : Bool :=
  let T := tbV n (exE D n)
  let T0 := tbV D.natAbs (quE D D.natAbs)
  (ckX n (exE D n) = 0) && (ckX D.natAbs (quE D D.natAbs) = 0) && ((gensV n).all fun g => decide (0 ≤ T0.getD (g.1 % D.natAbs) 0)) && pdV T D.natAbs && ((List.range D.natAbs).all fun f => f = 0 || !pdV T f)
def exB (D : Int) : Bool := (List.range 60).all fun i => if (i + 1) % D.natAbs = 0 then exOk D (i + 1) else true
set_option maxRecDepth 1000000 in
theorem ex_all : (fd6.all exB) = true := by decide +kernel
structure ExF (D : Int) (n : Nat) : Prop where
  ck : ckX n (exE D n) = 0
  ck0 : ckX D.natAbs (quE D D.natAbs) = 0
  g0 : ∀ g ∈ gensV n, 0 ≤ (tbV D.natAbs (quE D D.natAbs)).getD (g.1 % D.natAbs) 0
  pd : pdV (tbV n (exE D n)) D.natAbs = true
  np : ∀ f, 1 ≤ f → f < D.natAbs → pdV (tbV n (exE D n)) f = false
theorem ex_of {D : Int} {n : Nat} (d1 : -60 ≤ D) (d2 : D ≤ 60) (h : fdB D = true) (n1 : 1 ≤ n) (n2 : n ≤ 60) (hn : n % D.natAbs = 0) : ExF D n := by
  have h1 := List.all_eq_true.1 ex_all D (fd6_mem d1 d2 h)
  have h2 := List.all_eq_true.1 h1 (n - 1) (List.mem_range.2 (by omega))
  rw [show n - 1 + 1 = n by omega, if_pos hn] at h2
  unfold exOk at h2
  simp only [Bool.and_eq_true, decide_eq_true_eq] at h2
  obtain ⟨⟨⟨⟨a, b⟩, c⟩, d⟩, e⟩ := h2
  refine ⟨a, b, fun g hg => by simpa using List.all_eq_true.1 c g hg, d, fun f f1 f2 => ?_⟩
  have h3 := List.all_eq_true.1 e f (List.mem_range.2 f2)
  simp only [Bool.or_eq_true, decide_eq_true_eq, Bool.not_eq_true'] at h3
  rcases h3 with h3 | h3
  · omega
  · exact h3
end Go.Proofs.Ytaofkfphkkfbnaa
namespace Go.Proofs.Ytaofkfphkkfbnaa
open Go.RowKit
set_option linter.unusedVariables false
set_option linter.unusedSimpArgs false

theorem getD_some (T : List Int) (j : Nat) (h : j < T.length) : T[j]? = some (T.getD j 0) := by
  rw [List.getD_eq_getElem?_getD, List.getElem?_eq_getElem h]; rfl
set_option maxHeartbeats 1600000 in
set_option maxRecDepth 1000000 in
theorem isper_any (T : List Int) (m : Int) (f : Nat) (A : Option Addr) (c : Nat) (w : World) (hT : RdZ w w.heap.size A c T) (hn1 : 1 ≤ T.length) (hn2 : T.length ≤ 60) (f1 : 1 ≤ f) (f2 : (f : Int) ≤ 60) :
    Calls Try.prog 121 #[.agg #[.slice A T.length c, .int .i64 m], .int .i64 (f : Int)] w fun e w' => e = .returned (.bool (pdV T f)) ∧ Below w.heap.size w w' := by
  have T0 : Hid ((w.alloc (.cells #[.slice A T.length c, .int .i64 m] 65)).heap[w.heap.size]? = some (.cells #[.slice A T.length c, .int .i64 m] 65 (0, 0))) := heap_alloc_new w _
  have HB0 : Hid (Below w.heap.size w (w.alloc (.cells #[.slice A T.length c, .int .i64 m] 65))) := below1 w _
  have HT := Lib.hid (hT.below HB0.out)
  obtain ⟨c0, c1, _⟩ := cells_two T0.out
  have hlm : Int.tmod (T.length : Int) (f : Int) = ((T.length % f : Nat) : Int) := (Int.ofNat_tmod _ _).symm
  have hle : (T.length : Int) % (f : Int) = ((T.length % f : Nat) : Int) := (Int.natCast_emod _ _).symm
  have hom : Int.tmod 1 (f : Int) = ((1 % f : Nat) : Int) := (Int.ofNat_tmod 1 f).symm
  have hoe : 1 % (f : Int) = ((1 % f : Nat) : Int) := (Int.natCast_emod 1 f).symm
  have f0 : ((f : Int) == 0) = false := by rw [beq_eq_false_iff_ne]; omega
  have f0' : ¬ ((f : Int) = 0) := by omega
  have f0'' : ¬ (f = 0) := by omega
  have hr1 : T.length % f ≤ T.length := Nat.mod_le _ _
  have ho1 : 1 % f ≤ 1 := Nat.mod_le _ _
  have HV : Hid (pdV T f = if T.length % f = 0 then pdL T f T.length (1 % f) else false) := rfl
  have HL : Hid (∀ j a, pdL T f (j + 1) a = if a < T.length then (if 0 < T.getD a 0 then false else pdL T f j (a + f)) else true) := fun _ _ => rfl
  have HZ : Hid (∀ a, pdL T f 0 a = true) := fun _ => rfl
  have HCl : Hid (∀ a (h : a < T.length) W, Below (w.alloc (.cells #[.slice A T.length c, .int .i64 m] 65)).heap.size (w.alloc (.cells #[.slice A T.length c, .int .i64 m] 65)) W → ∃ b o, A = some ⟨b, o, none⟩ ∧ W.cell? ⟨b, o + a, none⟩ = some (.int .i64 (T.getD a 0))) := fun a h W hW => by
    obtain ⟨b, o, e, hb, hc⟩ := ((HT.out.mono (by simp)).below hW).at_ h
    refine ⟨b, o, e, ?_⟩
    rw [hc, List.getD_eq_getElem?_getD, List.getElem?_eq_getElem h]; rfl
  clear hT HT
  generalize pdV T f = r at *
  generalize hN : T.length = N at *
  clear hN
  go_enter Try.func121, Try.ntmps121
  by_cases hz : N % f = 0
  · rw [if_pos hz] at HV
    rw [hz] at hlm hle
    generalize 1 % f = u at *
    have hwu : IntKind.i64.wrap (u : Int) = (u : Int) := IntWalk.i64_in _ (by omega)
    go_upto_region 4 with fail
    obtain ⟨W1, hW1⟩ : ∃ W1, W1 = w.alloc (.cells #[.slice A N c, .int .i64 m] 65) := ⟨_, rfl⟩
    rw [← hW1] at T0 HB0 HCl ⊢
    clear c0 c1 hW1 hz
    go_loopw [5] (fun I wr => ∃ j a : Nat, I = .int .i64 (a : Int) ∧ a ≤ 120 ∧ N ≤ a + j ∧ Hid (pdL T f j a = r) ∧ Hid (Below W1.heap.size W1 wr)) (fun I _ => 121 - (intOf I).toNat)
    case atStart => exact ⟨N, u, rfl, by omega, by omega, HV.out.symm, Below.refl _ _⟩
    case round =>
      obtain ⟨j, a, rfl, ha, hj, HP, HW⟩ := hrel
      obtain ⟨c0, c1, _⟩ := cells_two (block_below T0.out HW.out)
      by_cases haN : a < N
      · have haNi : (a : Int) < (N : Int) := by omega
        obtain ⟨b, o, rfl, x1⟩ := HCl.out a haN wr HW.out
        obtain ⟨j, rfl⟩ : ∃ j', j = j' + 1 := ⟨j - 1, by omega⟩
        have hp := HP.out
        rw [HL.out, if_pos haN] at hp
        by_cases hx : 0 < T.getD a 0
        · rw [if_pos hx] at hp
          have HR := Lib.hid hp
          clear hp
          generalize T.getD a 0 = x at *
          go_wp2
          go_ret
          exact ⟨by rw [← HR.out]; rfl, HB0.out.trans (HW.out.mono HB0.out.size)⟩
        · rw [if_neg hx] at hp
          have HR := Lib.hid hp
          clear hp
          generalize T.getD a 0 = x at *
          have hx2 : x ≤ 0 := by omega
          go_wp2
          go_roundw
          case rel => exact ⟨j, a + f, by go_num, by omega, by omega, HR.out, HW.out⟩
          case measure => simp [intOf]; omega
      · have haNi : ¬ (a : Int) < (N : Int) := by omega
        have hp : Hid (r = true) := by
          show _ = _
          rcases j with _ | j
          · rw [← HP.out, HZ.out]
          · rw [← HP.out, HL.out, if_neg haN]
        go_wp2
        go_ret
        exact ⟨by rw [hp.out]; rfl, HB0.out.trans (HW.out.mono HB0.out.size)⟩
  · rw [if_neg hz] at HV
    have hz1 : ¬ (((N % f : Nat) : Int) = 0) := by omega
    have hz2 : (((N % f : Nat) : Int) == 0) = false := by rw [beq_eq_false_iff_ne]; omega
    have hwr : IntKind.i64.wrap ((N % f : Nat) : Int) = ((N % f : Nat) : Int) := IntWalk.i64_in _ (by generalize N % f = z at *; omega)
    have hz3 : (((N % f : Nat) : Int) != 0) = true := by rw [bne_iff_ne]; exact hz1
    generalize N % f = z at *
    go_wp2
    go_ret
    exact ⟨by rw [HV.out]; rfl, HB0.out⟩
set_option maxHeartbeats 1600000 in
set_option maxRecDepth 1000000 in
theorem tcond_any (T : List Int) (m : Int) (C : Nat) (A : Option Addr) (c : Nat) (w : World) (hT : RdZ w w.heap.size A c T) (hn1 : 1 ≤ T.length) (hn2 : T.length ≤ 60) (C1 : 1 ≤ C) (C2 : (C : Int) ≤ 60) (hC : pdV T C = true) (hl : ∀ f, 1 ≤ f → f < C → pdV T f = false) :
    Calls Try.prog 105 #[.agg #[.slice A T.length c, .int .i64 m]] w fun e w' => e = .returned (.int .i64 (C : Int)) ∧ Below w.heap.size w w' := by
  have T0 : Hid ((w.alloc (.cells #[.slice A T.length c, .int .i64 m] 65)).heap[w.heap.size]? = some (.cells #[.slice A T.length c, .int .i64 m] 65 (0, 0))) := heap_alloc_new w _
  have HB0 : Hid (Below w.heap.size w (w.alloc (.cells #[.slice A T.length c, .int .i64 m] 65))) := below1 w _
  have HT := Lib.hid (hT.below HB0.out)
  have HPe := Lib.hid (fun (f : Nat) (h1 : 1 ≤ f) (h2 : (f : Int) ≤ 60) (W : World) (hW : RdZ W W.heap.size A c T) => isper_any T m f A c W hW hn1 hn2 h1 h2)
  have HC := Lib.hid hC
  have HN := Lib.hid hl
  clear hT hC hl
  go_enter Try.func105, Try.ntmps105
  go_upto_region 2 with fail
  obtain ⟨W1, hW1⟩ : ∃ W1, W1 = w.alloc (.cells #[.slice A T.length c, .int .i64 m] 65) := ⟨_, rfl⟩
  have hsz : w.heap.size ≤ W1.heap.size := by rw [hW1]; simp
  rw [← hW1] at T0 HB0 HT ⊢
  clear hW1
  go_loopw [3] (fun I wr => ∃ f : Nat, I = .int .i64 (f : Int) ∧ 1 ≤ f ∧ f ≤ C ∧ Hid (Below W1.heap.size W1 wr)) (fun I _ => C - (intOf I).toNat)
  case atStart => exact ⟨1, rfl, by omega, by omega, Below.refl _ _⟩
  case round =>
    obtain ⟨f, rfl, hf1, hf2, HW⟩ := hrel
    obtain ⟨c0, c1, _⟩ := cells_two (block_below T0.out HW.out)
    have hp := HPe.out f hf1 (by omega) wr (((HT.out.mono hsz).below HW.out).mono HW.out.size)
    have Hp := Lib.hid hp
    clear hp
    by_cases hfC : f = C
    · subst hfC
      rw [HC.out] at Hp
      go_wp2_with (first
        | (go_at_call 121; ((with_reducible refine Hp.out.mono ?_); rintro e w3 ⟨rfl, hb⟩; have HW3 := Lib.hid (HW.out.trans (hb.mono HW.out.size)); clear hb))
        | fail)
      go_ret
      exact ⟨rfl, HB0.out.trans (HW3.out.mono HB0.out.size)⟩
    · rw [HN.out f hf1 (by omega)] at Hp
      go_wp2_with (first
        | (go_at_call 121; ((with_reducible refine Hp.out.mono ?_); rintro e w3 ⟨rfl, hb⟩; have HW3 := Lib.hid (HW.out.trans (hb.mono HW.out.size)); clear hb))
        | fail)
      go_roundw
      case rel => exact ⟨f + 1, by go_num, by omega, by omega, HW3.out⟩
      case measure => simp [intOf]; omega
end Go.Proofs.Ytaofkfphkkfbnaa
