/- The three points of the guard of layer 22: projective, cycles, Euler, Level there. -/
import Derived.Test.YtmikhkolbkdnpaaProL
import Derived.Test.YtmikhkolbkdnpaaCycL
import Derived.Test.YtmikhkolbkdnpaaChkL
import Derived.Deep.RegionHeld3
namespace Go.Proofs.Ytmikhkolbkdnpaa
open Go.RowKit
set_option linter.unusedVariables false
set_option linter.unusedSimpArgs false

theorem act3 : Act2 [1, 0, 2] [0, 2, 1] := ⟨by decide, by decide, rfl, by decide, by decide, by decide +kernel, by decide +kernel⟩
theorem chk3 : chkA [1, 0, 2] [0, 2, 1] = 0 := chkA_ok act3
theorem prm3 {S : List Int} (h : okP S) (hl : S.length = 3) : Prm (fnz S) 3 := by have := okP_prm h; rwa [hl] at this
/-- Three cells that read as a list. -/
theorem rdn3 {w : World} {B c : Nat} {A : Option Addr} {S : List Int} (h : RdZ w B A c S) (hp : okP S) (hl : S.length = 3) : ∃ b o, A = some ⟨b, o, none⟩ ∧ RdN w B b o 3 (fnz S) := by
  obtain ⟨b, o, e, r⟩ := h.rdn hp (by omega)
  rw [hl] at r
  exact ⟨b, o, e, r⟩
theorem pcheck3 {B cS cT : Nat} {AS AT : Option Addr} (w : World) (hS : RdZ w B AS cS [1, 0, 2]) (hT : RdZ w B AT cT [0, 2, 1]) (hB : B ≤ w.heap.size) :
    Calls Try.prog 34 #[.agg #[.slice AS 3 cS, .slice AT 3 cT]] w fun e w' => e = .returned (.int .i64 0) ∧ Below w.heap.size w w' := by
  have := pcheck_any w hS hT hB
  rw [chk3] at this
  exact this
theorem pj3 : (pjN (fun i => fnz [1, 0, 2] (fnz [1, 0, 2] i)) 3).2 = [0, 1, 2] ∧ ([0, 1, 2] : List Nat).map (fun i => (pjN (fun i => fnz [1, 0, 2] (fnz [1, 0, 2] i)) 3).1 (fnz [1, 0, 2] i)) = [1, 0, 2] ∧ ([0, 1, 2] : List Nat).map (fun i => (pjN (fun i => fnz [1, 0, 2] (fnz [1, 0, 2] i)) 3).1 (fnz [0, 2, 1] i)) = [0, 2, 1] := by decide +kernel
theorem projective3 {cS cT : Nat} {AS AT : Option Addr} (w : World) (hS : RdZ w w.heap.size AS cS [1, 0, 2]) (hT : RdZ w w.heap.size AT cT [0, 2, 1]) :
    Calls Try.prog 35 #[.agg #[.slice AS 3 cS, .slice AT 3 cT]] w fun e w' => ∃ A c A' c', e = .returned (.agg #[.slice A 3 c, .slice A' 3 c']) ∧ RdZ w' w'.heap.size A c [1, 0, 2] ∧ RdZ w' w'.heap.size A' c' [0, 2, 1] ∧ Below w.heap.size w w' := by
  obtain ⟨bS, oS, rfl, rS⟩ := rdn3 hS act3.s rfl
  obtain ⟨bT, oT, rfl, rT⟩ := rdn3 hT act3.t rfl
  refine (projective_any w rS rT (prm3 act3.s rfl) (prm3 act3.t rfl) (by omega)).mono ?_
  rintro e w' ⟨A, c, A', c', rfl, h1, h2, hb⟩
  rw [pj3.1] at h1 h2 ⊢
  rw [pj3.2.1] at h1
  rw [pj3.2.2] at h2
  obtain ⟨A1, c1, e1, r1⟩ := own_rdz (F := [1, 0, 2]) h1
  obtain ⟨A2, c2, e2, r2⟩ := own_rdz (F := [0, 2, 1]) h2
  cases e1
  cases e2
  exact ⟨A, c, A', c', rfl, r1, r2, hb⟩
theorem run_field1 (A A' : Option Addr) (n n' k k' : Nat) (W : World) : (Instr.field 24 (.agg #[.slice A n k, .slice A' n' k']) 1).run Try.prog W = .ok (.slice A' n' k') W := by
  simp [Instr.field, go_sem, asAgg]
theorem cycles3 {cT b o : Nat} {f : Nat → Nat} (w : World) (h : RdN w w.heap.size b o 3 f) (hp : Prm f 3) {L : List Nat} (hL : cyN f 3 = L) :
    Calls Try.prog 36 #[.slice (some ⟨b, o, none⟩) 3 cT] w fun e w' => ∃ A c, e = .returned (.slice A L.length c) ∧ RdZ w' w'.heap.size A c (iz L) ∧ Below w.heap.size w w' := by
  refine (cycles_any w h hp (by omega)).mono ?_
  rintro e w' ⟨A, c, rfl, h1, hb⟩
  rw [hL] at h1 ⊢
  rw [← iz_len] at h1
  obtain ⟨A1, c1, e1, r1⟩ := own_rdz h1
  cases e1
  exact ⟨A, c, rfl, r1, hb⟩
theorem cy3 : cyN (fnz [1, 0, 2]) 3 = [2, 1] ∧ cyN (fnz [0, 2, 1]) 3 = [1, 2] ∧ cyN (fun j => fnz [0, 2, 1] (fnz [1, 0, 2] j)) 3 = [3] := by decide +kernel
/-- S followed by T at the three points, as a list on the way. -/
structure EV (w1 wr : World) (vs vt : Value) (k : Nat) : Prop where
  row : wr.rowIs (w1.heap.size + 1) 3 3 (fun j => .int .i64 (if j < k then fnz [0, 2, 1] (fnz [1, 0, 2] j) else 0 : Nat))
  p : wr.heap[w1.heap.size]? = some (.cells #[vs, vt] 24 (0, 0))
  bel : Below w1.heap.size w1 wr
theorem EV.set {w1 wr : World} {vs vt : Value} {k : Nat} (h : EV w1 wr vs vt k) : EV w1 (wr.setCell ⟨w1.heap.size + 1, k, none⟩ (.int .i64 (fnz [0, 2, 1] (fnz [1, 0, 2] k) : Nat))) vs vt (k + 1) := by
  refine ⟨World.rowIs.congr (h.row.set k _) fun j _ => ?_, set_ne h.p (by omega) _, h.bel.setCell (by show _ ≤ w1.heap.size + 1; omega) _⟩
  by_cases e : j = k
  · subst e; simp
  · rw [if_neg e]
    by_cases e2 : j < k
    · rw [if_pos e2, if_pos (by omega)]
    · rw [if_neg e2, if_neg (by omega)]
theorem ev_start (w1 : World) (vs vt : Value) : EV w1 ((w1.alloc (.cells #[vs, vt] 24)).alloc (.cells (madeCells #[.int .i64 0] 3) 3)) vs vt 0 := by
  have hr := World.rowIs_made (w1.alloc (.cells #[vs, vt] 24)) (.int .i64 0) 3 3
  exact ⟨World.rowIs.congr (by simpa using hr) fun j _ => by simp, block_alloc (heap_alloc_new w1 _) _, below2 w1 _ _⟩
theorem prmst : Prm (fun j => fnz [0, 2, 1] (fnz [1, 0, 2] j)) 3 := ⟨fun i hi => (prm3 act3.t rfl).lt _ ((prm3 act3.s rfl).lt i hi), fun i j hi hj e => (prm3 act3.s rfl).inj i j hi hj ((prm3 act3.t rfl).inj _ _ ((prm3 act3.s rfl).lt i hi) ((prm3 act3.s rfl).lt j hj) e)⟩
set_option maxHeartbeats 3200000 in
set_option maxRecDepth 1000000 in
theorem euler3 {cS cT : Nat} {AS AT : Option Addr} (w : World) (hS : RdZ w w.heap.size AS cS [1, 0, 2]) (hT : RdZ w w.heap.size AT cT [0, 2, 1]) :
    Calls Try.prog 14 #[.agg #[.slice AS 3 cS, .slice AT 3 cT]] w fun e w' => e = .returned (.tuple #[.int .i64 2, .int .i64 0]) ∧ Below w.heap.size w w' := by
  have T0 : Hid ((w.alloc (.cells #[.slice AS 3 cS, .slice AT 3 cT] 24)).heap[w.heap.size]? = some (.cells #[.slice AS 3 cS, .slice AT 3 cT] 24 (0, 0))) := heap_alloc_new w _
  have HB0 : Hid (Below w.heap.size w (w.alloc (.cells #[.slice AS 3 cS, .slice AT 3 cT] 24))) := below1 w _
  have HCk := Lib.hid (fun W (hb : Below w.heap.size w W) => pcheck3 W (hS.below hb) (hT.below hb) hb.size)
  have HPr := Lib.hid (fun W (hb : Below w.heap.size w W) => projective3 W ((hS.below hb).mono hb.size) ((hT.below hb).mono hb.size))
  have HCS : Hid (∀ (W : World) A c, RdZ W W.heap.size A c [1, 0, 2] → Calls Try.prog 36 #[.slice A 3 c] W fun e w' => ∃ A c, e = .returned (.slice A 2 c) ∧ RdZ w' w'.heap.size A c [2, 1] ∧ Below W.heap.size W w') := fun W A c h => by
    obtain ⟨b, o, rfl, r⟩ := rdn3 h act3.s rfl
    exact cycles3 W r (prm3 act3.s rfl) cy3.1
  have HCT : Hid (∀ (W : World) A c, RdZ W W.heap.size A c [0, 2, 1] → Calls Try.prog 36 #[.slice A 3 c] W fun e w' => ∃ A c, e = .returned (.slice A 2 c) ∧ RdZ w' w'.heap.size A c [1, 2] ∧ Below W.heap.size W w') := fun W A c h => by
    obtain ⟨b, o, rfl, r⟩ := rdn3 h act3.t rfl
    exact cycles3 W r (prm3 act3.t rfl) cy3.2.1
  have HCU : Hid (∀ (W : World) b, RdN W W.heap.size b 0 3 (fun j => fnz [0, 2, 1] (fnz [1, 0, 2] j)) → Calls Try.prog 36 #[.slice (some ⟨b, 0, none⟩) 3 3] W fun e w' => ∃ A c, e = .returned (.slice A 1 c) ∧ RdZ w' w'.heap.size A c [3] ∧ Below W.heap.size W w') := fun W b h => cycles3 W h prmst cy3.2.2
  have hmk := fun W => mk_int2 3 W (by omega)
  simp only [show ((3 : Nat) : Int) = 3 from rfl] at hmk
  clear hS hT
  go_enter Try.func14, Try.ntmps14
  go_wp2_with (first
    | (go_at_call 34; ((with_reducible refine (HCk.out _ HB0.out).mono ?_); rintro e w1 ⟨rfl, hb⟩; have HB1 := Lib.hid (bel0 HB0.out hb); have T1 := Lib.hid (block_below T0.out hb); obtain ⟨⟨t1, t2⟩, _⟩ := two_of_block T1.out; clear hb))
    | (go_at_call 35; ((with_reducible refine (HPr.out _ HB1.out).mono ?_); rintro e w2 ⟨A1, c1, A2, c2, rfl, h1, h2, hb⟩; have HB2 := Lib.hid (bel0 HB1.out hb); have H1 := Lib.hid h1; have H2 := Lib.hid h2; have HE0 := Lib.hid (ev_start w2 (.slice A1 3 c1) (.slice A2 3 c2)); clear t1 t2 hb h1 h2))
    | fail)
  obtain ⟨b1, o1, rfl, r1⟩ := rdn3 H1.out act3.s rfl
  obtain ⟨b2, o2, rfl, r2⟩ := rdn3 H2.out act3.t rfl
  have R1 := Lib.hid r1
  have R2 := Lib.hid r2
  clear r1 r2 hmk
  obtain ⟨W0, hW0⟩ : ∃ W0, W0 = ((w2.alloc (.cells #[.slice (some ⟨b1, o1, none⟩) 3 c1, .slice (some ⟨b2, o2, none⟩) 3 c2] 24)).alloc (.cells (madeCells #[.int .i64 0] 3) 3)) := ⟨_, rfl⟩
  rw [← hW0] at HE0 ⊢
  clear hW0
  go_loopw [7, 8, 23] (fun _ _ I wr => ∃ (k : Nat), I = .int .i64 k ∧ k ≤ 3 ∧ Hid (EV w2 wr (.slice (some ⟨b1, o1, none⟩) 3 c1) (.slice (some ⟨b2, o2, none⟩) 3 c2) k)) (fun _ _ I _ => 3 - (intOf I).toNat)
  case atStart => exact ⟨0, rfl, by omega, HE0.out⟩
  case round =>
    clear HE0
    obtain ⟨k, rfl, hk, HE⟩ := hrel
    by_cases hlt : k < 3
    · have hki : (k : Int) < 3 := by omega
      have hg := (prm3 act3.s rfl).lt k hlt
      have hf := (prm3 act3.t rfl).lt _ hg
      have s1 : wr.cell? ⟨b1, o1 + k, none⟩ = some (.int .i64 (fnz [1, 0, 2] k : Nat)) := (HE.out.bel.cell (p := ⟨b1, o1 + k, none⟩) R1.out.1).trans (R1.out.2 k hlt)
      have s2 : wr.cell? ⟨b2, o2 + fnz [1, 0, 2] k, none⟩ = some (.int .i64 (fnz [0, 2, 1] (fnz [1, 0, 2] k) : Nat)) := (HE.out.bel.cell (p := ⟨b2, o2 + fnz [1, 0, 2] k, none⟩) R2.out.1).trans (R2.out.2 _ hg)
      obtain ⟨⟨p1, p2⟩, _⟩ := two_of_block HE.out.p
      have hcs := HE.out.row.cell (i := k) hlt
      have hfz := HE.out.row.frozen k
      have HE2 := Lib.hid HE.out.set
      generalize fnz [0, 2, 1] (fnz [1, 0, 2] k) = y at *
      generalize fnz [1, 0, 2] k = x at *
      have hxi : (x : Int) < 3 := by omega
      go_wp2
      go_roundw
      case rel => exact ⟨k + 1, by go_num, by omega, HE2.out⟩
      case measure => simp [intOf]; omega
    · obtain rfl : k = 3 := by omega
      have h33 : ¬ (3 : Int) < 3 := by omega
      have HRu : Hid (∀ {W : World}, Below wr.heap.size wr W → RdN W W.heap.size (w2.heap.size + 1) 0 3 (fun j => fnz [0, 2, 1] (fnz [1, 0, 2] j))) := fun {W} hb => ⟨Nat.lt_of_lt_of_le HE.out.row.lt hb.size, fun i hi => by
        have h := HE.out.row.cell (i := i) hi
        rw [if_pos hi] at h
        rw [Nat.zero_add]
        exact (hb.cell (p := ⟨w2.heap.size + 1, i, none⟩) HE.out.row.lt).trans h⟩
      have HS1 : Hid (∀ {W : World}, Below wr.heap.size wr W → RdZ W W.heap.size (some ⟨b1, o1, none⟩) c1 [1, 0, 2]) := fun {W} hb => ((H1.out.below HE.out.bel).below (hb.mono HE.out.bel.size)).mono (Nat.le_trans HE.out.bel.size hb.size)
      have HS2 : Hid (∀ {W : World}, Below wr.heap.size wr W → RdZ W W.heap.size (some ⟨b2, o2, none⟩) c2 [0, 2, 1]) := fun {W} hb => ((H2.out.below HE.out.bel).below (hb.mono HE.out.bel.size)).mono (Nat.le_trans HE.out.bel.size hb.size)
      have HPb : Hid (∀ {W : World}, Below wr.heap.size wr W → W.cell? ⟨w2.heap.size, 0, none⟩ = some (.slice (some ⟨b1, o1, none⟩) 3 c1) ∧ W.cell? ⟨w2.heap.size, 1, none⟩ = some (.slice (some ⟨b2, o2, none⟩) 3 c2)) := fun {W} hb => (two_of_block (block_below HE.out.p hb)).1
      have B0 := Lib.hid ((Below.refl wr.heap.size wr).drew)
      go_wp2
      go_region_held3 (fun w' => w'.cell? ⟨w2.heap.size, 0, none⟩ = some (.slice (some ⟨b1, o1, none⟩) 3 c1) ∧ w'.cell? ⟨w2.heap.size, 1, none⟩ = some (.slice (some ⟨b2, o2, none⟩) 3 c2))
        (with_reducible first | exact HPb.out B3.out | exact HPb.out B2.out | exact HPb.out B1.out | exact HPb.out B0.out | fail)
        (first
          | (go_at_call 36; ((with_reducible refine (HCS.out _ _ _ (HS1.out B0.out)).mono ?_); rintro e w4 ⟨A4, c4, rfl, _, hb⟩; have B1 := Lib.hid (bel0 B0.out hb); clear hb))
          | (go_at_call 36; ((with_reducible refine (HCU.out _ _ (HRu.out B1.out)).mono ?_); rintro e w5 ⟨A5, c5, rfl, _, hb⟩; have B2 := Lib.hid (bel0 B1.out hb); clear hb))
          | (go_at_call 36; ((with_reducible refine (HCT.out _ _ _ (HS2.out B2.out)).mono ?_); rintro e w6 ⟨A6, c6, rfl, _, hb⟩; have B3 := Lib.hid (bel0 B2.out hb); clear hb))
          | fail)
      go_wp2
      go_ret2
      exact ⟨rfl, HB2.out.trans ((HE.out.bel.trans (B3.out.mono HE.out.bel.size)).mono HB2.out.size)⟩
end Go.Proofs.Ytmikhkolbkdnpaa
