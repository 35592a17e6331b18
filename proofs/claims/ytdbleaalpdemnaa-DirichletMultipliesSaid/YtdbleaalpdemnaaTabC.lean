/- dirichlet.tableOf. -/
import Derived.Test.YtdbleaalpdemnaaTabN
namespace Go.Proofs.Ytdbleaalpdemnaa
open Go.RowKit
set_option linter.unusedVariables false
set_option linter.unusedSimpArgs false

theorem mk_intT (n : Nat) (W : World) (hn : n ≤ 1152) : (Instr.makeSlice 23 (.int .i64 (n : Int)) (.int .i64 (n : Int))).run Try.prog W = .ok (.slice (some ⟨W.heap.size, 0, none⟩) n n) (W.alloc (.cells (madeCells #[.int .i64 0] n) 3)) := by
  obtain ⟨i1, hj, y0, y1, y2⟩ := info_parts Try.infoInt
  have h := run_make (P := Try.prog) W 23 3 i1 (.int .i64 0) Try.underlying23 hj y0 .i64 .i64 (n : Int) (n : Int) (by omega) (by omega) (by rw [y2]; omega) (by omega)
  rw [show ((n : Int)).toNat = n by omega, y1, Nat.mul_one] at h
  exact h
/-- The world in the first two loops: the logarithms, the table's box. -/
structure L1 (B : Nat) (w0 w2 : World) (n M : Nat) (f : Nat → Int) (w : World) : Prop where
  row : w.rowIs w2.heap.size 3 n (fun j => .int .i64 (f j))
  tbl : w.heap[w2.heap.size + 1]? = some (.cells #[.slice (some ⟨w2.heap.size, 0, none⟩) n n, .int .i64 (M : Int)] 76 (0, 0))
  keep : ∀ j, j < w2.heap.size → w.heap[j]? = w2.heap[j]?
  below : Below B w0 w
  hB : B ≤ w2.heap.size
section
variable {B n M : Nat} {w0 w2 w w1 : World} {f : Nat → Int}
theorem L1.size (h : L1 B w0 w2 n M f w) : w2.heap.size + 2 ≤ w.heap.size := by have := lt_of_block h.tbl; omega
theorem L1.on (h : L1 B w0 w2 n M f w) (hb : Below w.heap.size w w1) : L1 B w0 w2 n M f w1 :=
  ⟨h.row.of_block (hb.block _ h.row.lt), block_below h.tbl hb, fun j hj => (hb.block j (by have := h.size; omega)).trans (h.keep j hj), h.below.trans (hb.mono (by have := h.size; have := h.hB; omega)), h.hB⟩
theorem L1.drewN (h : L1 B w0 w2 n M f w) (k : Nat) : L1 B w0 w2 n M f (w.drewN k) := h.on (below_drewN (Below.refl _ _) k)
theorem L1.setM (h : L1 B w0 w2 n M f w) (m : Nat) : L1 B w0 w2 n m f (w.setCell ⟨w2.heap.size + 1, 1, none⟩ (.int .i64 (m : Int))) :=
  ⟨h.row.setOther (by show w2.heap.size ≠ w2.heap.size + 1; omega) _, two_set1 h.tbl _, fun j hj => (Below.heap_setCell _ _ _ _ (by show j ≠ w2.heap.size + 1; omega)).trans (h.keep j hj), h.below.setCell (by have := h.hB; show B ≤ w2.heap.size + 1; omega) _, h.hB⟩
theorem L1.setR (k : Nat) (h : L1 B w0 w2 n M (fun j => if j < k then -1 else 0) w) : L1 B w0 w2 n M (fun j => if j < k + 1 then -1 else 0) (w.setCell ⟨w2.heap.size, k, none⟩ (.int .i64 (-1))) :=
  ⟨World.rowIs.congr (h.row.set k _) fun j _ => (by by_cases e : j = k <;> by_cases e2 : j < k <;> by_cases e3 : j < k + 1 <;> first | omega | simp [e, e2, e3] | skip), (Below.heap_setCell _ _ _ _ (by show w2.heap.size + 1 ≠ w2.heap.size; omega)).trans h.tbl, fun j hj => (Below.heap_setCell _ _ _ _ (by show j ≠ w2.heap.size; omega)).trans (h.keep j hj), h.below.setCell h.hB _, h.hB⟩
end
set_option maxHeartbeats 6400000 in
set_option maxRecDepth 1000000 in
theorem tabof_any (n : Nat) (E : List Int) (A : Option Addr) (c : Nat) (w : World) (n1 : 1 ≤ n) (n2 : (n : Int) ≤ 60) (hE : RdZ w w.heap.size A c E) (hel : E.length = (gensV n).length) (hx : ∀ k (h1 : k < E.length) (h2 : k < (gensV n).length), 0 ≤ E[k] ∧ E[k] < ((gensV n)[k].2 : Int)) :
    Calls Try.prog 53 #[.agg #[.int .i64 (n : Int), .slice A E.length c]] w fun e w' => ∃ lb, e = .returned (.agg #[.slice (some ⟨lb, 0, none⟩) n n, .int .i64 (tbM (gensV n) : Nat)]) ∧ w.heap.size ≤ lb ∧ w'.rowIs lb 3 n (fun j => .int .i64 ((tbV n E).getD j 0)) ∧ (tbV n E).length = n ∧ (∀ j, -1 ≤ (tbV n E).getD j 0 ∧ (tbV n E).getD j 0 < (tbM (gensV n) : Int)) ∧ Below w.heap.size w w' := by
  obtain ⟨i0, hi0, z0, z1, z2⟩ := info_parts Try.infoInt
  have hmk := fun W => mk_intT n W (by omega)
  have HGe := Lib.hid (fun W => gens_any n W n1 n2)
  have HGb := Lib.hid (gens_facts n1 (show n ≤ 60 by omega))
  have HTb := Lib.hid (tbc_le n1 (show n ≤ 60 by omega))
  have hgl := HGb.out.len
  have HEl := Lib.hid hel
  have HEo := Lib.hid hE
  have HEx := Lib.hid hx
  have HTV : Hid (tbV n E = (tbG n (tbM (gensV n)) (gensV n) E ((List.replicate n (-1)).set (1 % n) 0, [1 % n])).1) := rfl
  have X0 : Hid (((w.alloc (.cells #[.int .i64 (n : Int), .slice A E.length c] 33)).alloc (.cells #[.slice none 0 0, .int .i64 0] 76)).heap[w.heap.size]? = some (.cells #[.int .i64 (n : Int), .slice A E.length c] 33 (0, 0))) := block_alloc (heap_alloc_new w _) _
  have R0 : Hid (((w.alloc (.cells #[.int .i64 (n : Int), .slice A E.length c] 33)).alloc (.cells #[.slice none 0 0, .int .i64 0] 76)).heap[w.heap.size + 1]? = some (.cells #[.slice none 0 0, .int .i64 0] 76 (0, 0))) := by
    have := heap_alloc_new (w.alloc (.cells #[.int .i64 (n : Int), .slice A E.length c] 33)) (.cells #[.slice none 0 0, .int .i64 0] 76)
    show _ = _; simpa using this
  have B0 : Hid (Below w.heap.size w ((w.alloc (.cells #[.int .i64 (n : Int), .slice A E.length c] 33)).alloc (.cells #[.slice none 0 0, .int .i64 0] 76))) := below2 w _ _
  obtain ⟨x0, x1, _⟩ := cells_two X0.out
  have HE0 : Hid (RdZ ((w.alloc (.cells #[.int .i64 (n : Int), .slice A E.length c] 33)).alloc (.cells #[.slice none 0 0, .int .i64 0] 76)) w.heap.size A c E) := hE.below B0.out
  clear hE hel hx
  generalize tbV n E = TF at *
  generalize gensV n = G at *
  go_enter Try.func53, Try.ntmps53
  go_wp2_with (first
    | (go_at_call 47; ((with_reducible refine (HGe.out _).mono ?_); rintro e w2 ⟨v, rfl, ho, hb⟩; obtain ⟨la, lc, rfl, hrd⟩ := gen_blk ho; have HR := Lib.hid hrd; have X2 := Lib.hid (block_below X0.out hb); have R2 := Lib.hid (block_below R0.out hb); have B2 := Lib.hid (B0.out.trans (hb.mono B0.out.size)); have HE2 := Lib.hid (HE0.out.below (hb.mono (by simp; omega))); clear ho hb hrd))
    | fail)
  have hs2 := lt_of_block R2.out
  obtain ⟨W3, hW3⟩ : ∃ W3, W3 = (w2.alloc (.cells (madeCells #[.int .i64 0] n) 3)).alloc (.cells #[.slice (some ⟨w2.heap.size, 0, none⟩) n n, .int .i64 1] 76) := ⟨_, rfl⟩
  have HL0 : Hid (L1 w.heap.size w w2 n 1 (fun _ => 0) W3) := by
    rw [hW3]
    refine ⟨(World.rowIs_made w2 _ _ _).alloc _, by have := heap_alloc_new (w2.alloc (.cells (madeCells #[.int .i64 0] n) 3)) (.cells #[.slice (some ⟨w2.heap.size, 0, none⟩) n n, .int .i64 1] 76); simpa using this, fun j hj => (below2 w2 _ _).block j hj, B2.out.trans ((below2 w2 _ _).mono B2.out.size), B2.out.size⟩
  rw [← hW3]
  clear hW3 X0 R0 B0 HE0 HGe hmk x0 x1
  go_loopw [7, 25] (fun _ I wr => ∃ k : Nat, I = .int .i64 k ∧ k ≤ G.length ∧ Hid (L1 w.heap.size w w2 n (tbM (G.take k)) (fun _ => 0) wr)) (fun _ I _ => G.length - (intOf I).toNat)
  case atStart => exact ⟨0, rfl, Nat.zero_le _, HL0.out⟩
  case round =>
    obtain ⟨k, rfl, hk, HL⟩ := hrel
    clear HL0
    by_cases hkl : k < G.length
    · have hkli : (k : Int) < (G.length : Int) := by omega
      obtain ⟨g, cs, rfl, hg1, hcell⟩ := HR.out k hkl
      obtain ⟨x1, x2⟩ := hcell wr ((HL.out.keep g (lt_of_block hg1)).trans hg1)
      have q1 := HGb.out.o1 _ (List.getElem_mem hkl)
      have q60 := HGb.out.o2 _ (List.getElem_mem hkl)
      have p60 := HGb.out.v _ (List.getElem_mem hkl)
      have hM := HTb.out.2 k (by omega)
      have HMs := Lib.hid (tbM_step G k hkl)
      clear hg1 hcell
      generalize G[k] = f at *
      obtain ⟨p, q⟩ := f
      simp only at x1 x2 p60 q1 q60 HMs
      generalize tbM (G.take k) = M at *
      have hlc := Lib.hid (fun W => dlcm_any M q W hM.1 q1 (by omega) (by omega))
      go_upto_region 7 with fail
      have HL3 : Hid (L1 w.heap.size w w2 n M (fun _ => 0) (wr.alloc (.cells #[.int .i64 (p : Int), .int .i64 (q : Int)] 73))) := HL.out.on (below1 wr _)
      have y2 := (cells_two (heap_alloc_new wr (.cells #[.int .i64 (p : Int), .int .i64 (q : Int)] 73))).2.1
      have t1 := (cells_two HL3.out.tbl).2.1
      have tf := (cells_two HL3.out.tbl).2.2
      clear x1 x2 HL
      generalize (wr.alloc (.cells #[.int .i64 (p : Int), .int .i64 (q : Int)] 73)) = W4 at *
      generalize wr.heap.size = gb at *
      generalize Nat.lcm M q = M2 at *
      go_wp2_with (first
        | (go_at_call 51; ((with_reducible refine (hlc.out _).mono ?_); rintro e w5 ⟨rfl, nn, rfl⟩))
        | fail)
      go_roundw
      case rel => exact ⟨k + 1, by go_num, by omega, by rw [HMs.out]; exact (HL3.out.drewN nn).setM M2⟩
      case measure => simp [intOf]; omega
    · obtain rfl : k = G.length := by omega
      have hk3 : ¬ (G.length : Int) < (G.length : Int) := by omega
      have hM := HTb.out.2 G.length (Nat.le_refl _)
      rw [List.take_length] at HL hM
      generalize hMe : tbM G = M at *
      have HMe := Lib.hid hMe
      clear hMe
      have t0 := (cells_two HL.out.tbl).1
      go_wp2
      go_loopw [8, 39] (fun _ I wi => ∃ k : Nat, I = .int .i64 k ∧ k ≤ n ∧ Hid (L1 w.heap.size w w2 n M (fun j => if j < k then -1 else 0) wi)) (fun _ I _ => n - (intOf I).toNat)
      case atStart => exact ⟨0, rfl, Nat.zero_le _, HL.out⟩
      case round =>
        obtain ⟨k, rfl, hk, HK⟩ := hrel
        clear HL t0
        have t0 := (cells_two HK.out.tbl).1
        by_cases hkl : k < n
        · have hkli : (k : Int) < (n : Int) := by omega
          have nf := HK.out.row.frozen k
          have nc := HK.out.row.cell (i := k) hkl
          go_wp2
          go_roundw
          case rel => exact ⟨k + 1, by go_num, by omega, L1.setR k HK.out⟩
          case measure => simp [intOf]; omega
        · obtain rfl : n = k := by omega
          have hk3 : ¬ (n : Int) < (n : Int) := by omega
          go_wp2
          have hu1 : 1 % n < n := Nat.mod_lt _ (by omega)
          have hTI := Lib.hid (tbI_start (n := n) (m := M) n1 hM.1)
          have htm : Int.tmod 1 (n : Int) = ((1 % n : Nat) : Int) := (Int.ofNat_tmod 1 n).symm
          have hem : 1 % (n : Int) = ((1 % n : Nat) : Int) := (Int.natCast_emod 1 n).symm
          have hn0 : ((n : Int) == 0) = false := by rw [beq_eq_false_iff_ne]; omega
          have hn1 : ¬ ((n : Int) = 0) := by omega
          have hn2 : ¬ (n = 0) := by omega
          have HLf : Hid (L1 w.heap.size w w2 n M (fun j => (List.replicate n (-1 : Int)).getD j 0) wr) := by
            refine ⟨World.rowIs.congr HK.out.row fun j hj => ?_, HK.out.tbl, HK.out.keep, HK.out.below, HK.out.hB⟩
            rw [if_pos hj, List.getD_eq_getElem?_getD, List.getElem?_replicate, if_pos hj]; rfl
          clear HK
          generalize 1 % n = u1 at *
          have hu1i : (u1 : Int) < (n : Int) := by omega
          have hwu : IntKind.i64.wrap (u1 : Int) = (u1 : Int) := IntWalk.i64_in _ (by omega)
          have nf := HLf.out.row.frozen u1
          have nc := HLf.out.row.cell (i := u1) hu1
          go_region
          go_upto_region 16 with fail
          obtain ⟨wC, rfl⟩ : ∃ wC : World, wC = wr := ⟨_, rfl⟩
          obtain ⟨W6, hW6⟩ : ∃ W6, W6 = ((wC.setCell ⟨w2.heap.size, u1, none⟩ (.int .i64 0)).alloc (.cells #[.int .i64 (u1 : Int)] 3)).drew := ⟨_, rfl⟩
          have hC2 := HLf.out.size
          have HTV0 : Hid (TV w.heap.size wC.heap.size w2.heap.size w wC n ((List.replicate n (-1)).set u1 0) (.slice (some ⟨wC.heap.size, 0, none⟩) 1 1) [u1] W6) := by
            rw [hW6]
            have hB := HLf.out.hB
            refine TV.drew ⟨by omega, hB, ?_, ?_, fun j hj hn => (Below.heap_alloc _ _ _ (by simpa using hj)).trans (Below.heap_setCell _ _ _ _ hn), (HLf.out.below.setCell hB _).alloc (by simp; omega) _, by simp⟩
            · refine World.rowIs.alloc (World.rowIs.congr (HLf.out.row.set u1 (.int .i64 0)) fun j _ => ?_) _
              rw [getD_setI _ _ _ _ (by simpa using hu1)]; by_cases e : j = u1 <;> simp [e]
            · refine ⟨rfl, .inr ⟨wC.heap.size, 1, #[.int .i64 (u1 : Int)], rfl, Nat.le_refl _, ?_, Nat.le_refl _, by unfold maxLen; omega, rfl, rfl⟩⟩
              have := heap_alloc_new (wC.setCell ⟨w2.heap.size, u1, none⟩ (.int .i64 0)) (.cells #[.int .i64 (u1 : Int)] 3)
              simpa using this
          have HXc : Hid (∀ (W : World) T v U, TV w.heap.size wC.heap.size w2.heap.size w wC n T v U W → W.cell? ⟨w.heap.size, 1, none⟩ = some (.slice A E.length c)) := fun W T v U h => by
            have hb := lt_of_block X2.out
            exact (cells_two (((h.keep _ (by omega) (by omega)).trans (HLf.out.keep _ hb)).trans X2.out)).2.1
          have HTc : Hid (∀ (W : World) T v U, TV w.heap.size wC.heap.size w2.heap.size w wC n T v U W → W.heap[w2.heap.size + 1]? = some (.cells #[.slice (some ⟨w2.heap.size, 0, none⟩) n n, .int .i64 (M : Int)] 76 (0, 0))) := fun W T v U h =>
            (h.keep _ (by omega) (by omega)).trans HLf.out.tbl
          have HRc : Hid (∀ (W : World) T v U, TV w.heap.size wC.heap.size w2.heap.size w wC n T v U W → W.heap[w.heap.size + 1]? = some (.cells #[.slice none 0 0, .int .i64 0] 76 (0, 0))) := fun W T v U h =>
            ((h.keep _ (by omega) (by omega)).trans (HLf.out.keep _ hs2)).trans R2.out
          have HGc : Hid (∀ (W : World) T v U (g : Nat) (cs : Array Value), TV w.heap.size wC.heap.size w2.heap.size w wC n T v U W → w2.heap[g]? = some (.cells cs 73 (0, 0)) → W.heap[g]? = some (.cells cs 73 (0, 0))) := fun W T v U g cs h hg => by
            have hb := lt_of_block hg
            exact ((h.keep _ (by omega) (by omega)).trans (HLf.out.keep _ hb)).trans hg
          rw [← hW6]
          clear hW6 HLf nf nc X2 R2 B2 t0
          have hlb : w2.heap.size < wC.heap.size := by omega
          generalize wC.heap.size = C at *
          generalize hlbe : w2.heap.size = lb at *
          have hBlb : w.heap.size + 1 < lb := hs2
          generalize hRF : tbG n M G E ((List.replicate n (-1)).set u1 0, [u1]) = RF at *
          have HRF := Lib.hid hRF
          have hR60 : RF.2.length ≤ 60 := by
            rw [← hRF, tbG_len n M G E _ HEl.out.symm]; exact HTb.out.1
          clear hRF
          go_wp2
          go_loopw [9, 10, 11, 12, 14, 15, 57, 75, 82] (fun V _ _ _ _ _ I _ _ wr => ∃ (k g cap : Nat) (T : List Int) (U : List Nat), V = .slice (some ⟨g, 0, none⟩) U.length cap ∧ I = .int .i64 k ∧ k ≤ G.length ∧ Hid (tbG n M (G.drop k) (E.drop k) (T, U) = RF) ∧ Hid (TbI n M T U) ∧ Hid (TV w.heap.size C lb w wC n T (.slice (some ⟨g, 0, none⟩) U.length cap) U wr)) (fun _ _ _ _ _ _ I _ _ _ => G.length - (intOf I).toNat)
          case atStart => exact ⟨0, _, _, _, [u1], rfl, rfl, Nat.zero_le _, HRF.out, hTI.out, HTV0.out⟩
          case round =>
            obtain ⟨k, g0, cap, T, U0, rfl, rfl, hk, HS, HI, HV⟩ := hrel
            clear HTV0 HRF hTI
            by_cases hkl : k < G.length
            · have hkli : (k : Int) < (G.length : Int) := by omega
              have hke : k < E.length := by have := HEl.out; omega
              obtain ⟨g, cs, rfl, hg1, hcell⟩ := HR.out k hkl
              obtain ⟨x1, x2⟩ := hcell wr (HGc.out _ _ _ _ _ _ HV.out hg1)
              have q1 := HGb.out.o1 _ (List.getElem_mem hkl)
              have q60 := HGb.out.o2 _ (List.getElem_mem hkl)
              have p60 := HGb.out.v _ (List.getElem_mem hkl)
              have hex := HEx.out k hke hkl
              have HS2 := Lib.hid ((tbG_step n M G E k (T, U0) hkl hke).symm.trans HS.out)
              clear hg1 hcell HS
              have HEk : Hid (∀ W, Below w.heap.size w W → ∃ b o, A = some ⟨b, o, none⟩ ∧ b < w.heap.size ∧ W.cell? ⟨b, o + k, none⟩ = some (.int .i64 E[k])) := fun W hW => (HEo.out.below hW).at_ hke
              have hkle : (k : Int) < (E.length : Int) := by omega
              generalize E[k] = x at *
              generalize G[k] = f at *
              obtain ⟨p, q⟩ := f
              simp only at x1 x2 p60 q1 q60 HS2 hex
              go_upto_region 19 with fail
              have HV4 : Hid (TV w.heap.size C lb w wC n T (.slice (some ⟨g0, 0, none⟩) U0.length cap) U0 (wr.alloc (.cells #[.int .i64 (p : Int), .int .i64 (q : Int)] 73))) := HV.out.on (below1 wr _)
              have HG4 : Hid ((wr.alloc (.cells #[.int .i64 (p : Int), .int .i64 (q : Int)] 73)).heap[wr.heap.size]? = some (.cells #[.int .i64 (p : Int), .int .i64 (q : Int)] 73 (0, 0))) := heap_alloc_new wr _
              have hgbC := HV.out.size
              clear x1 x2 HV
              generalize (wr.alloc (.cells #[.int .i64 (p : Int), .int .i64 (q : Int)] 73)) = W4 at *
              generalize wr.heap.size = gb at *
              obtain ⟨b, o, rfl, hbB, y1⟩ := HEk.out W4 HV4.out.below
              have y2 := HXc.out _ _ _ _ HV4.out
              have y3 := (cells_two (HTc.out _ _ _ _ HV4.out)).2.1
              have y4 := (cells_two HG4.out).2.1
              have htd : Int.tdiv (M : Int) (q : Int) = ((M / q : Nat) : Int) := (Int.ofNat_tdiv _ _).symm
              have hdv : (M : Int) / (q : Int) = ((M / q : Nat) : Int) := (Int.natCast_ediv _ _).symm
              have hMq : M / q ≤ 60 := Nat.le_trans (Nat.div_le_self _ _) hM.2
              have q0 : ((q : Int) == 0) = false := by rw [beq_eq_false_iff_ne]; omega
              have q0' : ¬ ((q : Int) = 0) := by omega
              have q0'' : ¬ (q = 0) := by omega
              generalize M / q = Mq at *
              have hwq : IntKind.i64.wrap (Mq : Int) = (Mq : Int) := IntWalk.i64_in _ (by omega)
              have hy0 : 0 ≤ x * (Mq : Int) := Int.mul_nonneg hex.1 (by omega)
              have hy1 : x * (Mq : Int) ≤ 60 * 60 := Int.mul_le_mul (by omega) (by omega) (by omega) (by omega)
              generalize hy : x * (Mq : Int) = y at *
              have hwy : IntKind.i64.wrap y = y := IntWalk.i64_in _ (by omega)
              go_region
              go_upto_region 21 with fail
              have HV5 := Lib.hid HV4.out.drew
              have HG5 : Hid (W4.drew.heap[gb]? = some (.cells #[.int .i64 (p : Int), .int .i64 (q : Int)] 73 (0, 0))) := HG4.out
              generalize hR1 : tbU n p q y M U0 (T, U0) = R1 at *
              have HR1 := Lib.hid hR1
              have hR1l : R1.2.length ≤ 60 := by
                have h1 := tbG_le n M (G.drop (k + 1)) (E.drop (k + 1)) R1
                rw [HS2.out] at h1; omega
              have HU0 : Hid (∀ i (h : i < U0.length), U0[i] < n) := fun i h => (HI.out.un _ (List.getElem_mem h)).1
              have hU060 : U0.length ≤ 60 := by
                have h1 := tbU_len n p q y M U0 (T, U0)
                rw [hR1] at h1
                have h2 : (T, U0).2.length = U0.length := rfl
                omega
              clear hR1 HV4 HG4 HEk y1 y2 y3 y4
              generalize W4.drew = W5 at *
              go_loopw [9, 14, 15, 75, 82] (fun V _ _ I _ wi => ∃ (i g1 cap1 : Nat) (T1 : List Int) (U : List Nat), V = .slice (some ⟨g1, 0, none⟩) U.length cap1 ∧ I = .int .i64 i ∧ i ≤ U0.length ∧ Hid (tbU n p q y M (U0.drop i) (T1, U) = R1) ∧ Hid (TbI n M T1 U) ∧ Hid (TV w.heap.size C lb w wC n T1 (.slice (some ⟨g1, 0, none⟩) U.length cap1) U wi) ∧ Hid (SN C g0 U0 U wi) ∧ Hid (wi.heap[gb]? = some (.cells #[.int .i64 (p : Int), .int .i64 (q : Int)] 73 (0, 0)))) (fun _ _ _ I _ _ => U0.length - (intOf I).toNat)
              case atStart => exact ⟨0, _, _, T, U0, rfl, rfl, Nat.zero_le _, HR1.out, HI.out, HV5.out, HV5.out.snap, HG5.out⟩
              case round =>
                obtain ⟨i, g1, cap1, T1, U1, rfl, rfl, hi, HQ, HJ, HW, HSn, HGb2⟩ := hrel
                clear HV5 HG5 HR1 HI
                by_cases hil : i < U0.length
                · have hili : (i : Int) < (U0.length : Int) := by omega
                  have c1 := HSn.out.cel i hil
                  have HQ2 := Lib.hid ((tbU_step n p q y M U0 i (T1, U1) hil).symm.trans HQ.out)
                  have hamem : U0[i] ∈ U1 := by
                    obtain ⟨R, hR⟩ := HSn.out.pre
                    rw [hR]; exact List.mem_append_left _ (List.getElem_mem hil)
                  generalize U0[i] = a0 at *
                  generalize hR2 : tbP n p y M (q - 1) a0 (T1, U1) = R2 at *
                  have HR2 := Lib.hid hR2
                  have hR2l : R2.2.length ≤ 60 := by
                    have h1 := tbU_len n p q y M (U0.drop (i + 1)) R2
                    rw [HQ2.out] at h1
                    omega
                  have b1 := cells_two HGb2.out
                  obtain ⟨b1, b2, _⟩ := b1
                  have hq1 : (q : Int) - 1 = ((q - 1 : Nat) : Int) := by omega
                  have hwq1 : IntKind.i64.wrap ((q : Int) - 1) = ((q - 1 : Nat) : Int) := by rw [hq1]; exact IntWalk.i64_in _ (by omega)
                  clear hR2 HQ
                  generalize hqd : q - 1 = d at *
                  have hd : d ≤ 60 := by omega
                  go_upto_region 24 with fail
                  go_loopw [9, 14, 15, 82] (fun V Av _ J wj => ∃ (j a g2 cap2 : Nat) (T2 : List Int) (U : List Nat), V = .slice (some ⟨g2, 0, none⟩) U.length cap2 ∧ Av = .int .i64 a ∧ J = .int .i64 j ∧ j ≤ d ∧ Hid (a ∈ U) ∧ Hid (tbP n p y M (d - j) a (T2, U) = R2) ∧ Hid (TbI n M T2 U) ∧ Hid (TV w.heap.size C lb w wC n T2 (.slice (some ⟨g2, 0, none⟩) U.length cap2) U wj) ∧ Hid (SN C g0 U0 U wj) ∧ Hid (wj.heap[gb]? = some (.cells #[.int .i64 (p : Int), .int .i64 (q : Int)] 73 (0, 0)))) (fun _ _ _ J _ => d - (intOf J).toNat)
                  case atStart => exact ⟨0, a0, _, _, T1, U1, rfl, rfl, rfl, Nat.zero_le _, hamem, HR2.out, HJ.out, HW.out, HSn.out, HGb2.out⟩
                  case round =>
                    obtain ⟨j, a, g2, cap2, T2, U2, rfl, rfl, rfl, hj, Ham, HP, HI2, HX, HSm, HGb3⟩ := hrel
                    clear HR2 HJ HW HSn HGb2 hamem b1 b2 c1
                    by_cases hjd : j < d
                    · have hjdi : (j : Int) < (d : Int) := by omega
                      have hP2 := HP.out
                      rw [show d - j = (d - (j + 1)) + 1 by omega] at hP2
                      have HP3 : Hid (tbP n p y M (d - (j + 1)) (a * p % n) (T2.set (a * p % n) ((T2.getD a 0 + y) % (M : Int)), U2 ++ [a * p % n]) = R2) := hP2
                      have hU60 : U2.length + 1 ≤ 60 := by
                        have h1 := tbP_len n p y M (d - j) a (T2, U2)
                        rw [HP.out] at h1
                        have h2 : (T2, U2).2.length = U2.length := rfl
                        omega
                      obtain ⟨ha, hT0, hT1⟩ := HI2.out.un a Ham.out
                      have hlen := HI2.out.len
                      have hbn : a * p % n < n := Nat.mod_lt _ (by omega)
                      have hap : a * p ≤ 60 * 60 := Nat.mul_le_mul (by omega) (by omega)
                      have hz0 : 0 ≤ (T2.getD a 0 + y) % (M : Int) := Int.emod_nonneg _ (by omega)
                      have hz1 : (T2.getD a 0 + y) % (M : Int) < (M : Int) := Int.emod_lt_of_pos _ (by omega)
                      have htz : Int.tmod (T2.getD a 0 + y) (M : Int) = (T2.getD a 0 + y) % (M : Int) := Int.tmod_eq_emod_of_nonneg (by omega)
                      have htb : Int.tmod ((a * p : Nat) : Int) (n : Int) = ((a * p % n : Nat) : Int) := (Int.ofNat_tmod _ n).symm
                      have heb : ((a * p : Nat) : Int) % (n : Int) = ((a * p % n : Nat) : Int) := (Int.natCast_emod _ n).symm
                      have hmp : (a : Int) * (p : Int) = ((a * p : Nat) : Int) := (Int.natCast_mul a p).symm
                      have HIn := Lib.hid (HI2.out.step hbn hz0 hz1)
                      obtain ⟨b1, b2, _⟩ := cells_two HGb3.out
                      obtain ⟨t0, t1, _⟩ := cells_two (HTc.out _ _ _ _ HX.out)
                      have r0 := HX.out.row.cell (i := a) ha
                      have rf := HX.out.row.frozen (a * p % n)
                      have rb := HX.out.row.cell (i := a * p % n) hbn
                      have HXs := Lib.hid ((HX.out.set (a * p % n) ((T2.getD a 0 + y) % (M : Int)) (by omega)).drew)
                      have HSs := Lib.hid ((HSm.out.set hlb (a * p % n) (.int .i64 ((T2.getD a 0 + y) % (M : Int)))).drew)
                      have HGs : Hid ((wr.setCell ⟨lb, a * p % n, none⟩ (.int .i64 ((T2.getD a 0 + y) % (M : Int)))).drew.heap[gb]? = some (.cells #[.int .i64 (p : Int), .int .i64 (q : Int)] 73 (0, 0))) := (Below.heap_setCell _ _ _ _ (by show gb ≠ lb; omega)).trans HGb3.out
                      have HPn := Lib.hid (show a * p % n ∈ U2 ++ [a * p % n] from List.mem_append_right _ (List.mem_singleton.2 rfl))
                      clear hP2 HP HI2 Ham HX HSm HGb3
                      have M0 : ((M : Int) == 0) = false := by rw [beq_eq_false_iff_ne]; omega
                      have M0' : ¬ ((M : Int) = 0) := by omega
                      have M0'' : ¬ (M = 0) := by omega
                      have hT9 : T2.getD a 0 ≤ 60 := by omega
                      generalize T2.getD a 0 = ta at *
                      have hsum : IntKind.i64.wrap (ta + y) = ta + y := IntWalk.i64_in _ (by omega)
                      generalize (ta + y) % (M : Int) = z at *
                      have hwz : IntKind.i64.wrap z = z := IntWalk.i64_in _ (by omega)
                      generalize a * p % n = b9 at *
                      generalize a * p = ap at *
                      have hwap : IntKind.i64.wrap (ap : Int) = (ap : Int) := IntWalk.i64_in _ (by omega)
                      have hwb : IntKind.i64.wrap (b9 : Int) = (b9 : Int) := IntWalk.i64_in _ (by omega)
                      have hbni : (b9 : Int) < (n : Int) := by omega
                      have hani : (a : Int) < (n : Int) := by omega
                      go_upto_region 26 with fail
                      go_region
                      go_upto_region 27 with fail
                      clear r0 rf rb t0 t1 b1 b2
                      generalize (wr.setCell ⟨lb, b9, none⟩ (.int .i64 z)).drew = W7 at *
                      have hsz7 : C ≤ W7.heap.size := HXs.out.size
                      go_wp2_with (first
                        | (at_builtin; (refine app_snap _ rfl _ _ rfl C _ _ _ rfl (HXs.out.own.alloc _) W7.heap.size (.int .i64 (b9 : Int)) rfl (cell_one_new _ _ _) rfl (by omega) (by simp; omega) ?_); intro g3 cap3 w8 hown8 hg8 hat8; have HX8 := Lib.hid (HXs.out.push hown8 hg8); have HS8 := Lib.hid (HSs.out.push hown8 hg8 hat8); have HG8 := Lib.hid (HXs.out.box (by decide) HGs.out hg8); clear hown8 hg8 hat8)
                        | fail)
                      go_roundw
                      case rel => exact ⟨j + 1, b9, g3, cap3, _, U2 ++ [b9], by rw [List.length_append]; rfl, rfl, by go_num, by omega, HPn.out, HP3.out, HIn.out, by rw [List.length_append]; exact HX8.out, HS8.out, HG8.out⟩
                      case measure => simp [intOf]; omega
                    · obtain rfl : d = j := by omega
                      have hj3 : ¬ (d : Int) < (d : Int) := by omega
                      have HF : Hid ((T2, U2) = R2) := by
                        have h1 := HP.out
                        rw [Nat.sub_self] at h1
                        exact h1
                      go_wp2
                      go_roundw
                      case rel => exact ⟨i + 1, g2, cap2, T2, U2, rfl, by go_num, by omega, by rw [HF.out]; exact HQ2.out, HI2.out, HX.out, HSm.out, HGb3.out⟩
                      case measure => simp [intOf]; omega
                · obtain rfl : i = U0.length := by omega
                  have hi3 : ¬ (U0.length : Int) < (U0.length : Int) := by omega
                  have hfin : (T1, U1) = R1 := by
                    have h1 := HQ.out
                    rw [List.drop_eq_nil_of_le (Nat.le_refl _)] at h1
                    exact h1
                  have HF := Lib.hid hfin
                  clear hfin
                  go_wp2
                  go_roundw
                  case rel => exact ⟨k + 1, g1, cap1, T1, U1, rfl, by go_num, by omega, by rw [HF.out]; exact HS2.out, HJ.out, HW.out⟩
                  case measure => simp [intOf]; omega
            · obtain rfl : k = G.length := by omega
              have hk3 : ¬ (G.length : Int) < (G.length : Int) := by omega
              have hfin : TF = T := by
                have h1 := HS.out
                rw [List.drop_eq_nil_of_le (Nat.le_refl _)] at h1
                have h2 : (T, U0) = RF := h1
                rw [HTV.out, ← h2]
              have ht := HTc.out _ _ _ _ HV.out
              have hr := HRc.out _ _ _ _ HV.out
              obtain ⟨e0, e1, ef⟩ := cells_two ht
              obtain ⟨r0, r1, rf⟩ := cells_two hr
              have HRs := Lib.hid (two_setC hr (.slice (some ⟨lb, 0, none⟩) n n) (.int .i64 (M : Int)))
              obtain ⟨s0, s1, sf⟩ := cells_two HRs.out
              have HBe := Lib.hid ((HV.out.below.setCell (p := ⟨w.heap.size + 1, 0, none⟩) (by show _ ≤ w.heap.size + 1; omega) (.slice (some ⟨lb, 0, none⟩) n n)).setCell (p := ⟨w.heap.size + 1, 1, none⟩) (by show _ ≤ w.heap.size + 1; omega) (.int .i64 (M : Int)))
              have HRw := Lib.hid ((HV.out.row.setOther (a := ⟨w.heap.size + 1, 0, none⟩) (by show lb ≠ w.heap.size + 1; omega) (.slice (some ⟨lb, 0, none⟩) n n)).setOther (a := ⟨w.heap.size + 1, 1, none⟩) (by show lb ≠ w.heap.size + 1; omega) (.int .i64 (M : Int)))
              have HTl := Lib.hid HI.out.len
              have HTd := Lib.hid HI.out.bd
              clear ht hr
              go_wp2
              refine bodyPost_ret (v := .agg #[.slice (some ⟨lb, 0, none⟩) n n, .int .i64 (M : Int)]) ?_ rfl ⟨lb, by rw [HMe.out], by omega, ?_, ?_, ?_, HBe.out⟩
              · simp [results, Try.results53, go_sem, s0, s1]
              · exact HRw.out
              · exact HTl.out
              · rw [HMe.out]; exact HTd.out
end Go.Proofs.Ytdbleaalpdemnaa
