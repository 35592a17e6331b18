/- dirichlet: the public Generators, Order, equality of lists and of characters; the guard of layer 28. dirichlet.Order; equality of characters. The guard of layer 28; Value of what is no character. -/
import Derived.Test.YtlagljnhbhnelaaTabXb
namespace Go.Proofs.Ytlagljnhbhnelaa
open Go.RowKit
set_option linter.unusedVariables false
set_option linter.unusedSimpArgs false

set_option maxHeartbeats 800000 in
set_option maxRecDepth 1000000 in
theorem ints_same {l : List Int} {B1 B2 c1 c2 : Nat} {A1 A2 : Option Addr} (w : World) (h1 : RdZ w B1 A1 c1 l) (h2 : RdZ w B2 A2 c2 l) :
    Calls Try.prog 17 #[.slice A1 l.length c1, .slice A2 l.length c2] w fun e w' => e = .returned (.bool true) ∧ ∃ n, w' = w.drewN n := by
  have hl := h1.len
  have H1 := Lib.hid h1
  have H2 := Lib.hid h2
  clear h1 h2
  go_enter Try.func17, Try.ntmps17
  go_wp2
  go_loopw [5] (fun i wr => ∃ (k n : Nat), k ≤ l.length ∧ i = .int .i64 k ∧ wr = w.drewN n) (fun i _ => l.length - (intOf i).toNat)
  case atStart => exact ⟨0, 0, Nat.zero_le _, rfl, rfl⟩
  case round =>
    obtain ⟨k, n, hk, rfl, rfl⟩ := hrel
    by_cases hlt : k < l.length
    · obtain ⟨b1, o1, rfl, _, x1⟩ := H1.out.at_ hlt
      obtain ⟨b2, o2, rfl, _, x2⟩ := H2.out.at_ hlt
      have hlt2 : (k : Int) < (l.length : Int) := by omega
      have y1 := fun N => (show (w.drewN N).cell? ⟨b1, o1 + k, none⟩ = _ from x1)
      have y2 := fun N => (show (w.drewN N).cell? ⟨b2, o2 + k, none⟩ = _ from x2)
      clear x1 x2
      generalize l[k] = q at *
      go_wp2
      go_quiet (fail)
      go_wp2
      go_roundw
      case rel => exact ⟨k + 1, _, hlt, by go_num, rfl⟩
      case measure => simp [intOf]; omega
    · have hkl : k = l.length := by omega
      subst hkl
      go_wp2
      go_ret
      exact ⟨rfl, n, rfl⟩

/-- Two rows of integers that grow, above C. -/
structure QW (B C : Nat) (w0 w2 : World) (v1 v2 : Value) (L1 L2 : List Int) (w : World) : Prop where
  hB : B ≤ C
  r1 : w.ownsRow C 3 1 v1 L1.length (zs L1)
  r2 : w.ownsRow C 3 1 v2 L2.length (zs L2)
  ap : ∀ g, v1.ownBlock = some g → v2.ownBlock ≠ some g
  keep : ∀ j, j < C → w.heap[j]? = w2.heap[j]?
  below : Below B w0 w
  size : C ≤ w.heap.size
section
variable {B C : Nat} {w0 w2 w w1 : World} {v1 v2 : Value} {L1 L2 : List Int}
theorem QW.on (h : QW B C w0 w2 v1 v2 L1 L2 w) (hb : Below w.heap.size w w1) : QW B C w0 w2 v1 v2 L1 L2 w1 :=
  ⟨h.hB, own_below h.r1 hb, own_below h.r2 hb, h.ap, fun j hj => (hb.block j (by have := h.size; omega)).trans (h.keep j hj), h.below.trans (hb.mono (by have := h.hB; have := h.size; omega)), Nat.le_trans h.size hb.size⟩
theorem QW.push1 (h : QW B C w0 w2 v1 v2 L1 L2 w) {x : Int} {g c : Nat} {o : Obj} (hown : w1.ownsRow C 3 1 (.slice (some ⟨g, 0, none⟩) (L1.length + 1) c) (L1.length + 1) (zs L1 ++ [.int .i64 x])) (hg : (w.alloc o).grownBy w1 v1.ownBlock)
    (hat : v1.ownBlock = some g ∨ (g = (w.alloc o).heap.size ∧ ∀ k, k < (w.alloc o).heap.size → w1.heap[k]? = (w.alloc o).heap[k]?)) : QW B C w0 w2 (.slice (some ⟨g, 0, none⟩) (L1.length + 1) c) v2 (L1 ++ [x]) L2 w1 := by
  have hs := h.size
  refine ⟨h.hB, by rw [zs_append, List.length_append]; exact hown, own_keepD h.r2 fun k hk => ?_, fun k hk => ?_, fun j hj => ?_, ?_, by have := hg.size; simp at this; omega⟩
  · have h1 := h.r2.lt k hk
    rw [hg.block k (by simp; omega) (fun e => h.ap k e.symm hk), Below.heap_alloc _ _ _ h1.2]
  · have e : g = k := by simpa [Value.ownBlock] using hk
    subst e
    rcases hat with e | ⟨e, _⟩
    · exact h.ap _ e
    · intro e2
      have h1 := (h.r2.lt _ e2).2
      simp at e; omega
  · rw [hg.block j (by simp; omega) (fun e => by have := (h.r1.lt j e.symm).1; omega), Below.heap_alloc _ _ _ (by omega)]
    exact h.keep j hj
  · exact (h.below.alloc (by have := h.hB; omega) o).grown hg (by have := h.hB; simp; omega) fun j hj => by have := h.hB; have := (h.r1.lt j hj).1; omega
theorem QW.push2 (h : QW B C w0 w2 v1 v2 L1 L2 w) {x : Int} {g c : Nat} {o : Obj} (hown : w1.ownsRow C 3 1 (.slice (some ⟨g, 0, none⟩) (L2.length + 1) c) (L2.length + 1) (zs L2 ++ [.int .i64 x])) (hg : (w.alloc o).grownBy w1 v2.ownBlock)
    (hat : v2.ownBlock = some g ∨ (g = (w.alloc o).heap.size ∧ ∀ k, k < (w.alloc o).heap.size → w1.heap[k]? = (w.alloc o).heap[k]?)) : QW B C w0 w2 v1 (.slice (some ⟨g, 0, none⟩) (L2.length + 1) c) L1 (L2 ++ [x]) w1 := by
  have hs := h.size
  refine ⟨h.hB, own_keepD h.r1 fun k hk => ?_, by rw [zs_append, List.length_append]; exact hown, fun k hk hk2 => ?_, fun j hj => ?_, ?_, by have := hg.size; simp at this; omega⟩
  · have h1 := h.r1.lt k hk
    rw [hg.block k (by simp; omega) (fun e => h.ap k hk e.symm), Below.heap_alloc _ _ _ h1.2]
  · have e : g = k := by simpa [Value.ownBlock] using hk2
    subst e
    rcases hat with e | ⟨e, _⟩
    · exact h.ap _ hk e
    · have h1 := (h.r1.lt _ hk).2
      simp at e; omega
  · rw [hg.block j (by simp; omega) (fun e => by have := (h.r2.lt j e.symm).1; omega), Below.heap_alloc _ _ _ (by omega)]
    exact h.keep j hj
  · exact (h.below.alloc (by have := h.hB; omega) o).grown hg (by have := h.hB; simp; omega) fun j hj => by have := h.hB; have := (h.r2.lt j hj).1; omega
theorem QW.box1 {g : Nat} {cs : Array Value} {t : TypeId} (h : QW B C w0 w2 v1 v2 L1 L2 w) (ht : t ≠ 3) (hb : w.heap[g]? = some (.cells cs t (0, 0))) {o : Obj} (hg : (w.alloc o).grownBy w1 v1.ownBlock) : w1.heap[g]? = some (.cells cs t (0, 0)) :=
  (hg.block g (by have := lt_of_block hb; simp; omega) (own_type h.r1 ht hb)).trans (block_alloc hb o)
end
set_option maxHeartbeats 3200000 in
set_option maxRecDepth 1000000 in
theorem pgen_any (n : Nat) (w : World) (n1 : 1 ≤ n) (n2 : (n : Int) ≤ 60) :
    Calls Try.prog 14 #[.int .i64 (n : Int)] w fun e w' => ∃ v1 v2, e = .returned (.tuple #[v1, v2, .int .i64 0]) ∧ w'.ownsRow w.heap.size 3 1 v1 ((gensV n).map fun g => (g.1 : Int)).length (zs ((gensV n).map fun g => (g.1 : Int))) ∧ w'.ownsRow w.heap.size 3 1 v2 ((gensV n).map fun g => (g.2 : Int)).length (zs ((gensV n).map fun g => (g.2 : Int))) ∧ Below w.heap.size w w' := by
  have HM := Lib.hid (fun W => ismod_any (n : Int) W)
  rw [decide_eq_true ⟨by omega, n2⟩] at HM
  have HGe := Lib.hid (fun W => gens_any n W n1 n2)
  have HGb := Lib.hid (gens_facts n1 (show n ≤ 60 by omega))
  have hgl := HGb.out.len
  generalize gensV n = G at *
  go_enter Try.func14, Try.ntmps14
  go_wp2_with (first
    | (go_at_call 46; ((with_reducible refine (HM.out _).mono ?_); rintro e w1 ⟨rfl, rfl⟩))
    | (go_at_call 47; ((with_reducible refine (HGe.out _).mono ?_); rintro e w2 ⟨v, rfl, ho, hb⟩; obtain ⟨la, lc, rfl, hrd⟩ := gen_blk ho; have HR := Lib.hid hrd; have HB2 := Lib.hid hb; clear ho hb hrd))
    | fail)
  have HQ0 : Hid (QW w.heap.size w2.heap.size w w2 (.slice none 0 0) (.slice none 0 0) [] [] w2) := ⟨HB2.out.size, World.ownsRow_nil _ _ _ _, World.ownsRow_nil _ _ _ _, fun g h => by simp [Value.ownBlock] at h, fun _ _ => rfl, HB2.out, Nat.le_refl _⟩
  clear HGe
  go_loopw [5, 6, 8, 15] (fun V1 V2 _ I wr => ∃ (k : Nat) (A1 : Option Addr) (c1 : Nat) (A2 : Option Addr) (c2 : Nat), V1 = .slice A1 k c1 ∧ V2 = .slice A2 k c2 ∧ I = .int .i64 (k : Int) ∧ k ≤ G.length ∧ Hid (QW w.heap.size w2.heap.size w w2 (.slice A1 k c1) (.slice A2 k c2) ((G.take k).map fun g => (g.1 : Int)) ((G.take k).map fun g => (g.2 : Int)) wr)) (fun _ _ _ I _ => G.length - (intOf I).toNat)
  case atStart => exact ⟨0, _, _, _, _, rfl, rfl, rfl, Nat.zero_le _, HQ0.out⟩
  case round =>
    obtain ⟨k, A1, c1, A2, c2, rfl, rfl, rfl, hk, HQ⟩ := hrel
    clear HQ0
    by_cases hkl : k < G.length
    · have hkli : (k : Int) < (G.length : Int) := by omega
      obtain ⟨g, cs, rfl, hg1, hcell⟩ := HR.out k hkl
      obtain ⟨x1, x2⟩ := hcell wr ((HQ.out.keep g (lt_of_block hg1)).trans hg1)
      have HN1 : Hid ((G.take (k + 1)).map (fun g => (g.1 : Int)) = (G.take k).map (fun g => (g.1 : Int)) ++ [(G[k].1 : Int)]) := by
        show _ = _
        rw [List.take_add_one, List.getElem?_eq_getElem hkl, Option.toList_some, List.map_append]; rfl
      have HN2 : Hid ((G.take (k + 1)).map (fun g => (g.2 : Int)) = (G.take k).map (fun g => (g.2 : Int)) ++ [(G[k].2 : Int)]) := by
        show _ = _
        rw [List.take_add_one, List.getElem?_eq_getElem hkl, Option.toList_some, List.map_append]; rfl
      have hl1 : ((G.take k).map fun g => (g.1 : Int)).length = k := by rw [List.length_map, List.length_take]; omega
      have hl2 : ((G.take k).map fun g => (g.2 : Int)).length = k := by rw [List.length_map, List.length_take]; omega
      have HL1 := Lib.hid hl1
      have HL2 := Lib.hid hl2
      clear hg1 hcell hl1 hl2
      generalize (G.take k).map (fun g => (g.1 : Int)) = L1 at *
      generalize (G.take k).map (fun g => (g.2 : Int)) = L2 at *
      generalize G[k] = f at *
      obtain ⟨p, q⟩ := f
      simp only at x1 x2 HN1 HN2
      go_upto_region 7 with fail
      have HQ4 : Hid (QW w.heap.size w2.heap.size w w2 (.slice A1 k c1) (.slice A2 k c2) L1 L2 (wr.alloc (.cells #[.int .i64 (p : Int), .int .i64 (q : Int)] 73))) := HQ.out.on (below1 wr _)
      have HG4 : Hid ((wr.alloc (.cells #[.int .i64 (p : Int), .int .i64 (q : Int)] 73)).heap[wr.heap.size]? = some (.cells #[.int .i64 (p : Int), .int .i64 (q : Int)] 73 (0, 0))) := heap_alloc_new wr _
      clear x1 x2 HQ
      generalize (wr.alloc (.cells #[.int .i64 (p : Int), .int .i64 (q : Int)] 73)) = W4 at *
      generalize wr.heap.size = gb at *
      obtain ⟨y1, y2, _⟩ := cells_two HG4.out
      have hsz4 : w2.heap.size ≤ W4.heap.size := HQ4.out.size
      have HO1 : Hid (W4.ownsRow w2.heap.size 3 1 (.slice A1 k c1) k (zs L1)) := by have := HQ4.out.r1; rw [HL1.out] at this; exact this
      go_upto_region 8 with (first
        | (at_builtin; (refine app_snap _ rfl _ _ rfl w2.heap.size _ _ _ rfl (HO1.out.alloc _) W4.heap.size (.int .i64 (p : Int)) rfl (cell_one_new _ _ _) rfl (by omega) (by simp; omega) ?_); intro g5 cap5 w5 hown hg hat; have HQ5 := Lib.hid (HQ4.out.push1 (by rw [HL1.out]; exact hown) hg hat); have HG5 := Lib.hid (HQ4.out.box1 (by decide) HG4.out hg); clear hown hg hat)
        | fail)
      rw [HL1.out] at HQ5
      clear y1 y2 HQ4 HG4 HO1
      obtain ⟨y1, y2, _⟩ := cells_two HG5.out
      have hsz5 : w2.heap.size ≤ w5.heap.size := HQ5.out.size
      have HO2 : Hid (w5.ownsRow w2.heap.size 3 1 (.slice A2 k c2) k (zs L2)) := by have := HQ5.out.r2; rw [HL2.out] at this; exact this
      go_wp2_with (first
        | (at_builtin; (refine app_snap _ rfl _ _ rfl w2.heap.size _ _ _ rfl (HO2.out.alloc _) w5.heap.size (.int .i64 (q : Int)) rfl (cell_one_new _ _ _) rfl (by omega) (by simp; omega) ?_); intro g6 cap6 w6 hown hg hat; have HQ6 := Lib.hid (HQ5.out.push2 (by rw [HL2.out]; exact hown) hg hat); clear hown hg hat)
        | fail)
      rw [HL2.out] at HQ6
      go_roundw
      case rel => exact ⟨k + 1, _, _, _, _, rfl, rfl, by go_num, by omega, by rw [HN1.out, HN2.out]; exact HQ6.out⟩
      case measure => simp [intOf]; omega
    · obtain rfl : k = G.length := by omega
      have hk3 : ¬ (G.length : Int) < (G.length : Int) := by omega
      rw [List.take_length] at HQ
      have HQb := HQ.out.hB
      go_wp2
      refine bodyPost_ret (v := .tuple #[.slice A1 G.length c1, .slice A2 G.length c2, .int .i64 0]) ?_ rfl ⟨_, _, rfl, ?_, ?_, HQ.out.below⟩
      · simp [results, Try.results14, go_sem]
      · have h9 := own_base HQb HQ.out.r1
        rw [List.length_map] at h9
        first | exact h9 | (rw [List.length_map]; exact h9)
      · have h9 := own_base HQb HQ.out.r2
        rw [List.length_map] at h9
        first | exact h9 | (rw [List.length_map]; exact h9)
end Go.Proofs.Ytlagljnhbhnelaa
namespace Go.Proofs.Ytlagljnhbhnelaa
open Go.RowKit
set_option linter.unusedVariables false
set_option linter.unusedSimpArgs false

theorem bel_drewN {w w' : World} (h : ∃ n, w' = w.drewN n) : Below w.heap.size w w' := by
  obtain ⟨n, rfl⟩ := h
  exact below_drewN (Below.refl _ _) n
theorem gcdB_any (a b : Nat) (w : World) (ha : (a : Int) ≤ 1000000) (hb : (b : Int) ≤ 1000000) : Calls Try.prog 52 #[.int .i64 (a : Int), .int .i64 (b : Int)] w fun e w' => e = .returned (.int .i64 (Nat.gcd a b : Nat)) ∧ Below w.heap.size w w' := by
  refine (gcd_any (a : Int) (b : Int) w (by unfold Mid; omega) (by unfold Mid; omega)).mono fun e w' ⟨he, hw⟩ => ⟨?_, bel_drewN hw⟩
  rw [he]; simp [Int.gcd]
theorem lcmB_any (a b : Nat) (w : World) (a1 : 1 ≤ a) (b1 : 1 ≤ b) (a2 : (a : Int) ≤ 1000000) (b2 : (b : Int) ≤ 1000) : Calls Try.prog 51 #[.int .i64 (a : Int), .int .i64 (b : Int)] w fun e w' => e = .returned (.int .i64 (Nat.lcm a b : Nat)) ∧ Below w.heap.size w w' :=
  (dlcm_any a b w a1 b1 a2 b2).mono fun e w' ⟨he, hw⟩ => ⟨he, bel_drewN hw⟩
/-- The order of a character. -/
def odF : List Int → List (Nat × Nat) → Nat → Nat
  | x :: E, g :: G, a => odF E G (Nat.lcm a (g.2 / Nat.gcd g.2 x.toNat))
  | _, _, a => a
def ordV (n : Nat) (E : List Int) : Nat := odF E (gensV n) 1
set_option maxHeartbeats 3200000 in
set_option maxRecDepth 1000000 in
theorem dorder_any (n : Nat) (E : List Int) (A : Option Addr) (c : Nat) (w : World) (n1 : 1 ≤ n) (n2 : (n : Int) ≤ 60) (hE : RdZ w w.heap.size A c E) (hck : ckX n E = 0) :
    Calls Try.prog 20 #[.agg #[.int .i64 (n : Int), .slice A E.length c]] w fun e w' => e = .returned (.tuple #[.int .i64 (ordV n E : Nat), .int .i64 0]) ∧ Below w.heap.size w w' := by
  have HCk := Lib.hid (fun (W : World) (h : RdZ W W.heap.size A c E) => dck_any n E A c W n1 n2 h)
  rw [hck] at HCk
  obtain ⟨hel, hex⟩ := ck_ok hck
  have HEl := Lib.hid hel
  have HEx := Lib.hid hex
  have HGe := Lib.hid (fun W => gens_any n W n1 n2)
  have HGb := Lib.hid (gens_facts n1 (show n ≤ 60 by omega))
  have HTb := Lib.hid (tbc_le n1 (show n ≤ 60 by omega))
  have hgl := HGb.out.len
  have X0 : Hid ((w.alloc (.cells #[.int .i64 (n : Int), .slice A E.length c] 33)).heap[w.heap.size]? = some (.cells #[.int .i64 (n : Int), .slice A E.length c] 33 (0, 0))) := heap_alloc_new w _
  have B0 : Hid (Below w.heap.size w (w.alloc (.cells #[.int .i64 (n : Int), .slice A E.length c] 33))) := below1 w _
  have HE0 : Hid (∀ W, Below w.heap.size w W → RdZ W W.heap.size A c E) := fun W hW => (hE.below hW).mono hW.size
  have HEo := Lib.hid hE
  have HV : Hid (ordV n E = odF E (gensV n) 1) := rfl
  obtain ⟨x0, x1, _⟩ := cells_two X0.out
  clear hE hck hel hex
  generalize ordV n E = R at *
  generalize gensV n = G at *
  go_enter Try.func20, Try.ntmps20
  go_wp2_with (first
    | (go_at_call 24; ((with_reducible refine (HCk.out _ (HE0.out _ B0.out)).mono ?_); rintro e w1 ⟨rfl, hb⟩; have X1 := Lib.hid (block_below X0.out hb); have B1 := Lib.hid (B0.out.trans (hb.mono B0.out.size)); obtain ⟨y0, y1, _⟩ := cells_two X1.out; clear hb x0 x1))
    | (go_at_call 47; ((with_reducible refine (HGe.out _).mono ?_); rintro e w2 ⟨v, rfl, ho, hb⟩; obtain ⟨la, lc, rfl, hrd⟩ := gen_blk ho; have HR := Lib.hid hrd; have X2 := Lib.hid (block_below X1.out hb); have B2 := Lib.hid (B1.out.trans (hb.mono B1.out.size)); clear ho hb hrd y0 y1))
    | fail)
  clear HGe HCk
  go_loopw [5, 6, 7, 17] (fun O _ _ I wr => ∃ k a : Nat, O = .int .i64 (a : Int) ∧ I = .int .i64 (k : Int) ∧ k ≤ G.length ∧ 1 ≤ a ∧ Hid (a ∣ tbM (G.take k)) ∧ Hid (odF (E.drop k) (G.drop k) a = R) ∧ Hid (Below w2.heap.size w2 wr)) (fun _ _ _ I _ => G.length - (intOf I).toNat)
  case atStart => exact ⟨0, 1, rfl, rfl, Nat.zero_le _, by omega, Nat.one_dvd _, HV.out.symm, Below.refl _ _⟩
  case round =>
    obtain ⟨k, a, rfl, rfl, hk, ha, HD, HP, HW⟩ := hrel
    have hMk := HTb.out.2 k hk
    have ha60 : a ≤ 60 := Nat.le_trans (Nat.le_of_dvd (by omega) HD.out) hMk.2
    by_cases hkl : k < G.length
    · have hkli : (k : Int) < (G.length : Int) := by omega
      have hke : k < E.length := by have := HEl.out; omega
      have hkle : (k : Int) < (E.length : Int) := by omega
      obtain ⟨g, cs, rfl, hg1, hcell⟩ := HR.out k hkl
      obtain ⟨x1, x2⟩ := hcell wr (block_below hg1 HW.out)
      have q1 := HGb.out.o1 _ (List.getElem_mem hkl)
      have q60 := HGb.out.o2 _ (List.getElem_mem hkl)
      have hxx := HEx.out k hke hkl
      have HMs := Lib.hid (tbM_step G k hkl)
      have hp := HP.out
      rw [List.drop_eq_getElem_cons hkl, List.drop_eq_getElem_cons hke] at hp
      have HP2 : Hid (odF (E.drop (k + 1)) (G.drop (k + 1)) (Nat.lcm a (G[k].2 / Nat.gcd G[k].2 E[k].toNat)) = R) := hp
      have HEk : Hid (∀ W, Below w.heap.size w W → ∃ b o, A = some ⟨b, o, none⟩ ∧ b < w.heap.size ∧ W.cell? ⟨b, o + k, none⟩ = some (.int .i64 E[k])) := fun W hW => (HEo.out.below hW).at_ hke
      clear hg1 hcell hp HP
      generalize E[k] = x at *
      generalize G[k] = f at *
      obtain ⟨p, q⟩ := f
      simp only at x1 x2 q1 q60 hxx HP2 HMs
      obtain ⟨xn, rfl⟩ : ∃ xn : Nat, x = (xn : Int) := ⟨x.toNat, by omega⟩
      rw [Int.toNat_natCast] at HP2
      go_upto_region 8 with fail
      have HW4 : Hid (Below w2.heap.size w2 (wr.alloc (.cells #[.int .i64 (p : Int), .int .i64 (q : Int)] 73))) := HW.out.trans ((below1 wr _).mono HW.out.size)
      have HG4 : Hid ((wr.alloc (.cells #[.int .i64 (p : Int), .int .i64 (q : Int)] 73)).heap[wr.heap.size]? = some (.cells #[.int .i64 (p : Int), .int .i64 (q : Int)] 73 (0, 0))) := heap_alloc_new wr _
      clear x1 x2 HW
      generalize (wr.alloc (.cells #[.int .i64 (p : Int), .int .i64 (q : Int)] 73)) = W4 at *
      generalize wr.heap.size = gb at *
      have hBw : Below w.heap.size w W4 := B2.out.trans (HW4.out.mono B2.out.size)
      obtain ⟨b, o, rfl, hbB, _⟩ := HEk.out W4 hBw
      have HKc : Hid (∀ W, Below W4.heap.size W4 W → W.cell? ⟨gb, 1, none⟩ = some (.int .i64 (q : Int)) ∧ W.cell? ⟨w.heap.size, 1, none⟩ = some (.slice (some ⟨b, o, none⟩) E.length c) ∧ W.cell? ⟨b, o + k, none⟩ = some (.int .i64 (xn : Int))) := fun W hW => by
        refine ⟨(cells_two (block_below HG4.out hW)).2.1, (cells_two (block_below (block_below X2.out HW4.out) hW)).2.1, ?_⟩
        obtain ⟨b', o', e1, _, e2⟩ := HEk.out W (hBw.trans (hW.mono hBw.size))
        have : b = b' ∧ o = o' := by simpa using e1
        rw [this.1, this.2]; exact e2
      have hg1 : 1 ≤ Nat.gcd q xn := Nat.gcd_pos_of_pos_left xn q1
      have HQd : Hid (q / Nat.gcd q xn ∣ q) := Nat.div_dvd_of_dvd (Nat.gcd_dvd_left q xn)
      have hgq : Nat.gcd q xn ≤ q := Nat.gcd_le_left xn q1
      have hz1 : 1 ≤ q / Nat.gcd q xn := Nat.div_pos hgq hg1
      have hz2 : q / Nat.gcd q xn ≤ q := Nat.div_le_self _ _
      have htd : Int.tdiv (q : Int) ((Nat.gcd q xn : Nat) : Int) = ((q / Nat.gcd q xn : Nat) : Int) := (Int.ofNat_tdiv _ _).symm
      have hdv : (q : Int) / ((Nat.gcd q xn : Nat) : Int) = ((q / Nat.gcd q xn : Nat) : Int) := (Int.natCast_ediv _ _).symm
      have HGc := Lib.hid (fun W => gcdB_any q xn W (by omega) (by omega))
      have HLc := Lib.hid (fun W => lcmB_any a (q / Nat.gcd q xn) W ha hz1 (by omega) (by omega))
      have HDn : Hid (Nat.lcm a (q / Nat.gcd q xn) ∣ tbM (G.take (k + 1))) := by
        show _ ∣ _
        rw [HMs.out]
        exact Nat.lcm_dvd (Nat.dvd_trans HD.out (Nat.dvd_lcm_left _ _)) (Nat.dvd_trans HQd.out (Nat.dvd_lcm_right _ _))
      have hlp : 1 ≤ Nat.lcm a (q / Nat.gcd q xn) := Nat.lcm_pos ha hz1
      clear HQd HMs
      generalize Nat.gcd q xn = g9 at *
      generalize q / g9 = z at *
      generalize Nat.lcm a z = a9 at *
      have g0 : ((g9 : Int) == 0) = false := by rw [beq_eq_false_iff_ne]; omega
      have g0' : ¬ ((g9 : Int) = 0) := by omega
      have g0'' : ¬ (g9 = 0) := by omega
      have hwz : IntKind.i64.wrap (z : Int) = (z : Int) := IntWalk.i64_in _ (by omega)
      have D4 : Hid (Below W4.heap.size W4 W4.drew) := Below.drew (Below.refl _ _)
      go_region_held3 (fun w' => w'.cell? ⟨gb, 1, none⟩ = some (.int .i64 (q : Int)) ∧ w'.cell? ⟨w.heap.size, 1, none⟩ = some (.slice (some ⟨b, o, none⟩) E.length c) ∧ w'.cell? ⟨b, o + k, none⟩ = some (.int .i64 (xn : Int)))
        (with_reducible first | exact HKc.out _ D6.out | exact HKc.out _ D5.out | exact HKc.out _ D4.out | fail)
        (first
          | (go_at_call 52; ((with_reducible refine (HGc.out _).mono ?_); rintro e w5 ⟨rfl, hb⟩; have D5 := Lib.hid (D4.out.trans (hb.mono D4.out.size)); clear hb))
          | (go_at_call 51; ((with_reducible refine (HLc.out _).mono ?_); rintro e w6 ⟨rfl, hb⟩; have D6 := Lib.hid (D5.out.trans (hb.mono D5.out.size)); clear hb))
          | fail)
      have HW6 := Lib.hid (HW4.out.trans (D6.out.mono HW4.out.size))
      go_wp2
      go_roundw
      case rel => exact ⟨k + 1, a9, rfl, by go_num, by omega, hlp, HDn.out, HP2.out, HW6.out⟩
      case measure => simp [intOf]; omega
    · obtain rfl : k = G.length := by omega
      have hk3 : ¬ (G.length : Int) < (G.length : Int) := by omega
      have HRa : Hid (a = R) := by
        have := HP.out
        rw [List.drop_eq_nil_of_le (Nat.le_refl _)] at this
        rw [show odF (E.drop G.length) [] a = a by unfold odF; split <;> first | rfl | simp_all] at this
        exact this
      go_wp2
      exact bodyPost_ret (results_tmp2 rfl _ _ _) rfl ⟨by rw [← HRa.out]; rfl, B2.out.trans (HW.out.mono B2.out.size)⟩
set_option maxHeartbeats 800000 in
set_option maxRecDepth 1000000 in
/-- Equal characters are the same. -/
theorem csame_any (n : Int) (E : List Int) (A1 A2 : Option Addr) (c1 c2 B1 B2 : Nat) (w : World) (h1 : RdZ w B1 A1 c1 E) (h2 : RdZ w B2 A2 c2 E) (b1 : B1 ≤ w.heap.size) (b2 : B2 ≤ w.heap.size) :
    Calls Try.prog 30 #[.agg #[.int .i64 n, .slice A1 E.length c1], .agg #[.int .i64 n, .slice A2 E.length c2]] w fun e w' => e = .returned (.bool true) ∧ Below w.heap.size w w' := by
  have X0 : Hid (((w.alloc (.cells #[.int .i64 n, .slice A1 E.length c1] 33)).alloc (.cells #[.int .i64 n, .slice A2 E.length c2] 33)).heap[w.heap.size]? = some (.cells #[.int .i64 n, .slice A1 E.length c1] 33 (0, 0))) := block_alloc (heap_alloc_new w _) _
  have R0 : Hid (((w.alloc (.cells #[.int .i64 n, .slice A1 E.length c1] 33)).alloc (.cells #[.int .i64 n, .slice A2 E.length c2] 33)).heap[w.heap.size + 1]? = some (.cells #[.int .i64 n, .slice A2 E.length c2] 33 (0, 0))) := by
    have := heap_alloc_new (w.alloc (.cells #[.int .i64 n, .slice A1 E.length c1] 33)) (.cells #[.int .i64 n, .slice A2 E.length c2] 33)
    show _ = _; simpa using this
  have B0 : Hid (Below w.heap.size w ((w.alloc (.cells #[.int .i64 n, .slice A1 E.length c1] 33)).alloc (.cells #[.int .i64 n, .slice A2 E.length c2] 33))) := below2 w _ _
  have HI := Lib.hid (ints_same (l := E) ((w.alloc (.cells #[.int .i64 n, .slice A1 E.length c1] 33)).alloc (.cells #[.int .i64 n, .slice A2 E.length c2] 33)) ((h1.mono b1).below B0.out) ((h2.mono b2).below B0.out))
  obtain ⟨x0, x1, _⟩ := cells_two X0.out
  obtain ⟨y0, y1, _⟩ := cells_two R0.out
  clear h1 h2
  go_enter Try.func30, Try.ntmps30
  go_wp2_with (first
    | (go_at_call 17; ((with_reducible refine HI.out.mono ?_); rintro e w1 ⟨rfl, hd⟩; have B1 := Lib.hid (B0.out.trans ((bel_drewN hd).mono B0.out.size)); clear hd))
    | fail)
  go_ret
  exact ⟨by first | rfl | simp, B1.out⟩
end Go.Proofs.Ytlagljnhbhnelaa
namespace Go.Proofs.Ytlagljnhbhnelaa
open Go.RowKit
set_option linter.unusedVariables false
set_option linter.unusedSimpArgs false

/-- A block of two integers reads as their list. -/
theorem rdz_two {w : World} {g : Nat} {x y : Int} (h : w.heap[g]? = some (.cells #[.int .i64 x, .int .i64 y] 3 (0, 0))) : RdZ w (g + 1) (some ⟨g, 0, none⟩) 2 [x, y] := by
  refine ⟨by simp, by unfold maxLen; omega, fun _ => ⟨g, 0, rfl, by omega, fun k hk => ?_⟩, fun a ha => by cases ha; exact ⟨_, _, rfl⟩⟩
  have : k = 0 ∨ k = 1 := by simp at hk; omega
  rcases this with rfl | rfl
  · exact (cells_two h).1
  · exact (cells_two h).2.1
theorem aw_g1 : (gensV 15).map (fun g => (g.1 : Int)) = [11, 7] := by decide +kernel
theorem aw_g2 : (gensV 15).map (fun g => (g.2 : Int)) = [2, 4] := by decide +kernel
theorem aw_ck : ckX 15 [1, 1] = 0 := by decide +kernel
theorem aw_or : ordV 15 [1, 1] = 4 := by decide +kernel
theorem aw_q : quE (-8) 8 = [1, 1] := by decide +kernel
theorem aw_f : fdB (-8) = true := by decide +kernel
set_option maxRecDepth 100000 in
theorem aw_c : (pdV (tbV 15 [1, 1]) 15 && (List.range 15).all fun f => f = 0 || !pdV (tbV 15 [1, 1]) f) = true := by decide +kernel
theorem aw_cn : ∀ f, 1 ≤ f → f < 15 → pdV (tbV 15 [1, 1]) f = false := fun f h1 h2 => by
  have h := aw_c
  rw [Bool.and_eq_true] at h
  have h3 := List.all_eq_true.1 h.2 f (List.mem_range.2 h2)
  simp only [Bool.or_eq_true, decide_eq_true_eq, Bool.not_eq_true'] at h3
  rcases h3 with h3 | h3
  · omega
  · exact h3
set_option maxHeartbeats 3200000 in
set_option maxRecDepth 1000000 in
theorem awake28_any (w : World) : Calls Try.prog 13 #[] w fun e w' => e = .returned (.bool true) ∧ Below w.heap.size w w' := by
  have HG : Hid (∀ W : World, Calls Try.prog 14 #[.int .i64 15] W fun e w' => ∃ A1 c1 A2 c2, e = .returned (.tuple #[.slice A1 2 c1, .slice A2 2 c2, .int .i64 0]) ∧ RdZ w' w'.heap.size A1 c1 [11, 7] ∧ RdZ w' w'.heap.size A2 c2 [2, 4] ∧ Below W.heap.size W w') := fun W => by
    have h := pgen_any 15 W (by omega) (by omega)
    rw [aw_g1, aw_g2] at h
    refine h.mono fun e w' ⟨v1, v2, he, h1, h2, hb⟩ => ?_
    obtain ⟨A1, c1, rfl, hr1⟩ := own_rdz h1
    obtain ⟨A2, c2, rfl, hr2⟩ := own_rdz h2
    exact ⟨A1, c1, A2, c2, he, hr1, hr2, hb⟩
  have HO : Hid (∀ (A : Option Addr) (c : Nat) (W : World), RdZ W W.heap.size A c [1, 1] → Calls Try.prog 20 #[.agg #[.int .i64 15, .slice A 2 c]] W fun e w' => e = .returned (.tuple #[.int .i64 4, .int .i64 0]) ∧ Below W.heap.size W w') := fun A c W h => by
    have h1 := dorder_any 15 [1, 1] A c W (by omega) (by omega) h aw_ck
    rw [aw_or] at h1; exact h1
  have HC : Hid (∀ (A : Option Addr) (c : Nat) (W : World), RdZ W W.heap.size A c [1, 1] → Calls Try.prog 21 #[.agg #[.int .i64 15, .slice A 2 c]] W fun e w' => e = .returned (.tuple #[.int .i64 15, .int .i64 0]) ∧ Below W.heap.size W w') := fun A c W h =>
    dcond_any 15 15 [1, 1] A c W (by omega) (by omega) h aw_ck (by omega) (by omega) (by have h := aw_c; rw [Bool.and_eq_true] at h; exact h.1) aw_cn
  have HQ : Hid (∀ W : World, Calls Try.prog 44 #[.int .i64 (-8)] W fun e w' => ∃ A c, e = .returned (.tuple #[.agg #[.int .i64 8, .slice A 2 c], .int .i64 0]) ∧ RdZ w' w'.heap.size A c [1, 1] ∧ Below W.heap.size W w') := fun W => by
    have h := dquad_any (-8) W aw_f (by omega) (by omega)
    rw [show Int.natAbs (-8) = 8 from rfl, aw_q] at h
    refine h.mono fun e w' ⟨v, he, h1, hb⟩ => ?_
    obtain ⟨A1, c1, rfl, hr1⟩ := own_rdz h1
    exact ⟨A1, c1, he, hr1, hb⟩
  have HI : Hid (∀ (x y : Int) (A1 A2 : Option Addr) (c1 c2 B1 B2 : Nat) (W : World), RdZ W B1 A1 c1 [x, y] → RdZ W B2 A2 c2 [x, y] → Calls Try.prog 17 #[.slice A1 2 c1, .slice A2 2 c2] W fun e w' => e = .returned (.bool true) ∧ Below W.heap.size W w') := fun x y A1 A2 c1 c2 B1 B2 W h1 h2 =>
    (ints_same (l := [x, y]) W h1 h2).mono fun e w' ⟨he, hd⟩ => ⟨he, bel_drewN hd⟩
  have HS : Hid (∀ (A1 A2 : Option Addr) (c1 c2 B1 B2 : Nat) (W : World), RdZ W B1 A1 c1 [1, 1] → RdZ W B2 A2 c2 [1, 1] → B1 ≤ W.heap.size → B2 ≤ W.heap.size → Calls Try.prog 30 #[.agg #[.int .i64 8, .slice A1 2 c1], .agg #[.int .i64 8, .slice A2 2 c2]] W fun e w' => e = .returned (.bool true) ∧ Below W.heap.size W w') := fun A1 A2 c1 c2 B1 B2 W h1 h2 h3 h4 =>
    csame_any 8 [1, 1] A1 A2 c1 c2 B1 B2 W h1 h2 h3 h4
  go_enter Try.func13, Try.ntmps13
  go_upto_region 3 with (first
    | (go_at_call 14; ((with_reducible refine (HG.out _).mono ?_); rintro e w1 ⟨A1, c1, A2, c2, rfl, hr1, hr2, hb⟩; have HR1 := Lib.hid hr1; have HR2 := Lib.hid hr2; have HB1 := Lib.hid hb; clear hr1 hr2 hb))
    | fail)
  obtain ⟨W3, hW3⟩ : ∃ W3, W3 = ((w1.alloc (.cells #[.int .i64 1, .int .i64 1] 3)).alloc (.cells #[.int .i64 15, .slice (some ⟨w1.heap.size, 0, none⟩) 2 2] 33)) := ⟨_, rfl⟩
  have P3 : Hid (RdZ W3 (w1.heap.size + 1) (some ⟨w1.heap.size, 0, none⟩) 2 [1, 1]) := by
    rw [hW3]; exact rdz_two (block_alloc (heap_alloc_new w1 _) _)
  have X3 : Hid (W3.heap[w1.heap.size + 1]? = some (.cells #[.int .i64 15, .slice (some ⟨w1.heap.size, 0, none⟩) 2 2] 33 (0, 0))) := by
    rw [hW3]
    have := heap_alloc_new (w1.alloc (.cells #[.int .i64 1, .int .i64 1] 3)) (.cells #[.int .i64 15, .slice (some ⟨w1.heap.size, 0, none⟩) 2 2] 33)
    show _ = _; simpa using this
  have D3 : Hid (Below w1.heap.size w1 W3) := by rw [hW3]; exact below2 w1 _ _
  have hs3 : w1.heap.size + 1 ≤ W3.heap.size := by rw [hW3]; simp
  rw [← hW3]
  clear hW3
  obtain ⟨x0, x1, _⟩ := cells_two X3.out
  go_upto_region 6 with (first
    | (go_at_call 20; ((with_reducible refine (HO.out _ _ _ (P3.out.mono hs3)).mono ?_); rintro e w4 ⟨rfl, hb⟩; have D4 := Lib.hid (D3.out.trans (hb.mono D3.out.size)); have P4 := Lib.hid ((P3.out.mono hs3).below hb); have X4 := Lib.hid (block_below X3.out hb); have hs4 := hb.size; clear x0 x1 hb; obtain ⟨x0, x1, _⟩ := cells_two X4.out))
    | (go_at_call 21; ((with_reducible refine (HC.out _ _ _ (P4.out.mono hs4)).mono ?_); rintro e w5 ⟨rfl, hb⟩; have D5 := Lib.hid (D4.out.trans (hb.mono D4.out.size)); clear x0 x1 hb))
    | (go_at_call 44; ((with_reducible refine (HQ.out _).mono ?_); rintro e w6 ⟨A9, c9, rfl, hr, hb⟩; have D6 := Lib.hid (D5.out.trans (hb.mono D5.out.size)); have P6 := Lib.hid hr; clear hb hr))
    | fail)
  have X7 : Hid ((w6.alloc (.cells #[.int .i64 8, .slice A9 2 c9] 33)).heap[w6.heap.size]? = some (.cells #[.int .i64 8, .slice A9 2 c9] 33 (0, 0))) := heap_alloc_new w6 _
  have D7 : Hid (Below w1.heap.size w1 (w6.alloc (.cells #[.int .i64 8, .slice A9 2 c9] 33))) := D6.out.alloc D6.out.size _
  have P7 : Hid (RdZ (w6.alloc (.cells #[.int .i64 8, .slice A9 2 c9] 33)) w6.heap.size A9 c9 [1, 1]) := P6.out.below (below1 w6 _)
  have hs7 : w6.heap.size ≤ (w6.alloc (.cells #[.int .i64 8, .slice A9 2 c9] 33)).heap.size := by simp
  generalize (w6.alloc (.cells #[.int .i64 8, .slice A9 2 c9] 33)) = w7 at *
  generalize w6.heap.size = xb at *
  go_wp2_with (first
    | (go_at_call 17; first
        | ((with_reducible refine (HI.out 11 7 _ _ _ _ _ _ _ (HR1.out.below (D7.out.alloc D7.out.size _)) (rdz_two (heap_alloc_new w7 _))).mono ?_); rintro e w8 ⟨rfl, hb⟩; have D8 := Lib.hid ((D7.out.alloc D7.out.size _).trans (hb.mono (D7.out.alloc D7.out.size _).size)); have G8 := Lib.hid ((below1 w7 _).trans (hb.mono (below1 w7 _).size)); clear hb)
        | ((with_reducible refine (HI.out 2 4 _ _ _ _ _ _ _ (HR2.out.below (D8.out.alloc D8.out.size _)) (rdz_two (heap_alloc_new w8 _))).mono ?_); rintro e w9 ⟨rfl, hb⟩; have D9 := Lib.hid ((D8.out.alloc D8.out.size _).trans (hb.mono (D8.out.alloc D8.out.size _).size)); have G9 := Lib.hid (G8.out.trans (((below1 w8 _).trans (hb.mono (below1 w8 _).size)).mono G8.out.size)); have X9 := Lib.hid (block_below X7.out G9.out); obtain ⟨x0, x1, _⟩ := cells_two X9.out; clear hb)
        | fail)
    | (go_at_call 30; ((with_reducible refine (HS.out _ _ _ _ _ _ _ (((P7.out.mono hs7).below G9.out).below ((below1 w9 _).mono G9.out.size)) (rdz_two (heap_alloc_new w9 _)) (by have := G9.out.size; simp; omega) (by simp)).mono ?_); rintro e w10 ⟨rfl, hb⟩; have D10 := Lib.hid ((D9.out.alloc D9.out.size _).trans (hb.mono (D9.out.alloc D9.out.size _).size)); clear hb))
    | fail)
  go_ret
  exact ⟨by first | rfl | simp, HB1.out.trans (D10.out.mono HB1.out.size)⟩
end Go.Proofs.Ytlagljnhbhnelaa
