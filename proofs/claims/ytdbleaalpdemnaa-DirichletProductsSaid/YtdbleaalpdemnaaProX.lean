/- Products and conjugates of characters: Mul and Conjugate of the project and of the reference. Mul and Conjugate where they refuse; DirichletProducts. DirichletProducts: products and conjugates are those of the reference, or the errors are. -/
import Derived.Test.YtdbleaalpdemnaaQuX
import Derived.Test.YtdbleaalpdemnaaChkR
namespace Go.Proofs.Ytdbleaalpdemnaa
open Go.RowKit
set_option linter.unusedVariables false
set_option linter.unusedSimpArgs false

theorem OW.on {B C tb : Nat} {w0 w2 w w1 : World} {n : Nat} {v : Value} {E : List Int} (h : OW B C tb w0 w2 n v E w) (hb : Below w.heap.size w w1) : OW B C tb w0 w2 n v E w1 :=
  ⟨h.tc, h.tB, Nat.le_trans h.size hb.size, block_below h.box hb, own_below h.own hb, fun j hj hn => (hb.block j (by have := h.size; omega)).trans (h.keep j hj hn), h.below.trans (hb.mono (by have h1 := h.tc; have h2 := h.tB; have h3 := h.size; omega))⟩
theorem OW.drew {B C tb : Nat} {w0 w2 w : World} {n : Nat} {v : Value} {E : List Int} (h : OW B C tb w0 w2 n v E w) : OW B C tb w0 w2 n v E w.drew := h.on (Below.refl _ _).drew
theorem OW.row {B C tb B2 c : Nat} {w0 w2 w : World} {n : Nat} {v : Value} {E L : List Int} {A : Option Addr} (h : OW B C tb w0 w2 n v E w) (hr : RdZ w2 B2 A c L) (hB : B2 ≤ tb) : RdZ w B2 A c L :=
  hr.keep fun b o hb => World.cell?_of_block (h.keep b (by have := h.tc; omega) (by omega))
theorem OW.blk {B C tb g : Nat} {w0 w2 w : World} {n : Nat} {v : Value} {E : List Int} {o : Obj} (h : OW B C tb w0 w2 n v E w) (hr : w2.heap[g]? = some o) (hg : g < tb) : w.heap[g]? = some o :=
  (h.keep g (by have := h.tc; omega) (by omega)).trans hr
/-- The exponents of a product and of a conjugate. -/
def mulX (G : List (Nat × Nat)) (E F : List Int) (i : Nat) : Int := (E.getD i 0 + F.getD i 0) % ((G.getD i (0, 0)).2 : Int)
def conX (G : List (Nat × Nat)) (E : List Int) (i : Nat) : Int := (((G.getD i (0, 0)).2 : Int) - E.getD i 0) % ((G.getD i (0, 0)).2 : Int)
def mulCE (n : Nat) (E F : List Int) : List Int := (List.range (gensV n).length).map (mulX (gensV n) E F)
def conE (n : Nat) (E : List Int) : List Int := (List.range (gensV n).length).map (conX (gensV n) E)
theorem rm_step {f : Nat → Int} (k : Nat) : (List.range (k + 1)).map f = (List.range k).map f ++ [f k] := by rw [List.range_succ, List.map_append]; rfl
theorem getDI (E : List Int) (k : Nat) (h : k < E.length) : E.getD k 0 = E[k] := by rw [List.getD_eq_getElem?_getD, List.getElem?_eq_getElem h]; rfl
theorem getDG (G : List (Nat × Nat)) (k : Nat) (h : k < G.length) : G.getD k (0, 0) = G[k] := by rw [List.getD_eq_getElem?_getD, List.getElem?_eq_getElem h]; rfl
set_option maxHeartbeats 6400000 in
set_option maxRecDepth 1000000 in
theorem rconj_any (n : Nat) (E : List Int) (A : Option Addr) (c : Nat) (w : World) (n1 : 1 ≤ n) (n2 : (n : Int) ≤ 60) (hE : RdZ w w.heap.size A c E) (hck : ckX n E = 0) :
    Calls Try.prog 39 #[.agg #[.int .i64 (n : Int), .slice A E.length c]] w fun e w' => ∃ v, e = .returned (.agg #[.int .i64 (n : Int), v]) ∧ w'.ownsRow w.heap.size 3 1 v (conE n E).length (zs (conE n E)) ∧ Below w.heap.size w w' := by
  obtain ⟨i0, hi0, z0, z1, z2⟩ := info_parts Try.infoIntC
  obtain ⟨hel, hex⟩ := ck_ok hck
  have HEl := Lib.hid hel
  have HEx := Lib.hid hex
  have HRg : Hid (∀ W : World, Calls Try.prog 16 #[.int .i64 (n : Int)] W fun e w' => ∃ A8 c8 A9 c9, e = .returned (.tuple #[.slice A8 (gensV n).length c8, .slice A9 (gensV n).length c9]) ∧ RdZ w' w'.heap.size A9 c9 (m2 (gensV n)) ∧ Below W.heap.size W w') := fun W => by
    refine (rgenr_any n W n1 n2).mono fun e w' ⟨v1, v2, he, h1, h2, hb⟩ => ?_
    obtain ⟨A8, c8, rfl, hr1⟩ := own_rdz h1
    obtain ⟨A9, c9, rfl, hr2⟩ := own_rdz h2
    rw [List.length_map, List.length_map] at he
    exact ⟨A8, c8, A9, c9, he, hr2, hb⟩
  have HLl : Hid ((m2 (gensV n)).length = (gensV n).length) := List.length_map ..
  have HMg : Hid (∀ k (h : k < (gensV n).length) (h2 : k < (m2 (gensV n)).length), (m2 (gensV n))[k] = (((gensV n)[k].2 : Nat) : Int)) := fun k h h2 => by simp [m2]
  have HGb := Lib.hid (gens_facts n1 (show n ≤ 60 by omega))
  have hgl := HGb.out.len
  have HL : Hid (conE n E = (List.range (gensV n).length).map (conX (gensV n) E)) := rfl
  have HE := Lib.hid hE
  have X0 : Hid (((w.alloc (.cells #[.int .i64 (n : Int), .slice A E.length c] 33)).alloc (.cells #[.int .i64 0, .slice none 0 0] 33)).heap[w.heap.size]? = some (.cells #[.int .i64 (n : Int), .slice A E.length c] 33 (0, 0))) := block_alloc (heap_alloc_new w _) _
  have R0 : Hid (((w.alloc (.cells #[.int .i64 (n : Int), .slice A E.length c] 33)).alloc (.cells #[.int .i64 0, .slice none 0 0] 33)).heap[w.heap.size + 1]? = some (.cells #[.int .i64 0, .slice none 0 0] 33 (0, 0))) := by
    have := heap_alloc_new (w.alloc (.cells #[.int .i64 (n : Int), .slice A E.length c] 33)) (.cells #[.int .i64 0, .slice none 0 0] 33)
    show _ = _; simpa using this
  have B0 : Hid (Below w.heap.size w ((w.alloc (.cells #[.int .i64 (n : Int), .slice A E.length c] 33)).alloc (.cells #[.int .i64 0, .slice none 0 0] 33))) := below2 w _ _
  obtain ⟨x0, x1, _⟩ := cells_two X0.out
  clear hE hck hel hex
  generalize conE n E = LL at *
  generalize gensV n = G at *
  go_enter Try.func39, Try.ntmps39
  go_upto_region 3 with (first
      | (go_at_call 16; ((with_reducible refine (HRg.out _).mono ?_); rintro e w2 ⟨A8, c8, A9, c9, rfl, hr, hb⟩; have X2 := Lib.hid (block_below X0.out hb); have R2 := Lib.hid (block_below R0.out hb); have B2 := Lib.hid (B0.out.trans (hb.mono B0.out.size)); have HR9 := Lib.hid hr; clear hr; clear hb x0 x1; obtain ⟨x0, x1, _⟩ := cells_two X2.out; skip))
      | fail)
  have hrl := lt_of_block R2.out
  obtain ⟨w3, hw3⟩ : ∃ w3, w3 = w2.alloc (.cells #[.int .i64 (n : Int), .slice none 0 0] 33) := ⟨_, rfl⟩
  have HO3 : Hid (OW w.heap.size (w2.heap.size + 1) w2.heap.size w w3 n (.slice none 0 0) [] w3) := by
    rw [hw3]
    exact ⟨by omega, B2.out.size, by simp, heap_alloc_new w2 _, World.ownsRow_nil _ _ _ _, fun _ _ _ => rfl, B2.out.alloc B2.out.size _⟩
  have hsz3 : w3.heap.size = w2.heap.size + 1 := by rw [hw3]; simp
  have X3 : Hid (w3.heap[w.heap.size]? = some (.cells #[.int .i64 (n : Int), .slice A E.length c] 33 (0, 0))) := by rw [hw3]; exact block_alloc X2.out _
  have R3 : Hid (w3.heap[w.heap.size + 1]? = some (.cells #[.int .i64 0, .slice none 0 0] 33 (0, 0))) := by rw [hw3]; exact block_alloc R2.out _
  have HR3 : Hid (RdZ w3 w2.heap.size A9 c9 (m2 G)) := by rw [hw3]; exact HR9.out.below (below1 w2 _)
  rw [← hw3]
  clear hw3 x0 x1
  generalize w2.heap.size = tb at *
  go_wp2
  go_loopw [6] (fun I wr => ∃ (k : Nat) (v : Value), I = .int .i64 (k : Int) ∧ k ≤ G.length ∧ Hid (OW w.heap.size (tb + 1) tb w w3 n v ((List.range k).map (conX G E)) wr)) (fun I _ => G.length - (intOf I).toNat)
  case atStart => exact ⟨0, _, rfl, Nat.zero_le _, HO3.out⟩
  case round =>
    clear HO3
    obtain ⟨k, v, rfl, hk, HO⟩ := hrel
    by_cases hkl : k < G.length
    · have hkli : (k : Int) < (G.length : Int) := by omega
      have hke : k < E.length := by have := HEl.out; omega
      have hkle : (k : Int) < (E.length : Int) := by omega
      have HOd := Lib.hid HO.out.drew
      have hsd := HOd.out.size
      obtain ⟨wd, hwd⟩ : ∃ wd, wd = wr.drew := ⟨_, rfl⟩
      rw [← hwd] at HOd hsd
      have hex := HEx.out k hke hkl
      have q1 := HGb.out.o1 _ (List.getElem_mem hkl)
      have q60 := HGb.out.o2 _ (List.getElem_mem hkl)
      obtain ⟨b1, o1, rfl, hb1, xx1⟩ := ((HE.out.below HOd.out.below)).at_ hke
      obtain ⟨b9, o9, rfl, hb9, xx9⟩ := (HOd.out.row HR3.out (Nat.le_refl _)).at_ (k := k) (by rw [HLl.out]; exact hkl)
      rw [HMg.out k hkl] at xx9
      have HN : Hid ((List.range (k + 1)).map (conX G E) = (List.range k).map (conX G E) ++ [((G[k].2 : Int) - E[k]) % (G[k].2 : Int)]) := by
        show _ = _
        rw [rm_step]; congr 1; unfold conX; rw [getDI E k hke, getDG G k hkl]
      have HTl : Hid (((List.range k).map (conX G E)).length = k) := by show _ = _; rw [List.length_map, List.length_range]
      generalize E[k] = x at *
      generalize G[k] = f at *
      obtain ⟨p, q⟩ := f
      simp only at hex q1 q60 xx9 HN
      generalize (List.range k).map (conX G E) = L at *
      have q0 : ((q : Int) == 0) = false := by rw [beq_eq_false_iff_ne]; omega
      have q0' : ¬ ((q : Int) = 0) := by omega
      have q0'' : ¬ (q = 0) := by omega
      have hz0 := Int.emod_nonneg ((q : Int) - x) q0'
      have hz1 := Int.emod_lt_of_pos ((q : Int) - x) (show 0 < (q : Int) by omega)
      have htm : Int.tmod ((q : Int) - x) (q : Int) = ((q : Int) - x) % (q : Int) := Int.tmod_eq_emod_of_nonneg (by omega)
      have hws : IntKind.i64.wrap ((q : Int) - x) = ((q : Int) - x) := IntWalk.i64_in _ (by omega)
      generalize ((q : Int) - x) % (q : Int) = z at *
      have hwz : IntKind.i64.wrap z = z := IntWalk.i64_in _ (by omega)
      have hCs : w.heap.size ≤ tb := HOd.out.tB
      have HHd : Hid (∀ W, Below wd.heap.size wd W → W.cell? ⟨tb, 1, none⟩ = some v ∧ W.cell? ⟨w.heap.size, 1, none⟩ = some (.slice (some ⟨b1, o1, none⟩) E.length c) ∧ W.cell? ⟨b1, o1 + k, none⟩ = some (.int .i64 x) ∧ W.cell? ⟨b9, o9 + k, none⟩ = some (.int .i64 (q : Int))) := fun W hW => ⟨(cells_two (block_below HOd.out.box hW)).2.1, (cells_two (block_below (HOd.out.blk X3.out (by omega)) hW)).2.1, (hW.cell (p := ⟨b1, o1 + k, none⟩) (by show b1 < wd.heap.size; omega)).trans xx1, (hW.cell (p := ⟨b9, o9 + k, none⟩) (by show b9 < wd.heap.size; omega)).trans xx9⟩
      have HTs := Lib.hid (show tb + 1 ≤ wd.heap.size from hsd)
      clear xx1 xx9
      go_upto_region 6 with fail
      refine region_E 18 (fun W => W.cell? ⟨tb, 1, none⟩ = some v ∧ W.cell? ⟨w.heap.size, 1, none⟩ = some (.slice (some ⟨b1, o1, none⟩) E.length c) ∧ W.cell? ⟨b1, o1 + k, none⟩ = some (.int .i64 x) ∧ W.cell? ⟨b9, o9 + k, none⟩ = some (.int .i64 (q : Int))) (by kernel_rfl) ?_
      rw [← hwd]
      clear hwd
      have hHeld := HHd.out wd (Below.refl _ _)
      refine take_E (n := 18) (i := 0) (v := ?vtt_0) rfl (by kernel_rfl) (fun _ _ _ h => h) ?hytt_0 (by rfl) hHeld ?resttt_0
      case hytt_0 => (intro w9 hSw; (try dsimp only at hSw); go_simp <;> with_reducible rfl)
      (try simp only [List.getElem_toArray, List.getElem_cons_zero, List.getElem_cons_succ, Act.put, List.setIfInBounds_toArray, List.set_cons_zero, List.set_cons_succ])
      refine take_E (n := 18) (i := 1) (v := ?vtt_1) rfl (by kernel_rfl) (fun _ _ _ h => h) ?hytt_1 (by rfl) hHeld ?resttt_1
      case hytt_1 => (intro w9 hSw; (try dsimp only at hSw); go_simp <;> with_reducible rfl)
      (try simp only [List.getElem_toArray, List.getElem_cons_zero, List.getElem_cons_succ, Act.put, List.setIfInBounds_toArray, List.set_cons_zero, List.set_cons_succ])
      refine take_E (n := 18) (i := 2) (v := ?vtt_2) rfl (by kernel_rfl) (fun _ _ _ h => h) ?hytt_2 (by rfl) hHeld ?resttt_2
      case hytt_2 => (intro w9 hSw; (try dsimp only at hSw); go_simp <;> with_reducible rfl)
      (try simp only [List.getElem_toArray, List.getElem_cons_zero, List.getElem_cons_succ, Act.put, List.setIfInBounds_toArray, List.set_cons_zero, List.set_cons_succ])
      refine take_E (n := 18) (i := 3) (v := ?vtt_3) rfl (by kernel_rfl) (fun _ _ _ h => h) ?hytt_3 (by rfl) hHeld ?resttt_3
      case hytt_3 => (intro w9 hSw; (try dsimp only at hSw); go_simp <;> with_reducible rfl)
      (try simp only [List.getElem_toArray, List.getElem_cons_zero, List.getElem_cons_succ, Act.put, List.setIfInBounds_toArray, List.set_cons_zero, List.set_cons_succ])
      refine take_E (n := 18) (i := 4) (v := ?vtt_4) rfl (by kernel_rfl) (fun _ _ _ h => h) ?hytt_4 (by rfl) hHeld ?resttt_4
      case hytt_4 => (intro w9 hSw; (try dsimp only at hSw); go_simp <;> with_reducible rfl)
      (try simp only [List.getElem_toArray, List.getElem_cons_zero, List.getElem_cons_succ, Act.put, List.setIfInBounds_toArray, List.set_cons_zero, List.set_cons_succ])
      refine take_E (n := 18) (i := 5) (v := ?vtt_5) rfl (by kernel_rfl) (fun _ _ _ h => h) ?hytt_5 (by rfl) hHeld ?resttt_5
      case hytt_5 => (intro w9 hSw; (try dsimp only at hSw); go_simp <;> with_reducible rfl)
      (try simp only [List.getElem_toArray, List.getElem_cons_zero, List.getElem_cons_succ, Act.put, List.setIfInBounds_toArray, List.set_cons_zero, List.set_cons_succ])
      refine take_E (n := 18) (i := 6) (v := ?vtt_6) rfl (by kernel_rfl) (fun _ _ _ h => h) ?hytt_6 (by rfl) hHeld ?resttt_6
      case hytt_6 => (intro w9 hSw; (try dsimp only at hSw); go_simp <;> with_reducible rfl)
      (try simp only [List.getElem_toArray, List.getElem_cons_zero, List.getElem_cons_succ, Act.put, List.setIfInBounds_toArray, List.set_cons_zero, List.set_cons_succ])
      refine take_E (n := 18) (i := 7) (v := ?vtt_7) rfl (by kernel_rfl) (fun _ _ _ h => h) ?hytt_7 (by rfl) hHeld ?resttt_7
      case hytt_7 => (intro w9 hSw; (try dsimp only at hSw); go_simp <;> with_reducible rfl)
      (try simp only [List.getElem_toArray, List.getElem_cons_zero, List.getElem_cons_succ, Act.put, List.setIfInBounds_toArray, List.set_cons_zero, List.set_cons_succ])
      refine take_E (n := 18) (i := 8) (v := ?vtt_8) rfl (by kernel_rfl) (fun _ _ _ h => h) ?hytt_8 (by rfl) hHeld ?resttt_8
      case hytt_8 => (intro w9 hSw; (try dsimp only at hSw); go_simp <;> with_reducible rfl)
      (try simp only [List.getElem_toArray, List.getElem_cons_zero, List.getElem_cons_succ, Act.put, List.setIfInBounds_toArray, List.set_cons_zero, List.set_cons_succ])
      refine take_E (n := 18) (i := 9) (v := ?vtt_9) rfl (by kernel_rfl) (fun _ _ _ h => h) ?hytt_9 (by rfl) hHeld ?resttt_9
      case hytt_9 => (intro w9 hSw; (try dsimp only at hSw); go_simp <;> with_reducible rfl)
      (try simp only [List.getElem_toArray, List.getElem_cons_zero, List.getElem_cons_succ, Act.put, List.setIfInBounds_toArray, List.set_cons_zero, List.set_cons_succ])
      refine take_E (n := 18) (i := 10) (v := ?vtt_10) rfl (by kernel_rfl) (fun _ _ _ h => h) ?hytt_10 (by rfl) hHeld ?resttt_10
      case hytt_10 => (intro w9 hSw; (try dsimp only at hSw); go_simp <;> with_reducible rfl)
      (try simp only [List.getElem_toArray, List.getElem_cons_zero, List.getElem_cons_succ, Act.put, List.setIfInBounds_toArray, List.set_cons_zero, List.set_cons_succ])
      refine take_E (n := 18) (i := 11) (v := ?vtt_11) rfl (by kernel_rfl) (fun _ _ _ h => h) ?hytt_11 (by rfl) hHeld ?resttt_11
      case hytt_11 => (intro w9 hSw; (try dsimp only at hSw); go_simp <;> with_reducible rfl)
      (try simp only [List.getElem_toArray, List.getElem_cons_zero, List.getElem_cons_succ, Act.put, List.setIfInBounds_toArray, List.set_cons_zero, List.set_cons_succ])
      refine take_E (n := 18) (i := 12) (v := ?vtt_12) rfl (by kernel_rfl) (fun _ _ _ h => h) ?hytt_12 (by rfl) hHeld ?resttt_12
      case hytt_12 => (intro w9 hSw; (try dsimp only at hSw); go_simp <;> with_reducible rfl)
      (try simp only [List.getElem_toArray, List.getElem_cons_zero, List.getElem_cons_succ, Act.put, List.setIfInBounds_toArray, List.set_cons_zero, List.set_cons_succ])
      refine take_E (n := 18) (i := 13) (v := ?vtt_13) rfl (by kernel_rfl) (fun _ _ _ h => h) ?hytt_13 (by rfl) hHeld ?resttt_13
      case hytt_13 => (intro w9 hSw; (try dsimp only at hSw); go_simp <;> with_reducible rfl)
      (try simp only [List.getElem_toArray, List.getElem_cons_zero, List.getElem_cons_succ, Act.put, List.setIfInBounds_toArray, List.set_cons_zero, List.set_cons_succ])
      refine take_E (n := 18) (i := 14) (v := ?vtt_14) rfl (by kernel_rfl) (fun _ _ _ h => h) ?hytt_14 (by rfl) hHeld ?resttt_14
      case hytt_14 => (intro w9 hSw; (try dsimp only at hSw); go_simp <;> with_reducible rfl)
      (try simp only [List.getElem_toArray, List.getElem_cons_zero, List.getElem_cons_succ, Act.put, List.setIfInBounds_toArray, List.set_cons_zero, List.set_cons_succ])
      refine take_E (n := 18) (i := 15) (v := ?vtt_15) rfl (by kernel_rfl) (fun _ _ _ h => h) ?hytt_15 (by rfl) hHeld ?resttt_15
      case hytt_15 => (intro w9 hSw; (try dsimp only at hSw); go_simp <;> with_reducible rfl)
      (try simp only [List.getElem_toArray, List.getElem_cons_zero, List.getElem_cons_succ, Act.put, List.setIfInBounds_toArray, List.set_cons_zero, List.set_cons_succ])
      refine take_E (n := 18) (i := 16) (v := ?vtt_16) rfl (by kernel_rfl) (fun _ _ _ h => h) ?hytt_16 (by rfl) hHeld ?resttt_16
      case hytt_16 => (intro w9 hSw; (try dsimp only at hSw); go_simp <;> with_reducible rfl)
      (try simp only [List.getElem_toArray, List.getElem_cons_zero, List.getElem_cons_succ, Act.put, List.setIfInBounds_toArray, List.set_cons_zero, List.set_cons_succ])
      refine one_E (n := 18) (i := 17) (by kernel_rfl) rfl (fun K hK => ?_)
      go_simp
      refine hK.out _ _ (fun _ => HHd.out _ (below1 wd _)) (fun hHeld8 => ?_)
      clear hK K
      (try simp only [List.getElem_toArray, List.getElem_cons_zero, List.getElem_cons_succ, Act.put, List.setIfInBounds_toArray, List.set_cons_zero, List.set_cons_succ])
      refine one_E (n := 18) (i := 18) (by kernel_rfl) rfl (fun K hK => ?_)
      refine step_append_lies _ (by rfl) _ _ _ (by rfl) (tb + 1) 3 i0 _ 1 8 Try.underlying23 hi0 z0 z1 z2 rfl (by omega) v k (zs L) (by rfl) (own_below (by have := HOd.out.own; rw [HTl.out] at this; exact this) (below1 wd _)) ⟨wd.heap.size, 0, none⟩ 1 1 [.int .i64 z] (by rfl) (by rfl) (World.news_of_block (cs := #[.int .i64 z]) (t := 3) (fr := (0, 0)) (heap_alloc_new wd _)) (by simp [Value.oneCell']) (by omega) (by unfold maxLen; omega) (by omega) (by have := HOd.out.size; simp; omega) (wd.heap.size + 1) (by simp) ?_
      intro gg cap' p2 hown2 hgrow hat hlt3
      obtain ⟨hbx, hxn⟩ := HOd.out.push (by rw [HTl.out]; exact hown2) hgrow
      have HXn := Lib.hid hxn
      obtain ⟨e1, e2, ef⟩ := cells_two hbx
      clear hown2 hgrow hat hxn hbx
      refine hK.out _ _ (fun h => absurd h (by decide)) (fun hHeld9 => ?_)
      clear hK K
      (try simp only [List.getElem_toArray, List.getElem_cons_zero, List.getElem_cons_succ, Act.put, List.setIfInBounds_toArray, List.set_cons_zero, List.set_cons_succ])
      refine one_E (n := 18) (i := 19) (by kernel_rfl) rfl (fun K hK => ?_)
      go_simp
      refine hK.out _ _ (fun h => absurd h (by decide)) (fun hHeld10 => ?_)
      clear hK K
      (try simp only [List.getElem_toArray, List.getElem_cons_zero, List.getElem_cons_succ, Act.put, List.setIfInBounds_toArray, List.set_cons_zero, List.set_cons_succ])
      refine one_E (n := 18) (i := 20) (by kernel_rfl) rfl (fun K hK => ?_)
      go_simp
      refine hK.out _ _ (fun h => absurd h (by decide)) (fun hHeld10 => ?_)
      clear hK K
      (try simp only [List.getElem_toArray, List.getElem_cons_zero, List.getElem_cons_succ, Act.put, List.setIfInBounds_toArray, List.set_cons_zero, List.set_cons_succ])
      refine done_E (by kernel_rfl) ?_ _
      go_wp2
      go_roundw
      case rel => exact ⟨k + 1, _, by go_num, by omega, by rw [HN.out]; exact HXn.out⟩
      case measure => simp [intOf]; omega
    · obtain rfl : k = G.length := by omega
      have hk3 : ¬ (G.length : Int) < (G.length : Int) := by omega
      rw [← HL.out] at HO
      obtain ⟨A0, l0, c0, rfl⟩ := ownsRow_slice HO.out.own
      obtain ⟨z1', z2', zf⟩ := cells_two HO.out.box
      have hCs : w.heap.size ≤ tb := HO.out.tB
      have hr0 := HO.out.blk R3.out (by omega)
      obtain ⟨r0, r1, rf⟩ := cells_two hr0
      have R4 := Lib.hid (two_setC hr0 (.int .i64 (n : Int)) (.slice A0 l0 c0))
      obtain ⟨s0, s1, sf⟩ := cells_two R4.out
      have HOf := Lib.hid (own_base (show w.heap.size ≤ tb + 1 by omega) (ownsRow_setCell_below (ownsRow_setCell_below HO.out.own (a := ⟨w.heap.size + 1, 0, none⟩) (by show w.heap.size + 1 < tb + 1; omega) (.int .i64 (n : Int))) (a := ⟨w.heap.size + 1, 1, none⟩) (by show w.heap.size + 1 < tb + 1; omega) (.slice A0 l0 c0)))
      have HBf := Lib.hid ((HO.out.below.setCell (p := ⟨w.heap.size + 1, 0, none⟩) (by show w.heap.size ≤ w.heap.size + 1; omega) (.int .i64 (n : Int))).setCell (p := ⟨w.heap.size + 1, 1, none⟩) (by show w.heap.size ≤ w.heap.size + 1; omega) (.slice A0 l0 c0))
      clear hr0
      go_wp2
      refine bodyPost_ret (v := .agg #[.int .i64 (n : Int), .slice A0 l0 c0]) ?_ rfl ⟨_, rfl, HOf.out, HBf.out⟩
      simp [results, Try.results39, go_sem, s0, s1]
set_option maxHeartbeats 6400000 in
set_option maxRecDepth 1000000 in
theorem rmulc_any (n : Nat) (E F : List Int) (A A2 : Option Addr) (c c2 : Nat) (w : World) (n1 : 1 ≤ n) (n2 : (n : Int) ≤ 60) (hE : RdZ w w.heap.size A c E) (hF : RdZ w w.heap.size A2 c2 F) (hck : ckX n E = 0) (hck2 : ckX n F = 0) :
    Calls Try.prog 40 #[.agg #[.int .i64 (n : Int), .slice A E.length c], .agg #[.int .i64 (n : Int), .slice A2 F.length c2]] w fun e w' => ∃ v, e = .returned (.agg #[.int .i64 (n : Int), v]) ∧ w'.ownsRow w.heap.size 3 1 v (mulCE n E F).length (zs (mulCE n E F)) ∧ Below w.heap.size w w' := by
  obtain ⟨i0, hi0, z0, z1, z2⟩ := info_parts Try.infoIntC
  obtain ⟨hel, hex⟩ := ck_ok hck
  have HEl := Lib.hid hel
  have HEx := Lib.hid hex
  obtain ⟨hfl, hfx⟩ := ck_ok hck2
  have HFl := Lib.hid hfl
  have HFx := Lib.hid hfx
  have HRg : Hid (∀ W : World, Calls Try.prog 16 #[.int .i64 (n : Int)] W fun e w' => ∃ A8 c8 A9 c9, e = .returned (.tuple #[.slice A8 (gensV n).length c8, .slice A9 (gensV n).length c9]) ∧ RdZ w' w'.heap.size A9 c9 (m2 (gensV n)) ∧ Below W.heap.size W w') := fun W => by
    refine (rgenr_any n W n1 n2).mono fun e w' ⟨v1, v2, he, h1, h2, hb⟩ => ?_
    obtain ⟨A8, c8, rfl, hr1⟩ := own_rdz h1
    obtain ⟨A9, c9, rfl, hr2⟩ := own_rdz h2
    rw [List.length_map, List.length_map] at he
    exact ⟨A8, c8, A9, c9, he, hr2, hb⟩
  have HLl : Hid ((m2 (gensV n)).length = (gensV n).length) := List.length_map ..
  have HMg : Hid (∀ k (h : k < (gensV n).length) (h2 : k < (m2 (gensV n)).length), (m2 (gensV n))[k] = (((gensV n)[k].2 : Nat) : Int)) := fun k h h2 => by simp [m2]
  have HGb := Lib.hid (gens_facts n1 (show n ≤ 60 by omega))
  have hgl := HGb.out.len
  have HL : Hid (mulCE n E F = (List.range (gensV n).length).map (mulX (gensV n) E F)) := rfl
  have HE := Lib.hid hE
  have HF := Lib.hid hF
  have X0 : Hid ((((w.alloc (.cells #[.int .i64 (n : Int), .slice A E.length c] 33)).alloc (.cells #[.int .i64 (n : Int), .slice A2 F.length c2] 33)).alloc (.cells #[.int .i64 0, .slice none 0 0] 33)).heap[w.heap.size]? = some (.cells #[.int .i64 (n : Int), .slice A E.length c] 33 (0, 0))) := block_alloc (block_alloc (heap_alloc_new w _) _) _
  have Y0 : Hid ((((w.alloc (.cells #[.int .i64 (n : Int), .slice A E.length c] 33)).alloc (.cells #[.int .i64 (n : Int), .slice A2 F.length c2] 33)).alloc (.cells #[.int .i64 0, .slice none 0 0] 33)).heap[w.heap.size + 1]? = some (.cells #[.int .i64 (n : Int), .slice A2 F.length c2] 33 (0, 0))) := by
    have := heap_alloc_new (w.alloc (.cells #[.int .i64 (n : Int), .slice A E.length c] 33)) (.cells #[.int .i64 (n : Int), .slice A2 F.length c2] 33)
    refine block_alloc ?_ _
    simpa using this
  have R0 : Hid ((((w.alloc (.cells #[.int .i64 (n : Int), .slice A E.length c] 33)).alloc (.cells #[.int .i64 (n : Int), .slice A2 F.length c2] 33)).alloc (.cells #[.int .i64 0, .slice none 0 0] 33)).heap[w.heap.size + 2]? = some (.cells #[.int .i64 0, .slice none 0 0] 33 (0, 0))) := by
    have := heap_alloc_new ((w.alloc (.cells #[.int .i64 (n : Int), .slice A E.length c] 33)).alloc (.cells #[.int .i64 (n : Int), .slice A2 F.length c2] 33)) (.cells #[.int .i64 0, .slice none 0 0] 33)
    show _ = _; simpa using this
  have B0 : Hid (Below w.heap.size w (((w.alloc (.cells #[.int .i64 (n : Int), .slice A E.length c] 33)).alloc (.cells #[.int .i64 (n : Int), .slice A2 F.length c2] 33)).alloc (.cells #[.int .i64 0, .slice none 0 0] 33))) := (below2 w _ _).alloc (by simp; omega) _
  obtain ⟨x0, x1, _⟩ := cells_two X0.out
  obtain ⟨y0, y1, _⟩ := cells_two Y0.out
  clear hE hck hel hex hF hck2 hfl hfx
  generalize mulCE n E F = LL at *
  generalize gensV n = G at *
  go_enter Try.func40, Try.ntmps40
  go_upto_region 3 with (first
      | (go_at_call 16; ((with_reducible refine (HRg.out _).mono ?_); rintro e w2 ⟨A8, c8, A9, c9, rfl, hr, hb⟩; have X2 := Lib.hid (block_below X0.out hb); have R2 := Lib.hid (block_below R0.out hb); have B2 := Lib.hid (B0.out.trans (hb.mono B0.out.size)); have Y2 := Lib.hid (block_below Y0.out hb); have HR9 := Lib.hid hr; clear hr; clear hb x0 x1 y0 y1; obtain ⟨x0, x1, _⟩ := cells_two X2.out; obtain ⟨y0, y1, _⟩ := cells_two Y2.out; skip))
      | fail)
  have hrl := lt_of_block R2.out
  obtain ⟨w3, hw3⟩ : ∃ w3, w3 = w2.alloc (.cells #[.int .i64 (n : Int), .slice none 0 0] 33) := ⟨_, rfl⟩
  have HO3 : Hid (OW w.heap.size (w2.heap.size + 1) w2.heap.size w w3 n (.slice none 0 0) [] w3) := by
    rw [hw3]
    exact ⟨by omega, B2.out.size, by simp, heap_alloc_new w2 _, World.ownsRow_nil _ _ _ _, fun _ _ _ => rfl, B2.out.alloc B2.out.size _⟩
  have hsz3 : w3.heap.size = w2.heap.size + 1 := by rw [hw3]; simp
  have X3 : Hid (w3.heap[w.heap.size]? = some (.cells #[.int .i64 (n : Int), .slice A E.length c] 33 (0, 0))) := by rw [hw3]; exact block_alloc X2.out _
  have R3 : Hid (w3.heap[w.heap.size + 2]? = some (.cells #[.int .i64 0, .slice none 0 0] 33 (0, 0))) := by rw [hw3]; exact block_alloc R2.out _
  have Y3 : Hid (w3.heap[w.heap.size + 1]? = some (.cells #[.int .i64 (n : Int), .slice A2 F.length c2] 33 (0, 0))) := by rw [hw3]; exact block_alloc Y2.out _
  have HR3 : Hid (RdZ w3 w2.heap.size A9 c9 (m2 G)) := by rw [hw3]; exact HR9.out.below (below1 w2 _)
  rw [← hw3]
  clear hw3 x0 x1 y0 y1
  generalize w2.heap.size = tb at *
  go_wp2
  go_loopw [8] (fun I wr => ∃ (k : Nat) (v : Value), I = .int .i64 (k : Int) ∧ k ≤ G.length ∧ Hid (OW w.heap.size (tb + 1) tb w w3 n v ((List.range k).map (mulX G E F)) wr)) (fun I _ => G.length - (intOf I).toNat)
  case atStart => exact ⟨0, _, rfl, Nat.zero_le _, HO3.out⟩
  case round =>
    clear HO3
    obtain ⟨k, v, rfl, hk, HO⟩ := hrel
    by_cases hkl : k < G.length
    · have hkli : (k : Int) < (G.length : Int) := by omega
      have hke : k < E.length := by have := HEl.out; omega
      have hkle : (k : Int) < (E.length : Int) := by omega
      have HOd := Lib.hid HO.out.drew
      have hkf : k < F.length := by have := HFl.out; omega
      have hkfe : (k : Int) < (F.length : Int) := by omega
      have hsd := HOd.out.size
      obtain ⟨wd, hwd⟩ : ∃ wd, wd = wr.drew := ⟨_, rfl⟩
      rw [← hwd] at HOd hsd
      have hex := HEx.out k hke hkl
      have hfx := HFx.out k hkf hkl
      have q1 := HGb.out.o1 _ (List.getElem_mem hkl)
      have q60 := HGb.out.o2 _ (List.getElem_mem hkl)
      obtain ⟨b1, o1, rfl, hb1, xx1⟩ := ((HE.out.below HOd.out.below)).at_ hke
      obtain ⟨b2, o2, rfl, hb2, xx2⟩ := ((HF.out.below HOd.out.below)).at_ hkf
      obtain ⟨b9, o9, rfl, hb9, xx9⟩ := (HOd.out.row HR3.out (Nat.le_refl _)).at_ (k := k) (by rw [HLl.out]; exact hkl)
      rw [HMg.out k hkl] at xx9
      have HN : Hid ((List.range (k + 1)).map (mulX G E F) = (List.range k).map (mulX G E F) ++ [(E[k] + F[k]) % (G[k].2 : Int)]) := by
        show _ = _
        rw [rm_step]; congr 1; unfold mulX; rw [getDI F k hkf, getDI E k hke, getDG G k hkl]
      have HTl : Hid (((List.range k).map (mulX G E F)).length = k) := by show _ = _; rw [List.length_map, List.length_range]
      generalize E[k] = x at *
      generalize F[k] = y at *
      generalize G[k] = f at *
      obtain ⟨p, q⟩ := f
      simp only at hex q1 q60 xx9 HN hfx
      generalize (List.range k).map (mulX G E F) = L at *
      have q0 : ((q : Int) == 0) = false := by rw [beq_eq_false_iff_ne]; omega
      have q0' : ¬ ((q : Int) = 0) := by omega
      have q0'' : ¬ (q = 0) := by omega
      have hz0 := Int.emod_nonneg (x + y) q0'
      have hz1 := Int.emod_lt_of_pos (x + y) (show 0 < (q : Int) by omega)
      have htm : Int.tmod (x + y) (q : Int) = (x + y) % (q : Int) := Int.tmod_eq_emod_of_nonneg (by omega)
      have hws : IntKind.i64.wrap (x + y) = (x + y) := IntWalk.i64_in _ (by omega)
      generalize (x + y) % (q : Int) = z at *
      have hwz : IntKind.i64.wrap z = z := IntWalk.i64_in _ (by omega)
      have hCs : w.heap.size ≤ tb := HOd.out.tB
      have HHd : Hid (∀ W, Below wd.heap.size wd W → W.cell? ⟨tb, 1, none⟩ = some v ∧ W.cell? ⟨w.heap.size, 1, none⟩ = some (.slice (some ⟨b1, o1, none⟩) E.length c) ∧ W.cell? ⟨b1, o1 + k, none⟩ = some (.int .i64 x) ∧ W.cell? ⟨b9, o9 + k, none⟩ = some (.int .i64 (q : Int)) ∧ W.cell? ⟨w.heap.size + 1, 1, none⟩ = some (.slice (some ⟨b2, o2, none⟩) F.length c2) ∧ W.cell? ⟨b2, o2 + k, none⟩ = some (.int .i64 y)) := fun W hW => ⟨(cells_two (block_below HOd.out.box hW)).2.1, (cells_two (block_below (HOd.out.blk X3.out (by omega)) hW)).2.1, (hW.cell (p := ⟨b1, o1 + k, none⟩) (by show b1 < wd.heap.size; omega)).trans xx1, (hW.cell (p := ⟨b9, o9 + k, none⟩) (by show b9 < wd.heap.size; omega)).trans xx9, (cells_two (block_below (HOd.out.blk Y3.out (by omega)) hW)).2.1, (hW.cell (p := ⟨b2, o2 + k, none⟩) (by show b2 < wd.heap.size; omega)).trans xx2⟩
      have HTs := Lib.hid (show tb + 1 ≤ wd.heap.size from hsd)
      clear xx1 xx9 xx2
      go_upto_region 6 with fail
      refine region_E 19 (fun W => W.cell? ⟨tb, 1, none⟩ = some v ∧ W.cell? ⟨w.heap.size, 1, none⟩ = some (.slice (some ⟨b1, o1, none⟩) E.length c) ∧ W.cell? ⟨b1, o1 + k, none⟩ = some (.int .i64 x) ∧ W.cell? ⟨b9, o9 + k, none⟩ = some (.int .i64 (q : Int)) ∧ W.cell? ⟨w.heap.size + 1, 1, none⟩ = some (.slice (some ⟨b2, o2, none⟩) F.length c2) ∧ W.cell? ⟨b2, o2 + k, none⟩ = some (.int .i64 y)) (by kernel_rfl) ?_
      rw [← hwd]
      clear hwd
      have hHeld := HHd.out wd (Below.refl _ _)
      refine take_E (n := 19) (i := 0) (v := ?vtt_0) rfl (by kernel_rfl) (fun _ _ _ h => h) ?hytt_0 (by rfl) hHeld ?resttt_0
      case hytt_0 => (intro w9 hSw; (try dsimp only at hSw); go_simp <;> with_reducible rfl)
      (try simp only [List.getElem_toArray, List.getElem_cons_zero, List.getElem_cons_succ, Act.put, List.setIfInBounds_toArray, List.set_cons_zero, List.set_cons_succ])
      refine take_E (n := 19) (i := 1) (v := ?vtt_1) rfl (by kernel_rfl) (fun _ _ _ h => h) ?hytt_1 (by rfl) hHeld ?resttt_1
      case hytt_1 => (intro w9 hSw; (try dsimp only at hSw); go_simp <;> with_reducible rfl)
      (try simp only [List.getElem_toArray, List.getElem_cons_zero, List.getElem_cons_succ, Act.put, List.setIfInBounds_toArray, List.set_cons_zero, List.set_cons_succ])
      refine take_E (n := 19) (i := 2) (v := ?vtt_2) rfl (by kernel_rfl) (fun _ _ _ h => h) ?hytt_2 (by rfl) hHeld ?resttt_2
      case hytt_2 => (intro w9 hSw; (try dsimp only at hSw); go_simp <;> with_reducible rfl)
      (try simp only [List.getElem_toArray, List.getElem_cons_zero, List.getElem_cons_succ, Act.put, List.setIfInBounds_toArray, List.set_cons_zero, List.set_cons_succ])
      refine take_E (n := 19) (i := 3) (v := ?vtt_3) rfl (by kernel_rfl) (fun _ _ _ h => h) ?hytt_3 (by rfl) hHeld ?resttt_3
      case hytt_3 => (intro w9 hSw; (try dsimp only at hSw); go_simp <;> with_reducible rfl)
      (try simp only [List.getElem_toArray, List.getElem_cons_zero, List.getElem_cons_succ, Act.put, List.setIfInBounds_toArray, List.set_cons_zero, List.set_cons_succ])
      refine take_E (n := 19) (i := 4) (v := ?vtt_4) rfl (by kernel_rfl) (fun _ _ _ h => h) ?hytt_4 (by rfl) hHeld ?resttt_4
      case hytt_4 => (intro w9 hSw; (try dsimp only at hSw); go_simp <;> with_reducible rfl)
      (try simp only [List.getElem_toArray, List.getElem_cons_zero, List.getElem_cons_succ, Act.put, List.setIfInBounds_toArray, List.set_cons_zero, List.set_cons_succ])
      refine take_E (n := 19) (i := 5) (v := ?vtt_5) rfl (by kernel_rfl) (fun _ _ _ h => h) ?hytt_5 (by rfl) hHeld ?resttt_5
      case hytt_5 => (intro w9 hSw; (try dsimp only at hSw); go_simp <;> with_reducible rfl)
      (try simp only [List.getElem_toArray, List.getElem_cons_zero, List.getElem_cons_succ, Act.put, List.setIfInBounds_toArray, List.set_cons_zero, List.set_cons_succ])
      refine take_E (n := 19) (i := 6) (v := ?vtt_6) rfl (by kernel_rfl) (fun _ _ _ h => h) ?hytt_6 (by rfl) hHeld ?resttt_6
      case hytt_6 => (intro w9 hSw; (try dsimp only at hSw); go_simp <;> with_reducible rfl)
      (try simp only [List.getElem_toArray, List.getElem_cons_zero, List.getElem_cons_succ, Act.put, List.setIfInBounds_toArray, List.set_cons_zero, List.set_cons_succ])
      refine take_E (n := 19) (i := 7) (v := ?vtt_7) rfl (by kernel_rfl) (fun _ _ _ h => h) ?hytt_7 (by rfl) hHeld ?resttt_7
      case hytt_7 => (intro w9 hSw; (try dsimp only at hSw); go_simp <;> with_reducible rfl)
      (try simp only [List.getElem_toArray, List.getElem_cons_zero, List.getElem_cons_succ, Act.put, List.setIfInBounds_toArray, List.set_cons_zero, List.set_cons_succ])
      refine take_E (n := 19) (i := 8) (v := ?vtt_8) rfl (by kernel_rfl) (fun _ _ _ h => h) ?hytt_8 (by rfl) hHeld ?resttt_8
      case hytt_8 => (intro w9 hSw; (try dsimp only at hSw); go_simp <;> with_reducible rfl)
      (try simp only [List.getElem_toArray, List.getElem_cons_zero, List.getElem_cons_succ, Act.put, List.setIfInBounds_toArray, List.set_cons_zero, List.set_cons_succ])
      refine take_E (n := 19) (i := 9) (v := ?vtt_9) rfl (by kernel_rfl) (fun _ _ _ h => h) ?hytt_9 (by rfl) hHeld ?resttt_9
      case hytt_9 => (intro w9 hSw; (try dsimp only at hSw); go_simp <;> with_reducible rfl)
      (try simp only [List.getElem_toArray, List.getElem_cons_zero, List.getElem_cons_succ, Act.put, List.setIfInBounds_toArray, List.set_cons_zero, List.set_cons_succ])
      refine take_E (n := 19) (i := 10) (v := ?vtt_10) rfl (by kernel_rfl) (fun _ _ _ h => h) ?hytt_10 (by rfl) hHeld ?resttt_10
      case hytt_10 => (intro w9 hSw; (try dsimp only at hSw); go_simp <;> with_reducible rfl)
      (try simp only [List.getElem_toArray, List.getElem_cons_zero, List.getElem_cons_succ, Act.put, List.setIfInBounds_toArray, List.set_cons_zero, List.set_cons_succ])
      refine take_E (n := 19) (i := 11) (v := ?vtt_11) rfl (by kernel_rfl) (fun _ _ _ h => h) ?hytt_11 (by rfl) hHeld ?resttt_11
      case hytt_11 => (intro w9 hSw; (try dsimp only at hSw); go_simp <;> with_reducible rfl)
      (try simp only [List.getElem_toArray, List.getElem_cons_zero, List.getElem_cons_succ, Act.put, List.setIfInBounds_toArray, List.set_cons_zero, List.set_cons_succ])
      refine take_E (n := 19) (i := 12) (v := ?vtt_12) rfl (by kernel_rfl) (fun _ _ _ h => h) ?hytt_12 (by rfl) hHeld ?resttt_12
      case hytt_12 => (intro w9 hSw; (try dsimp only at hSw); go_simp <;> with_reducible rfl)
      (try simp only [List.getElem_toArray, List.getElem_cons_zero, List.getElem_cons_succ, Act.put, List.setIfInBounds_toArray, List.set_cons_zero, List.set_cons_succ])
      refine take_E (n := 19) (i := 13) (v := ?vtt_13) rfl (by kernel_rfl) (fun _ _ _ h => h) ?hytt_13 (by rfl) hHeld ?resttt_13
      case hytt_13 => (intro w9 hSw; (try dsimp only at hSw); go_simp <;> with_reducible rfl)
      (try simp only [List.getElem_toArray, List.getElem_cons_zero, List.getElem_cons_succ, Act.put, List.setIfInBounds_toArray, List.set_cons_zero, List.set_cons_succ])
      refine take_E (n := 19) (i := 14) (v := ?vtt_14) rfl (by kernel_rfl) (fun _ _ _ h => h) ?hytt_14 (by rfl) hHeld ?resttt_14
      case hytt_14 => (intro w9 hSw; (try dsimp only at hSw); go_simp <;> with_reducible rfl)
      (try simp only [List.getElem_toArray, List.getElem_cons_zero, List.getElem_cons_succ, Act.put, List.setIfInBounds_toArray, List.set_cons_zero, List.set_cons_succ])
      refine take_E (n := 19) (i := 15) (v := ?vtt_15) rfl (by kernel_rfl) (fun _ _ _ h => h) ?hytt_15 (by rfl) hHeld ?resttt_15
      case hytt_15 => (intro w9 hSw; (try dsimp only at hSw); go_simp <;> with_reducible rfl)
      (try simp only [List.getElem_toArray, List.getElem_cons_zero, List.getElem_cons_succ, Act.put, List.setIfInBounds_toArray, List.set_cons_zero, List.set_cons_succ])
      refine take_E (n := 19) (i := 16) (v := ?vtt_16) rfl (by kernel_rfl) (fun _ _ _ h => h) ?hytt_16 (by rfl) hHeld ?resttt_16
      case hytt_16 => (intro w9 hSw; (try dsimp only at hSw); go_simp <;> with_reducible rfl)
      (try simp only [List.getElem_toArray, List.getElem_cons_zero, List.getElem_cons_succ, Act.put, List.setIfInBounds_toArray, List.set_cons_zero, List.set_cons_succ])
      refine take_E (n := 19) (i := 17) (v := ?vtt_17) rfl (by kernel_rfl) (fun _ _ _ h => h) ?hytt_17 (by rfl) hHeld ?resttt_17
      case hytt_17 => (intro w9 hSw; (try dsimp only at hSw); go_simp <;> with_reducible rfl)
      (try simp only [List.getElem_toArray, List.getElem_cons_zero, List.getElem_cons_succ, Act.put, List.setIfInBounds_toArray, List.set_cons_zero, List.set_cons_succ])
      refine one_E (n := 19) (i := 18) (by kernel_rfl) rfl (fun K hK => ?_)
      go_simp
      refine hK.out _ _ (fun _ => HHd.out _ (below1 wd _)) (fun hHeld8 => ?_)
      clear hK K
      (try simp only [List.getElem_toArray, List.getElem_cons_zero, List.getElem_cons_succ, Act.put, List.setIfInBounds_toArray, List.set_cons_zero, List.set_cons_succ])
      refine one_E (n := 19) (i := 19) (by kernel_rfl) rfl (fun K hK => ?_)
      refine step_append_lies _ (by rfl) _ _ _ (by rfl) (tb + 1) 3 i0 _ 1 8 Try.underlying23 hi0 z0 z1 z2 rfl (by omega) v k (zs L) (by rfl) (own_below (by have := HOd.out.own; rw [HTl.out] at this; exact this) (below1 wd _)) ⟨wd.heap.size, 0, none⟩ 1 1 [.int .i64 z] (by rfl) (by rfl) (World.news_of_block (cs := #[.int .i64 z]) (t := 3) (fr := (0, 0)) (heap_alloc_new wd _)) (by simp [Value.oneCell']) (by omega) (by unfold maxLen; omega) (by omega) (by have := HOd.out.size; simp; omega) (wd.heap.size + 1) (by simp) ?_
      intro gg cap' p2 hown2 hgrow hat hlt3
      obtain ⟨hbx, hxn⟩ := HOd.out.push (by rw [HTl.out]; exact hown2) hgrow
      have HXn := Lib.hid hxn
      obtain ⟨e1, e2, ef⟩ := cells_two hbx
      clear hown2 hgrow hat hxn hbx
      refine hK.out _ _ (fun h => absurd h (by decide)) (fun hHeld9 => ?_)
      clear hK K
      (try simp only [List.getElem_toArray, List.getElem_cons_zero, List.getElem_cons_succ, Act.put, List.setIfInBounds_toArray, List.set_cons_zero, List.set_cons_succ])
      refine one_E (n := 19) (i := 20) (by kernel_rfl) rfl (fun K hK => ?_)
      go_simp
      refine hK.out _ _ (fun h => absurd h (by decide)) (fun hHeld10 => ?_)
      clear hK K
      (try simp only [List.getElem_toArray, List.getElem_cons_zero, List.getElem_cons_succ, Act.put, List.setIfInBounds_toArray, List.set_cons_zero, List.set_cons_succ])
      refine one_E (n := 19) (i := 21) (by kernel_rfl) rfl (fun K hK => ?_)
      go_simp
      refine hK.out _ _ (fun h => absurd h (by decide)) (fun hHeld10 => ?_)
      clear hK K
      (try simp only [List.getElem_toArray, List.getElem_cons_zero, List.getElem_cons_succ, Act.put, List.setIfInBounds_toArray, List.set_cons_zero, List.set_cons_succ])
      refine done_E (by kernel_rfl) ?_ _
      go_wp2
      go_roundw
      case rel => exact ⟨k + 1, _, by go_num, by omega, by rw [HN.out]; exact HXn.out⟩
      case measure => simp [intOf]; omega
    · obtain rfl : k = G.length := by omega
      have hk3 : ¬ (G.length : Int) < (G.length : Int) := by omega
      rw [← HL.out] at HO
      obtain ⟨A0, l0, c0, rfl⟩ := ownsRow_slice HO.out.own
      obtain ⟨z1', z2', zf⟩ := cells_two HO.out.box
      have hCs : w.heap.size ≤ tb := HO.out.tB
      have hr0 := HO.out.blk R3.out (by omega)
      obtain ⟨r0, r1, rf⟩ := cells_two hr0
      have R4 := Lib.hid (two_setC hr0 (.int .i64 (n : Int)) (.slice A0 l0 c0))
      obtain ⟨s0, s1, sf⟩ := cells_two R4.out
      have HOf := Lib.hid (own_base (show w.heap.size ≤ tb + 1 by omega) (ownsRow_setCell_below (ownsRow_setCell_below HO.out.own (a := ⟨w.heap.size + 2, 0, none⟩) (by show w.heap.size + 2 < tb + 1; omega) (.int .i64 (n : Int))) (a := ⟨w.heap.size + 2, 1, none⟩) (by show w.heap.size + 2 < tb + 1; omega) (.slice A0 l0 c0)))
      have HBf := Lib.hid ((HO.out.below.setCell (p := ⟨w.heap.size + 2, 0, none⟩) (by show w.heap.size ≤ w.heap.size + 2; omega) (.int .i64 (n : Int))).setCell (p := ⟨w.heap.size + 2, 1, none⟩) (by show w.heap.size ≤ w.heap.size + 2; omega) (.slice A0 l0 c0))
      clear hr0
      go_wp2
      refine bodyPost_ret (v := .agg #[.int .i64 (n : Int), .slice A0 l0 c0]) ?_ rfl ⟨_, rfl, HOf.out, HBf.out⟩
      simp [results, Try.results40, go_sem, s0, s1]
set_option maxHeartbeats 6400000 in
set_option maxRecDepth 1000000 in
theorem pconj_any (n : Nat) (E : List Int) (A : Option Addr) (c : Nat) (w : World) (n1 : 1 ≤ n) (n2 : (n : Int) ≤ 60) (hE : RdZ w w.heap.size A c E) (hck : ckX n E = 0) :
    Calls Try.prog 38 #[.agg #[.int .i64 (n : Int), .slice A E.length c]] w fun e w' => ∃ v, e = .returned (.tuple #[.agg #[.int .i64 (n : Int), v], .int .i64 0]) ∧ w'.ownsRow w.heap.size 3 1 v (conE n E).length (zs (conE n E)) ∧ Below w.heap.size w w' := by
  obtain ⟨i0, hi0, z0, z1, z2⟩ := info_parts Try.infoIntC
  obtain ⟨hel, hex⟩ := ck_ok hck
  have HEl := Lib.hid hel
  have HEx := Lib.hid hex
  have HGe := Lib.hid (fun W => gens_any n W n1 n2)
  have HCk := Lib.hid (fun (W : World) (h : RdZ W W.heap.size A c E) => dck_any n E A c W n1 n2 h)
  rw [hck] at HCk
  have HGb := Lib.hid (gens_facts n1 (show n ≤ 60 by omega))
  have hgl := HGb.out.len
  have HL : Hid (conE n E = (List.range (gensV n).length).map (conX (gensV n) E)) := rfl
  have HE := Lib.hid hE
  have X0 : Hid (((w.alloc (.cells #[.int .i64 (n : Int), .slice A E.length c] 33)).alloc (.cells #[.int .i64 0, .slice none 0 0] 33)).heap[w.heap.size]? = some (.cells #[.int .i64 (n : Int), .slice A E.length c] 33 (0, 0))) := block_alloc (heap_alloc_new w _) _
  have R0 : Hid (((w.alloc (.cells #[.int .i64 (n : Int), .slice A E.length c] 33)).alloc (.cells #[.int .i64 0, .slice none 0 0] 33)).heap[w.heap.size + 1]? = some (.cells #[.int .i64 0, .slice none 0 0] 33 (0, 0))) := by
    have := heap_alloc_new (w.alloc (.cells #[.int .i64 (n : Int), .slice A E.length c] 33)) (.cells #[.int .i64 0, .slice none 0 0] 33)
    show _ = _; simpa using this
  have B0 : Hid (Below w.heap.size w ((w.alloc (.cells #[.int .i64 (n : Int), .slice A E.length c] 33)).alloc (.cells #[.int .i64 0, .slice none 0 0] 33))) := below2 w _ _
  obtain ⟨x0, x1, _⟩ := cells_two X0.out
  clear hE hck hel hex
  generalize conE n E = LL at *
  generalize gensV n = G at *
  go_enter Try.func38, Try.ntmps38
  go_upto_region 5 with (first
      | (go_at_call 24; ((with_reducible refine (HCk.out _ ((HE.out.below B0.out).mono B0.out.size)).mono ?_); rintro e w1 ⟨rfl, hb⟩; have X1 := Lib.hid (block_below X0.out hb); have R1 := Lib.hid (block_below R0.out hb); have B1 := Lib.hid (B0.out.trans (hb.mono B0.out.size)); clear hb x0 x1; obtain ⟨x0, x1, _⟩ := cells_two X1.out; skip))
      | fail)
  have hrl := lt_of_block R1.out
  obtain ⟨w3, hw3⟩ : ∃ w3, w3 = w1.alloc (.cells #[.int .i64 (n : Int), .slice none 0 0] 33) := ⟨_, rfl⟩
  have HO3 : Hid (OW w.heap.size (w1.heap.size + 1) w1.heap.size w w3 n (.slice none 0 0) [] w3) := by
    rw [hw3]
    exact ⟨by omega, B1.out.size, by simp, heap_alloc_new w1 _, World.ownsRow_nil _ _ _ _, fun _ _ _ => rfl, B1.out.alloc B1.out.size _⟩
  have hsz3 : w3.heap.size = w1.heap.size + 1 := by rw [hw3]; simp
  have X3 : Hid (w3.heap[w.heap.size]? = some (.cells #[.int .i64 (n : Int), .slice A E.length c] 33 (0, 0))) := by rw [hw3]; exact block_alloc X1.out _
  have R3 : Hid (w3.heap[w.heap.size + 1]? = some (.cells #[.int .i64 0, .slice none 0 0] 33 (0, 0))) := by rw [hw3]; exact block_alloc R1.out _
  rw [← hw3]
  clear hw3 x0 x1
  generalize w1.heap.size = tb at *
  obtain ⟨x0, x1, _⟩ := cells_two X3.out
  go_upto_region 6 with (first
      | (go_at_call 47; ((with_reducible refine (HGe.out _).mono ?_); rintro e w4 ⟨v4, rfl, ho, hb⟩; obtain ⟨la, lc, rfl, hrd⟩ := gen_blk ho; have HR := Lib.hid hrd; have HKp : Hid (∀ j, j < tb + 1 → w4.heap[j]? = w3.heap[j]?) := (fun j hj => hb.block j (by omega)); have hs4 := hb.size; have HB4 := Lib.hid hb; have HO4 := Lib.hid (HO3.out.on hb); clear ho hrd hb x0 x1))
      | fail)
  have hbx4 := HO4.out.box
  have htb4 := HO4.out.size
  have htB := HO4.out.tB
  have HO5 : Hid (OW w.heap.size w4.heap.size tb w w4 n (.slice none 0 0) [] w4) := ⟨by omega, HO4.out.tB, Nat.le_refl _, HO4.out.box, World.ownsRow_nil _ _ _ _, fun _ _ _ => rfl, HO4.out.below⟩
  have X5 := Lib.hid (block_below X3.out HB4.out)
  have R5 := Lib.hid (block_below R3.out HB4.out)
  have HBx : Hid (w4.heap[tb]? = some (.cells #[.int .i64 (n : Int), .slice none 0 0] 33 (0, 0))) := hbx4
  clear HO4 HO3 HKp hbx4
  go_loopw [6, 7, 21] (fun _ _ I wr => ∃ (k : Nat) (v : Value), I = .int .i64 (k : Int) ∧ k ≤ G.length ∧ Hid (OW w.heap.size w4.heap.size tb w w4 n v ((List.range k).map (conX G E)) wr)) (fun _ _ I _ => G.length - (intOf I).toNat)
  case atStart => exact ⟨0, _, rfl, Nat.zero_le _, HO5.out⟩
  case round =>
    clear HO5
    obtain ⟨k, v, rfl, hk, HO⟩ := hrel
    by_cases hkl : k < G.length
    · have hkli : (k : Int) < (G.length : Int) := by omega
      have hke : k < E.length := by have := HEl.out; omega
      have hkle : (k : Int) < (E.length : Int) := by omega
      obtain ⟨g, cs, rfl, hg1, hcell⟩ := HR.out k hkl
      obtain ⟨gx1, gx2⟩ := hcell wr ((HO.out.keep g (lt_of_block hg1) (blk_ne HBx.out hg1 (by decide))).trans hg1)
      have hex := HEx.out k hke hkl
      have q1 := HGb.out.o1 _ (List.getElem_mem hkl)
      have q60 := HGb.out.o2 _ (List.getElem_mem hkl)
      have HN : Hid ((List.range (k + 1)).map (conX G E) = (List.range k).map (conX G E) ++ [((G[k].2 : Int) - E[k]) % (G[k].2 : Int)]) := by
        show _ = _
        rw [rm_step]; congr 1; unfold conX; rw [getDI E k hke, getDG G k hkl]
      have HTl : Hid (((List.range k).map (conX G E)).length = k) := by show _ = _; rw [List.length_map, List.length_range]
      have HEk : Hid (∀ W, Below w.heap.size w W → ∃ b o, A = some ⟨b, o, none⟩ ∧ b < w.heap.size ∧ W.cell? ⟨b, o + k, none⟩ = some (.int .i64 E[k])) := fun W hW => (HE.out.below hW).at_ hke
      clear hg1 hcell
      generalize E[k] = x at *
      generalize G[k] = f at *
      obtain ⟨p, q⟩ := f
      simp only at hex q1 q60 gx1 gx2 HN 
      generalize (List.range k).map (conX G E) = L at *
      have q0 : ((q : Int) == 0) = false := by rw [beq_eq_false_iff_ne]; omega
      have q0' : ¬ ((q : Int) = 0) := by omega
      have q0'' : ¬ (q = 0) := by omega
      have hz0 := Int.emod_nonneg ((q : Int) - x) q0'
      have hz1 := Int.emod_lt_of_pos ((q : Int) - x) (show 0 < (q : Int) by omega)
      have htm : Int.tmod ((q : Int) - x) (q : Int) = ((q : Int) - x) % (q : Int) := Int.tmod_eq_emod_of_nonneg (by omega)
      have hws : IntKind.i64.wrap ((q : Int) - x) = ((q : Int) - x) := IntWalk.i64_in _ (by omega)
      generalize ((q : Int) - x) % (q : Int) = z at *
      have hwz : IntKind.i64.wrap z = z := IntWalk.i64_in _ (by omega)
      go_upto_region 8 with fail
      have HOd := Lib.hid (HO.out.on (below1 wr (.cells #[.int .i64 (p : Int), .int .i64 (q : Int)] 73))).drew
      have HGd : Hid ((wr.alloc (.cells #[.int .i64 (p : Int), .int .i64 (q : Int)] 73)).drew.heap[wr.heap.size]? = some (.cells #[.int .i64 (p : Int), .int .i64 (q : Int)] 73 (0, 0))) := heap_alloc_new wr _
      clear gx1 gx2 HO
      obtain ⟨wd, hwd⟩ : ∃ wd, wd = (wr.alloc (.cells #[.int .i64 (p : Int), .int .i64 (q : Int)] 73)).drew := ⟨_, rfl⟩
      rw [← hwd] at HOd HGd
      generalize hgbe : wr.heap.size = gb at *
      clear hgbe
      obtain ⟨b1, o1, rfl, hb1, xx1⟩ := HEk.out wd HOd.out.below
      have hsd := HOd.out.size
      have HHd : Hid (∀ W, Below wd.heap.size wd W → W.cell? ⟨tb, 1, none⟩ = some v ∧ W.cell? ⟨w.heap.size, 1, none⟩ = some (.slice (some ⟨b1, o1, none⟩) E.length c) ∧ W.cell? ⟨b1, o1 + k, none⟩ = some (.int .i64 x) ∧ W.cell? ⟨gb, 1, none⟩ = some (.int .i64 (q : Int))) := fun W hW => ⟨(cells_two (block_below HOd.out.box hW)).2.1, (cells_two (block_below (HOd.out.blk X5.out (by omega)) hW)).2.1, (hW.cell (p := ⟨b1, o1 + k, none⟩) (by show b1 < wd.heap.size; omega)).trans xx1, (cells_two (block_below HGd.out hW)).2.1⟩
      clear xx1 
      refine region_E 14 (fun W => W.cell? ⟨tb, 1, none⟩ = some v ∧ W.cell? ⟨w.heap.size, 1, none⟩ = some (.slice (some ⟨b1, o1, none⟩) E.length c) ∧ W.cell? ⟨b1, o1 + k, none⟩ = some (.int .i64 x) ∧ W.cell? ⟨gb, 1, none⟩ = some (.int .i64 (q : Int))) (by kernel_rfl) ?_
      rw [← hwd]
      clear hwd
      have hHeld := HHd.out wd (Below.refl _ _)
      refine take_E (n := 14) (i := 0) (v := ?vtt_0) rfl (by kernel_rfl) (fun _ _ _ h => h) ?hytt_0 (by rfl) hHeld ?resttt_0
      case hytt_0 => (intro w9 hSw; (try dsimp only at hSw); go_simp <;> with_reducible rfl)
      (try simp only [List.getElem_toArray, List.getElem_cons_zero, List.getElem_cons_succ, Act.put, List.setIfInBounds_toArray, List.set_cons_zero, List.set_cons_succ])
      refine take_E (n := 14) (i := 1) (v := ?vtt_1) rfl (by kernel_rfl) (fun _ _ _ h => h) ?hytt_1 (by rfl) hHeld ?resttt_1
      case hytt_1 => (intro w9 hSw; (try dsimp only at hSw); go_simp <;> with_reducible rfl)
      (try simp only [List.getElem_toArray, List.getElem_cons_zero, List.getElem_cons_succ, Act.put, List.setIfInBounds_toArray, List.set_cons_zero, List.set_cons_succ])
      refine take_E (n := 14) (i := 2) (v := ?vtt_2) rfl (by kernel_rfl) (fun _ _ _ h => h) ?hytt_2 (by rfl) hHeld ?resttt_2
      case hytt_2 => (intro w9 hSw; (try dsimp only at hSw); go_simp <;> with_reducible rfl)
      (try simp only [List.getElem_toArray, List.getElem_cons_zero, List.getElem_cons_succ, Act.put, List.setIfInBounds_toArray, List.set_cons_zero, List.set_cons_succ])
      refine take_E (n := 14) (i := 3) (v := ?vtt_3) rfl (by kernel_rfl) (fun _ _ _ h => h) ?hytt_3 (by rfl) hHeld ?resttt_3
      case hytt_3 => (intro w9 hSw; (try dsimp only at hSw); go_simp <;> with_reducible rfl)
      (try simp only [List.getElem_toArray, List.getElem_cons_zero, List.getElem_cons_succ, Act.put, List.setIfInBounds_toArray, List.set_cons_zero, List.set_cons_succ])
      refine take_E (n := 14) (i := 4) (v := ?vtt_4) rfl (by kernel_rfl) (fun _ _ _ h => h) ?hytt_4 (by rfl) hHeld ?resttt_4
      case hytt_4 => (intro w9 hSw; (try dsimp only at hSw); go_simp <;> with_reducible rfl)
      (try simp only [List.getElem_toArray, List.getElem_cons_zero, List.getElem_cons_succ, Act.put, List.setIfInBounds_toArray, List.set_cons_zero, List.set_cons_succ])
      refine take_E (n := 14) (i := 5) (v := ?vtt_5) rfl (by kernel_rfl) (fun _ _ _ h => h) ?hytt_5 (by rfl) hHeld ?resttt_5
      case hytt_5 => (intro w9 hSw; (try dsimp only at hSw); go_simp <;> with_reducible rfl)
      (try simp only [List.getElem_toArray, List.getElem_cons_zero, List.getElem_cons_succ, Act.put, List.setIfInBounds_toArray, List.set_cons_zero, List.set_cons_succ])
      refine take_E (n := 14) (i := 6) (v := ?vtt_6) rfl (by kernel_rfl) (fun _ _ _ h => h) ?hytt_6 (by rfl) hHeld ?resttt_6
      case hytt_6 => (intro w9 hSw; (try dsimp only at hSw); go_simp <;> with_reducible rfl)
      (try simp only [List.getElem_toArray, List.getElem_cons_zero, List.getElem_cons_succ, Act.put, List.setIfInBounds_toArray, List.set_cons_zero, List.set_cons_succ])
      refine take_E (n := 14) (i := 7) (v := ?vtt_7) rfl (by kernel_rfl) (fun _ _ _ h => h) ?hytt_7 (by rfl) hHeld ?resttt_7
      case hytt_7 => (intro w9 hSw; (try dsimp only at hSw); go_simp <;> with_reducible rfl)
      (try simp only [List.getElem_toArray, List.getElem_cons_zero, List.getElem_cons_succ, Act.put, List.setIfInBounds_toArray, List.set_cons_zero, List.set_cons_succ])
      refine take_E (n := 14) (i := 8) (v := ?vtt_8) rfl (by kernel_rfl) (fun _ _ _ h => h) ?hytt_8 (by rfl) hHeld ?resttt_8
      case hytt_8 => (intro w9 hSw; (try dsimp only at hSw); go_simp <;> with_reducible rfl)
      (try simp only [List.getElem_toArray, List.getElem_cons_zero, List.getElem_cons_succ, Act.put, List.setIfInBounds_toArray, List.set_cons_zero, List.set_cons_succ])
      refine take_E (n := 14) (i := 9) (v := ?vtt_9) rfl (by kernel_rfl) (fun _ _ _ h => h) ?hytt_9 (by rfl) hHeld ?resttt_9
      case hytt_9 => (intro w9 hSw; (try dsimp only at hSw); go_simp <;> with_reducible rfl)
      (try simp only [List.getElem_toArray, List.getElem_cons_zero, List.getElem_cons_succ, Act.put, List.setIfInBounds_toArray, List.set_cons_zero, List.set_cons_succ])
      refine take_E (n := 14) (i := 10) (v := ?vtt_10) rfl (by kernel_rfl) (fun _ _ _ h => h) ?hytt_10 (by rfl) hHeld ?resttt_10
      case hytt_10 => (intro w9 hSw; (try dsimp only at hSw); go_simp <;> with_reducible rfl)
      (try simp only [List.getElem_toArray, List.getElem_cons_zero, List.getElem_cons_succ, Act.put, List.setIfInBounds_toArray, List.set_cons_zero, List.set_cons_succ])
      refine take_E (n := 14) (i := 11) (v := ?vtt_11) rfl (by kernel_rfl) (fun _ _ _ h => h) ?hytt_11 (by rfl) hHeld ?resttt_11
      case hytt_11 => (intro w9 hSw; (try dsimp only at hSw); go_simp <;> with_reducible rfl)
      (try simp only [List.getElem_toArray, List.getElem_cons_zero, List.getElem_cons_succ, Act.put, List.setIfInBounds_toArray, List.set_cons_zero, List.set_cons_succ])
      refine take_E (n := 14) (i := 12) (v := ?vtt_12) rfl (by kernel_rfl) (fun _ _ _ h => h) ?hytt_12 (by rfl) hHeld ?resttt_12
      case hytt_12 => (intro w9 hSw; (try dsimp only at hSw); go_simp <;> with_reducible rfl)
      (try simp only [List.getElem_toArray, List.getElem_cons_zero, List.getElem_cons_succ, Act.put, List.setIfInBounds_toArray, List.set_cons_zero, List.set_cons_succ])
      refine one_E (n := 14) (i := 13) (by kernel_rfl) rfl (fun K hK => ?_)
      go_simp
      refine hK.out _ _ (fun _ => HHd.out _ (below1 wd _)) (fun hHeld8 => ?_)
      clear hK K
      (try simp only [List.getElem_toArray, List.getElem_cons_zero, List.getElem_cons_succ, Act.put, List.setIfInBounds_toArray, List.set_cons_zero, List.set_cons_succ])
      refine one_E (n := 14) (i := 14) (by kernel_rfl) rfl (fun K hK => ?_)
      refine step_append_lies _ (by rfl) _ _ _ (by rfl) w4.heap.size 3 i0 _ 1 8 Try.underlying23 hi0 z0 z1 z2 rfl (by omega) v k (zs L) (by rfl) (own_below (by have := HOd.out.own; rw [HTl.out] at this; exact this) (below1 wd _)) ⟨wd.heap.size, 0, none⟩ 1 1 [.int .i64 z] (by rfl) (by rfl) (World.news_of_block (cs := #[.int .i64 z]) (t := 3) (fr := (0, 0)) (heap_alloc_new wd _)) (by simp [Value.oneCell']) (by omega) (by unfold maxLen; omega) (by omega) (by have := HOd.out.size; simp; omega) (wd.heap.size + 1) (by simp) ?_
      intro gg cap' p2 hown2 hgrow hat hlt3
      obtain ⟨hbx, hxn⟩ := HOd.out.push (by rw [HTl.out]; exact hown2) hgrow
      have HXn := Lib.hid hxn
      obtain ⟨e1, e2, ef⟩ := cells_two hbx
      clear hown2 hgrow hat hxn hbx
      refine hK.out _ _ (fun h => absurd h (by decide)) (fun hHeld9 => ?_)
      clear hK K
      (try simp only [List.getElem_toArray, List.getElem_cons_zero, List.getElem_cons_succ, Act.put, List.setIfInBounds_toArray, List.set_cons_zero, List.set_cons_succ])
      refine one_E (n := 14) (i := 15) (by kernel_rfl) rfl (fun K hK => ?_)
      go_simp
      refine hK.out _ _ (fun h => absurd h (by decide)) (fun hHeld10 => ?_)
      clear hK K
      (try simp only [List.getElem_toArray, List.getElem_cons_zero, List.getElem_cons_succ, Act.put, List.setIfInBounds_toArray, List.set_cons_zero, List.set_cons_succ])
      refine one_E (n := 14) (i := 16) (by kernel_rfl) rfl (fun K hK => ?_)
      go_simp
      refine hK.out _ _ (fun h => absurd h (by decide)) (fun hHeld10 => ?_)
      clear hK K
      (try simp only [List.getElem_toArray, List.getElem_cons_zero, List.getElem_cons_succ, Act.put, List.setIfInBounds_toArray, List.set_cons_zero, List.set_cons_succ])
      refine done_E (by kernel_rfl) ?_ _
      go_wp2
      go_roundw
      case rel => exact ⟨k + 1, _, by go_num, by omega, by rw [HN.out]; exact HXn.out⟩
      case measure => simp [intOf]; omega
    · obtain rfl : k = G.length := by omega
      have hk3 : ¬ (G.length : Int) < (G.length : Int) := by omega
      rw [← HL.out] at HO
      obtain ⟨A0, l0, c0, rfl⟩ := ownsRow_slice HO.out.own
      obtain ⟨z1', z2', zf⟩ := cells_two HO.out.box
      have hr0 := HO.out.blk R5.out (by omega)
      obtain ⟨r0, r1, rf⟩ := cells_two hr0
      have R6 := Lib.hid (two_setC hr0 (.int .i64 (n : Int)) (.slice A0 l0 c0))
      obtain ⟨s0, s1, sf⟩ := cells_two R6.out
      have HOf := Lib.hid (own_base (show w.heap.size ≤ w4.heap.size by omega) (ownsRow_setCell_below (ownsRow_setCell_below HO.out.own (a := ⟨w.heap.size + 1, 0, none⟩) (by show w.heap.size + 1 < w4.heap.size; omega) (.int .i64 (n : Int))) (a := ⟨w.heap.size + 1, 1, none⟩) (by show w.heap.size + 1 < w4.heap.size; omega) (.slice A0 l0 c0)))
      have HBf := Lib.hid ((HO.out.below.setCell (p := ⟨w.heap.size + 1, 0, none⟩) (by show w.heap.size ≤ w.heap.size + 1; omega) (.int .i64 (n : Int))).setCell (p := ⟨w.heap.size + 1, 1, none⟩) (by show w.heap.size ≤ w.heap.size + 1; omega) (.slice A0 l0 c0))
      clear hr0
      go_wp2
      refine bodyPost_ret (v := .tuple #[.agg #[.int .i64 (n : Int), .slice A0 l0 c0], .int .i64 0]) ?_ rfl ⟨_, rfl, HOf.out, HBf.out⟩
      simp [results, Try.results38, go_sem, s0, s1]
set_option maxHeartbeats 6400000 in
set_option maxRecDepth 1000000 in
theorem pmulc_any (n : Nat) (E F : List Int) (A A2 : Option Addr) (c c2 : Nat) (w : World) (n1 : 1 ≤ n) (n2 : (n : Int) ≤ 60) (hE : RdZ w w.heap.size A c E) (hF : RdZ w w.heap.size A2 c2 F) (hck : ckX n E = 0) (hck2 : ckX n F = 0) :
    Calls Try.prog 37 #[.agg #[.int .i64 (n : Int), .slice A E.length c], .agg #[.int .i64 (n : Int), .slice A2 F.length c2]] w fun e w' => ∃ v, e = .returned (.tuple #[.agg #[.int .i64 (n : Int), v], .int .i64 0]) ∧ w'.ownsRow w.heap.size 3 1 v (mulCE n E F).length (zs (mulCE n E F)) ∧ Below w.heap.size w w' := by
  obtain ⟨i0, hi0, z0, z1, z2⟩ := info_parts Try.infoIntC
  obtain ⟨hel, hex⟩ := ck_ok hck
  have HEl := Lib.hid hel
  have HEx := Lib.hid hex
  obtain ⟨hfl, hfx⟩ := ck_ok hck2
  have HFl := Lib.hid hfl
  have HFx := Lib.hid hfx
  have HGe := Lib.hid (fun W => gens_any n W n1 n2)
  have HCk := Lib.hid (fun (W : World) (h : RdZ W W.heap.size A c E) => dck_any n E A c W n1 n2 h)
  rw [hck] at HCk
  have HCf := Lib.hid (fun (W : World) (h : RdZ W W.heap.size A2 c2 F) => dck_any n F A2 c2 W n1 n2 h)
  rw [hck2] at HCf
  have HGb := Lib.hid (gens_facts n1 (show n ≤ 60 by omega))
  have hgl := HGb.out.len
  have HL : Hid (mulCE n E F = (List.range (gensV n).length).map (mulX (gensV n) E F)) := rfl
  have HE := Lib.hid hE
  have HF := Lib.hid hF
  have X0 : Hid ((((w.alloc (.cells #[.int .i64 (n : Int), .slice A E.length c] 33)).alloc (.cells #[.int .i64 (n : Int), .slice A2 F.length c2] 33)).alloc (.cells #[.int .i64 0, .slice none 0 0] 33)).heap[w.heap.size]? = some (.cells #[.int .i64 (n : Int), .slice A E.length c] 33 (0, 0))) := block_alloc (block_alloc (heap_alloc_new w _) _) _
  have Y0 : Hid ((((w.alloc (.cells #[.int .i64 (n : Int), .slice A E.length c] 33)).alloc (.cells #[.int .i64 (n : Int), .slice A2 F.length c2] 33)).alloc (.cells #[.int .i64 0, .slice none 0 0] 33)).heap[w.heap.size + 1]? = some (.cells #[.int .i64 (n : Int), .slice A2 F.length c2] 33 (0, 0))) := by
    have := heap_alloc_new (w.alloc (.cells #[.int .i64 (n : Int), .slice A E.length c] 33)) (.cells #[.int .i64 (n : Int), .slice A2 F.length c2] 33)
    refine block_alloc ?_ _
    simpa using this
  have R0 : Hid ((((w.alloc (.cells #[.int .i64 (n : Int), .slice A E.length c] 33)).alloc (.cells #[.int .i64 (n : Int), .slice A2 F.length c2] 33)).alloc (.cells #[.int .i64 0, .slice none 0 0] 33)).heap[w.heap.size + 2]? = some (.cells #[.int .i64 0, .slice none 0 0] 33 (0, 0))) := by
    have := heap_alloc_new ((w.alloc (.cells #[.int .i64 (n : Int), .slice A E.length c] 33)).alloc (.cells #[.int .i64 (n : Int), .slice A2 F.length c2] 33)) (.cells #[.int .i64 0, .slice none 0 0] 33)
    show _ = _; simpa using this
  have B0 : Hid (Below w.heap.size w (((w.alloc (.cells #[.int .i64 (n : Int), .slice A E.length c] 33)).alloc (.cells #[.int .i64 (n : Int), .slice A2 F.length c2] 33)).alloc (.cells #[.int .i64 0, .slice none 0 0] 33))) := (below2 w _ _).alloc (by simp; omega) _
  obtain ⟨x0, x1, _⟩ := cells_two X0.out
  obtain ⟨y0, y1, _⟩ := cells_two Y0.out
  clear hE hck hel hex hF hck2 hfl hfx
  generalize mulCE n E F = LL at *
  generalize gensV n = G at *
  go_enter Try.func37, Try.ntmps37
  go_upto_region 10 with (first
      | (go_at_call 24; first
        | ((with_reducible refine (HCk.out _ ((HE.out.below B0.out).mono B0.out.size)).mono ?_); rintro e w1 ⟨rfl, hb⟩; have X1 := Lib.hid (block_below X0.out hb); have R1 := Lib.hid (block_below R0.out hb); have B1 := Lib.hid (B0.out.trans (hb.mono B0.out.size)); have Y1 := Lib.hid (block_below Y0.out hb); clear hb x0 x1 y0 y1; obtain ⟨x0, x1, _⟩ := cells_two X1.out; obtain ⟨y0, y1, _⟩ := cells_two Y1.out; skip)
        | ((with_reducible refine (HCf.out _ ((HF.out.below B1.out).mono B1.out.size)).mono ?_); rintro e w2 ⟨rfl, hb⟩; have X2 := Lib.hid (block_below X1.out hb); have R2 := Lib.hid (block_below R1.out hb); have B2 := Lib.hid (B1.out.trans (hb.mono B1.out.size)); have Y2 := Lib.hid (block_below Y1.out hb); clear hb x0 x1 y0 y1; obtain ⟨x0, x1, _⟩ := cells_two X2.out; obtain ⟨y0, y1, _⟩ := cells_two Y2.out; skip)
        | fail)
      | fail)
  have hrl := lt_of_block R2.out
  obtain ⟨w3, hw3⟩ : ∃ w3, w3 = w2.alloc (.cells #[.int .i64 (n : Int), .slice none 0 0] 33) := ⟨_, rfl⟩
  have HO3 : Hid (OW w.heap.size (w2.heap.size + 1) w2.heap.size w w3 n (.slice none 0 0) [] w3) := by
    rw [hw3]
    exact ⟨by omega, B2.out.size, by simp, heap_alloc_new w2 _, World.ownsRow_nil _ _ _ _, fun _ _ _ => rfl, B2.out.alloc B2.out.size _⟩
  have hsz3 : w3.heap.size = w2.heap.size + 1 := by rw [hw3]; simp
  have X3 : Hid (w3.heap[w.heap.size]? = some (.cells #[.int .i64 (n : Int), .slice A E.length c] 33 (0, 0))) := by rw [hw3]; exact block_alloc X2.out _
  have R3 : Hid (w3.heap[w.heap.size + 2]? = some (.cells #[.int .i64 0, .slice none 0 0] 33 (0, 0))) := by rw [hw3]; exact block_alloc R2.out _
  have Y3 : Hid (w3.heap[w.heap.size + 1]? = some (.cells #[.int .i64 (n : Int), .slice A2 F.length c2] 33 (0, 0))) := by rw [hw3]; exact block_alloc Y2.out _
  rw [← hw3]
  clear hw3 x0 x1 y0 y1
  generalize w2.heap.size = tb at *
  obtain ⟨x0, x1, _⟩ := cells_two X3.out
  go_upto_region 11 with (first
      | (go_at_call 47; ((with_reducible refine (HGe.out _).mono ?_); rintro e w4 ⟨v4, rfl, ho, hb⟩; obtain ⟨la, lc, rfl, hrd⟩ := gen_blk ho; have HR := Lib.hid hrd; have HKp : Hid (∀ j, j < tb + 1 → w4.heap[j]? = w3.heap[j]?) := (fun j hj => hb.block j (by omega)); have hs4 := hb.size; have HB4 := Lib.hid hb; have HO4 := Lib.hid (HO3.out.on hb); clear ho hrd hb x0 x1))
      | fail)
  have hbx4 := HO4.out.box
  have htb4 := HO4.out.size
  have htB := HO4.out.tB
  have HO5 : Hid (OW w.heap.size w4.heap.size tb w w4 n (.slice none 0 0) [] w4) := ⟨by omega, HO4.out.tB, Nat.le_refl _, HO4.out.box, World.ownsRow_nil _ _ _ _, fun _ _ _ => rfl, HO4.out.below⟩
  have X5 := Lib.hid (block_below X3.out HB4.out)
  have R5 := Lib.hid (block_below R3.out HB4.out)
  have Y5 := Lib.hid (block_below Y3.out HB4.out)
  have HBx : Hid (w4.heap[tb]? = some (.cells #[.int .i64 (n : Int), .slice none 0 0] 33 (0, 0))) := hbx4
  clear HO4 HO3 HKp hbx4
  go_loopw [9, 10, 36] (fun _ _ I wr => ∃ (k : Nat) (v : Value), I = .int .i64 (k : Int) ∧ k ≤ G.length ∧ Hid (OW w.heap.size w4.heap.size tb w w4 n v ((List.range k).map (mulX G E F)) wr)) (fun _ _ I _ => G.length - (intOf I).toNat)
  case atStart => exact ⟨0, _, rfl, Nat.zero_le _, HO5.out⟩
  case round =>
    clear HO5
    obtain ⟨k, v, rfl, hk, HO⟩ := hrel
    by_cases hkl : k < G.length
    · have hkli : (k : Int) < (G.length : Int) := by omega
      have hke : k < E.length := by have := HEl.out; omega
      have hkle : (k : Int) < (E.length : Int) := by omega
      have hkf : k < F.length := by have := HFl.out; omega
      have hkfe : (k : Int) < (F.length : Int) := by omega
      obtain ⟨g, cs, rfl, hg1, hcell⟩ := HR.out k hkl
      obtain ⟨gx1, gx2⟩ := hcell wr ((HO.out.keep g (lt_of_block hg1) (blk_ne HBx.out hg1 (by decide))).trans hg1)
      have hex := HEx.out k hke hkl
      have hfx := HFx.out k hkf hkl
      have q1 := HGb.out.o1 _ (List.getElem_mem hkl)
      have q60 := HGb.out.o2 _ (List.getElem_mem hkl)
      have HN : Hid ((List.range (k + 1)).map (mulX G E F) = (List.range k).map (mulX G E F) ++ [(E[k] + F[k]) % (G[k].2 : Int)]) := by
        show _ = _
        rw [rm_step]; congr 1; unfold mulX; rw [getDI F k hkf, getDI E k hke, getDG G k hkl]
      have HTl : Hid (((List.range k).map (mulX G E F)).length = k) := by show _ = _; rw [List.length_map, List.length_range]
      have HEk : Hid (∀ W, Below w.heap.size w W → ∃ b o, A = some ⟨b, o, none⟩ ∧ b < w.heap.size ∧ W.cell? ⟨b, o + k, none⟩ = some (.int .i64 E[k])) := fun W hW => (HE.out.below hW).at_ hke
      have HFk : Hid (∀ W, Below w.heap.size w W → ∃ b o, A2 = some ⟨b, o, none⟩ ∧ b < w.heap.size ∧ W.cell? ⟨b, o + k, none⟩ = some (.int .i64 F[k])) := fun W hW => (HF.out.below hW).at_ hkf
      clear hg1 hcell
      generalize E[k] = x at *
      generalize F[k] = y at *
      generalize G[k] = f at *
      obtain ⟨p, q⟩ := f
      simp only at hex q1 q60 gx1 gx2 HN hfx
      generalize (List.range k).map (mulX G E F) = L at *
      have q0 : ((q : Int) == 0) = false := by rw [beq_eq_false_iff_ne]; omega
      have q0' : ¬ ((q : Int) = 0) := by omega
      have q0'' : ¬ (q = 0) := by omega
      have hz0 := Int.emod_nonneg (x + y) q0'
      have hz1 := Int.emod_lt_of_pos (x + y) (show 0 < (q : Int) by omega)
      have htm : Int.tmod (x + y) (q : Int) = (x + y) % (q : Int) := Int.tmod_eq_emod_of_nonneg (by omega)
      have hws : IntKind.i64.wrap (x + y) = (x + y) := IntWalk.i64_in _ (by omega)
      generalize (x + y) % (q : Int) = z at *
      have hwz : IntKind.i64.wrap z = z := IntWalk.i64_in _ (by omega)
      go_upto_region 13 with fail
      have HOd := Lib.hid (HO.out.on (below1 wr (.cells #[.int .i64 (p : Int), .int .i64 (q : Int)] 73))).drew
      have HGd : Hid ((wr.alloc (.cells #[.int .i64 (p : Int), .int .i64 (q : Int)] 73)).drew.heap[wr.heap.size]? = some (.cells #[.int .i64 (p : Int), .int .i64 (q : Int)] 73 (0, 0))) := heap_alloc_new wr _
      clear gx1 gx2 HO
      obtain ⟨wd, hwd⟩ : ∃ wd, wd = (wr.alloc (.cells #[.int .i64 (p : Int), .int .i64 (q : Int)] 73)).drew := ⟨_, rfl⟩
      rw [← hwd] at HOd HGd
      generalize hgbe : wr.heap.size = gb at *
      clear hgbe
      obtain ⟨b1, o1, rfl, hb1, xx1⟩ := HEk.out wd HOd.out.below
      obtain ⟨b2, o2, rfl, hb2, xx2⟩ := HFk.out wd HOd.out.below
      have hsd := HOd.out.size
      have HHd : Hid (∀ W, Below wd.heap.size wd W → W.cell? ⟨tb, 1, none⟩ = some v ∧ W.cell? ⟨w.heap.size, 1, none⟩ = some (.slice (some ⟨b1, o1, none⟩) E.length c) ∧ W.cell? ⟨b1, o1 + k, none⟩ = some (.int .i64 x) ∧ W.cell? ⟨gb, 1, none⟩ = some (.int .i64 (q : Int)) ∧ W.cell? ⟨w.heap.size + 1, 1, none⟩ = some (.slice (some ⟨b2, o2, none⟩) F.length c2) ∧ W.cell? ⟨b2, o2 + k, none⟩ = some (.int .i64 y)) := fun W hW => ⟨(cells_two (block_below HOd.out.box hW)).2.1, (cells_two (block_below (HOd.out.blk X5.out (by omega)) hW)).2.1, (hW.cell (p := ⟨b1, o1 + k, none⟩) (by show b1 < wd.heap.size; omega)).trans xx1, (cells_two (block_below HGd.out hW)).2.1, (cells_two (block_below (HOd.out.blk Y5.out (by omega)) hW)).2.1, (hW.cell (p := ⟨b2, o2 + k, none⟩) (by show b2 < wd.heap.size; omega)).trans xx2⟩
      clear xx1 xx2
      refine region_E 17 (fun W => W.cell? ⟨tb, 1, none⟩ = some v ∧ W.cell? ⟨w.heap.size, 1, none⟩ = some (.slice (some ⟨b1, o1, none⟩) E.length c) ∧ W.cell? ⟨b1, o1 + k, none⟩ = some (.int .i64 x) ∧ W.cell? ⟨gb, 1, none⟩ = some (.int .i64 (q : Int)) ∧ W.cell? ⟨w.heap.size + 1, 1, none⟩ = some (.slice (some ⟨b2, o2, none⟩) F.length c2) ∧ W.cell? ⟨b2, o2 + k, none⟩ = some (.int .i64 y)) (by kernel_rfl) ?_
      rw [← hwd]
      clear hwd
      have hHeld := HHd.out wd (Below.refl _ _)
      refine take_E (n := 17) (i := 0) (v := ?vtt_0) rfl (by kernel_rfl) (fun _ _ _ h => h) ?hytt_0 (by rfl) hHeld ?resttt_0
      case hytt_0 => (intro w9 hSw; (try dsimp only at hSw); go_simp <;> with_reducible rfl)
      (try simp only [List.getElem_toArray, List.getElem_cons_zero, List.getElem_cons_succ, Act.put, List.setIfInBounds_toArray, List.set_cons_zero, List.set_cons_succ])
      refine take_E (n := 17) (i := 1) (v := ?vtt_1) rfl (by kernel_rfl) (fun _ _ _ h => h) ?hytt_1 (by rfl) hHeld ?resttt_1
      case hytt_1 => (intro w9 hSw; (try dsimp only at hSw); go_simp <;> with_reducible rfl)
      (try simp only [List.getElem_toArray, List.getElem_cons_zero, List.getElem_cons_succ, Act.put, List.setIfInBounds_toArray, List.set_cons_zero, List.set_cons_succ])
      refine take_E (n := 17) (i := 2) (v := ?vtt_2) rfl (by kernel_rfl) (fun _ _ _ h => h) ?hytt_2 (by rfl) hHeld ?resttt_2
      case hytt_2 => (intro w9 hSw; (try dsimp only at hSw); go_simp <;> with_reducible rfl)
      (try simp only [List.getElem_toArray, List.getElem_cons_zero, List.getElem_cons_succ, Act.put, List.setIfInBounds_toArray, List.set_cons_zero, List.set_cons_succ])
      refine take_E (n := 17) (i := 3) (v := ?vtt_3) rfl (by kernel_rfl) (fun _ _ _ h => h) ?hytt_3 (by rfl) hHeld ?resttt_3
      case hytt_3 => (intro w9 hSw; (try dsimp only at hSw); go_simp <;> with_reducible rfl)
      (try simp only [List.getElem_toArray, List.getElem_cons_zero, List.getElem_cons_succ, Act.put, List.setIfInBounds_toArray, List.set_cons_zero, List.set_cons_succ])
      refine take_E (n := 17) (i := 4) (v := ?vtt_4) rfl (by kernel_rfl) (fun _ _ _ h => h) ?hytt_4 (by rfl) hHeld ?resttt_4
      case hytt_4 => (intro w9 hSw; (try dsimp only at hSw); go_simp <;> with_reducible rfl)
      (try simp only [List.getElem_toArray, List.getElem_cons_zero, List.getElem_cons_succ, Act.put, List.setIfInBounds_toArray, List.set_cons_zero, List.set_cons_succ])
      refine take_E (n := 17) (i := 5) (v := ?vtt_5) rfl (by kernel_rfl) (fun _ _ _ h => h) ?hytt_5 (by rfl) hHeld ?resttt_5
      case hytt_5 => (intro w9 hSw; (try dsimp only at hSw); go_simp <;> with_reducible rfl)
      (try simp only [List.getElem_toArray, List.getElem_cons_zero, List.getElem_cons_succ, Act.put, List.setIfInBounds_toArray, List.set_cons_zero, List.set_cons_succ])
      refine take_E (n := 17) (i := 6) (v := ?vtt_6) rfl (by kernel_rfl) (fun _ _ _ h => h) ?hytt_6 (by rfl) hHeld ?resttt_6
      case hytt_6 => (intro w9 hSw; (try dsimp only at hSw); go_simp <;> with_reducible rfl)
      (try simp only [List.getElem_toArray, List.getElem_cons_zero, List.getElem_cons_succ, Act.put, List.setIfInBounds_toArray, List.set_cons_zero, List.set_cons_succ])
      refine take_E (n := 17) (i := 7) (v := ?vtt_7) rfl (by kernel_rfl) (fun _ _ _ h => h) ?hytt_7 (by rfl) hHeld ?resttt_7
      case hytt_7 => (intro w9 hSw; (try dsimp only at hSw); go_simp <;> with_reducible rfl)
      (try simp only [List.getElem_toArray, List.getElem_cons_zero, List.getElem_cons_succ, Act.put, List.setIfInBounds_toArray, List.set_cons_zero, List.set_cons_succ])
      refine take_E (n := 17) (i := 8) (v := ?vtt_8) rfl (by kernel_rfl) (fun _ _ _ h => h) ?hytt_8 (by rfl) hHeld ?resttt_8
      case hytt_8 => (intro w9 hSw; (try dsimp only at hSw); go_simp <;> with_reducible rfl)
      (try simp only [List.getElem_toArray, List.getElem_cons_zero, List.getElem_cons_succ, Act.put, List.setIfInBounds_toArray, List.set_cons_zero, List.set_cons_succ])
      refine take_E (n := 17) (i := 9) (v := ?vtt_9) rfl (by kernel_rfl) (fun _ _ _ h => h) ?hytt_9 (by rfl) hHeld ?resttt_9
      case hytt_9 => (intro w9 hSw; (try dsimp only at hSw); go_simp <;> with_reducible rfl)
      (try simp only [List.getElem_toArray, List.getElem_cons_zero, List.getElem_cons_succ, Act.put, List.setIfInBounds_toArray, List.set_cons_zero, List.set_cons_succ])
      refine take_E (n := 17) (i := 10) (v := ?vtt_10) rfl (by kernel_rfl) (fun _ _ _ h => h) ?hytt_10 (by rfl) hHeld ?resttt_10
      case hytt_10 => (intro w9 hSw; (try dsimp only at hSw); go_simp <;> with_reducible rfl)
      (try simp only [List.getElem_toArray, List.getElem_cons_zero, List.getElem_cons_succ, Act.put, List.setIfInBounds_toArray, List.set_cons_zero, List.set_cons_succ])
      refine take_E (n := 17) (i := 11) (v := ?vtt_11) rfl (by kernel_rfl) (fun _ _ _ h => h) ?hytt_11 (by rfl) hHeld ?resttt_11
      case hytt_11 => (intro w9 hSw; (try dsimp only at hSw); go_simp <;> with_reducible rfl)
      (try simp only [List.getElem_toArray, List.getElem_cons_zero, List.getElem_cons_succ, Act.put, List.setIfInBounds_toArray, List.set_cons_zero, List.set_cons_succ])
      refine take_E (n := 17) (i := 12) (v := ?vtt_12) rfl (by kernel_rfl) (fun _ _ _ h => h) ?hytt_12 (by rfl) hHeld ?resttt_12
      case hytt_12 => (intro w9 hSw; (try dsimp only at hSw); go_simp <;> with_reducible rfl)
      (try simp only [List.getElem_toArray, List.getElem_cons_zero, List.getElem_cons_succ, Act.put, List.setIfInBounds_toArray, List.set_cons_zero, List.set_cons_succ])
      refine take_E (n := 17) (i := 13) (v := ?vtt_13) rfl (by kernel_rfl) (fun _ _ _ h => h) ?hytt_13 (by rfl) hHeld ?resttt_13
      case hytt_13 => (intro w9 hSw; (try dsimp only at hSw); go_simp <;> with_reducible rfl)
      (try simp only [List.getElem_toArray, List.getElem_cons_zero, List.getElem_cons_succ, Act.put, List.setIfInBounds_toArray, List.set_cons_zero, List.set_cons_succ])
      refine take_E (n := 17) (i := 14) (v := ?vtt_14) rfl (by kernel_rfl) (fun _ _ _ h => h) ?hytt_14 (by rfl) hHeld ?resttt_14
      case hytt_14 => (intro w9 hSw; (try dsimp only at hSw); go_simp <;> with_reducible rfl)
      (try simp only [List.getElem_toArray, List.getElem_cons_zero, List.getElem_cons_succ, Act.put, List.setIfInBounds_toArray, List.set_cons_zero, List.set_cons_succ])
      refine take_E (n := 17) (i := 15) (v := ?vtt_15) rfl (by kernel_rfl) (fun _ _ _ h => h) ?hytt_15 (by rfl) hHeld ?resttt_15
      case hytt_15 => (intro w9 hSw; (try dsimp only at hSw); go_simp <;> with_reducible rfl)
      (try simp only [List.getElem_toArray, List.getElem_cons_zero, List.getElem_cons_succ, Act.put, List.setIfInBounds_toArray, List.set_cons_zero, List.set_cons_succ])
      refine one_E (n := 17) (i := 16) (by kernel_rfl) rfl (fun K hK => ?_)
      go_simp
      refine hK.out _ _ (fun _ => HHd.out _ (below1 wd _)) (fun hHeld8 => ?_)
      clear hK K
      (try simp only [List.getElem_toArray, List.getElem_cons_zero, List.getElem_cons_succ, Act.put, List.setIfInBounds_toArray, List.set_cons_zero, List.set_cons_succ])
      refine one_E (n := 17) (i := 17) (by kernel_rfl) rfl (fun K hK => ?_)
      refine step_append_lies _ (by rfl) _ _ _ (by rfl) w4.heap.size 3 i0 _ 1 8 Try.underlying23 hi0 z0 z1 z2 rfl (by omega) v k (zs L) (by rfl) (own_below (by have := HOd.out.own; rw [HTl.out] at this; exact this) (below1 wd _)) ⟨wd.heap.size, 0, none⟩ 1 1 [.int .i64 z] (by rfl) (by rfl) (World.news_of_block (cs := #[.int .i64 z]) (t := 3) (fr := (0, 0)) (heap_alloc_new wd _)) (by simp [Value.oneCell']) (by omega) (by unfold maxLen; omega) (by omega) (by have := HOd.out.size; simp; omega) (wd.heap.size + 1) (by simp) ?_
      intro gg cap' p2 hown2 hgrow hat hlt3
      obtain ⟨hbx, hxn⟩ := HOd.out.push (by rw [HTl.out]; exact hown2) hgrow
      have HXn := Lib.hid hxn
      obtain ⟨e1, e2, ef⟩ := cells_two hbx
      clear hown2 hgrow hat hxn hbx
      refine hK.out _ _ (fun h => absurd h (by decide)) (fun hHeld9 => ?_)
      clear hK K
      (try simp only [List.getElem_toArray, List.getElem_cons_zero, List.getElem_cons_succ, Act.put, List.setIfInBounds_toArray, List.set_cons_zero, List.set_cons_succ])
      refine one_E (n := 17) (i := 18) (by kernel_rfl) rfl (fun K hK => ?_)
      go_simp
      refine hK.out _ _ (fun h => absurd h (by decide)) (fun hHeld10 => ?_)
      clear hK K
      (try simp only [List.getElem_toArray, List.getElem_cons_zero, List.getElem_cons_succ, Act.put, List.setIfInBounds_toArray, List.set_cons_zero, List.set_cons_succ])
      refine one_E (n := 17) (i := 19) (by kernel_rfl) rfl (fun K hK => ?_)
      go_simp
      refine hK.out _ _ (fun h => absurd h (by decide)) (fun hHeld10 => ?_)
      clear hK K
      (try simp only [List.getElem_toArray, List.getElem_cons_zero, List.getElem_cons_succ, Act.put, List.setIfInBounds_toArray, List.set_cons_zero, List.set_cons_succ])
      refine done_E (by kernel_rfl) ?_ _
      go_wp2
      go_roundw
      case rel => exact ⟨k + 1, _, by go_num, by omega, by rw [HN.out]; exact HXn.out⟩
      case measure => simp [intOf]; omega
    · obtain rfl : k = G.length := by omega
      have hk3 : ¬ (G.length : Int) < (G.length : Int) := by omega
      rw [← HL.out] at HO
      obtain ⟨A0, l0, c0, rfl⟩ := ownsRow_slice HO.out.own
      obtain ⟨z1', z2', zf⟩ := cells_two HO.out.box
      have hr0 := HO.out.blk R5.out (by omega)
      obtain ⟨r0, r1, rf⟩ := cells_two hr0
      have R6 := Lib.hid (two_setC hr0 (.int .i64 (n : Int)) (.slice A0 l0 c0))
      obtain ⟨s0, s1, sf⟩ := cells_two R6.out
      have HOf := Lib.hid (own_base (show w.heap.size ≤ w4.heap.size by omega) (ownsRow_setCell_below (ownsRow_setCell_below HO.out.own (a := ⟨w.heap.size + 2, 0, none⟩) (by show w.heap.size + 2 < w4.heap.size; omega) (.int .i64 (n : Int))) (a := ⟨w.heap.size + 2, 1, none⟩) (by show w.heap.size + 2 < w4.heap.size; omega) (.slice A0 l0 c0)))
      have HBf := Lib.hid ((HO.out.below.setCell (p := ⟨w.heap.size + 2, 0, none⟩) (by show w.heap.size ≤ w.heap.size + 2; omega) (.int .i64 (n : Int))).setCell (p := ⟨w.heap.size + 2, 1, none⟩) (by show w.heap.size ≤ w.heap.size + 2; omega) (.slice A0 l0 c0))
      clear hr0
      go_wp2
      refine bodyPost_ret (v := .tuple #[.agg #[.int .i64 (n : Int), .slice A0 l0 c0], .int .i64 0]) ?_ rfl ⟨_, rfl, HOf.out, HBf.out⟩
      simp [results, Try.results37, go_sem, s0, s1]
end Go.Proofs.Ytdbleaalpdemnaa
namespace Go.Proofs.Ytdbleaalpdemnaa
open Go.RowKit
set_option linter.unusedVariables false
set_option linter.unusedSimpArgs false

set_option maxHeartbeats 1600000 in
set_option maxRecDepth 1000000 in
theorem pconj_bad (n : Int) (E : List Int) (A : Option Addr) (c : Nat) (w : World) (hE : RdZ w w.heap.size A c E) (h : chkV n E ≠ 0) :
    Calls Try.prog 38 #[.agg #[.int .i64 n, .slice A E.length c]] w fun e w' => e = .returned (.tuple #[.agg #[.int .i64 0, .slice none 0 0], .int .i64 (chkV n E)]) ∧ Below w.heap.size w w' := by
  have X0 : Hid (((w.alloc (.cells #[.int .i64 n, .slice A E.length c] 33)).alloc (.cells #[.int .i64 0, .slice none 0 0] 33)).heap[w.heap.size]? = some (.cells #[.int .i64 n, .slice A E.length c] 33 (0, 0))) := block_alloc (heap_alloc_new w _) _
  have R0 : Hid (((w.alloc (.cells #[.int .i64 n, .slice A E.length c] 33)).alloc (.cells #[.int .i64 0, .slice none 0 0] 33)).heap[w.heap.size + 1]? = some (.cells #[.int .i64 0, .slice none 0 0] 33 (0, 0))) := by
    have := heap_alloc_new (w.alloc (.cells #[.int .i64 n, .slice A E.length c] 33)) (.cells #[.int .i64 0, .slice none 0 0] 33)
    show _ = _; simpa using this
  have B0 : Hid (Below w.heap.size w ((w.alloc (.cells #[.int .i64 n, .slice A E.length c] 33)).alloc (.cells #[.int .i64 0, .slice none 0 0] 33))) := below2 w _ _
  have HCk := Lib.hid (dckv_any n E A c ((w.alloc (.cells #[.int .i64 n, .slice A E.length c] 33)).alloc (.cells #[.int .i64 0, .slice none 0 0] 33)) ((hE.below B0.out).mono B0.out.size))
  obtain ⟨x0, x1, _⟩ := cells_two X0.out
  have hk : (chkV n E != 0) = true := by rw [bne_iff_ne]; exact h
  clear h hE
  generalize chkV n E = K at *
  go_enter Try.func38, Try.ntmps38
  go_wp2_with (first
    | (go_at_call 24; ((with_reducible refine HCk.out.mono ?_); rintro e w1 ⟨rfl, hb⟩; have R1 := Lib.hid (block_below R0.out hb); have B1 := Lib.hid (B0.out.trans (hb.mono B0.out.size)); clear hb x0 x1; obtain ⟨r0, r1, rf⟩ := cells_two R1.out))
    | fail)
  have R6 := Lib.hid (two_setC R1.out (.int .i64 0) (.slice none 0 0))
  obtain ⟨s0, s1, sf⟩ := cells_two R6.out
  have HB6 := Lib.hid ((B1.out.setCell (p := ⟨w.heap.size + 1, 0, none⟩) (by show _ ≤ w.heap.size + 1; omega) (.int .i64 0)).setCell (p := ⟨w.heap.size + 1, 1, none⟩) (by show _ ≤ w.heap.size + 1; omega) (.slice none 0 0))
  refine bodyPost_ret (v := .tuple #[.agg #[.int .i64 0, .slice none 0 0], .int .i64 K]) ?_ rfl ⟨rfl, HB6.out⟩
  simp [results, Try.results38, go_sem, s0, s1]
set_option maxHeartbeats 1600000 in
set_option maxRecDepth 1000000 in
theorem pmul_bad1 (n n2 : Int) (E F : List Int) (A A2 : Option Addr) (c c2 : Nat) (w : World) (hE : RdZ w w.heap.size A c E) (hF : RdZ w w.heap.size A2 c2 F) (h : chkV n E ≠ 0) :
    Calls Try.prog 37 #[.agg #[.int .i64 n, .slice A E.length c], .agg #[.int .i64 n2, .slice A2 F.length c2]] w fun e w' => e = .returned (.tuple #[.agg #[.int .i64 0, .slice none 0 0], .int .i64 (chkV n E)]) ∧ Below w.heap.size w w' := by
  have X0 : Hid ((((w.alloc (.cells #[.int .i64 n, .slice A E.length c] 33)).alloc (.cells #[.int .i64 n2, .slice A2 F.length c2] 33)).alloc (.cells #[.int .i64 0, .slice none 0 0] 33)).heap[w.heap.size]? = some (.cells #[.int .i64 n, .slice A E.length c] 33 (0, 0))) := block_alloc (block_alloc (heap_alloc_new w _) _) _
  have Y0 : Hid ((((w.alloc (.cells #[.int .i64 n, .slice A E.length c] 33)).alloc (.cells #[.int .i64 n2, .slice A2 F.length c2] 33)).alloc (.cells #[.int .i64 0, .slice none 0 0] 33)).heap[w.heap.size + 1]? = some (.cells #[.int .i64 n2, .slice A2 F.length c2] 33 (0, 0))) := by
    have := heap_alloc_new (w.alloc (.cells #[.int .i64 n, .slice A E.length c] 33)) (.cells #[.int .i64 n2, .slice A2 F.length c2] 33)
    refine block_alloc ?_ _
    simpa using this
  have R0 : Hid ((((w.alloc (.cells #[.int .i64 n, .slice A E.length c] 33)).alloc (.cells #[.int .i64 n2, .slice A2 F.length c2] 33)).alloc (.cells #[.int .i64 0, .slice none 0 0] 33)).heap[w.heap.size + 2]? = some (.cells #[.int .i64 0, .slice none 0 0] 33 (0, 0))) := by
    have := heap_alloc_new ((w.alloc (.cells #[.int .i64 n, .slice A E.length c] 33)).alloc (.cells #[.int .i64 n2, .slice A2 F.length c2] 33)) (.cells #[.int .i64 0, .slice none 0 0] 33)
    show _ = _; simpa using this
  have B0 : Hid (Below w.heap.size w (((w.alloc (.cells #[.int .i64 n, .slice A E.length c] 33)).alloc (.cells #[.int .i64 n2, .slice A2 F.length c2] 33)).alloc (.cells #[.int .i64 0, .slice none 0 0] 33))) := (below2 w _ _).alloc (by simp; omega) _
  have HCk := Lib.hid (fun (W : World) (h : RdZ W W.heap.size A c E) => dckv_any n E A c W h)
  have HCf := Lib.hid (fun (W : World) (h : RdZ W W.heap.size A2 c2 F) => dckv_any n2 F A2 c2 W h)
  have HE := Lib.hid hE
  have HF := Lib.hid hF
  obtain ⟨x0, x1, _⟩ := cells_two X0.out
  obtain ⟨y0, y1, _⟩ := cells_two Y0.out
  clear hE hF
  have hk : (chkV n E != 0) = true := by rw [bne_iff_ne]; exact h
  clear h
  generalize chkV n E = K at *
  go_enter Try.func37, Try.ntmps37
  go_wp2_with (first
    | (go_at_call 24; ((with_reducible refine (HCk.out _ ((HE.out.below B0.out).mono B0.out.size)).mono ?_); rintro e w1 ⟨rfl, hb⟩; have X1 := Lib.hid (block_below X0.out hb); have Y1 := Lib.hid (block_below Y0.out hb); have R1 := Lib.hid (block_below R0.out hb); have B1 := Lib.hid (B0.out.trans (hb.mono B0.out.size)); clear hb x0 x1 y0 y1; obtain ⟨x0, x1, _⟩ := cells_two X1.out; obtain ⟨y0, y1, _⟩ := cells_two Y1.out; obtain ⟨r0, r1, rf⟩ := cells_two R1.out))
    | fail)
  have R6 := Lib.hid (two_setC R1.out (.int .i64 0) (.slice none 0 0))
  obtain ⟨s0, s1, sf⟩ := cells_two R6.out
  have HB6 := Lib.hid ((B1.out.setCell (p := ⟨w.heap.size + 2, 0, none⟩) (by show _ ≤ w.heap.size + 2; omega) (.int .i64 0)).setCell (p := ⟨w.heap.size + 2, 1, none⟩) (by show _ ≤ w.heap.size + 2; omega) (.slice none 0 0))
  refine bodyPost_ret (v := .tuple #[.agg #[.int .i64 0, .slice none 0 0], .int .i64 K]) ?_ rfl ⟨rfl, HB6.out⟩
  simp [results, Try.results37, go_sem, s0, s1]
set_option maxHeartbeats 1600000 in
set_option maxRecDepth 1000000 in
theorem pmul_bad2 (n n2 : Int) (E F : List Int) (A A2 : Option Addr) (c c2 : Nat) (w : World) (hE : RdZ w w.heap.size A c E) (hF : RdZ w w.heap.size A2 c2 F) (h1 : chkV n E = 0) (h : chkV n2 F ≠ 0) :
    Calls Try.prog 37 #[.agg #[.int .i64 n, .slice A E.length c], .agg #[.int .i64 n2, .slice A2 F.length c2]] w fun e w' => e = .returned (.tuple #[.agg #[.int .i64 0, .slice none 0 0], .int .i64 (chkV n2 F)]) ∧ Below w.heap.size w w' := by
  have X0 : Hid ((((w.alloc (.cells #[.int .i64 n, .slice A E.length c] 33)).alloc (.cells #[.int .i64 n2, .slice A2 F.length c2] 33)).alloc (.cells #[.int .i64 0, .slice none 0 0] 33)).heap[w.heap.size]? = some (.cells #[.int .i64 n, .slice A E.length c] 33 (0, 0))) := block_alloc (block_alloc (heap_alloc_new w _) _) _
  have Y0 : Hid ((((w.alloc (.cells #[.int .i64 n, .slice A E.length c] 33)).alloc (.cells #[.int .i64 n2, .slice A2 F.length c2] 33)).alloc (.cells #[.int .i64 0, .slice none 0 0] 33)).heap[w.heap.size + 1]? = some (.cells #[.int .i64 n2, .slice A2 F.length c2] 33 (0, 0))) := by
    have := heap_alloc_new (w.alloc (.cells #[.int .i64 n, .slice A E.length c] 33)) (.cells #[.int .i64 n2, .slice A2 F.length c2] 33)
    refine block_alloc ?_ _
    simpa using this
  have R0 : Hid ((((w.alloc (.cells #[.int .i64 n, .slice A E.length c] 33)).alloc (.cells #[.int .i64 n2, .slice A2 F.length c2] 33)).alloc (.cells #[.int .i64 0, .slice none 0 0] 33)).heap[w.heap.size + 2]? = some (.cells #[.int .i64 0, .slice none 0 0] 33 (0, 0))) := by
    have := heap_alloc_new ((w.alloc (.cells #[.int .i64 n, .slice A E.length c] 33)).alloc (.cells #[.int .i64 n2, .slice A2 F.length c2] 33)) (.cells #[.int .i64 0, .slice none 0 0] 33)
    show _ = _; simpa using this
  have B0 : Hid (Below w.heap.size w (((w.alloc (.cells #[.int .i64 n, .slice A E.length c] 33)).alloc (.cells #[.int .i64 n2, .slice A2 F.length c2] 33)).alloc (.cells #[.int .i64 0, .slice none 0 0] 33))) := (below2 w _ _).alloc (by simp; omega) _
  have HCk := Lib.hid (fun (W : World) (h : RdZ W W.heap.size A c E) => dckv_any n E A c W h)
  have HCf := Lib.hid (fun (W : World) (h : RdZ W W.heap.size A2 c2 F) => dckv_any n2 F A2 c2 W h)
  have HE := Lib.hid hE
  have HF := Lib.hid hF
  obtain ⟨x0, x1, _⟩ := cells_two X0.out
  obtain ⟨y0, y1, _⟩ := cells_two Y0.out
  clear hE hF
  rw [h1] at HCk
  have hk : (chkV n2 F != 0) = true := by rw [bne_iff_ne]; exact h
  clear h h1
  generalize chkV n2 F = K at *
  go_enter Try.func37, Try.ntmps37
  go_wp2_with (first
    | (go_at_call 24; first
        | ((with_reducible refine (HCk.out _ ((HE.out.below B0.out).mono B0.out.size)).mono ?_); rintro e w1 ⟨rfl, hb⟩; have X1 := Lib.hid (block_below X0.out hb); have Y1 := Lib.hid (block_below Y0.out hb); have R1 := Lib.hid (block_below R0.out hb); have B1 := Lib.hid (B0.out.trans (hb.mono B0.out.size)); clear hb x0 x1 y0 y1; obtain ⟨x0, x1, _⟩ := cells_two X1.out; obtain ⟨y0, y1, _⟩ := cells_two Y1.out; obtain ⟨r0, r1, rf⟩ := cells_two R1.out)
        | (clear r0 r1 rf; (with_reducible refine (HCf.out _ ((HF.out.below B1.out).mono B1.out.size)).mono ?_); rintro e w2 ⟨rfl, hb⟩; have X2 := Lib.hid (block_below X1.out hb); have Y2 := Lib.hid (block_below Y1.out hb); have R2 := Lib.hid (block_below R1.out hb); have B2 := Lib.hid (B1.out.trans (hb.mono B1.out.size)); clear hb x0 x1 y0 y1; obtain ⟨x0, x1, _⟩ := cells_two X2.out; obtain ⟨y0, y1, _⟩ := cells_two Y2.out; obtain ⟨r0, r1, rf⟩ := cells_two R2.out)
        | fail)
    | fail)
  have R6 := Lib.hid (two_setC R2.out (.int .i64 0) (.slice none 0 0))
  obtain ⟨s0, s1, sf⟩ := cells_two R6.out
  have HB6 := Lib.hid ((B2.out.setCell (p := ⟨w.heap.size + 2, 0, none⟩) (by show _ ≤ w.heap.size + 2; omega) (.int .i64 0)).setCell (p := ⟨w.heap.size + 2, 1, none⟩) (by show _ ≤ w.heap.size + 2; omega) (.slice none 0 0))
  refine bodyPost_ret (v := .tuple #[.agg #[.int .i64 0, .slice none 0 0], .int .i64 K]) ?_ rfl ⟨rfl, HB6.out⟩
  simp [results, Try.results37, go_sem, s0, s1]
set_option maxHeartbeats 1600000 in
set_option maxRecDepth 1000000 in
theorem pmul_dif (n n2 : Int) (E F : List Int) (A A2 : Option Addr) (c c2 : Nat) (w : World) (hE : RdZ w w.heap.size A c E) (hF : RdZ w w.heap.size A2 c2 F) (h1 : chkV n E = 0) (h2 : chkV n2 F = 0) (h : n ≠ n2) :
    Calls Try.prog 37 #[.agg #[.int .i64 n, .slice A E.length c], .agg #[.int .i64 n2, .slice A2 F.length c2]] w fun e w' => e = .returned (.tuple #[.agg #[.int .i64 0, .slice none 0 0], .int .i64 24]) ∧ Below w.heap.size w w' := by
  have X0 : Hid ((((w.alloc (.cells #[.int .i64 n, .slice A E.length c] 33)).alloc (.cells #[.int .i64 n2, .slice A2 F.length c2] 33)).alloc (.cells #[.int .i64 0, .slice none 0 0] 33)).heap[w.heap.size]? = some (.cells #[.int .i64 n, .slice A E.length c] 33 (0, 0))) := block_alloc (block_alloc (heap_alloc_new w _) _) _
  have Y0 : Hid ((((w.alloc (.cells #[.int .i64 n, .slice A E.length c] 33)).alloc (.cells #[.int .i64 n2, .slice A2 F.length c2] 33)).alloc (.cells #[.int .i64 0, .slice none 0 0] 33)).heap[w.heap.size + 1]? = some (.cells #[.int .i64 n2, .slice A2 F.length c2] 33 (0, 0))) := by
    have := heap_alloc_new (w.alloc (.cells #[.int .i64 n, .slice A E.length c] 33)) (.cells #[.int .i64 n2, .slice A2 F.length c2] 33)
    refine block_alloc ?_ _
    simpa using this
  have R0 : Hid ((((w.alloc (.cells #[.int .i64 n, .slice A E.length c] 33)).alloc (.cells #[.int .i64 n2, .slice A2 F.length c2] 33)).alloc (.cells #[.int .i64 0, .slice none 0 0] 33)).heap[w.heap.size + 2]? = some (.cells #[.int .i64 0, .slice none 0 0] 33 (0, 0))) := by
    have := heap_alloc_new ((w.alloc (.cells #[.int .i64 n, .slice A E.length c] 33)).alloc (.cells #[.int .i64 n2, .slice A2 F.length c2] 33)) (.cells #[.int .i64 0, .slice none 0 0] 33)
    show _ = _; simpa using this
  have B0 : Hid (Below w.heap.size w (((w.alloc (.cells #[.int .i64 n, .slice A E.length c] 33)).alloc (.cells #[.int .i64 n2, .slice A2 F.length c2] 33)).alloc (.cells #[.int .i64 0, .slice none 0 0] 33))) := (below2 w _ _).alloc (by simp; omega) _
  have HCk := Lib.hid (fun (W : World) (h : RdZ W W.heap.size A c E) => dckv_any n E A c W h)
  have HCf := Lib.hid (fun (W : World) (h : RdZ W W.heap.size A2 c2 F) => dckv_any n2 F A2 c2 W h)
  have HE := Lib.hid hE
  have HF := Lib.hid hF
  obtain ⟨x0, x1, _⟩ := cells_two X0.out
  obtain ⟨y0, y1, _⟩ := cells_two Y0.out
  clear hE hF
  rw [h1] at HCk
  rw [h2] at HCf
  have hk : (n != n2) = true := by rw [bne_iff_ne]; exact h
  clear h h1 h2
  go_enter Try.func37, Try.ntmps37
  go_wp2_with (first
    | (go_at_call 24; first
        | ((with_reducible refine (HCk.out _ ((HE.out.below B0.out).mono B0.out.size)).mono ?_); rintro e w1 ⟨rfl, hb⟩; have X1 := Lib.hid (block_below X0.out hb); have Y1 := Lib.hid (block_below Y0.out hb); have R1 := Lib.hid (block_below R0.out hb); have B1 := Lib.hid (B0.out.trans (hb.mono B0.out.size)); clear hb x0 x1 y0 y1; obtain ⟨x0, x1, _⟩ := cells_two X1.out; obtain ⟨y0, y1, _⟩ := cells_two Y1.out; obtain ⟨r0, r1, rf⟩ := cells_two R1.out)
        | (clear r0 r1 rf; (with_reducible refine (HCf.out _ ((HF.out.below B1.out).mono B1.out.size)).mono ?_); rintro e w2 ⟨rfl, hb⟩; have X2 := Lib.hid (block_below X1.out hb); have Y2 := Lib.hid (block_below Y1.out hb); have R2 := Lib.hid (block_below R1.out hb); have B2 := Lib.hid (B1.out.trans (hb.mono B1.out.size)); clear hb x0 x1 y0 y1; obtain ⟨x0, x1, _⟩ := cells_two X2.out; obtain ⟨y0, y1, _⟩ := cells_two Y2.out; obtain ⟨r0, r1, rf⟩ := cells_two R2.out)
        | fail)
    | fail)
  have R6 := Lib.hid (two_setC R2.out (.int .i64 0) (.slice none 0 0))
  obtain ⟨s0, s1, sf⟩ := cells_two R6.out
  have HB6 := Lib.hid ((B2.out.setCell (p := ⟨w.heap.size + 2, 0, none⟩) (by show _ ≤ w.heap.size + 2; omega) (.int .i64 0)).setCell (p := ⟨w.heap.size + 2, 1, none⟩) (by show _ ≤ w.heap.size + 2; omega) (.slice none 0 0))
  refine bodyPost_ret (v := .tuple #[.agg #[.int .i64 0, .slice none 0 0], .int .i64 24]) ?_ rfl ⟨rfl, HB6.out⟩
  simp [results, Try.results37, go_sem, s0, s1]
end Go.Proofs.Ytdbleaalpdemnaa
namespace Go.Proofs.Ytdbleaalpdemnaa
open Go.RowKit
set_option linter.unusedVariables false
set_option linter.unusedSimpArgs false

/-- What Mul, Conjugate answer, in one form. -/
theorem rdz_nil (W : World) (B : Nat) : RdZ W B none 0 [] := ⟨by simp, by unfold maxLen; omega, fun h0 => by simp at h0, fun _ h0 => by cases h0⟩
set_option maxHeartbeats 6400000 in
set_option maxRecDepth 1000000 in
theorem lpr_walk (n : Int) (E : List Int) (n2 : Int) (F : List Int) (w : World) {A : Option Addr} {c : Nat} (hE : RdZ w w.heap.size A c E) (_ : A = none → c = 0) {A2 : Option Addr} {c2 : Nat} (hF : RdZ w w.heap.size A2 c2 F) (_ : A2 = none → c2 = 0) :
    Calls Try.prog 9 #[.agg #[.int .i64 n, .slice A E.length c], .agg #[.int .i64 n2, .slice A2 F.length c2]] w fun e w' => e = .returned (.bool true) ∧ Below w.heap.size w w' := by
  have HA := Lib.hid awake28_any
  have hle := hE.len
  have hlf := hF.len
  have X0 : Hid (((w.alloc (.cells #[.int .i64 n, .slice A E.length c] 33)).alloc (.cells #[.int .i64 n2, .slice A2 F.length c2] 33)).heap[w.heap.size]? = some (.cells #[.int .i64 n, .slice A E.length c] 33 (0, 0))) := block_alloc (heap_alloc_new w _) _
  have Y0 : Hid (((w.alloc (.cells #[.int .i64 n, .slice A E.length c] 33)).alloc (.cells #[.int .i64 n2, .slice A2 F.length c2] 33)).heap[w.heap.size + 1]? = some (.cells #[.int .i64 n2, .slice A2 F.length c2] 33 (0, 0))) := by
    have := heap_alloc_new (w.alloc (.cells #[.int .i64 n, .slice A E.length c] 33)) (.cells #[.int .i64 n2, .slice A2 F.length c2] 33)
    show _ = _; simpa using this
  have B0 : Hid (Below w.heap.size w ((w.alloc (.cells #[.int .i64 n, .slice A E.length c] 33)).alloc (.cells #[.int .i64 n2, .slice A2 F.length c2] 33))) := below2 w _ _
  obtain ⟨x0, x1, _⟩ := cells_two X0.out
  obtain ⟨y0, y1, _⟩ := cells_two Y0.out
  by_cases hl : 100 < E.length ∨ 100 < F.length
  · have hz : (100 < (E.length : Int)) ∨ (¬ 100 < (E.length : Int) ∧ 100 < (F.length : Int)) := by omega
    clear hE hF hl
    rcases hz with h | ⟨h1, h2⟩
    · go_enter Try.func9, Try.ntmps9
      go_wp2_with (first
        | (go_at_call 13; ((with_reducible refine (HA.out _).mono ?_); rintro e v1 ⟨rfl, hb⟩; have B1 := Lib.hid (B0.out.trans (hb.mono B0.out.size)); clear hb))
        | fail)
      go_ret
      exact ⟨rfl, B1.out⟩
    · go_enter Try.func9, Try.ntmps9
      go_wp2_with (first
        | (go_at_call 13; ((with_reducible refine (HA.out _).mono ?_); rintro e v1 ⟨rfl, hb⟩; have B1 := Lib.hid (B0.out.trans (hb.mono B0.out.size)); clear hb))
        | fail)
      go_ret
      exact ⟨rfl, B1.out⟩
  · have hl1 : ¬ 100 < (E.length : Int) := by omega
    have hl2 : ¬ 100 < (F.length : Int) := by omega
    have HE0 : Hid (∀ W, Below w.heap.size w W → RdZ W W.heap.size A c E) := fun W hW => (hE.below hW).mono hW.size
    have HF0 : Hid (∀ W, Below w.heap.size w W → RdZ W W.heap.size A2 c2 F) := fun W hW => (hF.below hW).mono hW.size
    have HG1 := Lib.hid (fun (W : World) (h : RdZ W W.heap.size A c E) => rchk_any n E A c W h)
    have HG2 := Lib.hid (fun (W : World) (h : RdZ W W.heap.size A2 c2 F) => rchk_any n2 F A2 c2 W h)
    have HS0 : Hid (∀ W : World, Calls Try.prog 30 #[.agg #[.int .i64 0, .slice none 0 0], .agg #[.int .i64 0, .slice none 0 0]] W fun e w' => e = .returned (.bool true) ∧ Below W.heap.size W w') := fun W => csame_any 0 [] none none 0 0 0 0 W (rdz_nil W 0) (rdz_nil W 0) (Nat.zero_le _) (Nat.zero_le _)
    clear hl
    by_cases h1 : chkV n E = 0
    · obtain ⟨N, rfl, N1, N2, hck⟩ : ∃ N : Nat, n = (N : Int) ∧ 1 ≤ N ∧ (N : Int) ≤ 60 ∧ ckX N E = 0 := by
        unfold chkV at h1
        by_cases h : 1 ≤ n ∧ n ≤ 60
        · rw [if_pos h] at h1
          exact ⟨n.toNat, by omega, by omega, by omega, h1⟩
        · rw [if_neg h] at h1; cases h1
      have HCo : Hid (∀ W : World, RdZ W W.heap.size A c E → Calls Try.prog 38 #[.agg #[.int .i64 (N : Int), .slice A E.length c]] W fun e w' => ∃ A5 c5, e = .returned (.tuple #[.agg #[.int .i64 (N : Int), .slice A5 (conE N E).length c5], .int .i64 0]) ∧ RdZ w' w'.heap.size A5 c5 (conE N E) ∧ Below W.heap.size W w') := fun W hW => by
        refine (pconj_any N E A c W N1 N2 hW hck).mono fun e w' ⟨v, he, ho, hb⟩ => ?_
        obtain ⟨A5, c5, rfl, hr⟩ := own_rdz ho
        exact ⟨A5, c5, he, hr, hb⟩
      have HRo : Hid (∀ W : World, RdZ W W.heap.size A c E → Calls Try.prog 39 #[.agg #[.int .i64 (N : Int), .slice A E.length c]] W fun e w' => ∃ A5 c5, e = .returned (.agg #[.int .i64 (N : Int), .slice A5 (conE N E).length c5]) ∧ RdZ w' w'.heap.size A5 c5 (conE N E) ∧ Below W.heap.size W w') := fun W hW => by
        refine (rconj_any N E A c W N1 N2 hW hck).mono fun e w' ⟨v, he, ho, hb⟩ => ?_
        obtain ⟨A5, c5, rfl, hr⟩ := own_rdz ho
        exact ⟨A5, c5, he, hr, hb⟩
      rw [h1] at HG1
      have HSc := Lib.hid (fun (A1 A2 : Option Addr) (c1 c2 B1 B2 : Nat) (W : World) h1 h2 h3 h4 => csame_any (N : Int) (conE N E) A1 A2 c1 c2 B1 B2 W h1 h2 h3 h4)
      by_cases h2 : chkV n2 F = 0
      · rw [h2] at HG2
        by_cases h3 : (N : Int) = n2
        · subst h3
          have hck2 : ckX N F = 0 := by
            unfold chkV at h2
            rw [if_pos ⟨by omega, N2⟩, Int.toNat_natCast] at h2; exact h2
          have HMu : Hid (∀ W : World, RdZ W W.heap.size A c E → RdZ W W.heap.size A2 c2 F → Calls Try.prog 37 #[.agg #[.int .i64 (N : Int), .slice A E.length c], .agg #[.int .i64 (N : Int), .slice A2 F.length c2]] W fun e w' => ∃ A5 c5, e = .returned (.tuple #[.agg #[.int .i64 (N : Int), .slice A5 (mulCE N E F).length c5], .int .i64 0]) ∧ RdZ w' w'.heap.size A5 c5 (mulCE N E F) ∧ Below W.heap.size W w') := fun W hW hW2 => by
            refine (pmulc_any N E F A A2 c c2 W N1 N2 hW hW2 hck hck2).mono fun e w' ⟨v, he, ho, hb⟩ => ?_
            obtain ⟨A5, c5, rfl, hr⟩ := own_rdz ho
            exact ⟨A5, c5, he, hr, hb⟩
          have HRm : Hid (∀ W : World, RdZ W W.heap.size A c E → RdZ W W.heap.size A2 c2 F → Calls Try.prog 40 #[.agg #[.int .i64 (N : Int), .slice A E.length c], .agg #[.int .i64 (N : Int), .slice A2 F.length c2]] W fun e w' => ∃ A5 c5, e = .returned (.agg #[.int .i64 (N : Int), .slice A5 (mulCE N E F).length c5]) ∧ RdZ w' w'.heap.size A5 c5 (mulCE N E F) ∧ Below W.heap.size W w') := fun W hW hW2 => by
            refine (rmulc_any N E F A A2 c c2 W N1 N2 hW hW2 hck hck2).mono fun e w' ⟨v, he, ho, hb⟩ => ?_
            obtain ⟨A5, c5, rfl, hr⟩ := own_rdz ho
            exact ⟨A5, c5, he, hr, hb⟩
          have HSm := Lib.hid (fun (A1 A2 : Option Addr) (c1 c2 B1 B2 : Nat) (W : World) h1 h2 h3 h4 => csame_any (N : Int) (mulCE N E F) A1 A2 c1 c2 B1 B2 W h1 h2 h3 h4)
          clear h1 h2 hck hck2 hE hF
          generalize mulCE N E F = LM at *
          generalize conE N E = LC at *
          go_enter Try.func9, Try.ntmps9
          go_upto_region 6 with (first
            | (go_at_call 13; ((with_reducible refine (HA.out _).mono ?_); rintro e v1 ⟨rfl, hb⟩; have B1 := Lib.hid (B0.out.trans (hb.mono B0.out.size)); have X1 := Lib.hid (block_below X0.out hb); have Y1 := Lib.hid (block_below Y0.out hb); clear x0 x1 y0 y1 hb; obtain ⟨x0, x1, _⟩ := cells_two X1.out; obtain ⟨y0, y1, _⟩ := cells_two Y1.out))
            | (go_at_call 37; ((with_reducible refine (HMu.out _ (HE0.out _ B1.out) (HF0.out _ B1.out)).mono ?_); rintro e v2 ⟨A5, c5, rfl, hrm, hb⟩; have B2 := Lib.hid (B1.out.trans (hb.mono B1.out.size)); have X2 := Lib.hid (block_below X1.out hb); have Y2 := Lib.hid (block_below Y1.out hb); have PM2 := Lib.hid hrm; clear hrm; clear x0 x1 y0 y1 hb))
            | fail)
          have M3 := Lib.hid (heap_alloc_new v2 (.cells #[.int .i64 (N : Int), .slice A5 LM.length c5] 33))
          have X3 := Lib.hid (block_alloc X2.out (.cells #[.int .i64 (N : Int), .slice A5 LM.length c5] 33))
          have Y3 := Lib.hid (block_alloc Y2.out (.cells #[.int .i64 (N : Int), .slice A5 LM.length c5] 33))
          have B3 : Hid (Below w.heap.size w (v2.alloc (.cells #[.int .i64 (N : Int), .slice A5 LM.length c5] 33))) := B2.out.alloc B2.out.size _
          have PM3 := Lib.hid ((PM2.out.below (below1 v2 (.cells #[.int .i64 (N : Int), .slice A5 LM.length c5] 33))).mono (below1 v2 (.cells #[.int .i64 (N : Int), .slice A5 LM.length c5] 33)).size)
          generalize v2.alloc (.cells #[.int .i64 (N : Int), .slice A5 LM.length c5] 33) = v3 at *
          generalize v2.heap.size = mb at *
          obtain ⟨x0, x1, _⟩ := cells_two X3.out
          obtain ⟨y0, y1, _⟩ := cells_two Y3.out
          go_upto_region 7 with (first
            | (go_at_call 38; ((with_reducible refine (HCo.out _ (HE0.out _ B3.out)).mono ?_); rintro e v4 ⟨A6, c6, rfl, hrc, hb⟩; have B4 := Lib.hid (B3.out.trans (hb.mono B3.out.size)); have X4 := Lib.hid (block_below X3.out hb); have Y4 := Lib.hid (block_below Y3.out hb); have M4 := Lib.hid (block_below M3.out hb); have PC4 := Lib.hid hrc; clear hrc; have PM4 := Lib.hid ((PM3.out.below hb).mono hb.size); clear x0 x1 y0 y1 hb))
            | fail)
          have C5 := Lib.hid (heap_alloc_new v4 (.cells #[.int .i64 (N : Int), .slice A6 LC.length c6] 33))
          have X5 := Lib.hid (block_alloc X4.out (.cells #[.int .i64 (N : Int), .slice A6 LC.length c6] 33))
          have Y5 := Lib.hid (block_alloc Y4.out (.cells #[.int .i64 (N : Int), .slice A6 LC.length c6] 33))
          have M5 := Lib.hid (block_alloc M4.out (.cells #[.int .i64 (N : Int), .slice A6 LC.length c6] 33))
          have B5 : Hid (Below w.heap.size w (v4.alloc (.cells #[.int .i64 (N : Int), .slice A6 LC.length c6] 33))) := B4.out.alloc B4.out.size _
          have PC5 := Lib.hid ((PC4.out.below (below1 v4 (.cells #[.int .i64 (N : Int), .slice A6 LC.length c6] 33))).mono (below1 v4 (.cells #[.int .i64 (N : Int), .slice A6 LC.length c6] 33)).size)
          have PM5 := Lib.hid ((PM4.out.below (below1 v4 (.cells #[.int .i64 (N : Int), .slice A6 LC.length c6] 33))).mono (below1 v4 (.cells #[.int .i64 (N : Int), .slice A6 LC.length c6] 33)).size)
          generalize v4.alloc (.cells #[.int .i64 (N : Int), .slice A6 LC.length c6] 33) = v5 at *
          generalize v4.heap.size = cb at *
          obtain ⟨x0, x1, _⟩ := cells_two X5.out
          obtain ⟨y0, y1, _⟩ := cells_two Y5.out
          obtain ⟨m0, m1', _⟩ := cells_two M5.out
          obtain ⟨cc0, cc1, _⟩ := cells_two C5.out
          go_upto_region 10 with (first
            | (go_at_call 23; ((with_reducible refine (HG1.out _ (HE0.out _ B5.out)).mono ?_); rintro e v6 ⟨rfl, hb⟩; have D6 := Lib.hid hb; have B6 := Lib.hid (B5.out.trans (hb.mono B5.out.size)); have X6 := Lib.hid (block_below X5.out hb); have Y6 := Lib.hid (block_below Y5.out hb); have M6 := Lib.hid (block_below M5.out hb); have C6 := Lib.hid (block_below C5.out hb); have PC6 := Lib.hid ((PC5.out.below hb).mono hb.size); have PM6 := Lib.hid ((PM5.out.below hb).mono hb.size); clear x0 x1 y0 y1 m0 m1' cc0 cc1 hb))
            | fail)
          have HKc : Hid (∀ W, Below v6.heap.size v6 W → W.cell? ⟨cb, 0, none⟩ = some (.int .i64 (N : Int)) ∧ W.cell? ⟨cb, 1, none⟩ = some (.slice A6 LC.length c6) ∧ W.cell? ⟨w.heap.size, 0, none⟩ = some (.int .i64 (N : Int)) ∧ W.cell? ⟨w.heap.size, 1, none⟩ = some (.slice A E.length c)) := fun W hW => ⟨(cells_two (block_below C6.out hW)).1, (cells_two (block_below C6.out hW)).2.1, (cells_two (block_below X6.out hW)).1, (cells_two (block_below X6.out hW)).2.1⟩
          have E6 : Hid (Below v6.heap.size v6 v6.drew) := Below.drew (Below.refl _ _)
          go_region_held3 (fun W => W.cell? ⟨cb, 0, none⟩ = some (.int .i64 (N : Int)) ∧ W.cell? ⟨cb, 1, none⟩ = some (.slice A6 LC.length c6) ∧ W.cell? ⟨w.heap.size, 0, none⟩ = some (.int .i64 (N : Int)) ∧ W.cell? ⟨w.heap.size, 1, none⟩ = some (.slice A E.length c))
            (with_reducible first | exact HKc.out _ E8.out | exact HKc.out _ E7.out | exact HKc.out _ E6.out | fail)
            (first
              | (go_at_call 39; ((with_reducible refine (HRo.out _ (HE0.out _ (B6.out.trans (E6.out.mono B6.out.size)))).mono ?_); rintro e v7 ⟨A7, c7, rfl, hr7, hb⟩; have E7 := Lib.hid (E6.out.trans (hb.mono E6.out.size)); have P7 := Lib.hid hr7; clear hr7 hb))
              | (go_at_call 30; ((with_reducible refine (HSc.out _ _ _ _ _ _ _ ((PC6.out.below E7.out).mono E7.out.size) P7.out (Nat.le_refl _) (Nat.le_refl _)).mono ?_); rintro e v8 ⟨rfl, hb⟩; have E8 := Lib.hid (E7.out.trans (hb.mono E7.out.size)); clear hb))
              | fail)
          have B8 := Lib.hid (B6.out.trans (E8.out.mono B6.out.size))
          have X8 := Lib.hid (block_below X6.out E8.out)
          have Y8 := Lib.hid (block_below Y6.out E8.out)
          have M8 := Lib.hid (block_below M6.out E8.out)
          have PM8 := Lib.hid ((PM6.out.below E8.out).mono E8.out.size)
          obtain ⟨x0, x1, _⟩ := cells_two X8.out
          obtain ⟨y0, y1, _⟩ := cells_two Y8.out
          obtain ⟨m0, m1', _⟩ := cells_two M8.out
          go_upto_region 17 with (first
            | (go_at_call 23; ((with_reducible refine (HG2.out _ (HF0.out _ B8.out)).mono ?_); rintro e v9 ⟨rfl, hb⟩; have E9 := Lib.hid hb; have B9 := Lib.hid (B8.out.trans (hb.mono B8.out.size)); have X9 := Lib.hid (block_below X8.out hb); have Y9 := Lib.hid (block_below Y8.out hb); have M9 := Lib.hid (block_below M8.out hb); have PM9 := Lib.hid ((PM8.out.below hb).mono hb.size); clear x0 x1 y0 y1 m0 m1' hb; obtain ⟨x0, x1, _⟩ := cells_two X9.out; obtain ⟨y0, y1, _⟩ := cells_two Y9.out; obtain ⟨m0, m1', _⟩ := cells_two M9.out))
            | fail)
          have HKd : Hid (∀ W, Below v9.heap.size v9 W → W.cell? ⟨mb, 0, none⟩ = some (.int .i64 (N : Int)) ∧ W.cell? ⟨mb, 1, none⟩ = some (.slice A5 LM.length c5) ∧ W.cell? ⟨w.heap.size, 0, none⟩ = some (.int .i64 (N : Int)) ∧ W.cell? ⟨w.heap.size, 1, none⟩ = some (.slice A E.length c) ∧ W.cell? ⟨w.heap.size + 1, 0, none⟩ = some (.int .i64 (N : Int)) ∧ W.cell? ⟨w.heap.size + 1, 1, none⟩ = some (.slice A2 F.length c2)) := fun W hW => ⟨(cells_two (block_below M9.out hW)).1, (cells_two (block_below M9.out hW)).2.1, (cells_two (block_below X9.out hW)).1, (cells_two (block_below X9.out hW)).2.1, (cells_two (block_below Y9.out hW)).1, (cells_two (block_below Y9.out hW)).2.1⟩
          have G9 : Hid (Below v9.heap.size v9 v9.drew) := Below.drew (Below.refl _ _)
          clear x0 x1 y0 y1 m0 m1'
          go_region_held3 (fun W => W.cell? ⟨mb, 0, none⟩ = some (.int .i64 (N : Int)) ∧ W.cell? ⟨mb, 1, none⟩ = some (.slice A5 LM.length c5) ∧ W.cell? ⟨w.heap.size, 0, none⟩ = some (.int .i64 (N : Int)) ∧ W.cell? ⟨w.heap.size, 1, none⟩ = some (.slice A E.length c) ∧ W.cell? ⟨w.heap.size + 1, 0, none⟩ = some (.int .i64 (N : Int)) ∧ W.cell? ⟨w.heap.size + 1, 1, none⟩ = some (.slice A2 F.length c2))
            (with_reducible first | exact HKd.out _ G11.out | exact HKd.out _ G10.out | exact HKd.out _ G9.out | fail)
            (first
              | (go_at_call 40; ((with_reducible refine (HRm.out _ (HE0.out _ (B9.out.trans (G9.out.mono B9.out.size))) (HF0.out _ (B9.out.trans (G9.out.mono B9.out.size)))).mono ?_); rintro e v10 ⟨A10, c10, rfl, hr10, hb⟩; have G10 := Lib.hid (G9.out.trans (hb.mono G9.out.size)); have P10 := Lib.hid hr10; clear hr10 hb))
              | (go_at_call 30; ((with_reducible refine (HSm.out _ _ _ _ _ _ _ ((PM9.out.below G10.out).mono G10.out.size) P10.out (Nat.le_refl _) (Nat.le_refl _)).mono ?_); rintro e v11 ⟨rfl, hb⟩; have G11 := Lib.hid (G10.out.trans (hb.mono G10.out.size)); clear hb))
              | fail)
          have HBf := Lib.hid (B9.out.trans (G11.out.mono B9.out.size))
          go_wp2
          go_ret
          exact ⟨by first | rfl | simp, HBf.out⟩
        · have HMu := Lib.hid (fun (W : World) hW hW2 => pmul_dif (N : Int) n2 E F A A2 c c2 W hW hW2 h1 h2 h3)
          have hdf : ((N : Int) != n2) = true := by rw [bne_iff_ne]; exact h3
          clear h1 h2 h3 hck hE hF
          generalize conE N E = LC at *
          go_enter Try.func9, Try.ntmps9
          go_upto_region 6 with (first
            | (go_at_call 13; ((with_reducible refine (HA.out _).mono ?_); rintro e v1 ⟨rfl, hb⟩; have B1 := Lib.hid (B0.out.trans (hb.mono B0.out.size)); have X1 := Lib.hid (block_below X0.out hb); have Y1 := Lib.hid (block_below Y0.out hb); clear x0 x1 y0 y1 hb; obtain ⟨x0, x1, _⟩ := cells_two X1.out; obtain ⟨y0, y1, _⟩ := cells_two Y1.out))
            | (go_at_call 37; ((with_reducible refine (HMu.out _ (HE0.out _ B1.out) (HF0.out _ B1.out)).mono ?_); rintro e v2 ⟨rfl, hb⟩; have B2 := Lib.hid (B1.out.trans (hb.mono B1.out.size)); have X2 := Lib.hid (block_below X1.out hb); have Y2 := Lib.hid (block_below Y1.out hb); clear x0 x1 y0 y1 hb))
            | fail)
          have M3 := Lib.hid (heap_alloc_new v2 (.cells #[.int .i64 0, .slice none 0 0] 33))
          have X3 := Lib.hid (block_alloc X2.out (.cells #[.int .i64 0, .slice none 0 0] 33))
          have Y3 := Lib.hid (block_alloc Y2.out (.cells #[.int .i64 0, .slice none 0 0] 33))
          have B3 : Hid (Below w.heap.size w (v2.alloc (.cells #[.int .i64 0, .slice none 0 0] 33))) := B2.out.alloc B2.out.size _
          generalize v2.alloc (.cells #[.int .i64 0, .slice none 0 0] 33) = v3 at *
          generalize v2.heap.size = mb at *
          obtain ⟨x0, x1, _⟩ := cells_two X3.out
          obtain ⟨y0, y1, _⟩ := cells_two Y3.out
          go_upto_region 7 with (first
            | (go_at_call 38; ((with_reducible refine (HCo.out _ (HE0.out _ B3.out)).mono ?_); rintro e v4 ⟨A6, c6, rfl, hrc, hb⟩; have B4 := Lib.hid (B3.out.trans (hb.mono B3.out.size)); have X4 := Lib.hid (block_below X3.out hb); have Y4 := Lib.hid (block_below Y3.out hb); have M4 := Lib.hid (block_below M3.out hb); have PC4 := Lib.hid hrc; clear hrc; clear x0 x1 y0 y1 hb))
            | fail)
          have C5 := Lib.hid (heap_alloc_new v4 (.cells #[.int .i64 (N : Int), .slice A6 LC.length c6] 33))
          have X5 := Lib.hid (block_alloc X4.out (.cells #[.int .i64 (N : Int), .slice A6 LC.length c6] 33))
          have Y5 := Lib.hid (block_alloc Y4.out (.cells #[.int .i64 (N : Int), .slice A6 LC.length c6] 33))
          have M5 := Lib.hid (block_alloc M4.out (.cells #[.int .i64 (N : Int), .slice A6 LC.length c6] 33))
          have B5 : Hid (Below w.heap.size w (v4.alloc (.cells #[.int .i64 (N : Int), .slice A6 LC.length c6] 33))) := B4.out.alloc B4.out.size _
          have PC5 := Lib.hid ((PC4.out.below (below1 v4 (.cells #[.int .i64 (N : Int), .slice A6 LC.length c6] 33))).mono (below1 v4 (.cells #[.int .i64 (N : Int), .slice A6 LC.length c6] 33)).size)
          generalize v4.alloc (.cells #[.int .i64 (N : Int), .slice A6 LC.length c6] 33) = v5 at *
          generalize v4.heap.size = cb at *
          obtain ⟨x0, x1, _⟩ := cells_two X5.out
          obtain ⟨y0, y1, _⟩ := cells_two Y5.out
          obtain ⟨m0, m1', _⟩ := cells_two M5.out
          obtain ⟨cc0, cc1, _⟩ := cells_two C5.out
          go_upto_region 10 with (first
            | (go_at_call 23; ((with_reducible refine (HG1.out _ (HE0.out _ B5.out)).mono ?_); rintro e v6 ⟨rfl, hb⟩; have D6 := Lib.hid hb; have B6 := Lib.hid (B5.out.trans (hb.mono B5.out.size)); have X6 := Lib.hid (block_below X5.out hb); have Y6 := Lib.hid (block_below Y5.out hb); have M6 := Lib.hid (block_below M5.out hb); have C6 := Lib.hid (block_below C5.out hb); have PC6 := Lib.hid ((PC5.out.below hb).mono hb.size); clear x0 x1 y0 y1 m0 m1' cc0 cc1 hb))
            | fail)
          have HKc : Hid (∀ W, Below v6.heap.size v6 W → W.cell? ⟨cb, 0, none⟩ = some (.int .i64 (N : Int)) ∧ W.cell? ⟨cb, 1, none⟩ = some (.slice A6 LC.length c6) ∧ W.cell? ⟨w.heap.size, 0, none⟩ = some (.int .i64 (N : Int)) ∧ W.cell? ⟨w.heap.size, 1, none⟩ = some (.slice A E.length c)) := fun W hW => ⟨(cells_two (block_below C6.out hW)).1, (cells_two (block_below C6.out hW)).2.1, (cells_two (block_below X6.out hW)).1, (cells_two (block_below X6.out hW)).2.1⟩
          have E6 : Hid (Below v6.heap.size v6 v6.drew) := Below.drew (Below.refl _ _)
          go_region_held3 (fun W => W.cell? ⟨cb, 0, none⟩ = some (.int .i64 (N : Int)) ∧ W.cell? ⟨cb, 1, none⟩ = some (.slice A6 LC.length c6) ∧ W.cell? ⟨w.heap.size, 0, none⟩ = some (.int .i64 (N : Int)) ∧ W.cell? ⟨w.heap.size, 1, none⟩ = some (.slice A E.length c))
            (with_reducible first | exact HKc.out _ E8.out | exact HKc.out _ E7.out | exact HKc.out _ E6.out | fail)
            (first
              | (go_at_call 39; ((with_reducible refine (HRo.out _ (HE0.out _ (B6.out.trans (E6.out.mono B6.out.size)))).mono ?_); rintro e v7 ⟨A7, c7, rfl, hr7, hb⟩; have E7 := Lib.hid (E6.out.trans (hb.mono E6.out.size)); have P7 := Lib.hid hr7; clear hr7 hb))
              | (go_at_call 30; ((with_reducible refine (HSc.out _ _ _ _ _ _ _ ((PC6.out.below E7.out).mono E7.out.size) P7.out (Nat.le_refl _) (Nat.le_refl _)).mono ?_); rintro e v8 ⟨rfl, hb⟩; have E8 := Lib.hid (E7.out.trans (hb.mono E7.out.size)); clear hb))
              | fail)
          have B8 := Lib.hid (B6.out.trans (E8.out.mono B6.out.size))
          have X8 := Lib.hid (block_below X6.out E8.out)
          have Y8 := Lib.hid (block_below Y6.out E8.out)
          have M8 := Lib.hid (block_below M6.out E8.out)
          obtain ⟨x0, x1, _⟩ := cells_two X8.out
          obtain ⟨y0, y1, _⟩ := cells_two Y8.out
          obtain ⟨m0, m1', _⟩ := cells_two M8.out
          go_wp2_with (first
            | (go_at_call 23; ((with_reducible refine (HG2.out _ (HF0.out _ B8.out)).mono ?_); rintro e v9 ⟨rfl, hb⟩; have E9 := Lib.hid hb; have B9 := Lib.hid (B8.out.trans (hb.mono B8.out.size)); have X9 := Lib.hid (block_below X8.out hb); have Y9 := Lib.hid (block_below Y8.out hb); have M9 := Lib.hid (block_below M8.out hb); clear x0 x1 y0 y1 m0 m1' hb; obtain ⟨x0, x1, _⟩ := cells_two X9.out; obtain ⟨y0, y1, _⟩ := cells_two Y9.out; obtain ⟨m0, m1', _⟩ := cells_two M9.out))
            | (go_at_call 30; ((with_reducible refine (HS0.out _).mono ?_); rintro e v10 ⟨rfl, hb⟩; have B10 := Lib.hid (B9.out.trans (hb.mono B9.out.size)); clear hb))
            | fail)
          go_ret
          exact ⟨by first | rfl | simp, B10.out⟩
      · have HMu := Lib.hid (fun (W : World) hW hW2 => pmul_bad2 (N : Int) n2 E F A A2 c c2 W hW hW2 h1 h2)
        have hk2 : (chkV n2 F != 0) = true := by rw [bne_iff_ne]; exact h2
        have hk3 : (chkV n2 F == 0) = false := by rw [beq_eq_false_iff_ne]; exact h2
        clear h1 h2 hck hE hF
        generalize conE N E = LC at *
        generalize chkV n2 F = K at *
        go_enter Try.func9, Try.ntmps9
        go_upto_region 6 with (first
          | (go_at_call 13; ((with_reducible refine (HA.out _).mono ?_); rintro e v1 ⟨rfl, hb⟩; have B1 := Lib.hid (B0.out.trans (hb.mono B0.out.size)); have X1 := Lib.hid (block_below X0.out hb); have Y1 := Lib.hid (block_below Y0.out hb); clear x0 x1 y0 y1 hb; obtain ⟨x0, x1, _⟩ := cells_two X1.out; obtain ⟨y0, y1, _⟩ := cells_two Y1.out))
          | (go_at_call 37; ((with_reducible refine (HMu.out _ (HE0.out _ B1.out) (HF0.out _ B1.out)).mono ?_); rintro e v2 ⟨rfl, hb⟩; have B2 := Lib.hid (B1.out.trans (hb.mono B1.out.size)); have X2 := Lib.hid (block_below X1.out hb); have Y2 := Lib.hid (block_below Y1.out hb); clear x0 x1 y0 y1 hb))
          | fail)
        have M3 := Lib.hid (heap_alloc_new v2 (.cells #[.int .i64 0, .slice none 0 0] 33))
        have X3 := Lib.hid (block_alloc X2.out (.cells #[.int .i64 0, .slice none 0 0] 33))
        have Y3 := Lib.hid (block_alloc Y2.out (.cells #[.int .i64 0, .slice none 0 0] 33))
        have B3 : Hid (Below w.heap.size w (v2.alloc (.cells #[.int .i64 0, .slice none 0 0] 33))) := B2.out.alloc B2.out.size _
        generalize v2.alloc (.cells #[.int .i64 0, .slice none 0 0] 33) = v3 at *
        generalize v2.heap.size = mb at *
        obtain ⟨x0, x1, _⟩ := cells_two X3.out
        obtain ⟨y0, y1, _⟩ := cells_two Y3.out
        go_upto_region 7 with (first
          | (go_at_call 38; ((with_reducible refine (HCo.out _ (HE0.out _ B3.out)).mono ?_); rintro e v4 ⟨A6, c6, rfl, hrc, hb⟩; have B4 := Lib.hid (B3.out.trans (hb.mono B3.out.size)); have X4 := Lib.hid (block_below X3.out hb); have Y4 := Lib.hid (block_below Y3.out hb); have M4 := Lib.hid (block_below M3.out hb); have PC4 := Lib.hid hrc; clear hrc; clear x0 x1 y0 y1 hb))
          | fail)
        have C5 := Lib.hid (heap_alloc_new v4 (.cells #[.int .i64 (N : Int), .slice A6 LC.length c6] 33))
        have X5 := Lib.hid (block_alloc X4.out (.cells #[.int .i64 (N : Int), .slice A6 LC.length c6] 33))
        have Y5 := Lib.hid (block_alloc Y4.out (.cells #[.int .i64 (N : Int), .slice A6 LC.length c6] 33))
        have M5 := Lib.hid (block_alloc M4.out (.cells #[.int .i64 (N : Int), .slice A6 LC.length c6] 33))
        have B5 : Hid (Below w.heap.size w (v4.alloc (.cells #[.int .i64 (N : Int), .slice A6 LC.length c6] 33))) := B4.out.alloc B4.out.size _
        have PC5 := Lib.hid ((PC4.out.below (below1 v4 (.cells #[.int .i64 (N : Int), .slice A6 LC.length c6] 33))).mono (below1 v4 (.cells #[.int .i64 (N : Int), .slice A6 LC.length c6] 33)).size)
        generalize v4.alloc (.cells #[.int .i64 (N : Int), .slice A6 LC.length c6] 33) = v5 at *
        generalize v4.heap.size = cb at *
        obtain ⟨x0, x1, _⟩ := cells_two X5.out
        obtain ⟨y0, y1, _⟩ := cells_two Y5.out
        obtain ⟨m0, m1', _⟩ := cells_two M5.out
        obtain ⟨cc0, cc1, _⟩ := cells_two C5.out
        go_upto_region 10 with (first
          | (go_at_call 23; ((with_reducible refine (HG1.out _ (HE0.out _ B5.out)).mono ?_); rintro e v6 ⟨rfl, hb⟩; have D6 := Lib.hid hb; have B6 := Lib.hid (B5.out.trans (hb.mono B5.out.size)); have X6 := Lib.hid (block_below X5.out hb); have Y6 := Lib.hid (block_below Y5.out hb); have M6 := Lib.hid (block_below M5.out hb); have C6 := Lib.hid (block_below C5.out hb); have PC6 := Lib.hid ((PC5.out.below hb).mono hb.size); clear x0 x1 y0 y1 m0 m1' cc0 cc1 hb))
          | fail)
        have HKc : Hid (∀ W, Below v6.heap.size v6 W → W.cell? ⟨cb, 0, none⟩ = some (.int .i64 (N : Int)) ∧ W.cell? ⟨cb, 1, none⟩ = some (.slice A6 LC.length c6) ∧ W.cell? ⟨w.heap.size, 0, none⟩ = some (.int .i64 (N : Int)) ∧ W.cell? ⟨w.heap.size, 1, none⟩ = some (.slice A E.length c)) := fun W hW => ⟨(cells_two (block_below C6.out hW)).1, (cells_two (block_below C6.out hW)).2.1, (cells_two (block_below X6.out hW)).1, (cells_two (block_below X6.out hW)).2.1⟩
        have E6 : Hid (Below v6.heap.size v6 v6.drew) := Below.drew (Below.refl _ _)
        go_region_held3 (fun W => W.cell? ⟨cb, 0, none⟩ = some (.int .i64 (N : Int)) ∧ W.cell? ⟨cb, 1, none⟩ = some (.slice A6 LC.length c6) ∧ W.cell? ⟨w.heap.size, 0, none⟩ = some (.int .i64 (N : Int)) ∧ W.cell? ⟨w.heap.size, 1, none⟩ = some (.slice A E.length c))
          (with_reducible first | exact HKc.out _ E8.out | exact HKc.out _ E7.out | exact HKc.out _ E6.out | fail)
          (first
            | (go_at_call 39; ((with_reducible refine (HRo.out _ (HE0.out _ (B6.out.trans (E6.out.mono B6.out.size)))).mono ?_); rintro e v7 ⟨A7, c7, rfl, hr7, hb⟩; have E7 := Lib.hid (E6.out.trans (hb.mono E6.out.size)); have P7 := Lib.hid hr7; clear hr7 hb))
            | (go_at_call 30; ((with_reducible refine (HSc.out _ _ _ _ _ _ _ ((PC6.out.below E7.out).mono E7.out.size) P7.out (Nat.le_refl _) (Nat.le_refl _)).mono ?_); rintro e v8 ⟨rfl, hb⟩; have E8 := Lib.hid (E7.out.trans (hb.mono E7.out.size)); clear hb))
            | fail)
        have B8 := Lib.hid (B6.out.trans (E8.out.mono B6.out.size))
        have X8 := Lib.hid (block_below X6.out E8.out)
        have Y8 := Lib.hid (block_below Y6.out E8.out)
        have M8 := Lib.hid (block_below M6.out E8.out)
        obtain ⟨x0, x1, _⟩ := cells_two X8.out
        obtain ⟨y0, y1, _⟩ := cells_two Y8.out
        obtain ⟨m0, m1', _⟩ := cells_two M8.out
        go_wp2_with (first
          | (go_at_call 23; ((with_reducible refine (HG2.out _ (HF0.out _ B8.out)).mono ?_); rintro e v9 ⟨rfl, hb⟩; have E9 := Lib.hid hb; have B9 := Lib.hid (B8.out.trans (hb.mono B8.out.size)); have X9 := Lib.hid (block_below X8.out hb); have Y9 := Lib.hid (block_below Y8.out hb); have M9 := Lib.hid (block_below M8.out hb); clear x0 x1 y0 y1 m0 m1' hb; obtain ⟨x0, x1, _⟩ := cells_two X9.out; obtain ⟨y0, y1, _⟩ := cells_two Y9.out; obtain ⟨m0, m1', _⟩ := cells_two M9.out))
          | (go_at_call 30; ((with_reducible refine (HS0.out _).mono ?_); rintro e v10 ⟨rfl, hb⟩; have B10 := Lib.hid (B9.out.trans (hb.mono B9.out.size)); clear hb))
          | fail)
        go_ret
        exact ⟨by first | rfl | simp, B10.out⟩
    · have HMu := Lib.hid (fun (W : World) hW hW2 => pmul_bad1 n n2 E F A A2 c c2 W hW hW2 h1)
      have HCo := Lib.hid (fun (W : World) hW => pconj_bad n E A c W hW h1)
      have hk2 : (chkV n E != 0) = true := by rw [bne_iff_ne]; exact h1
      clear h1 hE hF
      generalize chkV n E = K at *
      go_enter Try.func9, Try.ntmps9
      go_upto_region 6 with (first
        | (go_at_call 13; ((with_reducible refine (HA.out _).mono ?_); rintro e v1 ⟨rfl, hb⟩; have B1 := Lib.hid (B0.out.trans (hb.mono B0.out.size)); have X1 := Lib.hid (block_below X0.out hb); have Y1 := Lib.hid (block_below Y0.out hb); clear x0 x1 y0 y1 hb; obtain ⟨x0, x1, _⟩ := cells_two X1.out; obtain ⟨y0, y1, _⟩ := cells_two Y1.out))
        | (go_at_call 37; ((with_reducible refine (HMu.out _ (HE0.out _ B1.out) (HF0.out _ B1.out)).mono ?_); rintro e v2 ⟨rfl, hb⟩; have B2 := Lib.hid (B1.out.trans (hb.mono B1.out.size)); have X2 := Lib.hid (block_below X1.out hb); have Y2 := Lib.hid (block_below Y1.out hb); clear x0 x1 y0 y1 hb))
        | fail)
      have M3 := Lib.hid (heap_alloc_new v2 (.cells #[.int .i64 0, .slice none 0 0] 33))
      have X3 := Lib.hid (block_alloc X2.out (.cells #[.int .i64 0, .slice none 0 0] 33))
      have Y3 := Lib.hid (block_alloc Y2.out (.cells #[.int .i64 0, .slice none 0 0] 33))
      have B3 : Hid (Below w.heap.size w (v2.alloc (.cells #[.int .i64 0, .slice none 0 0] 33))) := B2.out.alloc B2.out.size _
      generalize v2.alloc (.cells #[.int .i64 0, .slice none 0 0] 33) = v3 at *
      generalize v2.heap.size = mb at *
      obtain ⟨x0, x1, _⟩ := cells_two X3.out
      obtain ⟨y0, y1, _⟩ := cells_two Y3.out
      go_upto_region 7 with (first
        | (go_at_call 38; ((with_reducible refine (HCo.out _ (HE0.out _ B3.out)).mono ?_); rintro e v4 ⟨rfl, hb⟩; have B4 := Lib.hid (B3.out.trans (hb.mono B3.out.size)); have X4 := Lib.hid (block_below X3.out hb); have Y4 := Lib.hid (block_below Y3.out hb); have M4 := Lib.hid (block_below M3.out hb); clear x0 x1 y0 y1 hb))
        | fail)
      have C5 := Lib.hid (heap_alloc_new v4 (.cells #[.int .i64 0, .slice none 0 0] 33))
      have X5 := Lib.hid (block_alloc X4.out (.cells #[.int .i64 0, .slice none 0 0] 33))
      have Y5 := Lib.hid (block_alloc Y4.out (.cells #[.int .i64 0, .slice none 0 0] 33))
      have M5 := Lib.hid (block_alloc M4.out (.cells #[.int .i64 0, .slice none 0 0] 33))
      have B5 : Hid (Below w.heap.size w (v4.alloc (.cells #[.int .i64 0, .slice none 0 0] 33))) := B4.out.alloc B4.out.size _
      generalize v4.alloc (.cells #[.int .i64 0, .slice none 0 0] 33) = v5 at *
      generalize v4.heap.size = cb at *
      obtain ⟨x0, x1, _⟩ := cells_two X5.out
      obtain ⟨y0, y1, _⟩ := cells_two Y5.out
      obtain ⟨m0, m1', _⟩ := cells_two M5.out
      obtain ⟨cc0, cc1, _⟩ := cells_two C5.out
      go_wp2_with (first
        | (go_at_call 23; ((with_reducible refine (HG1.out _ (HE0.out _ B5.out)).mono ?_); rintro e v6 ⟨rfl, hb⟩; have B6 := Lib.hid (B5.out.trans (hb.mono B5.out.size)); have M6 := Lib.hid (block_below M5.out hb); have C6 := Lib.hid (block_below C5.out hb); clear x0 x1 y0 y1 m0 m1' cc0 cc1 hb; obtain ⟨m0, m1', _⟩ := cells_two M6.out; obtain ⟨cc0, cc1, _⟩ := cells_two C6.out))
        | (go_at_call 30; first
            | (have _ := M6; (with_reducible refine (HS0.out _).mono ?_); rintro e v7 ⟨rfl, hb⟩; have B7 := Lib.hid (B6.out.trans (hb.mono B6.out.size)); have C7 := Lib.hid (block_below C6.out hb); clear m0 m1' cc0 cc1 hb; obtain ⟨cc0, cc1, _⟩ := cells_two C7.out; clear M6)
            | ((with_reducible refine (HS0.out _).mono ?_); rintro e v8 ⟨rfl, hb⟩; have B8 := Lib.hid (B7.out.trans (hb.mono B7.out.size)); clear cc0 cc1 hb)
            | fail)
        | fail)
      go_ret
      exact ⟨by first | rfl | simp, B8.out⟩
end Go.Proofs.Ytdbleaalpdemnaa
