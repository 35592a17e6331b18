/- The contract of the code's seconds. -/
import Derived.Test.YtgnekmaonnjfkaaNorL
import Derived.Test.YtgnekmaonnjfkaaSecM
import Derived.Laws.MakeOwn
import Derived.Laws.Rows
namespace Go.Proofs.Ytgnekmaonnjfkaa
open Go.RowKit
set_option linter.unusedVariables false

theorem Try.infoBool : (Try.prog.info? 4).map (fun i => (i.zero, i.size, i.bytes)) = some (some (.bool false), 1, 1) := by kernel_rfl
def zl (L : List Nat) : List Int := L.map fun (x : Nat) => (x : Int)
theorem zl_append (l m : List Nat) : zl (l ++ m) = zl l ++ zl m := by simp [zl]
theorem zl_length (l : List Nat) : (zl l).length = l.length := by simp [zl]
theorem own_rdn {w : World} {base : Nat} {v : Value} {L : List Nat} (h : w.ownsRow base 3 1 v L.length (zs (zl L))) : ∃ A c, v = .slice A L.length c ∧ RdZ w w.heap.size A c (zl L) := by
  have := own_rdz (F := zl L) (by rwa [zl_length])
  rwa [zl_length] at this
theorem RdZ.atn {w : World} {B c : Nat} {A : Option Addr} {L : List Nat} (h : RdZ w B A c (zl L)) {k : Nat} (hk : k < L.length) : ∃ b o, A = some ⟨b, o, none⟩ ∧ b < B ∧ w.cell? ⟨b, o + k, none⟩ = some (.int .i64 (L[k] : Int)) := by
  obtain ⟨b, o, e, hb, hc⟩ := h.at_ (k := k) (by rw [zl_length]; exact hk)
  exact ⟨b, o, e, hb, by rw [hc]; simp [zl]⟩
/-- A list of integers on the way, above the world w1. -/
structure LZ (w1 wr : World) (v : Value) (L : List Nat) : Prop where
  own : wr.ownsRow w1.heap.size 3 1 v L.length (zs (zl L))
  bel : Below w1.heap.size w1 wr
theorem LZ.start (w1 : World) : LZ w1 w1 (.slice none 0 0) [] := ⟨World.ownsRow_nil _ _ _ _, Below.refl _ _⟩
theorem LZ.drewN {w1 wr : World} {v : Value} {L : List Nat} (h : LZ w1 wr v L) (m : Nat) : LZ w1 (wr.drewN m) v L := ⟨own_low h.own fun _ _ => rfl, below_drewN h.bel m⟩
theorem LZ.app {w1 wr w3 : World} {v v' : Value} {L : List Nat} {x : Nat} {o : Obj} (h : LZ w1 wr v L)
    (hown' : w3.ownsRow w1.heap.size 3 1 v' (L.length + 1) (zs (zl L) ++ [.int .i64 (x : Int)])) (hg : (wr.alloc o).grownBy w3 v.ownBlock) : LZ w1 w3 v' (L ++ [x]) := by
  have h1 := h.bel.size
  exact ⟨by rw [List.length_append, zl_append, zs_append]; exact hown', (h.bel.alloc h1 o).grown hg (by simp; omega) (fun j hj => by have := (h.own.lt j hj).1; omega)⟩
theorem bool_ne {wr : World} {v : Value} {B b g n : Nat} {xs : List Value} {f : Nat → Value} (hown : wr.ownsRow B 3 1 v n xs) (hrow : wr.rowIs b 4 g f) : some b ≠ v.ownBlock := by
  intro e
  obtain ⟨_, hn | ⟨g', cap', cur, hv, _, hg2, _⟩⟩ := hown
  · rw [hn.1] at e; cases e
  · subst hv
    injection e with e
    subst e
    obtain ⟨c, hc, _⟩ := hrow
    rw [hc] at hg2
    injection hg2 with h2
    injection h2 with _ h3
    exact absurd h3 (by decide)
theorem LZ.appRow {w1 wr w3 : World} {v v' : Value} {L : List Nat} {x : Nat} {o : Obj} {b g : Nat} {f : Nat → Value} (h : LZ w1 wr v L) (hrow : wr.rowIs b 4 g f)
    (hown' : w3.ownsRow w1.heap.size 3 1 v' (L.length + 1) (zs (zl L) ++ [.int .i64 (x : Int)])) (hg : (wr.alloc o).grownBy w3 v.ownBlock) : LZ w1 w3 v' (L ++ [x]) ∧ w3.rowIs b 4 g f := by
  refine ⟨h.app hown' hg, hrow.of_block ?_⟩
  rw [hg.block b (by have := hrow.lt; simp; omega) (bool_ne h.own hrow), Below.heap_alloc _ _ _ hrow.lt]
theorem LZ.setSeen {w1 wr : World} {v : Value} {L : List Nat} {b g i : Nat} {f : Nat → Value} {u : Value} (h : LZ w1 wr v L) (hrow : wr.rowIs b 4 g f) (hb : w1.heap.size ≤ b) : LZ w1 (wr.setCell ⟨b, i, none⟩ u) v L := by
  refine ⟨h.own.kept (row := some b) ⟨rfl, rfl, rfl, by simp, fun k _ hk => Below.heap_setCell wr ⟨b, i, none⟩ u k (fun e => hk (by rw [e]))⟩ (.inr fun e => bool_ne h.own hrow e.symm), h.bel.setCell hb _⟩
theorem gcdn_any (a b : Nat) (w : World) (ha : (a : Int) ≤ 120) (hb : (b : Int) ≤ 120) : Calls Try.prog 32 #[.int .i64 (a : Int), .int .i64 (b : Int)] w fun e w' => e = .returned (.int .i64 (Nat.gcd a b : Nat)) ∧ ∃ n, w' = w.drewN n := by
  have := gcd_any (a : Int) (b : Int) w (by unfold Mid; omega) (by unfold Mid; omega)
  rwa [show Int.gcd (a : Int) (b : Int) = Nat.gcd a b from rfl] at this
theorem fix_lt {n u t : Nat} (h : t ∈ fixN n u) : t < n := (mem_fix.1 h).1.1
set_option maxHeartbeats 6400000 in
set_option maxRecDepth 1000000 in
theorem seconds_any (n u : Nat) {A : Option Addr} {c : Nat} (w : World) (n1 : 1 ≤ n) (n2 : (n : Int) ≤ 120) (hu1 : u < n) (hu : u = 0 ∨ u ∣ n) (hr : RdZ w w.heap.size A c (zl (unitsN n))) :
    Calls Try.prog 50 #[.int .i64 (n : Int), .int .i64 (u : Int), .slice A (unitsN n).length c] w fun e w' => ∃ A' c', e = .returned (.slice A' (row n u).length c') ∧
      w'.ownsRow w.heap.size 3 1 (.slice A' (row n u).length c') (row n u).length (zs (zl (row n u))) ∧ Below w.heap.size w w' := by
  obtain ⟨i0, hi, z0, z1, z2⟩ := info_parts Try.infoInt
  obtain ⟨i1, hj, y0, y1, y2⟩ := info_parts Try.infoBool
  have hmk : ∀ W : World, (Instr.makeSlice 84 (.int .i64 (n : Int)) (.int .i64 (n : Int))).run Try.prog W = .ok (.slice (some ⟨W.heap.size, 0, none⟩) n n) (W.alloc (.cells (madeCells #[.bool false] n) 4)) := fun W => by
    have h := run_make (P := Try.prog) W 84 4 i1 (.bool false) Try.underlying84 hj y0 .i64 .i64 (n : Int) (n : Int) (by omega) (by omega) (by rw [y2]; omega) (by omega)
    rw [show ((n : Int)).toNat = n by omega, y1, Nat.mul_one] at h
    exact h
  have HMK := Lib.hid hmk
  clear hj y0 y1 y2 hmk
  have HR := Lib.hid hr
  have HU := Lib.hid hu
  have hDl := units_len n
  have HDm : Hid (∀ (k : Nat) (h : k < (unitsN n).length), (unitsN n)[k] < n) := fun k h => (mem_units.1 (List.getElem_mem h)).1
  have HF : Hid (((unitsN n).take (unitsN n).length).filter (fun t => t * u % n == u) = fixN n u) := by rw [List.take_length]; rfl
  have HN1 : Hid (1 ≤ n) := n1
  have n1i : 1 ≤ (n : Int) := by omega
  have u1i : (u : Int) < (n : Int) := by omega
  clear hr hu
  obtain ⟨D, hD⟩ : ∃ D, D = unitsN n := ⟨_, rfl⟩
  rw [← hD] at HR hDl HDm HF ⊢
  clear hD
  go_enter Try.func50, Try.ntmps50
  go_wp2
  go_loopw [7, 9, 18] (fun V _ I wr => ∃ (A' : Option Addr) (c' k : Nat), I = .int .i64 k ∧ V = .slice A' ((D.take k).filter (fun t => t * u % n == u)).length c' ∧ k ≤ D.length ∧ Hid (LZ w wr (.slice A' ((D.take k).filter (fun t => t * u % n == u)).length c') ((D.take k).filter (fun t => t * u % n == u)))) (fun _ _ I _ => D.length - (intOf I).toNat)
  case atStart => exact ⟨none, 0, 0, rfl, rfl, Nat.zero_le _, LZ.start w⟩
  case round =>
    obtain ⟨A', c', k, rfl, rfl, hk, HL⟩ := hrel
    by_cases hlt : k < D.length
    · have hlti : (k : Int) < (D.length : Int) := by omega
      obtain ⟨b, o, rfl, hb, hc0⟩ := (HR.out.below HL.out.bel).atn hlt
      have hsz := HL.out.bel.size
      have HT := Lib.hid (filter_take_succ (fun t => t * u % n == u) D k hlt)
      have htn := HDm.out k hlt
      have hFl : ((D.take k).filter (fun t => t * u % n == u)).length ≤ 120 := Nat.le_trans (List.length_filter_le _ _) (by rw [List.length_take]; omega)
      generalize D[k] = t at *
      generalize (D.take k).filter (fun t => t * u % n == u) = F at *
      obtain ⟨p0, p1⟩ := prod_bd (show (0 : Int) ≤ t by omega) (by omega) (show (0 : Int) ≤ u by omega) (by omega)
      have hcm : (t : Int) * (u : Int) % (n : Int) = ((t * u % n : Nat) : Int) := cast_mm t u n
      by_cases hf : t * u % n = u
      · have HT2 : Hid ((D.take (k + 1)).filter (fun t => t * u % n == u) = F ++ [t]) := by rw [Hid] at HT ⊢; rw [HT, if_pos (by simpa using hf)]
        have hb1 : ((t : Int) * (u : Int) % (n : Int) == (u : Int)) = true := by rw [beq_iff_eq, hcm]; omega
        have hown := HL.out.own
        clear HT hf hcm
        go_wp2_with (first
          | (at_builtin; (refine wpList_append_own _ rfl _ _ 73 rfl w.heap.size 3 i0 (.int .i64 0) 1 8 Try.underlying73 hi z0 z1 z2 rfl (by decide) _ _ _ rfl (hown.alloc _) ⟨wr.heap.size, 0, none⟩ 1 1 [.int .i64 (t : Int)] rfl rfl (cell_one_new' _ _ _) (fun x hx => by simp at hx; rw [hx]; rfl) (by unfold maxLen; omega) (by omega) (by simp; omega) ?_); intro v' w3 hown' hgrow3 hnil3; obtain ⟨A2, c2, rfl⟩ := own_len hown'; have HN := Lib.hid (HL.out.app hown' hgrow3); clear hown' hgrow3 hnil3)
          | fail)
        go_roundw
        case rel => exact ⟨A2, c2, k + 1, by go_num, by rw [HT2.out, List.length_append]; rfl, hlt, by rw [HT2.out, List.length_append]; exact HN.out⟩
        case measure => simp [intOf]; omega
      · have HT2 : Hid ((D.take (k + 1)).filter (fun t => t * u % n == u) = F) := by rw [Hid] at HT ⊢; rw [HT, if_neg (by simpa using hf)]
        have hb1 : ((t : Int) * (u : Int) % (n : Int) == (u : Int)) = false := by rw [beq_eq_false_iff_ne, hcm]; omega
        clear HT hf hcm
        go_wp2_with fail
        go_roundw
        case rel => exact ⟨A', c', k + 1, by go_num, by rw [HT2.out], hlt, by rw [HT2.out]; exact HL.out⟩
        case measure => simp [intOf]; omega
    · obtain rfl : k = D.length := by omega
      rw [HF.out] at HL ⊢
      have hn3 : ¬ (D.length : Int) < (D.length : Int) := by omega
      obtain ⟨A0, c0, hv0, hrF⟩ := own_rdn HL.out.own
      obtain ⟨rfl, rfl⟩ : A' = A0 ∧ c' = c0 := by simpa using hv0
      have HRF := Lib.hid hrF
      have HBF := Lib.hid HL.out.bel
      have HFm : Hid (∀ (i : Nat) (h : i < (fixN n u).length), (fixN n u)[i] < n) := fun i h => fix_lt (List.getElem_mem h)
      have hFl := fix_len n u
      have HY : Hid (∀ v, v < n → sn n u v v = false → Nat.gcd (Nat.gcd u n) v = 1 → rwv n u (v + 1) = rwv n u v ++ [v] ∧ ∀ j, sn n u (v + 1) j = (sn n u v j || ((fixN n u).take (fixN n u).length).any fun t => t * v % n == j)) := fun v hv hs hg => by rw [List.take_length]; exact sec_yes n1 hu1 HU.out hv hs hg
      have HN : Hid (∀ v, v < n → (sn n u v v = true ∨ ¬ Nat.gcd (Nat.gcd u n) v = 1) → rwv n u (v + 1) = rwv n u v ∧ ∀ j, sn n u (v + 1) j = sn n u v j) := fun v hv h => sec_no n1 hu1 HU.out hv h
      have HG := Lib.hid (fun W => gcdn_any u n W (by omega) n2)
      have hG : Nat.gcd u n ≤ n := Nat.gcd_le_right _ (by omega)
      clear hv0 hrF HL HR HDm HF HU hDl hu1
      generalize fixN n u = F at *
      generalize Nat.gcd u n = G at *
      obtain ⟨w1, rfl⟩ : ∃ w1 : World, w1 = wr := ⟨_, rfl⟩
      have hmk := HMK.out
      go_upto_region 11 with (first
        | (go_at_call 32; ((with_reducible refine (HG.out _).mono ?_); rintro e w' ⟨rfl, q1, rfl⟩))
        | fail)
      have HS1 : Hid (LZ w1 ((w1.alloc (.cells (madeCells #[.bool false] n) 4)).drewN q1) (.slice none 0 0) []) := ⟨World.ownsRow_nil _ _ _ _, below_drewN (below1 _ _) q1⟩
      have HR1 : Hid (((w1.alloc (.cells (madeCells #[.bool false] n) 4)).drewN q1).rowIs w1.heap.size 4 n (fun _ => .bool false)) := World.rowIs.of_block (World.rowIs_made w1 (.bool false) n 4) rfl
      clear hmk HMK HG
      generalize (w1.alloc (.cells (madeCells #[.bool false] n) 4)).drewN q1 = W0 at *
      have hbb : w1.heap.size ≤ w1.heap.size := Nat.le_refl _
      generalize hbs : w1.heap.size = b at *
      rw [← hbs] at hbb
      go_wp2
      go_loopw [10, 13, 15, 40] (fun V _ _ I wi => ∃ (A2 : Option Addr) (c2 v : Nat), I = .int .i64 v ∧ V = .slice A2 (rwv n u v).length c2 ∧ v ≤ n ∧ Hid (LZ w1 wi (.slice A2 (rwv n u v).length c2) (rwv n u v)) ∧ Hid (wi.rowIs b 4 n (fun j => .bool (sn n u v j)))) (fun _ _ _ I _ => n - (intOf I).toNat)
      case atStart => exact ⟨none, 0, 0, rfl, rfl, Nat.zero_le _, HS1.out, HR1.out⟩
      case round =>
        clear HS1 HR1
        obtain ⟨A2, c2, v, rfl, rfl, hvn, HL, HR⟩ := hrel
        obtain ⟨wo, rfl⟩ : ∃ wo : World, wo = wr := ⟨_, rfl⟩
        by_cases hv : v < n
        · have hvi : (v : Int) < (n : Int) := by omega
          have hcs := HR.out.cell (i := v) hv
          have hb1 : b < wo.heap.size := HR.out.lt
          have HG2 := Lib.hid (fun W => gcdn_any G v W (by omega) (by omega))
          have hrl := rwv_len n u v
          cases hs : sn n u v v with
          | true =>
            rw [hs] at hcs
            obtain ⟨e1, e2⟩ := HN.out v hv (.inl hs)
            have E1 := Lib.hid e1
            have E2 := Lib.hid e2
            clear e1 e2 hs
            go_wp2_with fail
            go_roundw
            case rel => exact ⟨A2, c2, v + 1, by go_num, by rw [E1.out], hv, by rw [E1.out]; exact HL.out, World.rowIs.congr HR.out (fun j _ => by rw [E2.out])⟩
            case measure => simp [intOf]; omega
          | false =>
            rw [hs] at hcs
            by_cases hg : Nat.gcd G v = 1
            · obtain ⟨e1, e2⟩ := HY.out v hv hs hg
              have E1 := Lib.hid e1
              have E2 := Lib.hid e2
              rw [hg] at HG2
              clear e1 e2 hs hg
              go_upto_region 15 with (first
                | (go_at_call 32; ((with_reducible refine (HG2.out _).mono ?_); rintro e w' ⟨rfl, q2, rfl⟩))
                | fail)
              have HL2 := Lib.hid (HL.out.drewN q2)
              have HR2 : Hid ((wo.drewN q2).rowIs b 4 n (fun j => .bool (sn n u v j))) := World.rowIs.of_block HR.out rfl
              clear HL HR hcs
              obtain ⟨W2, hW2⟩ : ∃ W2, W2 = wo.drewN q2 := ⟨_, rfl⟩
              rw [← hW2] at HL2 HR2 ⊢
              clear hW2
              have hown := HL2.out.own
              have hsz2 := HL2.out.bel.size
              obtain ⟨R, hR⟩ : ∃ R, R = rwv n u v := ⟨_, rfl⟩
              rw [← hR] at HL2 hown hrl E1 ⊢
              clear hR
              go_wp2_with (first
                | (at_builtin; (refine wpList_append_own _ rfl _ _ 73 rfl w1.heap.size 3 i0 (.int .i64 0) 1 8 Try.underlying73 hi z0 z1 z2 rfl (by decide) _ _ _ rfl (hown.alloc _) ⟨W2.heap.size, 0, none⟩ 1 1 [.int .i64 (v : Int)] rfl rfl (cell_one_new' _ _ _) (fun x hx => by simp at hx; rw [hx]; rfl) (by unfold maxLen; omega) (by omega) (by simp; omega) ?_); intro v' w3 hown' hgrow3 hnil3; obtain ⟨A3, c3, rfl⟩ := own_len hown'; have HNx := Lib.hid (HL2.out.appRow HR2.out hown' hgrow3); clear hown' hgrow3 hnil3)
                | fail)
              have HL3 := Lib.hid HNx.out.1
              have HR3 := Lib.hid HNx.out.2
              clear HNx HL2 HR2 hown
              go_loopw [15, 59] (fun _ I wz => ∃ i : Nat, I = .int .i64 i ∧ i ≤ F.length ∧ Hid (LZ w1 wz (.slice A3 (R.length + 1) c3) (R ++ [v])) ∧ Hid (wz.rowIs b 4 n (fun j => .bool (sn n u v j || (F.take i).any fun t => t * v % n == j)))) (fun _ I _ => F.length - (intOf I).toNat)
              case atStart => exact ⟨0, rfl, Nat.zero_le _, HL3.out, World.rowIs.congr HR3.out (fun j _ => by simp)⟩
              case round =>
                clear HL3 HR3
                obtain ⟨i, rfl, hi2, HL3, HR3⟩ := hrel
                by_cases hif : i < F.length
                · have hifi : (i : Int) < (F.length : Int) := by omega
                  obtain ⟨bf, of_, rfl, hbf, hc0⟩ := (HRF.out.below (show Below b w1 wr by rw [← hbs]; exact HL3.out.bel)).atn hif
                  have ht := HFm.out i hif
                  have HT := Lib.hid (fun (j : Nat) => any_take_succ (fun t => t * v % n == j) F i hif)
                  generalize F[i] = t at *
                  obtain ⟨p0, p1⟩ := prod_bd (show (0 : Int) ≤ t by omega) (by omega) (show (0 : Int) ≤ v by omega) (by omega)
                  have hcm : (t : Int) * (v : Int) % (n : Int) = ((t * v % n : Nat) : Int) := cast_mm t v n
                  have hrn : t * v % n < n := Nat.mod_lt _ (by omega)
                  obtain ⟨r, hr⟩ : ∃ r, r = t * v % n := ⟨_, rfl⟩
                  rw [← hr] at hcm hrn
                  have hrni : (r : Int) < (n : Int) := by omega
                  have hcs := HR3.out.cell (i := r) hrn
                  have hfz := HR3.out.frozen r
                  have hbw : b < wr.heap.size := HR3.out.lt
                  have HLn := Lib.hid (HL3.out.setSeen (i := r) (u := .bool true) HR3.out (by omega))
                  have HRn : Hid ((wr.setCell ⟨b, r, none⟩ (.bool true)).rowIs b 4 n (fun j => .bool (sn n u v j || (F.take (i + 1)).any fun t => t * v % n == j))) :=
                    World.rowIs.congr (World.rowIs.set HR3.out r (.bool true)) (fun j _ => by
                      rw [HT.out j, ← hr]
                      by_cases e : j = r
                      · subst e; simp
                      · have hrj : (r == j) = false := by rw [beq_eq_false_iff_ne]; exact Ne.symm e
                        rw [if_neg e, hrj, Bool.or_false])
                  clear HT hr HL3 HR3
                  go_wp2_with fail
                  go_roundw
                  case rel => exact ⟨i + 1, by go_num, hif, HLn.out, HRn.out⟩
                  case measure => simp [intOf]; omega
                · obtain rfl : i = F.length := by omega
                  have hi3 : ¬ (F.length : Int) < (F.length : Int) := by omega
                  go_wp2_with fail
                  go_roundw
                  case rel => exact ⟨A3, c3, v + 1, by go_num, by rw [E1.out, List.length_append]; rfl, hv, by rw [E1.out, List.length_append]; exact HL3.out, World.rowIs.congr HR3.out (fun j _ => by rw [E2.out])⟩
                  case measure => simp [intOf]; omega
            · obtain ⟨e1, e2⟩ := HN.out v hv (.inr hg)
              have E1 := Lib.hid e1
              have E2 := Lib.hid e2
              obtain ⟨z, hz⟩ : ∃ z : Int, z = (Nat.gcd G v : Nat) := ⟨_, rfl⟩
              have hz1 : (z != 1) = true := by rw [bne_iff_ne]; omega
              rw [← hz] at HG2
              clear e1 e2 hs hg hz
              go_wp2_with (first
                | (go_at_call 32; ((with_reducible refine (HG2.out _).mono ?_); rintro e w' ⟨rfl, q2, rfl⟩))
                | fail)
              go_roundw
              case rel => exact ⟨A2, c2, v + 1, by go_num, by rw [E1.out], hv, by rw [E1.out]; exact HL.out.drewN q2, World.rowIs.congr (World.rowIs.of_block HR.out rfl) (fun j _ => by rw [E2.out])⟩
              case measure => simp [intOf]; omega
        · obtain rfl : v = n := by omega
          have hv3 : ¬ (v : Int) < (v : Int) := by omega
          rw [rwv_row] at HL ⊢
          go_wp2
          refine bodyPost_ret (v := .slice A2 (row v u).length c2) ?_ rfl ⟨A2, c2, rfl, own_base (by have := HBF.out.size; omega) HL.out.own, HBF.out.trans (HL.out.bel.mono HBF.out.size)⟩
          simp [results, Try.results50, go_sem, *]
end Go.Proofs.Ytgnekmaonnjfkaa
