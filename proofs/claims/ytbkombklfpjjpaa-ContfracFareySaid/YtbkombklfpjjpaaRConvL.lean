/- The contract of the reference's Convergents. -/
import Derived.Test.YtbkombklfpjjpaaConvX
import Derived.Deep.DeepCutAuto
namespace Go.Proofs.Ytbkombklfpjjpaa
open Go.RowKit

theorem CS.alloc {B : Nat} {w0 wr : World} {v : Value} {bp bq lp lq : Int} {C : List (Int × Int)} (h : CS B w0 wr v bp bq lp lq C) (o : Obj) : CS B w0 (wr.alloc o) v bp bq lp lq C :=
  ⟨block_alloc h.bef o, block_alloc h.las o, h.own.alloc _, h.bel.alloc (by have := h.size; omega) o⟩
/-- Behind an append to an own row, a block that is no part of it is as it was. -/
theorem high_grown {w w' : World} {g : Nat} {o p : Obj} {v : Value} {B : Nat} (h : w.heap[g]? = some o) (hv : ∀ j, v.ownBlock = some j → j < B) (hg : (w.alloc p).grownBy w' v.ownBlock) (hB : B ≤ g) : w'.heap[g]? = some o := by
  have h1 : (w.alloc p).heap[g]? = some o := block_alloc h p
  refine (hg.block g (lt_of_block h1) ?_).trans h1
  intro k
  have := hv g k.symm
  omega
set_option maxHeartbeats 6400000 in
set_option maxRecDepth 1000000 in
theorem rconv_any {l : List Int} {c : Nat} {A : Option Addr} (w : World) (h1 : RdZ w w.heap.size A c l) :
    Calls Try.prog 19 #[.slice A l.length c] w fun e w' => ∃ A' c', e = .returned (.tuple #[.slice A' (cvl l).length c', .int .i64 (cvI l)]) ∧
      w'.ownsRow w.heap.size 23 2 (.slice A' (cvl l).length c') (cvl l).length (cs (cvl l)) ∧ Below w.heap.size w w' := by
  have hl := h1.len
  have H1 := Lib.hid h1
  clear h1
  by_cases h0 : l = []
  · subst h0
    rw [cvI_nil, cvl_nil]
    go_enter Try.func19, Try.ntmps19
    go_wp2
    refine bodyPost_ret (v := .tuple #[.slice none 0 0, .int .i64 3]) ?_ rfl ⟨none, 0, rfl, World.ownsRow_nil _ _ _ _, Below.refl _ _⟩
    simp [results, Try.results19, go_sem, *]
  have hln : 0 < l.length := List.length_pos_iff.2 h0
  have hlz : ((l.length : Int) == 0) = false := by rw [beq_eq_false_iff_ne]; omega
  have HF : Hid (elB l = false → cvI l = 2 ∧ cvl l = []) := cvI_form h0
  rcases Nat.lt_or_ge 64 l.length with h64 | h64
  · obtain ⟨e1, e2⟩ := HF.out (elB_long h64)
    have hd : (64 : Int) < (l.length : Int) := by omega
    rw [e1, e2]
    clear e1 e2
    go_enter Try.func19, Try.ntmps19
    go_wp2
    refine bodyPost_ret (v := .tuple #[.slice none 0 0, .int .i64 2]) ?_ rfl ⟨none, 0, rfl, World.ownsRow_nil _ _ _ _, Below.refl _ _⟩
    simp [results, Try.results19, go_sem, *]
  have hd : (l.length : Int) ≤ 64 := by omega
  have HK : Hid (ElK l l.length → ∀ C, cvg 0 1 1 0 l = some C → cvI l = 0 ∧ cvl l = C) := fun hE C h => cvI_ok h0 (elB_yes h64 hE) h
  have HL : Hid (ElK l l.length → cvg 0 1 1 0 l = none → cvI l = 7 ∧ cvl l = []) := fun hE h => cvI_large h0 (elB_yes h64 hE) h
  obtain ⟨i0, hi, z0, z1, z2⟩ := info_parts Try.infoCusp
  have HEB := Lib.hid (fun k (h : k < l.length) => elB_at h)
  obtain ⟨I, hI⟩ : ∃ I, I = cvI l := ⟨_, rfl⟩
  obtain ⟨L, hL⟩ : ∃ L, L = cvl l := ⟨_, rfl⟩
  rw [← hI, ← hL] at HF HK HL ⊢
  clear hI hL h0 h64
  go_enter Try.func19, Try.ntmps19
  go_wp2
  go_loopw [4] (fun i wr => ∃ (k n : Nat), k ≤ l.length ∧ i = .int .i64 k ∧ Hid (ElK l k) ∧ wr = w.drewN n) (fun i _ => l.length - (intOf i).toNat)
  case atStart => exact ⟨0, 0, Nat.zero_le _, rfl, fun j _ h => by omega, rfl⟩
  case round =>
    obtain ⟨k, n, hk, rfl, HE, rfl⟩ := hrel
    by_cases hlt : k < l.length
    · obtain ⟨b1, o1, rfl, _, x1⟩ := H1.out.at_ hlt
      have hlt2 : (k : Int) < (l.length : Int) := by omega
      have y1 := fun N => (show (w.drewN N).cell? ⟨b1, o1 + k, none⟩ = _ from x1)
      clear x1
      have HN := Lib.hid (HE.out.next hlt)
      have HX := Lib.hid (fun h => HF.out (HEB.out k hlt h))
      generalize l[k] = q at *
      clear HK HL HF HEB hln hlz
      have HI := Lib.hid (fun W => rIn_any q W)
      cases hi : inE q with
      | false =>
        have HQ := Lib.hid (HX.out (by rw [hi]; simp))
        rw [hi] at HI
        clear HX HN hi
        go_wp2_with (first
          | (go_at_call 41; ((with_reducible refine (HI.out _).mono ?_); rintro e w1 ⟨rfl, rfl⟩))
          | fail)
        refine bodyPost_ret (v := .tuple #[.slice none 0 0, .int .i64 2]) ?_ rfl ⟨none, 0, by rw [HQ.out.1, HQ.out.2]; rfl, by rw [HQ.out.2]; exact World.ownsRow_nil _ _ _ _, below_drewN (Below.refl _ _) _⟩
        simp [results, Try.results19, go_sem, *]
      | true =>
        rw [hi] at HI
        by_cases hk0 : k = 0
        · have HN2 := Lib.hid (HN.out hi (fun h => absurd hk0 (by omega)))
          have hk1 : (k : Int) ≤ 0 := by omega
          clear HN HX hi hk0
          go_wp2_with (first
          | (go_at_call 41; ((with_reducible refine (HI.out _).mono ?_); rintro e w1 ⟨rfl, rfl⟩))
          | fail)
          go_roundw
          case rel => exact ⟨k + 1, _, hlt, by go_num, HN2.out, rfl⟩
          case measure => simp [intOf]; omega
        have hk1 : (0 : Int) < (k : Int) := by omega
        rcases Int.lt_or_le q 1 with a3 | a3
        · have HQ := Lib.hid (HX.out (fun h => by have := h.2 (by omega); omega))
          clear HN HX hi
          go_wp2_with (first
            | (go_at_call 41; ((with_reducible refine (HI.out _).mono ?_); rintro e w1 ⟨rfl, rfl⟩))
            | fail)
          refine bodyPost_ret (v := .tuple #[.slice none 0 0, .int .i64 2]) ?_ rfl ⟨none, 0, by rw [HQ.out.1, HQ.out.2]; rfl, by rw [HQ.out.2]; exact World.ownsRow_nil _ _ _ _, below_drewN (Below.refl _ _) _⟩
          simp [results, Try.results19, go_sem, *]
        · have HN2 := Lib.hid (HN.out hi (fun _ => a3))
          clear HN HX hi
          go_wp2_with (first
            | (go_at_call 41; ((with_reducible refine (HI.out _).mono ?_); rintro e w1 ⟨rfl, rfl⟩))
            | fail)
          go_roundw
          case rel => exact ⟨k + 1, _, hlt, by go_num, HN2.out, rfl⟩
          case measure => simp [intOf]; omega
    · have hkl : k = l.length := by omega
      subst hkl
      clear hk hlt HEB hln hlz
      have HKC := Lib.hid (HK.out HE.out)
      have HLC := Lib.hid (HL.out HE.out)
      clear HK HL HF
      have HB1 : Hid (Below w.heap.size w (w.drewN n)) := below_drewN (Below.refl _ w) n
      have H3 : Hid (RdZ (w.drewN n) (w.drewN n).heap.size A c l) := H1.out.drew n
      have HZ : Hid ((w.drewN n).heap.size = w.heap.size) := rfl
      clear H1
      generalize w.drewN n = w1 at *
      go_wp2
      go_loopw [8, 5, 9] (fun i v _ wr => ∃ (k : Nat) (bp bq lp lq : Int) (C : List (Int × Int)), i = .int .i64 k ∧ Hid (Cvs l k bp bq lp lq C) ∧ Hid (CS w1.heap.size w1 wr v bp bq lp lq C)) (fun i _ _ _ => l.length - (intOf i).toNat)
      case atStart => exact ⟨0, 0, 1, 1, 0, [], rfl, Cvs.start l, CS.start _⟩
      case round =>
        obtain ⟨k, bp, bq, lp, lq, C, rfl, HV, HS⟩ := hrel
        have hk := HV.out.hk
        by_cases hlt : k < l.length
        · obtain ⟨b1, o1, rfl, hb1, x1⟩ := H3.out.at_ hlt
          have hlt2 : (k : Int) < (l.length : Int) := by omega
          have y1 := (HS.out.bel.cell (p := ⟨b1, o1 + k, none⟩) hb1).trans x1
          clear x1
          obtain ⟨hin, hpos⟩ := HE.out k hlt hlt
          have HN := Lib.hid (HV.out.next hlt hpos)
          have HLL := Lib.hid (HV.out.large hlt)
          obtain ⟨p1, p2, p3, p4⟩ := prod_in hin HV.out.l0 HV.out.b0
          obtain ⟨q1, q2, q3, q4⟩ := prod_in hin HV.out.l1 HV.out.b1
          generalize l[k] = n at *
          obtain ⟨⟨u0, u1⟩, uf⟩ := two_of_block HS.out.bef
          obtain ⟨⟨v0, v1⟩, vf⟩ := two_of_block HS.out.las
          have hsz := HS.out.size
          obtain ⟨hz3, hz4, hz5⟩ : w1.heap.size < wr.heap.size ∧ w1.heap.size + 1 < wr.heap.size ∧ b1 < wr.heap.size := by omega
          have HOW : Hid (∀ j, u5.ownBlock = some j → j < wr.heap.size) := fun j hj => (HS.out.own.lt j hj).2
          go_upto_region 15 with fail
          go_cut [9] (fun s9 wx => ∃ (W2 : World) (g9 : Nat), W2 = wx ∧ s9 = .pointer (some ⟨g9, 0, none⟩) ∧ Hid (CS w1.heap.size w1 W2 u5 bp bq lp lq C) ∧ Hid (W2.heap[g9]? = some (.cells #[.int .i64 (n * lp + bp), .int .i64 (n * lq + bq)] 23 (0, 0))) ∧ Hid (∀ j, u5.ownBlock = some j → j < g9) ∧ Hid (w1.heap.size + 2 ≤ g9))
          case first =>
            go_region
            go_wp2_with fail
            go_meet
            exact ⟨_, wr.heap.size, rfl, rfl, (HS.out.alloc (.cells #[.int .i64 (n * lp + bp), .int .i64 (n * lq + bq)] 23)).drew, heap_alloc_new wr _, HOW.out, hsz⟩
          case rest =>
          obtain ⟨W2, g9, hW2, rfl, HS2, HT, HO9, HZ9⟩ := hcut
          subst hW2
          have hgt := lt_of_block HT.out
          clear u0 u1 uf v0 v1 vf y1 HS p1 p2 p3 p4 q1 q2 q3 q4 hz3 hz4 hz5 hpos hin hsz HOW
          generalize n * lp + bp = P at *
          generalize n * lq + bq = Q at *
          have HB2 := Lib.hid HS2.out.bel
          obtain ⟨⟨v0, v1⟩, vf⟩ := two_of_block HT.out
          have hz9 := HZ9.out
          have hown := HS2.out.own
          have hsz2 := HS2.out.size
          have hlen := HV.out.len
          have hL64 : l.length ≤ 64 := by omega
          have HIP := Lib.hid (fun W => rIn_any P W)
          have HIQ := Lib.hid (fun W => rIn_any Q W)
          cases hp : inE P with
          | false =>
            have e1 := Lib.hid (HLC.out (HLL.out (by rw [hp]; simp)))
            rw [hp] at HIP
            clear HN HLL HLC HKC hp
            go_wp2_with (first
              | (go_at_call 41; ((with_reducible first | refine (HIP.out _).mono ?_ | refine (HIQ.out _).mono ?_ | fail); rintro e wx ⟨rfl, rfl⟩))
              | fail)
            refine bodyPost_ret (v := .tuple #[.slice none 0 0, .int .i64 7]) ?_ rfl ⟨none, 0, by rw [e1.out.1, e1.out.2]; rfl, by rw [e1.out.2]; exact World.ownsRow_nil _ _ _ _, HB1.out.trans (HB2.out.mono (by have := HZ.out; omega))⟩
            simp [results, Try.results19, go_sem, *]
          | true =>
            rw [hp] at HIP
            cases hq : inE Q with
            | false =>
              have e1 := Lib.hid (HLC.out (HLL.out (by rw [hq]; simp)))
              rw [hq] at HIQ
              clear HN HLL HLC HKC hp hq
              go_wp2_with (first
                | (go_at_call 41; ((with_reducible first | refine (HIP.out _).mono ?_ | refine (HIQ.out _).mono ?_ | fail); rintro e wx ⟨rfl, rfl⟩))
                | fail)
              refine bodyPost_ret (v := .tuple #[.slice none 0 0, .int .i64 7]) ?_ rfl ⟨none, 0, by rw [e1.out.1, e1.out.2]; rfl, by rw [e1.out.2]; exact World.ownsRow_nil _ _ _ _, HB1.out.trans (HB2.out.mono (by have := HZ.out; omega))⟩
              simp [results, Try.results19, go_sem, *]
            | true =>
              have HN2 := Lib.hid (HN.out hp hq)
              rw [hq] at HIQ
              clear HN HLL HLC HKC hp hq
              go_upto_region 19 with (first
                | (go_at_call 41; ((with_reducible first | refine (HIP.out _).mono ?_ | refine (HIQ.out _).mono ?_ | fail); rintro e wx ⟨rfl, rfl⟩))
                | (at_builtin; (refine wpList_append_own _ rfl _ _ 35 rfl (w1.heap.size + 2) 23 i0 (.agg #[.int .i64 0, .int .i64 0]) 2 16 Try.underlying35 hi z0 z1 z2 rfl (by decide) _ _ _ rfl (hown.alloc _) ⟨W2.heap.size, 0, none⟩ 1 1 [.int .i64 P, .int .i64 Q] rfl rfl (cell_two_new _ _ _ _) (fun x hx => by simp at hx; rcases hx with hx | hx <;> (rw [hx]; rfl)) (by unfold maxLen; omega) (by omega) (by simp; omega) ?_); intro v' w3 hown' hgrow3 hnil3; have HR := Lib.hid (HS2.out.app hown' hgrow3); have HT3 := Lib.hid (high_grown HT.out HO9.out hgrow3 (Nat.le_refl _)); clear hown' hgrow3 hnil3)
                | fail)
              clear v0 v1 vf hown hsz2
              obtain ⟨⟨v0, v1⟩, vf⟩ := two_of_block HT3.out
              obtain ⟨⟨t0, t1⟩, tf⟩ := two_of_block HR.out.las
              obtain ⟨⟨u0, u1⟩, uf⟩ := two_of_block HR.out.bef
              have hsz2 := HR.out.size
              have hgt3 := lt_of_block HT3.out
              go_region
              have HR2 := Lib.hid (HR.out.set P Q).drew
              go_wp2
              go_roundw
              case rel => exact ⟨k + 1, lp, lq, P, Q, C ++ [(P, Q)], by go_num, HN2.out, HR2.out⟩
              case measure => simp [intOf]; omega
        · have hkl : k = l.length := by omega
          subst hkl
          have e1 := Lib.hid (HKC.out C HV.out.done)
          obtain ⟨A', c', rfl⟩ := own_len HS.out.own
          go_wp2
          refine bodyPost_ret (v := .tuple #[.slice A' C.length c', .int .i64 0]) ?_ rfl ⟨A', c', by rw [e1.out.1, e1.out.2], by rw [e1.out.2]; exact own_base (by have := HZ.out; omega) HS.out.own, HB1.out.trans (HS.out.bel.mono (by have := HZ.out; omega))⟩
          simp [results, Try.results19, go_sem, *]
end Go.Proofs.Ytbkombklfpjjpaa
