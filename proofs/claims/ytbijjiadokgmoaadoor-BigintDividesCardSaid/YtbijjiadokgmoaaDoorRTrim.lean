/- Contracts of the reference's trim, Norm and signed. -/
import Derived.Test.YtbijjiadokgmoaaDoorSameR
import Derived.Test.YtbijjiadokgmoaaDoorAbsI
import Derived.Test.YtbijjiadokgmoaaDoorWords
import Derived.Laws.AppendOwnNone
import Derived.Maps.AppendAt
namespace Go.Proofs.YtbijjiadokgmoaaDoor
open Go.RowKit

theorem rd_news {w : World} {B c b o m : Nat} {ds : List Nat} (h : Rd w B (some ⟨b, o, none⟩) c ds) : ∀ j u, (dval (ds.take m))[j]? = some u → w.cell? ((⟨b, o, none⟩ : Addr).add j) = some u := by
  intro j u hj
  rw [dval, List.getElem?_map] at hj
  rcases Nat.lt_or_ge j (ds.take m).length with h1 | h1
  · rw [List.getElem?_eq_getElem h1] at hj
    simp only [Option.map_some, Option.some.injEq] at hj
    have h2 : j < ds.length := by rw [List.length_take] at h1; omega
    obtain ⟨b', o', e, _, hc⟩ := h.at_ h2
    injection e with e
    injection e with e1 e2
    subst e1; subst e2
    rw [show (⟨b, o, none⟩ : Addr).add j = ⟨b, o + j, none⟩ by unfold Addr.add; split <;> simp_all, hc, ← hj, List.getElem_take]
  · rw [List.getElem?_eq_none h1] at hj; cases hj
/-- The digits that append has copied into a row of its own. -/
theorem mag_of_row {w w' : World} {v' : Value} {r m : Nat} {news : List Value} (hn : news = dval (digs r)) (hm : m = (digs r).length) (ho : w'.ownsRow w.heap.size 64 1 v' (0 + m) ([] ++ news)) (hb : Below w.heap.size w w') : MagRet w r (.returned v') w' := by
  subst hn hm
  rw [Nat.zero_add, List.nil_append] at ho
  obtain ⟨_, ⟨h1, h2⟩ | ⟨g, cap, cur, hv, hbg, hg, hnc, hcm, hs, ht⟩⟩ := ho
  · have h3 : digs r = [] := List.eq_nil_of_length_eq_zero (by simpa using h2)
    refine ⟨none, 0, by rw [h1, h3]; rfl, by rw [h3]; exact Rd.nil _ _, (fun a ha => by cases ha), hb⟩
  · have ho := own_of_row hbg (dgs_digs r) hg rfl hnc hs ht
    exact ⟨some ⟨g, 0, none⟩, cap, by rw [hv], ho.rd hnc hcm ho.lt, fun a ha => by injection ha with ha; rw [← ha]; exact hbg, hb⟩

set_option maxHeartbeats 800000 in
set_option maxRecDepth 1000000 in
theorem rtrim_none {c : Nat} (w : World) :
    Calls Tryd.prog 62 #[.slice none 0 c] w (MagRet w 0) := by
  go_enter Tryd.func62, Tryd.ntmps62
  go_wp2
  refine wp_loop_rounds 1 ?_
  rw [rounds_succ]
  go_wp2
  go_ret
  exact ⟨some ⟨w.heap.size, 0, none⟩, 0, by rw [digs_zero]; rfl, by rw [digs_zero]; exact ⟨dgs_nil, Nat.le_refl _, by unfold maxLen; omega, fun h => absurd h (by simp), fun a ha => by injection ha with ha; exact ⟨_, _, ha.symm⟩⟩, fun a ha => by injection ha with ha; rw [← ha]; exact Nat.le_refl _, (Below.refl _ _).alloc (Nat.le_refl _) _⟩

set_option maxHeartbeats 1600000 in
set_option maxRecDepth 1000000 in
theorem rtrim_some {B b o c : Nat} {ds : List Nat} (w : World) (h : Rd w B (some ⟨b, o, none⟩) c ds) (hB : B ≤ w.heap.size) (hn : ds.length ≤ 1000000) :
    Calls Tryd.prog 62 #[.slice (some ⟨b, o, none⟩) ds.length c] w (MagRet w (val ds)) := by
  obtain ⟨i0, hi, hz0, hz1, hz2⟩ := info_parts Tryd.infoU
  have hlc := h.2.1
  have hcm := h.2.2.1
  unfold maxLen at hcm
  have hni : (ds.length : Int) ≤ 1000000 := by omega
  have HNEW : Hid (∀ m W, Below w.heap.size w W → ∀ j u, (dval (ds.take m))[j]? = some u → W.cell? ((⟨b, o, none⟩ : Addr).add j) = some u) := fun m W hb => rd_news (h.below (hb.mono hB))
  have HR := Lib.hid h
  clear h
  go_enter Tryd.func62, Tryd.ntmps62
  go_wp2
  go_loop [3] (fun I => ∃ k : Nat, I = .int .i64 k ∧ k ≤ ds.length ∧ Hid (∀ j (_ : j < ds.length), k ≤ j → ds[j] = 0)) (fun I => (intOf I).toNat)
  case atStart => exact ⟨ds.length, rfl, Nat.le_refl _, fun j hj hk => absurd hj (by omega)⟩
  case round =>
    obtain ⟨k, rfl, hk, HZ⟩ := hrel
    have HFIN : Hid (digs (val ds) = ds.take k → ∀ v' w', w'.ownsRow w.heap.size 64 1 v' (0 + k) ([] ++ dval (ds.take k)) → (w.alloc (.cells #[] 64)).grownBy w' (some w.heap.size) → MagRet w (val ds) (.returned v') w') := fun hd v' w' ho hg => by
      have hb : Below w.heap.size w w' := (((Below.refl _ _).alloc (Nat.le_refl _) (.cells #[] 64)).grown hg (by simp) (fun k hk => by injection hk with hk; omega))
      rw [← hd] at ho
      exact mag_of_row (m := k) rfl (by rw [hd, List.length_take]; omega) ho hb
    have HOW : Hid ((w.alloc (.cells #[] 64)).ownsRow w.heap.size 64 1 (.slice (some ⟨w.heap.size, 0, none⟩) 0 0) 0 []) := World.ownsRow_made w #[] 0 (Nat.le_refl _) (by unfold maxLen; omega) rfl
    have HLN : Hid ((dval (ds.take k)).length = k * 1) := by show _ = _; simp [dval]; omega
    cases k with
    | zero =>
      have HE : Hid (digs (val ds) = ds.take 0) := (take_trim HR.out.dgs (Nat.zero_le _) (fun j hj _ => HZ.out j hj (Nat.zero_le _)) (fun j _ hj => absurd hj (by omega))).symm
      go_wp2_with (at_builtin; (refine wpList_append_own_at _ rfl _ _ 22 rfl w.heap.size 64 i0 (.int .u32 0) 1 4 Tryd.underlying22 hi hz0 hz1 hz2 rfl (by decide) _ _ _ rfl HOW.out ⟨b, o, none⟩ 0 _ (dval (ds.take 0)) rfl HLN.out (HNEW.out 0 _ ((Below.refl _ _).alloc (Nat.le_refl _) _)) (fun x hx => by obtain ⟨d, _, rfl⟩ := List.mem_map.1 hx; rfl) (by unfold maxLen; omega) (by omega) (by simp) ?_); intro v' w1 hown' hgrow' hnil' hblk; have HF := Lib.hid (HFIN.out HE.out v' w1 hown' hgrow'); clear hown' hgrow' hnil' hblk)
      go_ret
      exact HF.out
    | succ k =>
      by_cases hz : ds[k] = 0
      · obtain ⟨b', o', e, hb, hc⟩ := HR.out.at_ (k := k) (by omega)
        injection e with e
        injection e with e1 e2
        subst e1; subst e2
        have hzb : ((ds[k] : Int) == 0) = true := by rw [hz]; rfl
        have HZ2 : Hid (∀ j (_ : j < ds.length), k ≤ j → ds[j] = 0) := fun j hj hkj => by
          rcases Nat.eq_or_lt_of_le hkj with e | e
          · subst e; exact hz
          · exact HZ.out j hj (by omega)
        clear hz
        generalize ds[k] = d at *
        go_wp2
        go_round
        case rel => exact ⟨k, by go_num, by omega, HZ2⟩
        case measure => simp [intOf]
      · obtain ⟨b', o', e, hb, hc⟩ := HR.out.at_ (k := k) (by omega)
        injection e with e
        injection e with e1 e2
        subst e1; subst e2
        have hzb : ((ds[k] : Int) == 0) = false := by rw [beq_eq_false_iff_ne]; omega
        have HE : Hid (digs (val ds) = ds.take (k + 1)) := by
          refine (take_trim HR.out.dgs hk (fun j hj hkj => HZ.out j hj hkj) ?_).symm
          intro j hj hjk
          obtain rfl : j = k := by omega
          exact hz
        clear hz
        generalize ds[k] = d at *
        go_wp2_with (at_builtin; (refine wpList_append_own_at _ rfl _ _ 22 rfl w.heap.size 64 i0 (.int .u32 0) 1 4 Tryd.underlying22 hi hz0 hz1 hz2 rfl (by decide) _ _ _ rfl HOW.out ⟨b, o, none⟩ (k + 1) _ (dval (ds.take (k + 1))) rfl HLN.out (HNEW.out (k + 1) _ ((Below.refl _ _).alloc (Nat.le_refl _) _)) (fun x hx => by obtain ⟨d, _, rfl⟩ := List.mem_map.1 hx; rfl) (by unfold maxLen; omega) (by omega) (by simp) ?_); intro v' w1 hown' hgrow' hnil' hblk; have HF := Lib.hid (HFIN.out HE.out v' w1 hown' hgrow'); clear hown' hgrow' hnil' hblk)
        go_ret
        exact HF.out

theorem rtrim_any {B c : Nat} {A : Option Addr} {ds : List Nat} (w : World) (h : Rd w B A c ds) (hB : B ≤ w.heap.size) (hn : ds.length ≤ 1000000) :
    Calls Tryd.prog 62 #[.slice A ds.length c] w (MagRet w (val ds)) := by
  cases A with
  | none =>
    have hd : ds = [] := by
      rcases Nat.eq_zero_or_pos ds.length with h0 | h0
      · exact List.eq_nil_of_length_eq_zero h0
      · obtain ⟨b, o, e, _⟩ := h.at_ h0; cases e
    subst hd
    exact rtrim_none w
  | some a =>
    obtain ⟨b, o, rfl⟩ := h.2.2.2.2 a rfl
    exact rtrim_some w h hB hn
end Go.Proofs.YtbijjiadokgmoaaDoor
