/- Long division: what one round knows of the first digits. The contract of subtractMultiple. The contract of divideByDigits: Knuth's algorithm D. -/
import Derived.Test.YtbijjiadokgmoaaDoorDivE
import Derived.Test.YtbijjiadokgmoaaDoorAddMul
import Derived.Test.YtbijjiadokgmoaaDoorSub
import Derived.Test.YtbijjiadokgmoaaDoorSum
import Derived.Test.YtbijjiadokgmoaaDoorProdD
import Derived.Test.YtbijjiadokgmoaaDoorDivS
import Derived.Test.YtbijjiadokgmoaaDoorRingSt
import Derived.Test.YtbijjiadokgmoaaDoorRMul
import Derived.Deep.RegionWith
namespace Go.Proofs.YtbijjiadokgmoaaDoor

theorem val_top2 {l : List Nat} {n : Nat} (h : l.length = n + 2) : val l = val (l.take n) + 4294967296 ^ n * (l[n + 1] * 4294967296 + l[n]) := by
  rw [val_split l n (by omega), val_drop (by omega), val_drop (k := n + 1) (by omega), List.drop_eq_nil_of_le (by omega)]
  simp only [val, Nat.mul_zero, Nat.add_zero]
  rw [Nat.add_comm l[n], Nat.mul_comm 4294967296 l[n + 1]]
theorem val_top3 {l : List Nat} {n : Nat} (h : l.length = n + 3) : val l = val (l.take n) + 4294967296 ^ n * ((l[n + 2] * 4294967296 + l[n + 1]) * 4294967296 + l[n]) := by
  rw [val_split l n (by omega), val_drop (by omega), val_drop (k := n + 1) (by omega), val_drop (k := n + 2) (by omega), List.drop_eq_nil_of_le (by omega)]
  simp only [val, Nat.mul_zero, Nat.add_zero]
  congr 2
  omega
theorem low_part {l : List Nat} (h : Dgs l) {n : Nat} (hn : n ≤ l.length) : val (l.take n) < 4294967296 ^ n := by
  have := val_lt (h.take n)
  rwa [List.length_take, Nat.min_eq_left hn] at this
/-- The first digits of the part are not above the first of the divisor. -/
theorem top_le {p y : List Nat} {n : Nat} (hy : y.length = n + 2) (hp : p.length = n + 3) (yd : Dgs y) (h : val (p.drop 1) < val y) : p[n + 2] ≤ y[n + 1] := by
  have e1 := val_split (p.drop 1) (n + 1) (by rw [List.length_drop]; omega)
  rw [List.drop_drop, show 1 + (n + 1) = n + 2 by omega, val_drop (k := n + 2) (by omega), show p.drop (n + 2 + 1) = [] from List.drop_eq_nil_of_le (by omega)] at e1
  simp only [val, Nat.mul_zero, Nat.add_zero] at e1
  have e2 := val_split y (n + 1) (by omega)
  rw [val_drop (k := n + 1) (by omega), show y.drop (n + 1 + 1) = [] from List.drop_eq_nil_of_le (by omega)] at e2
  simp only [val, Nat.mul_zero, Nat.add_zero] at e2
  have e3 := low_part yd (n := n + 1) (by omega)
  rcases Nat.lt_or_ge y[n + 1] p[n + 2] with h1 | h1
  · exfalso
    have h2 : 4294967296 ^ (n + 1) * (y[n + 1] + 1) ≤ 4294967296 ^ (n + 1) * p[n + 2] := Nat.mul_le_mul_left _ h1
    rw [Nat.mul_succ] at h2
    generalize 4294967296 ^ (n + 1) = K at *
    generalize K * p[n + 2] = P at *
    generalize K * y[n + 1] = R at *
    omega
  · exact h1
/-- What a round's estimate rests on. -/
theorem round_est {p y : List Nat} {n : Nat} (hy : y.length = n + 2) (hp : p.length = n + 3) (yd : Dgs y) (pd : Dgs p) (h1 : val p < 4294967296 * val y) (hy1 : 2147483648 ≤ y[n + 1]) :
    val p / val y < 4294967296 ∧ (val p / val y) * (y[n + 1] * 4294967296 + y[n]) ≤ (p[n + 2] * 4294967296 + p[n + 1]) * 4294967296 + p[n] ∧
    ∀ d, d < 4294967296 → d * (y[n + 1] * 4294967296 + y[n]) ≤ (p[n + 2] * 4294967296 + p[n + 1]) * 4294967296 + p[n] → d ≤ val p / val y + 1 := by
  have ey := val_top2 hy
  have ep := val_top3 hp
  have ly := low_part yd (n := n) (by omega)
  have lp := low_part pd (n := n) (by omega)
  have hy0 : 0 < val y := Nat.pos_of_ne_zero fun e => by rw [e] at h1; exact absurd h1 (by rw [Nat.mul_zero]; exact Nat.not_lt_zero _)
  refine ⟨Nat.div_lt_of_lt_mul (by rw [Nat.mul_comm]; exact h1), ?_, fun d hd hle => ?_⟩
  · refine est_low lp ?_ (K := 4294967296 ^ n) (yl := val (y.take n))
    rw [← ey, ← ep]
    exact Nat.div_mul_le_self _ _
  · refine est_up ly ?_ hle ?_ (pl := val (p.take n))
    · rw [← ey, ← ep]
      have := Nat.div_add_mod (val p) (val y)
      have h3 := Nat.mod_lt (val p) hy0
      rw [Nat.mul_comm, Nat.mul_succ]
      omega
    · omega
theorem DivSt.top {X m j : Nat} {y U Q : List Nat} (h : DivSt X y U Q m (j + 1)) : val (((U.drop j).take (y.length + 1)).drop 1) < val y := by
  rw [List.drop_take, List.drop_drop, Nat.add_sub_cancel]
  have h1 := h.low
  have h2 : val ((U.drop (j + 1)).take y.length) ≤ val (U.drop (j + 1)) := by
    rcases Nat.lt_or_ge y.length (U.drop (j + 1)).length with hl | hl
    · rw [val_split (U.drop (j + 1)) y.length (by omega)]; exact Nat.le_add_right _ _
    · rw [List.take_of_length_le hl]; exact Nat.le_refl _
  omega
/-- The same, each digit by its value. -/
theorem round_all {p y : List Nat} {n N : Nat} (hN : N = n + 2) (hy : y.length = N) (hp : p.length = N + 1) (yd : Dgs y) (pd : Dgs p) (h1 : val p < 4294967296 * val y) (hy1 : ∀ h : n + 1 < y.length, 2147483648 ≤ y[n + 1]) (htop : val (p.drop 1) < val y) :
    ∃ y1 y0 u2 u1 u0 : Nat, y[n + 1]? = some y1 ∧ y[n]? = some y0 ∧ p[N]? = some u2 ∧ p[n + 1]? = some u1 ∧ p[n]? = some u0 ∧ 2147483648 ≤ y1 ∧ u2 ≤ y1 ∧ y1 < 4294967296 ∧ y0 < 4294967296 ∧ u1 < 4294967296 ∧ u0 < 4294967296 ∧
    val p / val y < 4294967296 ∧ (val p / val y) * (y1 * 4294967296 + y0) ≤ (u2 * 4294967296 + u1) * 4294967296 + u0 ∧
    ∀ d, d < 4294967296 → d * (y1 * 4294967296 + y0) ≤ (u2 * 4294967296 + u1) * 4294967296 + u0 → d ≤ val p / val y + 1 := by
  subst hN
  have hp' : p.length = n + 3 := hp
  have a1 : n + 1 < y.length := by omega
  have a2 : n + 2 < p.length := by omega
  have a3 : n + 1 < p.length := by omega
  have a4 : n < p.length := by omega
  have a5 : n < y.length := by omega
  obtain ⟨e1, e2, e3⟩ := round_est hy hp' yd pd h1 (hy1 a1)
  exact ⟨y[n + 1], y[n], p[n + 2], p[n + 1], p[n], List.getElem?_eq_getElem a1, List.getElem?_eq_getElem a5, List.getElem?_eq_getElem a2, List.getElem?_eq_getElem a3, List.getElem?_eq_getElem a4, hy1 a1, top_le hy hp' yd htop, yd.get a1, yd.get a5, pd.get a3, pd.get a4, e1, e2, e3⟩
/-- Behind the subtraction, where nothing was borrowed. -/
theorem round_ok {p y ui : List Nat} {d : Nat} (hy0 : 0 < val y) (hl : ui.length = y.length + 1) (ud : Dgs ui) (h1 : val p / val y ≤ d) (h2 : d ≤ val p / val y + 1) (h : val ui + d * val y = val p + 4294967296 ^ (y.length + 1) * 0) :
    d = val p / val y ∧ val ui = val p % val y := by
  have hR := val_lt ud
  rw [hl] at hR
  exact (digit_right hy0 rfl h1 h2 _ hR (by omega) h).1 rfl
theorem round_borrow {p y ui : List Nat} {d : Nat} (hy0 : 0 < val y) (hl : ui.length = y.length + 1) (ud : Dgs ui) (h1 : val p / val y ≤ d) (h2 : d ≤ val p / val y + 1) (h : val ui + d * val y = val p + 4294967296 ^ (y.length + 1) * 1) : d = val p / val y + 1 := by
  have hR := val_lt ud
  rw [hl] at hR
  exact ((digit_right hy0 rfl h1 h2 _ hR (by omega) h).2 rfl).1
/-- Behind the subtraction, where something was borrowed: the divisor is added back. -/
theorem round_back {p y ui lo : List Nat} {d c hi : Nat} (hy0 : 0 < val y) (yd : Dgs y) (hl : ui.length = y.length + 1) (ud : Dgs ui) (h1 : val p / val y ≤ d) (h2 : d ≤ val p / val y + 1) (h : val ui + d * val y = val p + 4294967296 ^ (y.length + 1) * 1)
    (hll : lo.length = y.length) (ld : Dgs lo) (hhi : hi = ui[y.length]) (ha : val lo + 4294967296 ^ y.length * c = val (ui.take y.length) + val y) :
    0 < d ∧ d - 1 = val p / val y ∧ val (lo ++ [(hi + c) % 4294967296]) = val p % val y := by
  have hR := val_lt ud
  rw [hl] at hR
  obtain ⟨e1, e2⟩ := (digit_right hy0 rfl h1 h2 _ hR (by omega) h).2 rfl
  refine ⟨by rw [e1]; exact Nat.succ_pos _, by rw [e1]; rfl, ?_⟩
  have hlo := val_lt ld
  rw [hll] at hlo
  have hRm : val p % val y < 4294967296 ^ y.length := Nat.lt_trans (Nat.mod_lt _ hy0) (val_lt yd)
  have e3 := val_split ui y.length (by omega)
  rw [val_drop (by omega), List.drop_eq_nil_of_le (by omega), ← hhi] at e3
  simp only [val, Nat.mul_zero, Nat.add_zero] at e3
  rw [val_append, hll]
  simp only [val, Nat.mul_zero, Nat.add_zero]
  refine add_back hlo ha ?_ hRm
  rw [Nat.pow_succ] at e2
  rw [← e3]
  exact e2
end Go.Proofs.YtbijjiadokgmoaaDoor
namespace Go.Proofs.YtbijjiadokgmoaaDoor
open Go.RowKit

/-- What subtractMultiple leaves. -/
def SubMRet (w : World) (g o d : Nat) (us ys : List Nat) (e : Ending) (w' : World) : Prop :=
  ∃ (n : Nat) (ui : List Nat) (t : Bool), e = .returned (.bool t) ∧ (t = true ∧ n = 1 ∨ t = false ∧ n = 0) ∧ ui.length = us.length ∧ val ui + d * val ys = val us + 4294967296 ^ (ys.length + 1) * n ∧ Own w' g o ui ∧ Wrote w w' g o (o + us.length)

set_option maxHeartbeats 1600000 in
set_option maxRecDepth 1000000 in
theorem subMul_any {B g o d c1 c2 : Nat} {A2 : Option Addr} {us ys : List Nat} (w : World) (hz : Own w g o us) (hy : Rd w B A2 c2 ys) (hB : B ≤ g) (hlen : us.length = ys.length + 1) (hn : us.length ≤ 1000000) (hd : d < 4294967296) :
    Calls Tryd.prog 130 #[.slice (some ⟨g, o, none⟩) us.length c1, .slice A2 ys.length c2, .int .u32 d] w (SubMRet w g o d us ys) := by
  have hgw := hz.lt
  have hl2 := hy.2.1
  have HZ := Lib.hid hz
  have HY := Lib.hid hy
  have HL := Lib.hid hlen
  have hlen1 : us.length ≤ ys.length + 1 := by omega
  have hlen2 : ys.length + 1 ≤ us.length := by omega
  clear hz hy hlen
  go_enter Tryd.func130, Tryd.ntmps130
  go_wp2
  go_loopw [7, 8, 9, 10, 11, 15] (fun C BO _ _ _ I wr => ∃ (k c bo : Nat) (ui : List Nat), I = .int .i64 k ∧ C = .int .u64 c ∧ BO = .int .u32 bo ∧ k ≤ ys.length ∧ c < 4294967296 ∧ bo ≤ 1 ∧ Hid (SubM us ys d ui k c bo) ∧ Hid (Own wr g o ui) ∧ Hid (Wrote w wr g o (o + us.length))) (fun _ _ _ _ _ I _ => ys.length - (intOf I).toNat)
  case atStart => exact ⟨0, 0, 0, us, rfl, rfl, rfl, Nat.zero_le _, by omega, by omega, SubM.start ys d HZ.out.dgs, HZ.out, Wrote.refl _ _ _ _⟩
  case round =>
    obtain ⟨k, c, bo, ui, rfl, rfl, rfl, hk, hc, hbo, HA, HO, HW⟩ := hrel
    by_cases hlt : k < ys.length
    · have hlti : (k : Int) < (ys.length : Int) := by omega
      have hzl := HA.out.up.len
      have hkz : k < ui.length := by omega
      have hkzi : (k : Int) < (us.length : Int) := by omega
      have HY2 := Lib.hid (HY.out.wrote HW.out hB (by omega))
      obtain ⟨b, p, rfl, _, hcy⟩ := HY2.out.at_ hlt
      have hcz := HO.out.cell hkz
      have hfz := HO.out.free (o + k)
      have hd1 := HO.out.dgs.get hkz
      have hd2 := HY2.out.dgs.get hlt
      have HG := Lib.hid (HA.out.up.get (i := k) (by omega))
      have HGY : Hid (ys.getD k 0 = ys[k]) := by show _ = _; rw [List.getD_eq_getElem?_getD, List.getElem?_eq_getElem hlt]; rfl
      have HST : Hid (∀ s lo c' b' : Nat, s < 4294967296 → b' ≤ 1 → c' < 4294967296 → ys[k] * d + c = lo + 4294967296 * c' → s + lo + bo = ui[k] + 4294967296 * b' → SubM us ys d (ui.set k s) (k + 1) c' b') := fun s lo c' b' hs hb' hc' hw hq =>
        HA.out.step (by omega) hs hb' hc' (by rw [HGY.out]; exact hw) (by rw [← HG.out]; exact hq)
      have HOS : Hid (∀ s : Nat, s < 4294967296 → Own (wr.setCell ⟨g, o + k, none⟩ (.int .u32 (s : Int))) g o (ui.set k s)) := fun s hs => HO.out.setCell hkz hs
      have HWS : Hid (∀ u : Value, Wrote w (wr.setCell ⟨g, o + k, none⟩ u) g o (o + us.length)) := fun u => HW.out.setCell (by omega) (by omega) u
      have hlt1 : ys[k] * d ≤ 4294967295 * 4294967295 := Nat.mul_le_mul (by omega) (by omega)
      clear HG HGY
      generalize ui[k] = x at *
      generalize ys[k] = y at *
      have e1 : IntKind.u64.wrap ((y : Int) * (d : Int)) = ((y * d : Nat) : Int) := u64_mul hd2 hd
      have e2 : IntKind.u64.wrap (((y * d : Nat) : Int) + (c : Int)) = ((y * d + c : Nat) : Int) := by rw [← Int.natCast_add]; exact IntWalk.u64_in _ (by omega)
      generalize y * d = p' at *
      have hlo : (p' + c) % 4294967296 < 4294967296 := Nat.mod_lt _ (by omega)
      have hhi : (p' + c) / 4294967296 < 4294967296 := by omega
      have hw : p' + c = (p' + c) % 4294967296 + 4294967296 * ((p' + c) / 4294967296) := (Nat.mod_add_div _ _).symm
      obtain ⟨lo, hlo'⟩ : ∃ lo, (p' + c) % 4294967296 = lo := ⟨_, rfl⟩
      obtain ⟨hi, hhi'⟩ : ∃ hi, (p' + c) / 4294967296 = hi := ⟨_, rfl⟩
      rw [hlo', hhi'] at hw
      rw [hlo'] at hlo
      rw [hhi'] at hhi
      have e3 : IntKind.u32.wrap ((p' : Int) + (c : Int)) = (lo : Int) := by rw [IntKind.wrap_u32]; omega
      have e3' : ((p' : Int) + (c : Int)) % 4294967296 = (lo : Int) := by omega
      have e4 : ((p' : Int) + (c : Int)) / 4294967296 = (hi : Int) := by omega
      have HSTW : Hid (∀ s b' : Nat, s < 4294967296 → b' ≤ 1 → s + lo + bo = x + 4294967296 * b' → SubM us ys d (ui.set k s) (k + 1) hi b') := fun s b' hs hb' hq => HST.out s lo hi b' hs hb' hhi hw hq
      have HC := Lib.hid (fun W => sub32_any x lo bo W hd1 hlo hbo)
      clear hlo' hhi' hw HST hlt1
      go_wp2_with (go_at_call 115; ((with_reducible refine (HC.out _).mono ?_); rintro e w' ⟨rfl, rfl⟩))
      go_roundw
      case rel => exact ⟨k + 1, hi, sbr x lo bo, ui.set k (sdf x lo bo), by go_num, rfl, rfl, hlt, hhi, sbr_le _ _ _, HSTW.out _ _ (sdf_lt _ _ _) (sbr_le _ _ _) (sbr_eq hd1 hlo hbo), HOS.out (sdf x lo bo) (sdf_lt _ _ _), HWS.out _⟩
      case measure => simp [intOf]; omega
    · have hn1 : ¬ (k : Int) < (ys.length : Int) := by omega
      obtain rfl : k = ys.length := by omega
      have hzl := HA.out.up.len
      have hkz : ys.length < ui.length := by omega
      have hkzi : (ys.length : Int) < (us.length : Int) := by omega
      have hcz := HO.out.cell hkz
      have hfz := HO.out.free (o + ys.length)
      have hd1 := HO.out.dgs.get hkz
      have HG := Lib.hid (HA.out.up.get (i := ys.length) (by omega))
      have HFIN : Hid (∀ s b' : Nat, s < 4294967296 → s + c + bo = ui[ys.length] + 4294967296 * b' → val (ui.set ys.length s) + d * val ys = val us + 4294967296 ^ (ys.length + 1) * b') := fun s b' hs hq =>
        HA.out.done HL.out hs (by rw [← HG.out]; exact hq)
      have HOS : Hid (∀ s : Nat, s < 4294967296 → Own (wr.setCell ⟨g, o + ys.length, none⟩ (.int .u32 (s : Int))) g o (ui.set ys.length s)) := fun s hs => HO.out.setCell hkz hs
      have HWS : Hid (∀ u : Value, Wrote w (wr.setCell ⟨g, o + ys.length, none⟩ u) g o (o + us.length)) := fun u => HW.out.setCell (by omega) (by omega) u
      have HLN : Hid (∀ s : Nat, (ui.set ys.length s).length = us.length) := fun s => by rw [List.length_set]; exact hzl
      clear HG
      generalize ui[ys.length] = x at *
      have HC := Lib.hid (fun W => sub32_any x c bo W hd1 hc hbo)
      have HEQ := Lib.hid (sbr_eq hd1 hc hbo)
      have e3 : IntKind.u32.wrap (c : Int) = (c : Int) := by rw [IntKind.wrap_u32]; omega
      have e3' : (c : Int) % 4294967296 = (c : Int) := by omega
      clear hzl
      have hsl := sbr_le x c bo
      obtain ⟨n, hn'⟩ : ∃ n, sbr x c bo = n := ⟨_, rfl⟩
      rw [hn'] at HC HEQ hsl
      clear hn'
      rcases (show n = 0 ∨ n = 1 by omega) with rfl | rfl
      · go_wp2_with (go_at_call 115; ((with_reducible refine (HC.out _).mono ?_); rintro e w' ⟨rfl, rfl⟩))
        go_ret
        exact ⟨0, ui.set ys.length (sdf x c bo), false, rfl, .inr ⟨rfl, rfl⟩, HLN.out _, HFIN.out _ _ (sdf_lt _ _ _) HEQ.out, HOS.out _ (sdf_lt _ _ _), HWS.out _⟩
      · go_wp2_with (go_at_call 115; ((with_reducible refine (HC.out _).mono ?_); rintro e w' ⟨rfl, rfl⟩))
        go_ret
        exact ⟨1, ui.set ys.length (sdf x c bo), true, rfl, .inl ⟨rfl, rfl⟩, HLN.out _, HFIN.out _ _ (sdf_lt _ _ _) HEQ.out, HOS.out _ (sdf_lt _ _ _), HWS.out _⟩
end Go.Proofs.YtbijjiadokgmoaaDoor
namespace Go.Proofs.YtbijjiadokgmoaaDoor
open Go.RowKit

theorem splice_x0 (X : List Nat) : (splice (List.replicate (X.length + 1) (.int .u32 0)) 0 (dval X)) = dval (X ++ [0]) := by
  rw [splice_start]; simp [dval]
theorem own_dval {w : World} {g : Nat} {X : List Nat} (hd : Dgs X) (h : w.heap[g]? = some (.cells (dval X).toArray 64 (0, 0))) : Own w g 0 X := by
  refine ⟨hd, _, h, by simp [dval], fun k hk => ?_⟩
  rw [Nat.zero_add, List.getElem?_toArray, dval, List.getElem?_map, List.getElem?_eq_getElem hk]
  rfl
theorem Own.far2 {w : World} {g g' : Nat} {zs : List Nat} (h : Own w g 0 zs) (hne : g ≠ g') (o : Nat) (u : Value) : Own (w.setCell ⟨g', o, none⟩ u) g 0 zs := h.keep (Below.heap_setCell w ⟨g', o, none⟩ u g hne)
theorem Gr.setOne {w W : World} (h : Gr w W) {g : Nat} (hg : w.heap.size ≤ g) (o : Nat) (x : Value) : Gr w (W.setCell ⟨g, o, none⟩ x) := Below.setCell h (by show w.heap.size ≤ g; exact hg) _
theorem Own.cellq {w : World} {g o k d : Nat} {zs : List Nat} (h : Own w g o zs) (hk : zs[k]? = some d) : w.cell? ⟨g, o + k, none⟩ = some (.int .u32 (d : Int)) := by
  obtain ⟨hl, e⟩ := List.getElem?_eq_some_iff.1 hk
  rw [← e]; exact h.cell hl
theorem Rd.cellq {w : World} {B c b o k d : Nat} {ds : List Nat} (h : Rd w B (some ⟨b, o, none⟩) c ds) (hk : ds[k]? = some d) : w.cell? ⟨b, o + k, none⟩ = some (.int .u32 (d : Int)) := by
  obtain ⟨hl, e⟩ := List.getElem?_eq_some_iff.1 hk
  obtain ⟨b', o', e', _, hc⟩ := h.at_ hl
  injection e' with e'
  injection e' with e1 e2
  subst e1; subst e2
  rw [← e]; exact hc
/-- A part of a row with one digit more, whose first digits have been replaced and whose last digit is stored. -/
theorem Own.back {w w' : World} {g o n hi s : Nat} {ui lo : List Nat} (h : Own w g o ui) (hl : ui.length = n + 1) (hhi : ui[n]? = some hi) (hlo : Own w' g o lo) (hll : lo.length = n) (hw : Wrote w w' g o (o + n)) (hs : s < 4294967296) :
    w'.cell? ⟨g, o + n, none⟩ = some (.int .u32 (hi : Int)) ∧ Own (w'.setCell ⟨g, o + n, none⟩ (.int .u32 (s : Int))) g o (lo ++ [s]) := by
  have h2 := (h.part (n := n) (by omega) 1).apart hw (.inr (Nat.le_refl _))
  have e : (ui.drop n).take 1 = [hi] := by
    obtain ⟨hl2, e⟩ := List.getElem?_eq_some_iff.1 hhi
    rw [List.drop_eq_getElem_cons hl2, e]; rfl
  rw [e] at h2
  have h3 := hlo.join (ys := [hi]) (by rw [hll]; exact h2)
  have h4 := h3.setCell (k := n) (d := s) (by simp; omega) hs
  have e2 : (lo ++ [hi]).set n s = lo ++ [s] := by
    rw [List.set_append_right _ _ (by omega), hll, Nat.sub_self]; rfl
  rw [e2] at h4
  refine ⟨?_, h4⟩
  have := h2.cell (k := 0) (by simp)
  simpa using this

set_option maxHeartbeats 3200000 in
set_option maxRecDepth 1000000 in
theorem divDigs_any {B N2 c1 c2 : Nat} {A1 A2 : Option Addr} {xs ys : List Nat} (w : World) (h1 : Rd w B A1 c1 xs) (h2 : Rd w B A2 c2 ys) (hB : B ≤ w.heap.size) (hx : xs.length ≤ 400000) (hn : ys.length = N2 + 2) (hle : ys.length ≤ xs.length) (hy1 : ∀ h : N2 + 1 < ys.length, 2147483648 ≤ ys[N2 + 1]) :
    Calls Tryd.prog 124 #[.slice A1 xs.length c1, .slice A2 ys.length c2] w (DivRet w (val xs / val ys) (val xs % val ys)) := by
  have hlc := h1.2.1
  have hlc2 := h2.2.1
  obtain ⟨m, hm⟩ : ∃ m, xs.length + 1 = m + ys.length := ⟨xs.length + 1 - ys.length, by omega⟩
  have hyge : 4294967296 ^ (ys.length - 1) ≤ val ys := by
    rw [hn, val_top2 hn, show N2 + 2 - 1 = N2 + 1 by omega, Nat.pow_succ]
    have hy1 := hy1 (by omega)
    have : 4294967296 ^ N2 * 4294967296 ≤ 4294967296 ^ N2 * (ys[N2 + 1] * 4294967296 + ys[N2]) := Nat.mul_le_mul_left _ (by omega)
    omega
  have hy0 : 0 < val ys := Nat.lt_of_lt_of_le (Nat.pow_pos (by omega)) hyge
  have HD0 := Lib.hid (DivSt.start h1.dgs hm hyge (by omega))
  have HX := Lib.hid h1
  have HY := Lib.hid h2
  have HYD := Lib.hid h2.dgs
  have HXD := Lib.hid h1.dgs
  have HMK1 := Lib.hid (fun W => make_zeros (n := xs.length + 1) ((xs.length : Int) + 1) W (by omega) (by omega))
  have HMK2 := Lib.hid (fun W => make_zeros (n := m) ((xs.length : Int) + 1 - (ys.length : Int)) W (by omega) (by omega))
  have hsz : (Tryd.prog.info? 64).map (·.size) = some 1 := by kernel_rfl
  have HSZ := Lib.hid hsz
  have HSP := Lib.hid (splice_x0 xs)
  have HSRC := Lib.hid (copy_src HX.out hB)
  have HM := Lib.hid hm
  have HN := Lib.hid hn
  have HY0 := Lib.hid hy0
  have HY1 := Lib.hid hy1
  have hmi : (m : Int) = (xs.length : Int) + 1 - (ys.length : Int) := by omega
  have HMI := Lib.hid hmi
  have hm1 : m + ys.length ≤ xs.length + 1 := Nat.le_of_eq hm.symm
  have hm2 : xs.length + 1 ≤ m + ys.length := Nat.le_of_eq hm
  have hn1 : ys.length ≤ N2 + 2 := Nat.le_of_eq hn
  have hn2 : N2 + 2 ≤ ys.length := Nat.le_of_eq hn.symm
  clear h1 h2 hsz hm hn hyge hy0 hmi hy1
  have hmk1 := HMK1.out
  have hmk2 := HMK2.out
  have hli : (xs.length : Int) ≤ 400000 := by omega
  have hlyi : (ys.length : Int) ≤ (xs.length : Int) := by omega
  go_enter Tryd.func124, Tryd.ntmps124
  go_wp2_with (first
    | (refine wpList_copy_splice rfl (.tmp 17) (.tmp 18) 22 22 rfl 64 Tryd.underlying22 HSZ.out (some ⟨w.heap.size, 0, none⟩) A1 (xs.length + 1) (xs.length + 1) xs.length c1 rfl rfl w.heap.size 0 (List.replicate (xs.length + 1) (.int .u32 0)) 64 (by rw [List.toArray_replicate]; exact heap_alloc_new _ _) (dval xs) (by simp [dval]) (fun h0 => ⟨rfl, HSRC.out _ h0⟩) (by simp [dval]) (fun v hv => by obtain ⟨d, _, rfl⟩ := List.mem_map.1 hv; rfl) w.heap.size w ((Below.refl _ _).alloc (Nat.le_refl _) _) (Nat.le_refl _) ?_; intro w2 HCOP hb2; have HB2 := Lib.hid hb2; clear hb2)
    | fail)
  have hcop := HCOP.out
  rw [HSP.out] at hcop
  have HO0 : Hid (Own w2 w.heap.size 0 (xs ++ [0])) := own_dval (dgs_append HXD.out (dgs_cons (by omega) dgs_nil)) hcop
  have hgu := HO0.out.lt
  have HU0 : Hid (Own (w2.alloc (.cells (Array.replicate m (.int .u32 0)) 64)) w.heap.size 0 (xs ++ [0])) := HO0.out.alloc _
  have HQ0 := Lib.hid (own_zeros w2 m)
  have HG0 : Hid (Gr w (w2.alloc (.cells (Array.replicate m (.int .u32 0)) 64))) := Gr.alloc HB2.out _
  clear hcop HCOP hmk1 hmk2 HMK1 HMK2 HSRC HSP HSZ HO0
  go_loopw [8, 9, 10] (fun J _ _ wr => ∃ (k : Nat) (z : Int) (U Q : List Nat), J = .int .i64 z ∧ z = (k : Int) - 1 ∧ k ≤ m ∧ Hid (DivSt (val xs) ys U Q m k) ∧ Hid (Own wr w.heap.size 0 U) ∧ Hid (Own wr w2.heap.size 0 Q) ∧ Hid (Gr w wr)) (fun J _ _ _ => (intOf J + 1).toNat)
  case atStart => exact ⟨m, _, _, _, rfl, rfl, Nat.le_refl _, HD0.out, HU0.out, HQ0.out, HG0.out⟩
  case round =>
    clear HU0 HQ0 HG0 HD0
    obtain ⟨k, z, U, Q, rfl, hz, hk, HD, HO, HQ, HG⟩ := hrel
    cases k with
    | zero =>
      obtain rfl : z = -1 := by omega
      clear hz
      obtain ⟨r1, r2⟩ := HD.out.done
      have hlu := HD.out.lenU
      have hlq := HD.out.lenQ
      have hlow : val (U.take ys.length) = val U := by
        have h3 := val_split U ys.length (by omega)
        have h4 := val_drop_zero (l := U) (k := ys.length) (by rw [r2]; exact Nat.lt_trans (Nat.mod_lt _ HY0.out) (val_lt HYD.out))
        rw [h4, Nat.mul_zero, Nat.add_zero] at h3
        exact h3.symm
      have htl : (U.take ys.length).length = ys.length := by simp; omega
      have HRQ : Hid (Rd wr wr.heap.size (some ⟨w2.heap.size, 0, none⟩) m Q) := HQ.out.rd (by omega) (by unfold maxLen; omega) HQ.out.lt
      have HRU : Hid (Rd wr wr.heap.size (some ⟨w.heap.size, 0, none⟩) (xs.length + 1) (U.take ys.length)) := (HO.out.rd (c := xs.length + 1) (by omega) (by unfold maxLen; omega) HO.out.lt).take _
      have HT1 : Hid (Calls Tryd.prog 55 #[.slice (some ⟨w2.heap.size, 0, none⟩) m m] wr.drew fun e w' => e = .returned (.slice (some ⟨w2.heap.size, 0, none⟩) (digs (val xs / val ys)).length m) ∧ wr.drew = w') := by
        have := trim_any wr.drew (HRQ.out.drewN 1) (by omega)
        rwa [r1, hlq] at this
      have HT2 : Hid (Calls Tryd.prog 55 #[.slice (some ⟨w.heap.size, 0, none⟩) ys.length (xs.length + 1)] wr.drew fun e w' => e = .returned (.slice (some ⟨w.heap.size, 0, none⟩) (digs (val xs % val ys)).length (xs.length + 1)) ∧ wr.drew = w') := by
        have := trim_any wr.drew (HRU.out.drewN 1) (by omega)
        rwa [hlow, r2, htl] at this
      have HRES1 : Hid (Rd wr.drew wr.drew.heap.size (some ⟨w2.heap.size, 0, none⟩) m (digs (val xs / val ys))) := by
        have h6 := digs_take HQ.out.dgs
        rw [r1] at h6
        rw [h6]; exact (HRQ.out.drewN 1).take _
      have HRES2 : Hid (Rd wr.drew wr.drew.heap.size (some ⟨w.heap.size, 0, none⟩) (xs.length + 1) (digs (val xs % val ys))) := by
        have h6 := digs_take (HO.out.dgs.take ys.length)
        rw [hlow, r2] at h6
        rw [h6]; exact (HRU.out.drewN 1).take _
      have HGF : Hid (Gr w wr.drew) := HG.out.drew
      have hs2 : w.heap.size ≤ w2.heap.size := HB2.out.size
      have hcapn : ¬ xs.length + 1 = 0 := by omega
      have hyx : ys.length ≤ xs.length + 1 := by omega
      have hyxi : (ys.length : Int) ≤ (xs.length : Int) + 1 := by omega
      clear r1 r2 hlow htl hlu hlq
      go_wp2
      go_region_with ((first
        | (go_at_call 55; ((with_reducible refine HT1.out.mono ?_); rintro e w' ⟨rfl, rfl⟩))
        | (go_at_call 55; ((with_reducible refine HT2.out.mono ?_); rintro e w' ⟨rfl, rfl⟩))
        | fail))
      all_goals
        go_wp2
        go_ret2
        exact ⟨_, _, _, _, rfl, HRES1.out, HRES2.out, fun a ha => by injection ha with ha; rw [← ha]; exact hs2, fun a ha => by injection ha with ha; rw [← ha]; exact Nat.le_refl _, HGF.out⟩
    | succ j =>
      obtain rfl : z = (j : Int) := by omega
      clear hz
      have hji : (j : Int) < (m : Int) := by omega
      obtain ⟨p, hp⟩ : ∃ p, (U.drop j).take (ys.length + 1) = p := ⟨_, rfl⟩
      have hlu := HD.out.lenU
      have hlq := HD.out.lenQ
      have hpl : p.length = ys.length + 1 := by rw [← hp]; exact HD.out.p1 (by omega)
      have HP : Hid (Own wr w.heap.size j p) := by
        have := HO.out.part (n := j) (by omega) (ys.length + 1)
        rw [Nat.zero_add, hp] at this
        exact this
      have HSTEP : Hid (∀ (q : Nat) (part : List Nat), part.length = ys.length + 1 → Dgs part → q = val p / val ys → val part = val p % val ys → DivSt (val xs) ys (putPart U part j) (Q.set j q) m j) := fun q part hl hd hq hv => HD.out.step (by omega) HYD.out hl hd (by rw [hp]; exact hq) (by rw [hp]; exact hv)
      obtain ⟨y1, y0, u2, u1, u0, gy1, gy0, gu2, gu1, gu0, b1, b2, b3, b4, b5, b6, b7, b8, HUP⟩ := round_all (p := p) (y := ys) (n := N2) (N := ys.length) HN.out rfl hpl HYD.out HP.out.dgs (by rw [← hp]; exact HD.out.p6 (by omega) HYD.out) HY1.out (by rw [← hp]; exact HD.out.top)
      have HYW := Lib.hid (HY.out.below (HG.out.mono hB))
      obtain ⟨by_, oy, hA2, hbyB, hcy0⟩ := HYW.out.at_ (k := 0) (by omega)
      clear hcy0
      subst hA2
      have HES := Lib.hid (estimate_any (g := w.heap.size) (j := j) (N := ys.length) (N1 := N2 + 1) (N2 := N2) (c1 := xs.length + 1 - j) (c2 := c2) (b := by_) (o := oy) (q := val p / val ys) wr (by omega) (by omega) (by omega) (HP.out.cellq gu2) (HP.out.cellq gu1) (HP.out.cellq gu0) (HYW.out.cellq gy1) (HYW.out.cellq gy0) b5 b6 b3 b4 b1 b2 b7 b8)
      have HUPP := Lib.hid HUP
      have HPL := Lib.hid hpl
      have HPE := Lib.hid hp
      have hpl1 : p.length ≤ ys.length + 1 := Nat.le_of_eq hpl
      have hpl2 : ys.length + 1 ≤ p.length := Nat.le_of_eq hpl.symm
      have hlu1 : U.length ≤ m + ys.length := Nat.le_of_eq hlu
      have hlu2 : m + ys.length ≤ U.length := Nat.le_of_eq hlu.symm
      have hlq1 : Q.length ≤ m := Nat.le_of_eq hlq
      have hlq2 : m ≤ Q.length := Nat.le_of_eq hlq.symm
      clear gy1 gy0 gu2 gu1 gu0 b1 b2 b3 b4 b5 b6 b7 b8 HUP hpl hp hlu hlq
      have hcap : ¬ xs.length + 1 = j := by omega
      have hjn : j + ys.length + 1 ≤ xs.length + 1 := by omega
      have hsub : j + ys.length + 1 - j = ys.length + 1 := by omega
      have hjni : (j : Int) + (ys.length : Int) + 1 ≤ (xs.length : Int) + 1 := by omega
      go_wp2_with (go_at_call 129; fail)
      (with_reducible refine HES.out.mono ?_)
      rintro e w' ⟨d, rfl, hd1, hd2, hd3, kk, rfl⟩
      have hdu := HUPP.out d hd1 hd3
      have HPW : Hid (Own (wr.drewN kk) w.heap.size j p) := HP.out.drewN kk
      have HSM : Hid (Calls Tryd.prog 130 #[.slice (some ⟨w.heap.size, j, none⟩) (ys.length + 1) (xs.length + 1 - j), .slice (some ⟨by_, oy, none⟩) ys.length c2, .int .u32 d] (wr.drewN kk) (SubMRet (wr.drewN kk) w.heap.size j d p ys)) := by
        have := subMul_any (c1 := xs.length + 1 - j) (wr.drewN kk) HPW.out (HY.out.below ((HG.out.drewN kk).mono hB)) hB HPL.out (by omega) hd1
        rwa [HPL.out] at this
      have HDD := Lib.hid (show val p / val ys ≤ d ∧ d ≤ val p / val ys + 1 from ⟨hd2, hdu⟩)
      clear HES hd2 hd3 hdu HUPP
      go_wp2_with (go_at_call 130; fail)
      (with_reducible refine HSM.out.mono ?_)
      rintro e w3 ⟨n, ui, t, rfl, hnt, hul, huv, hown, hwr⟩
      rw [HPL.out] at hul hwr
      have HQ3 : Hid (Own w3 w2.heap.size 0 Q) := (HQ.out.drewN kk).far hwr (by omega)
      have HG3 : Hid (Gr w w3) := Wrote.gr (HG.out.drewN kk) hwr (Nat.le_refl _)
      have HO3 : Hid (∀ (w' : World) (part : List Nat), part.length = ys.length + 1 → Own w' w.heap.size j part → Wrote w3 w' w.heap.size j (j + (ys.length + 1)) → Own w' w.heap.size 0 (putPart U part j)) := fun w' part hl ho hw => by
        have h5 := (HO.out.drewN kk).mid (part := part) ho (by rw [hl]; exact hwr.trans hw) (by omega)
        exact h5
      have HWR := Lib.hid hwr
      have HUO := Lib.hid hown
      have HUL := Lib.hid hul
      have HUV := Lib.hid huv
      have hul1 : ui.length ≤ ys.length + 1 := Nat.le_of_eq hul
      have hul2 : ys.length + 1 ≤ ui.length := Nat.le_of_eq hul.symm
      clear hul huv hown hwr HSM HO HQ HG HP HPW
      rcases hnt with ⟨rfl, rfl⟩ | ⟨rfl, rfl⟩
      · have hdq := round_borrow HY0.out HUL.out HUO.out.dgs HDD.out.1 HDD.out.2 HUV.out
        obtain ⟨d', rfl⟩ : ∃ d', d = d' + 1 := ⟨val p / val ys, hdq⟩
        have hdq' : d' = val p / val ys := by omega
        have HDQ := Lib.hid hdq'
        have hd' : d' < 4294967296 := by omega
        obtain ⟨hi, hhi⟩ : ∃ hi, ui[ys.length]? = some hi := ⟨ui[ys.length], List.getElem?_eq_getElem (by omega)⟩
        have HHI := Lib.hid hhi
        have hhd : hi < 4294967296 := by
          obtain ⟨hl2, e⟩ := List.getElem?_eq_some_iff.1 hhi
          rw [← e]; exact HUO.out.dgs.get hl2
        have hchi : w3.cell? ⟨w.heap.size, j + ys.length, none⟩ = some (.int .u32 (hi : Int)) := HUO.out.cellq hhi
        have hcfr := HUO.out.free (j + ys.length)
        have HAD : Hid (Calls Tryd.prog 90 #[.slice (some ⟨w.heap.size, j, none⟩) ys.length (xs.length + 1 - j), .slice (some ⟨by_, oy, none⟩) ys.length c2] w3.drew (fun e w4 => ∃ (c : Nat) (lo : List Nat), e = .returned (.int .u32 (c : Int)) ∧ c ≤ 1 ∧ lo.length = ys.length ∧ val lo + 4294967296 ^ ys.length * c = val (ui.take ys.length) + val ys ∧ Own w4 w.heap.size j lo ∧ Wrote w3 w4 w.heap.size j (j + ys.length))) := by
          have hpt := (HUO.out.drewN 1).part (n := 0) (by omega) ys.length
          rw [Nat.add_zero, List.drop_zero] at hpt
          have htl : (ui.take ys.length).length = ys.length := by simp; omega
          have := addTo_any (c1 := xs.length + 1 - j) (w3.drewN 1) hpt (HY.out.below ((HG3.out.drewN 1).mono hB)) hB (by omega) (by omega)
          unfold AddRet at this
          rw [htl] at this
          exact this.mono fun e w4 ⟨c, lo, h1, h2, h3, h4, h5, h6⟩ => ⟨c, lo, h1, h2, h3, h4, h5, ⟨h6.os, h6.tape, h6.output, h6.size, h6.block, h6.row⟩⟩
        have hdz : ((d' + 1 : Nat) : Int) - 1 = (d' : Int) := by omega
        have hdz2 : (d' : Int) + 1 - 1 = (d' : Int) := by omega
        have hdw : IntKind.u32.wrap (d' : Int) = (d' : Int) := by rw [IntKind.wrap_u32]; omega
        clear hdq hdq' hhi
        go_wp2_with fail
        go_region_with ((first
          | (go_at_call 90; ((with_reducible refine HAD.out.mono ?_); rintro e w4 ⟨c, lo, rfl, hc, hll, hlv, hown, hwr⟩; obtain ⟨s, hs⟩ : ∃ s, (hi + c) % 4294967296 = s := ⟨_, rfl⟩; have hsl : s < 4294967296 := (by omega); have hsw : IntKind.u32.wrap ((hi : Int) + (c : Int)) = (s : Int) := (by rw [IntKind.wrap_u32]; omega); have hbk := Own.back HUO.out HUL.out HHI.out hown hll hwr hsl; obtain ⟨hc4, hb4⟩ := hbk; have HB4 := Lib.hid hb4; have hf4 := hown.free (j + ys.length); have HW4 : Hid (∀ u : Value, Wrote w3 (w4.setCell ⟨w.heap.size, j + ys.length, none⟩ u) w.heap.size j (j + (ys.length + 1))) := (fun u => (hwr.mono (Nat.le_refl _) (by omega)).setCell (by omega) (by omega) u); have HQ4 : Hid (Own w4 w2.heap.size 0 Q) := HQ3.out.far hwr (by omega); have HG4 : Hid (Gr w w4) := Wrote.gr HG3.out hwr (Nat.le_refl _); have HSE := Lib.hid hs; have HLV := Lib.hid hlv; have HLL := Lib.hid hll; have HLD := Lib.hid hown.dgs; clear hb4 hown hwr hs hlv hll))
          | fail))
        all_goals
          have hrb := round_back HY0.out HYD.out HUL.out HUO.out.dgs HDD.out.1 HDD.out.2 HUV.out HLL.out HLD.out (by obtain ⟨_, e⟩ := List.getElem?_eq_some_iff.1 HHI.out; exact e.symm) HLV.out
          rw [HSE.out] at hrb
          have hpl5 : (lo ++ [s]).length = ys.length + 1 := by rw [List.length_append, HLL.out]; rfl
          have HN1 := Lib.hid (HSTEP.out d' (lo ++ [s]) hpl5 HB4.out.dgs HDQ.out hrb.2.2)
          have HU1 := Lib.hid (HO3.out _ (lo ++ [s]) hpl5 HB4.out (HW4.out _))
          have HQ5 : Hid (Own (w4.setCell ⟨w.heap.size, j + ys.length, none⟩ (.int .u32 (s : Int))) w2.heap.size 0 Q) := HQ4.out.far2 (by omega) _ _
          have hcq := HQ5.out.free j
          obtain ⟨q0, hq0⟩ : ∃ q0 : Nat, (w4.setCell ⟨w.heap.size, j + ys.length, none⟩ (.int .u32 (s : Int))).cell? ⟨w2.heap.size, j, none⟩ = some (.int .u32 (q0 : Int)) := ⟨Q[j], by have := HQ5.out.cell (k := j) (by omega); rwa [Nat.zero_add] at this⟩
          have HQ1 : Hid (Own ((w4.setCell ⟨w.heap.size, j + ys.length, none⟩ (.int .u32 (s : Int))).setCell ⟨w2.heap.size, j, none⟩ (.int .u32 (d' : Int))) w2.heap.size 0 (Q.set j d')) := by
            have := HQ5.out.setCell (k := j) (d := d') (by omega) hd'
            rwa [Nat.zero_add] at this
          have HU2 : Hid (Own ((w4.setCell ⟨w.heap.size, j + ys.length, none⟩ (.int .u32 (s : Int))).setCell ⟨w2.heap.size, j, none⟩ (.int .u32 (d' : Int))) w.heap.size 0 (putPart U (lo ++ [s]) j)) := HU1.out.far2 (by omega) _ _
          have HG2 : Hid (Gr w ((w4.setCell ⟨w.heap.size, j + ys.length, none⟩ (.int .u32 (s : Int))).setCell ⟨w2.heap.size, j, none⟩ (.int .u32 (d' : Int)))) := (HG4.out.setOne (Nat.le_refl _) _ _).setOne (by omega) _ _
          clear hrb hpl5
          go_wp2
          go_roundw
          case rel => exact ⟨j, _, putPart U (lo ++ [s]) j, Q.set j d', rfl, rfl, by omega, HN1.out, HU2.out, HQ1.out, HG2.out⟩
          case measure => simp [intOf]
      · obtain ⟨r1, r2⟩ := round_ok HY0.out HUL.out HUO.out.dgs HDD.out.1 HDD.out.2 HUV.out
        have HN1 := Lib.hid (HSTEP.out d ui HUL.out HUO.out.dgs r1 r2)
        have HU1 := Lib.hid (HO3.out w3 ui HUL.out HUO.out (Wrote.refl _ _ _ _))
        have hcq := HQ3.out.free j
        obtain ⟨q0, hq0⟩ : ∃ q0 : Nat, w3.cell? ⟨w2.heap.size, j, none⟩ = some (.int .u32 (q0 : Int)) := ⟨Q[j], by have := HQ3.out.cell (k := j) (by omega); rwa [Nat.zero_add] at this⟩
        have HQ1 : Hid (Own (w3.setCell ⟨w2.heap.size, j, none⟩ (.int .u32 (d : Int))) w2.heap.size 0 (Q.set j d)) := by
          have := HQ3.out.setCell (k := j) (d := d) (by omega) hd1
          rwa [Nat.zero_add] at this
        have HU2 : Hid (Own (w3.setCell ⟨w2.heap.size, j, none⟩ (.int .u32 (d : Int))) w.heap.size 0 (putPart U ui j)) := HU1.out.far2 (by omega) _ _
        have HG2 : Hid (Gr w (w3.setCell ⟨w2.heap.size, j, none⟩ (.int .u32 (d : Int)))) := HG3.out.setOne (by omega) _ _
        clear r1 r2
        go_wp2
        go_roundw
        case rel => exact ⟨j, _, putPart U ui j, Q.set j d, rfl, rfl, by omega, HN1.out, HU2.out, HQ1.out, HG2.out⟩
        case measure => simp [intOf]
end Go.Proofs.YtbijjiadokgmoaaDoor
