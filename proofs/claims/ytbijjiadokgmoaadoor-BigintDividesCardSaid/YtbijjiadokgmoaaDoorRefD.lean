/- Contracts of the reference's word, split and shifted. The contract of the reference's divided: division binary digit by binary digit. The contract of the reference's Euclid. BigintDivides. -/
import Derived.Test.YtbijjiadokgmoaaDoorRPlus
import Derived.Test.YtbijjiadokgmoaaDoorDivE
import Derived.Test.YtbijjiadokgmoaaDoorRMinus
import Derived.Test.YtbijjiadokgmoaaDoorDivC
import Derived.Test.YtbijjiadokgmoaaDoorRSubI
import Derived.Test.YtbijjiadokgmoaaDoorFin2
import Derived.Test.YtbijjiadokgmoaaDoorOpsL
import Derived.Deep.RegionHeld3
import Derived.Deep.DeepCutAuto
namespace Go.Proofs.YtbijjiadokgmoaaDoor
open Go.RowKit

set_option maxHeartbeats 1600000 in
set_option maxRecDepth 1000000 in
theorem rword_any {B c : Nat} {A : Option Addr} {ds : List Nat} (w : World) (h : Rd w B A c ds) (hl : ds.length ≤ 2) :
    Calls Tryd.prog 96 #[.slice A ds.length c] w fun e w' => e = .returned (.int .u64 (val ds : Int)) ∧ w = w' := by
  have hlc := h.2.1
  have HX := Lib.hid h
  have hli : (ds.length : Int) ≤ 2 := by omega
  clear h
  go_enter Tryd.func96, Tryd.ntmps96
  go_wp2
  go_loop [3, 4] (fun O I => ∃ (k o : Nat) (z : Int), I = .int .i64 z ∧ z = (k : Int) - 1 ∧ k ≤ ds.length ∧ O = .int .u64 o ∧ Hid (o = val (ds.drop k))) (fun _ I => (intOf I + 1).toNat)
  case atStart => exact ⟨ds.length, 0, _, rfl, rfl, Nat.le_refl _, rfl, by show _ = _; rw [List.drop_length]; rfl⟩
  case round =>
    obtain ⟨k, o, z, rfl, hz, hk, rfl, HO⟩ := hrel
    cases k with
    | zero =>
      obtain rfl : z = -1 := by omega
      have HV : Hid (o = val ds) := by have := HO.out; rwa [List.drop_zero] at this
      clear hz HO
      go_wp2
      go_ret
      exact ⟨congrArg (fun n : Nat => Ending.returned (.int .u64 (n : Int))) HV.out, rfl⟩
    | succ k =>
      obtain rfl : z = (k : Int) := by omega
      have hkl : k < ds.length := by omega
      have hkli : (k : Int) < (ds.length : Int) := by omega
      obtain ⟨b, p, rfl, _, hc⟩ := HX.out.at_ hkl
      have hd := HX.out.dgs.get hkl
      have ho : o < 4294967296 := by
        rw [HO.out]
        have h1 := val_lt (HX.out.dgs.drop (k + 1))
        rw [List.length_drop] at h1
        exact Nat.lt_of_lt_of_le h1 (Nat.le_trans (Nat.pow_le_pow_right (n := 4294967296) (by omega) (show ds.length - (k + 1) ≤ 1 by omega)) (by omega))
      have HV : Hid (o * 4294967296 + ds[k] = val (ds.drop k)) := by
        show _ = _
        rw [val_drop hkl, HO.out, Nat.add_comm, Nat.mul_comm]
      clear hz HO
      generalize ds[k] = d at *
      go_wp2
      go_round
      case rel => exact ⟨k, o * 4294967296 + d, _, rfl, by omega, by omega, by go_num, HV.out⟩
      case measure => simp [intOf]

theorem MagRet.of_alloc {w w' : World} {o : Obj} {r : Nat} {e : Ending} (h : MagRet (w.alloc o) r e w') : MagRet w r e w' := by
  obtain ⟨A, c, h1, h2, h3, h4⟩ := h
  have hs : w.heap.size ≤ (w.alloc o).heap.size := by rw [World.size_alloc]; omega
  exact ⟨A, c, h1, h2, fun a ha => Nat.le_trans hs (h3 a ha), ((Below.refl _ _).alloc (Nat.le_refl _) o).trans (h4.mono hs)⟩

set_option maxHeartbeats 1600000 in
set_option maxRecDepth 1000000 in
theorem rsplit_any {x : Nat} (w : World) (hx : x < 18446744073709551616) :
    Calls Tryd.prog 95 #[.int .u64 x] w (MagRet w x) := by
  obtain ⟨lo, hlo⟩ : ∃ lo, x % 4294967296 = lo := ⟨_, rfl⟩
  obtain ⟨hi, hhi⟩ : ∃ hi, x / 4294967296 = hi := ⟨_, rfl⟩
  have hl : lo < 4294967296 := by omega
  have hh : hi < 4294967296 := by omega
  have hd : Dgs [lo, hi] := dgs_cons hl (dgs_cons hh dgs_nil)
  have hv : val [lo, hi] = x := by simp only [val]; omega
  have ho := own_new w (ds := [lo, hi]) (cs := #[.int .u32 (lo : Int), .int .u32 (hi : Int)]) hd rfl
  have hr := ho.rd (c := 2) (B := w.heap.size + 1) (by simp) (by unfold maxLen; omega) (by omega)
  have ht := rtrim_any _ hr (by rw [World.size_alloc]; exact Nat.le_refl _) (by simp)
  rw [hv] at ht
  have HT : Hid (Calls Tryd.prog 62 #[.slice (some ⟨w.heap.size, 0, none⟩) 2 2] (w.alloc (.cells #[.int .u32 (lo : Int), .int .u32 (hi : Int)] 64)) (MagRet w x)) := ht.mono fun e w' h => h.of_alloc
  have e1 : (x : Int) % 4294967296 = (lo : Int) := by omega
  have e2 : IntKind.u32.wrap (x : Int) = (lo : Int) := by rw [IntKind.wrap_u32]; omega
  have e3 : (x : Int) / 4294967296 = (hi : Int) := by omega
  have e4 : (hi : Int) % 4294967296 = (hi : Int) := by omega
  have e5 : IntKind.u32.wrap (hi : Int) = (hi : Int) := by rw [IntKind.wrap_u32]; omega
  have HX := Lib.hid hx
  clear ht hr ho hv hd hlo hhi hx
  go_enter Tryd.func95, Tryd.ntmps95
  go_wp2_with (go_at_call 62; fail)
  refine HT.out.mono ?_
  rintro e w1 hr
  have HR := Lib.hid hr
  obtain ⟨A, c, rfl, _⟩ := hr
  go_wp2
  go_ret
  exact HR.out

/-- The first k digits have been shifted, behind wh zeros. -/
structure RSh (x zs : List Nat) (wh pt k c : Nat) : Prop where
  len : zs.length = wh + k
  dgs : Dgs zs
  small : c < 2 ^ pt
  eq : val zs + 4294967296 ^ (wh + k) * c = 4294967296 ^ wh * (val (x.take k) * 2 ^ pt)
theorem RSh.start (x : List Nat) (wh pt : Nat) : RSh x (List.replicate wh 0) wh pt 0 0 := ⟨by simp, dgs_zeros _, Nat.pow_pos (by omega), by simp [val_zeros, val]⟩
theorem RSh.next {x zs : List Nat} {wh pt k c lo hi : Nat} (h : RSh x zs wh pt k c) (hk : k < x.length) (hd : x[k] < 4294967296) (hl : lo < 4294967296) (he : x[k] * 2 ^ pt + c = lo + 4294967296 * hi) : RSh x (zs ++ [lo]) wh pt (k + 1) hi := by
  refine ⟨by rw [List.length_append, h.len]; rfl, dgs_append h.dgs (dgs_cons hl dgs_nil), ?_, ?_⟩
  · have h1 : x[k] * 2 ^ pt ≤ 4294967295 * 2 ^ pt := Nat.mul_le_mul_right _ (by omega)
    have h2 := h.small
    have h3 : 4294967296 * hi < 4294967296 * 2 ^ pt := by omega
    exact Nat.lt_of_mul_lt_mul_left h3
  · rw [val_append, h.len, val_take_succ hk, ← Nat.add_assoc, Nat.pow_succ]
    simp only [val, Nat.mul_zero, Nat.add_zero]
    have e := h.eq
    rw [Nat.add_mul, Nat.mul_add, ← e, Nat.mul_assoc (4294967296 ^ k), ← Nat.mul_assoc (4294967296 ^ wh), ← Nat.pow_add]
    generalize 4294967296 ^ (wh + k) = K at *
    have h5 : K * (x[k] * 2 ^ pt + c) = K * (lo + 4294967296 * hi) := by rw [he]
    generalize x[k] * 2 ^ pt = W at *
    rw [Nat.mul_add, Nat.mul_add, ← Nat.mul_assoc K] at h5
    omega
theorem RSh.done {x zs : List Nat} {wh pt c n : Nat} (h : RSh x zs wh pt x.length c) (hn : n = 32 * wh + pt) : val (zs ++ [c]) = val x * 2 ^ n := by
  have e := h.eq
  rw [List.take_length] at e
  rw [val_append, h.len]
  simp only [val, Nat.mul_zero, Nat.add_zero]
  rw [e, hn, Nat.pow_add, Nat.pow_mul, Nat.mul_comm (4294967296 ^ wh), Nat.mul_assoc, Nat.mul_comm (2 ^ pt)]
theorem rows_zeros (w : World) (n : Nat) (hn : n ≤ 2000000) : Rows w (w.alloc (.cells (Array.replicate n (.int .u32 0)) 64)) (.slice (some ⟨w.heap.size, 0, none⟩) n n) (List.replicate n 0) := by
  refine ⟨⟨by simp [dval], .inr ⟨w.heap.size, n, _, by simp, Nat.le_refl _, heap_alloc_new w _, by simp, by unfold maxLen; omega, by simp, ?_⟩⟩, (Below.refl _ _).alloc (Nat.le_refl _) _⟩
  simp [dval]

set_option maxHeartbeats 1600000 in
set_option maxRecDepth 1000000 in
theorem rshifted_any {B c1 wh pt n : Nat} {A1 : Option Addr} {xs : List Nat} (w : World) (h1 : Rd w B A1 c1 xs) (hB : B ≤ w.heap.size) (hx : xs.length ≤ 400000) (hw : wh ≤ 400000) (hp : pt < 32) (hn : n = 32 * wh + pt) :
    Calls Tryd.prog 97 #[.slice A1 xs.length c1, .int .i64 n] w (MagRet w (val xs * 2 ^ n)) := by
  obtain ⟨i0, hi, hz0, hz1, hz2⟩ := info_parts Tryd.infoU
  have hlc1 := h1.2.1
  have HX := Lib.hid h1
  have HMK := Lib.hid (fun W => make_zeros (n := wh) (wh : Int) W rfl (by omega))
  have hmk := HMK.out
  have q1 : (n : Int) / 32 = (wh : Int) := by omega
  have q2 : (n : Int) % 32 = (pt : Int) := by omega
  have q3 : IntKind.u64.wrap (pt : Int) = (pt : Int) := IntWalk.u64_in _ (by omega)
  have hn0 : (0 : Int) ≤ (n : Int) := by omega
  have hpi : (pt : Int) < 32 := by omega
  have HR0 := Lib.hid (rows_zeros w wh (by omega))
  have HNN := Lib.hid hn
  clear h1 HMK hn
  go_enter Tryd.func97, Tryd.ntmps97
  go_wp2
  clear hmk
  go_loopw [5, 6, 7, 8] (fun v C I _ wr => ∃ (k c : Nat) (zs : List Nat), I = .int .i64 k ∧ C = .int .u64 c ∧ k ≤ xs.length ∧ Hid (RSh xs zs wh pt k c) ∧ Hid (Rows w wr v zs)) (fun _ _ I _ _ => xs.length - (intOf I).toNat)
  case atStart => exact ⟨0, 0, _, rfl, rfl, Nat.zero_le _, RSh.start xs wh pt, HR0.out⟩
  case round =>
    obtain ⟨k, c, zs, rfl, rfl, hk, HP, HR⟩ := hrel
    have hsz := HR.out.below.size
    have hzl := HP.out.len
    have hpp : 2 ^ pt ≤ 2147483648 := Nat.pow_le_pow_right (n := 2) (by omega) (show pt ≤ 31 by omega)
    have hcl := HP.out.small
    by_cases hlt : k < xs.length
    · have hlti : (k : Int) < (xs.length : Int) := by omega
      have HX2 := Lib.hid (HX.out.below (HR.out.below.mono hB))
      obtain ⟨b1, o1, rfl, _, hc1⟩ := HX2.out.at_ hlt
      have hd1 := HX2.out.dgs.get hlt
      have hww : xs[k] * 2 ^ pt ≤ 4294967295 * 2147483648 := Nat.mul_le_mul (by omega) hpp
      have e1 : IntKind.u64.wrap ((xs[k] : Int) * 2 ^ pt) = ((xs[k] * 2 ^ pt : Nat) : Int) := by
        rw [show ((xs[k] : Int) * 2 ^ pt) = ((xs[k] * 2 ^ pt : Nat) : Int) by rw [Int.natCast_mul, Int.natCast_pow]; rfl]
        exact IntWalk.u64_in _ ⟨Int.natCast_nonneg _, by omega⟩
      have HNX : Hid (∀ lo hi : Nat, lo < 4294967296 → xs[k] * 2 ^ pt + c = lo + 4294967296 * hi → RSh xs (zs ++ [lo]) wh pt (k + 1) hi) := fun lo hi hl he => HP.out.next hlt hd1 hl he
      generalize xs[k] * 2 ^ pt = W at *
      obtain ⟨lo, hlo⟩ : ∃ lo, (W + c) % 4294967296 = lo := ⟨_, rfl⟩
      obtain ⟨hi', hhi⟩ : ∃ hi, (W + c) / 4294967296 = hi := ⟨_, rfl⟩
      have hll : lo < 4294967296 := by omega
      have HN1 := Lib.hid (HNX.out lo hi' hll (by omega))
      have hcc : c < 4294967296 := by omega
      have hwc : W + c ≤ 18446744069414584320 := by omega
      have e2 : ((W : Int) + (c : Int)) % 4294967296 = (lo : Int) := by omega
      have e2' : IntKind.u32.wrap ((W : Int) + (c : Int)) = (lo : Int) := by rw [IntKind.wrap_u32]; omega
      have e3 : ((W : Int) + (c : Int)) / 4294967296 = (hi' : Int) := by omega
      have e4 : IntKind.u64.wrap ((W : Int) + (c : Int)) = (W : Int) + (c : Int) := IntWalk.u64_in _ (by omega)
      clear hlo hhi HNX hww hpp hcl hwc
      generalize xs[k] = d at *
      have hown := HR.out.1
      have hzn : zs.length ≤ 800000 := by omega
      go_wp2_with (at_builtin; (refine wpList_append_own_at _ rfl _ _ 22 rfl w.heap.size 64 i0 (.int .u32 0) 1 4 Tryd.underlying22 hi hz0 hz1 hz2 rfl (by decide) _ _ _ rfl (hown.alloc _) ⟨wr.heap.size, 0, none⟩ 1 1 [.int .u32 _] rfl rfl (cell_one32 _ _ _) (fun x hx => by simp at hx; rw [hx]; rfl) (by unfold maxLen; omega) (by omega) (by simp; omega) ?_); intro v' w3 hown' hgrow' hnil' hblk; have HF := Lib.hid (Rows.next (d := lo) (by omega) HR.out hown' hgrow'); clear hown' hgrow' hnil' hblk hown)
      go_roundw
      case rel => exact ⟨k + 1, hi', zs ++ [lo], by go_num, rfl, hlt, HN1.out, HF.out⟩
      case measure => simp [intOf]; omega
    · have hn1 : ¬ (k : Int) < (xs.length : Int) := by omega
      obtain rfl : k = xs.length := by omega
      have hcc : c < 4294967296 := by omega
      have HV := Lib.hid (HP.out.done HNN.out)
      have hcw : IntKind.u32.wrap (c : Int) = (c : Int) := by rw [IntKind.wrap_u32]; omega
      have hcw2 : (c : Int) % 4294967296 = (c : Int) := by omega
      have HTR : Hid (∀ (v' : Value) (w3 : World), Rows w w3 v' (zs ++ [c]) → ∃ A cc, v' = .slice A (zs ++ [c]).length cc ∧ Calls Tryd.prog 62 #[v'] w3 (MagRet w (val xs * 2 ^ n))) := fun v' w3 hr => by
        obtain ⟨A, cc, rfl, hrd⟩ := hr.rd (dgs_append HP.out.dgs (dgs_cons hcc dgs_nil))
        have := rtrim_any w3 hrd (Nat.le_refl _) (by rw [List.length_append, hzl]; simp; omega)
        rw [HV.out] at this
        exact ⟨A, cc, rfl, this.mono fun e w' ⟨A', c', a1, a2, a3, a4⟩ => ⟨A', c', a1, a2, fun a ha => Nat.le_trans hr.below.size (a3 a ha), hr.below.trans (a4.mono hr.below.size)⟩⟩
      have hown := HR.out.1
      have hzn : zs.length ≤ 800000 := by omega
      clear hpp hcl
      go_wp2_with (first
        | (at_builtin; (refine wpList_append_own_at _ rfl _ _ 22 rfl w.heap.size 64 i0 (.int .u32 0) 1 4 Tryd.underlying22 hi hz0 hz1 hz2 rfl (by decide) _ _ _ rfl (hown.alloc _) ⟨wr.heap.size, 0, none⟩ 1 1 [.int .u32 _] rfl rfl (cell_one32 _ _ _) (fun x hx => by simp at hx; rw [hx]; rfl) (by unfold maxLen; omega) (by omega) (by simp; omega) ?_); intro v' w3 hown' hgrow' hnil' hblk; have HF := Lib.hid (Rows.next (d := c) (by omega) HR.out hown' hgrow'); clear hown' hgrow' hnil' hblk hown)
        | (go_at_call 62; fail))
      obtain ⟨A, cc, hv', HC⟩ := HTR.out v' w3 HF.out
      have HCC := Lib.hid HC
      clear HC
      refine HCC.out.mono ?_
      rintro e w4 hr
      have HRR := Lib.hid hr
      obtain ⟨A', c', rfl, _⟩ := hr
      go_wp2
      go_ret
      exact HRR.out
end Go.Proofs.YtbijjiadokgmoaaDoor
namespace Go.Proofs.YtbijjiadokgmoaaDoor
open Go.RowKit

theorem bitsOf_spec {x : Nat} (h0 : 0 < x) : x < 2 ^ bitsOf x ∧ 2 ^ bitsOf x ≤ 2 * x := by
  have hl := digs_pos_len h0
  obtain ⟨k, hk⟩ : ∃ k, (digs x).length = k + 1 := ⟨(digs x).length - 1, by omega⟩
  have hkl : k < (digs x).length := by omega
  have hb : bitsOf x = 32 * k + blen (digs x)[k] := by
    unfold bitsOf
    rw [if_neg (by omega), hk, Nat.add_sub_cancel, List.getD_eq_getElem?_getD, List.getElem?_eq_getElem hkl]; rfl
  have ht0 : 0 < (digs x)[k] := by
    have hne : digs x ≠ [] := fun e => by rw [e] at hkl; simp at hkl
    have := digs_last hne
    rw [List.getLast_eq_getElem] at this
    refine Nat.pos_of_ne_zero fun e => this ?_
    rw [← e]; congr 1; omega
  have hd := (dgs_digs x).get hkl
  obtain ⟨a, b⟩ := blen_spec 32 _ hd ht0
  have e := val_split (digs x) k (by omega)
  rw [val_digs, val_drop hkl, List.drop_eq_nil_of_le (by omega)] at e
  simp only [val, Nat.mul_zero, Nat.add_zero] at e
  have hlow := val_lt ((dgs_digs x).take k)
  rw [List.length_take, Nat.min_eq_left (by omega)] at hlow
  rw [hb, Nat.pow_add, Nat.pow_mul]
  generalize (digs x)[k] = t at *
  generalize val ((digs x).take k) = l at *
  show x < 4294967296 ^ k * 2 ^ blen t ∧ 4294967296 ^ k * 2 ^ blen t ≤ 2 * x
  have h1 : 4294967296 ^ k * (t + 1) ≤ 4294967296 ^ k * 2 ^ blen t := Nat.mul_le_mul_left _ a
  have h2 : 4294967296 ^ k * 2 ^ blen t ≤ 4294967296 ^ k * (2 * t) := Nat.mul_le_mul_left _ b
  rw [Nat.mul_succ] at h1
  rw [Nat.mul_left_comm] at h2
  omega
theorem bits_lt {m n : Nat} (h : bitsOf m < bitsOf n) (hn : 0 < n) : m < n := by
  rcases Nat.eq_zero_or_pos m with h0 | h0
  · omega
  · have h1 := (bitsOf_spec h0).1
    have h2 := (bitsOf_spec hn).2
    have h3 : 2 ^ (bitsOf m + 1) ≤ 2 ^ bitsOf n := Nat.pow_le_pow_right (by omega) h
    rw [Nat.pow_succ] at h3
    omega
theorem bits_start {m n s : Nat} (hn : 0 < n) (hs : bitsOf m = bitsOf n + s) : m < 2 ^ (s + 1) * n := by
  rcases Nat.eq_zero_or_pos m with h0 | h0
  · subst h0; exact Nat.mul_pos (Nat.pow_pos (by omega)) hn
  · have h1 := (bitsOf_spec h0).1
    have h2 := (bitsOf_spec hn).2
    rw [hs, Nat.add_comm, Nat.pow_add] at h1
    have h3 : 2 ^ s * 2 ^ bitsOf n ≤ 2 ^ s * (2 * n) := Nat.mul_le_mul_left _ h2
    rw [Nat.pow_succ, Nat.mul_assoc]
    omega
/-- The binary digits of the quotient from k on have been found. -/
structure BDiv (m n : Nat) (qs : List Nat) (L k r : Nat) : Prop where
  len : qs.length = L
  dgs : Dgs qs
  eq : m = val qs * n + r
  low : r < 2 ^ k * n
  dvd : 2 ^ k ∣ val qs
theorem BDiv.start {m n s : Nat} (hn : 0 < n) (hs : bitsOf m = bitsOf n + s) (L : Nat) : BDiv m n (List.replicate L 0) L (s + 1) m :=
  ⟨by simp, dgs_zeros _, by rw [val_zeros]; omega, bits_start hn hs, by rw [val_zeros]; exact Nat.dvd_zero _⟩
theorem BDiv.stay {m n L k r : Nat} {qs : List Nat} (h : BDiv m n qs L (k + 1) r) (hr : r < n * 2 ^ k) : BDiv m n qs L k r :=
  ⟨h.len, h.dgs, h.eq, by rw [Nat.mul_comm]; exact hr, Nat.dvd_trans (Nat.pow_dvd_pow 2 (Nat.le_succ k)) h.dvd⟩
/-- The digit into which a binary digit is to be set has room for it. -/
theorem BDiv.room {m n L k r : Nat} {qs : List Nat} (h : BDiv m n qs L (k + 1) r) (hi : k / 32 < qs.length) : qs[k / 32] + 2 ^ (k % 32) < 4294967296 := by
  have e := val_split qs (k / 32) (by omega)
  rw [val_drop hi] at e
  have hd := h.dgs.get hi
  have h1 : 2 ^ (k + 1) = 4294967296 ^ (k / 32) * 2 ^ (k % 32 + 1) := by
    show _ = (2 ^ 32) ^ (k / 32) * _
    rw [← Nat.pow_mul, ← Nat.pow_add]; congr 1; omega
  have h2 := h.dvd
  rw [h1, e] at h2
  have hlow := val_lt (h.dgs.take (k / 32))
  rw [List.length_take, Nat.min_eq_left (by omega)] at hlow
  have h3 : 4294967296 ^ (k / 32) ∣ val (qs.take (k / 32)) := by
    have h4 := Nat.dvd_trans (Nat.dvd_mul_right _ _) h2
    exact (Nat.dvd_add_iff_left (Nat.dvd_mul_right _ _)).2 h4
  have h5 : val (qs.take (k / 32)) = 0 := Nat.eq_zero_of_dvd_of_lt h3 hlow
  rw [h5, Nat.zero_add] at h2
  have h6 := Nat.dvd_of_mul_dvd_mul_left (Nat.pow_pos (by omega)) h2
  have h7 : 2 ^ (k % 32 + 1) ∣ 4294967296 := by
    show _ ∣ 2 ^ 32
    exact Nat.pow_dvd_pow 2 (by omega)
  have h8 : 2 ^ (k % 32 + 1) ∣ qs[k / 32] := (Nat.dvd_add_iff_left (Nat.dvd_trans h7 (Nat.dvd_mul_right _ _))).2 h6
  obtain ⟨a, ha⟩ := h8
  obtain ⟨b, hb⟩ := h7
  have h9 : a < b := by
    have : 2 ^ (k % 32 + 1) * a < 2 ^ (k % 32 + 1) * b := by rw [← ha, ← hb]; exact hd
    exact Nat.lt_of_mul_lt_mul_left this
  have h10 : 2 ^ (k % 32 + 1) * (a + 1) ≤ 2 ^ (k % 32 + 1) * b := Nat.mul_le_mul_left _ h9
  rw [← hb, Nat.mul_succ, ← ha, Nat.pow_succ] at h10
  have := Nat.pow_pos (n := k % 32) (show 0 < 2 by omega)
  omega
theorem BDiv.set {m n L k r : Nat} {qs : List Nat} (h : BDiv m n qs L (k + 1) r) (hi : k / 32 < qs.length) (hr : n * 2 ^ k ≤ r) : BDiv m n (qs.set (k / 32) (qs[k / 32] + 2 ^ (k % 32))) L k (r - n * 2 ^ k) := by
  have hroom := h.room hi
  have hv := val_set (v := qs[k / 32] + 2 ^ (k % 32)) hi
  have hk : 4294967296 ^ (k / 32) * 2 ^ (k % 32) = 2 ^ k := by
    show (2 ^ 32) ^ (k / 32) * _ = _
    rw [← Nat.pow_mul, ← Nat.pow_add]; congr 1; omega
  rw [Nat.mul_add, hk] at hv
  have hv2 : val (qs.set (k / 32) (qs[k / 32] + 2 ^ (k % 32))) = val qs + 2 ^ k := by omega
  refine ⟨by rw [List.length_set, h.len], h.dgs.set hroom, ?_, ?_, ?_⟩
  · rw [hv2, Nat.add_mul, h.eq, Nat.mul_comm (2 ^ k) n]; omega
  · have h1 := h.low
    rw [Nat.pow_succ, Nat.mul_assoc, Nat.mul_comm 2 n, ← Nat.mul_assoc, Nat.mul_comm (2 ^ k) n] at h1
    rw [Nat.mul_comm (2 ^ k) n]
    omega
  · rw [hv2]
    exact Nat.dvd_add (Nat.dvd_trans (Nat.pow_dvd_pow 2 (Nat.le_succ k)) h.dvd) (Nat.dvd_refl _)
theorem BDiv.done {m n L r : Nat} {qs : List Nat} (h : BDiv m n qs L 0 r) : val qs = m / n ∧ r = m % n := by
  have h1 := h.low
  rw [Nat.pow_zero, Nat.one_mul] at h1
  have h2 := h.eq
  constructor
  · refine (Nat.div_eq_of_lt_le ?_ ?_).symm
    · omega
    · rw [Nat.succ_mul]; omega
  · rw [h2, Nat.mul_comm, Nat.mul_add_mod, Nat.mod_eq_of_lt h1]

theorem bits_len {m l : Nat} (h : (digs m).length ≤ l) : bitsOf m ≤ 32 * l := by
  unfold bitsOf
  split
  · omega
  · have hkl : (digs m).length - 1 < (digs m).length := by omega
    have hd := (dgs_digs m).get hkl
    have hb := blen_le 32 _ hd
    rw [List.getD_eq_getElem?_getD, List.getElem?_eq_getElem hkl, Option.getD_some]
    omega
/-- What divided leaves: the quotient may have leading zeros. -/
def RDRet (w : World) (q r : Nat) (e : Ending) (w' : World) : Prop :=
  ∃ (A A2 : Option Addr) (c c2 : Nat) (qs : List Nat), e = .returned (.tuple #[.slice A qs.length c, .slice A2 (digs r).length c2]) ∧ Rd w' w'.heap.size A c qs ∧ val qs = q ∧ qs.length ≤ 100000 ∧ Rd w' w'.heap.size A2 c2 (digs r) ∧ Gr w w'

set_option maxHeartbeats 1600000 in
set_option maxRecDepth 1000000 in
theorem rdivided_two {B m n c1 c2 : Nat} {A1 A2 : Option Addr} (w : World) (h1 : Rd w B A1 c1 (digs m)) (h2 : Rd w B A2 c2 (digs n)) (hB : B ≤ w.heap.size) (hm : (digs m).length ≤ 2) (hn2 : (digs n).length ≤ 2) (hn : 0 < n) :
    Calls Tryd.prog 73 #[.slice A1 (digs m).length c1, .slice A2 (digs n).length c2] w (RDRet w (m / n) (m % n)) := by
  have hml : m < 18446744073709551616 := Nat.lt_of_lt_of_le (lt_digs m) (Nat.pow_le_pow_right (n := 4294967296) (by omega) hm)
  have hnl : n < 18446744073709551616 := Nat.lt_of_lt_of_le (lt_digs n) (Nat.pow_le_pow_right (n := 4294967296) (by omega) hn2)
  have hdl : m / n ≤ m := Nat.div_le_self _ _
  have hmo : m % n ≤ m := Nat.mod_le _ _
  have HW1 := Lib.hid (fun W (hg : Below B w W) => rword_any W (h1.below hg) hm)
  have HW2 := Lib.hid (fun W (hg : Below B w W) => rword_any W (h2.below hg) hn2)
  rw [val_digs] at HW1 HW2
  have HS1 := Lib.hid (fun W => rsplit_any (x := m / n) W (by omega))
  have HS2 := Lib.hid (fun W => rsplit_any (x := m % n) W (by omega))
  have e1 : (m : Int) / (n : Int) = ((m / n : Nat) : Int) := by omega
  have e2 : (m : Int) % (n : Int) = ((m % n : Nat) : Int) := by omega
  have e3 : (m : Int).tdiv (n : Int) = ((m / n : Nat) : Int) := rfl
  have e4 : (m : Int).tmod (n : Int) = ((m % n : Nat) : Int) := rfl
  have e5 : IntKind.u64.wrap ((m / n : Nat) : Int) = ((m / n : Nat) : Int) := IntWalk.u64_in _ ⟨Int.natCast_nonneg _, by omega⟩
  have e6 : IntKind.u64.wrap ((m % n : Nat) : Int) = ((m % n : Nat) : Int) := IntWalk.u64_in _ ⟨Int.natCast_nonneg _, by omega⟩
  have hb1 : decide (((digs m).length : Int) ≤ 2) = true := decide_eq_true (by omega)
  have hb2 : decide (((digs n).length : Int) ≤ 2) = true := decide_eq_true (by omega)
  have hb1n : ((digs m).length : Int) ≤ 2 := by omega
  have hb2n : ((digs n).length : Int) ≤ 2 := by omega
  have hn0 : ((n : Int) == 0) = false := by rw [beq_eq_false_iff_ne]; omega
  have hn1 : (0 : Int) < (n : Int) := by omega
  have HQL : Hid ((digs (m / n)).length ≤ 100000) := Nat.le_trans (digs_len_mono hdl) (by omega)
  have HML := Lib.hid hml
  have HNL := Lib.hid hnl
  clear h1 h2 hm hn2 hml hnl hdl hmo
  generalize m / n = Q at *
  generalize m % n = R at *
  generalize (digs m).length = la at *
  generalize (digs n).length = lb at *
  go_enter Tryd.func73, Tryd.ntmps73
  go_wp2_with (first
    | (go_at_call 96; ((with_reducible refine (HW1.out _ (Below.refl _ _)).mono ?_); rintro e w' ⟨rfl, rfl⟩))
    | (go_at_call 96; ((with_reducible refine (HW2.out _ (Below.refl _ _)).mono ?_); rintro e w' ⟨rfl, rfl⟩))
    | (go_at_call 95; fail))
  refine (HS1.out _).mono ?_
  rintro e w1 ⟨A3, c3, rfl, r3, f3, b3⟩
  have R3 := Lib.hid r3
  have G1 : Hid (Gr w w1) := b3
  have HB1 : Hid (Below B w w1) := b3.mono hB
  clear r3 f3 b3
  go_wp2_with (first
    | (go_at_call 96; ((with_reducible refine (HW1.out _ HB1.out).mono ?_); rintro e w' ⟨rfl, rfl⟩))
    | (go_at_call 96; ((with_reducible refine (HW2.out _ HB1.out).mono ?_); rintro e w' ⟨rfl, rfl⟩))
    | (go_at_call 95; fail))
  refine (HS2.out _).mono ?_
  rintro e w2 ⟨A4, c4, rfl, r4, f4, b4⟩
  have R3b := Lib.hid ((R3.out.below b4).mono b4.size)
  have R4 := Lib.hid r4
  have G2 : Hid (Gr w w2) := G1.out.call b4
  clear r4 f4 b4
  go_wp2
  go_ret2
  exact ⟨A3, A4, c3, c4, digs Q, rfl, R3b.out, val_digs _, HQL.out, R4.out, G2.out⟩

set_option maxHeartbeats 1600000 in
set_option maxRecDepth 1000000 in
theorem rdivided_low {B m n c1 c2 : Nat} {A1 A2 : Option Addr} (w : World) (h1 : Rd w B A1 c1 (digs m)) (h2 : Rd w B A2 c2 (digs n)) (hB : B ≤ w.heap.size) (hm : (digs m).length ≤ 1000) (hn2 : (digs n).length ≤ 1000) (hbig : 2 < (digs m).length ∨ 2 < (digs n).length) (hn : 0 < n) (hbl : bitsOf m < bitsOf n) :
    Calls Tryd.prog 73 #[.slice A1 (digs m).length c1, .slice A2 (digs n).length c2] w (RDRet w (m / n) (m % n)) := by
  have hlt := bits_lt hbl hn
  have HB1 := Lib.hid (fun W (hg : Below B w W) (hs : B ≤ W.heap.size) => rbits_any false W (h1.below hg) hs (by omega))
  have HB2 := Lib.hid (fun W (hg : Below B w W) (hs : B ≤ W.heap.size) => rbits_any false W (h2.below hg) hs (by omega))
  rw [val_digs] at HB1 HB2
  have hmn : bitsOf m ≤ 32000 ∧ bitsOf n ≤ 32000 := ⟨bits_len hm, bits_len hn2⟩
  have hbi : ((bitsOf m : Int) - (bitsOf n : Int)) < 0 := by omega
  have hm1i : (bitsOf m : Int) ≤ 32000 := by omega
  have hn1i : (bitsOf n : Int) ≤ 32000 := by omega
  have HR : Hid (∀ W : World, Gr w W → RDRet w (m / n) (m % n) (.returned (.tuple #[.slice none 0 0, .slice A1 (digs m).length c1])) W) := fun W hg => by
    rw [Nat.div_eq_of_lt hlt, Nat.mod_eq_of_lt hlt]
    exact ⟨none, A1, 0, c1, [], rfl, Rd.nil _ _, rfl, by simp, (h1.below (Below.mono hg hB)).mono (Nat.le_trans hB hg.size), hg⟩
  have hguard : (((digs m).length : Int) ≤ 2 ∧ ¬ ((digs n).length : Int) ≤ 2) ∨ ¬ ((digs m).length : Int) ≤ 2 := by omega
  clear h1 h2 hm hn2 hlt hmn hbl hbig
  generalize bitsOf m = bm at *
  generalize bitsOf n = bn at *
  generalize (digs m).length = la at *
  generalize (digs n).length = lb at *
  rcases hguard with ⟨g1, g2⟩ | g1
  all_goals
    go_enter Tryd.func73, Tryd.ntmps73
    go_wp2_with (go_at_call 25; fail)
    refine (HB1.out _ (Below.refl _ _) hB).mono ?_
    rintro e w1 ⟨rfl, b1⟩
    have G1 : Hid (Gr w w1) := b1
    have K1 : Hid (Below B w w1 ∧ B ≤ w1.heap.size) := ⟨b1.mono hB, Nat.le_trans hB b1.size⟩
    clear b1
    go_wp2_with (go_at_call 25; fail)
    refine (HB2.out _ K1.out.1 K1.out.2).mono ?_
    rintro e w2 ⟨rfl, b2⟩
    have G2 : Hid (Gr w w2) := G1.out.call b2
    clear b2
    go_wp2
    go_ret2
    exact HR.out w2 G2.out

set_option maxHeartbeats 1600000 in
set_option maxRecDepth 1000000 in
theorem rdivided_loop {B m n s c1 c2 : Nat} {A1 A2 : Option Addr} (w : World) (h1 : Rd w B A1 c1 (digs m)) (h2 : Rd w B A2 c2 (digs n)) (hB : B ≤ w.heap.size) (hm : (digs m).length ≤ 1000) (hn2 : (digs n).length ≤ 1000) (hbig : 2 < (digs m).length ∨ 2 < (digs n).length) (hn : 0 < n) (hbl : bitsOf m = bitsOf n + s) :
    Calls Tryd.prog 73 #[.slice A1 (digs m).length c1, .slice A2 (digs n).length c2] w (RDRet w (m / n) (m % n)) := by
  have HB1 := Lib.hid (fun W (hg : Below B w W) (hs : B ≤ W.heap.size) => rbits_any false W (h1.below hg) hs (by omega))
  have HB2 := Lib.hid (fun W (hg : Below B w W) (hs : B ≤ W.heap.size) => rbits_any false W (h2.below hg) hs (by omega))
  rw [val_digs] at HB1 HB2
  have hbm := bits_len hm
  have hbn := bits_len hn2
  have hbi : ((bitsOf m : Int) - (bitsOf n : Int)) = (s : Int) := by omega
  have hm1i : (bitsOf m : Int) ≤ 32000 := by omega
  have hn1i : (bitsOf n : Int) ≤ 32000 := by omega
  have hs : s ≤ 32000 := by omega
  obtain ⟨L, hL⟩ : ∃ L, s / 32 + 1 = L := ⟨_, rfl⟩
  have hLi : (s : Int) / 32 + 1 = (L : Int) := by omega
  have hL1 : L ≤ 1001 := by omega
  have hL2 : s < 32 * L := by omega
  have HMK := Lib.hid (fun W => make_zeros (n := L) (L : Int) W rfl (by omega))
  have HSH : Hid (∀ (W : World) (k : Nat), Below B w W → B ≤ W.heap.size → k ≤ 32000 → Calls Tryd.prog 97 #[.slice A2 (digs n).length c2, .int .i64 k] W (MagRet W (n * 2 ^ k))) := fun W k hg hs hk => by
    have := rshifted_any (wh := k / 32) (pt := k % 32) W (h2.below hg) hs (by omega) (by omega) (by omega) (show k = 32 * (k / 32) + k % 32 by omega)
    rwa [val_digs] at this
  have HD0 := Lib.hid (BDiv.start hn hbl L)
  have HX := Lib.hid h1
  have HNE0 : Hid (∀ a, A1 = some a → ∀ W : World, w.heap.size ≤ W.heap.size → a.block ≠ W.heap.size) := fun a ha W hW => by
    have hm0 : 0 < m := by
      rcases Nat.eq_zero_or_pos m with h0 | h0
      · exfalso
        have e1 : bitsOf m = 0 := by rw [h0]; unfold bitsOf; rw [digs_zero]; rfl
        have e2 := (bitsOf_spec hn).1
        have e3 : bitsOf n = 0 := by omega
        rw [e3] at e2
        omega
      · exact h0
    obtain ⟨b, o, e, hb, _⟩ := h1.2.2.2.1 (digs_pos_len hm0)
    rw [e] at ha
    injection ha with ha
    rw [← ha]
    show b ≠ _
    omega
  have hguard : (((digs m).length : Int) ≤ 2 ∧ ¬ ((digs n).length : Int) ≤ 2) ∨ ¬ ((digs m).length : Int) ≤ 2 := by omega
  have HML := Lib.hid (show ∀ r, r ≤ m → (digs r).length ≤ 1000 from fun r hr => Nat.le_trans (digs_len_mono hr) hm)
  clear h1 h2 hm hn2 hbl hbig hL hbm hbn
  generalize bitsOf m = bm at *
  generalize bitsOf n = bn at *
  generalize (digs n).length = lb at *
  rcases hguard with ⟨g1, g2⟩ | g1
  all_goals
    go_enter Tryd.func73, Tryd.ntmps73
    go_wp2_with (go_at_call 25; fail)
    refine (HB1.out _ (Below.refl _ _) hB).mono ?_
    rintro e w1 ⟨rfl, b1⟩
    have G1 : Hid (Gr w w1) := b1
    have K1 : Hid (Below B w w1 ∧ B ≤ w1.heap.size) := ⟨b1.mono hB, Nat.le_trans hB b1.size⟩
    clear b1
    go_wp2_with (go_at_call 25; fail)
    refine (HB2.out _ K1.out.1 K1.out.2).mono ?_
    rintro e w2 ⟨rfl, b2⟩
    have G2 : Hid (Gr w w2) := G1.out.call b2
    have HO0 := Lib.hid (own_zeros w2 L)
    have hmk := HMK.out w2
    have hs2 := G2.out.size
    have HNE : Hid (∀ a, A1 = some a → a.block ≠ w2.heap.size) := fun a ha => HNE0.out a ha w2 hs2
    have HX2 := Lib.hid ((HX.out.below (Below.mono G2.out hB)).mono (Nat.le_trans hB hs2))
    have HXA : Hid (Rd (w2.alloc (.cells (Array.replicate L (.int .u32 0)) 64)) (w2.alloc (.cells (Array.replicate L (.int .u32 0)) 64)).heap.size A1 c1 (digs m)) := (HX2.out.alloc (Nat.le_refl _) _).mono (by rw [World.size_alloc]; omega)
    clear b2 HB1 HB2 HMK K1 G1 HX HX2
    go_wp2
    clear hmk
    go_loopw [6, 9, 10] (fun V J _ wr => ∃ (k r : Nat) (z : Int) (A : Option Addr) (c : Nat) (qs : List Nat), J = .int .i64 z ∧ z = (k : Int) - 1 ∧ k ≤ s + 1 ∧ V = .slice A (digs r).length c ∧ Hid (BDiv m n qs L k r) ∧ Hid (Own wr w2.heap.size 0 qs) ∧ Hid (Gr w2 wr) ∧ Hid (Rd wr wr.heap.size A c (digs r)) ∧ Hid (∀ a, A = some a → a.block ≠ w2.heap.size) ∧ Hid (r ≤ m)) (fun _ J _ _ => (intOf J + 1).toNat)
    case atStart => exact ⟨s + 1, m, _, A1, c1, _, rfl, by omega, Nat.le_refl _, rfl, HD0.out, HO0.out, (Gr.refl _).alloc _, HXA.out, HNE.out, Nat.le_refl _⟩
    case round =>
      obtain ⟨k, r, z, A, c, qs, rfl, hz, hk, rfl, HS, HO, HG, HR, HN, HRM⟩ := hrel
      cases k with
      | zero =>
        obtain rfl : z = -1 := by omega
        clear hz
        obtain ⟨r1, r2⟩ := HS.out.done
        have hql := HS.out.len
        have HQR : Hid (Rd wr wr.heap.size (some ⟨w2.heap.size, 0, none⟩) L qs) := HO.out.rd (by omega) (by unfold maxLen; omega) HO.out.lt
        have HRES : Hid (RDRet w (m / n) (m % n) (.returned (.tuple #[.slice (some ⟨w2.heap.size, 0, none⟩) L L, .slice A (digs r).length c])) wr) := ⟨_, A, _, c, qs, by rw [hql, r2], HQR.out, r1, by omega, by rw [← r2]; exact HR.out, G2.out.trans HG.out⟩
        clear r1 r2 hql
        go_wp2
        go_ret2
        exact HRES.out
      | succ k =>
        obtain rfl : z = (k : Int) := by omega
        clear hz
        have hks : k ≤ 32000 := by omega
        have hki : (k : Int) ≤ 32000 := by omega
        obtain ⟨wo, rfl⟩ : ∃ wo : World, wo = wr := ⟨_, rfl⟩
        have hgo := HG.out.size
        have HSW : Hid (Calls Tryd.prog 97 #[.slice A2 lb c2, .int .i64 k] wo (MagRet wo (n * 2 ^ k))) := HSH.out wo k (Below.mono (G2.out.trans HG.out) hB) (by omega) hks
        have hrl := HML.out r HRM.out
        go_wp2_with (go_at_call 97; fail)
        refine HSW.out.mono ?_
        rintro e w3 ⟨A3, c3, rfl, r3, f3, b3⟩
        have G3 : Hid (Gr w2 w3) := HG.out.call b3
        have HO3 := Lib.hid (HO.out.below b3 HO.out.lt)
        have HR3 := Lib.hid ((HR.out.below b3).mono b3.size)
        have HT3 := Lib.hid r3
        have HBW := Lib.hid (rbelow_any w3 HR3.out HT3.out (by omega))
        clear r3 f3 b3 HSW HO HG HR
        go_wp2_with (go_at_call 66; fail)
        refine HBW.out.mono ?_
        rintro e w' ⟨rfl, q, rfl⟩
        by_cases hlt : r < n * 2 ^ k
        · have hd : decide (r < n * 2 ^ k) = true := decide_eq_true hlt
          have HS4 := Lib.hid (HS.out.stay hlt)
          have G4 : Hid (Gr w2 (w3.drewN q)) := G3.out.drewN q
          have HO4 : Hid (Own (w3.drewN q) w2.heap.size 0 qs) := HO3.out.drewN q
          have HR4 : Hid (Rd (w3.drewN q) (w3.drewN q).heap.size A c (digs r)) := HR3.out.drewN q
          rw [hd]
          clear hd hlt
          go_wp2
          go_roundw
          case rel => exact ⟨k, r, _, A, c, qs, rfl, by omega, by omega, rfl, HS4.out, HO4.out, G4.out, HR4.out, HN.out, HRM.out⟩
          case measure => simp [intOf]
        · have hd : decide (r < n * 2 ^ k) = false := decide_eq_false hlt
          have hge : n * 2 ^ k ≤ r := Nat.le_of_not_lt hlt
          have hql := HS.out.len
          have hi : k / 32 < qs.length := by omega
          have hroom := HS.out.room hi
          have HS4 := Lib.hid (HS.out.set hi hge)
          have HMI : Hid (Calls Tryd.prog 67 #[.slice A (digs r).length c, .slice A3 (digs (n * 2 ^ k)).length c3] (w3.drewN q) (fun e w4 => ∃ (A5 : Option Addr) (c5 : Nat) (zs : List Nat), e = .returned (.slice A5 zs.length c5) ∧ Rd w4 w4.heap.size A5 c5 zs ∧ val zs = r - n * 2 ^ k ∧ zs.length ≤ 1000 ∧ Gr (w3.drewN q) w4)) := by
            have := rminus_any (w3.drewN q) (HR3.out.drewN q) (HT3.out.drewN q) (Nat.le_refl _) (by omega) (digs_len_mono hge) (by rw [val_digs, val_digs]; exact hge)
            rw [val_digs, val_digs] at this
            exact this.mono fun e w4 ⟨A5, c5, zs, a1, a2, a3, a4, a5⟩ => ⟨A5, c5, zs, a1, a2, a3, by omega, a5⟩
          have HRM4 : Hid (r - n * 2 ^ k ≤ m) := Nat.le_trans (Nat.sub_le _ _) HRM.out
          have hgt := HO3.out.lt
          rw [hd]
          clear hd hlt hge HR3 HT3 HBW
          generalize r - n * 2 ^ k = r' at *
          generalize n * 2 ^ k = t at *
          go_wp2_with (go_at_call 67; fail)
          refine HMI.out.mono ?_
          rintro e w4 ⟨A5, c5, zs, rfl, r5, v5, l5, g5⟩
          have G4 : Hid (Gr w2 w4) := (G3.out.drewN q).trans g5
          have HO4 : Hid (Own w4 w2.heap.size 0 qs) := (HO3.out.drewN q).below g5 hgt
          have HTW : Hid (Calls Tryd.prog 62 #[.slice A5 zs.length c5] w4 (MagRet w4 r')) := by
            have := rtrim_any w4 r5 (Nat.le_refl _) (by omega)
            rwa [v5] at this
          clear r5 v5 l5 g5 HMI HO3
          go_wp2_with (go_at_call 62; fail)
          refine HTW.out.mono ?_
          rintro e w5 ⟨A6, c6, rfl, r6, f6, b6⟩
          have hs4 := G4.out.size
          have hlt4 := HO4.out.lt
          have G5 : Hid (Gr w2 w5) := G4.out.call b6
          have HO5 := Lib.hid (HO4.out.below b6 hlt4)
          have hcz := HO5.out.cell hi
          have hfz := HO5.out.free (k / 32)
          rw [Nat.zero_add] at hcz
          have HN6 : Hid (∀ a, A6 = some a → a.block ≠ w2.heap.size) := fun a ha => by have := f6 a ha; omega
          have HR6 : Hid (∀ u : Value, Rd (w5.setCell ⟨w2.heap.size, k / 32, none⟩ u) (w5.setCell ⟨w2.heap.size, k / 32, none⟩ u).heap.size A6 c6 (digs r')) := fun u => by
            have := r6.far (p := ⟨w2.heap.size, k / 32, none⟩) (fun a ha => HN6.out a ha) u
            rwa [show (w5.setCell ⟨w2.heap.size, k / 32, none⟩ u).heap.size = w5.heap.size by simp [World.setCell]]
          have HOS := Lib.hid (HO5.out.setCell hi hroom)
          simp only [Nat.zero_add] at HOS
          have HGS : Hid (∀ u : Value, Gr w2 (w5.setCell ⟨w2.heap.size, k / 32, none⟩ u)) := fun u => G5.out.setOne (Nat.le_refl _) _ u
          have hp31 : 2 ^ (k % 32) ≤ 2147483648 := Nat.pow_le_pow_right (n := 2) (by omega) (show k % 32 ≤ 31 by omega)
          generalize hDD : qs[k / 32] = D at *
          clear hDD
          obtain ⟨pt, hpt⟩ : ∃ pt, k % 32 = pt := ⟨_, rfl⟩
          obtain ⟨wh, hwh⟩ : ∃ wh, k / 32 = wh := ⟨_, rfl⟩
          rw [hpt] at hp31 hroom HS4 HOS
          rw [hwh] at HS4 HOS HGS HR6 hcz hfz hi
          have q1 : (k : Int) / 32 = (wh : Int) := by omega
          have q2 : (k : Int) % 32 = (pt : Int) := by omega
          have q3 : IntKind.u64.wrap (pt : Int) = (pt : Int) := IntWalk.u64_in _ (by omega)
          have hpi : (pt : Int) < 32 := by omega
          have hwL : wh < L := by omega
          have HWH := Lib.hid hwh
          have HPT := Lib.hid hpt
          clear r6 f6 b6 HTW hwh hpt
          obtain ⟨P, hP⟩ : ∃ P : Nat, 2 ^ pt = P := ⟨_, rfl⟩
          have hPI : (2 : Int) ^ pt = (P : Int) := by rw [← hP, Int.natCast_pow]; rfl
          rw [hP] at hp31 hroom HS4 HOS
          obtain ⟨E, hE⟩ : ∃ E : Nat, D + P = E := ⟨_, rfl⟩
          rw [hE] at hroom HS4 HOS
          have e1 : IntKind.u32.wrap (P : Int) = (P : Int) := by rw [IntKind.wrap_u32]; omega
          have e3 : (D : Int) + (P : Int) = (E : Int) := by omega
          have e4 : IntKind.u32.wrap (E : Int) = (E : Int) := by rw [IntKind.wrap_u32]; omega
          have HP := Lib.hid hP
          have HE := Lib.hid hE
          clear hP hE
          go_wp2
          go_roundw
          case rel => exact ⟨k, r', _, A6, c6, _, rfl, by omega, by omega, rfl, HS4.out, HOS.out, HGS.out _, HR6.out _, HN6.out, HRM4.out⟩
          case measure => simp [intOf]

theorem rdivided_any {B m n c1 c2 : Nat} {A1 A2 : Option Addr} (w : World) (h1 : Rd w B A1 c1 (digs m)) (h2 : Rd w B A2 c2 (digs n)) (hB : B ≤ w.heap.size) (hm : (digs m).length ≤ 1000) (hn2 : (digs n).length ≤ 1000) (hn : 0 < n) :
    Calls Tryd.prog 73 #[.slice A1 (digs m).length c1, .slice A2 (digs n).length c2] w (RDRet w (m / n) (m % n)) := by
  by_cases h : (digs m).length ≤ 2 ∧ (digs n).length ≤ 2
  · exact rdivided_two w h1 h2 hB h.1 h.2 hn
  · rcases Nat.lt_or_ge (bitsOf m) (bitsOf n) with hb | hb
    · exact rdivided_low w h1 h2 hB hm hn2 (by omega) hn hb
    · exact rdivided_loop (s := bitsOf m - bitsOf n) w h1 h2 hB hm hn2 (by omega) hn (by omega)
end Go.Proofs.YtbijjiadokgmoaaDoor
namespace Go.Proofs.YtbijjiadokgmoaaDoor
open Go.RowKit

theorem Both.fin3 {w wd W : World} {x1 y1 x2 y2 x3 y3 : Value} {gx gy g7 : Nat} {x y z7 : Int} (h7 : IntAt w wd g7 z7) (h : Both w wd W x1 y1 x2 y2 x3 y3 gx gy x y) : ∃ g5 g6, Value.pointer (some ⟨gx, 0, none⟩) = Value.pointer (some ⟨g5, 0, none⟩) ∧ Value.pointer (some ⟨gy, 0, none⟩) = Value.pointer (some ⟨g6, 0, none⟩) ∧ Hid (RSt w W x1 y1 x2 y2 x3 y3) ∧ Hid (IntAt w W g7 z7) ∧ Hid (IntAt w W g5 x) ∧ Hid (IntAt w W g6 y) ∧ Hid (wd.heap.size ≤ g5 ∧ wd.heap.size ≤ g6) :=
  ⟨gx, gy, rfl, rfl, h.st, h.old _ _ h7, h.fst, h.snd, h.lx, h.ly⟩
theorem int_zero (w W : World) (h : w.heap.size + 3 ≤ W.heap.size) : IntAt w (W.alloc (.cells #[.bool false, .slice none 0 0] 24)) W.heap.size 0 := by
  have e : digs (0 : Int).natAbs = [] := digs_zero
  refine ⟨h, none, 0, ?_, none, 0, rfl, ?_, fun a ha => by cases ha⟩
  · rw [e]; exact TwoAt.new _ _ _
  · rw [e]; exact Rd.nil _ _
theorem IntIv.intIn {w V : World} {lo hi c : Nat} {A : Option Addr} {z : Int} (h : IntIv lo hi V A c z) (hw : w.heap.size ≤ lo) : IntIn w V (.agg #[.bool (decide (z < 0)), .slice A (digs z.natAbs).length c]) z :=
  ⟨A, c, rfl, h.rd.mono h.top, fun a ha => Nat.le_trans hw (h.low a ha)⟩
/-- What Euclid leaves. -/
def EuRet (w : World) (q r : Int) (e : Ending) (w' : World) : Prop :=
  ∃ v1 v2, e = .returned (.tuple #[v1, v2]) ∧ IntIn w w' v1 q ∧ IntIn w w' v2 r ∧ Below w.heap.size w w'
theorem eu_low {a b : Int} (hb : 0 < b.natAbs) (hc : decide (a < 0) = false ∨ a.natAbs % b.natAbs = 0) : sgn (!(decide (a < 0) == decide (b < 0))) (a.natAbs / b.natAbs) = a / b ∧ ((a.natAbs % b.natAbs : Nat) : Int) = a % b := by
  have h := sgn_div (n1 := decide (a < 0)) (n2 := decide (b < 0)) hb hc
  rw [sgn_self, sgn_self] at h
  exact ⟨h.1.symm, h.2.symm⟩
theorem eu_up {a b : Int} (hb : 0 < b.natAbs) (ha : decide (a < 0) = true) (hr : 0 < a.natAbs % b.natAbs) : sgn (!(decide (b < 0))) (a.natAbs / b.natAbs + 1) = a / b ∧ (b.natAbs : Int) - ((a.natAbs % b.natAbs : Nat) : Int) = a % b := by
  have h := sgn_div_up (n2 := decide (b < 0)) hb hr
  have e := sgn_self a
  rw [ha] at e
  rw [e, sgn_self] at h
  have hm := Nat.mod_lt a.natAbs hb
  refine ⟨by rw [h.1]; simp, ?_⟩
  rw [h.2]
  unfold sgn
  simp
  omega
theorem cells5 {W : World} {a b c : Nat} {x1 y1 x2 y2 x3 y3 : Value} (h1 : TwoAt W a x1 y1) (h2 : TwoAt W b x2 y2) (h3 : TwoAt W c x3 y3) : W.cell? ⟨a, 0, none⟩ = some x1 ∧ W.cell? ⟨b, 0, none⟩ = some x2 ∧ W.cell? ⟨b, 1, none⟩ = some y2 ∧ W.cell? ⟨c, 0, none⟩ = some x3 ∧ W.cell? ⟨c, 1, none⟩ = some y3 :=
  ⟨h1.reads.1, h2.reads.1, h2.reads.2.1, h3.reads.1, h3.reads.2.1⟩
theorem cells5_set {W : World} {a b c g : Nat} {x1 x2 y2 x3 y3 : Value} (h : W.cell? ⟨a, 0, none⟩ = some x1 ∧ W.cell? ⟨b, 0, none⟩ = some x2 ∧ W.cell? ⟨b, 1, none⟩ = some y2 ∧ W.cell? ⟨c, 0, none⟩ = some x3 ∧ W.cell? ⟨c, 1, none⟩ = some y3) (n1 : a ≠ g) (n2 : b ≠ g) (n3 : c ≠ g) (x y : Value) :
    ((W.setCell ⟨g, 0, none⟩ x).setCell ⟨g, 1, none⟩ y).cell? ⟨a, 0, none⟩ = some x1 ∧ ((W.setCell ⟨g, 0, none⟩ x).setCell ⟨g, 1, none⟩ y).cell? ⟨b, 0, none⟩ = some x2 ∧ ((W.setCell ⟨g, 0, none⟩ x).setCell ⟨g, 1, none⟩ y).cell? ⟨b, 1, none⟩ = some y2 ∧ ((W.setCell ⟨g, 0, none⟩ x).setCell ⟨g, 1, none⟩ y).cell? ⟨c, 0, none⟩ = some x3 ∧ ((W.setCell ⟨g, 0, none⟩ x).setCell ⟨g, 1, none⟩ y).cell? ⟨c, 1, none⟩ = some y3 :=
  ⟨cell_two h.1 n1, cell_two h.2.1 n2, cell_two h.2.2.1 n2, cell_two h.2.2.2.1 n3, cell_two h.2.2.2.2 n3⟩
theorem rd_one (w : World) : Rd (w.alloc (.cells #[.int .u32 1] 64)) (w.heap.size + 1) (some ⟨w.heap.size, 0, none⟩) 1 [1] :=
  (own_new w (ds := [1]) (cs := #[.int .u32 ((1 : Nat) : Int)]) (dgs_cons (by omega) dgs_nil) rfl).rd (c := 1) (B := w.heap.size + 1) (by simp) (by unfold maxLen; omega) (by omega)

set_option maxHeartbeats 0 in
set_option maxRecDepth 1000000 in
theorem reuclid_any {B k1 k2 : Nat} {A1 A2 : Option Addr} {xs ys : List Nat} (n1 n2 : Bool) (w : World) (h1 : Rd w B A1 k1 xs) (h2 : Rd w B A2 k2 ys) (hB : B ≤ w.heap.size) (l1 : xs.length ≤ 1000) (l2 : ys.length ≤ 1000) (hy0 : 0 < val ys) :
    Calls Tryd.prog 41 #[.agg #[.bool n1, .slice A1 xs.length k1], .agg #[.bool n2, .slice A2 ys.length k2]] w (EuRet w (sgn n1 (val xs) / sgn n2 (val ys)) (sgn n1 (val xs) % sgn n2 (val ys))) := by
  have HRa := Lib.hid (Raw.mk (n := n1) h1 l1)
  have HRb := Lib.hid (Raw.mk (n := n2) h2 l2)
  have HLa := Lib.hid (digs_len HRa.out.len)
  have HLb := Lib.hid (digs_len HRb.out.len)
  have HY0 : Hid (0 < (sgn n2 (val ys)).natAbs) := by show 0 < _; rw [sgn_abs]; exact hy0
  clear h1 h2 hy0
  generalize sgn n1 (val xs) = a at *
  generalize sgn n2 (val ys) = b at *
  generalize xs.length = la at *
  generalize ys.length = lb at *
  have HS0 : Hid (RSt w ((((w.alloc (.cells #[.bool n1, .slice A1 la k1] 24)).alloc (.cells #[.bool n2, .slice A2 lb k2] 24)).alloc (.cells #[.bool false, .slice none 0 0] 24)).alloc (.cells #[.bool false, .slice none 0 0] 24)) (.bool n1) (.slice A1 la k1) (.bool n2) (.slice A2 lb k2) (.bool false) (.slice none 0 0)) := (rst_boxes w _ _ _ _ _ _).next ((Gr.refl _).alloc _)
  have HW4 : Hid (IntAt w ((((w.alloc (.cells #[.bool n1, .slice A1 la k1] 24)).alloc (.cells #[.bool n2, .slice A2 lb k2] 24)).alloc (.cells #[.bool false, .slice none 0 0] 24)).alloc (.cells #[.bool false, .slice none 0 0] 24)) (w.heap.size + 3) 0) := by
    have := int_zero w (((w.alloc (.cells #[.bool n1, .slice A1 la k1] 24)).alloc (.cells #[.bool n2, .slice A2 lb k2] 24)).alloc (.cells #[.bool false, .slice none 0 0] 24)) (by simp)
    rwa [show (((w.alloc (.cells #[.bool n1, .slice A1 la k1] 24)).alloc (.cells #[.bool n2, .slice A2 lb k2] 24)).alloc (.cells #[.bool false, .slice none 0 0] 24)).heap.size = w.heap.size + 3 by simp] at this
  go_enter Tryd.func41, Tryd.ntmps41
  obtain ⟨wd, hwd⟩ : ∃ wd : World, wd = ((((w.alloc (.cells #[.bool n1, .slice A1 la k1] 24)).alloc (.cells #[.bool n2, .slice A2 lb k2] 24)).alloc (.cells #[.bool false, .slice none 0 0] 24)).alloc (.cells #[.bool false, .slice none 0 0] 24)) := ⟨_, rfl⟩
  have HWD := Lib.hid hwd
  rw [← hwd] at HS0 HW4
  have hwds : wd.heap.size = w.heap.size + 4 := by rw [hwd]; simp
  have HWS := Lib.hid hwds
  clear hwd hwds
  have HS := HS0
  obtain ⟨x1, x2, x3, x4, x5, x6⟩ := HS.out.cells
  go_upto_region 1 with fail
  rw [← HWD.out]
  go_cut [6, 7] (fun s5 s6 wx => ∃ g5 g6 : Nat, s5 = .pointer (some ⟨g5, 0, none⟩) ∧ s6 = .pointer (some ⟨g6, 0, none⟩) ∧ Hid (RSt w wx (.bool n1) (.slice A1 la k1) (.bool n2) (.slice A2 lb k2) (.bool false) (.slice none 0 0)) ∧ Hid (IntAt w wx (w.heap.size + 3) 0) ∧ Hid (IntAt w wx g5 a) ∧ Hid (IntAt w wx g6 b) ∧ Hid (wd.heap.size ≤ g5 ∧ wd.heap.size ≤ g6))
  case first =>
    have S0 : Hid (RSt w wd.drew (.bool n1) (.slice A1 la k1) (.bool n2) (.slice A2 lb k2) (.bool false) (.slice none 0 0)) := HS.out.next (Gr.refl _).drew
    have G0_0 : Hid (Gr wd wd.drew) := (Gr.refl _).drew
    have S0a : Hid (RSt w (wd.alloc (.cells #[.bool false, .slice none 0 0] 24)).drew (.bool n1) (.slice A1 la k1) (.bool n2) (.slice A2 lb k2) (.bool false) (.slice none 0 0)) := HS.out.next ((Gr.refl _).alloc _).drew
    have G0_0a : Hid (Gr wd (wd.alloc (.cells #[.bool false, .slice none 0 0] 24)).drew) := ((Gr.refl _).alloc _).drew
    have S0aa : Hid (RSt w ((wd.alloc (.cells #[.bool false, .slice none 0 0] 24)).alloc (.cells #[.bool false, .slice none 0 0] 24)).drew (.bool n1) (.slice A1 la k1) (.bool n2) (.slice A2 lb k2) (.bool false) (.slice none 0 0)) := HS.out.next (((Gr.refl _).alloc _).alloc _).drew
    have G0_0aa : Hid (Gr wd ((wd.alloc (.cells #[.bool false, .slice none 0 0] 24)).alloc (.cells #[.bool false, .slice none 0 0] 24)).drew) := (((Gr.refl _).alloc _).alloc _).drew
    go_region_held3 (fun w' => w'.cell? ⟨w.heap.size, 0, none⟩ = some (.bool n1) ∧ w'.cell? ⟨w.heap.size, 1, none⟩ = some (.slice A1 la k1) ∧ w'.cell? ⟨w.heap.size + 1, 0, none⟩ = some (.bool n2) ∧ w'.cell? ⟨w.heap.size + 1, 1, none⟩ = some (.slice A2 lb k2) ∧ w'.cell? ⟨w.heap.size + 1 + 1, 0, none⟩ = some (.bool false) ∧ w'.cell? ⟨w.heap.size + 1 + 1, 1, none⟩ = some (.slice none 0 0))
      (with_reducible first | exact S0.out.cells | exact S0a.out.cells | exact S0aa.out.cells | exact S1.out.cells | exact S1a.out.cells | exact S1aa.out.cells | exact S2.out.cells | exact S2a.out.cells | exact S2aa.out.cells | ((with_reducible refine RSt.cells (RSt.set2 ?_ ?_ _ _)) <;> first | with_reducible exact S2.out | with_reducible exact S2a.out | with_reducible exact S2.out.next ((Gr.refl _).alloc _) | with_reducible exact HS.out.size | with_reducible exact S1.out.size | with_reducible exact S2.out.size | with_reducible exact Nat.le_succ_of_le HS.out.size | with_reducible exact Nat.le_succ_of_le S1.out.size | with_reducible exact Nat.le_succ_of_le S2.out.size) | ((with_reducible refine RSt.cells (RSt.set2 (RSt.set2 ?_ ?_ _ _) ?_ _ _)) <;> first | with_reducible exact S2.out | with_reducible exact S2a.out | with_reducible exact S2.out.next ((Gr.refl _).alloc _) | with_reducible exact HS.out.size | with_reducible exact S1.out.size | with_reducible exact S2.out.size | with_reducible exact Nat.le_succ_of_le HS.out.size | with_reducible exact Nat.le_succ_of_le S1.out.size | with_reducible exact Nat.le_succ_of_le S2.out.size) | exact (S2.out.next ((Gr.refl _).alloc _)).cells | exact (S2.out.next (((Gr.refl _).alloc _).alloc _)).cells | fail)
      (first
        | (go_at_call 21; ((with_reducible refine (rnorm_raw (HRa.out.gr (by with_reducible first | exact S0.out.gr | exact S0a.out.gr | exact S0aa.out.gr) hB) (Nat.le_refl _) (by omega)).mono ?_); rintro e v1 ⟨x1, rfl, hi1, hb1⟩; have I1 := Lib.hid hi1; obtain ⟨A1', c1', hv, _, _⟩ := hi1; subst hv; have V1 := (by with_reducible first | exact Lib.hid (IntIv.of_aad I1.out) | exact Lib.hid (IntIv.of_ad I1.out) | exact Lib.hid (IntIv.of_d I1.out) | fail); have hg1 : Gr _ _ := hb1; have S1 : Hid (RSt w v1 (.bool n1) (.slice A1 la k1) (.bool n2) (.slice A2 lb k2) (.bool false) (.slice none 0 0)) := (by with_reducible first | exact Lib.hid (S0.out.next hg1) | exact Lib.hid (S0a.out.next hg1) | exact Lib.hid (S0aa.out.next hg1)); have G0_1 : Hid (Gr wd v1) := (by with_reducible first | exact Lib.hid (G0_0.out.call hb1) | exact Lib.hid (G0_0a.out.call hb1) | exact Lib.hid (G0_0aa.out.call hb1)); have Q1 : Hid (wd.heap.size ≤ v1.heap.size) := (by first | exact hb1.size | exact Nat.le_trans (by simp <;> omega) hb1.size); have G1_1 : Hid (Gr v1 v1) := Gr.refl _; have S1a := Lib.hid (S1.out.next (show Gr v1 (v1.alloc (.cells #[.bool false, .slice none 0 0] 24)) from ((Gr.refl _).alloc (.cells #[.bool false, .slice none 0 0] 24)))); have G0_1a := Lib.hid (G0_1.out.alloc (.cells #[.bool false, .slice none 0 0] 24)); have G1_1a := Lib.hid (G1_1.out.alloc (.cells #[.bool false, .slice none 0 0] 24)); have S1aa := Lib.hid (S1.out.next (show Gr v1 ((v1.alloc (.cells #[.bool false, .slice none 0 0] 24)).alloc (.cells #[.bool false, .slice none 0 0] 24)) from (((Gr.refl _).alloc (.cells #[.bool false, .slice none 0 0] 24)).alloc (.cells #[.bool false, .slice none 0 0] 24)))); have G0_1aa := Lib.hid ((G0_1.out.alloc (.cells #[.bool false, .slice none 0 0] 24)).alloc (.cells #[.bool false, .slice none 0 0] 24)); have G1_1aa := Lib.hid ((G1_1.out.alloc (.cells #[.bool false, .slice none 0 0] 24)).alloc (.cells #[.bool false, .slice none 0 0] 24)); (first | (with_reducible have P1 := Lib.hid (TwoAt.keepBelowD hb1); with_reducible have T1 := Lib.hid (TwoAt.keepNew2D hb1); have N := Lib.hid (Nat.lt_succ_self wd.heap.size)) | (with_reducible have P1 := Lib.hid (TwoAt.keepNewD hb1)) | skip); clear hb1 hg1; try clear S0; try clear S0a; try clear S0aa; try clear G0_0a; try clear G0_0aa))
        | (go_at_call 21; ((with_reducible refine (rnorm_raw (HRb.out.gr (by with_reducible first | exact S1.out.gr | exact S1a.out.gr | exact S1aa.out.gr) hB) (Nat.le_refl _) (by omega)).mono ?_); rintro e v2 ⟨x2, rfl, hi2, hb2⟩; have I2 := Lib.hid hi2; obtain ⟨A2', c2', hv, _, _⟩ := hi2; subst hv; have V2 := (by with_reducible first | exact Lib.hid (IntIv.of_aa I2.out) | exact Lib.hid (IntIv.of_a I2.out) | exact Lib.hid (IntIv.of I2.out) | fail); have hg2 : Gr _ _ := hb2; have S2 : Hid (RSt w v2 (.bool n1) (.slice A1 la k1) (.bool n2) (.slice A2 lb k2) (.bool false) (.slice none 0 0)) := (by with_reducible first | exact Lib.hid (S1.out.next hg2) | exact Lib.hid (S1a.out.next hg2) | exact Lib.hid (S1aa.out.next hg2)); have G0_2 : Hid (Gr wd v2) := (by with_reducible first | exact Lib.hid (G0_1.out.call hb2) | exact Lib.hid (G0_1a.out.call hb2) | exact Lib.hid (G0_1aa.out.call hb2)); have G1_2 : Hid (Gr v1 v2) := (by with_reducible first | exact Lib.hid (G1_1.out.call hb2) | exact Lib.hid (G1_1a.out.call hb2) | exact Lib.hid (G1_1aa.out.call hb2)); have Q2 : Hid (v1.heap.size ≤ v2.heap.size) := (by first | exact hb2.size | exact Nat.le_trans (by simp <;> omega) hb2.size); have G2_2 : Hid (Gr v2 v2) := Gr.refl _; have S2a := Lib.hid (S2.out.next (show Gr v2 (v2.alloc (.cells #[.bool false, .slice none 0 0] 24)) from ((Gr.refl _).alloc (.cells #[.bool false, .slice none 0 0] 24)))); have G0_2a := Lib.hid (G0_2.out.alloc (.cells #[.bool false, .slice none 0 0] 24)); have G1_2a := Lib.hid (G1_2.out.alloc (.cells #[.bool false, .slice none 0 0] 24)); have G2_2a := Lib.hid (G2_2.out.alloc (.cells #[.bool false, .slice none 0 0] 24)); have S2aa := Lib.hid (S2.out.next (show Gr v2 ((v2.alloc (.cells #[.bool false, .slice none 0 0] 24)).alloc (.cells #[.bool false, .slice none 0 0] 24)) from (((Gr.refl _).alloc (.cells #[.bool false, .slice none 0 0] 24)).alloc (.cells #[.bool false, .slice none 0 0] 24)))); have G0_2aa := Lib.hid ((G0_2.out.alloc (.cells #[.bool false, .slice none 0 0] 24)).alloc (.cells #[.bool false, .slice none 0 0] 24)); have G1_2aa := Lib.hid ((G1_2.out.alloc (.cells #[.bool false, .slice none 0 0] 24)).alloc (.cells #[.bool false, .slice none 0 0] 24)); have G2_2aa := Lib.hid ((G2_2.out.alloc (.cells #[.bool false, .slice none 0 0] 24)).alloc (.cells #[.bool false, .slice none 0 0] 24)); (first | (with_reducible have T2 := Lib.hid (T1.out.gr hg2); with_reducible have P2 := Lib.hid (P1.out.gr hg2)) | (with_reducible have T2 := Lib.hid (TwoAt.keepNew hb2); with_reducible have P2 := Lib.hid ((P1.out.gr ((Gr.refl _).alloc _)).gr hg2); have N := Lib.hid P1.out.lt) | (with_reducible have P2 := Lib.hid (P1.out.gr hg2)) | (with_reducible have P2 := Lib.hid (TwoAt.keepBelow hb2); with_reducible have T2 := Lib.hid (TwoAt.keepNew2 hb2); have N := Lib.hid (Nat.lt_succ_self v1.heap.size)) | (with_reducible have P2 := Lib.hid (TwoAt.keepNew hb2)) | skip); (first | (have hz := P2.out.reads; obtain ⟨z1, z2, z3, z4⟩ := hz; have hz := T2.out.reads; obtain ⟨y1, y2, y3, y4⟩ := hz; have hq := fun u v => TwoAt.reads (T2.out.far (Nat.ne_of_gt N.out) u v); have zc1 := fun u v => (hq u v).1; have zc2 := fun u v => (hq u v).2.1; have zc3 := fun u v => (hq u v).2.2.1; have zc4 := fun u v => (hq u v).2.2.2; clear hq; have hq := fun u v => TwoAt.reads (P2.out.far (Nat.ne_of_lt N.out) u v); have zd1 := fun u v => (hq u v).1; have zd2 := fun u v => (hq u v).2.1; have zd3 := fun u v => (hq u v).2.2.1; have zd4 := fun u v => (hq u v).2.2.2; clear hq) | (have hz := P2.out.reads; obtain ⟨z1, z2, z3, z4⟩ := hz; have hy := fun ob => TwoAt.reads (P2.out.gr ((Gr.refl _).alloc ob)); have za1 := fun ob => (hy ob).1; have za2 := fun ob => (hy ob).2.1; have za3 := fun ob => (hy ob).2.2.1; have za4 := fun ob => (hy ob).2.2.2; clear hy; have hq := fun u v => TwoAt.reads ((TwoAt.new v2 (.bool false) (.slice none 0 0)).far (Nat.ne_of_gt P2.out.lt) u v); have zb1 := fun u v => (hq u v).1; have zb2 := fun u v => (hq u v).2.1; have zb3 := fun u v => (hq u v).2.2.1; have zb4 := fun u v => (hq u v).2.2.2; clear hq) | skip); clear hb2 hg2; try clear S1a; try clear S1aa; try clear G0_1a; try clear G0_1aa; try clear G1_1; try clear G1_1a; try clear G1_1aa))
        | fail)
    all_goals
      go_wp2_with fail
      go_meet
      have n0 := HS.out.size
      have n1 := Q1.out
      have n2 := Q2.out
      have m1 := S1.out.size
      have m2 := S2.out.size
      try have p1 := P1.out.lt
      try have p2 := P2.out.lt
      try have t1 := T1.out.lt
      try have t2 := T2.out.lt
      try have nn := N.out
      (first | ((first | with_reducible exact Both.fin3 HW4.out (Both.both S2.out G0_2.out (V1.out.gr G1_2.out) V2.out P2.out T2.out (Nat.ne_of_lt N.out) (by omega) (by omega) (by omega) (by omega) (by omega) (by omega) (by omega) (by omega) (by omega)) | with_reducible exact Both.fin3 HW4.out (Both.both S2.out G0_2.out (V1.out.gr G1_2.out) V2.out T2.out P2.out (Nat.ne_of_gt N.out) (by omega) (by omega) (by omega) (by omega) (by omega) (by omega) (by omega) (by omega) (by omega)) | with_reducible exact Both.fin3 HW4.out (Both.late S2.out G0_2.out (V1.out.gr G1_2.out) V2.out P2.out (by omega) (by omega) (by omega) (by omega) (by omega) (by omega)) | with_reducible exact Both.fin3 HW4.out (Both.early S2.out G0_2.out (V1.out.gr G1_2.out) V2.out P2.out (by omega) (by omega) (by omega) (by omega) (by omega) (by omega)) | with_reducible exact Both.fin3 HW4.out (Both.new S2.out G0_2.out (V1.out.gr G1_2.out) V2.out (by omega) (by omega) (by omega)) | with_reducible exact Both.fin3 HW4.out (Both.wen S2.out G0_2.out (V1.out.gr G1_2.out) V2.out (by omega) (by omega) (by omega)) | fail)))
  case rest =>
    obtain ⟨g5, g6, rfl, rfl, HS5, HI4, HI5, HI6, HGG⟩ := hcut
    have hgg := HGG.out
    rw [HWS.out] at hgg
    obtain ⟨hg5, hg6⟩ := hgg
    clear x1 x2 x3 x4 x5 x6 HW4
    obtain ⟨wq, rfl⟩ : ∃ wq : World, wq = wc := ⟨_, rfl⟩
    obtain ⟨_, A5, c5, hT5, hV5⟩ := HI5.out
    obtain ⟨_, A6, c6, hT6, hV6⟩ := HI6.out
    obtain ⟨_, A4, c4, hT4, _⟩ := HI4.out
    have R5 := Lib.hid hV5.rdOf
    have R6 := Lib.hid hV6.rdOf
    have V6 := Lib.hid hV6
    have T4 : Hid (TwoAt wq (w.heap.size + 3) (.bool false) (.slice A4 0 c4)) := by
      have := hT4
      rw [show digs (0 : Int).natAbs = [] from digs_zero] at this
      exact this
    have hsz := HS5.out.size
    have hla := HLa.out
    have hlb := HLb.out
    have HDV := Lib.hid (rdivided_any wq R5.out R6.out (Nat.le_refl _) (by omega) (by omega) HY0.out)
    have HLO : Hid (decide (a < 0) = false ∨ a.natAbs % b.natAbs = 0 → sgn (!(decide (a < 0) == decide (b < 0))) (a.natAbs / b.natAbs) = a / b ∧ ((a.natAbs % b.natAbs : Nat) : Int) = a % b) := fun h => eu_low HY0.out h
    have HUP : Hid (decide (a < 0) = true → 0 < a.natAbs % b.natAbs → sgn (!(decide (b < 0))) (a.natAbs / b.natAbs + 1) = a / b ∧ (b.natAbs : Int) - ((a.natAbs % b.natAbs : Nat) : Int) = a % b) := fun h1 h2 => eu_up HY0.out h1 h2
    have hrl : (digs (a.natAbs % b.natAbs)).length ≤ 1000 := Nat.le_trans (digs_len_mono (Nat.mod_le _ _)) (by omega)
    obtain ⟨na, hna⟩ : ∃ na, decide (a < 0) = na := ⟨_, rfl⟩
    obtain ⟨nb, hnb⟩ : ∃ nb, decide (b < 0) = nb := ⟨_, rfl⟩
    rw [hna] at hT5 HLO HUP
    rw [hnb] at hT6 HLO HUP
    have T5 := Lib.hid hT5
    have T6 := Lib.hid hT6
    have HNB := Lib.hid hnb
    have hlt5 := hT5.lt
    have hlt6 := hT6.lt
    obtain ⟨r51, r52, _, _⟩ := T5.out.reads
    obtain ⟨r61, r62, _, _⟩ := T6.out.reads
    clear hna hnb hT4 hT5 hT6 hV5 hV6 HI4 HI5 HI6
    generalize a.natAbs / b.natAbs = Q at *
    generalize a.natAbs % b.natAbs = R at *
    generalize a / b = zq at *
    generalize a % b = zr at *
    generalize (digs a.natAbs).length = l5 at *
    go_wp2_with (go_at_call 73; fail)
    refine HDV.out.mono ?_
    rintro e w1 ⟨AQ, AR, cq, cr, qs, rfl, rq, vq, lq, rr, g1⟩
    have RQ := Lib.hid rq
    have VQ := Lib.hid vq
    have G1 : Hid (Gr wq w1) := g1
    have HSG : Hid (Calls Tryd.prog 60 #[.bool false, .slice AR (digs R).length cr] w1 (IntRet w1 (R : Int))) := by
      have := rsigned_any false w1 rr (Nat.le_refl _) (by omega)
      rwa [val_digs] at this
    have HLQ := Lib.hid lq
    clear rq vq rr g1 HDV lq
    go_wp2_with (go_at_call 60; fail)
    refine HSG.out.mono ?_
    rintro e w2 ⟨v, rfl, hi, hb2⟩
    have HIR := Lib.hid hi
    obtain ⟨A7, c7, rfl, _, _⟩ := hi
    have G2 : Hid (Gr wq w2) := G1.out.call hb2
    have RQ2 := Lib.hid ((RQ.out.below hb2).mono hb2.size)
    have hs1 := G1.out.size
    clear hb2 HSG RQ
    have VR := Lib.hid (IntIv.of HIR.out)
    have hdr : decide ((R : Int) < 0) = false := decide_eq_false (by omega)
    have hab : (R : Int).natAbs = R := by simp
    rw [hdr, hab]
    obtain ⟨W3, hW3⟩ : ∃ W3 : World, W3 = w2.alloc (.cells #[.bool false, .slice A7 (digs R).length c7] 24) := ⟨_, rfl⟩
    have HW3 := Lib.hid hW3
    have G3 : Hid (Gr wq W3) := by rw [hW3]; exact G2.out.alloc _
    have G23 : Hid (Gr w2 W3) := by rw [hW3]; exact (Gr.refl _).alloc _
    have T10 : Hid (TwoAt W3 w2.heap.size (.bool false) (.slice A7 (digs R).length c7)) := by rw [hW3]; exact TwoAt.new _ _ _
    have VR3 := Lib.hid (VR.out.gr G23.out)
    have RQ3 := Lib.hid ((RQ2.out.below G23.out).mono G23.out.size)
    have U5 := Lib.hid (T5.out.gr G3.out)
    have U6 := Lib.hid (T6.out.gr G3.out)
    have U3 := Lib.hid ((HS5.out.next G3.out).three)
    have U4 := Lib.hid (T4.out.gr G3.out)
    have GW : Hid (Gr w W3) := HS5.out.gr.trans G3.out
    have hs2 := G2.out.size
    have hs3 := T10.out.lt
    have hq4 : w.heap.size + 3 < wq.heap.size := T4.out.lt
    have HSQ : Hid (∀ (n : Bool) (W : World) (A : Option Addr) (c : Nat) (zs : List Nat) (z : Int), Rd W W.heap.size A c zs → sgn n (val zs) = z → zs.length ≤ 1000000 → Calls Tryd.prog 60 #[.bool n, .slice A zs.length c] W (IntRet W z)) := fun n W A c zs z hr hz hl => by subst hz; exact rsigned_any n W hr (Nat.le_refl _) hl
    have HLR := Lib.hid hrl
    have RB : Hid (Raw wq wq.heap.size (.agg #[.bool nb, .slice A6 (digs b.natAbs).length c6]) b 1000) := by
      have := V6.out.raw (l := 1000) (Nat.le_trans hlb (by omega))
      rwa [HNB.out] at this
    clear hW3 r51 r52 r61 r62 VR RQ2 T5 T6 T4 hrl
    obtain ⟨r1, _, _, _⟩ := U5.out.reads
    obtain ⟨r2, r3, _, _⟩ := U6.out.reads
    obtain ⟨r4, r5, _, _⟩ := T10.out.reads
    have hlR : na = false ∨ R = 0 ∨ (na = true ∧ 0 < R) := by
      cases na
      · exact .inl rfl
      · rcases Nat.eq_zero_or_pos R with h | h
        · exact .inr (.inl h)
        · exact .inr (.inr ⟨rfl, h⟩)
    have hlow : ∀ (h : na = false ∨ R = 0), sgn (!(na == nb)) Q = zq ∧ (R : Int) = zr := HLO.out
    have HLOW := Lib.hid hlow
    have HUPP : Hid (na = true → 0 < R → sgn (!nb) (Q + 1) = zq ∧ (b.natAbs : Int) - (R : Int) = zr) := HUP.out
    clear hlow HLO HUP
    cases na with
    | false =>
      obtain ⟨z1, z2⟩ := HLOW.out (.inl rfl)
      have HZ := Lib.hid z1
      have HZ2 := Lib.hid z2
      clear z1 z2 hlR
      rw [show (!(false == nb)) = nb by cases nb <;> rfl] at HZ
      go_upto_region 4 with fail
      rw [← HW3.out]
      go_wp2_with fail
      have HSC : Hid (Calls Tryd.prog 60 #[.bool nb, .slice AQ qs.length cq] W3.drew (IntRet W3.drew zq)) := HSQ.out nb W3.drew AQ cq qs zq RQ3.out (by rw [VQ.out]; exact HZ.out) (by have := HLQ.out; omega)
      have G0d : Gr W3 W3.drew := (Gr.refl W3).drew
      have C0 := Lib.hid (cells5 (U5.out.gr G0d) (U6.out.gr G0d) (T10.out.gr G0d))
      have n5 : g5 ≠ w.heap.size + 2 := by omega
      have n6 : g6 ≠ w.heap.size + 2 := by omega
      have n10 : w2.heap.size ≠ w.heap.size + 2 := by omega
      have m5 : g5 ≠ w.heap.size + 3 := by omega
      have m6 : g6 ≠ w.heap.size + 3 := by omega
      have m10 : w2.heap.size ≠ w.heap.size + 3 := by omega
      go_region_held3 (fun w' => w'.cell? ⟨g5, 0, none⟩ = some (.bool false) ∧ w'.cell? ⟨g6, 0, none⟩ = some (.bool nb) ∧ w'.cell? ⟨g6, 1, none⟩ = some (.slice A6 (digs b.natAbs).length c6) ∧ w'.cell? ⟨w2.heap.size, 0, none⟩ = some (.bool false) ∧ w'.cell? ⟨w2.heap.size, 1, none⟩ = some (.slice A7 (digs R).length c7))
        (with_reducible first | exact C0.out | exact C4.out | exact cells5_set C4.out n5 n6 n10 _ _ | exact cells5_set (cells5_set C4.out n5 n6 n10 _ _) m5 m6 m10 _ _ | fail)
        (first
          | (go_at_call 60; ((with_reducible refine HSC.out.mono ?_); rintro e v3 ⟨v, rfl, hi, hb⟩; have G4 : Hid (Gr W3 v3) := (Gr.refl W3).drew.call hb; have HI := Lib.hid (hi); obtain ⟨A9, c9, hv, _, _⟩ := hi; subst hv; have C4 := Lib.hid (cells5 (U5.out.gr G4.out) (U6.out.gr G4.out) (T10.out.gr G4.out)); have cd := (U3.out.gr G4.out).reads; obtain ⟨a1, a2, a3, a4⟩ := cd; have ce := (U4.out.gr G4.out).reads; obtain ⟨b1, b2, b3, b4⟩ := ce; clear hb))
          | fail)
      have VI := Lib.hid (IntIv.of HI.out)
      have VR4 := Lib.hid (VR3.out.gr G4.out)
      have hd4 : W3.drew.heap.size = W3.heap.size := rfl
      have hvs := VI.out.top
      go_wp2
      refine bodyPost_ret (v := .tuple #[.agg #[.bool (decide (zq < 0)), .slice A9 (digs zq.natAbs).length c9], .agg #[.bool false, .slice A7 (digs R).length c7]]) ?_ rfl ⟨_, _, rfl, ?_, ?_, ?_⟩
      · simp [results, Tryd.results41, go_sem, a1, a2, b1, b2]
      · exact ((VI.out.set2 (.inl (by rw [hd4]; omega)) _ _).set2 (.inl (by rw [hd4]; omega)) _ _).intIn (by rw [hd4]; omega)
      · have h9 := ((VR4.out.set2 (g := w.heap.size + 2) (.inl (by omega)) (.bool (decide (zq < 0))) (.slice A9 (digs zq.natAbs).length c9)).set2 (g := w.heap.size + 3) (.inl (by omega)) (.bool false) (.slice A7 (digs R).length c7)).intIn (w := w) (by omega)
        rw [hdr, hab, HZ2.out] at h9
        exact h9
      · exact ((GW.out.trans G4.out).set2 (by omega) _ _).set2 (by omega) _ _
    | true =>
      by_cases hR0 : R = 0
      · obtain ⟨z1, z2⟩ := HLOW.out (.inr hR0)
        have HZ := Lib.hid z1
        have HZ2 := Lib.hid z2
        have hlr0 : decide (0 < (digs R).length) = false := by rw [hR0, digs_zero]; rfl
        have hlr1 : decide ((0 : Int) < ((digs R).length : Int)) = false := by rw [hR0, digs_zero]; rfl
        have HR0 := Lib.hid hR0
        clear z1 z2 hlR hR0
        rw [show (!(true == nb)) = !nb by cases nb <;> rfl] at HZ
        go_upto_region 4 with fail
        rw [← HW3.out]
        go_wp2_with fail
        have HSC : Hid (Calls Tryd.prog 60 #[.bool (!nb), .slice AQ qs.length cq] W3.drew (IntRet W3.drew zq)) := HSQ.out (!nb) W3.drew AQ cq qs zq RQ3.out (by rw [VQ.out]; exact HZ.out) (by have := HLQ.out; omega)
        have G0d : Gr W3 W3.drew := (Gr.refl W3).drew
        have C0 := Lib.hid (cells5 (U5.out.gr G0d) (U6.out.gr G0d) (T10.out.gr G0d))
        have n5 : g5 ≠ w.heap.size + 2 := by omega
        have n6 : g6 ≠ w.heap.size + 2 := by omega
        have n10 : w2.heap.size ≠ w.heap.size + 2 := by omega
        have m5 : g5 ≠ w.heap.size + 3 := by omega
        have m6 : g6 ≠ w.heap.size + 3 := by omega
        have m10 : w2.heap.size ≠ w.heap.size + 3 := by omega
        go_region_held3 (fun w' => w'.cell? ⟨g5, 0, none⟩ = some (.bool true) ∧ w'.cell? ⟨g6, 0, none⟩ = some (.bool nb) ∧ w'.cell? ⟨g6, 1, none⟩ = some (.slice A6 (digs b.natAbs).length c6) ∧ w'.cell? ⟨w2.heap.size, 0, none⟩ = some (.bool false) ∧ w'.cell? ⟨w2.heap.size, 1, none⟩ = some (.slice A7 (digs R).length c7))
          (with_reducible first | exact C0.out | exact C4.out | exact cells5_set C4.out n5 n6 n10 _ _ | exact cells5_set (cells5_set C4.out n5 n6 n10 _ _) m5 m6 m10 _ _ | fail)
          (first
            | (go_at_call 60; ((with_reducible refine HSC.out.mono ?_); rintro e v3 ⟨v, rfl, hi, hb⟩; have G4 : Hid (Gr W3 v3) := (Gr.refl W3).drew.call hb; have HI := Lib.hid (hi); obtain ⟨A9, c9, hv, _, _⟩ := hi; subst hv; have C4 := Lib.hid (cells5 (U5.out.gr G4.out) (U6.out.gr G4.out) (T10.out.gr G4.out)); have cd := (U3.out.gr G4.out).reads; obtain ⟨a1, a2, a3, a4⟩ := cd; have ce := (U4.out.gr G4.out).reads; obtain ⟨b1, b2, b3, b4⟩ := ce; clear hb))
            | fail)
        have VI := Lib.hid (IntIv.of HI.out)
        have VR4 := Lib.hid (VR3.out.gr G4.out)
        have hd4 : W3.drew.heap.size = W3.heap.size := rfl
        have hvs := VI.out.top
        go_wp2
        refine bodyPost_ret (v := .tuple #[.agg #[.bool (decide (zq < 0)), .slice A9 (digs zq.natAbs).length c9], .agg #[.bool false, .slice A7 (digs R).length c7]]) ?_ rfl ⟨_, _, rfl, ?_, ?_, ?_⟩
        · simp [results, Tryd.results41, go_sem, a1, a2, b1, b2]
        · exact ((VI.out.set2 (.inl (by rw [hd4]; omega)) _ _).set2 (.inl (by rw [hd4]; omega)) _ _).intIn (by rw [hd4]; omega)
        · have h9 := ((VR4.out.set2 (g := w.heap.size + 2) (.inl (by omega)) (.bool (decide (zq < 0))) (.slice A9 (digs zq.natAbs).length c9)).set2 (g := w.heap.size + 3) (.inl (by omega)) (.bool false) (.slice A7 (digs R).length c7)).intIn (w := w) (by omega)
          rw [hdr, hab, HZ2.out] at h9
          exact h9
        · exact ((GW.out.trans G4.out).set2 (by omega) _ _).set2 (by omega) _ _
      · obtain ⟨z1, z2⟩ := HUPP.out rfl (Nat.pos_of_ne_zero hR0)
        have HZ := Lib.hid z1
        have HZ2 := Lib.hid z2
        have hlp := digs_pos_len (Nat.pos_of_ne_zero hR0)
        have hlr0 : decide (0 < (digs R).length) = true := decide_eq_true hlp
        have hlr1 : decide ((0 : Int) < ((digs R).length : Int)) = true := decide_eq_true (by omega)
        clear z1 z2 hlR hR0
        go_upto_region 4 with fail
        rw [← HW3.out]
        go_wp2_with fail
        have HRR : Hid (∀ W : World, Gr W3 W → Raw W W.heap.size (.agg #[.bool false, .slice A7 (digs R).length c7]) (R : Int) 1000) := fun W hg => by
          have h9 := ((VR3.out.gr hg).intIn (w := wq) (by omega)).raw (l := 1000) (by rw [hab]; exact HLR.out)
          rwa [hdr, hab] at h9
        have hgr : Gr W3 (W3.alloc (.cells #[.int .u32 1] 64)).drew := ((Gr.refl W3).alloc (.cells #[.int .u32 1] 64)).drew
        have HPL : Hid (Calls Tryd.prog 65 #[.slice AQ qs.length cq, .slice (some ⟨W3.heap.size, 0, none⟩) 1 1] (W3.alloc (.cells #[.int .u32 1] 64)).drew (fun e w' => ∃ A c zs, e = .returned (.slice A (List.length zs) c) ∧ Rd w' w'.heap.size A c zs ∧ sgn (!nb) (val zs) = zq ∧ zs.length ≤ 1000000 ∧ Gr W3 w')) := by
          have hlq := HLQ.out
          have h1 : Rd (W3.alloc (.cells #[.int .u32 1] 64)).drew (W3.heap.size + 1) (some ⟨W3.heap.size, 0, none⟩) 1 [1] := rd_one W3
          have hsz1 : W3.heap.size + 1 ≤ (W3.alloc (.cells #[.int .u32 1] 64)).drew.heap.size := by show _ ≤ (W3.alloc (.cells #[.int .u32 1] 64)).heap.size; rw [World.size_alloc]; exact Nat.le_refl _
          have h9 := rplus_any (ys := [1]) (B := W3.heap.size + 1) (W3.alloc (.cells #[.int .u32 1] 64)).drew ((RQ3.out.below hgr).mono (Nat.le_succ _)) h1 hsz1 (by omega) (by simp)
          refine h9.mono fun e w' ⟨A, c, zs, u1, u2, u3, u4, u5⟩ => ⟨A, c, zs, u1, u2, ?_, ?_, hgr.call u5⟩
          · rw [u3, VQ.out, show val [1] = 1 by simp [val]]; exact HZ.out
          · have : ([1] : List Nat).length = 1 := rfl
            omega
        have G3d : Hid (Gr W3 (W3.alloc (.cells #[.int .u32 1] 64)).drew) := hgr
        clear hgr
        have G0d : Gr W3 W3.drew := (Gr.refl W3).drew
        have C0 := Lib.hid (cells5 (U5.out.gr G0d) (U6.out.gr G0d) (T10.out.gr G0d))
        have n5 : g5 ≠ w.heap.size + 2 := by omega
        have n6 : g6 ≠ w.heap.size + 2 := by omega
        have n10 : w2.heap.size ≠ w.heap.size + 2 := by omega
        have m5 : g5 ≠ w.heap.size + 3 := by omega
        have m6 : g6 ≠ w.heap.size + 3 := by omega
        have m10 : w2.heap.size ≠ w.heap.size + 3 := by omega
        have C1 := Lib.hid (cells5 (U5.out.gr G3d.out) (U6.out.gr G3d.out) (T10.out.gr G3d.out))
        go_region_held3 (fun w' => w'.cell? ⟨g5, 0, none⟩ = some (.bool true) ∧ w'.cell? ⟨g6, 0, none⟩ = some (.bool nb) ∧ w'.cell? ⟨g6, 1, none⟩ = some (.slice A6 (digs b.natAbs).length c6) ∧ w'.cell? ⟨w2.heap.size, 0, none⟩ = some (.bool false) ∧ w'.cell? ⟨w2.heap.size, 1, none⟩ = some (.slice A7 (digs R).length c7))
          (with_reducible first | exact C0.out | exact C1.out | exact C4.out | exact C5.out | exact C6.out | exact C7.out | exact cells5_set C7.out n5 n6 n10 _ _ | exact cells5_set (cells5_set C7.out n5 n6 n10 _ _) m5 m6 m10 _ _ | fail)
          (first
            | (go_at_call 65; ((with_reducible refine HPL.out.mono ?_); rintro e v3 ⟨Ap, cp, zs, rfl, rp, zp, lp, gp⟩; have G4 : Hid (Gr W3 v3) := gp; have RP := Lib.hid rp; have ZP := Lib.hid zp; have LP := Lib.hid lp; have C4 := Lib.hid (cells5 (U5.out.gr G4.out) (U6.out.gr G4.out) (T10.out.gr G4.out)); clear rp zp lp gp))
            | (go_at_call 60; ((with_reducible refine (HSQ.out (!nb) _ _ _ _ _ RP.out ZP.out LP.out).mono ?_); rintro e v4 ⟨v, rfl, hi, hb⟩; have G5 : Hid (Gr W3 v4) := G4.out.call hb; have VI := Lib.hid hi; obtain ⟨A9, c9, hv, _, _⟩ := hi; subst hv; have C5 := Lib.hid (cells5 (U5.out.gr G5.out) (U6.out.gr G5.out) (T10.out.gr G5.out)); clear hb))
            | (go_at_call 29; ((with_reducible refine (rabs_raw (RB.out.gr (G3.out.trans G5.out) (Nat.le_refl _)) (Nat.le_refl _) (by omega)).mono ?_); rintro e v5 ⟨v, rfl, hi, hb⟩; have G6 : Hid (Gr W3 v5) := G5.out.call hb; have G56 : Hid (Gr v4 v5) := hb; have RBA := Lib.hid (IntIn.raw (l := 1000) hi (by rw [Int.natAbs_natCast]; omega)); have C6 := Lib.hid (cells5 (U5.out.gr G6.out) (U6.out.gr G6.out) (T10.out.gr G6.out)); clear hi hb))
            | (go_at_call 33; ((with_reducible refine (ret_is HZ2.out (rsub_raw RBA.out (HRR.out _ G6.out) (Nat.le_refl _) (by omega) (by omega))).mono ?_); rintro e v6 ⟨v, rfl, hi, hb⟩; have G7 : Hid (Gr W3 v6) := G6.out.call hb; have G57 : Hid (Gr v4 v6) := G56.out.call hb; have VJ := Lib.hid hi; obtain ⟨A8, c8, hv, _, _⟩ := hi; subst hv; have C7 := Lib.hid (cells5 (U5.out.gr G7.out) (U6.out.gr G7.out) (T10.out.gr G7.out)); have cd := (U3.out.gr G7.out).reads; obtain ⟨a1, a2, a3, a4⟩ := cd; have ce := (U4.out.gr G7.out).reads; obtain ⟨b1, b2, b3, b4⟩ := ce; clear hb))
            | fail)
        have VI2 := Lib.hid ((IntIv.of VI.out).gr G57.out)
        have VJ2 := Lib.hid (IntIv.of VJ.out)
        have h4 := G4.out.size
        have h6 := G6.out.size
        have hvs := VI2.out.top
        have hvs2 := VJ2.out.top
        go_wp2
        refine bodyPost_ret (v := .tuple #[.agg #[.bool (decide (zq < 0)), .slice A9 (digs zq.natAbs).length c9], .agg #[.bool (decide (zr < 0)), .slice A8 (digs zr.natAbs).length c8]]) ?_ rfl ⟨_, _, rfl, ?_, ?_, ?_⟩
        · simp [results, Tryd.results41, go_sem, a1, a2, b1, b2]
        · exact ((VI2.out.set2 (.inl (by omega)) _ _).set2 (.inl (by omega)) _ _).intIn (by omega)
        · exact ((VJ2.out.set2 (.inl (by omega)) _ _).set2 (.inl (by omega)) _ _).intIn (by omega)
        · exact ((GW.out.trans G7.out).set2 (by omega) _ _).set2 (by omega) _ _
end Go.Proofs.YtbijjiadokgmoaaDoor
namespace Go.Proofs.YtbijjiadokgmoaaDoor
open Go.RowKit

set_option maxHeartbeats 1600000 in
set_option maxRecDepth 1000000 in
theorem zero3 {g : Nat} (w : World) (h0 : w.cell? ⟨g, 0, none⟩ = some (.bool false)) (h1 : w.cell? ⟨g, 1, none⟩ = some (.slice none 0 0)) (h2 : w.cell? ⟨g, 2, none⟩ = some (.bool false)) (h3 : w.cell? ⟨g, 3, none⟩ = some (.slice none 0 0)) (h4 : w.cell? ⟨g, 4, none⟩ = some (.bool false)) (h5 : w.cell? ⟨g, 5, none⟩ = some (.slice none 0 0)) :
    Calls Tryd.prog 40 #[.slice (some ⟨g, 0, none⟩) 3 3] w fun e w' => e = .returned (.bool true) ∧ w = w' := by
  go_enter Tryd.func40, Tryd.ntmps40
  go_wp2
  refine wp_loop_rounds 4 ?_
  rw [rounds_succ]
  go_wp2
  rw [rounds_succ]
  go_wp2
  rw [rounds_succ]
  go_wp2
  rw [rounds_succ]
  go_wp2
  go_ret
  exact ⟨rfl, rfl⟩
set_option maxHeartbeats 1600000 in
set_option maxRecDepth 1000000 in
theorem zero1 {g : Nat} (w : World) (h0 : w.cell? ⟨g, 0, none⟩ = some (.bool false)) (h1 : w.cell? ⟨g, 1, none⟩ = some (.slice none 0 0)) :
    Calls Tryd.prog 40 #[.slice (some ⟨g, 0, none⟩) 1 1] w fun e w' => e = .returned (.bool true) ∧ w = w' := by
  go_enter Tryd.func40, Tryd.ntmps40
  go_wp2
  refine wp_loop_rounds 2 ?_
  rw [rounds_succ]
  go_wp2
  rw [rounds_succ]
  go_wp2
  go_ret
  exact ⟨rfl, rfl⟩

set_option maxHeartbeats 0 in
set_option maxRecDepth 1000000 in
theorem divides_long {k1 k2 : Nat} {A1 A2 : Option Addr} {xs ys : List Nat} (n1 n2 : Bool) (w : World) (hl : 40 < xs.length ∨ 40 < ys.length) :
    Calls Tryd.prog 6 #[.agg #[.bool n1, .slice A1 xs.length k1], .agg #[.bool n2, .slice A2 ys.length k2]] w fun e w' => e = .returned (.bool true) ∧ Below w.heap.size w w' := by
  generalize xs.length = la at *
  generalize ys.length = lb at *
  have HAW := Lib.hid awake_any
  have HS0 := Lib.hid (rs2_boxes w (.bool n1) (.slice A1 la k1) (.bool n2) (.slice A2 lb k2))
  go_enter Tryd.func6, Tryd.ntmps6
  go_wp2_with (go_at_call 13; fail)
  refine (HAW.out _).mono ?_
  rintro e w1 ⟨rfl, hb1⟩
  have HS1 := Lib.hid (HS0.out.next hb1)
  obtain ⟨x1, x2, x3, x4⟩ := HS1.out.cells
  clear hb1
  go_wp2_with (go_at_call 14; fail)
  refine (long2_yes (l1 := la) (l2 := lb) (c1 := k1) (c2 := k2) (A1 := A1) (A2 := A2) _ (by rw [cell_of_row _ _ 1 _ _ _ (heap_alloc_new w1 _)]; rfl) (by rw [cell_of_row _ _ 3 _ _ _ (heap_alloc_new w1 _)]; rfl) hl).mono ?_
  rintro e w2 ⟨rfl, hw2⟩
  have HS2 : Hid (Gr w w2) := by rw [← hw2]; exact HS1.out.gr.alloc _
  clear hw2 x1 x2 x3 x4 HS1
  go_wp2
  go_ret
  exact ⟨rfl, HS2.out⟩

set_option maxHeartbeats 0 in
set_option maxRecDepth 1000000 in
theorem divides_zero {B k1 k2 : Nat} {A1 A2 : Option Addr} {xs ys : List Nat} (n1 n2 : Bool) (w : World) (h2 : Rd w B A2 k2 ys) (hB : B ≤ w.heap.size) (l1 : xs.length ≤ 40) (l2 : ys.length ≤ 40) (hv : val ys = 0) :
    Calls Tryd.prog 6 #[.agg #[.bool n1, .slice A1 xs.length k1], .agg #[.bool n2, .slice A2 ys.length k2]] w fun e w' => e = .returned (.bool true) ∧ Below w.heap.size w w' := by
  have HRb := Lib.hid (Raw.mk (n := n2) h2 l2)
  have hsg : sgn n2 (val ys) = 0 := by rw [hv]; exact sgn_zero n2
  rw [hsg] at HRb
  have HDM := Lib.hid (fun (W : World) (hg : Gr w W) => divmod_none (la := xs.length) (c1 := k1) (A1 := A1) n1 n2 W (h2.below (Below.mono hg hB)) (Nat.le_trans hB hg.size) (by omega) hv)
  have HEX := Lib.hid (fun (W : World) (hg : Gr w W) => exact_none (la := xs.length) (c1 := k1) (A1 := A1) n1 n2 W (h2.below (Below.mono hg hB)) (Nat.le_trans hB hg.size) (by omega) hv)
  clear h2 hsg hv
  generalize xs.length = la at *
  generalize ys.length = lb at *
  have HAW := Lib.hid awake_any
  have HS0 := Lib.hid (rs2_boxes w (.bool n1) (.slice A1 la k1) (.bool n2) (.slice A2 lb k2))
  go_enter Tryd.func6, Tryd.ntmps6
  go_wp2_with (go_at_call 13; fail)
  refine (HAW.out _).mono ?_
  rintro e w1 ⟨rfl, hb1⟩
  have HS1 := Lib.hid (HS0.out.next hb1)
  obtain ⟨x1, x2, x3, x4⟩ := HS1.out.cells
  clear hb1
  go_wp2_with (go_at_call 14; fail)
  refine (long2_no (l1 := la) (l2 := lb) (c1 := k1) (c2 := k2) (A1 := A1) (A2 := A2) _ (by rw [cell_of_row _ _ 1 _ _ _ (heap_alloc_new w1 _)]; rfl) (by rw [cell_of_row _ _ 3 _ _ _ (heap_alloc_new w1 _)]; rfl) l1 l2).mono ?_
  rintro e w2 ⟨rfl, hw2⟩
  have HS2 : Hid (RS2 w w2 (.bool n1) (.slice A1 la k1) (.bool n2) (.slice A2 lb k2)) := by
    rw [← hw2]; exact HS1.out.next ((Gr.refl _).alloc _)
  clear hw2 x1 x2 x3 x4 HS1 HS0
  obtain ⟨x1, x2, x3, x4⟩ := HS2.out.cells
  go_wp2_with (go_at_call 38; fail)
  refine (HDM.out _ HS2.out.gr).mono ?_
  rintro e w3 ⟨rfl, hb3⟩
  have HS3 := Lib.hid (HS2.out.next hb3)
  clear hb3 x1 x2 x3 x4
  obtain ⟨x1, x2, x3, x4⟩ := HS3.out.cells
  have HC0 := Lib.hid HS3.out
  go_upto_region 6 with fail
  obtain ⟨w4, hw4⟩ : ∃ w4 : World, w4 = (w3.alloc (.cells #[.bool false, .slice none 0 0] 24)).alloc (.cells #[.bool false, .slice none 0 0] 24) := ⟨_, rfl⟩
  have HS4 : Hid (RS2 w w4 (.bool n1) (.slice A1 la k1) (.bool n2) (.slice A2 lb k2)) := by rw [hw4]; exact HS3.out.next (((Gr.refl _).alloc _).alloc _)
  have T5 : Hid (TwoAt w4 w3.heap.size (.bool false) (.slice none 0 0)) := by rw [hw4]; exact TwoAt.new1 _ _ _ _
  have T6 : Hid (TwoAt w4 (w3.heap.size + 1) (.bool false) (.slice none 0 0)) := by
    rw [hw4]
    have := TwoAt.new (w3.alloc (.cells #[.bool false, .slice none 0 0] 24)) (.bool false) (.slice none 0 0)
    rwa [World.size_alloc] at this
  rw [← hw4]
  clear hw4 x1 x2 x3 x4
  obtain ⟨x1, x2, x3, x4⟩ := HS4.out.cells
  go_wp2_with (go_at_call 39; fail)
  refine (HEX.out _ HS4.out.gr).mono ?_
  rintro e w5 ⟨rfl, hb5⟩
  have HS5 := Lib.hid (HS4.out.next hb5)
  have T5b := Lib.hid (T5.out.gr hb5)
  have T6b := Lib.hid (T6.out.gr hb5)
  clear hb5 x1 x2 x3 x4
  go_upto_region 7 with fail
  obtain ⟨w6, hw6⟩ : ∃ w6 : World, w6 = w5.alloc (.cells #[.bool false, .slice none 0 0] 24) := ⟨_, rfl⟩
  have HS6 : Hid (RS2 w w6 (.bool n1) (.slice A1 la k1) (.bool n2) (.slice A2 lb k2)) := by rw [hw6]; exact HS5.out.next ((Gr.refl _).alloc _)
  have G56 : Hid (Gr w5 w6) := by rw [hw6]; exact (Gr.refl _).alloc _
  have T8 : Hid (TwoAt w6 w5.heap.size (.bool false) (.slice none 0 0)) := by rw [hw6]; exact TwoAt.new _ _ _
  rw [← hw6]
  clear hw6
  obtain ⟨x1, x2, x3, x4⟩ := HS6.out.cells
  have HSI := Lib.hid (rsign_raw (HRb.out.gr HS6.out.gr hB) (Nat.le_refl _) (by omega))
  go_wp2_with (go_at_call 23; fail)
  refine HSI.out.mono ?_
  rintro e w7 ⟨rfl, hb7⟩
  have HS7 := Lib.hid (HS6.out.next hb7)
  obtain ⟨p1, p2, _, _⟩ := ((T5b.out.gr G56.out).gr hb7).reads
  obtain ⟨q1, q2, _, _⟩ := ((T6b.out.gr G56.out).gr hb7).reads
  obtain ⟨r1, r2, _, _⟩ := (T8.out.gr hb7).reads
  clear hb7 x1 x2 x3 x4
  rw [show (0 : Int).sign = 0 from rfl]
  go_wp2_with (go_at_call 40; fail)
  refine (zero3 _ (by rw [cell_of_row _ _ 0 _ _ _ (heap_alloc_new w7 _)]; rfl) (by rw [cell_of_row _ _ 1 _ _ _ (heap_alloc_new w7 _)]; rfl) (by rw [cell_of_row _ _ 2 _ _ _ (heap_alloc_new w7 _)]; rfl) (by rw [cell_of_row _ _ 3 _ _ _ (heap_alloc_new w7 _)]; rfl) (by rw [cell_of_row _ _ 4 _ _ _ (heap_alloc_new w7 _)]; rfl) (by rw [cell_of_row _ _ 5 _ _ _ (heap_alloc_new w7 _)]; rfl)).mono ?_
  rintro e w8 ⟨rfl, hw8⟩
  have HF : Hid (Gr w w8) := by rw [← hw8]; exact HS7.out.gr.alloc _
  clear hw8 p1 p2 q1 q2 r1 r2
  go_wp2
  go_ret
  exact ⟨rfl, HF.out⟩

theorem cells12 {w W : World} {x1 y1 x2 y2 p5 q5 p6 q6 p7 q7 p8 q8 : Value} {g5 g6 g7 g8 : Nat} (h : RS2 w W x1 y1 x2 y2) (h5 : TwoAt W g5 p5 q5) (h6 : TwoAt W g6 p6 q6) (h7 : TwoAt W g7 p7 q7) (h8 : TwoAt W g8 p8 q8) :
    W.cell? ⟨w.heap.size, 0, none⟩ = some x1 ∧ W.cell? ⟨w.heap.size, 1, none⟩ = some y1 ∧ W.cell? ⟨w.heap.size + 1, 0, none⟩ = some x2 ∧ W.cell? ⟨w.heap.size + 1, 1, none⟩ = some y2 ∧ W.cell? ⟨g5, 0, none⟩ = some p5 ∧ W.cell? ⟨g5, 1, none⟩ = some q5 ∧ W.cell? ⟨g6, 0, none⟩ = some p6 ∧ W.cell? ⟨g6, 1, none⟩ = some q6 ∧ W.cell? ⟨g7, 0, none⟩ = some p7 ∧ W.cell? ⟨g7, 1, none⟩ = some q7 ∧ W.cell? ⟨g8, 0, none⟩ = some p8 ∧ W.cell? ⟨g8, 1, none⟩ = some q8 :=
  ⟨h.cells.1, h.cells.2.1, h.cells.2.2.1, h.cells.2.2.2, h5.reads.1, h5.reads.2.1, h6.reads.1, h6.reads.2.1, h7.reads.1, h7.reads.2.1, h8.reads.1, h8.reads.2.1⟩
theorem cells6b {w W : World} {x1 y1 x2 y2 p5 q5 : Value} {g5 : Nat} (h : RS2 w W x1 y1 x2 y2) (h5 : TwoAt W g5 p5 q5) :
    W.cell? ⟨w.heap.size, 0, none⟩ = some x1 ∧ W.cell? ⟨w.heap.size, 1, none⟩ = some y1 ∧ W.cell? ⟨w.heap.size + 1, 0, none⟩ = some x2 ∧ W.cell? ⟨w.heap.size + 1, 1, none⟩ = some y2 ∧ W.cell? ⟨g5, 0, none⟩ = some p5 ∧ W.cell? ⟨g5, 1, none⟩ = some q5 :=
  ⟨h.cells.1, h.cells.2.1, h.cells.2.2.1, h.cells.2.2.2, h5.reads.1, h5.reads.2.1⟩
theorem RS2.set2 {w W : World} {x1 y1 x2 y2 : Value} (h : RS2 w W x1 y1 x2 y2) {g : Nat} (hg : w.heap.size + 2 ≤ g) (u v : Value) : RS2 w ((W.setCell ⟨g, 0, none⟩ u).setCell ⟨g, 1, none⟩ v) x1 y1 x2 y2 :=
  ⟨Gr.set2 h.gr (by omega) _ _, h.one.far (by omega) _ _, h.two.far (by omega) _ _⟩
/-- What is known behind a line that makes one integer. -/
structure One (w wd W : World) (x1 y1 x2 y2 : Value) (g : Nat) (x : Int) : Prop where
  st : RS2 w W x1 y1 x2 y2
  old : ∀ g' z, IntAt w wd g' z → IntAt w W g' z
  box : ∀ g' p q, TwoAt wd g' p q → TwoAt W g' p q
  inn : ∀ v z, IntIn w wd v z → IntIn w W v z
  int : IntAt w W g x
theorem One.was {w wd V : World} {x1 y1 x2 y2 p q : Value} {A : Option Addr} {c g lo hi : Nat} {x : Int} (hS : RS2 w V x1 y1 x2 y2) (hd : Gr wd V) (ix : IntIv lo hi V A c x) (px : TwoAt V g p q) (hwd : w.heap.size + 3 ≤ wd.heap.size) (sx : wd.heap.size ≤ g) (ux : w.heap.size ≤ lo) (xx : g < lo ∨ hi ≤ g) :
    One w wd ((V.setCell ⟨g, 0, none⟩ (.bool (decide (x < 0)))).setCell ⟨g, 1, none⟩ (.slice A (digs x.natAbs).length c)) x1 y1 x2 y2 g x :=
  ⟨hS.set2 (by omega) _ _, fun _ _ h => h.far hd sx _ _, fun g' _ _ h => (h.gr hd).far (by have := h.lt; omega) _ _, fun v z h => h.put hd (.inr sx) (Nat.le_refl _) _ _, (ix.set2 xx _ _).at_ (px.set2 _ _) ux (by omega)⟩
theorem One.new {w wd V : World} {x1 y1 x2 y2 : Value} {A : Option Addr} {c lo hi : Nat} {x : Int} (hS : RS2 w V x1 y1 x2 y2) (hd : Gr wd V) (ix : IntIv lo hi V A c x) (hwd : w.heap.size + 3 ≤ wd.heap.size) (ux : w.heap.size ≤ lo) :
    One w wd (V.alloc (.cells #[.bool (decide (x < 0)), .slice A (digs x.natAbs).length c] 24)) x1 y1 x2 y2 V.heap.size x :=
  have ga := (Gr.refl V).alloc (.cells #[.bool (decide (x < 0)), .slice A (digs x.natAbs).length c] 24)
  ⟨hS.next ga, fun _ _ h => (h.gr hd).gr ga, fun _ _ _ h => (h.gr hd).gr ga, fun _ _ h => (h.below hd).below ga, (ix.gr ga).at_ (TwoAt.new _ _ _) ux (Nat.le_trans hwd hd.size)⟩
theorem One.fin {w wd W : World} {x1 y1 x2 y2 : Value} {g : Nat} {x : Int} (h : One w wd W x1 y1 x2 y2 g x) : ∃ g12, Value.pointer (some ⟨g, 0, none⟩) = Value.pointer (some ⟨g12, 0, none⟩) ∧ Value.int .i64 0 = Value.int .i64 0 ∧ Hid (One w wd W x1 y1 x2 y2 g12 x) := ⟨g, rfl, rfl, h⟩
set_option maxHeartbeats 0 in
set_option maxRecDepth 1000000 in
theorem divides_some {B k1 k2 : Nat} {A1 A2 : Option Addr} {xs ys : List Nat} (n1 n2 : Bool) (w : World) (h1 : Rd w B A1 k1 xs) (h2 : Rd w B A2 k2 ys) (hB : B ≤ w.heap.size) (l1 : xs.length ≤ 40) (l2 : ys.length ≤ 40) (hv : 0 < val ys) :
    Calls Tryd.prog 6 #[.agg #[.bool n1, .slice A1 xs.length k1], .agg #[.bool n2, .slice A2 ys.length k2]] w fun e w' => e = .returned (.bool true) ∧ Below w.heap.size w w' := by
  have HRa := Lib.hid (Raw.mk (n := n1) h1 l1)
  have HRb := Lib.hid (Raw.mk (n := n2) h2 l2)
  have HDM := Lib.hid (fun (W : World) (hg : Gr w W) => divmod_full n1 n2 W (h1.below (Below.mono hg hB)) (h2.below (Below.mono hg hB)) (Nat.le_trans hB hg.size) (by omega) (by omega) hv)
  have HEX := Lib.hid (fun (W : World) (hg : Gr w W) => exact_some n1 n2 W (h1.below (Below.mono hg hB)) (h2.below (Below.mono hg hB)) (Nat.le_trans hB hg.size) (by omega) (by omega) hv)
  have HEU := Lib.hid (fun (W : World) (hg : Gr w W) => reuclid_any n1 n2 W (h1.below (Below.mono hg hB)) (h2.below (Below.mono hg hB)) (Nat.le_trans hB hg.size) (by omega) (by omega) hv)
  have hbn : sgn n2 (val ys) ≠ 0 := by
    intro h
    have := sgn_abs n2 (val ys)
    rw [h] at this
    simp at this
    omega
  have hrr : (sgn n1 (val xs) % sgn n2 (val ys) = 0) ↔ val xs % val ys = 0 := by
    have e : (sgn n1 (val xs)).natAbs % (sgn n2 (val ys)).natAbs = val xs % val ys := by rw [sgn_abs, sgn_abs]
    rw [← e]
    constructor
    · intro h
      have h3 := Int.emod_emod_of_dvd (sgn n1 (val xs)) (Int.dvd_refl (sgn n2 (val ys)))
      exact Nat.mod_eq_zero_of_dvd (Int.natAbs_dvd_natAbs.2 (Int.dvd_of_emod_eq_zero h))
    · intro h
      exact Int.emod_eq_zero_of_dvd (Int.natAbs_dvd_natAbs.1 (Nat.dvd_of_mod_eq_zero h))
  have HXY : Hid (∀ (W : World) (n3 : Bool) (A3 : Option Addr) (c3 : Nat) (zs : List Nat), Gr w W → Rd W W.heap.size A3 c3 zs → zs.length ≤ 80 → sgn n3 (val zs) = sgn n1 (val xs) * sgn n2 (val ys) → Calls Tryd.prog 39 #[.agg #[.bool n3, .slice A3 zs.length c3], .agg #[.bool n2, .slice A2 ys.length k2]] W fun e w' => Below W.heap.size W w' ∧ ∃ v, e = .returned (.tuple #[v, .int .i64 0]) ∧ IntIn W w' v (sgn n1 (val xs))) := fun W n3 A3 c3 zs hg hr hl he => by
    have h9 := exact_some n3 n2 W hr (h2.below (Below.mono hg hB) |>.mono (Nat.le_trans hB hg.size)) (Nat.le_refl _) (by omega) (by omega) hv
    have hz : val zs % val ys = 0 := by
      have e1 := congrArg Int.natAbs he
      rw [sgn_abs, Int.natAbs_mul, sgn_abs, sgn_abs] at e1
      rw [e1]; exact Nat.mul_mod_left _ _
    have hq : sgn n3 (val zs) / sgn n2 (val ys) = sgn n1 (val xs) := by rw [he]; exact Int.mul_ediv_cancel _ hbn
    refine h9.mono fun e w' ⟨u1, u2⟩ => ⟨u1, ?_⟩
    rcases u2 with ⟨u3, _⟩ | ⟨_, v, u4, u5⟩
    · exact absurd hz u3
    · exact ⟨v, u4, by rwa [hq] at u5⟩
  have HXYR : Hid (∀ (W : World) (v : Value), Gr w W → Raw W W.heap.size v (sgn n1 (val xs) * sgn n2 (val ys)) 80 → Calls Tryd.prog 39 #[v, .agg #[.bool n2, .slice A2 ys.length k2]] W fun e w' => Below W.heap.size W w' ∧ ∃ v, e = .returned (.tuple #[v, .int .i64 0]) ∧ IntIn W w' v (sgn n1 (val xs))) := fun W v hg hr => by
    obtain ⟨n3, A3, c3, zs, rfl, r3, e3, l3⟩ := hr
    exact HXY.out W n3 A3 c3 zs hg r3 l3 e3.symm
  clear HXY
  have HLQ : Hid ((digs (sgn n1 (val xs) / sgn n2 (val ys)).natAbs).length ≤ 41) := by
    refine digs_len ?_
    have e1 := Int.natAbs_ediv_le_natAbs (sgn n1 (val xs)) (sgn n2 (val ys))
    exact Nat.lt_of_le_of_lt e1 (Nat.lt_of_lt_of_le HRa.out.len (Nat.pow_le_pow_right (by omega) (by omega)))
  have HLR : Hid ((digs (sgn n1 (val xs) % sgn n2 (val ys)).natAbs).length ≤ 40) := by
    refine digs_len ?_
    have e1 := Int.emod_nonneg (sgn n1 (val xs)) hbn
    have e2 := Int.emod_lt (sgn n1 (val xs)) hbn
    have e3 := HRb.out.len
    exact Nat.lt_of_le_of_lt (by omega) e3
  have HID : Hid (sgn n1 (val xs) / sgn n2 (val ys) * sgn n2 (val ys) + sgn n1 (val xs) % sgn n2 (val ys) = sgn n1 (val xs)) := Int.ediv_mul_add_emod _ _
  have HLP : Hid ((digs (sgn n1 (val xs) * sgn n2 (val ys)).natAbs).length ≤ 80) := digs_len (abs_mul_lt HRa.out.len HRb.out.len)
  have HLA : Hid ((digs (sgn n1 (val xs)).natAbs).length ≤ 40) := digs_len HRa.out.len
  have HLQ2 : Hid ((digs (sgn n1 (val xs) / sgn n2 (val ys) * sgn n2 (val ys)).natAbs).length ≤ 81) := digs_len (abs_mul_lt (Nat.lt_of_lt_of_le (lt_digs _) (Nat.pow_le_pow_right (by omega) HLQ.out)) HRb.out.len)
  have HEX2 : Hid (∀ W : World, Gr w W → Calls Tryd.prog 39 #[.agg #[.bool n1, .slice A1 xs.length k1], .agg #[.bool n2, .slice A2 ys.length k2]] W fun e w' => ∃ (bx : Bool) (A8 : Option Addr) (l8 c8 : Nat) (e8 : Int), e = .returned (.tuple #[.agg #[.bool bx, .slice A8 l8 c8], .int .i64 e8]) ∧ Below W.heap.size W w' ∧ ((sgn n1 (val xs) % sgn n2 (val ys) ≠ 0 ∧ bx = false ∧ A8 = none ∧ l8 = 0 ∧ c8 = 0 ∧ e8 = 6) ∨ (sgn n1 (val xs) % sgn n2 (val ys) = 0 ∧ e8 = 0 ∧ IntIn w w' (.agg #[.bool bx, .slice A8 l8 c8]) (sgn n1 (val xs) / sgn n2 (val ys))))) := fun W hg => by
    refine (HEX.out W hg).mono fun e w' ⟨u1, u2⟩ => ?_
    rcases u2 with ⟨u3, u4⟩ | ⟨u3, v, u4, u5⟩
    · exact ⟨_, _, _, _, 6, u4, u1, .inl ⟨fun h => u3 (hrr.1 h), rfl, rfl, rfl, rfl, rfl⟩⟩
    · obtain ⟨A, c, rfl, u6, u7⟩ := u5
      exact ⟨_, _, _, _, 0, u4, u1, .inr ⟨hrr.2 u3, rfl, A, c, rfl, u6, fun a ha => Nat.le_trans hg.size (u7 a ha)⟩⟩
  obtain ⟨sb, hsb⟩ : ∃ sb, (sgn n2 (val ys)).sign = sb := ⟨_, rfl⟩
  have HSB := Lib.hid hsb
  have HSB0 : Hid (sb ≠ 0) := by
    show _ ≠ _
    rw [← hsb]
    intro h
    exact hbn (Int.sign_eq_zero_iff_zero.1 h)
  clear hsb
  clear h1 h2 hv
  have HBN := Lib.hid hbn
  have HRR := Lib.hid hrr
  clear hbn hrr
  generalize val xs % val ys = RN at *
  generalize sgn n1 (val xs) / sgn n2 (val ys) = q at *
  generalize sgn n1 (val xs) % sgn n2 (val ys) = r at *
  obtain ⟨p, hp⟩ : ∃ p, sgn n1 (val xs) * sgn n2 (val ys) = p := ⟨_, rfl⟩
  rw [hp] at HXYR HLP
  have HP := Lib.hid hp
  clear hp
  generalize sgn n1 (val xs) = a at *
  generalize sgn n2 (val ys) = b at *
  generalize xs.length = la at *
  generalize ys.length = lb at *
  have HAW := Lib.hid awake_any
  have HS0 := Lib.hid (rs2_boxes w (.bool n1) (.slice A1 la k1) (.bool n2) (.slice A2 lb k2))
  go_enter Tryd.func6, Tryd.ntmps6
  go_wp2_with (go_at_call 13; fail)
  refine (HAW.out _).mono ?_
  rintro e w1 ⟨rfl, hb1⟩
  have HS1 := Lib.hid (HS0.out.next hb1)
  obtain ⟨x1, x2, x3, x4⟩ := HS1.out.cells
  clear hb1
  go_wp2_with (go_at_call 14; fail)
  refine (long2_no (l1 := la) (l2 := lb) (c1 := k1) (c2 := k2) (A1 := A1) (A2 := A2) _ (by rw [cell_of_row _ _ 1 _ _ _ (heap_alloc_new w1 _)]; rfl) (by rw [cell_of_row _ _ 3 _ _ _ (heap_alloc_new w1 _)]; rfl) l1 l2).mono ?_
  rintro e w2 ⟨rfl, hw2⟩
  have HS2 : Hid (RS2 w w2 (.bool n1) (.slice A1 la k1) (.bool n2) (.slice A2 lb k2)) := by
    rw [← hw2]; exact HS1.out.next ((Gr.refl _).alloc _)
  have hz2 : w.heap.size + 3 ≤ w2.heap.size := by
    have := HS1.out.two.lt
    rw [← hw2, World.size_alloc]; omega
  clear hw2 x1 x2 x3 x4 HS1 HS0
  obtain ⟨x1, x2, x3, x4⟩ := HS2.out.cells
  go_wp2_with (go_at_call 38; fail)
  refine (HDM.out _ HS2.out.gr).mono ?_
  rintro e w3 ⟨v1, v2, rfl, i1, i2, hb3⟩
  have I1 := Lib.hid i1
  have I2 := Lib.hid i2
  obtain ⟨A5, c5, rfl, _, _⟩ := i1
  obtain ⟨A6, c6, rfl, _, _⟩ := i2
  have HS3 := Lib.hid (HS2.out.next hb3)
  have hz3 := hb3.size
  clear hb3 x1 x2 x3 x4 HDM
  obtain ⟨x1, x2, x3, x4⟩ := HS3.out.cells
  go_upto_region 6 with fail
  obtain ⟨w4, hw4⟩ : ∃ w4 : World, w4 = (w3.alloc (.cells #[.bool (decide (q < 0)), .slice A5 (digs q.natAbs).length c5] 24)).alloc (.cells #[.bool (decide (r < 0)), .slice A6 (digs r.natAbs).length c6] 24) := ⟨_, rfl⟩
  have HS4 : Hid (RS2 w w4 (.bool n1) (.slice A1 la k1) (.bool n2) (.slice A2 lb k2)) := by rw [hw4]; exact HS3.out.next (((Gr.refl _).alloc _).alloc _)
  have J5 : Hid (IntAt w w4 w3.heap.size q) := by rw [hw4]; exact IntAt.new1 I1.out (Gr.refl _) (by omega) (by omega)
  have J6 : Hid (IntAt w w4 (w3.heap.size + 1) r) := by rw [hw4]; exact IntAt.new2 I2.out (Gr.refl _) (by omega) (by omega)
  rw [← hw4]
  have hz4 : w3.heap.size + 2 ≤ w4.heap.size := by rw [hw4]; simp
  clear hw4 x1 x2 x3 x4 I1 I2
  obtain ⟨g5, hg5⟩ : ∃ g, w3.heap.size = g := ⟨_, rfl⟩
  obtain ⟨g6, hg6⟩ : ∃ g, w3.heap.size + 1 = g := ⟨_, rfl⟩
  rw [hg6] at J6
  rw [hg5] at J5
  try rw [hg6]
  try rw [hg5]
  obtain ⟨x1, x2, x3, x4⟩ := HS4.out.cells
  --PART2
  go_wp2_with (go_at_call 39; fail)
  refine (HEX2.out _ HS4.out.gr).mono ?_
  rintro e w5 ⟨bx, A8, l8, c8, e8, rfl, hb5, hc8⟩
  have HC8 := Lib.hid hc8
  have HS5 := Lib.hid (HS4.out.next hb5)
  have J5b := Lib.hid (J5.out.gr hb5)
  have J6b := Lib.hid (J6.out.gr hb5)
  have hz5 := hb5.size
  clear hb5 hc8 x1 x2 x3 x4 J5 J6 HEX HEX2
  go_upto_region 7 with fail
  obtain ⟨w6, hw6⟩ : ∃ w6 : World, w6 = w5.alloc (.cells #[.bool bx, .slice A8 l8 c8] 24) := ⟨_, rfl⟩
  have G56 : Hid (Gr w5 w6) := by rw [hw6]; exact (Gr.refl _).alloc _
  have T8 : Hid (TwoAt w6 w5.heap.size (.bool bx) (.slice A8 l8 c8)) := by rw [hw6]; exact TwoAt.new _ _ _
  rw [← hw6]
  clear hw6
  obtain ⟨g8, hg8⟩ : ∃ g, w5.heap.size = g := ⟨_, rfl⟩
  rw [hg8] at T8
  try rw [hg8]
  have HS6 := Lib.hid (HS5.out.next G56.out)
  have J5c := Lib.hid (J5b.out.gr G56.out)
  have J6c := Lib.hid (J6b.out.gr G56.out)
  obtain ⟨x1, x2, x3, x4⟩ := HS6.out.cells
  have HSI := Lib.hid (rsign_raw (HRb.out.gr HS6.out.gr hB) (Nat.le_refl _) (by omega))
  clear J5b J6b HS5
  go_wp2_with (go_at_call 23; fail)
  refine HSI.out.mono ?_
  rintro e w7 ⟨rfl, hb7⟩
  have HS7 := Lib.hid (HS6.out.next hb7)
  have J5d := Lib.hid (J5c.out.gr hb7)
  have J6d := Lib.hid (J6c.out.gr hb7)
  have T8b := Lib.hid (T8.out.gr hb7)
  have G57 : Hid (Gr w5 w7) := G56.out.call hb7
  have hz7 := G57.out.size
  clear hb7 x1 x2 x3 x4 J5c J6c T8 HSI HS6
  rw [HSB.out]
  have hsb0 : (sb == 0) = false := by rw [beq_eq_false_iff_ne]; exact HSB0.out
  obtain ⟨x1, x2, x3, x4⟩ := HS7.out.cells
  go_wp2_with (go_at_call 41; fail)
  refine (HEU.out _ HS7.out.gr).mono ?_
  rintro e w8 ⟨v3, v4, rfl, i1, i2, hb8⟩
  have I1 := Lib.hid i1
  have I2 := Lib.hid i2
  obtain ⟨A10, c10, rfl, _, _⟩ := i1
  obtain ⟨A11, c11, rfl, _, _⟩ := i2
  have HS8 := Lib.hid (HS7.out.next hb8)
  have J5e := Lib.hid (J5d.out.gr hb8)
  have J6e := Lib.hid (J6d.out.gr hb8)
  have T8c := Lib.hid (T8b.out.gr hb8)
  have G58 : Hid (Gr w5 w8) := G57.out.call hb8
  have hz8 := hb8.size
  clear hb8 x1 x2 x3 x4 HEU J5d J6d T8b
  go_upto_region 10 with fail
  obtain ⟨w9, hw9⟩ : ∃ w9 : World, w9 = (w8.alloc (.cells #[.bool (decide (q < 0)), .slice A10 (digs q.natAbs).length c10] 24)).alloc (.cells #[.bool (decide (r < 0)), .slice A11 (digs r.natAbs).length c11] 24) := ⟨_, rfl⟩
  have G89 : Hid (Gr w8 w9) := by rw [hw9]; exact ((Gr.refl _).alloc _).alloc _
  have J10 : Hid (IntAt w w9 w8.heap.size q) := by rw [hw9]; exact IntAt.new1 I1.out (Gr.refl _) (by omega) (by omega)
  have J11 : Hid (IntAt w w9 (w8.heap.size + 1) r) := by rw [hw9]; exact IntAt.new2 I2.out (Gr.refl _) (by omega) (by omega)
  rw [← hw9]
  clear hw9 I1 I2
  obtain ⟨g10, hg10⟩ : ∃ g, w8.heap.size = g := ⟨_, rfl⟩
  obtain ⟨g11, hg11⟩ : ∃ g, w8.heap.size + 1 = g := ⟨_, rfl⟩
  rw [hg11] at J11
  rw [hg10] at J10
  try rw [hg11]
  try rw [hg10]
  have HS9 := Lib.hid (HS8.out.next G89.out)
  obtain ⟨_, B5, d5, t5, u5⟩ := J5e.out.gr G89.out
  obtain ⟨_, B6, d6, t6, u6⟩ := J6e.out.gr G89.out
  obtain ⟨_, B10, d10, t10, u10⟩ := J10.out
  obtain ⟨_, B11, d11, t11, u11⟩ := J11.out
  have T8d := Lib.hid (T8c.out.gr G89.out)
  have G59 : Hid (Gr w5 w9) := G58.out.trans G89.out
  have T5 := Lib.hid t5
  have T6 := Lib.hid t6
  have T10 := Lib.hid t10
  have T11 := Lib.hid t11
  have U5 := Lib.hid u5
  have U6 := Lib.hid u6
  have U10 := Lib.hid u10
  have U11 := Lib.hid u11
  have hz9 := G89.out.size
  clear t5 t6 t10 t11 u5 u6 u10 u11 J5e J6e T8c HS8
  have H0 : Hid (RS2 w w9.drew (.bool n1) (.slice A1 la k1) (.bool n2) (.slice A2 lb k2)) := HS9.out.next (Gr.refl _).drew
  have K0 : Hid (Gr w9 w9.drew) := (Gr.refl _).drew
  have C0 := Lib.hid (cells12 H0.out (T5.out.gr K0.out) (T6.out.gr K0.out) (T10.out.gr K0.out) (T11.out.gr K0.out))
  go_region_held3 (fun w' => w'.cell? ⟨w.heap.size, 0, none⟩ = some (.bool n1) ∧ w'.cell? ⟨w.heap.size, 1, none⟩ = some (.slice A1 la k1) ∧ w'.cell? ⟨w.heap.size + 1, 0, none⟩ = some (.bool n2) ∧ w'.cell? ⟨w.heap.size + 1, 1, none⟩ = some (.slice A2 lb k2) ∧ w'.cell? ⟨g5, 0, none⟩ = some (.bool (decide (q < 0))) ∧ w'.cell? ⟨g5, 1, none⟩ = some (.slice B5 (digs q.natAbs).length d5) ∧ w'.cell? ⟨g6, 0, none⟩ = some (.bool (decide (r < 0))) ∧ w'.cell? ⟨g6, 1, none⟩ = some (.slice B6 (digs r.natAbs).length d6) ∧ w'.cell? ⟨g10, 0, none⟩ = some (.bool (decide (q < 0))) ∧ w'.cell? ⟨g10, 1, none⟩ = some (.slice B10 (digs q.natAbs).length d10) ∧ w'.cell? ⟨g11, 0, none⟩ = some (.bool (decide (r < 0))) ∧ w'.cell? ⟨g11, 1, none⟩ = some (.slice B11 (digs r.natAbs).length d11))
  (with_reducible first | exact C6.out | exact C5.out | exact C4.out | exact C3.out | exact C2.out | exact C1.out | exact C0.out | fail)
    (first
      | (go_at_call 18; ((with_reducible refine (same_yes (U5.out.keepG K0.out) (U10.out.keepG K0.out) rfl HLQ.out).mono ?_); rintro e m1 ⟨rfl, hb1⟩; have hg1 : Gr _ _ := hb1; have H1 := Lib.hid (H0.out.next hg1); have K1 : Hid (Gr w9 m1) := K0.out.trans hg1; have C1 := Lib.hid (cells12 H1.out (T5.out.gr K1.out) (T6.out.gr K1.out) (T10.out.gr K1.out) (T11.out.gr K1.out)); clear hb1 hg1))
      | (go_at_call 18; ((with_reducible refine (same_yes (U6.out.keepG K1.out) (U11.out.keepG K1.out) rfl HLR.out).mono ?_); rintro e m2 ⟨rfl, hb2⟩; have hg2 : Gr _ _ := hb2; have H2 := Lib.hid (H1.out.next hg2); have K2 : Hid (Gr w9 m2) := K1.out.trans hg2; have C2 := Lib.hid (cells12 H2.out (T5.out.gr K2.out) (T6.out.gr K2.out) (T10.out.gr K2.out) (T11.out.gr K2.out)); clear hb2 hg2))
      | (go_at_call 34; ((with_reducible refine (mul_raw (U5.out.gr K2.out HLQ.out) (HRb.out.gr H2.out.gr hB) (Nat.le_refl _) (by omega) (by omega) (by omega)).mono ?_); rintro e m3 ⟨vv3, rfl, hi3, hb3⟩; have I3 := Lib.hid hi3; obtain ⟨AA3, cc3, hv, _, _⟩ := hi3; subst hv; have hg3 : Gr _ _ := hb3; have H3 := Lib.hid (H2.out.next hg3); have K3 : Hid (Gr w9 m3) := K2.out.trans hg3; have L3_3 : Hid (Gr m3 m3) := Gr.refl _; have C3 := Lib.hid (cells12 H3.out (T5.out.gr K3.out) (T6.out.gr K3.out) (T10.out.gr K3.out) (T11.out.gr K3.out)); clear hb3 hg3))
      | (go_at_call 30; ((with_reducible refine (ret_is HID.out (add_raw (I3.out.gr L3_3.out HLQ2.out) (U6.out.gr K3.out HLR.out) (Nat.le_refl _) (by omega) (by omega))).mono ?_); rintro e m4 ⟨vv4, rfl, hi4, hb4⟩; have I4 := Lib.hid hi4; obtain ⟨AA4, cc4, hv, _, _⟩ := hi4; subst hv; have hg4 : Gr _ _ := hb4; have H4 := Lib.hid (H3.out.next hg4); have K4 : Hid (Gr w9 m4) := K3.out.trans hg4; have L4_4 : Hid (Gr m4 m4) := Gr.refl _; have C4 := Lib.hid (cells12 H4.out (T5.out.gr K4.out) (T6.out.gr K4.out) (T10.out.gr K4.out) (T11.out.gr K4.out)); clear hb4 hg4))
      | (go_at_call 20; ((with_reducible refine (normal_raw (HRa.out.gr H4.out.gr hB) (Nat.le_refl _) (by omega)).mono ?_); rintro e m5 ⟨vv5, rfl, hi5, hb5⟩; have I5 := Lib.hid hi5; obtain ⟨AA5, cc5, hv, _, _⟩ := hi5; subst hv; have hg5 : Gr _ _ := hb5; have H5 := Lib.hid (H4.out.next hg5); have K5 : Hid (Gr w9 m5) := K4.out.trans hg5; have L4_5 := Lib.hid (L4_4.out.call hb5); have L5_5 : Hid (Gr m5 m5) := Gr.refl _; have C5 := Lib.hid (cells12 H5.out (T5.out.gr K5.out) (T6.out.gr K5.out) (T10.out.gr K5.out) (T11.out.gr K5.out)); clear hb5 hg5))
      | (go_at_call 18; ((with_reducible refine (same_yes (I4.out.keepG L4_5.out) (I5.out.keepG L5_5.out) rfl HLA.out).mono ?_); rintro e m6 ⟨rfl, hb6⟩; have hg6 : Gr _ _ := hb6; have H6 := Lib.hid (H5.out.next hg6); have K6 : Hid (Gr w9 m6) := K5.out.trans hg6; have C6 := Lib.hid (cells12 H6.out (T5.out.gr K6.out) (T6.out.gr K6.out) (T10.out.gr K6.out) (T11.out.gr K6.out)); clear hb6 hg6))
      | fail)
  have HSA := Lib.hid H6.out
  have T8e := Lib.hid (T8d.out.gr K6.out)
  have G5A : Hid (Gr w5 m6) := G59.out.trans K6.out
  have J10b : Hid (IntAt w m6 g10 q) := J10.out.gr K6.out
  have J11b : Hid (IntAt w m6 g11 r) := J11.out.gr K6.out
  have hzA := K6.out.size
  clear C0 C1 C2 C3 C4 C5 C6 H0 H1 H2 H3 H4 H5 H6 K0 K1 K2 K3 K4 K5 I3 I4 I5 L3_3 L4_4 L4_5 L5_5 T5 T6 T10 T11 U5 U6 U10 U11 HS9 J10 J11 T8d G59
  obtain ⟨x1, x2, x3, x4⟩ := HSA.out.cells
  go_upto_region 12 with fail
  go_cut [12, 13] (fun s12 s13 wx => ∃ g12 : Nat, s12 = .pointer (some ⟨g12, 0, none⟩) ∧ s13 = .int .i64 0 ∧ Hid (One w m6 wx (.bool n1) (.slice A1 la k1) (.bool n2) (.slice A2 lb k2) g12 a))
  case first =>
    have hzw : w.heap.size + 3 ≤ m6.heap.size := by omega
    have S0 : Hid (RS2 w m6.drew (.bool n1) (.slice A1 la k1) (.bool n2) (.slice A2 lb k2)) := HSA.out.next (Gr.refl _).drew
    have S0a : Hid (RS2 w (m6.alloc (.cells #[.bool false, .slice none 0 0] 24)).drew (.bool n1) (.slice A1 la k1) (.bool n2) (.slice A2 lb k2)) := HSA.out.next ((Gr.refl _).alloc _).drew
    have K0 : Hid (Gr m6 m6.drew) := (Gr.refl _).drew
    have K0a : Hid (Gr m6 (m6.alloc (.cells #[.bool false, .slice none 0 0] 24)).drew) := ((Gr.refl _).alloc _).drew
    go_region_held3 (fun w' => w'.cell? ⟨w.heap.size, 0, none⟩ = some (.bool n1) ∧ w'.cell? ⟨w.heap.size, 1, none⟩ = some (.slice A1 la k1) ∧ w'.cell? ⟨w.heap.size + 1, 0, none⟩ = some (.bool n2) ∧ w'.cell? ⟨w.heap.size + 1, 1, none⟩ = some (.slice A2 lb k2))
      (with_reducible first | exact S0.out.cells | exact S0a.out.cells | exact S1.out.cells | exact S1a.out.cells | exact S2.out.cells | exact (S2.out.next ((Gr.refl _).alloc _)).cells | exact (S2.out.set2 Z2.out _ _).cells | exact (S2.out.set2 Z3.out _ _).cells | fail)
      (first
        | (go_at_call 34; ((with_reducible refine (ret_is HP.out (mul_raw (HRa.out.gr (by with_reducible first | exact S0.out.gr | exact S0a.out.gr) hB) (HRb.out.gr (by with_reducible first | exact S0.out.gr | exact S0a.out.gr) hB) (Nat.le_refl _) (by omega) (by omega) (by omega))).mono ?_); rintro e o1 ⟨vv1, rfl, hi1, hb1⟩; have I1 := Lib.hid hi1; obtain ⟨AA1, cc1, hv, _, _⟩ := hi1; subst hv; have hg1 : Gr _ _ := hb1; have S1 : Hid (RS2 w o1 (.bool n1) (.slice A1 la k1) (.bool n2) (.slice A2 lb k2)) := (by with_reducible first | exact Lib.hid (S0.out.next hg1) | exact Lib.hid (S0a.out.next hg1)); have K1 : Hid (Gr m6 o1) := (by with_reducible first | exact Lib.hid (K0.out.call hb1) | exact Lib.hid (K0a.out.call hb1)); have S1a := Lib.hid (S1.out.next (show Gr o1 (o1.alloc (.cells #[.bool false, .slice none 0 0] 24)) from (Gr.refl _).alloc (.cells #[.bool false, .slice none 0 0] 24))); have K1a := Lib.hid (K1.out.alloc (.cells #[.bool false, .slice none 0 0] 24)); (first | (with_reducible have T1 := Lib.hid (TwoAt.keepNewD hb1)) | skip); clear hb1 hg1))
        | (go_at_call 39; ((with_reducible refine (HXYR.out _ _ (by with_reducible first | exact S1.out.gr | exact S1a.out.gr) (I1.out.gr (by with_reducible first | exact Gr.refl _ | exact (Gr.refl _).alloc _) HLP.out)).mono ?_); rintro e o2 ⟨hb2, vv2, rfl, hi2⟩; have I2 := Lib.hid hi2; obtain ⟨AA2, cc2, hv, _, _⟩ := hi2; subst hv; have V2 := (by with_reducible first | exact Lib.hid (IntIv.of_a I2.out) | exact Lib.hid (IntIv.of I2.out) | fail); have hg2 : Gr _ _ := hb2; have S2 : Hid (RS2 w o2 (.bool n1) (.slice A1 la k1) (.bool n2) (.slice A2 lb k2)) := (by with_reducible first | exact Lib.hid (S1.out.next hg2) | exact Lib.hid (S1a.out.next hg2)); have K2 : Hid (Gr m6 o2) := (by with_reducible first | exact Lib.hid (K1.out.call hb2) | exact Lib.hid (K1a.out.call hb2)); (first | (with_reducible have T2 := Lib.hid (T1.out.gr hg2)) | (with_reducible have T2 := Lib.hid (TwoAt.keepNew hb2)) | skip); (first | (have hz := T2.out.reads; obtain ⟨z1, z2, z3, z4⟩ := hz; have Z2 := (by first | exact Lib.hid (show w.heap.size + 2 ≤ m6.heap.size by omega) | fail); have Z3 := (by exact Lib.hid (show w.heap.size + 2 ≤ o1.heap.size by have := K1.out.size; omega))) | skip); clear hb2 hg2))
        | fail)
    all_goals
      go_wp2_with fail
      go_meet
      have q1 := K1.out.size
      have q2 := K2.out.size
      try have t1 := T1.out.lt
      try have t2 := T2.out.lt
      (first | with_reducible exact One.fin (One.was S2.out K2.out V2.out T2.out hzw (by omega) (by omega) (by omega)) | with_reducible exact One.fin (One.new S2.out K2.out V2.out hzw (by omega)) | fail)
  case rest =>
    obtain ⟨g12, rfl, rfl, HO⟩ := hcut
    clear x1 x2 x3 x4
    obtain ⟨wz, rfl⟩ : ∃ wz : World, wz = wc := ⟨_, rfl⟩
    have HZ := Lib.hid HO.out.st
    have T8f := Lib.hid (HO.out.box _ _ _ T8e.out)
    obtain ⟨_, B12, d12, t12, u12⟩ := HO.out.int
    obtain ⟨_, F10, f10, t10, u10⟩ := HO.out.old _ _ J10b.out
    obtain ⟨_, F11, f11, t11, u11⟩ := HO.out.old _ _ J11b.out
    have T12 := Lib.hid t12
    have T10 := Lib.hid t10
    have T11 := Lib.hid t11
    have U12 := Lib.hid u12
    have U10 := Lib.hid u10
    have U11 := Lib.hid u11
    have HC9 : Hid ((r ≠ 0 ∧ bx = false ∧ A8 = none ∧ l8 = 0 ∧ c8 = 0 ∧ e8 = 6) ∨ (r = 0 ∧ e8 = 0 ∧ IntIn w wz (.agg #[.bool bx, .slice A8 l8 c8]) q)) := by
      rcases HC8.out with h | ⟨h1, h2, h3⟩
      · exact .inl h
      · exact .inr ⟨h1, h2, HO.out.inn _ _ (h3.below G5A.out)⟩
    clear t12 t10 t11 u12 u10 u11 J10b J11b T8e HC8 G5A HSA HO
    have H0 : Hid (RS2 w wz.drew (.bool n1) (.slice A1 la k1) (.bool n2) (.slice A2 lb k2)) := HZ.out.next (Gr.refl _).drew
    have K0 : Hid (Gr wz wz.drew) := (Gr.refl _).drew
    have C0 := Lib.hid (cells6b H0.out (T12.out.gr K0.out))
    go_wp2_with fail
    go_region_held3 (fun w' => w'.cell? ⟨w.heap.size, 0, none⟩ = some (.bool n1) ∧ w'.cell? ⟨w.heap.size, 1, none⟩ = some (.slice A1 la k1) ∧ w'.cell? ⟨w.heap.size + 1, 0, none⟩ = some (.bool n2) ∧ w'.cell? ⟨w.heap.size + 1, 1, none⟩ = some (.slice A2 lb k2) ∧ w'.cell? ⟨g12, 0, none⟩ = some (.bool (decide (a < 0))) ∧ w'.cell? ⟨g12, 1, none⟩ = some (.slice B12 (digs a.natAbs).length d12))
      (with_reducible first | exact C2.out | exact C1.out | exact C0.out | fail)
      (first
        | (go_at_call 20; ((with_reducible refine (normal_raw (HRa.out.gr H0.out.gr hB) (Nat.le_refl _) (by omega)).mono ?_); rintro e p1 ⟨vv1, rfl, hi1, hb1⟩; have I1 := Lib.hid hi1; obtain ⟨AA1, cc1, hv, _, _⟩ := hi1; subst hv; have hg1 : Gr _ _ := hb1; have H1 := Lib.hid (H0.out.next hg1); have K1 : Hid (Gr wz p1) := K0.out.trans hg1; have L1_1 : Hid (Gr p1 p1) := Gr.refl _; have C1 := Lib.hid (cells6b H1.out (T12.out.gr K1.out)); clear hb1 hg1))
        | (go_at_call 18; ((with_reducible refine (same_yes (U12.out.keepG K1.out) (I1.out.keepG L1_1.out) rfl HLA.out).mono ?_); rintro e p2 ⟨rfl, hb2⟩; have hg2 : Gr _ _ := hb2; have H2 := Lib.hid (H1.out.next hg2); have K2 : Hid (Gr wz p2) := K1.out.trans hg2; have C2 := Lib.hid (cells6b H2.out (T12.out.gr K2.out)); clear hb2 hg2))
        | fail)
    have T8g := Lib.hid (T8f.out.gr K2.out)
    have U10g := Lib.hid (U10.out.below K2.out)
    obtain ⟨y1, y2, _, _⟩ := (T10.out.gr K2.out).reads
    obtain ⟨y3, y4, _, _⟩ := (T11.out.gr K2.out).reads
    obtain ⟨y5, y6, _, _⟩ := T8g.out.reads
    have HSR := Lib.hid (rsign_raw (U11.out.gr K2.out HLR.out) (Nat.le_refl _) (by omega))
    have HFI := Lib.hid H2.out.gr
    go_wp2_with (go_at_call 23; fail)
    refine HSR.out.mono ?_
    rintro e p3 ⟨rfl, hb3⟩
    have G3 : Hid (Gr p2 p3) := hb3
    have T8h := Lib.hid (T8g.out.gr hb3)
    obtain ⟨v1, v2, _, _⟩ := T8h.out.reads
    obtain ⟨v3, v4, _, _⟩ := ((T10.out.gr K2.out).gr hb3).reads
    clear hb3 y1 y2 y3 y4 y5 y6
    rcases HC9.out with ⟨hr, rfl, rfl, rfl, rfl, rfl⟩ | ⟨hr, rfl, hi⟩
    · obtain ⟨sr, hsr⟩ : ∃ sr, r.sign = sr := ⟨_, rfl⟩
      have hs0 : (sr == 0) = false := by
        rw [beq_eq_false_iff_ne, ← hsr]
        intro h
        exact hr (Int.sign_eq_zero_iff_zero.1 h)
      rw [hsr]
      clear hsr hr HC9
      go_wp2_with (go_at_call 40; fail)
      refine (zero1 _ (by rw [cell_of_row _ _ 0 _ _ _ (heap_alloc_new p3 _)]; rfl) (by rw [cell_of_row _ _ 1 _ _ _ (heap_alloc_new p3 _)]; rfl)).mono ?_
      rintro e p4 ⟨rfl, hw4⟩
      have HF : Hid (Gr w p4) := by rw [← hw4]; exact (HFI.out.trans G3.out).alloc _
      clear hw4
      go_wp2
      go_ret
      exact ⟨rfl, HF.out⟩
    · have HI8 : Hid (IntIn w p3 (.agg #[.bool bx, .slice A8 l8 c8]) q) := (hi.below K2.out).below G3.out
      have HI10 := Lib.hid (U10g.out.below G3.out)
      have HSM := Lib.hid (same_yes HI8.out HI10.out rfl HLQ.out)
      subst hr
      clear hi HC9
      rw [show (0 : Int).sign = 0 from rfl]
      go_wp2_with (go_at_call 18; fail)
      refine HSM.out.mono ?_
      rintro e p4 ⟨rfl, hb4⟩
      have HF : Hid (Gr w p4) := (HFI.out.trans G3.out).call hb4
      clear hb4
      go_wp2
      go_ret
      exact ⟨rfl, HF.out⟩
theorem bigintDivides_walk (n1 n2 : Bool) {A1 A2 : Option Addr} {k1 k2 : Nat} {xs ys : List Nat} (w : World) (h1 : Rd w w.heap.size A1 k1 xs) (h2 : Rd w w.heap.size A2 k2 ys) :
    Calls Tryd.prog 6 #[.agg #[.bool n1, .slice A1 xs.length k1], .agg #[.bool n2, .slice A2 ys.length k2]] w fun e w' => e = .returned (.bool true) ∧ Below w.heap.size w w' := by
  by_cases h : xs.length ≤ 40 ∧ ys.length ≤ 40
  · by_cases hv : val ys = 0
    · exact divides_zero n1 n2 w h2 (Nat.le_refl _) h.1 h.2 hv
    · exact divides_some n1 n2 w h1 h2 (Nat.le_refl _) h.1 h.2 (Nat.pos_of_ne_zero hv)
  · exact divides_long n1 n2 w (by omega)
end Go.Proofs.YtbijjiadokgmoaaDoor
