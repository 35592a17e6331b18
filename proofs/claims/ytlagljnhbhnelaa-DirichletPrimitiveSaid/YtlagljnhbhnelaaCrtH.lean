/- The contract of arith.Crt over any list of congruences. -/
import Derived.Test.YtlagljnhbhnelaaCrtG
import Derived.Test.YtlagljnhbhnelaaBoxL
import Derived.OneCell
namespace Go.Proofs.Ytlagljnhbhnelaa
open Go.RowKit

theorem gcd_coprime {a b a' b' : Int} (hb : b ≠ 0) (ha : a = (Int.gcd a b : Int) * a') (hb' : b = (Int.gcd a b : Int) * b') : Int.gcd a' b' = 1 := by
  have hg : 0 < Int.gcd a b := Int.gcd_pos_of_ne_zero_right a hb
  have e : Int.gcd ((Int.gcd a b : Int) * a') ((Int.gcd a b : Int) * b') = Int.gcd a b * Int.gcd a' b' := by rw [Int.gcd_mul_left]; simp
  rw [← ha, ← hb'] at e
  have : Int.gcd a b * 1 = Int.gcd a b * Int.gcd a' b' := by omega
  exact (Nat.eq_of_mul_eq_mul_left hg this).symm
/-- What both divide is divided by their least common multiple. -/
theorem lcm_dvd {a b x : Int} (hb : b ≠ 0) (h : a ∣ x) (k : b ∣ x) : a * (b / (Int.gcd a b : Int)) ∣ x := by
  have hg : 0 < Int.gcd a b := Int.gcd_pos_of_ne_zero_right a hb
  obtain ⟨a', ha⟩ := Int.gcd_dvd_left a b
  obtain ⟨b', hb'⟩ := Int.gcd_dvd_right a b
  have hc := gcd_coprime hb ha hb'
  generalize hG : (Int.gcd a b : Int) = g at *
  have hg0 : 0 < g := by omega
  have hq : b / g = b' := by conv => lhs; arg 1; rw [hb']
                             exact Int.mul_ediv_cancel_left _ (by omega)
  rw [hq]
  obtain ⟨t, rfl⟩ := h
  have h2 : g * b' ∣ g * (a' * t) := by
    rw [← hb', ← Int.mul_assoc, ← ha]; exact k
  have h3 : b' ∣ a' * t := Int.dvd_of_mul_dvd_mul_left (by omega) h2
  have h4 : b' ∣ t := by
    rw [← Int.natAbs_dvd_natAbs] at h3 ⊢
    rw [Int.natAbs_mul] at h3
    exact Nat.Coprime.dvd_of_dvd_mul_left (by show Nat.gcd _ _ = 1; rw [Nat.gcd_comm]; exact hc) h3
  exact Int.mul_dvd_mul_left a h4
theorem CombIs.unique {ar am br bm r m e r' m' e' : Int} (h : CombIs ar am br bm r m e) (k : CombIs ar am br bm r' m' e') : r = r' ∧ m = m' ∧ e = e' := by
  have hdv : ∀ r, am ∣ r - ar → bm ∣ r - br → (Int.gcd am bm : Int) ∣ br - ar := fun r h1 h2 => by
    have := Int.dvd_sub (Int.dvd_trans (Int.gcd_dvd_left am bm) h1) (Int.dvd_trans (Int.gcd_dvd_right am bm) h2)
    rwa [show r - ar - (r - br) = br - ar by omega] at this
  rcases h with ⟨h0, rfl, rfl, rfl⟩ | ⟨h0, h1, rfl, rfl, rfl⟩ | ⟨h0, h1, h2, rfl, rfl, rfl⟩ | ⟨h0, h1, h2, h3, h4, h5, h6, rfl⟩ <;>
  rcases k with ⟨k0, rfl, rfl, rfl⟩ | ⟨k0, k1, rfl, rfl, rfl⟩ | ⟨k0, k1, k2, rfl, rfl, rfl⟩ | ⟨k0, k1, k2, k3, k4, k5, k6, rfl⟩
  all_goals first
    | exact ⟨rfl, rfl, rfl⟩
    | omega
    | exact absurd k1 h1
    | exact absurd h1 k1
    | exact absurd (hdv _ k5 k6) h1
    | exact absurd (hdv _ h5 h6) k1
    | skip
  refine ⟨?_, by omega, rfl⟩
  have d1 : am ∣ r - r' := by have := Int.dvd_sub h5 k5; rwa [show r - ar - (r' - ar) = r - r' by omega] at this
  have d2 : bm ∣ r - r' := by have := Int.dvd_sub h6 k6; rwa [show r - br - (r' - br) = r - r' by omega] at this
  have d3 := lcm_dvd (by omega) d1 d2
  rw [← h2] at d3
  have := Nat.eq_zero_of_dvd_of_lt (Int.natAbs_dvd_natAbs.2 d3) (by omega)
  omega

/-- The list combined into (ar, am), one after another: the first error, or all. -/
def CrtIs : List (Int × Int) → Int → Int → Int → Int → Int → Prop
  | [], ar, am, r, m, e => r = ar ∧ m = am ∧ e = 0
  | (br, bm) :: L, ar, am, r, m, e => (e ≠ 0 ∧ r = 0 ∧ m = 0 ∧ CombIs ar am br bm 0 0 e) ∨ (∃ r' m', CombIs ar am br bm r' m' 0 ∧ CrtIs L r' m' r m e)

theorem two_cellsC {w : World} {b : Nat} {x y : Value} {t : TypeId} (h : w.heap[b]? = some (.cells #[x, y] t (0, 0))) : w.cell? ⟨b, 0, none⟩ = some x ∧ w.cell? ⟨b, 1, none⟩ = some y ∧ w.frozen? ⟨b, 0, none⟩ = false ∧ w.frozen? ⟨b, 1, none⟩ = false := by
  simp [World.cell?, World.frozen?, h]
theorem two_set0C {w : World} {b : Nat} {x y u : Value} {t : TypeId} (h : w.heap[b]? = some (.cells #[x, y] t (0, 0))) : (w.setCell ⟨b, 0, none⟩ u).heap[b]? = some (.cells #[u, y] t (0, 0)) := by
  have hlt := lt_of_block h
  have h' : w.heap[b] = .cells #[x, y] t (0, 0) := by simpa [Array.getElem?_eq_getElem hlt] using h
  show (w.heap.modify b _)[b]? = _
  rw [Array.getElem?_eq_getElem (by simpa using hlt), Array.getElem_modify_self, h']
  rfl
theorem two_set1C {w : World} {b : Nat} {x y u : Value} {t : TypeId} (h : w.heap[b]? = some (.cells #[x, y] t (0, 0))) : (w.setCell ⟨b, 1, none⟩ u).heap[b]? = some (.cells #[x, u] t (0, 0)) := by
  have hlt := lt_of_block h
  have h' : w.heap[b] = .cells #[x, y] t (0, 0) := by simpa [Array.getElem?_eq_getElem hlt] using h
  show (w.heap.modify b _)[b]? = _
  rw [Array.getElem?_eq_getElem (by simpa using hlt), Array.getElem_modify_self, h']
  rfl

theorem add_block (a : Addr) (j : Nat) : (a.add j).block = a.block := by unfold Addr.add; split <;> rfl

theorem add_succ (a : Addr) (n : Nat) : a.add (n + 1) = ⟨(a.add n).block, (a.add n).off + 1, none⟩ := by
  unfold Addr.add
  rw [if_neg (by omega)]
  split <;> (simp <;> omega)

/-- The world within Crt: the result's variable, the congruence so far; below them all is as it was. -/
structure CW (B : Nat) (w0 : World) (r m : Int) (w : World) : Prop where
  res : w.heap[B]? = some (.cells #[.int .i64 0, .int .i64 0] 93 (0, 0))
  all : w.heap[B + 1]? = some (.cells #[.int .i64 r, .int .i64 m] 93 (0, 0))
  below : Below B w0 w
theorem CW.size {B : Nat} {w0 w : World} {r m : Int} (h : CW B w0 r m w) : B + 2 ≤ w.heap.size := by
  have := lt_of_block h.all; omega
theorem CW.on {B : Nat} {w0 w w1 : World} {r m : Int} (h : CW B w0 r m w) (hb : Below (B + 2) w w1) : CW B w0 r m w1 :=
  ⟨(hb.block B (by omega)).trans h.res, (hb.block (B + 1) (by omega)).trans h.all, h.below.trans (hb.mono (by omega))⟩
theorem CW.set {B : Nat} {w0 w : World} {r m : Int} (h : CW B w0 r m w) (r' m' : Int) : CW B w0 r' m' ((w.setCell ⟨B + 1, 0, none⟩ (.int .i64 r')).setCell ⟨B + 1, 1, none⟩ (.int .i64 m')) := by
  refine ⟨?_, two_set1C (two_set0C h.all), (h.below.setCell (by show B ≤ B + 1; omega) _).setCell (by show B ≤ B + 1; omega) _⟩
  rw [Below.heap_setCell _ _ _ _ (by show B ≠ B + 1; omega), Below.heap_setCell _ _ _ _ (by show B ≠ B + 1; omega)]
  exact h.res

theorem CombIs.good {ar am br bm r m : Int} (h : CombIs ar am br bm r m 0) : 0 ≤ r ∧ r < m ∧ m ≤ 2147483647 := by
  rcases h with ⟨_, _, _, h⟩ | ⟨_, _, _, _, h⟩ | ⟨_, _, _, _, _, h⟩ | ⟨_, h1, h2, h3, h4, _⟩
  · omega
  · omega
  · omega
  · omega
theorem CombIs.bad {ar am br bm r m e : Int} (h : CombIs ar am br bm r m e) (he : e ≠ 0) : r = 0 ∧ m = 0 := by
  rcases h with ⟨_, h1, h2, h⟩ | ⟨_, _, h1, h2, h⟩ | ⟨_, _, _, h1, h2, h⟩ | ⟨_, _, _, _, _, _, _, h⟩
  · exact ⟨h1, h2⟩
  · exact ⟨h1, h2⟩
  · exact ⟨h1, h2⟩
  · exact absurd h he
theorem combine_any (ar am br bm : Int) (w : World) (ha : 0 ≤ ar) (ham : ar < am) (ha2 : am ≤ 2147483647) :
    Calls Try.prog 80 #[.agg #[.int .i64 ar, .int .i64 am], .agg #[.int .i64 br, .int .i64 bm]] w fun e w' => ∃ r m e0 : Int, e = .returned (.tuple #[.agg #[.int .i64 r, .int .i64 m], .int .i64 e0]) ∧ CombIs ar am br bm r m e0 ∧ Below w.heap.size w w' := by
  by_cases h : bm < 1 ∨ 2147483647 < bm
  · exact (combine_no ar am br bm w h).mono fun e w' ⟨h1, h2⟩ => ⟨0, 0, 2, h1, .inl ⟨h, rfl, rfl, rfl⟩, h2⟩
  · exact combine_yes ar am br bm w ha ham ha2 (by omega) (by omega)

set_option maxHeartbeats 800000 in
set_option maxRecDepth 1000000 in
theorem crt_some (L : List (Int × Int)) (a : Addr) (cap : Nat) (w : World) (hcap : L.length ≤ cap) (hcap2 : (cap : Int) ≤ 9223372036854775807) (hab : Hid (0 < L.length → a.block < w.heap.size))
    (hc : Hid (∀ k (hk : k < L.length), w.cell? (a.add (k * 2)) = some (.int .i64 L[k].1) ∧ w.cell? (a.add (k * 2 + 1)) = some (.int .i64 L[k].2))) :
    Calls Try.prog 69 #[.slice (some a) L.length cap] w fun e w' => ∃ r m e0 : Int, e = .returned (.tuple #[.agg #[.int .i64 r, .int .i64 m], .int .i64 e0]) ∧ CrtIs L 0 1 r m e0 ∧ Below w.heap.size w w' := by
  go_enter Try.func69, Try.ntmps69
  go_wp2
  go_loopw [6, 7, 11] (fun _ _ i wr => ∃ (k : Nat) (r m : Int), k ≤ L.length ∧ i = .int .i64 k ∧ Hid (0 ≤ r ∧ r < m ∧ m ≤ 2147483647) ∧ Hid (∀ r' m' e, CrtIs (L.drop k) r m r' m' e → CrtIs L 0 1 r' m' e) ∧ Hid (CW w.heap.size w r m wr)) (fun _ _ i _ => L.length - (intOf i).toNat)
  case atStart =>
    refine ⟨0, 0, 1, Nat.zero_le _, rfl, by show _ ∧ _; omega, fun r' m' e h => h, ?_⟩
    refine ⟨?_, ?_, ((Below.refl _ _).alloc (Nat.le_refl _) _).alloc (by simp) _⟩
    · rw [Below.heap_alloc _ _ _ (by simp)]; exact heap_alloc_new w _
    · have := heap_alloc_new (w.alloc (.cells #[.int .i64 0, .int .i64 0] 93)) (.cells #[.int .i64 0, .int .i64 1] 93)
      simpa using this
  case round =>
    obtain ⟨k, r, m, hk, rfl, HB, HC, HW⟩ := hrel
    by_cases hlt : k < L.length
    · have hc1 := ((HW.out.below.cell (p := a.add (k * 2)) (by rw [add_block]; exact hab.out (by omega))).trans (hc.out k hlt).1)
      have hc2 := ((HW.out.below.cell (p := a.add (k * 2 + 1)) (by rw [add_block]; exact hab.out (by omega))).trans (hc.out k hlt).2)
      rw [add_succ] at hc2
      have hsz := HW.out.size
      have HA := Lib.hid (HW.out.on ((Below.refl _ _).alloc hsz (.cells #[.int .i64 L[k].fst, .int .i64 L[k].snd] 93)))
      obtain ⟨x2, x3, x4, x5⟩ := two_cellsC HA.out.all
      obtain ⟨hb1, hb2, hb3⟩ := HB.out
      have HG := Lib.hid (combine_any r m L[k].fst L[k].snd (wr.alloc (.cells #[.int .i64 L[k].fst, .int .i64 L[k].snd] 93)) hb1 hb2 hb3)
      have HDR : Hid (L.drop k = (L[k].fst, L[k].snd) :: L.drop (k + 1)) := List.drop_eq_getElem_cons hlt
      generalize L[k].fst = br at *
      generalize L[k].snd = bm at *
      go_wp2_with (go_at_call 80; ((with_reducible refine HG.out.mono ?_); rintro e w2 ⟨r', m', e0, rfl, hcomb, hbe⟩; have HCO := Lib.hid hcomb; have HW2 := Lib.hid (HA.out.on (hbe.mono (by simp; omega))); clear hcomb hbe x2 x3 x4 x5 hc1 hc2 hb1 hb2 hb3; obtain ⟨x2, x3, x4, x5⟩ := two_cellsC HW2.out.all; obtain ⟨x6, x7, x8, x9⟩ := two_cellsC HW2.out.res))
      · have he : (e0 != 0) = true := by assumption
        have he0 : e0 ≠ 0 := by simpa using he
        obtain ⟨rfl, rfl⟩ := HCO.out.bad he0
        refine bodyPost_ret (v := .tuple #[.agg #[.int .i64 0, .int .i64 0], .int .i64 e0]) (by simp [results, Try.results69, go_sem, *]) rfl ⟨0, 0, e0, rfl, HC.out _ _ _ (by rw [HDR.out]; exact .inl ⟨he0, rfl, rfl, HCO.out⟩), ?_⟩
        exact (((HW2.out.below.setCell (by show _ ≤ _ + 1; omega) _).setCell (by show _ ≤ _ + 1; omega) _).setCell (Nat.le_refl _) _).setCell (Nat.le_refl _) _
      · have he : (e0 != 0) = false := by assumption
        obtain rfl : e0 = 0 := by simpa using he
        go_roundw
        case rel => exact ⟨k + 1, r', m', hlt, by go_num, HCO.out.good, fun a b c h => HC.out a b c (by rw [HDR.out]; exact .inr ⟨r', m', HCO.out, h⟩), HW2.out.set r' m'⟩
        case measure => simp [intOf]; omega
    · have hkl : k = L.length := by omega
      subst hkl
      have HF := HC.out r m 0 (by rw [List.drop_length]; exact ⟨rfl, rfl, rfl⟩)
      have HF2 := Lib.hid HF
      clear HF
      obtain ⟨x2, x3, x4, x5⟩ := two_cellsC HW.out.all
      obtain ⟨x6, x7, x8, x9⟩ := two_cellsC HW.out.res
      go_wp2
      refine bodyPost_ret (v := .tuple #[.agg #[.int .i64 r, .int .i64 m], .int .i64 0]) (by simp [results, Try.results69, go_sem, *]) rfl ⟨r, m, 0, rfl, HF2.out, ?_⟩
      exact (HW.out.below.setCell (Nat.le_refl _) _).setCell (Nat.le_refl _) _
end Go.Proofs.Ytlagljnhbhnelaa
