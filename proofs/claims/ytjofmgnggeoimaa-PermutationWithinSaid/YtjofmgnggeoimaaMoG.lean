/- The contracts of power and move, of the reference's Go. The contract of the reference's Go. -/
import Derived.Test.YtjofmgnggeoimaaEuM
import Derived.Test.YtjofmgnggeoimaaPpR
import Derived.Deep.QuietTactic
namespace Go.Proofs.Ytjofmgnggeoimaa
open Go.RowKit
set_option linter.unusedVariables false
set_option linter.unusedSimpArgs false

/-- The e-th power of f at i. -/
def pw (f : Nat → Nat) (n i : Nat) (e : Int) : Nat := itr f (e % (perO f n i : Int)).toNat i
/-- Where the first k entries of a word lead. -/
def mvP (g f : Nat → Nat) (n : Nat) (l : List Int) (i : Nat) : Nat → Nat
  | 0 => i
  | k + 1 => pw f n (if k = 0 then mvP g f n l i k else g (mvP g f n l i k)) (l.getD k 0)
theorem pw_lt {f : Nat → Nat} {n i : Nat} (hp : Prm f n) (hi : i < n) (e : Int) : pw f n i e < n := hp.itr_lt hi _
theorem mvP_lt {g f : Nat → Nat} {n i : Nat} (h : PAct g f n) (hi : i < n) (l : List Int) : ∀ k, mvP g f n l i k < n
  | 0 => hi
  | k + 1 => by
    have ih := mvP_lt h hi l k
    show pw f n _ _ < n
    split
    · exact pw_lt h.fp ih _
    · exact pw_lt h.fp (h.gp.lt _ ih) _
theorem pact_inv {g f : Nat → Nat} {n : Nat} (h : PAct g f n) : Inv2 f (zOf g) n := ⟨h.zl, fun i hi => h.zz i hi, fun i hi => h.fc i hi⟩
theorem pw_z {g f : Nat → Nat} {n i : Nat} (h : PAct g f n) (hi : i < n) (e : Int) : pw f n (zOf g i) e = zOf g (pw f n i e) := by
  have hz := pact_inv h
  have hp := (perO_spec h.fp hi).1
  have hp2 := Inv2.per h.fp hz hi hp
  have e1 := (perO_spec h.fp (h.zl i hi)).1.uniq hp2
  unfold pw
  rw [e1]
  exact Inv2.itr h.fp hz hi _
theorem mvP_z {g f : Nat → Nat} {n i : Nat} (h : PAct g f n) (hi : i < n) (l : List Int) : ∀ k, mvP g f n l (zOf g i) k = zOf g (mvP g f n l i k)
  | 0 => rfl
  | k + 1 => by
    have ih := mvP_z h hi l k
    have hl := mvP_lt h hi l k
    show pw f n (if k = 0 then mvP g f n l (zOf g i) k else g (mvP g f n l (zOf g i) k)) _ = zOf g (pw f n (if k = 0 then mvP g f n l i k else g (mvP g f n l i k)) _)
    rw [ih]
    by_cases e : k = 0
    · rw [if_pos e, if_pos e]; exact pw_z h hl _
    · rw [if_neg e, if_neg e]
      have : g (zOf g (mvP g f n l i k)) = zOf g (g (mvP g f n l i k)) := rfl
      rw [this]; exact pw_z h (h.gp.lt _ hl) _
theorem tm_cases (e : Int) {c : Nat} (hc : 1 ≤ c) : (0 ≤ e ∧ e.tmod c = e % c) ∨ (e < 0 ∧ e.tmod c = -((-e) % c)) := by
  rcases Int.lt_or_le e 0 with h | h
  · right
    refine ⟨h, ?_⟩
    have h1 : (-e).tmod c = -(e.tmod c) := Int.neg_tmod e c
    rw [Int.tmod_eq_emod_of_nonneg (by omega)] at h1
    omega
  · exact .inl ⟨h, Int.tmod_eq_emod_of_nonneg h⟩
theorem neg_em (e : Int) {c : Nat} (hc : 1 ≤ c) (h : 0 < (-e) % (c : Int)) : e % (c : Int) = c - (-e) % (c : Int) := by
  have h1 := Int.mul_ediv_add_emod (-e) (c : Int)
  have h2 := Int.emod_lt_of_pos (-e) (show (0 : Int) < c by omega)
  have h3 : e = (c - (-e) % (c : Int)) + c * (-((-e) / (c : Int)) - 1) := by
    rw [Int.mul_sub, Int.mul_neg]; omega
  generalize (-e) % (c : Int) = m at *
  generalize (-e) / (c : Int) = q at *
  rw [h3, Int.add_mul_emod_self_left]
  exact Int.emod_eq_of_lt (by omega) (by omega)
theorem tmod_pos {e : Int} {c : Nat} (hc : 1 ≤ c) (h : 0 ≤ e.tmod c) : e.tmod c = ((e % (c : Int)).toNat : Nat) := by
  have h0 : 0 ≤ e % (c : Int) := Int.emod_nonneg _ (by omega)
  rw [Int.toNat_of_nonneg h0]
  rcases tm_cases e hc with ⟨_, k⟩ | ⟨h1, k⟩
  · exact k
  · have h2 : 0 ≤ (-e) % (c : Int) := Int.emod_nonneg _ (by omega)
    have h3 : (-e) % (c : Int) = 0 := by omega
    have h4 := Int.emod_eq_zero_of_dvd (Int.dvd_neg.1 (Int.dvd_of_emod_eq_zero h3))
    omega
theorem tmod_neg {e : Int} {c : Nat} (hc : 1 ≤ c) (h : e.tmod c < 0) : e.tmod c + c = ((e % (c : Int)).toNat : Nat) := by
  have h0 : 0 ≤ e % (c : Int) := Int.emod_nonneg _ (by omega)
  rw [Int.toNat_of_nonneg h0]
  rcases tm_cases e hc with ⟨_, k⟩ | ⟨h1, k⟩
  · omega
  · have := neg_em e hc (by omega)
    omega
theorem tmod_bds (e : Int) {c : Nat} (hc : 1 ≤ c) : -(c : Int) < e.tmod c ∧ e.tmod c < c := by
  rcases tm_cases e hc with ⟨_, k⟩ | ⟨h1, k⟩
  · have := Int.emod_nonneg e (show (c : Int) ≠ 0 by omega)
    have := Int.emod_lt_of_pos e (show (0 : Int) < c by omega)
    omega
  · have := Int.emod_nonneg (-e) (show (c : Int) ≠ 0 by omega)
    have := Int.emod_lt_of_pos (-e) (show (0 : Int) < c by omega)
    omega
set_option maxHeartbeats 3200000 in
set_option maxRecDepth 1000000 in
theorem power_any {f : Nat → Nat} {n i bT oT cT : Nat} (w : World) (hT : RdN w w.heap.size bT oT n f) (hp : Prm f n) (hi : i < n) (hn : n ≤ 1152) (e : Int) :
    Calls Try.prog 63 #[.slice (some ⟨bT, oT, none⟩) n cT, .int .i64 (i : Nat), .int .i64 e] w fun e' w' => e' = .returned (.int .i64 (pw f n i e : Nat)) ∧ w' = w := by
  obtain ⟨hper, hcn⟩ := perO_spec hp hi
  have HP := Lib.hid hp
  have HPer := Lib.hid hper
  have hc1 := hper.pos
  obtain ⟨b1, b2⟩ := tmod_bds e hc1
  have HR : Hid (∀ k, k < n → w.cell? ⟨bT, oT + k, none⟩ = some (.int .i64 (f k : Nat))) := hT.2
  have HW : Hid (pw f n i e = itr f (e % (perO f n i : Int)).toNat i) := rfl
  have HPos := Lib.hid (fun h => tmod_pos (e := e) hc1 h)
  have HNeg := Lib.hid (fun h => tmod_neg (e := e) hc1 h)
  clear hT hp hper
  generalize pw f n i e = y at *
  generalize hce : perO f n i = c at *
  clear hce
  generalize e % (c : Int) = em at *
  generalize em.toNat = r at *
  have c0 := HR.out i hi
  have hii : (i : Int) < (n : Int) := by omega
  have hcz : (c : Int) ≠ 0 := by omega
  have hc0 : ((c : Int) == 0) = false := by simpa using hcz
  have hci : (c : Int) ≤ 1152 := by omega
  go_enter Try.func63, Try.ntmps63
  go_wp2
  go_loopw [7, 8] (fun L X wr => ∃ (j : Nat), L = .int .i64 (j : Nat) ∧ X = .int .i64 (itr f j i : Nat) ∧ 1 ≤ j ∧ j ≤ c ∧ w = wr) (fun L _ _ => c - (intOf L).toNat)
  case atStart => exact ⟨1, rfl, rfl, Nat.le_refl _, hc1, rfl⟩
  case round =>
    obtain ⟨j, rfl, rfl, hj1, hjc, rfl⟩ := hrel
    by_cases hjl : j < c
    · have hne := HPer.out.least j hj1 hjl
      have hx := HP.out.itr_lt hi j
      have c2 := HR.out _ hx
      have HSt : Hid (itr f (j + 1) i = f (itr f j i)) := rfl
      generalize itr f j i = x at *
      have hxi : (x : Int) < (n : Int) := by omega
      have hnb : ((x : Int) == (i : Int)) = false := by simp; omega
      go_wp2
      go_roundw
      case rel => exact ⟨j + 1, by go_num, by rw [HSt.out], by omega, hjl, trivial⟩
      case measure => simp [intOf]; omega
    · obtain rfl : c = j := by omega
      rw [HPer.out.back]
      by_cases hneg : e.tmod c < 0
      · have hr := HNeg.out hneg
        have hrc : (r : Int) ≤ 1152 := by omega
        clear HNeg HPos
        go_wp2
        go_loopw [1, 31] (fun I K wr => ∃ (k : Nat), I = .int .i64 (itr f k i : Nat) ∧ K = .int .i64 (k : Nat) ∧ k ≤ r ∧ w = wr) (fun _ K _ => r - (intOf K).toNat)
        case atStart => exact ⟨0, rfl, rfl, Nat.zero_le _, rfl⟩
        case round =>
          obtain ⟨k, rfl, rfl, hk, rfl⟩ := hrel
          by_cases hlt : k < r
          · have hki : (k : Int) < (r : Int) := by omega
            have hx := HP.out.itr_lt hi k
            have c2 := HR.out _ hx
            have HSt : Hid (itr f (k + 1) i = f (itr f k i)) := rfl
            generalize itr f k i = x at *
            have hxi : (x : Int) < (n : Int) := by omega
            go_wp2
            go_roundw
            case rel => exact ⟨k + 1, by rw [HSt.out], by go_num, hlt, trivial⟩
            case measure => simp [intOf]; omega
          · obtain rfl : r = k := by omega
            have hk2 : ¬ (r : Int) < (r : Int) := by omega
            rw [← HW.out]
            go_wp2
            go_ret
            exact ⟨rfl, rfl⟩
      · have hr := HPos.out (by omega)
        have hrc : (r : Int) ≤ 1152 := by omega
        clear HNeg HPos
        go_wp2
        go_loopw [1, 31] (fun I K wr => ∃ (k : Nat), I = .int .i64 (itr f k i : Nat) ∧ K = .int .i64 (k : Nat) ∧ k ≤ r ∧ w = wr) (fun _ K _ => r - (intOf K).toNat)
        case atStart => exact ⟨0, rfl, rfl, Nat.zero_le _, rfl⟩
        case round =>
          obtain ⟨k, rfl, rfl, hk, rfl⟩ := hrel
          by_cases hlt : k < r
          · have hki : (k : Int) < (r : Int) := by omega
            have hx := HP.out.itr_lt hi k
            have c2 := HR.out _ hx
            have HSt : Hid (itr f (k + 1) i = f (itr f k i)) := rfl
            generalize itr f k i = x at *
            have hxi : (x : Int) < (n : Int) := by omega
            go_wp2
            go_roundw
            case rel => exact ⟨k + 1, by rw [HSt.out], by go_num, hlt, trivial⟩
            case measure => simp [intOf]; omega
          · obtain rfl : r = k := by omega
            have hk2 : ¬ (r : Int) < (r : Int) := by omega
            rw [← HW.out]
            go_wp2
            go_ret
            exact ⟨rfl, rfl⟩
set_option maxHeartbeats 3200000 in
set_option maxRecDepth 1000000 in
theorem move_any {S T : List Int} {B bS oS bT oT cS cT : Nat} (w : World) (h : AI w B bS oS bT oT S T cS cT) {i : Nat} (hi : i < S.length) (ng : Bool) {l : List Int} {A : Option Addr} {cl : Nat} (hl : RdZ w w.heap.size A cl l) :
    Calls Try.prog 45 #[.agg #[.slice (some ⟨bS, oS, none⟩) S.length cS, .slice (some ⟨bT, oT, none⟩) S.length cT], .int .i64 (i : Nat), .agg #[.bool ng, .slice A l.length cl]] w fun e w' =>
      e = .returned (.int .i64 ((if ng then zOf (fnz S) (mvP (fnz S) (fnz T) S.length l i l.length) else mvP (fnz S) (fnz T) S.length l i l.length : Nat) : Nat)) ∧ Below w.heap.size w w' := by
  have hP := pact_of h.act
  have hn := h.act.le
  have HP := Lib.hid hP
  have HS := Lib.hid (h.s.mono h.le)
  have HT := Lib.hid (h.t.mono h.le)
  have HL := Lib.hid hl
  have HI : Hid (i < S.length) := hi
  have HLt : Hid (∀ k, mvP (fnz S) (fnz T) S.length l i k < S.length) := fun k => mvP_lt hP hi l k
  have hll := hl.len
  clear h hP hl
  have HNx : Hid (∀ k, mvP (fnz S) (fnz T) S.length l i (k + 1) = pw (fnz T) S.length (if k = 0 then mvP (fnz S) (fnz T) S.length l i k else fnz S (mvP (fnz S) (fnz T) S.length l i k)) (l.getD k 0)) := fun k => rfl
  have HZr : Hid (mvP (fnz S) (fnz T) S.length l i 0 = i) := rfl
  have HZo : Hid (∀ x, zOf (fnz S) x = fnz S (fnz S x)) := fun x => rfl
  generalize hMe : mvP (fnz S) (fnz T) S.length l i = M at *
  clear hMe
  generalize zOf (fnz S) = z at *
  generalize fnz S = g at *
  generalize fnz T = f at *
  generalize S.length = n at *
  have HX0 : Hid (((w.alloc (.cells #[.slice (some ⟨bS, oS, none⟩) n cS, .slice (some ⟨bT, oT, none⟩) n cT] 24)).alloc (.cells #[.bool ng, .slice A l.length cl] 65)).heap[w.heap.size]? = some (.cells #[.slice (some ⟨bS, oS, none⟩) n cS, .slice (some ⟨bT, oT, none⟩) n cT] 24 (0, 0))) := block_alloc (heap_alloc_new w _) _
  have hy0 := heap_alloc_new (w.alloc (.cells #[.slice (some ⟨bS, oS, none⟩) n cS, .slice (some ⟨bT, oT, none⟩) n cT] 24)) (.cells #[.bool ng, .slice A l.length cl] 65)
  rw [show (w.alloc (.cells #[.slice (some ⟨bS, oS, none⟩) n cS, .slice (some ⟨bT, oT, none⟩) n cT] 24)).heap.size = w.heap.size + 1 by simp] at hy0
  have HY0 := Lib.hid hy0
  have HB0 : Hid (Below w.heap.size w ((w.alloc (.cells #[.slice (some ⟨bS, oS, none⟩) n cS, .slice (some ⟨bT, oT, none⟩) n cT] 24)).alloc (.cells #[.bool ng, .slice A l.length cl] 65))) := below2 w _ _
  clear hy0
  go_enter Try.func45, Try.ntmps45
  go_wp2
  obtain ⟨W0, hW0⟩ : ∃ W0, W0 = ((w.alloc (.cells #[.slice (some ⟨bS, oS, none⟩) n cS, .slice (some ⟨bT, oT, none⟩) n cT] 24)).alloc (.cells #[.bool ng, .slice A l.length cl] 65)) := ⟨_, rfl⟩
  rw [← hW0] at HX0 HY0 HB0 ⊢
  clear hW0
  obtain ⟨⟨x1, x2⟩, _⟩ := two_of_block HX0.out
  obtain ⟨⟨y1, y2⟩, _⟩ := two_of_block HY0.out
  have HSd : Hid (∀ k, k < n → W0.cell? ⟨bS, oS + k, none⟩ = some (.int .i64 (g k : Nat))) := fun k hk => (HB0.out.cell (p := ⟨bS, oS + k, none⟩) HS.out.1).trans (HS.out.2 k hk)
  have HTd : Hid (RdN W0 W0.heap.size bT oT n f) := (HT.out.below HB0.out).mono HB0.out.size
  have HLd := Lib.hid (HL.out.below HB0.out)
  go_loopw [1, 7, 8, 12] (fun I _ _ K wr => ∃ (k : Nat), I = .int .i64 (M k : Nat) ∧ K = .int .i64 (k : Nat) ∧ k ≤ l.length ∧ W0 = wr) (fun _ _ _ K _ => l.length - (intOf K).toNat)
  case atStart => exact ⟨0, by rw [HZr.out], rfl, Nat.zero_le _, rfl⟩
  case round =>
    obtain ⟨k, rfl, rfl, hk, rfl⟩ := hrel
    by_cases hlt : k < l.length
    · have hki : (k : Int) < (l.length : Int) := by omega
      obtain ⟨bl, ol, rfl, _, c1⟩ := HLd.out.at_ hlt
      have hM := HLt.out k
      have HN := Lib.hid (HNx.out k)
      have hge : l.getD k 0 = l[k] := by simp [List.getD, hlt]
      rw [hge] at HN
      generalize l[k] = e at *
      by_cases hk0 : k = 0
      · have HPw := Lib.hid (power_any (cT := cT) W0 HTd.out HP.out.fp hM hn e)
        rw [if_pos hk0] at HN
        subst hk0
        have c1' : W0.cell? ⟨bl, ol, none⟩ = some (.int .i64 e) := c1
        go_wp2_with (first
          | (go_at_call 63; ((with_reducible refine HPw.out.mono ?_); rintro e' w' ⟨rfl, rfl⟩))
          | fail)
        go_roundw
        case rel => exact ⟨1, by rw [HN.out], rfl, hlt, trivial⟩
        case measure => simp [intOf]; omega
      · have hgM := HP.out.gp.lt _ hM
        have HPw := Lib.hid (power_any (cT := cT) W0 HTd.out HP.out.fp hgM hn e)
        rw [if_neg hk0] at HN
        have hk1 : (0 : Int) < (k : Int) := by omega
        have c2 := HSd.out _ hM
        have hMi : (M k : Int) < (n : Int) := by omega
        go_wp2_with (first
          | (go_at_call 63; ((with_reducible refine HPw.out.mono ?_); rintro e' w' ⟨rfl, rfl⟩))
          | fail)
        go_roundw
        case rel => exact ⟨k + 1, by rw [HN.out], by go_num, hlt, trivial⟩
        case measure => simp [intOf]; omega
    · obtain rfl : k = l.length := by omega
      have hk2 : ¬ (l.length : Int) < (l.length : Int) := by omega
      have hM := HLt.out l.length
      have hgM := HP.out.gp.lt _ hM
      have HZz := Lib.hid (HZo.out (M l.length))
      have c1 := fun N => (show (W0.drewN N).cell? ⟨bS, oS + M l.length, none⟩ = _ from HSd.out _ hM)
      have c2 := fun N => (show (W0.drewN N).cell? ⟨bS, oS + g (M l.length), none⟩ = _ from HSd.out _ hgM)
      have u1 := fun N => (show (W0.drewN N).cell? ⟨w.heap.size, 0, none⟩ = _ from x1)
      have hMi : (M l.length : Int) < (n : Int) := by omega
      have hgi : (g (M l.length) : Int) < (n : Int) := by omega
      cases ng with
      | false =>
        go_wp2
        go_ret
        exact ⟨rfl, HB0.out⟩
      | true =>
        go_wp2
        go_quiet (fail)
        go_wp2
        go_ret
        exact ⟨by rw [HZz.out]; rfl, below_drewN HB0.out _⟩
end Go.Proofs.Ytjofmgnggeoimaa
namespace Go.Proofs.Ytjofmgnggeoimaa
open Go.RowKit
set_option linter.unusedVariables false
set_option linter.unusedSimpArgs false

theorem emod_lt' (e : Int) {c : Nat} (hc : 1 ≤ c) : (e % (c : Int)).toNat < c := by
  have h0 := Int.emod_nonneg e (show (c : Int) ≠ 0 by omega)
  have h1 := Int.emod_lt_of_pos e (show (0 : Int) < c by omega)
  omega
theorem cyL_at {f : Nat → Nat} {i c r : Nat} (hr : r < c) : (cyL f i c).getD r 0 = itr f r i := by
  unfold cyL
  simp [List.getD, hr]
set_option maxHeartbeats 6400000 in
set_option maxRecDepth 1000000 in
theorem rgo_any {S T : List Int} {B bS oS bT oT cS cT : Nat} (w : World) (h : AI w B bS oS bT oT S T cS cT) {i : Nat} (hi : i < S.length) (ng : Bool) {l : List Int} {A : Option Addr} {cl : Nat} (hl : RdZ w w.heap.size A cl l) :
    Calls Try.prog 47 #[.agg #[.slice (some ⟨bS, oS, none⟩) S.length cS, .slice (some ⟨bT, oT, none⟩) S.length cT], .int .i64 (i : Nat), .agg #[.bool ng, .slice A l.length cl]] w fun e w' =>
      e = .returned (.int .i64 ((if ng then zOf (fnz S) (mvP (fnz S) (fnz T) S.length l i l.length) else mvP (fnz S) (fnz T) S.length l i l.length : Nat) : Nat)) ∧ Below w.heap.size w w' := by
  have hP := pact_of h.act
  have hn := h.act.le
  have HP := Lib.hid hP
  have HS := Lib.hid (h.s.mono h.le)
  have HT := Lib.hid (h.t.mono h.le)
  have HL := Lib.hid hl
  have hgi := hP.gp.lt i hi
  have hzi : zOf (fnz S) i < S.length := hP.zl i hi
  have HZi : Hid (zOf (fnz S) i = fnz S (fnz S i)) := rfl
  have hll := hl.len
  obtain ⟨i0, hi0⟩ : ∃ i0 : Nat, i0 = if ng then zOf (fnz S) i else i := ⟨_, rfl⟩
  have hi0n : i0 < S.length := by rw [hi0]; split; (exact hzi); exact hi
  have HEnd : Hid ((if ng then zOf (fnz S) (mvP (fnz S) (fnz T) S.length l i l.length) else mvP (fnz S) (fnz T) S.length l i l.length) = mvP (fnz S) (fnz T) S.length l i0 l.length) := by
    show _ = _
    rw [hi0]
    cases ng with
    | true => exact (mvP_z hP hi l l.length).symm
    | false => rfl
  rw [HEnd.out]
  clear HEnd
  have HLt : Hid (∀ k, mvP (fnz S) (fnz T) S.length l i0 k < S.length) := fun k => mvP_lt hP hi0n l k
  have HNx : Hid (∀ k, mvP (fnz S) (fnz T) S.length l i0 (k + 1) = pw (fnz T) S.length (if k = 0 then mvP (fnz S) (fnz T) S.length l i0 k else fnz S (mvP (fnz S) (fnz T) S.length l i0 k)) (l.getD k 0)) := fun k => rfl
  have HZr : Hid (mvP (fnz S) (fnz T) S.length l i0 0 = i0) := rfl
  have HI0 := Lib.hid hi0
  clear h hP hl hi0
  generalize hMe : mvP (fnz S) (fnz T) S.length l i0 = M at *
  clear hMe
  generalize zOf (fnz S) i = zi at *
  generalize fnz S = g at *
  generalize fnz T = f at *
  generalize S.length = n at *
  have HX0 : Hid (((w.alloc (.cells #[.slice (some ⟨bS, oS, none⟩) n cS, .slice (some ⟨bT, oT, none⟩) n cT] 24)).alloc (.cells #[.bool ng, .slice A l.length cl] 65)).heap[w.heap.size]? = some (.cells #[.slice (some ⟨bS, oS, none⟩) n cS, .slice (some ⟨bT, oT, none⟩) n cT] 24 (0, 0))) := block_alloc (heap_alloc_new w _) _
  have hy0 := heap_alloc_new (w.alloc (.cells #[.slice (some ⟨bS, oS, none⟩) n cS, .slice (some ⟨bT, oT, none⟩) n cT] 24)) (.cells #[.bool ng, .slice A l.length cl] 65)
  rw [show (w.alloc (.cells #[.slice (some ⟨bS, oS, none⟩) n cS, .slice (some ⟨bT, oT, none⟩) n cT] 24)).heap.size = w.heap.size + 1 by simp] at hy0
  have HY0 := Lib.hid hy0
  have HB0 : Hid (Below w.heap.size w ((w.alloc (.cells #[.slice (some ⟨bS, oS, none⟩) n cS, .slice (some ⟨bT, oT, none⟩) n cT] 24)).alloc (.cells #[.bool ng, .slice A l.length cl] 65))) := below2 w _ _
  clear hy0
  go_enter Try.func47, Try.ntmps47
  go_upto_region 1 with fail
  obtain ⟨W0, hW0⟩ : ∃ W0, W0 = ((w.alloc (.cells #[.slice (some ⟨bS, oS, none⟩) n cS, .slice (some ⟨bT, oT, none⟩) n cT] 24)).alloc (.cells #[.bool ng, .slice A l.length cl] 65)) := ⟨_, rfl⟩
  rw [← hW0] at HX0 HY0 HB0 ⊢
  clear hW0
  have hii : (i : Int) < (n : Int) := by omega
  have hgii : (g i : Int) < (n : Int) := by omega
  cases ng with
  | false =>
    have hi00 : i0 = i := HI0.out
    subst hi00
    obtain ⟨⟨y1, y2⟩, _⟩ := two_of_block HY0.out
    go_wp2
    have HFx : Hid (∀ {W : World}, Below W0.heap.size W0 W → ((W.cell? ⟨w.heap.size, 0, none⟩ = some (.slice (some ⟨bS, oS, none⟩) n cS) ∧ W.cell? ⟨w.heap.size, 1, none⟩ = some (.slice (some ⟨bT, oT, none⟩) n cT)) ∧ (W.cell? ⟨w.heap.size + 1, 0, none⟩ = some (.bool false) ∧ W.cell? ⟨w.heap.size + 1, 1, none⟩ = some (.slice A l.length cl))) ∧ RdZ W W.heap.size A cl l ∧ RdN W W.heap.size bT oT n f ∧ ∀ k, k < n → W.cell? ⟨bS, oS + k, none⟩ = some (.int .i64 (g k : Nat))) := fun {W} hb =>
      ⟨⟨(two_of_block (block_below HX0.out hb)).1, (two_of_block (block_below HY0.out hb)).1⟩, ((HL.out.below (HB0.out.trans (hb.mono HB0.out.size))).mono (Nat.le_trans HB0.out.size hb.size)), ((HT.out.below (HB0.out.trans (hb.mono HB0.out.size))).mono (Nat.le_trans HB0.out.size hb.size)), fun k hk => ((HB0.out.trans (hb.mono HB0.out.size)).cell (p := ⟨bS, oS + k, none⟩) HS.out.1).trans (HS.out.2 k hk)⟩
    have BB0 := Lib.hid (Below.refl W0.heap.size W0)
    go_loopw [1, 7, 8, 9] (fun I K _ _ wr => ∃ (k : Nat), I = .int .i64 (M k : Nat) ∧ K = .int .i64 (k : Nat) ∧ k ≤ l.length ∧ Hid (Below W0.heap.size W0 wr)) (fun _ K _ _ _ => l.length - (intOf K).toNat)
    case atStart => exact ⟨0, by rw [HZr.out], rfl, Nat.zero_le _, BB0.out⟩
    case round =>
      clear BB0
      obtain ⟨k, rfl, rfl, hk, HB⟩ := hrel
      obtain ⟨⟨⟨x1, x2⟩, y1, y2⟩, fl, ft, fs⟩ := HFx.out HB.out
      by_cases hlt : k < l.length
      · have hki : (k : Int) < (l.length : Int) := by omega
        have hM := HLt.out k
        have HN := Lib.hid (HNx.out k)
        have hge : l.getD k 0 = l[k] := by simp [List.getD, hlt]
        rw [hge] at HN
        by_cases hk0 : k = 0
        · rw [if_pos hk0] at HN
          subst hk0
          obtain ⟨e, he⟩ : ∃ e, e = l[0] := ⟨_, rfl⟩
          have HE := Lib.hid he
          rw [← he] at HN
          clear he
          obtain ⟨hper, hcn⟩ := perO_spec HP.out.fp hM
          have hc1 := hper.pos
          have HPw : Hid (pw f n (M 0) e = itr f (e % (perO f n (M 0) : Int)).toNat (M 0)) := rfl
          have HCy := Lib.hid (rcycle_any (cT := cT) wr ft HP.out.fp hM hper hcn hn)
          obtain ⟨b1, b2⟩ := tmod_bds e hc1
          have hrl := emod_lt' e hc1
          have HPos := Lib.hid (fun h => tmod_pos (e := e) hc1 h)
          have HNeg := Lib.hid (fun h => tmod_neg (e := e) hc1 h)
          have HAt : Hid ((cyL f (M 0) (perO f n (M 0))).getD (e % (perO f n (M 0) : Int)).toNat 0 = itr f (e % (perO f n (M 0) : Int)).toNat (M 0)) := cyL_at hrl
          have HCl : Hid ((cyL f (M 0) (perO f n (M 0))).length = perO f n (M 0)) := by show _ = _; unfold cyL; simp
          clear hper fl ft fs
          generalize itr f (e % (perO f n (M 0) : Int)).toNat (M 0) = yy at *
          generalize hxx : M 0 = x at *
          clear hxx
          generalize pw f n x e = y at *
          generalize cyL f x (perO f n x) = CL at *
          generalize perO f n x = c at *
          have hci : (c : Int) ≤ 1152 := by omega
          have hcz : (c : Int) ≠ 0 := by omega
          have hc0 : ((c : Int) == 0) = false := by simpa using hcz
          by_cases hneg : e.tmod c < 0
          · have hr := HNeg.out hneg
            generalize (e % (c : Int)).toNat = r at *
            have hri : (r : Int) < (c : Int) := by omega
            clear HNeg HPos
            go_wp2_with (first
              | (go_at_call 69; ((with_reducible refine HCy.out.mono ?_); rintro e' w4 ⟨gg, cc, rfl, ho, hb⟩; have HB4 := Lib.hid (HB.out.trans (hb.mono HB.out.size)); obtain ⟨⟨⟨x1', x2'⟩, y1', y2'⟩, fl', ft', fs'⟩ := HFx.out HB4.out; obtain ⟨bl, ol, eA, _, d1⟩ := fl'.at_ hlt; rw [← HE.out] at d1; have d1' := (show w4.cell? ⟨bl, ol, none⟩ = some (.int .i64 e) from d1); obtain ⟨gl, eg, hrd⟩ := own_rdn ho HCl.out (by omega); have d2 := (hrd.2 r (by omega)).trans (show some (Value.int .i64 ((CL.getD r 0 : Nat) : Int)) = some (Value.int .i64 ((yy : Nat) : Int)) from by rw [HAt.out]); rw [Nat.zero_add] at d2; cases eg; subst eA; clear hb ho hrd fl' ft' fs' x1 x2 y1 y2))
              | fail)
            go_roundw
            case rel => exact ⟨1, by rw [HN.out, HPw.out], rfl, hlt, HB4.out⟩
            case measure => simp [intOf]; omega
          · have hr := HPos.out (by omega)
            generalize (e % (c : Int)).toNat = r at *
            have hri : (r : Int) < (c : Int) := by omega
            clear HNeg HPos
            go_wp2_with (first
              | (go_at_call 69; ((with_reducible refine HCy.out.mono ?_); rintro e' w4 ⟨gg, cc, rfl, ho, hb⟩; have HB4 := Lib.hid (HB.out.trans (hb.mono HB.out.size)); obtain ⟨⟨⟨x1', x2'⟩, y1', y2'⟩, fl', ft', fs'⟩ := HFx.out HB4.out; obtain ⟨bl, ol, eA, _, d1⟩ := fl'.at_ hlt; rw [← HE.out] at d1; have d1' := (show w4.cell? ⟨bl, ol, none⟩ = some (.int .i64 e) from d1); obtain ⟨gl, eg, hrd⟩ := own_rdn ho HCl.out (by omega); have d2 := (hrd.2 r (by omega)).trans (show some (Value.int .i64 ((CL.getD r 0 : Nat) : Int)) = some (Value.int .i64 ((yy : Nat) : Int)) from by rw [HAt.out]); rw [Nat.zero_add] at d2; cases eg; subst eA; clear hb ho hrd fl' ft' fs' x1 x2 y1 y2))
              | fail)
            go_roundw
            case rel => exact ⟨1, by rw [HN.out, HPw.out], rfl, hlt, HB4.out⟩
            case measure => simp [intOf]; omega
        · rw [if_neg hk0] at HN
          have hk1 : (0 : Int) < (k : Int) := by omega
          have c2 := fs _ hM
          have hMi : (M k : Int) < (n : Int) := by omega
          have hgM := HP.out.gp.lt _ hM
          obtain ⟨e, he⟩ : ∃ e, e = l[k] := ⟨_, rfl⟩
          have HE := Lib.hid he
          rw [← he] at HN
          clear he
          obtain ⟨hper, hcn⟩ := perO_spec HP.out.fp hgM
          have hc1 := hper.pos
          have HPw : Hid (pw f n (g (M k)) e = itr f (e % (perO f n (g (M k)) : Int)).toNat (g (M k))) := rfl
          have HCy := Lib.hid (rcycle_any (cT := cT) wr ft HP.out.fp hgM hper hcn hn)
          obtain ⟨b1, b2⟩ := tmod_bds e hc1
          have hrl := emod_lt' e hc1
          have HPos := Lib.hid (fun h => tmod_pos (e := e) hc1 h)
          have HNeg := Lib.hid (fun h => tmod_neg (e := e) hc1 h)
          have HAt : Hid ((cyL f (g (M k)) (perO f n (g (M k)))).getD (e % (perO f n (g (M k)) : Int)).toNat 0 = itr f (e % (perO f n (g (M k)) : Int)).toNat (g (M k))) := cyL_at hrl
          have HCl : Hid ((cyL f (g (M k)) (perO f n (g (M k)))).length = perO f n (g (M k))) := by show _ = _; unfold cyL; simp
          clear hper fl ft fs
          generalize itr f (e % (perO f n (g (M k)) : Int)).toNat (g (M k)) = yy at *
          generalize hxx : g (M k) = x at *
          clear hxx
          generalize pw f n x e = y at *
          generalize cyL f x (perO f n x) = CL at *
          generalize perO f n x = c at *
          have hci : (c : Int) ≤ 1152 := by omega
          have hcz : (c : Int) ≠ 0 := by omega
          have hc0 : ((c : Int) == 0) = false := by simpa using hcz
          by_cases hneg : e.tmod c < 0
          · have hr := HNeg.out hneg
            generalize (e % (c : Int)).toNat = r at *
            have hri : (r : Int) < (c : Int) := by omega
            clear HNeg HPos
            go_wp2_with (first
              | (go_at_call 69; ((with_reducible refine HCy.out.mono ?_); rintro e' w4 ⟨gg, cc, rfl, ho, hb⟩; have HB4 := Lib.hid (HB.out.trans (hb.mono HB.out.size)); obtain ⟨⟨⟨x1', x2'⟩, y1', y2'⟩, fl', ft', fs'⟩ := HFx.out HB4.out; obtain ⟨bl, ol, eA, _, d1⟩ := fl'.at_ hlt; rw [← HE.out] at d1; obtain ⟨gl, eg, hrd⟩ := own_rdn ho HCl.out (by omega); have d2 := (hrd.2 r (by omega)).trans (show some (Value.int .i64 ((CL.getD r 0 : Nat) : Int)) = some (Value.int .i64 ((yy : Nat) : Int)) from by rw [HAt.out]); rw [Nat.zero_add] at d2; cases eg; subst eA; clear hb ho hrd fl' ft' fs' x1 x2 y1 y2))
              | fail)
            go_roundw
            case rel => exact ⟨k + 1, by rw [HN.out, HPw.out], by go_num, hlt, HB4.out⟩
            case measure => simp [intOf]; omega
          · have hr := HPos.out (by omega)
            generalize (e % (c : Int)).toNat = r at *
            have hri : (r : Int) < (c : Int) := by omega
            clear HNeg HPos
            go_wp2_with (first
              | (go_at_call 69; ((with_reducible refine HCy.out.mono ?_); rintro e' w4 ⟨gg, cc, rfl, ho, hb⟩; have HB4 := Lib.hid (HB.out.trans (hb.mono HB.out.size)); obtain ⟨⟨⟨x1', x2'⟩, y1', y2'⟩, fl', ft', fs'⟩ := HFx.out HB4.out; obtain ⟨bl, ol, eA, _, d1⟩ := fl'.at_ hlt; rw [← HE.out] at d1; obtain ⟨gl, eg, hrd⟩ := own_rdn ho HCl.out (by omega); have d2 := (hrd.2 r (by omega)).trans (show some (Value.int .i64 ((CL.getD r 0 : Nat) : Int)) = some (Value.int .i64 ((yy : Nat) : Int)) from by rw [HAt.out]); rw [Nat.zero_add] at d2; cases eg; subst eA; clear hb ho hrd fl' ft' fs' x1 x2 y1 y2))
              | fail)
            go_roundw
            case rel => exact ⟨k + 1, by rw [HN.out, HPw.out], by go_num, hlt, HB4.out⟩
            case measure => simp [intOf]; omega
      · obtain rfl : k = l.length := by omega
        have hk2 : ¬ (l.length : Int) < (l.length : Int) := by omega
        have HBf := Lib.hid (HB0.out.trans (HB.out.mono HB0.out.size))
        clear HFx HB
        go_wp2
        go_ret
        exact ⟨rfl, HBf.out⟩
  | true =>
    have hi00 : i0 = zi := HI0.out
    subst hi00
    obtain ⟨⟨y1, y2⟩, _⟩ := two_of_block HY0.out
    have c1 := fun N => (show (W0.drewN N).cell? ⟨bS, oS + i, none⟩ = some (.int .i64 (g i : Nat)) from (HB0.out.cell (p := ⟨bS, oS + i, none⟩) HS.out.1).trans (HS.out.2 i hi))
    have c2 := fun N => (show (W0.drewN N).cell? ⟨bS, oS + g i, none⟩ = some (.int .i64 (i0 : Nat)) from by rw [HZi.out]; exact (HB0.out.cell (p := ⟨bS, oS + g i, none⟩) HS.out.1).trans (HS.out.2 _ hgi))
    have u1 := fun N => (show (W0.drewN N).cell? ⟨w.heap.size, 0, none⟩ = _ from (two_of_block HX0.out).1.1)
    go_wp2
    go_quiet (fail)
    go_wp2
    generalize hWd : W0.drewN _ = W1 at *
    have HX1 : Hid (W1.heap[w.heap.size]? = some (.cells #[.slice (some ⟨bS, oS, none⟩) n cS, .slice (some ⟨bT, oT, none⟩) n cT] 24 (0, 0))) := by rw [← hWd]; exact HX0.out
    have HY1 : Hid (W1.heap[w.heap.size + 1]? = some (.cells #[.bool true, .slice A l.length cl] 65 (0, 0))) := by rw [← hWd]; exact HY0.out
    have HB1 : Hid (Below w.heap.size w W1) := by rw [← hWd]; exact below_drewN HB0.out _
    clear hWd c1 c2 u1 y1 y2 HX0 HY0 HB0
    have HX0 := HX1
    have HY0 := HY1
    have HB0 := HB1
    clear HX1 HY1 HB1
    have HFx : Hid (∀ {W : World}, Below W1.heap.size W1 W → ((W.cell? ⟨w.heap.size, 0, none⟩ = some (.slice (some ⟨bS, oS, none⟩) n cS) ∧ W.cell? ⟨w.heap.size, 1, none⟩ = some (.slice (some ⟨bT, oT, none⟩) n cT)) ∧ (W.cell? ⟨w.heap.size + 1, 0, none⟩ = some (.bool true) ∧ W.cell? ⟨w.heap.size + 1, 1, none⟩ = some (.slice A l.length cl))) ∧ RdZ W W.heap.size A cl l ∧ RdN W W.heap.size bT oT n f ∧ ∀ k, k < n → W.cell? ⟨bS, oS + k, none⟩ = some (.int .i64 (g k : Nat))) := fun {W} hb =>
      ⟨⟨(two_of_block (block_below HX0.out hb)).1, (two_of_block (block_below HY0.out hb)).1⟩, ((HL.out.below (HB0.out.trans (hb.mono HB0.out.size))).mono (Nat.le_trans HB0.out.size hb.size)), ((HT.out.below (HB0.out.trans (hb.mono HB0.out.size))).mono (Nat.le_trans HB0.out.size hb.size)), fun k hk => ((HB0.out.trans (hb.mono HB0.out.size)).cell (p := ⟨bS, oS + k, none⟩) HS.out.1).trans (HS.out.2 k hk)⟩
    have BB0 := Lib.hid (Below.refl W1.heap.size W1)
    go_loopw [1, 7, 8, 9] (fun I K _ _ wr => ∃ (k : Nat), I = .int .i64 (M k : Nat) ∧ K = .int .i64 (k : Nat) ∧ k ≤ l.length ∧ Hid (Below W1.heap.size W1 wr)) (fun _ K _ _ _ => l.length - (intOf K).toNat)
    case atStart => exact ⟨0, by rw [HZr.out], rfl, Nat.zero_le _, BB0.out⟩
    case round =>
      clear BB0
      obtain ⟨k, rfl, rfl, hk, HB⟩ := hrel
      obtain ⟨⟨⟨x1, x2⟩, y1, y2⟩, fl, ft, fs⟩ := HFx.out HB.out
      by_cases hlt : k < l.length
      · have hki : (k : Int) < (l.length : Int) := by omega
        have hM := HLt.out k
        have HN := Lib.hid (HNx.out k)
        have hge : l.getD k 0 = l[k] := by simp [List.getD, hlt]
        rw [hge] at HN
        by_cases hk0 : k = 0
        · rw [if_pos hk0] at HN
          subst hk0
          obtain ⟨e, he⟩ : ∃ e, e = l[0] := ⟨_, rfl⟩
          have HE := Lib.hid he
          rw [← he] at HN
          clear he
          obtain ⟨hper, hcn⟩ := perO_spec HP.out.fp hM
          have hc1 := hper.pos
          have HPw : Hid (pw f n (M 0) e = itr f (e % (perO f n (M 0) : Int)).toNat (M 0)) := rfl
          have HCy := Lib.hid (rcycle_any (cT := cT) wr ft HP.out.fp hM hper hcn hn)
          obtain ⟨b1, b2⟩ := tmod_bds e hc1
          have hrl := emod_lt' e hc1
          have HPos := Lib.hid (fun h => tmod_pos (e := e) hc1 h)
          have HNeg := Lib.hid (fun h => tmod_neg (e := e) hc1 h)
          have HAt : Hid ((cyL f (M 0) (perO f n (M 0))).getD (e % (perO f n (M 0) : Int)).toNat 0 = itr f (e % (perO f n (M 0) : Int)).toNat (M 0)) := cyL_at hrl
          have HCl : Hid ((cyL f (M 0) (perO f n (M 0))).length = perO f n (M 0)) := by show _ = _; unfold cyL; simp
          clear hper fl ft fs
          generalize itr f (e % (perO f n (M 0) : Int)).toNat (M 0) = yy at *
          generalize hxx : M 0 = x at *
          clear hxx
          generalize pw f n x e = y at *
          generalize cyL f x (perO f n x) = CL at *
          generalize perO f n x = c at *
          have hci : (c : Int) ≤ 1152 := by omega
          have hcz : (c : Int) ≠ 0 := by omega
          have hc0 : ((c : Int) == 0) = false := by simpa using hcz
          by_cases hneg : e.tmod c < 0
          · have hr := HNeg.out hneg
            generalize (e % (c : Int)).toNat = r at *
            have hri : (r : Int) < (c : Int) := by omega
            clear HNeg HPos
            go_wp2_with (first
              | (go_at_call 69; ((with_reducible refine HCy.out.mono ?_); rintro e' w4 ⟨gg, cc, rfl, ho, hb⟩; have HB4 := Lib.hid (HB.out.trans (hb.mono HB.out.size)); obtain ⟨⟨⟨x1', x2'⟩, y1', y2'⟩, fl', ft', fs'⟩ := HFx.out HB4.out; obtain ⟨bl, ol, eA, _, d1⟩ := fl'.at_ hlt; rw [← HE.out] at d1; have d1' := (show w4.cell? ⟨bl, ol, none⟩ = some (.int .i64 e) from d1); obtain ⟨gl, eg, hrd⟩ := own_rdn ho HCl.out (by omega); have d2 := (hrd.2 r (by omega)).trans (show some (Value.int .i64 ((CL.getD r 0 : Nat) : Int)) = some (Value.int .i64 ((yy : Nat) : Int)) from by rw [HAt.out]); rw [Nat.zero_add] at d2; cases eg; subst eA; clear hb ho hrd fl' ft' fs' x1 x2 y1 y2))
              | fail)
            go_roundw
            case rel => exact ⟨1, by rw [HN.out, HPw.out], rfl, hlt, HB4.out⟩
            case measure => simp [intOf]; omega
          · have hr := HPos.out (by omega)
            generalize (e % (c : Int)).toNat = r at *
            have hri : (r : Int) < (c : Int) := by omega
            clear HNeg HPos
            go_wp2_with (first
              | (go_at_call 69; ((with_reducible refine HCy.out.mono ?_); rintro e' w4 ⟨gg, cc, rfl, ho, hb⟩; have HB4 := Lib.hid (HB.out.trans (hb.mono HB.out.size)); obtain ⟨⟨⟨x1', x2'⟩, y1', y2'⟩, fl', ft', fs'⟩ := HFx.out HB4.out; obtain ⟨bl, ol, eA, _, d1⟩ := fl'.at_ hlt; rw [← HE.out] at d1; have d1' := (show w4.cell? ⟨bl, ol, none⟩ = some (.int .i64 e) from d1); obtain ⟨gl, eg, hrd⟩ := own_rdn ho HCl.out (by omega); have d2 := (hrd.2 r (by omega)).trans (show some (Value.int .i64 ((CL.getD r 0 : Nat) : Int)) = some (Value.int .i64 ((yy : Nat) : Int)) from by rw [HAt.out]); rw [Nat.zero_add] at d2; cases eg; subst eA; clear hb ho hrd fl' ft' fs' x1 x2 y1 y2))
              | fail)
            go_roundw
            case rel => exact ⟨1, by rw [HN.out, HPw.out], rfl, hlt, HB4.out⟩
            case measure => simp [intOf]; omega
        · rw [if_neg hk0] at HN
          have hk1 : (0 : Int) < (k : Int) := by omega
          have c2 := fs _ hM
          have hMi : (M k : Int) < (n : Int) := by omega
          have hgM := HP.out.gp.lt _ hM
          obtain ⟨e, he⟩ : ∃ e, e = l[k] := ⟨_, rfl⟩
          have HE := Lib.hid he
          rw [← he] at HN
          clear he
          obtain ⟨hper, hcn⟩ := perO_spec HP.out.fp hgM
          have hc1 := hper.pos
          have HPw : Hid (pw f n (g (M k)) e = itr f (e % (perO f n (g (M k)) : Int)).toNat (g (M k))) := rfl
          have HCy := Lib.hid (rcycle_any (cT := cT) wr ft HP.out.fp hgM hper hcn hn)
          obtain ⟨b1, b2⟩ := tmod_bds e hc1
          have hrl := emod_lt' e hc1
          have HPos := Lib.hid (fun h => tmod_pos (e := e) hc1 h)
          have HNeg := Lib.hid (fun h => tmod_neg (e := e) hc1 h)
          have HAt : Hid ((cyL f (g (M k)) (perO f n (g (M k)))).getD (e % (perO f n (g (M k)) : Int)).toNat 0 = itr f (e % (perO f n (g (M k)) : Int)).toNat (g (M k))) := cyL_at hrl
          have HCl : Hid ((cyL f (g (M k)) (perO f n (g (M k)))).length = perO f n (g (M k))) := by show _ = _; unfold cyL; simp
          clear hper fl ft fs
          generalize itr f (e % (perO f n (g (M k)) : Int)).toNat (g (M k)) = yy at *
          generalize hxx : g (M k) = x at *
          clear hxx
          generalize pw f n x e = y at *
          generalize cyL f x (perO f n x) = CL at *
          generalize perO f n x = c at *
          have hci : (c : Int) ≤ 1152 := by omega
          have hcz : (c : Int) ≠ 0 := by omega
          have hc0 : ((c : Int) == 0) = false := by simpa using hcz
          by_cases hneg : e.tmod c < 0
          · have hr := HNeg.out hneg
            generalize (e % (c : Int)).toNat = r at *
            have hri : (r : Int) < (c : Int) := by omega
            clear HNeg HPos
            go_wp2_with (first
              | (go_at_call 69; ((with_reducible refine HCy.out.mono ?_); rintro e' w4 ⟨gg, cc, rfl, ho, hb⟩; have HB4 := Lib.hid (HB.out.trans (hb.mono HB.out.size)); obtain ⟨⟨⟨x1', x2'⟩, y1', y2'⟩, fl', ft', fs'⟩ := HFx.out HB4.out; obtain ⟨bl, ol, eA, _, d1⟩ := fl'.at_ hlt; rw [← HE.out] at d1; obtain ⟨gl, eg, hrd⟩ := own_rdn ho HCl.out (by omega); have d2 := (hrd.2 r (by omega)).trans (show some (Value.int .i64 ((CL.getD r 0 : Nat) : Int)) = some (Value.int .i64 ((yy : Nat) : Int)) from by rw [HAt.out]); rw [Nat.zero_add] at d2; cases eg; subst eA; clear hb ho hrd fl' ft' fs' x1 x2 y1 y2))
              | fail)
            go_roundw
            case rel => exact ⟨k + 1, by rw [HN.out, HPw.out], by go_num, hlt, HB4.out⟩
            case measure => simp [intOf]; omega
          · have hr := HPos.out (by omega)
            generalize (e % (c : Int)).toNat = r at *
            have hri : (r : Int) < (c : Int) := by omega
            clear HNeg HPos
            go_wp2_with (first
              | (go_at_call 69; ((with_reducible refine HCy.out.mono ?_); rintro e' w4 ⟨gg, cc, rfl, ho, hb⟩; have HB4 := Lib.hid (HB.out.trans (hb.mono HB.out.size)); obtain ⟨⟨⟨x1', x2'⟩, y1', y2'⟩, fl', ft', fs'⟩ := HFx.out HB4.out; obtain ⟨bl, ol, eA, _, d1⟩ := fl'.at_ hlt; rw [← HE.out] at d1; obtain ⟨gl, eg, hrd⟩ := own_rdn ho HCl.out (by omega); have d2 := (hrd.2 r (by omega)).trans (show some (Value.int .i64 ((CL.getD r 0 : Nat) : Int)) = some (Value.int .i64 ((yy : Nat) : Int)) from by rw [HAt.out]); rw [Nat.zero_add] at d2; cases eg; subst eA; clear hb ho hrd fl' ft' fs' x1 x2 y1 y2))
              | fail)
            go_roundw
            case rel => exact ⟨k + 1, by rw [HN.out, HPw.out], by go_num, hlt, HB4.out⟩
            case measure => simp [intOf]; omega
      · obtain rfl : k = l.length := by omega
        have hk2 : ¬ (l.length : Int) < (l.length : Int) := by omega
        have HBf := Lib.hid (HB0.out.trans (HB.out.mono HB0.out.size))
        clear HFx HB
        go_wp2
        go_ret
        exact ⟨rfl, HBf.out⟩
end Go.Proofs.Ytjofmgnggeoimaa
