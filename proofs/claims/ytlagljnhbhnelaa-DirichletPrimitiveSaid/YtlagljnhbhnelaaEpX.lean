/- The reference's With: the exponents are those of the values at the lifted generators. Extended characters: the exponents at the generators, and the values in other words (plain mathematics). DirichletValues: the value of a character is that of the reference, or the error is. DirichletExtends: extended characters are those of the reference, or the errors are; they agree at the units. Primitive: its closure (the lift of a number to a unit), and the character whose values a closure gives. Primitive, whole. The primitive character: lifts, the period, the conductor, and the way back (plain mathematics). DirichletPrimitive: the primitive character is that of the reference, or the error is; its conductor is its modulus, and extended it is the character itself. -/
import Derived.Test.YtlagljnhbhnelaaCqX
import Derived.Test.YtlagljnhbhnelaaVrX
import Derived.Test.YtlagljnhbhnelaaMuX
import Derived.Test.YtlagljnhbhnelaaEntL
import Derived.Test.YtlagljnhbhnelaaOpenK
namespace Go.Proofs.Ytlagljnhbhnelaa
open Go.RowKit
set_option linter.unusedVariables false
set_option linter.unusedSimpArgs false

def wiX (n N : Nat) (T : List Int) (M : Nat) (li : Nat → Nat) (G : List (Nat × Nat)) (k : Nat) : Int := rouN (T.getD (((G.getD k (0, 0)).1 + li k * n) % N) 0) M * ((G.getD k (0, 0)).2 : Int) / rouD (T.getD (((G.getD k (0, 0)).1 + li k * n) % N) 0) M
def wiE (n N : Nat) (T : List Int) (M : Nat) (li : Nat → Nat) : List Int := (List.range (gensV n).length).map (wiX n N T M li (gensV n))
theorem rou_bd {k : Int} {m : Nat} (h0 : 0 ≤ k) (h1 : k < (m : Int)) (hm : m ≤ 60) : 0 ≤ rouN k m ∧ rouN k m ≤ 60 ∧ 1 ≤ rouD k m ∧ rouD k m ≤ 60 := by
  unfold rouN rouD
  rw [if_neg (by omega), if_neg (by omega)]
  have hg : 0 < Nat.gcd k.toNat m := Nat.gcd_pos_of_pos_right _ (by omega)
  have e1 := Nat.div_le_self k.toNat (Nat.gcd k.toNat m)
  have e2 := Nat.div_le_self m (Nat.gcd k.toNat m)
  have e3 := Nat.div_pos (Nat.gcd_le_right k.toNat (show 0 < m by omega)) hg
  generalize Nat.gcd k.toNat m = g at *
  generalize k.toNat / g = c at *
  generalize m / g = d at *
  omega
set_option maxHeartbeats 6400000 in
set_option maxRecDepth 1000000 in
theorem rwith_any (n N : Nat) (E : List Int) (li : Nat → Nat) (A : Option Addr) (c : Nat) (w : World) (n1 : 1 ≤ n) (n2 : (n : Int) ≤ 60) (N1 : 1 ≤ N) (N2 : (N : Int) ≤ 60) (hE : RdZ w w.heap.size A c E) (hck : ckX N E = 0)
    (hli : ∀ k (hk : k < (gensV n).length), li k ≤ 60 ∧ Nat.gcd ((gensV n)[k].1 + li k * n) N = 1 ∧ ∀ i, i < li k → Nat.gcd ((gensV n)[k].1 + i * n) N ≠ 1) :
    Calls Try.prog 42 #[.int .i64 (n : Int), .agg #[.int .i64 (N : Int), .slice A E.length c]] w fun e w' => ∃ v, e = .returned (.agg #[.int .i64 (n : Int), v]) ∧ w'.ownsRow w.heap.size 3 1 v (wiE n N (tbV N E) (tbM (gensV N)) li).length (zs (wiE n N (tbV N E) (tbM (gensV N)) li)) ∧ Below w.heap.size w w' := by
  obtain ⟨i0, hi0, z0, z1, z2⟩ := info_parts Try.infoIntC
  have HRg : Hid (∀ W : World, Calls Try.prog 16 #[.int .i64 (n : Int)] W fun e w' => ∃ A8 c8 A9 c9, e = .returned (.tuple #[.slice A8 (gensV n).length c8, .slice A9 (gensV n).length c9]) ∧ RdZ w' w'.heap.size A8 c8 (m1 (gensV n)) ∧ RdZ w' w'.heap.size A9 c9 (m2 (gensV n)) ∧ Below W.heap.size W w') := fun W => by
    refine (rgenr_any n W n1 n2).mono fun e w' ⟨v1, v2, he, h1, h2, hb⟩ => ?_
    obtain ⟨A8, c8, rfl, hr1⟩ := own_rdz h1
    obtain ⟨A9, c9, rfl, hr2⟩ := own_rdz h2
    rw [List.length_map, List.length_map] at he
    exact ⟨A8, c8, A9, c9, he, hr1, hr2, hb⟩
  have HLl : Hid ((m2 (gensV n)).length = (gensV n).length) := List.length_map ..
  have HLk : Hid ((m1 (gensV n)).length = (gensV n).length) := List.length_map ..
  have HMg : Hid (∀ k (h : k < (gensV n).length) (h2 : k < (m2 (gensV n)).length), (m2 (gensV n))[k] = (((gensV n)[k].2 : Nat) : Int)) := fun k h h2 => by simp [m2]
  have HMh : Hid (∀ k (h : k < (gensV n).length) (h2 : k < (m1 (gensV n)).length), (m1 (gensV n))[k] = (((gensV n)[k].1 : Nat) : Int)) := fun k h h2 => by simp [m1]
  have HGb := Lib.hid (gens_facts n1 (show n ≤ 60 by omega))
  have hgl := HGb.out.len
  have hct := cht_of N1 (show N ≤ 60 by omega) (ck_ok hck).1
  have hM := (tbc_le N1 (show N ≤ 60 by omega)).2 (gensV N).length (Nat.le_refl _)
  rw [List.take_length] at hM
  have HV : Hid (∀ (a : Nat) (h1 : (a : Int) ≤ 100000) (W : World), Below w.heap.size w W → Calls Try.prog 33 #[.agg #[.int .i64 (N : Int), .slice A E.length c], .int .i64 (a : Int)] W fun e w' => e = .returned (rouV ((tbV N E).getD (a % N) 0) (tbM (gensV N))) ∧ Below W.heap.size W w') := fun a h1 W hW => by
    have := rval_any N E (a : Int) A c W N1 N2 ((hE.below hW).mono hW.size) hck (by omega) (by omega)
    rwa [show ((a : Int) % (N : Int)).toNat = a % N by rw [← Int.natCast_emod, Int.toNat_natCast]] at this
  have HYes : Hid (∀ a, Nat.gcd a N = 1 → 0 ≤ (tbV N E).getD (a % N) 0 ∧ (tbV N E).getD (a % N) 0 < (tbM (gensV N) : Int)) := fun a hg => hct.yes (a % N) (Nat.mod_lt _ (by omega)) (by rw [gcd_modn]; exact hg)
  have HLi := Lib.hid hli
  have HL : Hid (wiE n N (tbV N E) (tbM (gensV N)) li = (List.range (gensV n).length).map (wiX n N (tbV N E) (tbM (gensV N)) li (gensV n))) := rfl
  obtain ⟨M1, M2⟩ := hM
  have X0 : Hid (((w.alloc (.cells #[.int .i64 (N : Int), .slice A E.length c] 33)).alloc (.cells #[.int .i64 0, .slice none 0 0] 33)).heap[w.heap.size]? = some (.cells #[.int .i64 (N : Int), .slice A E.length c] 33 (0, 0))) := block_alloc (heap_alloc_new w _) _
  have R0 : Hid (((w.alloc (.cells #[.int .i64 (N : Int), .slice A E.length c] 33)).alloc (.cells #[.int .i64 0, .slice none 0 0] 33)).heap[w.heap.size + 1]? = some (.cells #[.int .i64 0, .slice none 0 0] 33 (0, 0))) := by
    have := heap_alloc_new (w.alloc (.cells #[.int .i64 (N : Int), .slice A E.length c] 33)) (.cells #[.int .i64 0, .slice none 0 0] 33)
    show _ = _; simpa using this
  have B0 : Hid (Below w.heap.size w ((w.alloc (.cells #[.int .i64 (N : Int), .slice A E.length c] 33)).alloc (.cells #[.int .i64 0, .slice none 0 0] 33))) := below2 w _ _
  obtain ⟨x0, x1, _⟩ := cells_two X0.out
  clear hE hck hct hli
  generalize wiE n N (tbV N E) (tbM (gensV N)) li = LL at *
  generalize tbV N E = T at *
  generalize tbM (gensV N) = M at *
  generalize gensV n = G at *
  go_enter Try.func42, Try.ntmps42
  go_upto_region 3 with (first
      | (go_at_call 16; ((with_reducible refine (HRg.out _).mono ?_); rintro e w2 ⟨A8, c8, A9, c9, rfl, hr1, hr2, hb⟩; have X2 := Lib.hid (block_below X0.out hb); have R2 := Lib.hid (block_below R0.out hb); have B2 := Lib.hid (B0.out.trans (hb.mono B0.out.size)); have HR8 := Lib.hid hr1; have HR9 := Lib.hid hr2; clear hb x0 x1 hr1 hr2))
      | fail)
  have hrl := lt_of_block R2.out
  obtain ⟨w3, hw3⟩ : ∃ w3, w3 = w2.alloc (.cells #[.int .i64 (n : Int), .slice none 0 0] 33) := ⟨_, rfl⟩
  have HO3 : Hid (OW w.heap.size (w2.heap.size + 1) w2.heap.size w w3 n (.slice none 0 0) [] w3) := by
    rw [hw3]
    exact ⟨by omega, B2.out.size, by simp, heap_alloc_new w2 _, World.ownsRow_nil _ _ _ _, fun _ _ _ => rfl, B2.out.alloc B2.out.size _⟩
  have hsz3 : w3.heap.size = w2.heap.size + 1 := by rw [hw3]; simp
  have X3 : Hid (w3.heap[w.heap.size]? = some (.cells #[.int .i64 (N : Int), .slice A E.length c] 33 (0, 0))) := by rw [hw3]; exact block_alloc X2.out _
  have R3 : Hid (w3.heap[w.heap.size + 1]? = some (.cells #[.int .i64 0, .slice none 0 0] 33 (0, 0))) := by rw [hw3]; exact block_alloc R2.out _
  have HR3 : Hid (RdZ w3 w2.heap.size A9 c9 (m2 G)) := by rw [hw3]; exact HR9.out.below (below1 w2 _)
  have HR4 : Hid (RdZ w3 w2.heap.size A8 c8 (m1 G)) := by rw [hw3]; exact HR8.out.below (below1 w2 _)
  rw [← hw3]
  clear hw3
  generalize w2.heap.size = tb at *
  go_wp2
  go_loopw [8, 9, 10] (fun I _ _ wr => ∃ (k : Nat) (v : Value), I = .int .i64 (k : Int) ∧ k ≤ G.length ∧ Hid (OW w.heap.size (tb + 1) tb w w3 n v ((List.range k).map (wiX n N T M li G)) wr)) (fun I _ _ _ => G.length - (intOf I).toNat)
  case atStart => exact ⟨0, _, rfl, Nat.zero_le _, HO3.out⟩
  case round =>
    clear HO3
    obtain ⟨k, v, rfl, hk, HO⟩ := hrel
    by_cases hkl : k < G.length
    · have hkli : (k : Int) < (G.length : Int) := by omega
      have q1 := HGb.out.o1 _ (List.getElem_mem hkl)
      have q60 := HGb.out.o2 _ (List.getElem_mem hkl)
      have p60 := HGb.out.v _ (List.getElem_mem hkl)
      obtain ⟨l1, l2, l3⟩ := HLi.out k hkl
      obtain ⟨hy1, hy2⟩ := HYes.out _ l2
      have hbd := rou_bd hy1 hy2 M2
      have HN : Hid ((List.range (k + 1)).map (wiX n N T M li G) = (List.range k).map (wiX n N T M li G) ++ [rouN (T.getD ((G[k].1 + li k * n) % N) 0) M * (G[k].2 : Int) / rouD (T.getD ((G[k].1 + li k * n) % N) 0) M]) := by
        show _ = _
        rw [rm_step]; congr 1; unfold wiX; rw [getDG G k hkl]
      have HTl : Hid (((List.range k).map (wiX n N T M li G)).length = k) := by show _ = _; rw [List.length_map, List.length_range]
      have hMh := HMh.out k hkl (by rw [HLk.out]; exact hkl)
      have hMg := HMg.out k hkl (by rw [HLl.out]; exact hkl)
      have hln : li k * n ≤ 60 * 60 := Nat.mul_le_mul l1 (by omega)
      have HVa := Lib.hid (HV.out (G[k].1 + li k * n) (by omega))
      rw [rou_eq, decide_eq_false (show ¬ T.getD ((G[k].1 + li k * n) % N) 0 = -1 by omega)] at HVa
      have HGd : Hid (∀ (i : Nat) (W : World), i ≤ li k → Calls Try.prog 35 #[.int .i64 ((G[k].1 + i * n : Nat) : Int), .int .i64 (N : Int)] W fun e w' => e = .returned (.int .i64 ((Nat.gcd (G[k].1 + i * n) N : Nat) : Int)) ∧ ∃ z, w' = W.drewN z) := fun i W hi => by
        have h9 : i * n ≤ 60 * 60 := Nat.mul_le_mul (by omega) (by omega)
        have := rGcd_any ((G[k].1 + i * n : Nat) : Int) (N : Int) W (by unfold Mid; omega) (by unfold Mid; omega)
        rwa [show Int.gcd ((G[k].1 + i * n : Nat) : Int) (N : Int) = Nat.gcd (G[k].1 + i * n) N by simp only [Int.gcd, Int.natAbs_natCast]] at this
      have HRow : Hid (∀ W, OW w.heap.size (tb + 1) tb w w3 n v ((List.range k).map (wiX n N T M li G)) W → ∃ b8 o8, A8 = some ⟨b8, o8, none⟩ ∧ b8 < tb ∧ W.cell? ⟨b8, o8 + k, none⟩ = some (.int .i64 (G[k].1 : Int))) := fun W hW => by
        have := (hW.row HR4.out (Nat.le_refl _)).at_ (k := k) (by rw [HLk.out]; exact hkl)
        rwa [hMh] at this
      obtain ⟨b8, o8, rfl, hb8, xx8⟩ := HRow.out _ HO.out
      have HL2 := Lib.hid l2
      have HL3 := Lib.hid l3
      clear hMh HRow l2 l3 hy1 hy2
      generalize (List.range k).map (wiX n N T M li G) = L at *
      generalize rouN (T.getD ((G[k].1 + li k * n) % N) 0) M = x9 at *
      generalize rouD (T.getD ((G[k].1 + li k * n) % N) 0) M = y9 at *
      generalize G[k] = f at *
      obtain ⟨p, q⟩ := f
      simp only at q1 q60 p60 xx8 HN hMg HVa HGd HL2 HL3
      obtain ⟨wo, hwo⟩ : ∃ wo, wo = wr := ⟨_, rfl⟩
      rw [← hwo] at HO xx8 ⊢
      clear hwo
      go_wp2
      go_loopw [9] (fun J wr => ∃ i : Nat, J = .int .i64 ((p + i * n : Nat) : Int) ∧ i ≤ li k ∧ Hid (OW w.heap.size (tb + 1) tb w w3 n v L wr)) (fun J _ => 10000 - (intOf J).toNat)
      case atStart => exact ⟨0, by rw [Nat.zero_mul, Nat.add_zero], Nat.zero_le _, HO.out⟩
      case round =>
        clear HO xx8
        obtain ⟨i, rfl, hi, HO⟩ := hrel
        have X5 := Lib.hid (HO.out.blk X3.out (by have := HO.out.tB; have := hrl; omega))
        obtain ⟨x0, x1, _⟩ := cells_two X5.out
        have h9 : i * n ≤ 60 * 60 := Nat.mul_le_mul (by omega) (by omega)
        have HG := Lib.hid (fun W => HGd.out i W hi)
        by_cases hil : i < li k
        · have hne := HL3.out i hil
          have hne2 : (((Nat.gcd (p + i * n) N : Nat) : Int) != 1) = true := by rw [bne_iff_ne]; omega
          have hnx : ((p + i * n : Nat) : Int) + (n : Int) = ((p + (i + 1) * n : Nat) : Int) := by rw [Nat.add_mul, Nat.one_mul]; omega
          have h10 : (i + 1) * n ≤ 60 * 60 := Nat.mul_le_mul (by omega) (by omega)
          have han : p + (i + 1) * n = p + i * n + n := by rw [Nat.add_mul, Nat.one_mul]; omega
          have hao : p + i * n ≤ 4000 := by omega
          have hwa : IntKind.i64.wrap ((p + (i + 1) * n : Nat) : Int) = ((p + (i + 1) * n : Nat) : Int) := IntWalk.i64_in _ (by omega)
          have hgo : p + (i + 1) * n = p + (i + 1) * n := rfl
          clear hne h9 h10
          obtain ⟨an', hann⟩ : ∃ an', an' = p + (i + 1) * n := ⟨_, rfl⟩
          rw [← hann] at hnx han hwa
          have HAn := Lib.hid hann
          clear hann hgo
          have hlt : p + i * n < an' := by omega
          have hle : an' ≤ 4100 := by omega
          clear han
          generalize Nat.gcd (p + i * n) N = gg at *
          generalize p + i * n = ao at *
          go_wp2_with (first
            | (go_at_call 35; ((with_reducible refine (HG.out _).mono ?_); rintro e w5 ⟨rfl, hd⟩; have HO5 := Lib.hid (HO.out.on (bel_drewN hd)); clear hd x0 x1))
            | fail)
          go_roundw
          case rel => exact ⟨i + 1, by rw [← HAn.out], by omega, HO5.out⟩
          case measure => simp [intOf]; (try rw [hwa]); omega
        · obtain rfl : i = li k := by omega
          rw [HL2.out] at HG
          have hao : p + li k * n ≤ 4000 := by omega
          clear h9 HGd HL2 HL3
          generalize p + li k * n = ao at *
          go_upto_region 10 with (first
            | (go_at_call 35; ((with_reducible refine (HG.out _).mono ?_); rintro e w5 ⟨rfl, hd⟩; have HO5 := Lib.hid (HO.out.on (bel_drewN hd)); have X6 := Lib.hid (HO5.out.blk X3.out (by have := HO5.out.tB; have := hrl; omega)); clear hd x0 x1; obtain ⟨x0, x1, _⟩ := cells_two X6.out))
            | (go_at_call 33; ((with_reducible refine (HVa.out _ HO5.out.below).mono ?_); rintro e w6 ⟨rfl, hb⟩; have HO6 := Lib.hid (HO5.out.on hb); clear hb x0 x1))
            | fail)
          have HOd := Lib.hid (HO6.out.on (below1 w6 (.cells #[.bool false, .int .i64 x9, .int .i64 y9] 48))).drew
          have HVd : Hid ((w6.alloc (.cells #[.bool false, .int .i64 x9, .int .i64 y9] 48)).drew.heap[w6.heap.size]? = some (.cells #[.bool false, .int .i64 x9, .int .i64 y9] 48 (0, 0))) := heap_alloc_new w6 _
          obtain ⟨wd, hwd⟩ : ∃ wd, wd = (w6.alloc (.cells #[.bool false, .int .i64 x9, .int .i64 y9] 48)).drew := ⟨_, rfl⟩
          rw [← hwd] at HOd HVd
          clear HO HO5 HO6 X5 X6
          generalize w6.heap.size = vb at *
          obtain ⟨b9, o9, rfl, hb9, xx9⟩ := (HOd.out.row HR3.out (Nat.le_refl _)).at_ (k := k) (by rw [HLl.out]; exact hkl)
          rw [hMg] at xx9
          obtain ⟨r0, r1, d0, d1⟩ := hbd
          have q0 : (y9 == 0) = false := by rw [beq_eq_false_iff_ne]; omega
          have q0' : ¬ (y9 = 0) := by omega
          have hm0 : 0 ≤ x9 * (q : Int) := Int.mul_nonneg r0 (by omega)
          have hm1 : x9 * (q : Int) ≤ 60 * 60 := Int.mul_le_mul r1 (by omega) (by omega) (by omega)
          have hws : IntKind.i64.wrap (x9 * (q : Int)) = x9 * (q : Int) := IntWalk.i64_in _ (by omega)
          have htm : Int.tdiv (x9 * (q : Int)) y9 = x9 * (q : Int) / y9 := Int.tdiv_eq_ediv_of_nonneg hm0
          have hz0 : 0 ≤ x9 * (q : Int) / y9 := Int.ediv_nonneg hm0 (by omega)
          have hz1 : x9 * (q : Int) / y9 ≤ x9 * (q : Int) := Int.ediv_le_self _ hm0
          generalize x9 * (q : Int) / y9 = z at *
          have hwz : IntKind.i64.wrap z = z := IntWalk.i64_in _ (by omega)
          have hsd := HOd.out.size
          have HHd : Hid (∀ W, Below wd.heap.size wd W → W.cell? ⟨tb, 1, none⟩ = some v ∧ W.cell? ⟨vb, 1, none⟩ = some (.int .i64 x9) ∧ W.cell? ⟨vb, 2, none⟩ = some (.int .i64 y9) ∧ W.cell? ⟨b9, o9 + k, none⟩ = some (.int .i64 (q : Int))) := fun W hW => ⟨(cells_two (block_below HOd.out.box hW)).2.1, (three_of_blockD (block_below HVd.out hW)).1.2.1, (three_of_blockD (block_below HVd.out hW)).1.2.2, (hW.cell (p := ⟨b9, o9 + k, none⟩) (by show b9 < wd.heap.size; omega)).trans xx9⟩
          have HTs := Lib.hid (show tb + 1 ≤ wd.heap.size from hsd)
          clear xx9
          refine region_E 13 (fun W => W.cell? ⟨tb, 1, none⟩ = some v ∧ W.cell? ⟨vb, 1, none⟩ = some (.int .i64 x9) ∧ W.cell? ⟨vb, 2, none⟩ = some (.int .i64 y9) ∧ W.cell? ⟨b9, o9 + k, none⟩ = some (.int .i64 (q : Int))) (by kernel_rfl) ?_
          rw [← hwd]
          clear hwd
          have hHeld := HHd.out wd (Below.refl _ _)
          refine take_E (n := 13) (i := 0) (v := ?vtt_0) rfl (by kernel_rfl) (fun _ _ _ h => h) ?hytt_0 (by rfl) hHeld ?resttt_0
          case hytt_0 => (intro w9 hSw; (try dsimp only at hSw); go_simp <;> with_reducible rfl)
          (try simp only [List.getElem_toArray, List.getElem_cons_zero, List.getElem_cons_succ, Act.put, List.setIfInBounds_toArray, List.set_cons_zero, List.set_cons_succ])
          refine take_E (n := 13) (i := 1) (v := ?vtt_1) rfl (by kernel_rfl) (fun _ _ _ h => h) ?hytt_1 (by rfl) hHeld ?resttt_1
          case hytt_1 => (intro w9 hSw; (try dsimp only at hSw); go_simp <;> with_reducible rfl)
          (try simp only [List.getElem_toArray, List.getElem_cons_zero, List.getElem_cons_succ, Act.put, List.setIfInBounds_toArray, List.set_cons_zero, List.set_cons_succ])
          refine take_E (n := 13) (i := 2) (v := ?vtt_2) rfl (by kernel_rfl) (fun _ _ _ h => h) ?hytt_2 (by rfl) hHeld ?resttt_2
          case hytt_2 => (intro w9 hSw; (try dsimp only at hSw); go_simp <;> with_reducible rfl)
          (try simp only [List.getElem_toArray, List.getElem_cons_zero, List.getElem_cons_succ, Act.put, List.setIfInBounds_toArray, List.set_cons_zero, List.set_cons_succ])
          refine take_E (n := 13) (i := 3) (v := ?vtt_3) rfl (by kernel_rfl) (fun _ _ _ h => h) ?hytt_3 (by rfl) hHeld ?resttt_3
          case hytt_3 => (intro w9 hSw; (try dsimp only at hSw); go_simp <;> with_reducible rfl)
          (try simp only [List.getElem_toArray, List.getElem_cons_zero, List.getElem_cons_succ, Act.put, List.setIfInBounds_toArray, List.set_cons_zero, List.set_cons_succ])
          refine take_E (n := 13) (i := 4) (v := ?vtt_4) rfl (by kernel_rfl) (fun _ _ _ h => h) ?hytt_4 (by rfl) hHeld ?resttt_4
          case hytt_4 => (intro w9 hSw; (try dsimp only at hSw); go_simp <;> with_reducible rfl)
          (try simp only [List.getElem_toArray, List.getElem_cons_zero, List.getElem_cons_succ, Act.put, List.setIfInBounds_toArray, List.set_cons_zero, List.set_cons_succ])
          refine take_E (n := 13) (i := 5) (v := ?vtt_5) rfl (by kernel_rfl) (fun _ _ _ h => h) ?hytt_5 (by rfl) hHeld ?resttt_5
          case hytt_5 => (intro w9 hSw; (try dsimp only at hSw); go_simp <;> with_reducible rfl)
          (try simp only [List.getElem_toArray, List.getElem_cons_zero, List.getElem_cons_succ, Act.put, List.setIfInBounds_toArray, List.set_cons_zero, List.set_cons_succ])
          refine take_E (n := 13) (i := 6) (v := ?vtt_6) rfl (by kernel_rfl) (fun _ _ _ h => h) ?hytt_6 (by rfl) hHeld ?resttt_6
          case hytt_6 => (intro w9 hSw; (try dsimp only at hSw); go_simp <;> with_reducible rfl)
          (try simp only [List.getElem_toArray, List.getElem_cons_zero, List.getElem_cons_succ, Act.put, List.setIfInBounds_toArray, List.set_cons_zero, List.set_cons_succ])
          refine take_E (n := 13) (i := 7) (v := ?vtt_7) rfl (by kernel_rfl) (fun _ _ _ h => h) ?hytt_7 (by rfl) hHeld ?resttt_7
          case hytt_7 => (intro w9 hSw; (try dsimp only at hSw); go_simp <;> with_reducible rfl)
          (try simp only [List.getElem_toArray, List.getElem_cons_zero, List.getElem_cons_succ, Act.put, List.setIfInBounds_toArray, List.set_cons_zero, List.set_cons_succ])
          refine take_E (n := 13) (i := 8) (v := ?vtt_8) rfl (by kernel_rfl) (fun _ _ _ h => h) ?hytt_8 (by rfl) hHeld ?resttt_8
          case hytt_8 => (intro w9 hSw; (try dsimp only at hSw); go_simp <;> with_reducible rfl)
          (try simp only [List.getElem_toArray, List.getElem_cons_zero, List.getElem_cons_succ, Act.put, List.setIfInBounds_toArray, List.set_cons_zero, List.set_cons_succ])
          refine take_E (n := 13) (i := 9) (v := ?vtt_9) rfl (by kernel_rfl) (fun _ _ _ h => h) ?hytt_9 (by rfl) hHeld ?resttt_9
          case hytt_9 => (intro w9 hSw; (try dsimp only at hSw); go_simp <;> with_reducible rfl)
          (try simp only [List.getElem_toArray, List.getElem_cons_zero, List.getElem_cons_succ, Act.put, List.setIfInBounds_toArray, List.set_cons_zero, List.set_cons_succ])
          refine take_E (n := 13) (i := 10) (v := ?vtt_10) rfl (by kernel_rfl) (fun _ _ _ h => h) ?hytt_10 (by rfl) hHeld ?resttt_10
          case hytt_10 => (intro w9 hSw; (try dsimp only at hSw); go_simp <;> with_reducible rfl)
          (try simp only [List.getElem_toArray, List.getElem_cons_zero, List.getElem_cons_succ, Act.put, List.setIfInBounds_toArray, List.set_cons_zero, List.set_cons_succ])
          refine take_E (n := 13) (i := 11) (v := ?vtt_11) rfl (by kernel_rfl) (fun _ _ _ h => h) ?hytt_11 (by rfl) hHeld ?resttt_11
          case hytt_11 => (intro w9 hSw; (try dsimp only at hSw); go_simp <;> with_reducible rfl)
          (try simp only [List.getElem_toArray, List.getElem_cons_zero, List.getElem_cons_succ, Act.put, List.setIfInBounds_toArray, List.set_cons_zero, List.set_cons_succ])
          refine one_E (n := 13) (i := 12) (by kernel_rfl) rfl (fun K hK => ?_)
          go_simp
          refine hK.out _ _ (fun _ => HHd.out _ (below1 wd _)) (fun hHeld8 => ?_)
          clear hK K
          (try simp only [List.getElem_toArray, List.getElem_cons_zero, List.getElem_cons_succ, Act.put, List.setIfInBounds_toArray, List.set_cons_zero, List.set_cons_succ])
          refine one_E (n := 13) (i := 13) (by kernel_rfl) rfl (fun K hK => ?_)
          refine step_append_lies _ (by rfl) _ _ _ (by rfl) (tb + 1) 3 i0 _ 1 8 Try.underlying23 hi0 z0 z1 z2 rfl (by omega) v k (zs L) (by rfl) (own_below (by have := HOd.out.own; rw [HTl.out] at this; exact this) (below1 wd _)) ⟨wd.heap.size, 0, none⟩ 1 1 [.int .i64 z] (by rfl) (by rfl) (World.news_of_block (cs := #[.int .i64 z]) (t := 3) (fr := (0, 0)) (heap_alloc_new wd _)) (by simp [Value.oneCell']) (by omega) (by unfold maxLen; omega) (by omega) (by have := HOd.out.size; simp; omega) (wd.heap.size + 1) (by simp) ?_
          intro gg cap' p2 hown2 hgrow hat hlt3
          obtain ⟨hbx, hxn⟩ := HOd.out.push (by rw [HTl.out]; exact hown2) hgrow
          have HXn := Lib.hid hxn
          obtain ⟨e1, e2, ef⟩ := cells_two hbx
          clear hown2 hgrow hat hxn hbx
          refine hK.out _ _ (fun h => absurd h (by decide)) (fun hHeld9 => ?_)
          clear hK K
          (try simp only [List.getElem_toArray, List.getElem_cons_zero, List.getElem_cons_succ, Act.put, List.setIfInBounds_toArray, List.set_cons_zero, List.set_cons_succ])
          refine one_E (n := 13) (i := 14) (by kernel_rfl) rfl (fun K hK => ?_)
          go_simp
          refine hK.out _ _ (fun h => absurd h (by decide)) (fun hHeld10 => ?_)
          clear hK K
          (try simp only [List.getElem_toArray, List.getElem_cons_zero, List.getElem_cons_succ, Act.put, List.setIfInBounds_toArray, List.set_cons_zero, List.set_cons_succ])
          refine one_E (n := 13) (i := 15) (by kernel_rfl) rfl (fun K hK => ?_)
          go_simp
          refine hK.out _ _ (fun h => absurd h (by decide)) (fun hHeld10 => ?_)
          clear hK K
          (try simp only [List.getElem_toArray, List.getElem_cons_zero, List.getElem_cons_succ, Act.put, List.setIfInBounds_toArray, List.set_cons_zero, List.set_cons_succ])
          refine done_E (by kernel_rfl) ?_ _
          go_wp2
          go_roundw
          case rel => exact ⟨k + 1, _, by go_num, by omega, by rw [HN.out]; exact HXn.out⟩
          case measure => simp [intOf]; omega
    · obtain rfl : k = G.length := by omega
      have hk3 : ¬ (G.length : Int) < (G.length : Int) := by omega
      rw [← HL.out] at HO
      obtain ⟨A0, l0, c0, rfl⟩ := ownsRow_slice HO.out.own
      obtain ⟨z1', z2', zf⟩ := cells_two HO.out.box
      have hCs : w.heap.size ≤ tb := HO.out.tB
      have hr0 := HO.out.blk R3.out (by omega)
      obtain ⟨r0, r1, rf⟩ := cells_two hr0
      have R4 := Lib.hid (two_setC hr0 (.int .i64 (n : Int)) (.slice A0 l0 c0))
      obtain ⟨s0, s1, sf⟩ := cells_two R4.out
      have HOf := Lib.hid (own_base (show w.heap.size ≤ tb + 1 by omega) (ownsRow_setCell_below (ownsRow_setCell_below HO.out.own (a := ⟨w.heap.size + 1, 0, none⟩) (by show w.heap.size + 1 < tb + 1; omega) (.int .i64 (n : Int))) (a := ⟨w.heap.size + 1, 1, none⟩) (by show w.heap.size + 1 < tb + 1; omega) (.slice A0 l0 c0)))
      have HBf := Lib.hid ((HO.out.below.setCell (p := ⟨w.heap.size + 1, 0, none⟩) (by show w.heap.size ≤ w.heap.size + 1; omega) (.int .i64 (n : Int))).setCell (p := ⟨w.heap.size + 1, 1, none⟩) (by show w.heap.size ≤ w.heap.size + 1; omega) (.slice A0 l0 c0))
      clear hr0
      go_wp2
      refine bodyPost_ret (v := .agg #[.int .i64 (n : Int), .slice A0 l0 c0]) ?_ rfl ⟨_, rfl, HOf.out, HBf.out⟩
      simp [results, Try.results42, go_sem, s0, s1]
end Go.Proofs.Ytlagljnhbhnelaa
namespace Go.Proofs.Ytlagljnhbhnelaa
set_option linter.unusedVariables false

/-- A function on the units modulo n that turns products into sums modulo m. -/
structure HomU (n m : Nat) (f : Nat → Int) : Prop where
  m1 : 1 ≤ m
  rng : ∀ a, a < n → Nat.gcd a n = 1 → 0 ≤ f a ∧ f a < (m : Int)
  mul : ∀ a b, a < n → b < n → Nat.gcd a n = 1 → Nat.gcd b n = 1 → f (a * b % n) = (f a + f b) % (m : Int)
def guOk (n : Nat) : Bool := (gensV n).all fun g => Nat.blt g.1 n && (Nat.beq (Nat.gcd g.1 n) 1 && Nat.beq (ywF n g.1 g.2 (1 % n)) (1 % n))
set_option maxRecDepth 1000000 in
theorem gu_all : (List.range 60).all (fun i => guOk (i + 1)) = true := by decide +kernel
theorem gu_of {n : Nat} (n1 : 1 ≤ n) (n2 : n ≤ 60) : ∀ g ∈ gensV n, g.1 < n ∧ Nat.gcd g.1 n = 1 ∧ ywF n g.1 g.2 (1 % n) = 1 % n := fun g hg => by
  have h := List.all_eq_true.1 gu_all (n - 1) (List.mem_range.2 (by omega))
  rw [show n - 1 + 1 = n by omega] at h
  have h2 := List.all_eq_true.1 h g hg
  rw [Bool.and_eq_true, Bool.and_eq_true] at h2
  exact ⟨Nat.le_of_ble_eq_true h2.1, Nat.eq_of_beq_eq_true h2.2.1, Nat.eq_of_beq_eq_true h2.2.2⟩
theorem unit_mul {n a b : Nat} (ha : Nat.gcd a n = 1) (hb : Nat.gcd b n = 1) : Nat.gcd (a * b % n) n = 1 := by
  rw [gcd_modn]; exact Nat.Coprime.mul_left ha hb
theorem unit_one {n : Nat} : Nat.gcd (1 % n) n = 1 := by rw [gcd_modn]; exact Nat.gcd_one_left n
theorem HomU.one {n m : Nat} {f : Nat → Int} (h : HomU n m f) (n1 : 1 ≤ n) : f (1 % n) = 0 := by
  have hl : 1 % n < n := Nat.mod_lt _ n1
  have h1 := h.mul _ _ hl hl unit_one unit_one
  obtain ⟨r0, r1⟩ := h.rng _ hl unit_one
  have e : 1 % n * (1 % n) % n = 1 % n := by rw [← Nat.mul_mod]
  rw [e] at h1
  generalize f (1 % n) = x at *
  by_cases hx : x + x < (m : Int)
  · rw [Int.emod_eq_of_lt (by omega) hx] at h1; omega
  · rw [show x + x = (x + x - (m : Int)) + (m : Int) by omega, Int.add_emod_right, Int.emod_eq_of_lt (by omega) (by omega)] at h1; omega
theorem HomU.yw {n m : Nat} {f : Nat → Int} (h : HomU n m f) (n1 : 1 ≤ n) {v : Nat} (v1 : v < n) (v2 : Nat.gcd v n = 1) : ∀ (k y : Nat), y < n → Nat.gcd y n = 1 →
    f (ywF n v k y) = (f y + (k : Int) * f v) % (m : Int) ∧ ywF n v k y < n ∧ Nat.gcd (ywF n v k y) n = 1
  | 0, y, hy, hg => by
    obtain ⟨r0, r1⟩ := h.rng y hy hg
    refine ⟨?_, hy, hg⟩
    show f y = (f y + ((0 : Nat) : Int) * f v) % (m : Int)
    rw [Int.ofNat_zero, Int.zero_mul, Int.add_zero, Int.emod_eq_of_lt r0 r1]
  | k + 1, y, hy, hg => by
    obtain ⟨h1, h2, h3⟩ := h.yw n1 v1 v2 k (y * v % n) (Nat.mod_lt _ n1) (unit_mul hg v2)
    refine ⟨?_, h2, h3⟩
    show f (ywF n v k (y * v % n)) = _
    rw [h1, h.mul y v hy v1 hg v2, Int.emod_add_emod, Int.natCast_succ, Int.add_mul, Int.one_mul]
    congr 1; omega
def sumF (f : Nat → Int) : List (Nat × Nat) → List Nat → Int
  | g :: G, t :: T => (t : Int) * f g.1 + sumF f G T
  | _, _ => 0
theorem HomU.yg {n m : Nat} {f : Nat → Int} (h : HomU n m f) (n1 : 1 ≤ n) : ∀ (G : List (Nat × Nat)) (T : List Nat) (y : Nat), G.length = T.length → (∀ g ∈ G, g.1 < n ∧ Nat.gcd g.1 n = 1) → y < n → Nat.gcd y n = 1 →
    f (yG n G T y) = (f y + sumF f G T) % (m : Int)
  | [], [], y, _, _, hy, hg => by
    obtain ⟨r0, r1⟩ := h.rng y hy hg
    show f y = (f y + 0) % (m : Int)
    rw [Int.add_zero, Int.emod_eq_of_lt r0 r1]
  | g :: G, t :: T, y, hl, hG, hy, hg => by
    obtain ⟨v1, v2⟩ := hG g (List.mem_cons_self ..)
    obtain ⟨h1, h2, h3⟩ := h.yw n1 v1 v2 t y hy hg
    show f (yG n G T (ywF n g.1 t y)) = (f y + ((t : Int) * f g.1 + sumF f G T)) % (m : Int)
    rw [h.yg n1 G T _ (by simpa using hl) (fun x hx => hG x (List.mem_cons_of_mem _ hx)) h2 h3, h1, Int.emod_add_emod, Int.add_assoc]
/-- The exponents of the character with these values. -/
def hxE (f : Nat → Int) (m n : Nat) : List Int := (gensV n).map fun g => f g.1 * (g.2 : Int) / (m : Int)
theorem HomU.exact {n m : Nat} {f : Nat → Int} (h : HomU n m f) (n1 : 1 ≤ n) (n2 : n ≤ 60) : ∀ g ∈ gensV n, f g.1 * (g.2 : Int) / (m : Int) * (m : Int) = f g.1 * (g.2 : Int) := fun g hg => by
  obtain ⟨u1, u2, u3⟩ := gu_of n1 n2 g hg
  have h1 := (h.yw n1 u1 u2 g.2 (1 % n) (Nat.mod_lt _ n1) unit_one).1
  rw [u3, h.one n1, Int.zero_add] at h1
  refine Int.ediv_mul_cancel (Int.dvd_of_emod_eq_zero ?_)
  rw [Int.mul_comm]; exact h1.symm
theorem exL_map {h : Nat × Nat → Int} : ∀ (G : List (Nat × Nat)), (∀ g ∈ G, 0 ≤ h g ∧ h g < (g.2 : Int)) → exL (G.map h) G = 0
  | [], _ => rfl
  | g :: G, hG => by
    rw [List.map_cons, exL_hit (hG g (List.mem_cons_self ..))]
    exact exL_map G fun x hx => hG x (List.mem_cons_of_mem _ hx)
theorem HomU.ck {n m : Nat} {f : Nat → Int} (h : HomU n m f) (n1 : 1 ≤ n) (n2 : n ≤ 60) : ckX n (hxE f m n) = 0 := by
  have hm := h.m1
  unfold ckX
  rw [if_pos (by unfold hxE; rw [List.length_map])]
  refine exL_map _ fun g hg => ?_
  obtain ⟨u1, u2, _⟩ := gu_of n1 n2 g hg
  obtain ⟨r0, r1⟩ := h.rng g.1 u1 u2
  have ho := (gens_facts n1 n2).o1 g hg
  refine ⟨Int.ediv_nonneg (Int.mul_nonneg r0 (by omega)) (by omega), Int.ediv_lt_of_lt_mul (by omega) ?_⟩
  rw [Int.mul_comm (g.2 : Int)]
  exact Int.mul_lt_mul_of_pos_right r1 (by omega)
theorem sumG_F {f : Nat → Int} {m M : Nat} : ∀ (G : List (Nat × Nat)) (T : List Nat), G.length = T.length → (∀ g ∈ G, f g.1 * (g.2 : Int) / (m : Int) * (m : Int) = f g.1 * (g.2 : Int) ∧ M % g.2 = 0) →
    sumG M G (G.map fun g => f g.1 * (g.2 : Int) / (m : Int)) T * (m : Int) = (M : Int) * sumF f G T
  | [], [], _, _ => by simp [sumG, sumF]
  | g :: G, t :: T, hl, hG => by
    obtain ⟨h1, h2⟩ := hG g (List.mem_cons_self ..)
    have h3 := sumG_F (m := m) (M := M) G T (by simpa using hl) (fun x hx => hG x (List.mem_cons_of_mem _ hx))
    have h4 : (g.2 : Int) * ((M / g.2 : Nat) : Int) = (M : Int) := by rw [← Int.natCast_mul, Nat.mul_div_cancel' (Nat.dvd_of_mod_eq_zero h2)]
    show ((t : Int) * (f g.1 * (g.2 : Int) / (m : Int) * ((M / g.2 : Nat) : Int)) + sumG M G _ T) * (m : Int) = (M : Int) * ((t : Int) * f g.1 + sumF f G T)
    rw [Int.add_mul, h3, Int.mul_add]
    generalize f g.1 * (g.2 : Int) / (m : Int) = x at *
    generalize ((M / g.2 : Nat) : Int) = d at *
    have e : (t : Int) * (x * d) * (m : Int) = (M : Int) * ((t : Int) * f g.1) := by
      rw [← h4, Int.mul_assoc, Int.mul_assoc x, Int.mul_comm d, ← Int.mul_assoc x, h1, Int.mul_left_comm _ (t : Int), Int.mul_assoc, Int.mul_comm _ (f g.1)]
    rw [e]
/-- The table of the character with these exponents has these values, as fractions. -/
theorem HomU.val {n m : Nat} {f : Nat → Int} (h : HomU n m f) (n1 : 1 ≤ n) (n2 : n ≤ 60) {b : Nat} (hb : b < n) (hg : Nat.gcd b n = 1) : (tbV n (hxE f m n)).getD b 0 * (m : Int) = f b * (tbM (gensV n) : Int) := by
  have hl : (hxE f m n).length = (gensV n).length := by unfold hxE; rw [List.length_map]
  obtain ⟨i0, _, h2, h3, _⟩ := vr_find n1 n2 hb hg
  have fl := lg_of n1 n2
  have hT : (tdg i0 (orN n)).length = (gensV n).length := by rw [tdg_len]; unfold orN; rw [List.length_map]
  have hmem := fdLg_mem _ _ ((fl.un b hb).1 hg)
  have h4 := (ag_of n1 n2 hl).at_ _ hmem
  simp only at h4
  have h5 := dot_sum (M := tbM (gensV n)) (gensV n) (hxE f m n) (tdg i0 (orN n)) [] [] hl.symm hT.symm
  rw [List.append_nil, h3] at h5
  have h6 : dot [] [] = 0 := by simp [dot]
  rw [h6, Int.add_zero] at h5
  rw [h5] at h4
  have h7 := h.yg n1 (gensV n) (tdg i0 (orN n)) (1 % n) hT.symm (fun g hg => ⟨(gu_of n1 n2 g hg).1, (gu_of n1 n2 g hg).2.1⟩) (Nat.mod_lt _ n1) unit_one
  rw [h.one n1, Int.zero_add] at h7
  have h8 : yG n (gensV n) (tdg i0 (orN n)) (1 % n) = b := h2
  rw [h8] at h7
  have h9 := sumG_F (f := f) (m := m) (M := tbM (gensV n)) (gensV n) (tdg i0 (orN n)) hT.symm (fun g hg => ⟨h.exact n1 n2 g hg, (fl.od g.2 (List.mem_reverse.2 (List.mem_map_of_mem hg))).1⟩)
  have h10 : sumG (tbM (gensV n)) (gensV n) (hxE f m n) (tdg i0 (orN n)) * (m : Int) = (tbM (gensV n) : Int) * sumF f (gensV n) (tdg i0 (orN n)) := h9
  have hm := (tbc_le n1 n2).2 (gensV n).length (Nat.le_refl _)
  rw [List.take_length] at hm
  have hm1 := h.m1
  rw [h4, h7]
  generalize tbM (gensV n) = M at *
  generalize sumG M (gensV n) (hxE f m n) (tdg i0 (orN n)) = x at *
  generalize sumF f (gensV n) (tdg i0 (orN n)) = y at *
  rw [Int.mul_comm (x % _), ← Int.mul_emod_mul_of_pos _ _ (show 0 < (m : Int) by omega), Int.mul_comm (m : Int) x, h10, Int.mul_comm (m : Int), Int.mul_emod_mul_of_pos _ _ (show 0 < (M : Int) by omega), Int.mul_comm]
/-- Fractions of the same value are the same root. -/
theorem rou_same {k1 k2 : Int} {m1 m2 : Nat} (h1 : 0 ≤ k1) (h2 : 0 ≤ k2) (p1 : 1 ≤ m1) (p2 : 1 ≤ m2) (h : k1 * (m2 : Int) = k2 * (m1 : Int)) : rouV k1 m1 = rouV k2 m2 := by
  obtain ⟨a, rfl⟩ := Int.eq_ofNat_of_zero_le h1
  obtain ⟨b, rfl⟩ := Int.eq_ofNat_of_zero_le h2
  have h' : a * m2 = b * m1 := by exact_mod_cast h
  have e1 : a / Nat.gcd a m1 = b / Nat.gcd b m2 := by
    rw [← red_scale a m1 m2 p2, ← red_scale b m2 m1 p1, h', Nat.mul_comm m1 m2]
  have e2 : m1 / Nat.gcd a m1 = m2 / Nat.gcd b m2 := by
    rw [Nat.gcd_comm a, Nat.gcd_comm b, ← red_scale m1 a m2 p2, ← red_scale m2 b m1 p1, h', Nat.mul_comm m1 m2]
  unfold rouV
  rw [if_neg (by omega), if_neg (by omega), Int.toNat_natCast, Int.toNat_natCast, e1, e2]
/-- The reference's exponent is the program's. -/
theorem rou_ex {k : Int} {m : Nat} (h0 : 0 ≤ k) (m1 : 1 ≤ m) (o : Nat) : rouN k m * (o : Int) / rouD k m = k * (o : Int) / (m : Int) := by
  obtain ⟨a, rfl⟩ := Int.eq_ofNat_of_zero_le h0
  unfold rouN rouD
  rw [if_neg (by omega), if_neg (by omega), Int.toNat_natCast]
  have hd := Nat.gcd_pos_of_pos_right a (show 0 < m by omega)
  have e1 := Nat.div_mul_cancel (Nat.gcd_dvd_left a m)
  have e2 := Nat.div_mul_cancel (Nat.gcd_dvd_right a m)
  generalize Nat.gcd a m = d at *
  generalize a / d = x at *
  generalize m / d = y at *
  rw [← e1, ← e2]
  show ((x : Int) * (o : Int)) / (y : Int) = (((x * d : Nat) : Int) * (o : Int)) / ((y * d : Nat) : Int)
  rw [Int.natCast_mul, Int.natCast_mul, Int.mul_right_comm, Int.mul_ediv_mul_of_pos_left _ _ (show 0 < (d : Int) by omega)]
/-- The values of a character at the units of a multiple of its modulus. -/
theorem ChT.hom {N n m : Nat} {T : List Int} (h : ChT N m T) (N1 : 1 ≤ N) (hd : n % N = 0) : HomU n m (fun a => T.getD (a % N) 0) := by
  have hdv : N ∣ n := Nat.dvd_of_mod_eq_zero hd
  have hu : ∀ a, Nat.gcd a n = 1 → Nat.gcd (a % N) N = 1 := fun a ha => by
    rw [gcd_modn]; exact Nat.Coprime.coprime_dvd_right hdv ha
  refine ⟨h.m1, fun a _ hg => h.yes _ (Nat.mod_lt _ N1) (hu a hg), fun a b _ _ ha hb => ?_⟩
  show T.getD (a * b % n % N) 0 = _
  rw [Nat.mod_mod_of_dvd _ hdv, Nat.mul_mod]
  exact h.mul _ _ (Nat.mod_lt _ N1) (Nat.mod_lt _ N1) (hu a ha) (hu b hb)
theorem chE_hx {N n m : Nat} {T : List Int} (hl : T.length = N) : chE T m n = hxE (fun a => T.getD (a % N) 0) m n := by
  unfold chE hxE chX; rw [hl]
theorem wiE_hx {N n m : Nat} {T : List Int} (li : Nat → Nat) (m1 : 1 ≤ m) (hp : ∀ k (hk : k < (gensV n).length), 0 ≤ T.getD (((gensV n)[k].1 + li k * n) % N) 0) (f : Nat → Int) (hf : ∀ k (hk : k < (gensV n).length), T.getD (((gensV n)[k].1 + li k * n) % N) 0 = f (gensV n)[k].1) :
    wiE n N T m li = hxE f m n := by
  unfold wiE hxE
  refine List.ext_getElem (by rw [List.length_map, List.length_map, List.length_range]) fun k h1 h2 => ?_
  have hk : k < (gensV n).length := by rwa [List.length_map] at h2
  rw [List.getElem_map, List.getElem_map, List.getElem_range]
  unfold wiX
  rw [getDG _ k hk, rou_ex (hp k hk) m1, hf k hk]
end Go.Proofs.Ytlagljnhbhnelaa
namespace Go.Proofs.Ytlagljnhbhnelaa
open Go.RowKit
set_option linter.unusedVariables false
set_option linter.unusedSimpArgs false

theorem chkV_ok {n : Int} {E : List Int} (h : chkV n E = 0) : ∃ N : Nat, n = (N : Int) ∧ 1 ≤ N ∧ (N : Int) ≤ 60 ∧ ckX N E = 0 := by
  unfold chkV at h
  by_cases h1 : 1 ≤ n ∧ n ≤ 60
  · rw [if_pos h1] at h
    exact ⟨n.toNat, by omega, by omega, by omega, h⟩
  · rw [if_neg h1] at h; cases h
set_option maxHeartbeats 1600000 in
set_option maxRecDepth 1000000 in
theorem dval_far (n : Nat) (E : List Int) (a : Int) (A : Option Addr) (c : Nat) (w : World) (hE : RdZ w w.heap.size A c E) (h : chkV (n : Int) E = 0) (ha : a < -1073741824 ∨ 1073741824 < a) :
    Calls Try.prog 31 #[.agg #[.int .i64 (n : Int), .slice A E.length c], .int .i64 a] w fun e w' => e = .returned (.tuple #[.agg #[.bool false, .int .i64 0, .int .i64 0], .int .i64 2]) ∧ Below w.heap.size w w' := by
  have X0 : Hid (((w.alloc (.cells #[.int .i64 (n : Int), .slice A E.length c] 33)).alloc (.cells #[.bool false, .int .i64 0, .int .i64 0] 48)).heap[w.heap.size]? = some (.cells #[.int .i64 (n : Int), .slice A E.length c] 33 (0, 0))) := block_alloc (heap_alloc_new w _) _
  have R0 : Hid (((w.alloc (.cells #[.int .i64 (n : Int), .slice A E.length c] 33)).alloc (.cells #[.bool false, .int .i64 0, .int .i64 0] 48)).heap[w.heap.size + 1]? = some (.cells #[.bool false, .int .i64 0, .int .i64 0] 48 (0, 0))) := by
    have := heap_alloc_new (w.alloc (.cells #[.int .i64 (n : Int), .slice A E.length c] 33)) (.cells #[.bool false, .int .i64 0, .int .i64 0] 48)
    show _ = _; simpa using this
  have B0 : Hid (Below w.heap.size w ((w.alloc (.cells #[.int .i64 (n : Int), .slice A E.length c] 33)).alloc (.cells #[.bool false, .int .i64 0, .int .i64 0] 48))) := below2 w _ _
  have HCk := Lib.hid (dckv_any (n : Int) E A c ((w.alloc (.cells #[.int .i64 (n : Int), .slice A E.length c] 33)).alloc (.cells #[.bool false, .int .i64 0, .int .i64 0] 48)) ((hE.below B0.out).mono B0.out.size))
  rw [h] at HCk
  obtain ⟨x0, x1, _⟩ := cells_two X0.out
  clear h hE
  rcases ha with ha | ha
  · go_enter Try.func31, Try.ntmps31
    go_wp2_with (first
      | (go_at_call 24; ((with_reducible refine HCk.out.mono ?_); rintro e w1 ⟨rfl, hb⟩; have R1 := Lib.hid (block_below R0.out hb); have B1 := Lib.hid (B0.out.trans (hb.mono B0.out.size)); clear hb x0 x1; obtain ⟨⟨r0, r1, r2⟩, rf⟩ := three_of_blockD R1.out))
      | fail)
    have R6 := Lib.hid (three_setV R1.out (.bool false) (.int .i64 0) (.int .i64 0))
    obtain ⟨⟨s0, s1, s2⟩, sf⟩ := three_of_blockD R6.out
    have HB6 := Lib.hid (((B1.out.setCell (p := ⟨w.heap.size + 1, 0, none⟩) (by show _ ≤ w.heap.size + 1; omega) (.bool false)).setCell (p := ⟨w.heap.size + 1, 1, none⟩) (by show _ ≤ w.heap.size + 1; omega) (.int .i64 0)).setCell (p := ⟨w.heap.size + 1, 2, none⟩) (by show _ ≤ w.heap.size + 1; omega) (.int .i64 0))
    refine bodyPost_ret (v := .tuple #[.agg #[.bool false, .int .i64 0, .int .i64 0], .int .i64 2]) ?_ rfl ⟨rfl, HB6.out⟩
    simp [results, Try.results31, go_sem, s0, s1, s2]
  · have ha2 : ¬ a < -1073741824 := by omega
    go_enter Try.func31, Try.ntmps31
    go_wp2_with (first
      | (go_at_call 24; ((with_reducible refine HCk.out.mono ?_); rintro e w1 ⟨rfl, hb⟩; have R1 := Lib.hid (block_below R0.out hb); have B1 := Lib.hid (B0.out.trans (hb.mono B0.out.size)); clear hb x0 x1; obtain ⟨⟨r0, r1, r2⟩, rf⟩ := three_of_blockD R1.out))
      | fail)
    have R6 := Lib.hid (three_setV R1.out (.bool false) (.int .i64 0) (.int .i64 0))
    obtain ⟨⟨s0, s1, s2⟩, sf⟩ := three_of_blockD R6.out
    have HB6 := Lib.hid (((B1.out.setCell (p := ⟨w.heap.size + 1, 0, none⟩) (by show _ ≤ w.heap.size + 1; omega) (.bool false)).setCell (p := ⟨w.heap.size + 1, 1, none⟩) (by show _ ≤ w.heap.size + 1; omega) (.int .i64 0)).setCell (p := ⟨w.heap.size + 1, 2, none⟩) (by show _ ≤ w.heap.size + 1; omega) (.int .i64 0))
    refine bodyPost_ret (v := .tuple #[.agg #[.bool false, .int .i64 0, .int .i64 0], .int .i64 2]) ?_ rfl ⟨rfl, HB6.out⟩
    simp [results, Try.results31, go_sem, s0, s1, s2]
set_option maxHeartbeats 6400000 in
set_option maxRecDepth 1000000 in
theorem dvl_walk (n : Int) (E : List Int) (a : Int) (w : World) {A : Option Addr} {c : Nat} (hE : RdZ w w.heap.size A c E) (_ : A = none → c = 0) :
    Calls Try.prog 6 #[.agg #[.int .i64 n, .slice A E.length c], .int .i64 a] w fun e w' => e = .returned (.bool true) ∧ Below w.heap.size w w' := by
  have HA := Lib.hid awake28_any
  have hln := hE.len
  have X0 : Hid ((w.alloc (.cells #[.int .i64 n, .slice A E.length c] 33)).heap[w.heap.size]? = some (.cells #[.int .i64 n, .slice A E.length c] 33 (0, 0))) := heap_alloc_new w _
  have B0 : Hid (Below w.heap.size w (w.alloc (.cells #[.int .i64 n, .slice A E.length c] 33))) := below1 w _
  have HE0 : Hid (∀ W, Below w.heap.size w W → RdZ W W.heap.size A c E) := fun W hW => (hE.below hW).mono hW.size
  obtain ⟨x0, x1, _⟩ := cells_two X0.out
  by_cases hl : 100 < E.length
  · have hli : 100 < (E.length : Int) := by omega
    clear hE
    go_enter Try.func6, Try.ntmps6
    go_wp2_with (first
      | (go_at_call 13; ((with_reducible refine (HA.out _).mono ?_); rintro e v1 ⟨rfl, hb⟩; have B1 := Lib.hid (B0.out.trans (hb.mono B0.out.size)); clear hb))
      | fail)
    go_ret
    exact ⟨rfl, B1.out⟩
  have hli : ¬ 100 < (E.length : Int) := by omega
  have HRc := Lib.hid (fun (W : World) (h : RdZ W W.heap.size A c E) => rchk_any n E A c W h)
  have HIn := Lib.hid (fun W => rIn_any a W)
  by_cases hc : chkV n E = 0
  · rw [hc] at HRc
    obtain ⟨N, rfl, N1, N2, hck⟩ := chkV_ok hc
    by_cases ha : a < -1073741824 ∨ 1073741824 < a
    · rw [inE_no ha] at HIn
      have HV := Lib.hid (fun (W : World) (hW : RdZ W W.heap.size A c E) => dval_far N E a A c W hW hc ha)
      clear hc hE ha hck
      go_enter Try.func6, Try.ntmps6
      go_upto_region 6 with (first
        | (go_at_call 13; ((with_reducible refine (HA.out _).mono ?_); rintro e v1 ⟨rfl, hb⟩; have B1 := Lib.hid (B0.out.trans (hb.mono B0.out.size)); have X1 := Lib.hid (block_below X0.out hb); clear x0 x1 hb; obtain ⟨x0, x1, _⟩ := cells_two X1.out))
        | (go_at_call 31; ((with_reducible refine (HV.out _ (HE0.out _ B1.out)).mono ?_); rintro e v3 ⟨rfl, hb⟩; have B3 := Lib.hid (B1.out.trans (hb.mono B1.out.size)); have X3 := Lib.hid (block_below X1.out hb); clear x0 x1 hb))
        | fail)
      have U4 : Hid ((v3.alloc (.cells #[.bool false, .int .i64 0, .int .i64 0] 48)).heap[v3.heap.size]? = some (.cells #[.bool false, .int .i64 0, .int .i64 0] 48 (0, 0))) := heap_alloc_new v3 _
      have B4 : Hid (Below w.heap.size w (v3.alloc (.cells #[.bool false, .int .i64 0, .int .i64 0] 48))) := B3.out.alloc B3.out.size _
      have X4 := Lib.hid (block_alloc X3.out (.cells #[.bool false, .int .i64 0, .int .i64 0] 48))
      generalize v3.alloc (.cells #[.bool false, .int .i64 0, .int .i64 0] 48) = v4 at *
      generalize v3.heap.size = ub at *
      obtain ⟨x0, x1, _⟩ := cells_two X4.out
      go_wp2_with (first
        | (go_at_call 23; ((with_reducible refine (HRc.out _ (HE0.out _ B4.out)).mono ?_); rintro e v5 ⟨rfl, hb⟩; have B5 := Lib.hid (B4.out.trans (hb.mono B4.out.size)); have U5 := Lib.hid (block_below U4.out hb); clear x0 x1 hb; obtain ⟨⟨u0, u1, u2⟩, uf⟩ := three_of_blockD U5.out))
        | (go_at_call 32; ((with_reducible refine (HIn.out _).mono ?_); rintro e v6 ⟨rfl, rfl⟩))
        | fail)
      go_ret
      exact ⟨by first | rfl | simp, B5.out⟩
    · rw [inE_yes (by omega) (by omega)] at HIn
      have HV := Lib.hid (fun (W : World) (hW : RdZ W W.heap.size A c E) => dval_any N E a A c W N1 N2 hW hck (by omega) (by omega))
      have HR := Lib.hid (fun (W : World) (hW : RdZ W W.heap.size A c E) => rval_any N E a A c W N1 N2 hW hck (by omega) (by omega))
      rw [rou_eq] at HV HR
      clear hc hE ha hck
      generalize (tbV N E).getD (a % (N : Int)).toNat 0 = k at *
      generalize tbM (gensV N) = m at *
      generalize decide (k = -1) = z at *
      generalize rouN k m = x at *
      generalize rouD k m = y at *
      go_enter Try.func6, Try.ntmps6
      go_upto_region 6 with (first
        | (go_at_call 13; ((with_reducible refine (HA.out _).mono ?_); rintro e v1 ⟨rfl, hb⟩; have B1 := Lib.hid (B0.out.trans (hb.mono B0.out.size)); have X1 := Lib.hid (block_below X0.out hb); clear x0 x1 hb; obtain ⟨x0, x1, _⟩ := cells_two X1.out))
        | (go_at_call 31; ((with_reducible refine (HV.out _ (HE0.out _ B1.out)).mono ?_); rintro e v3 ⟨rfl, hb⟩; have B3 := Lib.hid (B1.out.trans (hb.mono B1.out.size)); have X3 := Lib.hid (block_below X1.out hb); clear x0 x1 hb))
        | fail)
      have U4 : Hid ((v3.alloc (.cells #[.bool z, .int .i64 x, .int .i64 y] 48)).heap[v3.heap.size]? = some (.cells #[.bool z, .int .i64 x, .int .i64 y] 48 (0, 0))) := heap_alloc_new v3 _
      have B4 : Hid (Below w.heap.size w (v3.alloc (.cells #[.bool z, .int .i64 x, .int .i64 y] 48))) := B3.out.alloc B3.out.size _
      have X4 := Lib.hid (block_alloc X3.out (.cells #[.bool z, .int .i64 x, .int .i64 y] 48))
      generalize v3.alloc (.cells #[.bool z, .int .i64 x, .int .i64 y] 48) = v4 at *
      generalize v3.heap.size = ub at *
      obtain ⟨x0, x1, _⟩ := cells_two X4.out
      go_upto_region 11 with (first
        | (go_at_call 23; ((with_reducible refine (HRc.out _ (HE0.out _ B4.out)).mono ?_); rintro e v5 ⟨rfl, hb⟩; have B5 := Lib.hid (B4.out.trans (hb.mono B4.out.size)); have U5 := Lib.hid (block_below U4.out hb); have X5 := Lib.hid (block_below X4.out hb); clear x0 x1 hb; obtain ⟨x0, x1, _⟩ := cells_two X5.out))
        | (go_at_call 32; ((with_reducible refine (HIn.out _).mono ?_); rintro e v6 ⟨rfl, rfl⟩))
        | fail)
      have D5 : Hid (Below v5.heap.size v5 v5.drew) := Below.drew (Below.refl _ _)
      have HKc : Hid (∀ W, Below v5.heap.size v5 W → (W.cell? ⟨ub, 0, none⟩ = some (.bool z) ∧ W.cell? ⟨ub, 1, none⟩ = some (.int .i64 x) ∧ W.cell? ⟨ub, 2, none⟩ = some (.int .i64 y)) ∧ (W.cell? ⟨w.heap.size, 0, none⟩ = some (.int .i64 (N : Int)) ∧ W.cell? ⟨w.heap.size, 1, none⟩ = some (.slice A E.length c))) := fun W hW =>
        ⟨(three_of_blockD (block_below U5.out hW)).1, (cells_two (block_below X5.out hW)).1, (cells_two (block_below X5.out hW)).2.1⟩
      clear x0 x1
      go_region_held3 (fun W => (W.cell? ⟨ub, 0, none⟩ = some (.bool z) ∧ W.cell? ⟨ub, 1, none⟩ = some (.int .i64 x) ∧ W.cell? ⟨ub, 2, none⟩ = some (.int .i64 y)) ∧ (W.cell? ⟨w.heap.size, 0, none⟩ = some (.int .i64 (N : Int)) ∧ W.cell? ⟨w.heap.size, 1, none⟩ = some (.slice A E.length c)))
        (with_reducible first | exact HKc.out _ D7.out | exact HKc.out _ D5.out | fail)
        (first
          | (go_at_call 33; ((with_reducible refine (HR.out _ (HE0.out _ (B5.out.trans (D5.out.mono B5.out.size)))).mono ?_); rintro e v7 ⟨rfl, hb⟩; have D7 := Lib.hid (D5.out.trans (hb.mono D5.out.size)); clear hb))
          | fail)
      have HBf := Lib.hid (B5.out.trans (D7.out.mono B5.out.size))
      go_wp2
      go_ret
      exact ⟨by first | rfl | simp, HBf.out⟩
  · have HV := Lib.hid (fun (W : World) (hW : RdZ W W.heap.size A c E) => dval_bad n E a A c W hW hc)
    have hk0 : (chkV n E != 0) = true := by rw [bne_iff_ne]; exact hc
    clear hc hE
    generalize chkV n E = K at *
    go_enter Try.func6, Try.ntmps6
    go_upto_region 6 with (first
      | (go_at_call 13; ((with_reducible refine (HA.out _).mono ?_); rintro e v1 ⟨rfl, hb⟩; have B1 := Lib.hid (B0.out.trans (hb.mono B0.out.size)); have X1 := Lib.hid (block_below X0.out hb); clear x0 x1 hb; obtain ⟨x0, x1, _⟩ := cells_two X1.out))
      | (go_at_call 31; ((with_reducible refine (HV.out _ (HE0.out _ B1.out)).mono ?_); rintro e v3 ⟨rfl, hb⟩; have B3 := Lib.hid (B1.out.trans (hb.mono B1.out.size)); have X3 := Lib.hid (block_below X1.out hb); clear x0 x1 hb))
      | fail)
    have U4 : Hid ((v3.alloc (.cells #[.bool false, .int .i64 0, .int .i64 0] 48)).heap[v3.heap.size]? = some (.cells #[.bool false, .int .i64 0, .int .i64 0] 48 (0, 0))) := heap_alloc_new v3 _
    have B4 : Hid (Below w.heap.size w (v3.alloc (.cells #[.bool false, .int .i64 0, .int .i64 0] 48))) := B3.out.alloc B3.out.size _
    have X4 := Lib.hid (block_alloc X3.out (.cells #[.bool false, .int .i64 0, .int .i64 0] 48))
    generalize v3.alloc (.cells #[.bool false, .int .i64 0, .int .i64 0] 48) = v4 at *
    generalize v3.heap.size = ub at *
    obtain ⟨x0, x1, _⟩ := cells_two X4.out
    go_wp2_with (first
      | (go_at_call 23; ((with_reducible refine (HRc.out _ (HE0.out _ B4.out)).mono ?_); rintro e v5 ⟨rfl, hb⟩; have B5 := Lib.hid (B4.out.trans (hb.mono B4.out.size)); have U5 := Lib.hid (block_below U4.out hb); clear x0 x1 hb; obtain ⟨⟨u0, u1, u2⟩, uf⟩ := three_of_blockD U5.out))
      | fail)
    go_ret
    exact ⟨by first | rfl | simp, B5.out⟩
end Go.Proofs.Ytlagljnhbhnelaa
namespace Go.Proofs.Ytlagljnhbhnelaa
open Go.RowKit
set_option linter.unusedVariables false
set_option linter.unusedSimpArgs false

set_option maxHeartbeats 1600000 in
set_option maxRecDepth 1000000 in
theorem ext_bad1 (n : Int) (E : List Int) (k : Int) (A : Option Addr) (c : Nat) (w : World) (hE : RdZ w w.heap.size A c E) (h : chkV n E ≠ 0) :
    Calls Try.prog 41 #[.agg #[.int .i64 n, .slice A E.length c], .int .i64 k] w fun e w' => e = .returned (.tuple #[.agg #[.int .i64 0, .slice none 0 0], .int .i64 (chkV n E)]) ∧ Below w.heap.size w w' := by
  have X0 : Hid (((w.alloc (.cells #[.int .i64 n, .slice A E.length c] 33)).alloc (.cells #[.int .i64 0, .slice none 0 0] 33)).heap[w.heap.size]? = some (.cells #[.int .i64 n, .slice A E.length c] 33 (0, 0))) := block_alloc (heap_alloc_new w _) _
  have R0 : Hid (((w.alloc (.cells #[.int .i64 n, .slice A E.length c] 33)).alloc (.cells #[.int .i64 0, .slice none 0 0] 33)).heap[w.heap.size + 1]? = some (.cells #[.int .i64 0, .slice none 0 0] 33 (0, 0))) := by
    have := heap_alloc_new (w.alloc (.cells #[.int .i64 n, .slice A E.length c] 33)) (.cells #[.int .i64 0, .slice none 0 0] 33)
    show _ = _; simpa using this
  have B0 : Hid (Below w.heap.size w ((w.alloc (.cells #[.int .i64 n, .slice A E.length c] 33)).alloc (.cells #[.int .i64 0, .slice none 0 0] 33))) := below2 w _ _
  have HCk := Lib.hid (dckv_any n E A c ((w.alloc (.cells #[.int .i64 n, .slice A E.length c] 33)).alloc (.cells #[.int .i64 0, .slice none 0 0] 33)) ((hE.below B0.out).mono B0.out.size))
  obtain ⟨x0, x1, _⟩ := cells_two X0.out
  have hk : (chkV n E != 0) = true := by rw [bne_iff_ne]; exact h
  clear hE h
  generalize chkV n E = K at *
  go_enter Try.func41, Try.ntmps41
  go_wp2_with (first
    | (go_at_call 24; ((with_reducible refine HCk.out.mono ?_); rintro e w1 ⟨rfl, hb⟩; have X1 := Lib.hid (block_below X0.out hb); have R1 := Lib.hid (block_below R0.out hb); have B1 := Lib.hid (B0.out.trans (hb.mono B0.out.size)); clear hb x0 x1; obtain ⟨x0, x1, _⟩ := cells_two X1.out; obtain ⟨r0, r1, rf⟩ := cells_two R1.out))
    | fail)
  have R6 := Lib.hid (two_setC R1.out (.int .i64 0) (.slice none 0 0))
  obtain ⟨s0, s1, sf⟩ := cells_two R6.out
  have HB6 := Lib.hid ((B1.out.setCell (p := ⟨w.heap.size + 1, 0, none⟩) (by show _ ≤ w.heap.size + 1; omega) (.int .i64 0)).setCell (p := ⟨w.heap.size + 1, 1, none⟩) (by show _ ≤ w.heap.size + 1; omega) (.slice none 0 0))
  refine bodyPost_ret (v := .tuple #[.agg #[.int .i64 0, .slice none 0 0], .int .i64 K]) ?_ rfl ⟨rfl, HB6.out⟩
  simp [results, Try.results41, go_sem, s0, s1]
set_option maxHeartbeats 1600000 in
set_option maxRecDepth 1000000 in
theorem ext_bad2 (n : Nat) (E : List Int) (k : Int) (A : Option Addr) (c : Nat) (w : World) (hE : RdZ w w.heap.size A c E) (h : chkV (n : Int) E = 0) (hm : ¬ (1 ≤ k ∧ k ≤ 60)) :
    Calls Try.prog 41 #[.agg #[.int .i64 (n : Int), .slice A E.length c], .int .i64 k] w fun e w' => e = .returned (.tuple #[.agg #[.int .i64 0, .slice none 0 0], .int .i64 2]) ∧ Below w.heap.size w w' := by
  have X0 : Hid (((w.alloc (.cells #[.int .i64 (n : Int), .slice A E.length c] 33)).alloc (.cells #[.int .i64 0, .slice none 0 0] 33)).heap[w.heap.size]? = some (.cells #[.int .i64 (n : Int), .slice A E.length c] 33 (0, 0))) := block_alloc (heap_alloc_new w _) _
  have R0 : Hid (((w.alloc (.cells #[.int .i64 (n : Int), .slice A E.length c] 33)).alloc (.cells #[.int .i64 0, .slice none 0 0] 33)).heap[w.heap.size + 1]? = some (.cells #[.int .i64 0, .slice none 0 0] 33 (0, 0))) := by
    have := heap_alloc_new (w.alloc (.cells #[.int .i64 (n : Int), .slice A E.length c] 33)) (.cells #[.int .i64 0, .slice none 0 0] 33)
    show _ = _; simpa using this
  have B0 : Hid (Below w.heap.size w ((w.alloc (.cells #[.int .i64 (n : Int), .slice A E.length c] 33)).alloc (.cells #[.int .i64 0, .slice none 0 0] 33))) := below2 w _ _
  have HCk := Lib.hid (dckv_any (n : Int) E A c ((w.alloc (.cells #[.int .i64 (n : Int), .slice A E.length c] 33)).alloc (.cells #[.int .i64 0, .slice none 0 0] 33)) ((hE.below B0.out).mono B0.out.size))
  obtain ⟨x0, x1, _⟩ := cells_two X0.out
  rw [h] at HCk
  have HM := Lib.hid (fun W => ismod_any k W)
  rw [decide_eq_false hm] at HM
  clear hE h hm
  go_enter Try.func41, Try.ntmps41
  go_wp2_with (first
    | (go_at_call 24; ((with_reducible refine HCk.out.mono ?_); rintro e w1 ⟨rfl, hb⟩; have X1 := Lib.hid (block_below X0.out hb); have R1 := Lib.hid (block_below R0.out hb); have B1 := Lib.hid (B0.out.trans (hb.mono B0.out.size)); clear hb x0 x1; obtain ⟨x0, x1, _⟩ := cells_two X1.out; obtain ⟨r0, r1, rf⟩ := cells_two R1.out))
    | (go_at_call 46; ((with_reducible refine (HM.out _).mono ?_); rintro e w2 ⟨rfl, rfl⟩))
    | fail)
  have R6 := Lib.hid (two_setC R1.out (.int .i64 0) (.slice none 0 0))
  obtain ⟨s0, s1, sf⟩ := cells_two R6.out
  have HB6 := Lib.hid ((B1.out.setCell (p := ⟨w.heap.size + 1, 0, none⟩) (by show _ ≤ w.heap.size + 1; omega) (.int .i64 0)).setCell (p := ⟨w.heap.size + 1, 1, none⟩) (by show _ ≤ w.heap.size + 1; omega) (.slice none 0 0))
  refine bodyPost_ret (v := .tuple #[.agg #[.int .i64 0, .slice none 0 0], .int .i64 2]) ?_ rfl ⟨rfl, HB6.out⟩
  simp [results, Try.results41, go_sem, s0, s1]
set_option maxHeartbeats 1600000 in
set_option maxRecDepth 1000000 in
theorem ext_bad3 (n : Nat) (E : List Int) (k : Int) (A : Option Addr) (c : Nat) (w : World) (hE : RdZ w w.heap.size A c E) (h : chkV (n : Int) E = 0) (N1 : 1 ≤ n) (N2 : (n : Int) ≤ 60) (hm : 1 ≤ k ∧ k ≤ 60) (hd : k % (n : Int) ≠ 0) :
    Calls Try.prog 41 #[.agg #[.int .i64 (n : Int), .slice A E.length c], .int .i64 k] w fun e w' => e = .returned (.tuple #[.agg #[.int .i64 0, .slice none 0 0], .int .i64 14]) ∧ Below w.heap.size w w' := by
  have X0 : Hid (((w.alloc (.cells #[.int .i64 (n : Int), .slice A E.length c] 33)).alloc (.cells #[.int .i64 0, .slice none 0 0] 33)).heap[w.heap.size]? = some (.cells #[.int .i64 (n : Int), .slice A E.length c] 33 (0, 0))) := block_alloc (heap_alloc_new w _) _
  have R0 : Hid (((w.alloc (.cells #[.int .i64 (n : Int), .slice A E.length c] 33)).alloc (.cells #[.int .i64 0, .slice none 0 0] 33)).heap[w.heap.size + 1]? = some (.cells #[.int .i64 0, .slice none 0 0] 33 (0, 0))) := by
    have := heap_alloc_new (w.alloc (.cells #[.int .i64 (n : Int), .slice A E.length c] 33)) (.cells #[.int .i64 0, .slice none 0 0] 33)
    show _ = _; simpa using this
  have B0 : Hid (Below w.heap.size w ((w.alloc (.cells #[.int .i64 (n : Int), .slice A E.length c] 33)).alloc (.cells #[.int .i64 0, .slice none 0 0] 33))) := below2 w _ _
  have HCk := Lib.hid (dckv_any (n : Int) E A c ((w.alloc (.cells #[.int .i64 (n : Int), .slice A E.length c] 33)).alloc (.cells #[.int .i64 0, .slice none 0 0] 33)) ((hE.below B0.out).mono B0.out.size))
  obtain ⟨x0, x1, _⟩ := cells_two X0.out
  rw [h] at HCk
  have HM := Lib.hid (fun W => ismod_any k W)
  rw [decide_eq_true hm] at HM
  have N0 : (((n : Nat) : Int) == 0) = false := by rw [beq_eq_false_iff_ne]; omega
  have N0' : ¬ ((n : Int) = 0) := by omega
  have N0'' : ¬ (n = 0) := by omega
  have hz0 := Int.emod_nonneg k N0'
  have hz1 := Int.emod_lt_of_pos k (show 0 < (n : Int) by omega)
  have htm : Int.tmod k (n : Int) = k % (n : Int) := Int.tmod_eq_emod_of_nonneg (by omega)
  have hne : (k % (n : Int) != 0) = true := by rw [bne_iff_ne]; exact hd
  generalize k % (n : Int) = z at *
  have hwz : IntKind.i64.wrap z = z := IntWalk.i64_in _ (by omega)
  clear hE h hd
  go_enter Try.func41, Try.ntmps41
  go_wp2_with (first
    | (go_at_call 24; ((with_reducible refine HCk.out.mono ?_); rintro e w1 ⟨rfl, hb⟩; have X1 := Lib.hid (block_below X0.out hb); have R1 := Lib.hid (block_below R0.out hb); have B1 := Lib.hid (B0.out.trans (hb.mono B0.out.size)); clear hb x0 x1; obtain ⟨x0, x1, _⟩ := cells_two X1.out; obtain ⟨r0, r1, rf⟩ := cells_two R1.out))
    | (go_at_call 46; ((with_reducible refine (HM.out _).mono ?_); rintro e w2 ⟨rfl, rfl⟩))
    | fail)
  have R6 := Lib.hid (two_setC R1.out (.int .i64 0) (.slice none 0 0))
  obtain ⟨s0, s1, sf⟩ := cells_two R6.out
  have HB6 := Lib.hid ((B1.out.setCell (p := ⟨w.heap.size + 1, 0, none⟩) (by show _ ≤ w.heap.size + 1; omega) (.int .i64 0)).setCell (p := ⟨w.heap.size + 1, 1, none⟩) (by show _ ≤ w.heap.size + 1; omega) (.slice none 0 0))
  refine bodyPost_ret (v := .tuple #[.agg #[.int .i64 0, .slice none 0 0], .int .i64 14]) ?_ rfl ⟨rfl, HB6.out⟩
  simp [results, Try.results41, go_sem, s0, s1]
set_option maxHeartbeats 6400000 in
set_option maxRecDepth 1000000 in
theorem lex_walk (n : Int) (E : List Int) (k : Int) (a : Int) (w : World) {A : Option Addr} {c : Nat} (hE : RdZ w w.heap.size A c E) (_ : A = none → c = 0) (ha : -32768 ≤ a ∧ a ≤ 32767) :
    Calls Try.prog 10 #[.agg #[.int .i64 n, .slice A E.length c], .int .i64 k, .int .i16 a] w fun e w' => e = .returned (.bool true) ∧ Below w.heap.size w w' := by
  have HA := Lib.hid awake28_any
  have hln := hE.len
  have X0 : Hid ((w.alloc (.cells #[.int .i64 n, .slice A E.length c] 33)).heap[w.heap.size]? = some (.cells #[.int .i64 n, .slice A E.length c] 33 (0, 0))) := heap_alloc_new w _
  have B0 : Hid (Below w.heap.size w (w.alloc (.cells #[.int .i64 n, .slice A E.length c] 33))) := below1 w _
  have HE0 : Hid (∀ W, Below w.heap.size w W → RdZ W W.heap.size A c E) := fun W hW => (hE.below hW).mono hW.size
  obtain ⟨x0, x1, _⟩ := cells_two X0.out
  by_cases hl : 100 < E.length
  · have hli : 100 < (E.length : Int) := by omega
    clear hE
    go_enter Try.func10, Try.ntmps10
    go_wp2_with (first
      | (go_at_call 13; ((with_reducible refine (HA.out _).mono ?_); rintro e v1 ⟨rfl, hb⟩; have B1 := Lib.hid (B0.out.trans (hb.mono B0.out.size)); clear hb))
      | fail)
    go_ret
    exact ⟨rfl, B1.out⟩
  have hli : ¬ 100 < (E.length : Int) := by omega
  have HRc := Lib.hid (fun (W : World) (h : RdZ W W.heap.size A c E) => rchk_any n E A c W h)
  have HS0 : Hid (∀ W : World, Calls Try.prog 30 #[.agg #[.int .i64 0, .slice none 0 0], .agg #[.int .i64 0, .slice none 0 0]] W fun e w' => e = .returned (.bool true) ∧ Below W.heap.size W w') := fun W => csame_any 0 [] none none 0 0 0 0 W (rdz_nil W 0) (rdz_nil W 0) (Nat.zero_le _) (Nat.zero_le _)
  have HMo := Lib.hid (fun W => rmodu_any k W)
  by_cases hc : chkV n E = 0
  · rw [hc] at HRc
    obtain ⟨N, rfl, N1, N2, hck⟩ := chkV_ok hc
    by_cases hm : 1 ≤ k ∧ k ≤ 60
    · rw [if_pos hm] at HMo
      obtain ⟨K, rfl⟩ := Int.eq_ofNat_of_zero_le (show 0 ≤ k by omega)
      have N0 : ((N : Int) == 0) = false := by rw [beq_eq_false_iff_ne]; omega
      have N0' : ¬ ((N : Int) = 0) := by omega
      have N0'' : ¬ (N = 0) := by omega
      by_cases hd : (K : Int) % (N : Int) = 0
      · have hdn : K % N = 0 := by have h9 := Int.natCast_emod K N; rw [hd] at h9; exact_mod_cast h9
        have K1 : 1 ≤ K := by omega
        have K2 : (K : Int) ≤ 60 := hm.2
        have hct := cht_of N1 (show N ≤ 60 by omega) (ck_ok hck).1
        have hom := hct.hom N1 hdn
        have hM := (tbc_le N1 (show N ≤ 60 by omega)).2 (gensV N).length (Nat.le_refl _)
        rw [List.take_length] at hM
        have hM2 := (tbc_le K1 (show K ≤ 60 by omega)).2 (gensV K).length (Nat.le_refl _)
        rw [List.take_length] at hM2
        have hdv : N ∣ K := Nat.dvd_of_mod_eq_zero hdn
        have hun : ∀ g ∈ gensV K, Nat.gcd g.1 N = 1 := fun g hg => Nat.Coprime.coprime_dvd_right hdv (gu_of K1 (show K ≤ 60 by omega) g hg).2.1
        have hpos : ∀ g ∈ gensV K, 0 ≤ (tbV N E).getD (g.1 % N) 0 := fun g hg => (hct.yes _ (Nat.mod_lt _ N1) (by rw [gcd_modn]; exact hun g hg)).1
        have hL1 := chE_hx (N := N) (n := K) (m := tbM (gensV N)) (T := tbV N E) hct.len
        have hL2 := wiE_hx (N := N) (n := K) (m := tbM (gensV N)) (T := tbV N E) (fun _ => 0) hM.1 (fun k hk => by simp only [Nat.zero_mul, Nat.add_zero]; exact hpos _ (List.getElem_mem hk)) (fun a => (tbV N E).getD (a % N) 0) (fun k hk => by simp only [Nat.zero_mul, Nat.add_zero])
        have hL := hL2.trans hL1.symm
        have hck2 : ckX K (chE (tbV N E) (tbM (gensV N)) K) = 0 := by rw [hL1]; exact hom.ck K1 (show K ≤ 60 by omega)
        have hct2 := cht_of K1 (show K ≤ 60 by omega) (ck_ok hck2).1
        have HX : Hid (∀ W : World, RdZ W W.heap.size A c E → Calls Try.prog 41 #[.agg #[.int .i64 (N : Int), .slice A E.length c], .int .i64 (K : Int)] W fun e w' => ∃ A5 c5, e = .returned (.tuple #[.agg #[.int .i64 (K : Int), .slice A5 (chE (tbV N E) (tbM (gensV N)) K).length c5], .int .i64 0]) ∧ RdZ w' w'.heap.size A5 c5 (chE (tbV N E) (tbM (gensV N)) K) ∧ Below W.heap.size W w') := fun W hW => by
          refine (ext_any N K E A c W N1 N2 K1 K2 hW hck hdn hpos).mono fun e w' ⟨v, he, ho, hb⟩ => ?_
          obtain ⟨A5, c5, rfl, hr⟩ := own_rdz ho
          exact ⟨A5, c5, he, hr, hb⟩
        have HW : Hid (∀ W : World, RdZ W W.heap.size A c E → Calls Try.prog 42 #[.int .i64 (K : Int), .agg #[.int .i64 (N : Int), .slice A E.length c]] W fun e w' => ∃ A5 c5, e = .returned (.agg #[.int .i64 (K : Int), .slice A5 (chE (tbV N E) (tbM (gensV N)) K).length c5]) ∧ RdZ w' w'.heap.size A5 c5 (chE (tbV N E) (tbM (gensV N)) K) ∧ Below W.heap.size W w') := fun W hW => by
          refine (rwith_any K N E (fun _ => 0) A c W K1 K2 N1 N2 hW hck (fun k hk => ⟨Nat.zero_le _, by simp only [Nat.zero_mul, Nat.add_zero]; exact hun _ (List.getElem_mem hk), fun i hi => absurd hi (Nat.not_lt_zero i)⟩)).mono fun e w' ⟨v, he, ho, hb⟩ => ?_
          rw [hL] at ho
          obtain ⟨A5, c5, rfl, hr⟩ := own_rdz ho
          exact ⟨A5, c5, he, hr, hb⟩
        have HSm := Lib.hid (fun (A1 A2 : Option Addr) (c1 c2 B1 B2 : Nat) (W : World) h1 h2 h3 h4 => csame_any (K : Int) (chE (tbV N E) (tbM (gensV N)) K) A1 A2 c1 c2 B1 B2 W h1 h2 h3 h4)
        have HVx := Lib.hid (fun (W : World) (hW : RdZ W W.heap.size A c E) => dval_any N E a A c W N1 N2 hW hck (by omega) (by omega))
        have HVy := Lib.hid (fun (A5 : Option Addr) (c5 : Nat) (W : World) (hW : RdZ W W.heap.size A5 c5 (chE (tbV N E) (tbM (gensV N)) K)) => dval_any K _ a A5 c5 W K1 K2 hW hck2 (by omega) (by omega))
        have htm : Int.tmod (K : Int) (N : Int) = 0 := by rw [Int.tmod_eq_emod_of_nonneg (by omega)]; exact hd
        have hwa : IntKind.i64.wrap a = a := IntWalk.i64_in _ (by omega)
        have hb0 := Int.emod_nonneg a (show (K : Int) ≠ 0 by omega)
        have hb1 := Int.emod_lt_of_pos a (show 0 < (K : Int) by omega)
        have hbK : (a % (K : Int)).toNat < K := by omega
        have hbN : (a % (N : Int)).toNat = (a % (K : Int)).toNat % N := by
          have h9 : (((a % (K : Int)).toNat % N : Nat) : Int) = a % (N : Int) := by
            rw [Int.natCast_emod, Int.toNat_of_nonneg hb0, Int.emod_emod_of_dvd _ (Int.natCast_dvd_natCast.2 hdv)]
          omega
        have HG := Lib.hid (fun W => rGcd_any a (K : Int) W (by unfold Mid; omega) (by unfold Mid; omega))
        rw [gcd_red a K1] at HG
        have hkey : rouV ((tbV N E).getD (a % (N : Int)).toNat 0) (tbM (gensV N)) = rouV ((tbV K (chE (tbV N E) (tbM (gensV N)) K)).getD (a % (K : Int)).toNat 0) (tbM (gensV K)) ∨
            ((tbV N E).getD (a % (N : Int)).toNat 0 ≠ -1 ∧ (tbV K (chE (tbV N E) (tbM (gensV N)) K)).getD (a % (K : Int)).toNat 0 = -1 ∧ Nat.gcd (a % (K : Int)).toNat K ≠ 1) := by
          by_cases hg : Nat.gcd (a % (K : Int)).toNat K = 1
          · refine Or.inl (rou_same ?_ (hct2.yes _ hbK hg).1 hM.1 hM2.1 ?_)
            · rw [hbN]; exact (hom.rng _ hbK hg).1
            · have h9 := hom.val K1 (show K ≤ 60 by omega) hbK hg
              rw [← hL1] at h9
              rw [hbN]; exact h9.symm
          · have h9 := hct2.no _ hbK hg
            by_cases hT : (tbV N E).getD (a % (N : Int)).toNat 0 = -1
            · refine Or.inl ?_
              rw [h9, hT]; unfold rouV; rw [if_pos rfl, if_pos rfl]
            · exact Or.inr ⟨hT, h9, hg⟩
        clear hE hck hck2 hct hct2 hom hun hpos hL1 hL2 hL hbN hbK hb0 hb1 hc hd hdv
        rcases hkey with hkey | ⟨hk1, hk2, hk3⟩
        · rw [← hkey, rou_eq] at HVy
          rw [rou_eq] at HVx
          clear hkey HG
          generalize chE (tbV N E) (tbM (gensV N)) K = LL at *
          generalize decide ((tbV N E).getD (a % (N : Int)).toNat 0 = -1) = z at *
          generalize rouN ((tbV N E).getD (a % (N : Int)).toNat 0) (tbM (gensV N)) = x at *
          generalize rouD ((tbV N E).getD (a % (N : Int)).toNat 0) (tbM (gensV N)) = y at *
          go_enter Try.func10, Try.ntmps10
          go_upto_region 6 with (first
            | (go_at_call 13; ((with_reducible refine (HA.out _).mono ?_); rintro e v1 ⟨rfl, hb⟩; have B1 := Lib.hid (B0.out.trans (hb.mono B0.out.size)); have X1 := Lib.hid (block_below X0.out hb); clear x0 x1 hb; obtain ⟨x0, x1, _⟩ := cells_two X1.out))
            | (go_at_call 41; ((with_reducible refine (HX.out _ (HE0.out _ B1.out)).mono ?_); rintro e v2 ⟨A5, c5, rfl, hr5, hb⟩; have B2 := Lib.hid (B1.out.trans (hb.mono B1.out.size)); have X2 := Lib.hid (block_below X1.out hb); have P2 := Lib.hid hr5; clear x0 x1 hb hr5))
            | fail)
          have M3 := Lib.hid (heap_alloc_new v2 (.cells #[.int .i64 (K : Int), .slice A5 LL.length c5] 33))
          have X3 := Lib.hid (block_alloc X2.out (.cells #[.int .i64 (K : Int), .slice A5 LL.length c5] 33))
          have B3 : Hid (Below w.heap.size w (v2.alloc (.cells #[.int .i64 (K : Int), .slice A5 LL.length c5] 33))) := B2.out.alloc B2.out.size _
          have P3 := Lib.hid ((P2.out.below (below1 v2 (.cells #[.int .i64 (K : Int), .slice A5 LL.length c5] 33))).mono (below1 v2 (.cells #[.int .i64 (K : Int), .slice A5 LL.length c5] 33)).size)
          generalize v2.alloc (.cells #[.int .i64 (K : Int), .slice A5 LL.length c5] 33) = v3 at *
          generalize v2.heap.size = mb at *
          obtain ⟨x0, x1, _⟩ := cells_two X3.out
          go_upto_region 13 with (first
            | (go_at_call 23; ((with_reducible refine (HRc.out _ (HE0.out _ B3.out)).mono ?_); rintro e v4 ⟨rfl, hb⟩; have B4 := Lib.hid (B3.out.trans (hb.mono B3.out.size)); have M4 := Lib.hid (block_below M3.out hb); have X4 := Lib.hid (block_below X3.out hb); have P4 := Lib.hid ((P3.out.below hb).mono hb.size); clear x0 x1 hb; obtain ⟨x0, x1, _⟩ := cells_two X4.out))
            | (go_at_call 15; ((with_reducible refine (HMo.out _).mono ?_); rintro e w5 ⟨rfl, rfl⟩))
            | fail)
          have HKc : Hid (∀ W, Below v4.heap.size v4 W → W.cell? ⟨mb, 0, none⟩ = some (.int .i64 (K : Int)) ∧ W.cell? ⟨mb, 1, none⟩ = some (.slice A5 LL.length c5) ∧ W.cell? ⟨w.heap.size, 0, none⟩ = some (.int .i64 (N : Int)) ∧ W.cell? ⟨w.heap.size, 1, none⟩ = some (.slice A E.length c)) := fun W hW => ⟨(cells_two (block_below M4.out hW)).1, (cells_two (block_below M4.out hW)).2.1, (cells_two (block_below X4.out hW)).1, (cells_two (block_below X4.out hW)).2.1⟩
          have D4 : Hid (Below v4.heap.size v4 v4.drew) := Below.drew (Below.refl _ _)
          clear x0 x1
          go_region_held3 (fun W => W.cell? ⟨mb, 0, none⟩ = some (.int .i64 (K : Int)) ∧ W.cell? ⟨mb, 1, none⟩ = some (.slice A5 LL.length c5) ∧ W.cell? ⟨w.heap.size, 0, none⟩ = some (.int .i64 (N : Int)) ∧ W.cell? ⟨w.heap.size, 1, none⟩ = some (.slice A E.length c))
            (with_reducible first | exact HKc.out _ D6.out | exact HKc.out _ D5.out | exact HKc.out _ D4.out | fail)
            (first
              | (go_at_call 42; ((with_reducible refine (HW.out _ (HE0.out _ (B4.out.trans (D4.out.mono B4.out.size)))).mono ?_); rintro e v5 ⟨A6, c6, rfl, hr6, hb⟩; have D5 := Lib.hid (D4.out.trans (hb.mono D4.out.size)); have P5 := Lib.hid hr6; clear hr6 hb))
              | (go_at_call 30; ((with_reducible refine (HSm.out _ _ _ _ _ _ _ ((P4.out.below D5.out).mono D5.out.size) P5.out (Nat.le_refl _) (Nat.le_refl _)).mono ?_); rintro e v6 ⟨rfl, hb⟩; have D6 := Lib.hid (D5.out.trans (hb.mono D5.out.size)); clear hb))
              | fail)
          have B6 := Lib.hid (B4.out.trans (D6.out.mono B4.out.size))
          have X6 := Lib.hid (block_below X4.out D6.out)
          have M6 := Lib.hid (block_below M4.out D6.out)
          have P6 := Lib.hid ((P4.out.below D6.out).mono D6.out.size)
          clear HKc
          obtain ⟨x0, x1, _⟩ := cells_two X6.out
          obtain ⟨m0, m1', _⟩ := cells_two M6.out
          go_upto_region 16 with (first
            | (go_at_call 31; ((with_reducible refine (HVx.out _ (HE0.out _ B6.out)).mono ?_); rintro e v7 ⟨rfl, hb⟩; have B7 := Lib.hid (B6.out.trans (hb.mono B6.out.size)); have M7 := Lib.hid (block_below M6.out hb); have P7 := Lib.hid ((P6.out.below hb).mono hb.size); clear x0 x1 m0 m1' hb))
            | fail)
          have U8 := Lib.hid (heap_alloc_new v7 (.cells #[.bool z, .int .i64 x, .int .i64 y] 48))
          have M8 := Lib.hid (block_alloc M7.out (.cells #[.bool z, .int .i64 x, .int .i64 y] 48))
          have B8 : Hid (Below w.heap.size w (v7.alloc (.cells #[.bool z, .int .i64 x, .int .i64 y] 48))) := B7.out.alloc B7.out.size _
          have P8 := Lib.hid ((P7.out.below (below1 v7 (.cells #[.bool z, .int .i64 x, .int .i64 y] 48))).mono (below1 v7 (.cells #[.bool z, .int .i64 x, .int .i64 y] 48)).size)
          generalize v7.alloc (.cells #[.bool z, .int .i64 x, .int .i64 y] 48) = v8 at *
          generalize v7.heap.size = ub at *
          obtain ⟨m0, m1', _⟩ := cells_two M8.out
          go_upto_region 17 with (first
            | (go_at_call 31; ((with_reducible refine (HVy.out _ _ _ P8.out).mono ?_); rintro e v9 ⟨rfl, hb⟩; have B9 := Lib.hid (B8.out.trans (hb.mono B8.out.size)); have U9 := Lib.hid (block_below U8.out hb); clear m0 m1' hb))
            | fail)
          have V10 := Lib.hid (heap_alloc_new v9 (.cells #[.bool z, .int .i64 x, .int .i64 y] 48))
          have U10 := Lib.hid (block_alloc U9.out (.cells #[.bool z, .int .i64 x, .int .i64 y] 48))
          have B10 : Hid (Below w.heap.size w (v9.alloc (.cells #[.bool z, .int .i64 x, .int .i64 y] 48))) := B9.out.alloc B9.out.size _
          generalize v9.alloc (.cells #[.bool z, .int .i64 x, .int .i64 y] 48) = v10 at *
          generalize v9.heap.size = vb at *
          obtain ⟨⟨u0, u1, u2⟩, uf⟩ := three_of_blockD U10.out
          obtain ⟨⟨w0, w1, w2⟩, wf⟩ := three_of_blockD V10.out
          go_wp2
          go_ret
          exact ⟨by first | rfl | simp, B10.out⟩
        · rw [hk2] at HVy
          rw [rou_eq, decide_eq_false hk1] at HVx
          have hg3 : (((Nat.gcd (a % (K : Int)).toNat K : Nat) : Int) != 1) = true := by rw [bne_iff_ne]; omega
          have hr0 : rouV (-1) (tbM (gensV K)) = .agg #[.bool true, .int .i64 0, .int .i64 0] := by unfold rouV; rw [if_pos rfl]
          rw [hr0] at HVy
          clear hk1 hk2 hk3 hr0
          generalize Nat.gcd (a % (K : Int)).toNat K = gg at *
          generalize chE (tbV N E) (tbM (gensV N)) K = LL at *
          generalize rouN ((tbV N E).getD (a % (N : Int)).toNat 0) (tbM (gensV N)) = x at *
          generalize rouD ((tbV N E).getD (a % (N : Int)).toNat 0) (tbM (gensV N)) = y at *
          go_enter Try.func10, Try.ntmps10
          go_upto_region 6 with (first
            | (go_at_call 13; ((with_reducible refine (HA.out _).mono ?_); rintro e v1 ⟨rfl, hb⟩; have B1 := Lib.hid (B0.out.trans (hb.mono B0.out.size)); have X1 := Lib.hid (block_below X0.out hb); clear x0 x1 hb; obtain ⟨x0, x1, _⟩ := cells_two X1.out))
            | (go_at_call 41; ((with_reducible refine (HX.out _ (HE0.out _ B1.out)).mono ?_); rintro e v2 ⟨A5, c5, rfl, hr5, hb⟩; have B2 := Lib.hid (B1.out.trans (hb.mono B1.out.size)); have X2 := Lib.hid (block_below X1.out hb); have P2 := Lib.hid hr5; clear x0 x1 hb hr5))
            | fail)
          have M3 := Lib.hid (heap_alloc_new v2 (.cells #[.int .i64 (K : Int), .slice A5 LL.length c5] 33))
          have X3 := Lib.hid (block_alloc X2.out (.cells #[.int .i64 (K : Int), .slice A5 LL.length c5] 33))
          have B3 : Hid (Below w.heap.size w (v2.alloc (.cells #[.int .i64 (K : Int), .slice A5 LL.length c5] 33))) := B2.out.alloc B2.out.size _
          have P3 := Lib.hid ((P2.out.below (below1 v2 (.cells #[.int .i64 (K : Int), .slice A5 LL.length c5] 33))).mono (below1 v2 (.cells #[.int .i64 (K : Int), .slice A5 LL.length c5] 33)).size)
          generalize v2.alloc (.cells #[.int .i64 (K : Int), .slice A5 LL.length c5] 33) = v3 at *
          generalize v2.heap.size = mb at *
          obtain ⟨x0, x1, _⟩ := cells_two X3.out
          go_upto_region 13 with (first
            | (go_at_call 23; ((with_reducible refine (HRc.out _ (HE0.out _ B3.out)).mono ?_); rintro e v4 ⟨rfl, hb⟩; have B4 := Lib.hid (B3.out.trans (hb.mono B3.out.size)); have M4 := Lib.hid (block_below M3.out hb); have X4 := Lib.hid (block_below X3.out hb); have P4 := Lib.hid ((P3.out.below hb).mono hb.size); clear x0 x1 hb; obtain ⟨x0, x1, _⟩ := cells_two X4.out))
            | (go_at_call 15; ((with_reducible refine (HMo.out _).mono ?_); rintro e w5 ⟨rfl, rfl⟩))
            | fail)
          have HKc : Hid (∀ W, Below v4.heap.size v4 W → W.cell? ⟨mb, 0, none⟩ = some (.int .i64 (K : Int)) ∧ W.cell? ⟨mb, 1, none⟩ = some (.slice A5 LL.length c5) ∧ W.cell? ⟨w.heap.size, 0, none⟩ = some (.int .i64 (N : Int)) ∧ W.cell? ⟨w.heap.size, 1, none⟩ = some (.slice A E.length c)) := fun W hW => ⟨(cells_two (block_below M4.out hW)).1, (cells_two (block_below M4.out hW)).2.1, (cells_two (block_below X4.out hW)).1, (cells_two (block_below X4.out hW)).2.1⟩
          have D4 : Hid (Below v4.heap.size v4 v4.drew) := Below.drew (Below.refl _ _)
          clear x0 x1
          go_region_held3 (fun W => W.cell? ⟨mb, 0, none⟩ = some (.int .i64 (K : Int)) ∧ W.cell? ⟨mb, 1, none⟩ = some (.slice A5 LL.length c5) ∧ W.cell? ⟨w.heap.size, 0, none⟩ = some (.int .i64 (N : Int)) ∧ W.cell? ⟨w.heap.size, 1, none⟩ = some (.slice A E.length c))
            (with_reducible first | exact HKc.out _ D6.out | exact HKc.out _ D5.out | exact HKc.out _ D4.out | fail)
            (first
              | (go_at_call 42; ((with_reducible refine (HW.out _ (HE0.out _ (B4.out.trans (D4.out.mono B4.out.size)))).mono ?_); rintro e v5 ⟨A6, c6, rfl, hr6, hb⟩; have D5 := Lib.hid (D4.out.trans (hb.mono D4.out.size)); have P5 := Lib.hid hr6; clear hr6 hb))
              | (go_at_call 30; ((with_reducible refine (HSm.out _ _ _ _ _ _ _ ((P4.out.below D5.out).mono D5.out.size) P5.out (Nat.le_refl _) (Nat.le_refl _)).mono ?_); rintro e v6 ⟨rfl, hb⟩; have D6 := Lib.hid (D5.out.trans (hb.mono D5.out.size)); clear hb))
              | fail)
          have B6 := Lib.hid (B4.out.trans (D6.out.mono B4.out.size))
          have X6 := Lib.hid (block_below X4.out D6.out)
          have M6 := Lib.hid (block_below M4.out D6.out)
          have P6 := Lib.hid ((P4.out.below D6.out).mono D6.out.size)
          clear HKc
          obtain ⟨x0, x1, _⟩ := cells_two X6.out
          obtain ⟨m0, m1', _⟩ := cells_two M6.out
          go_upto_region 16 with (first
            | (go_at_call 31; ((with_reducible refine (HVx.out _ (HE0.out _ B6.out)).mono ?_); rintro e v7 ⟨rfl, hb⟩; have B7 := Lib.hid (B6.out.trans (hb.mono B6.out.size)); have M7 := Lib.hid (block_below M6.out hb); have P7 := Lib.hid ((P6.out.below hb).mono hb.size); clear x0 x1 m0 m1' hb))
            | fail)
          have U8 := Lib.hid (heap_alloc_new v7 (.cells #[.bool false, .int .i64 x, .int .i64 y] 48))
          have M8 := Lib.hid (block_alloc M7.out (.cells #[.bool false, .int .i64 x, .int .i64 y] 48))
          have B8 : Hid (Below w.heap.size w (v7.alloc (.cells #[.bool false, .int .i64 x, .int .i64 y] 48))) := B7.out.alloc B7.out.size _
          have P8 := Lib.hid ((P7.out.below (below1 v7 (.cells #[.bool false, .int .i64 x, .int .i64 y] 48))).mono (below1 v7 (.cells #[.bool false, .int .i64 x, .int .i64 y] 48)).size)
          generalize v7.alloc (.cells #[.bool false, .int .i64 x, .int .i64 y] 48) = v8 at *
          generalize v7.heap.size = ub at *
          obtain ⟨m0, m1', _⟩ := cells_two M8.out
          go_upto_region 17 with (first
            | (go_at_call 31; ((with_reducible refine (HVy.out _ _ _ P8.out).mono ?_); rintro e v9 ⟨rfl, hb⟩; have B9 := Lib.hid (B8.out.trans (hb.mono B8.out.size)); have U9 := Lib.hid (block_below U8.out hb); clear m0 m1' hb))
            | fail)
          have V10 := Lib.hid (heap_alloc_new v9 (.cells #[.bool true, .int .i64 0, .int .i64 0] 48))
          have U10 := Lib.hid (block_alloc U9.out (.cells #[.bool true, .int .i64 0, .int .i64 0] 48))
          have B10 : Hid (Below w.heap.size w (v9.alloc (.cells #[.bool true, .int .i64 0, .int .i64 0] 48))) := B9.out.alloc B9.out.size _
          generalize v9.alloc (.cells #[.bool true, .int .i64 0, .int .i64 0] 48) = v10 at *
          generalize v9.heap.size = vb at *
          obtain ⟨⟨u0, u1, u2⟩, uf⟩ := three_of_blockD U10.out
          obtain ⟨⟨w0, w1, w2⟩, wf⟩ := three_of_blockD V10.out
          go_wp2_with (first
            | (go_at_call 35; ((with_reducible refine (HG.out _).mono ?_); rintro e v11 ⟨rfl, hd⟩; have B11 := Lib.hid (B10.out.trans ((bel_drewN hd).mono B10.out.size)); clear hd))
            | fail)
          go_ret
          exact ⟨by first | rfl | simp, B11.out⟩
      · have HX := Lib.hid (fun (W : World) (hW : RdZ W W.heap.size A c E) => ext_bad3 N E (K : Int) A c W hW hc N1 N2 hm hd)
        have hz0 := Int.emod_nonneg (K : Int) N0'
        have hz1 := Int.emod_lt_of_pos (K : Int) (show 0 < (N : Int) by omega)
        have htm : Int.tmod (K : Int) (N : Int) = (K : Int) % (N : Int) := Int.tmod_eq_emod_of_nonneg (by omega)
        have hne : ((K : Int) % (N : Int) != 0) = true := by rw [bne_iff_ne]; exact hd
        clear hc hE hck hd
        generalize (K : Int) % (N : Int) = z at *
        have hwz : IntKind.i64.wrap z = z := IntWalk.i64_in _ (by omega)
        go_enter Try.func10, Try.ntmps10
        go_upto_region 6 with (first
          | (go_at_call 13; ((with_reducible refine (HA.out _).mono ?_); rintro e v1 ⟨rfl, hb⟩; have B1 := Lib.hid (B0.out.trans (hb.mono B0.out.size)); have X1 := Lib.hid (block_below X0.out hb); clear x0 x1 hb; obtain ⟨x0, x1, _⟩ := cells_two X1.out))
          | (go_at_call 41; ((with_reducible refine (HX.out _ (HE0.out _ B1.out)).mono ?_); rintro e v2 ⟨rfl, hb⟩; have B2 := Lib.hid (B1.out.trans (hb.mono B1.out.size)); have X2 := Lib.hid (block_below X1.out hb); clear x0 x1 hb))
          | fail)
        have M3 := Lib.hid (heap_alloc_new v2 (.cells #[.int .i64 0, .slice none 0 0] 33))
        have X3 := Lib.hid (block_alloc X2.out (.cells #[.int .i64 0, .slice none 0 0] 33))
        have B3 : Hid (Below w.heap.size w (v2.alloc (.cells #[.int .i64 0, .slice none 0 0] 33))) := B2.out.alloc B2.out.size _
        generalize v2.alloc (.cells #[.int .i64 0, .slice none 0 0] 33) = v3 at *
        generalize v2.heap.size = mb at *
        obtain ⟨x0, x1, _⟩ := cells_two X3.out
        go_wp2_with (first
          | (go_at_call 23; ((with_reducible refine (HRc.out _ (HE0.out _ B3.out)).mono ?_); rintro e v4 ⟨rfl, hb⟩; have B4 := Lib.hid (B3.out.trans (hb.mono B3.out.size)); have M4 := Lib.hid (block_below M3.out hb); have X4 := Lib.hid (block_below X3.out hb); clear x0 x1 hb; obtain ⟨x0, x1, _⟩ := cells_two X4.out; obtain ⟨m0, m1', _⟩ := cells_two M4.out))
          | (go_at_call 15; ((with_reducible refine (HMo.out _).mono ?_); rintro e w5 ⟨rfl, rfl⟩))
          | (go_at_call 30; ((with_reducible refine (HS0.out _).mono ?_); rintro e v7 ⟨rfl, hb⟩; have B7 := Lib.hid (B4.out.trans (hb.mono B4.out.size)); clear hb))
          | fail)
        go_ret
        exact ⟨by first | rfl | simp, B7.out⟩
    · rw [if_neg hm] at HMo
      have HX := Lib.hid (fun (W : World) (hW : RdZ W W.heap.size A c E) => ext_bad2 N E k A c W hW hc hm)
      clear hc hE hck hm
      go_enter Try.func10, Try.ntmps10
      go_upto_region 6 with (first
        | (go_at_call 13; ((with_reducible refine (HA.out _).mono ?_); rintro e v1 ⟨rfl, hb⟩; have B1 := Lib.hid (B0.out.trans (hb.mono B0.out.size)); have X1 := Lib.hid (block_below X0.out hb); clear x0 x1 hb; obtain ⟨x0, x1, _⟩ := cells_two X1.out))
        | (go_at_call 41; ((with_reducible refine (HX.out _ (HE0.out _ B1.out)).mono ?_); rintro e v2 ⟨rfl, hb⟩; have B2 := Lib.hid (B1.out.trans (hb.mono B1.out.size)); have X2 := Lib.hid (block_below X1.out hb); clear x0 x1 hb))
        | fail)
      have M3 := Lib.hid (heap_alloc_new v2 (.cells #[.int .i64 0, .slice none 0 0] 33))
      have X3 := Lib.hid (block_alloc X2.out (.cells #[.int .i64 0, .slice none 0 0] 33))
      have B3 : Hid (Below w.heap.size w (v2.alloc (.cells #[.int .i64 0, .slice none 0 0] 33))) := B2.out.alloc B2.out.size _
      generalize v2.alloc (.cells #[.int .i64 0, .slice none 0 0] 33) = v3 at *
      generalize v2.heap.size = mb at *
      obtain ⟨x0, x1, _⟩ := cells_two X3.out
      go_wp2_with (first
        | (go_at_call 23; ((with_reducible refine (HRc.out _ (HE0.out _ B3.out)).mono ?_); rintro e v4 ⟨rfl, hb⟩; have B4 := Lib.hid (B3.out.trans (hb.mono B3.out.size)); have M4 := Lib.hid (block_below M3.out hb); have X4 := Lib.hid (block_below X3.out hb); clear x0 x1 hb; obtain ⟨x0, x1, _⟩ := cells_two X4.out; obtain ⟨m0, m1', _⟩ := cells_two M4.out))
        | (go_at_call 15; ((with_reducible refine (HMo.out _).mono ?_); rintro e w5 ⟨rfl, rfl⟩))
        | (go_at_call 30; ((with_reducible refine (HS0.out _).mono ?_); rintro e v7 ⟨rfl, hb⟩; have B7 := Lib.hid (B4.out.trans (hb.mono B4.out.size)); clear hb))
        | fail)
      go_ret
      exact ⟨by first | rfl | simp, B7.out⟩
  · have HX := Lib.hid (fun (W : World) (hW : RdZ W W.heap.size A c E) => ext_bad1 n E k A c W hW hc)
    have hk0 : (chkV n E != 0) = true := by rw [bne_iff_ne]; exact hc
    have hk1 : (chkV n E == 0) = false := by rw [beq_eq_false_iff_ne]; exact hc
    clear hc hE
    generalize chkV n E = KK at *
    go_enter Try.func10, Try.ntmps10
    go_upto_region 6 with (first
      | (go_at_call 13; ((with_reducible refine (HA.out _).mono ?_); rintro e v1 ⟨rfl, hb⟩; have B1 := Lib.hid (B0.out.trans (hb.mono B0.out.size)); have X1 := Lib.hid (block_below X0.out hb); clear x0 x1 hb; obtain ⟨x0, x1, _⟩ := cells_two X1.out))
      | (go_at_call 41; ((with_reducible refine (HX.out _ (HE0.out _ B1.out)).mono ?_); rintro e v2 ⟨rfl, hb⟩; have B2 := Lib.hid (B1.out.trans (hb.mono B1.out.size)); have X2 := Lib.hid (block_below X1.out hb); clear x0 x1 hb))
      | fail)
    have M3 := Lib.hid (heap_alloc_new v2 (.cells #[.int .i64 0, .slice none 0 0] 33))
    have X3 := Lib.hid (block_alloc X2.out (.cells #[.int .i64 0, .slice none 0 0] 33))
    have B3 : Hid (Below w.heap.size w (v2.alloc (.cells #[.int .i64 0, .slice none 0 0] 33))) := B2.out.alloc B2.out.size _
    generalize v2.alloc (.cells #[.int .i64 0, .slice none 0 0] 33) = v3 at *
    generalize v2.heap.size = mb at *
    obtain ⟨x0, x1, _⟩ := cells_two X3.out
    go_wp2_with (first
      | (go_at_call 23; ((with_reducible refine (HRc.out _ (HE0.out _ B3.out)).mono ?_); rintro e v4 ⟨rfl, hb⟩; have B4 := Lib.hid (B3.out.trans (hb.mono B3.out.size)); have M4 := Lib.hid (block_below M3.out hb); have X4 := Lib.hid (block_below X3.out hb); clear x0 x1 hb; obtain ⟨x0, x1, _⟩ := cells_two X4.out; obtain ⟨m0, m1', _⟩ := cells_two M4.out))
      | (go_at_call 30; ((with_reducible refine (HS0.out _).mono ?_); rintro e v7 ⟨rfl, hb⟩; have B7 := Lib.hid (B4.out.trans (hb.mono B4.out.size)); clear hb))
      | fail)
    go_ret
    exact ⟨by first | rfl | simp, B7.out⟩
theorem lex_said (n : Int) (E : List Int) (k : Int) (a : Int) (w : World) {A : Option Addr} {c : Nat} (hE : RdZ w w.heap.size A c E) (hA : A = none → c = 0) (_ : (Lit.int .i64 k).wf = true) (ha : (Lit.int .i16 a).wf = true) :
    Calls Try.prog 10 #[.agg #[.int .i64 n, .slice A E.length c], .int .i64 k, .int .i16 a] w fun e w' => e = .returned (.bool true) ∧ Below w.heap.size w w' := lex_walk n E k a w hE hA (i16_of_wf ha)
end Go.Proofs.Ytlagljnhbhnelaa
namespace Go.Proofs.Ytlagljnhbhnelaa
open Go.RowKit
set_option linter.unusedVariables false
set_option linter.unusedSimpArgs false

def hxF (ff : Nat → Int) (m : Nat) (g : Nat × Nat) : Int := ff g.1 * (g.2 : Int) / (m : Int)
set_option maxHeartbeats 1600000 in
theorem isu_any (T : List Int) (m a : Int) (A : Option Addr) (c j : Nat) (x : Int) (w : World) (hT : RdZ w w.heap.size A c T) (hn : T.length ≤ 60) (a1 : -1073741824 ≤ a) (a2 : a ≤ 1073741824) (hj : a % (T.length : Int) = (j : Int)) (hx : T[j]? = some x) :
    Calls Try.prog 61 #[.agg #[.slice A T.length c, .int .i64 m], .int .i64 a] w fun e w' => e = .returned (.bool (x != -1)) ∧ Below w.heap.size w w' := by
  have T0 : Hid ((w.alloc (.cells #[.slice A T.length c, .int .i64 m] 76)).heap[w.heap.size]? = some (.cells #[.slice A T.length c, .int .i64 m] 76 (0, 0))) := heap_alloc_new w _
  have HB0 : Hid (Below w.heap.size w (w.alloc (.cells #[.slice A T.length c, .int .i64 m] 76))) := below1 w _
  have HAt := Lib.hid (at_any T m a A c j x (w.alloc (.cells #[.slice A T.length c, .int .i64 m] 76)) ((hT.below HB0.out).mono HB0.out.size) hn a1 a2 hj hx)
  obtain ⟨c0, c1, _⟩ := cells_two T0.out
  clear hT hj hx
  go_enter Try.func61, Try.ntmps61
  go_wp2_with (first
    | (go_at_call 58; ((with_reducible refine HAt.out.mono ?_); rintro e w1 ⟨rfl, hb⟩; have B1 := Lib.hid (HB0.out.trans (hb.mono HB0.out.size)); clear hb c0 c1))
    | fail)
  go_ret
  exact ⟨by first | rfl | simp, B1.out⟩
set_option maxHeartbeats 3200000 in
theorem lift_any (T : List Int) (m C a i0 tb fb : Nat) (A : Option Addr) (c : Nat) (w : World) (hT : RdZ w w.heap.size A c T) (hN1 : 1 ≤ T.length) (hN2 : T.length ≤ 60) (a60 : a ≤ 60) (C60 : C ≤ 60) (C1 : 1 ≤ C) (i60 : i0 ≤ 60)
    (htb : w.heap[tb]? = some (.cells #[.slice A T.length c, .int .i64 (m : Int)] 76 (0, 0))) (hfb : w.heap[fb]? = some (.cells #[.int .i64 (C : Int)] 3 (0, 0)))
    (hy : T.getD ((a + i0 * C) % T.length) 0 ≠ -1) (hno : ∀ i, i < i0 → T.getD ((a + i * C) % T.length) 0 = -1) :
    Calls Try.prog 60 #[.int .i64 (a : Int), .pointer (some ⟨tb, 0, none⟩), .pointer (some ⟨fb, 0, none⟩)] w fun e w' => e = .returned (.tuple #[.int .i64 (T.getD ((a + i0 * C) % T.length) 0), .int .i64 (m : Int)]) ∧ Below w.heap.size w w' := by
  obtain ⟨X, hX⟩ : ∃ X, X = T.getD ((a + i0 * C) % T.length) 0 := ⟨_, rfl⟩
  rw [← hX] at hy ⊢
  have HX := Lib.hid hX
  clear hX
  have HTb := Lib.hid htb
  have HFb := Lib.hid hfb
  have HNo := Lib.hid hno
  have hic : i0 * C ≤ 60 * 60 := Nat.mul_le_mul i60 C60
  have HU : Hid (∀ (b : Nat) (h : b ≤ 4000) (W : World), Below w.heap.size w W → Calls Try.prog 61 #[.agg #[.slice A T.length c, .int .i64 (m : Int)], .int .i64 (b : Int)] W fun e w' => e = .returned (.bool (T.getD (b % T.length) 0 != -1)) ∧ Below W.heap.size W w') := fun b h W hW =>
    isu_any T m (b : Int) A c (b % T.length) _ W ((hT.below hW).mono hW.size) hN2 (by omega) (by omega) (Int.natCast_emod b T.length).symm (getD_some T _ (Nat.mod_lt _ hN1))
  have HAt : Hid (∀ (b : Nat) (h : b ≤ 4000) (W : World), Below w.heap.size w W → Calls Try.prog 58 #[.agg #[.slice A T.length c, .int .i64 (m : Int)], .int .i64 (b : Int)] W fun e w' => e = .returned (.tuple #[.int .i64 (T.getD (b % T.length) 0), .int .i64 (m : Int)]) ∧ Below W.heap.size W w') := fun b h W hW =>
    at_any T m (b : Int) A c (b % T.length) _ W ((hT.below hW).mono hW.size) hN2 (by omega) (by omega) (Int.natCast_emod b T.length).symm (getD_some T _ (Nat.mod_lt _ hN1))
  clear hT htb hfb hno
  go_enter Try.func60, Try.ntmps60
  go_wp2
  go_loopw [0] (fun J wr => ∃ i : Nat, J = .int .i64 ((a + i * C : Nat) : Int) ∧ i ≤ i0 ∧ Hid (Below w.heap.size w wr)) (fun J _ => 10000 - (intOf J).toNat)
  case atStart => exact ⟨0, by rw [Nat.zero_mul, Nat.add_zero], Nat.zero_le _, Below.refl _ _⟩
  case round =>
    obtain ⟨i, rfl, hi, HB⟩ := hrel
    have T5 := Lib.hid (block_below HTb.out HB.out)
    have F5 := Lib.hid (block_below HFb.out HB.out)
    obtain ⟨t0, t1, _⟩ := cells_two T5.out
    have f0 := cell_of_one F5.out
    have h9 : i * C ≤ 60 * 60 := Nat.mul_le_mul (by omega) C60
    have HU5 := Lib.hid (HU.out (a + i * C) (by omega) wr HB.out)
    by_cases hil : i < i0
    · have hz := HNo.out i hil
      rw [hz] at HU5
      have hnx : ((a + i * C : Nat) : Int) + (C : Int) = ((a + (i + 1) * C : Nat) : Int) := by rw [Nat.add_mul, Nat.one_mul]; omega
      have han : a + (i + 1) * C = a + i * C + C := by rw [Nat.add_mul, Nat.one_mul]; omega
      have hao : a + i * C ≤ 4000 := by omega
      have hwa : IntKind.i64.wrap ((a + (i + 1) * C : Nat) : Int) = ((a + (i + 1) * C : Nat) : Int) := IntWalk.i64_in _ (by omega)
      obtain ⟨an', hann⟩ : ∃ an', an' = a + (i + 1) * C := ⟨_, rfl⟩
      rw [← hann] at hnx han hwa
      have HAn := Lib.hid hann
      clear hann h9 hz
      have hlt : a + i * C < an' := by omega
      have hle : an' ≤ 4100 := by omega
      clear han
      generalize a + i * C = ao at *
      go_wp2_with (first
        | (go_at_call 61; ((with_reducible refine HU5.out.mono ?_); rintro e w5 ⟨rfl, hd⟩; have HB5 := Lib.hid (HB.out.trans (hd.mono HB.out.size)); have F6 := Lib.hid (block_below F5.out hd); clear hd t0 t1 f0; have f0 := cell_of_one F6.out))
        | fail)
      go_roundw
      case rel => exact ⟨i + 1, by rw [← HAn.out], by omega, HB5.out⟩
      case measure => simp [intOf]; (try rw [hwa]); omega
    · obtain rfl : i = i0 := by omega
      rw [← HX.out, show (X != -1) = true from by rw [bne_iff_ne]; exact hy] at HU5
      have HA5 := Lib.hid (fun W => HAt.out (a + i * C) (by omega) W)
      have hao : a + i * C ≤ 4000 := by omega
      rw [← HX.out] at HA5
      clear HU HAt HNo h9 HX
      generalize a + i * C = ao at *
      go_wp2_with (first
        | (go_at_call 61; ((with_reducible refine HU5.out.mono ?_); rintro e w5 ⟨rfl, hd⟩; have HB5 := Lib.hid (HB.out.trans (hd.mono HB.out.size)); have T6 := Lib.hid (block_below T5.out hd); clear hd t0 t1 f0; obtain ⟨t0, t1, _⟩ := cells_two T6.out))
        | (go_at_call 58; ((with_reducible refine (HA5.out _ HB5.out).mono ?_); rintro e w6 ⟨rfl, hd⟩; have HB6 := Lib.hid (HB5.out.trans (hd.mono HB5.out.size)); clear hd t0 t1))
        | fail)
      exact bodyPost_ret (results_tmp2 rfl _ _ _) rfl ⟨rfl, HB6.out⟩
set_option maxHeartbeats 6400000 in
set_option maxRecDepth 1000000 in
theorem charl_any (ff : Nat → Int) (m n tb fb : Nat) (w : World) (n1 : 1 ≤ n) (n2 : (n : Int) ≤ 60) (m1 : 1 ≤ m) (m2 : m ≤ 60) (hq : ∀ g ∈ gensV n, ∀ V, Below w.heap.size w V → Calls Try.prog 60 #[.int .i64 (g.1 : Int), .pointer (some ⟨tb, 0, none⟩), .pointer (some ⟨fb, 0, none⟩)] V fun e w' => e = .returned (.tuple #[.int .i64 (ff g.1), .int .i64 (m : Int)]) ∧ Below V.heap.size V w') (hg : ∀ g ∈ gensV n, 0 ≤ ff g.1 ∧ ff g.1 ≤ 60) :
    Calls Try.prog 59 #[.int .i64 (n : Int), .func (.func 60) #[] #[.pointer (some ⟨tb, 0, none⟩), .pointer (some ⟨fb, 0, none⟩)]] w fun e w' => ∃ v, e = .returned (.agg #[.int .i64 (n : Int), v]) ∧ w'.ownsRow (w.heap.size + 2) 3 1 v (hxE ff m n).length (zs (hxE ff m n)) ∧ Below w.heap.size w w' := by
  obtain ⟨i0, hi0, z0, z1, z2⟩ := info_parts Try.infoIntC
  have HGe := Lib.hid (fun W => gens_any n W n1 n2)
  have HGb := Lib.hid (gens_facts n1 (show n ≤ 60 by omega))
  have hgl := HGb.out.len
  have HQ := Lib.hid hq
  have HGg := Lib.hid hg
  have HP : Hid (((gensV n).take (gensV n).length).map (hxF ff m) = hxE ff m n) := by show _ = _; rw [List.take_length]; rfl
  have HX0 : Hid (((w.alloc (.cells #[.int .i64 0, .slice none 0 0] 33)).alloc (.cells #[.int .i64 (n : Int), .slice none 0 0] 33)).heap[w.heap.size + 1]? = some (.cells #[.int .i64 (n : Int), .slice none 0 0] 33 (0, 0))) := by
    have := heap_alloc_new (w.alloc (.cells #[.int .i64 0, .slice none 0 0] 33)) (.cells #[.int .i64 (n : Int), .slice none 0 0] 33)
    show _ = _
    simpa using this
  have HR0 : Hid (((w.alloc (.cells #[.int .i64 0, .slice none 0 0] 33)).alloc (.cells #[.int .i64 (n : Int), .slice none 0 0] 33)).heap[w.heap.size]? = some (.cells #[.int .i64 0, .slice none 0 0] 33 (0, 0))) := block_alloc (heap_alloc_new w _) _
  have HB0 : Hid (Below w.heap.size w ((w.alloc (.cells #[.int .i64 0, .slice none 0 0] 33)).alloc (.cells #[.int .i64 (n : Int), .slice none 0 0] 33))) := below2 w _ _
  clear hq hg
  generalize gensV n = G at *
  go_enter Try.func59, Try.ntmps59
  go_wp2_with (first
    | (go_at_call 47; ((with_reducible refine (HGe.out _).mono ?_); rintro e w2 ⟨v, rfl, ho, hb⟩; obtain ⟨la, lc, rfl, hrd⟩ := gen_blk ho; have HR := Lib.hid hrd; have HX2 := Lib.hid (block_below HX0.out hb); have HR2 := Lib.hid (block_below HR0.out hb); have HB2 := Lib.hid (HB0.out.trans (hb.mono HB0.out.size)); clear ho hb hrd))
    | fail)
  have hs2 := lt_of_block HX2.out
  have HXs : Hid (XW w.heap.size w2.heap.size w w2 n (.slice none 0 0) [] w2) := ⟨by omega, Nat.le_refl _, HX2.out, World.ownsRow_nil _ _ _ _, fun _ _ _ => rfl, HB2.out⟩
  clear HX0 HR0 HB0 HGe
  go_loopw [7, 8, 9, 15] (fun _ _ _ I wr => ∃ (k : Nat) (v : Value), I = .int .i64 k ∧ k ≤ G.length ∧ Hid (XW w.heap.size w2.heap.size w w2 n v ((G.take k).map (hxF ff m)) wr)) (fun _ _ _ I _ => G.length - (intOf I).toNat)
  case atStart => exact ⟨0, _, rfl, Nat.zero_le _, HXs.out⟩
  case round =>
    obtain ⟨k, v, rfl, hk, HX⟩ := hrel
    by_cases hkl : k < G.length
    · have hkli : (k : Int) < (G.length : Int) := by omega
      obtain ⟨g, cs, rfl, hg1, hcell⟩ := HR.out k hkl
      obtain ⟨x1, x2⟩ := hcell wr ((HX.out.keep g (lt_of_block hg1) (blk_ne HX2.out hg1 (by decide))).trans hg1)
      have HN : Hid ((G.take (k + 1)).map (hxF ff m) = (G.take k).map (hxF ff m) ++ [hxF ff m G[k]]) := by
        show _ = _
        rw [List.take_add_one, List.getElem?_eq_getElem hkl, Option.toList_some, List.map_append]; rfl
      have p60 := HGb.out.v _ (List.getElem_mem hkl)
      have q1 := HGb.out.o1 _ (List.getElem_mem hkl)
      have q60 := HGb.out.o2 _ (List.getElem_mem hkl)
      obtain ⟨zp0, zp1⟩ := HGg.out _ (List.getElem_mem hkl)
      have hgm := List.getElem_mem hkl
      clear hg1 hcell
      generalize G[k] = f at *
      obtain ⟨p, q⟩ := f
      simp only at x1 x2 p60 q1 q60 zp0 zp1
      have hqx : hxF ff m (p, q) = ff p * (q : Int) / (m : Int) := rfl
      have hy0 : 0 ≤ ff p * (q : Int) := Int.mul_nonneg zp0 (by omega)
      have hy1 : ff p * (q : Int) ≤ 60 * 60 := Int.mul_le_mul zp1 (by omega) (by omega) (by omega)
      have hx0 : 0 ≤ ff p * (q : Int) / (m : Int) := Int.ediv_nonneg hy0 (by omega)
      have hx1 : ff p * (q : Int) / (m : Int) ≤ ff p * (q : Int) := Int.ediv_le_self _ hy0
      have htd0 : Int.tdiv (ff p * (q : Int)) (m : Int) = ff p * (q : Int) / (m : Int) := Int.tdiv_eq_ediv_of_nonneg hy0
      generalize hxF ff m (p, q) = x at *
      go_upto_region 5 with fail
      have HX3 : Hid (XW w.heap.size w2.heap.size w w2 n v ((G.take k).map (hxF ff m)) (wr.alloc (.cells #[.int .i64 (p : Int), .int .i64 (q : Int)] 73))) := HX.out.on (below1 wr _)
      have HG3 : Hid ((wr.alloc (.cells #[.int .i64 (p : Int), .int .i64 (q : Int)] 73)).heap[wr.heap.size]? = some (.cells #[.int .i64 (p : Int), .int .i64 (q : Int)] 73 (0, 0))) := heap_alloc_new wr _
      have hgb : w2.heap.size ≤ wr.heap.size := HX.out.size
      clear x1 x2 HX
      generalize (wr.alloc (.cells #[.int .i64 (p : Int), .int .i64 (q : Int)] 73)) = W3 at *
      generalize wr.heap.size = gb at *
      obtain ⟨y1, y2, _⟩ := cells_two HG3.out
      obtain ⟨b1, b2, _⟩ := cells_two HX3.out.box
      have h9 := HQ.out _ hgm W3 HX3.out.below
      dsimp only at h9
      have HQ3 := Lib.hid h9
      clear h9 hgm
      generalize hzz : ff p = z at *
      clear hzz
      generalize hyy : z * (q : Int) = y at *
      rw [← hqx] at hx0 hx1 htd0
      have hdv : y / (m : Int) = x := hqx.symm
      have m0 : ((m : Int) == 0) = false := by rw [beq_eq_false_iff_ne]; omega
      have m0' : ¬ ((m : Int) = 0) := by omega
      have m0'' : ¬ (m = 0) := by omega
      have hwy : IntKind.i64.wrap y = y := IntWalk.i64_in _ (by omega)
      have hwx : IntKind.i64.wrap x = x := IntWalk.i64_in _ (by omega)
      have htl : (G.take k).length ≤ 8 := by rw [List.length_take]; omega
      clear hqx
      go_wp2_with (first
        | (go_at_call 60; ((with_reducible refine HQ3.out.mono ?_); rintro e w5 ⟨rfl, hb5⟩; have HX5 := Lib.hid (HX3.out.on hb5); have HG5 := Lib.hid (block_below HG3.out hb5); clear hb5))
        | fail)
      have HHd : Hid (∀ V, XW w.heap.size w2.heap.size w w2 n v ((G.take k).map (hxF ff m)) V → V.heap[gb]? = some (.cells #[.int .i64 (p : Int), .int .i64 (q : Int)] 73 (0, 0)) → V.cell? ⟨w.heap.size + 1, 1, none⟩ = some v ∧ V.cell? ⟨gb, 1, none⟩ = some (.int .i64 (q : Int))) := fun V h1 h2 => ⟨(cells_two h1.box).2.1, (cells_two h2).2.1⟩
      have HXd := Lib.hid HX5.out.drew
      have HGd : Hid (w5.drew.heap[gb]? = some (.cells #[.int .i64 (p : Int), .int .i64 (q : Int)] 73 (0, 0))) := HG5.out
      clear y1 y2 b1 b2 HX3 HG3 HX5 HG5
      go_upto_region 6 with fail
      obtain ⟨wd, hwd⟩ : ∃ wd, wd = w5.drew := ⟨_, rfl⟩
      rw [← hwd] at HXd HGd
      refine region_E 9 (fun w' => w'.cell? ⟨w.heap.size + 1, 1, none⟩ = some v ∧ w'.cell? ⟨gb, 1, none⟩ = some (.int .i64 (q : Int))) (by kernel_rfl) ?_
      rw [← hwd]
      clear hwd
      have hHeld := HHd.out wd HXd.out HGd.out
      refine take_E (n := 9) (i := 0) (v := ?vtt_0) rfl (by kernel_rfl) (fun _ _ _ h => h) ?hytt_0 (by rfl) hHeld ?resttt_0
      case hytt_0 => (intro w9 hSw; (try dsimp only at hSw); go_simp <;> with_reducible rfl)
      (try simp only [List.getElem_toArray, List.getElem_cons_zero, List.getElem_cons_succ, Act.put, List.setIfInBounds_toArray, List.set_cons_zero, List.set_cons_succ])
      refine take_E (n := 9) (i := 1) (v := ?vtt_1) rfl (by kernel_rfl) (fun _ _ _ h => h) ?hytt_1 (by rfl) hHeld ?resttt_1
      case hytt_1 => (intro w9 hSw; (try dsimp only at hSw); go_simp <;> with_reducible rfl)
      (try simp only [List.getElem_toArray, List.getElem_cons_zero, List.getElem_cons_succ, Act.put, List.setIfInBounds_toArray, List.set_cons_zero, List.set_cons_succ])
      refine take_E (n := 9) (i := 2) (v := ?vtt_2) rfl (by kernel_rfl) (fun _ _ _ h => h) ?hytt_2 (by rfl) hHeld ?resttt_2
      case hytt_2 => (intro w9 hSw; (try dsimp only at hSw); go_simp <;> with_reducible rfl)
      (try simp only [List.getElem_toArray, List.getElem_cons_zero, List.getElem_cons_succ, Act.put, List.setIfInBounds_toArray, List.set_cons_zero, List.set_cons_succ])
      refine take_E (n := 9) (i := 3) (v := ?vtt_3) rfl (by kernel_rfl) (fun _ _ _ h => h) ?hytt_3 (by rfl) hHeld ?resttt_3
      case hytt_3 => (intro w9 hSw; (try dsimp only at hSw); go_simp <;> with_reducible rfl)
      (try simp only [List.getElem_toArray, List.getElem_cons_zero, List.getElem_cons_succ, Act.put, List.setIfInBounds_toArray, List.set_cons_zero, List.set_cons_succ])
      refine take_E (n := 9) (i := 4) (v := ?vtt_4) rfl (by kernel_rfl) (fun _ _ _ h => h) ?hytt_4 (by rfl) hHeld ?resttt_4
      case hytt_4 => (intro w9 hSw; (try dsimp only at hSw); go_simp <;> with_reducible rfl)
      (try simp only [List.getElem_toArray, List.getElem_cons_zero, List.getElem_cons_succ, Act.put, List.setIfInBounds_toArray, List.set_cons_zero, List.set_cons_succ])
      refine take_E (n := 9) (i := 5) (v := ?vtt_5) rfl (by kernel_rfl) (fun _ _ _ h => h) ?hytt_5 (by rfl) hHeld ?resttt_5
      case hytt_5 => (intro w9 hSw; (try dsimp only at hSw); go_simp <;> with_reducible rfl)
      (try simp only [List.getElem_toArray, List.getElem_cons_zero, List.getElem_cons_succ, Act.put, List.setIfInBounds_toArray, List.set_cons_zero, List.set_cons_succ])
      refine take_E (n := 9) (i := 6) (v := ?vtt_6) rfl (by kernel_rfl) (fun _ _ _ h => h) ?hytt_6 (by rfl) hHeld ?resttt_6
      case hytt_6 => (intro w9 hSw; (try dsimp only at hSw); go_simp <;> with_reducible rfl)
      (try simp only [List.getElem_toArray, List.getElem_cons_zero, List.getElem_cons_succ, Act.put, List.setIfInBounds_toArray, List.set_cons_zero, List.set_cons_succ])
      refine take_E (n := 9) (i := 7) (v := ?vtt_7) rfl (by kernel_rfl) (fun _ _ _ h => h) ?hytt_7 (by rfl) hHeld ?resttt_7
      case hytt_7 => (intro w9 hSw; (try dsimp only at hSw); go_simp <;> with_reducible rfl)
      (try simp only [List.getElem_toArray, List.getElem_cons_zero, List.getElem_cons_succ, Act.put, List.setIfInBounds_toArray, List.set_cons_zero, List.set_cons_succ])
      refine one_E (n := 9) (i := 8) (by kernel_rfl) rfl (fun K hK => ?_)
      go_simp
      refine hK.out _ _ (fun _ => HHd.out _ (HXd.out.on (below1 wd _)) (block_alloc HGd.out _)) (fun hHeld8 => ?_)
      clear hK K
      (try simp only [List.getElem_toArray, List.getElem_cons_zero, List.getElem_cons_succ, Act.put, List.setIfInBounds_toArray, List.set_cons_zero, List.set_cons_succ])
      refine one_E (n := 9) (i := 9) (by kernel_rfl) rfl (fun K hK => ?_)
      refine step_append_lies _ (by rfl) _ _ _ (by rfl) w2.heap.size 3 i0 _ 1 8 Try.underlying23 hi0 z0 z1 z2 rfl (by omega) v _ _ (by rfl) (HXd.out.on (below1 wd _)).own ⟨wd.heap.size, 0, none⟩ 1 1 [.int .i64 x] (by rfl) (by rfl) (World.news_of_block (cs := #[.int .i64 x]) (t := 3) (fr := (0, 0)) (heap_alloc_new wd _)) (by simp [Value.oneCell']) (by omega) (by simp; unfold maxLen; omega) (by simp; omega) (by have := HXd.out.size; simp; omega) (wd.heap.size + 1) (by simp) ?_
      intro gg cap' p2 hown2 hgrow hat hlt3
      obtain ⟨hbx, hxn⟩ := HXd.out.push hown2 hgrow
      have hlk : ((G.take k).map (hxF ff m)).length = k := by rw [List.length_map, List.length_take]; omega
      rw [hlk] at hxn
      have HXn := Lib.hid hxn
      obtain ⟨e1, e2, ef⟩ := cells_two hbx
      clear hown2 hgrow hat hxn hbx
      refine hK.out _ _ (fun h => absurd h (by decide)) (fun hHeld9 => ?_)
      clear hK K
      (try simp only [List.getElem_toArray, List.getElem_cons_zero, List.getElem_cons_succ, Act.put, List.setIfInBounds_toArray, List.set_cons_zero, List.set_cons_succ])
      refine one_E (n := 9) (i := 10) (by kernel_rfl) rfl (fun K hK => ?_)
      go_simp
      refine hK.out _ _ (fun h => absurd h (by decide)) (fun hHeld10 => ?_)
      clear hK K
      (try simp only [List.getElem_toArray, List.getElem_cons_zero, List.getElem_cons_succ, Act.put, List.setIfInBounds_toArray, List.set_cons_zero, List.set_cons_succ])
      refine one_E (n := 9) (i := 11) (by kernel_rfl) rfl (fun K hK => ?_)
      go_simp
      refine hK.out _ _ (fun h => absurd h (by decide)) (fun hHeld11 => ?_)
      clear hK K
      (try simp only [List.getElem_toArray, List.getElem_cons_zero, List.getElem_cons_succ, Act.put, List.setIfInBounds_toArray, List.set_cons_zero, List.set_cons_succ])
      refine done_E (by kernel_rfl) ?_ _
      go_wp2
      go_roundw
      case rel => exact ⟨k + 1, _, by go_num, by omega, by rw [HN.out]; exact HXn.out⟩
      case measure => simp [intOf]; omega
    · obtain rfl : k = G.length := by omega
      have hk3 : ¬ (G.length : Int) < (G.length : Int) := by omega
      have HE := Lib.hid HP.out
      rw [HE.out] at HX
      obtain ⟨A0, l0, c0, rfl⟩ := ownsRow_slice HX.out.own
      obtain ⟨e0, e1, ef⟩ := cells_two HX.out.box
      have HRr := Lib.hid ((HX.out.keep w.heap.size (by omega) (by omega)).trans HR2.out)
      obtain ⟨r0, r1, rf⟩ := cells_two HRr.out
      have HRs := Lib.hid (two_setC HRr.out (.int .i64 (n : Int)) (.slice A0 l0 c0))
      obtain ⟨s0, s1, sf⟩ := cells_two HRs.out
      have HO := Lib.hid (own_base (show w.heap.size + 2 ≤ w2.heap.size by omega) (ownsRow_setCell_below (ownsRow_setCell_below HX.out.own (a := ⟨w.heap.size, 0, none⟩) (by show w.heap.size < w2.heap.size; omega) (.int .i64 (n : Int))) (a := ⟨w.heap.size, 1, none⟩) (by show w.heap.size < w2.heap.size; omega) (.slice A0 l0 c0)))
      have HBe := Lib.hid ((HX.out.below.setCell (p := ⟨w.heap.size, 0, none⟩) (Nat.le_refl _) (.int .i64 (n : Int))).setCell (p := ⟨w.heap.size, 1, none⟩) (Nat.le_refl _) (.slice A0 l0 c0))
      go_wp2
      refine bodyPost_ret (v := .agg #[.int .i64 (n : Int), .slice A0 l0 c0]) ?_ rfl ⟨_, rfl, HO.out, HBe.out⟩
      simp [results, Try.results59, go_sem, s0, s1]
end Go.Proofs.Ytlagljnhbhnelaa
namespace Go.Proofs.Ytlagljnhbhnelaa
open Go.RowKit
set_option linter.unusedVariables false
set_option linter.unusedSimpArgs false

set_option maxHeartbeats 1600000 in
set_option maxRecDepth 1000000 in
theorem pprim_bad (n : Int) (E : List Int) (A : Option Addr) (c : Nat) (w : World) (hE : RdZ w w.heap.size A c E) (h : chkV n E ≠ 0) :
    Calls Try.prog 43 #[.agg #[.int .i64 n, .slice A E.length c]] w fun e w' => e = .returned (.tuple #[.agg #[.int .i64 0, .slice none 0 0], .int .i64 (chkV n E)]) ∧ Below w.heap.size w w' := by
  have X0 : Hid (((w.alloc (.cells #[.int .i64 n, .slice A E.length c] 33)).alloc (.cells #[.int .i64 0, .slice none 0 0] 33)).heap[w.heap.size]? = some (.cells #[.int .i64 n, .slice A E.length c] 33 (0, 0))) := block_alloc (heap_alloc_new w _) _
  have R0 : Hid (((w.alloc (.cells #[.int .i64 n, .slice A E.length c] 33)).alloc (.cells #[.int .i64 0, .slice none 0 0] 33)).heap[w.heap.size + 1]? = some (.cells #[.int .i64 0, .slice none 0 0] 33 (0, 0))) := by
    have := heap_alloc_new (w.alloc (.cells #[.int .i64 n, .slice A E.length c] 33)) (.cells #[.int .i64 0, .slice none 0 0] 33)
    show _ = _; simpa using this
  have B0 : Hid (Below w.heap.size w ((w.alloc (.cells #[.int .i64 n, .slice A E.length c] 33)).alloc (.cells #[.int .i64 0, .slice none 0 0] 33))) := below2 w _ _
  have HCk := Lib.hid (dckv_any n E A c ((w.alloc (.cells #[.int .i64 n, .slice A E.length c] 33)).alloc (.cells #[.int .i64 0, .slice none 0 0] 33)) ((hE.below B0.out).mono B0.out.size))
  obtain ⟨x0, x1, _⟩ := cells_two X0.out
  have hk : (chkV n E != 0) = true := by rw [bne_iff_ne]; exact h
  clear h hE
  generalize chkV n E = K at *
  go_enter Try.func43, Try.ntmps43
  go_wp2_with (first
    | (go_at_call 24; ((with_reducible refine HCk.out.mono ?_); rintro e w1 ⟨rfl, hb⟩; have R1 := Lib.hid (block_below R0.out hb); have B1 := Lib.hid (B0.out.trans (hb.mono B0.out.size)); clear hb x0 x1; obtain ⟨r0, r1, rf⟩ := cells_two R1.out))
    | fail)
  have R6 := Lib.hid (two_setC R1.out (.int .i64 0) (.slice none 0 0))
  obtain ⟨s0, s1, sf⟩ := cells_two R6.out
  have HB6 := Lib.hid ((B1.out.setCell (p := ⟨w.heap.size + 1, 0, none⟩) (by show _ ≤ w.heap.size + 1; omega) (.int .i64 0)).setCell (p := ⟨w.heap.size + 1, 1, none⟩) (by show _ ≤ w.heap.size + 1; omega) (.slice none 0 0))
  refine bodyPost_ret (v := .tuple #[.agg #[.int .i64 0, .slice none 0 0], .int .i64 K]) ?_ rfl ⟨rfl, HB6.out⟩
  simp [results, Try.results43, go_sem, s0, s1]
set_option maxHeartbeats 6400000 in
set_option maxRecDepth 1000000 in
theorem pprim_any (N C : Nat) (E : List Int) (ff : Nat → Int) (li : Nat → Nat) (A : Option Addr) (c : Nat) (w : World) (N1 : 1 ≤ N) (N2 : (N : Int) ≤ 60) (hE : RdZ w w.heap.size A c E) (hck : ckX N E = 0) (C1 : 1 ≤ C) (C2 : C ≤ N) (hC : pdV (tbV N E) C = true) (hl : ∀ f, 1 ≤ f → f < C → pdV (tbV N E) f = false)
    (hli : ∀ g ∈ gensV C, li g.1 ≤ 60 ∧ (tbV N E).getD ((g.1 + li g.1 * C) % N) 0 = ff g.1 ∧ ff g.1 ≠ -1 ∧ ∀ i, i < li g.1 → (tbV N E).getD ((g.1 + i * C) % N) 0 = -1) :
    Calls Try.prog 43 #[.agg #[.int .i64 (N : Int), .slice A E.length c]] w fun e w' => ∃ v, e = .returned (.tuple #[.agg #[.int .i64 (C : Int), v], .int .i64 0]) ∧ w'.ownsRow w.heap.size 3 1 v (hxE ff (tbM (gensV N)) C).length (zs (hxE ff (tbM (gensV N)) C)) ∧ Below w.heap.size w w' := by
  have hmf : ∀ (fn : Fn) (first cap : Array Value) (w : World), (Instr.makeFunc fn first cap).run Try.prog w = .ok (.func fn first cap) w := fun _ _ _ _ => rfl
  have HCk := Lib.hid (fun (W : World) (h : RdZ W W.heap.size A c E) => dck_any N E A c W N1 N2 h)
  rw [hck] at HCk
  have HTb := Lib.hid (fun (W : World) (h : RdZ W W.heap.size A c E) => tabr_any N E A c W N1 N2 h hck)
  have hM := (tbc_le N1 (show N ≤ 60 by omega)).2 (gensV N).length (Nat.le_refl _)
  rw [List.take_length] at hM
  have HCd := Lib.hid (fun (m : Int) (A1 : Option Addr) (c1 : Nat) (W : World) h1 h2 h3 => tcond_any (tbV N E) m C A1 c1 W h1 h2 h3 C1 (show (C : Int) ≤ 60 by omega) hC hl)
  have HCh := Lib.hid (fun (m tb fb : Nat) (W : World) h1 h2 h3 h4 => charl_any ff m C tb fb W C1 (show (C : Int) ≤ 60 by omega) h1 h2 h3 h4)
  have HLi := Lib.hid hli
  have HGb := Lib.hid (gens_facts C1 (show C ≤ 60 by omega))
  have X0 : Hid (((w.alloc (.cells #[.int .i64 (N : Int), .slice A E.length c] 33)).alloc (.cells #[.int .i64 0, .slice none 0 0] 33)).heap[w.heap.size]? = some (.cells #[.int .i64 (N : Int), .slice A E.length c] 33 (0, 0))) := block_alloc (heap_alloc_new w _) _
  have R0 : Hid (((w.alloc (.cells #[.int .i64 (N : Int), .slice A E.length c] 33)).alloc (.cells #[.int .i64 0, .slice none 0 0] 33)).heap[w.heap.size + 1]? = some (.cells #[.int .i64 0, .slice none 0 0] 33 (0, 0))) := by
    have := heap_alloc_new (w.alloc (.cells #[.int .i64 (N : Int), .slice A E.length c] 33)) (.cells #[.int .i64 0, .slice none 0 0] 33)
    show _ = _; simpa using this
  have B0 : Hid (Below w.heap.size w ((w.alloc (.cells #[.int .i64 (N : Int), .slice A E.length c] 33)).alloc (.cells #[.int .i64 0, .slice none 0 0] 33))) := below2 w _ _
  have HE0 : Hid (∀ W, Below w.heap.size w W → RdZ W W.heap.size A c E) := fun W hW => (hE.below hW).mono hW.size
  obtain ⟨x0, x1, _⟩ := cells_two X0.out
  clear hE hck hC hl hli
  generalize tbV N E = T at *
  generalize tbM (gensV N) = m at *
  go_enter Try.func43, Try.ntmps43
  go_upto_region 5 with (first
    | (go_at_call 24; ((with_reducible refine (HCk.out _ (HE0.out _ B0.out)).mono ?_); rintro e w1 ⟨rfl, hb⟩; have X1 := Lib.hid (block_below X0.out hb); have R1 := Lib.hid (block_below R0.out hb); have B1 := Lib.hid (B0.out.trans (hb.mono B0.out.size)); clear hb x0 x1; obtain ⟨x0, x1, _⟩ := cells_two X1.out))
    | (go_at_call 53; ((with_reducible refine (HTb.out _ (HE0.out _ B1.out)).mono ?_); rintro e w3 ⟨lb, rfl, hr, hl, hbd, hb⟩; have HR := Lib.hid hr; have HL := Lib.hid hl; have HBd := Lib.hid hbd; have R3 := Lib.hid (block_below R1.out hb); have B3 := Lib.hid (B1.out.trans (hb.mono B1.out.size)); clear hb hr hl hbd x0 x1))
    | fail)
  have hs3 := lt_of_block R3.out
  have T4 := Lib.hid (heap_alloc_new w3 (.cells #[.slice (some ⟨lb, 0, none⟩) T.length N, .int .i64 (m : Int)] 76))
  have R4 := Lib.hid (block_alloc R3.out (.cells #[.slice (some ⟨lb, 0, none⟩) T.length N, .int .i64 (m : Int)] 76))
  have B4 : Hid (Below w.heap.size w (w3.alloc (.cells #[.slice (some ⟨lb, 0, none⟩) T.length N, .int .i64 (m : Int)] 76))) := B3.out.alloc B3.out.size _
  have HR4 := Lib.hid ((HR.out.below (below1 w3 (.cells #[.slice (some ⟨lb, 0, none⟩) T.length N, .int .i64 (m : Int)] 76))).mono (below1 w3 (.cells #[.slice (some ⟨lb, 0, none⟩) T.length N, .int .i64 (m : Int)] 76)).size)
  generalize w3.alloc (.cells #[.slice (some ⟨lb, 0, none⟩) T.length N, .int .i64 (m : Int)] 76) = w4 at *
  generalize w3.heap.size = tb at *
  obtain ⟨t0, t1, _⟩ := cells_two T4.out
  go_upto_region 6 with (first
    | (go_at_call 54; ((with_reducible refine (HCd.out m _ _ _ HR4.out (by rw [HL.out]; exact N1) (by rw [HL.out]; omega)).mono ?_); rintro e w5 ⟨rfl, hb⟩; have B5 := Lib.hid (B4.out.trans (hb.mono B4.out.size)); have T5 := Lib.hid (block_below T4.out hb); have R5 := Lib.hid (block_below R4.out hb); have HR5 := Lib.hid ((HR4.out.below hb).mono hb.size); clear hb t0 t1))
    | fail)
  have F6 := Lib.hid (heap_alloc_new w5 (.cells #[.int .i64 (C : Int)] 3))
  have T6 := Lib.hid (block_alloc T5.out (.cells #[.int .i64 (C : Int)] 3))
  have R6 := Lib.hid (block_alloc R5.out (.cells #[.int .i64 (C : Int)] 3))
  have B6 : Hid (Below w.heap.size w (w5.alloc (.cells #[.int .i64 (C : Int)] 3))) := B5.out.alloc B5.out.size _
  have HR6 := Lib.hid ((HR5.out.below (below1 w5 (.cells #[.int .i64 (C : Int)] 3))).mono (below1 w5 (.cells #[.int .i64 (C : Int)] 3)).size)
  have hs6 : (w5.alloc (.cells #[.int .i64 (C : Int)] 3)).heap.size = w5.heap.size + 1 := by simp
  generalize w5.alloc (.cells #[.int .i64 (C : Int)] 3) = w6 at *
  generalize w5.heap.size = fb at *
  have f0 := cell_of_one F6.out
  have HQ : Hid (∀ g ∈ gensV C, ∀ V, Below w6.heap.size w6 V → Calls Try.prog 60 #[.int .i64 (g.1 : Int), .pointer (some ⟨tb, 0, none⟩), .pointer (some ⟨fb, 0, none⟩)] V fun e w' => e = .returned (.tuple #[.int .i64 (ff g.1), .int .i64 (m : Int)]) ∧ Below V.heap.size V w') := fun g hg V hV => by
    obtain ⟨h1, h2, h3, h4⟩ := HLi.out g hg
    have h5 := HGb.out.v g hg
    have h6 := lift_any T m C g.1 (li g.1) tb fb _ _ V ((HR6.out.below hV).mono hV.size) (by rw [HL.out]; exact N1) (by rw [HL.out]; omega) h5 (by omega) C1 h1 (block_below T6.out hV) (block_below F6.out hV) (by rw [HL.out, h2]; exact h3) (fun i hi => by rw [HL.out]; exact h4 i hi)
    rwa [HL.out, h2] at h6
  have HGg : Hid (∀ g ∈ gensV C, 0 ≤ ff g.1 ∧ ff g.1 ≤ 60) := fun g hg => by
    obtain ⟨h1, h2, h3, h4⟩ := HLi.out g hg
    have h5 := HBd.out ((g.1 + li g.1 * C) % N)
    rw [h2] at h5
    omega
  go_wp2_with (first
    | (go_at_call 59; ((with_reducible refine (HCh.out m tb fb _ hM.1 hM.2 HQ.out HGg.out).mono ?_); rintro e w7 ⟨v, rfl, ho, hb⟩; obtain ⟨A0, l0, cc0, rfl⟩ := ownsRow_slice ho; have HO := Lib.hid ho; have B7 := Lib.hid (B6.out.trans (hb.mono B6.out.size)); have R7 := Lib.hid (block_below R6.out hb); obtain ⟨r0, r1, rf⟩ := cells_two R7.out; clear hb ho))
    | fail)
  have hs1 := lt_of_block R6.out
  have hO2 := own_base (show w.heap.size + 2 ≤ w6.heap.size + 2 by omega) HO.out
  have R8 := Lib.hid (two_setC R7.out (.int .i64 (C : Int)) (.slice A0 l0 cc0))
  obtain ⟨s0, s1, sf⟩ := cells_two R8.out
  have HO2 := Lib.hid (own_base (show w.heap.size ≤ w.heap.size + 2 by omega) (ownsRow_setCell_below (ownsRow_setCell_below hO2 (a := ⟨w.heap.size + 1, 0, none⟩) (by show w.heap.size + 1 < w.heap.size + 2; omega) (.int .i64 (C : Int))) (a := ⟨w.heap.size + 1, 1, none⟩) (by show w.heap.size + 1 < w.heap.size + 2; omega) (.slice A0 l0 cc0)))
  have HB8 := Lib.hid ((B7.out.setCell (p := ⟨w.heap.size + 1, 0, none⟩) (by show w.heap.size ≤ w.heap.size + 1; omega) (.int .i64 (C : Int))).setCell (p := ⟨w.heap.size + 1, 1, none⟩) (by show w.heap.size ≤ w.heap.size + 1; omega) (.slice A0 l0 cc0))
  refine bodyPost_ret (v := .tuple #[.agg #[.int .i64 (C : Int), .slice A0 l0 cc0], .int .i64 0]) ?_ rfl ⟨_, rfl, HO2.out, HB8.out⟩
  simp [results, Try.results43, go_sem, s0, s1]
end Go.Proofs.Ytlagljnhbhnelaa
namespace Go.Proofs.Ytlagljnhbhnelaa
set_option linter.unusedVariables false

/-- The first i with a + i C prime to N. -/
def lfS (N C a : Nat) : Nat → Nat → Nat
  | 0, i => i
  | f + 1, i => match Nat.beq (Nat.gcd (a + i * C) N) 1 with
    | true => i
    | false => lfS N C a f (i + 1)
def lfN (N C a : Nat) : Nat := lfS N C a 60 0
theorem lfS_le (N C a : Nat) : ∀ f i, lfS N C a f i ≤ i + f
  | 0, i => Nat.le_refl _
  | f + 1, i => by
    unfold lfS
    cases Nat.beq (Nat.gcd (a + i * C) N) 1
    · have := lfS_le N C a f (i + 1)
      show lfS N C a f (i + 1) ≤ _
      omega
    · show i ≤ _; omega
theorem lfS_no (N C a : Nat) : ∀ f i j, i ≤ j → j < lfS N C a f i → Nat.gcd (a + j * C) N ≠ 1
  | 0, i, j, h1, h2 => by
    have h3 : j < i := h2
    omega
  | f + 1, i, j, h1, h2 => by
    unfold lfS at h2
    cases hb : Nat.beq (Nat.gcd (a + i * C) N) 1
    · rw [hb] at h2
      by_cases e : j = i
      · rw [e]; exact fun h => by rw [h] at hb; cases hb
      · exact lfS_no N C a f (i + 1) j (by omega) h2
    · rw [hb] at h2
      have h3 : j < i := h2
      omega
def lfOk (N C : Nat) : Bool := !(Nat.beq (N % C) 0) || (List.range C).all fun a => !(Nat.beq (Nat.gcd a C) 1) || Nat.beq (Nat.gcd (a + lfN N C a * C) N) 1
set_option maxRecDepth 1000000 in
theorem lf_all : (List.range 60).all (fun i => (List.range (i + 1)).all fun j => lfOk (i + 1) (j + 1)) = true := by decide +kernel
theorem lf_of {N C a : Nat} (N1 : 1 ≤ N) (N2 : N ≤ 60) (C1 : 1 ≤ C) (C2 : C ≤ N) (hd : N % C = 0) (ha : a < C) (hg : Nat.gcd a C = 1) : Nat.gcd (a + lfN N C a * C) N = 1 := by
  have h := List.all_eq_true.1 (List.all_eq_true.1 lf_all (N - 1) (List.mem_range.2 (by omega))) (C - 1) (List.mem_range.2 (by omega))
  rw [show N - 1 + 1 = N by omega, show C - 1 + 1 = C by omega] at h
  unfold lfOk at h
  rw [hd] at h
  have h2 := List.all_eq_true.1 h a (List.mem_range.2 ha)
  rw [hg] at h2
  exact Nat.eq_of_beq_eq_true h2
def ivOk (n : Nat) : Bool := (List.range n).all fun a => !(Nat.beq (Nat.gcd a n) 1) || (List.range n).any fun b => Nat.beq (a * b % n) (1 % n)
set_option maxRecDepth 1000000 in
theorem iv_all : (List.range 60).all (fun i => ivOk (i + 1)) = true := by decide +kernel
theorem iv_of {n a : Nat} (n1 : 1 ≤ n) (n2 : n ≤ 60) (ha : a < n) (hg : Nat.gcd a n = 1) : ∃ b, b < n ∧ a * b % n = 1 % n ∧ Nat.gcd b n = 1 := by
  have h := List.all_eq_true.1 iv_all (n - 1) (List.mem_range.2 (by omega))
  rw [show n - 1 + 1 = n by omega] at h
  have h2 := List.all_eq_true.1 h a (List.mem_range.2 ha)
  rw [hg] at h2
  obtain ⟨b, hb, h3⟩ := List.any_eq_true.1 h2
  have h4 := Nat.eq_of_beq_eq_true h3
  refine ⟨b, List.mem_range.1 hb, h4, ?_⟩
  have h5 : Nat.gcd (a * b) n = 1 := by rw [← gcd_modn, h4]; exact unit_one
  exact Nat.Coprime.coprime_mul_left h5
theorem two_m {s m : Int} (h0 : 0 ≤ s) (h1 : s < m + m) (h : s % m = 0) : s = 0 ∨ s = m := by
  by_cases hs : s < m
  · rw [Int.emod_eq_of_lt h0 hs] at h; exact Or.inl h
  · rw [show s = (s - m) + m by omega, Int.add_emod_right, Int.emod_eq_of_lt (by omega) (by omega)] at h
    exact Or.inr (by omega)
theorem ChT.one {N m : Nat} {T : List Int} (h : ChT N m T) (N1 : 1 ≤ N) : T.getD (1 % N) 0 = 0 := by
  have h2 := (h.hom (n := N) N1 (Nat.mod_self N)).one N1
  rwa [Nat.mod_mod] at h2
/-- Units that are equal modulo a period have the same value. -/
theorem ChT.per {N m C u v : Nat} {T : List Int} (h : ChT N m T) (N1 : 1 ≤ N) (N2 : N ≤ 60) (C1 : 1 ≤ C) (hp : pdV T C = true) (hu : u < N) (hv : v < N) (gu : Nat.gcd u N = 1) (gv : Nat.gcd v N = 1) (he : u % C = v % C) : T.getD u 0 = T.getD v 0 := by
  obtain ⟨p1, p2⟩ := (pdV_iff C1).1 hp
  rw [h.len] at p1 p2
  have hdv : C ∣ N := Nat.dvd_of_mod_eq_zero p1
  obtain ⟨b, hb, h1, gb⟩ := iv_of N1 N2 hv gv
  have hx : u * b % N < N := Nat.mod_lt _ N1
  have e1 : u * b % N % C = 1 % C := by
    rw [Nat.mod_mod_of_dvd _ hdv, Nat.mul_mod, he, ← Nat.mul_mod, ← Nat.mod_mod_of_dvd _ hdv, h1, Nat.mod_mod_of_dvd _ hdv]
  have q1 := p2 _ hx e1
  have q2 := (h.yes _ hx (unit_mul gu gb)).1
  have q3 := h.mul u b hu hb gu gb
  have q4 := h.mul v b hv hb gv gb
  rw [h1, h.one N1] at q4
  obtain ⟨u0, u1⟩ := h.yes u hu gu
  obtain ⟨v0, v1⟩ := h.yes v hv gv
  obtain ⟨b0, b1⟩ := h.yes b hb gb
  have r1 := two_m (s := T.getD u 0 + T.getD b 0) (m := (m : Int)) (by omega) (by omega) (by omega)
  have r2 := two_m (s := T.getD v 0 + T.getD b 0) (m := (m : Int)) (by omega) (by omega) (by omega)
  omega
/-- The values of the primitive character. -/
def pmF (T : List Int) (N C a : Nat) : Int := T.getD ((a + lfN N C a * C) % N) 0
structure PmH (N C m : Nat) (T : List Int) : Prop where
  ch : ChT N m T
  N1 : 1 ≤ N
  N2 : N ≤ 60
  C1 : 1 ≤ C
  C2 : C ≤ N
  pd : pdV T C = true
theorem PmH.dvd {N C m : Nat} {T : List Int} (h : PmH N C m T) : N % C = 0 := by
  have h1 := ((pdV_iff h.C1).1 h.pd).1
  rwa [h.ch.len] at h1
/-- The lift of a unit. -/
theorem PmH.lift {N C m a : Nat} {T : List Int} (h : PmH N C m T) (ha : a < C) (hg : Nat.gcd a C = 1) : (a + lfN N C a * C) % N < N ∧ Nat.gcd ((a + lfN N C a * C) % N) N = 1 ∧ (a + lfN N C a * C) % N % C = a := by
  refine ⟨Nat.mod_lt _ h.N1, by rw [gcd_modn]; exact lf_of h.N1 h.N2 h.C1 h.C2 h.dvd ha hg, ?_⟩
  rw [Nat.mod_mod_of_dvd _ (Nat.dvd_of_mod_eq_zero h.dvd), Nat.add_mul_mod_self_right, Nat.mod_eq_of_lt ha]
theorem PmH.at {N C m u : Nat} {T : List Int} (h : PmH N C m T) (hu : u < N) (gu : Nat.gcd u N = 1) : pmF T N C (u % C) = T.getD u 0 := by
  have hc : u % C < C := Nat.mod_lt _ h.C1
  have gc : Nat.gcd (u % C) C = 1 := by rw [gcd_modn]; exact Nat.Coprime.coprime_dvd_right (Nat.dvd_of_mod_eq_zero h.dvd) gu
  obtain ⟨h1, h2, h3⟩ := h.lift hc gc
  exact h.ch.per h.N1 h.N2 h.C1 h.pd h1 hu h2 gu h3
theorem PmH.hom {N C m : Nat} {T : List Int} (h : PmH N C m T) : HomU C m (pmF T N C) := by
  refine ⟨h.ch.m1, fun a ha hg => ?_, fun a b ha hb ga gb => ?_⟩
  · obtain ⟨h1, h2, _⟩ := h.lift ha hg
    exact h.ch.yes _ h1 h2
  · obtain ⟨a1, a2, a3⟩ := h.lift ha ga
    obtain ⟨b1, b2, b3⟩ := h.lift hb gb
    have h1 := h.at (u := (a + lfN N C a * C) % N * ((b + lfN N C b * C) % N) % N) (Nat.mod_lt _ h.N1) (unit_mul a2 b2)
    have h2 := h.ch.mul _ _ a1 b1 a2 b2
    rw [← h1, Nat.mod_mod_of_dvd _ (Nat.dvd_of_mod_eq_zero h.dvd), Nat.mul_mod, a3, b3] at h2
    exact h2
/-- The conductor of the primitive character is its modulus. -/
theorem PmH.cond {N C m : Nat} {T : List Int} (h : PmH N C m T) (hl : ∀ f, 1 ≤ f → f < C → pdV T f = false) : pdV (tbV C (hxE (pmF T N C) m C)) C = true ∧ ∀ f, 1 ≤ f → f < C → pdV (tbV C (hxE (pmF T N C) m C)) f = false := by
  have C60 : C ≤ 60 := Nat.le_trans h.C2 h.N2
  have hck := h.hom.ck h.C1 C60
  have hel := (ck_ok hck).1
  have hct := cht_of h.C1 C60 hel
  refine ⟨pdV_self hct h.C1 (one_zero h.C1 C60 hel), fun f f1 f2 => ?_⟩
  rw [← Bool.not_eq_true]
  intro hp
  obtain ⟨p1, p2⟩ := (pdV_iff f1).1 hp
  rw [hct.len] at p1 p2
  have hd1 : f ∣ C := Nat.dvd_of_mod_eq_zero p1
  have hd2 : C ∣ N := Nat.dvd_of_mod_eq_zero h.dvd
  have h9 := hl f f1 f2
  rw [← Bool.not_eq_true] at h9
  refine h9 ((pdV_iff f1).2 ⟨by rw [h.ch.len]; exact Nat.mod_eq_zero_of_dvd (Nat.dvd_trans hd1 hd2), fun a ha he => ?_⟩)
  rw [h.ch.len] at ha
  by_cases hg : Nat.gcd a N = 1
  · have hc : a % C < C := Nat.mod_lt _ h.C1
    have gc : Nat.gcd (a % C) C = 1 := by rw [gcd_modn]; exact Nat.Coprime.coprime_dvd_right hd2 hg
    have q1 := p2 _ hc (by rw [Nat.mod_mod_of_dvd _ hd1]; exact he)
    have q2 := (hct.yes _ hc gc).1
    have q3 : (tbV C (hxE (pmF T N C) m C)).getD (a % C) 0 = 0 := by omega
    have q4 := h.hom.val h.C1 C60 hc gc
    rw [q3, Int.zero_mul, h.at ha hg] at q4
    have hM := (tbc_le h.C1 C60).2 (gensV C).length (Nat.le_refl _)
    rw [List.take_length] at hM
    rcases Int.mul_eq_zero.1 q4.symm with q5 | q5
    · omega
    · omega
  · rw [h.ch.no a ha hg]; omega
def uvL : Nat → Nat → List Nat
  | 0, _ => []
  | n + 1, 0 => 1 :: List.replicate n 0
  | n + 1, k + 1 => 0 :: uvL n k
theorem sumG_zero (M : Nat) : ∀ (G : List (Nat × Nat)) (E : List Int) (n : Nat), sumG M G E (List.replicate n 0) = 0
  | [], E, n => by unfold sumG; rfl
  | g :: G, [], n => by unfold sumG; rfl
  | g :: G, x :: E, 0 => by unfold sumG; rfl
  | g :: G, x :: E, n + 1 => by
    show ((0 : Nat) : Int) * _ + sumG M G E (List.replicate n 0) = 0
    rw [sumG_zero M G E n]; simp
theorem sumG_uv (M : Nat) : ∀ (G : List (Nat × Nat)) (E : List Int) (k : Nat) (h : k < G.length) (h2 : k < E.length), G.length = E.length → sumG M G E (uvL G.length k) = E[k] * ((M / G[k].2 : Nat) : Int)
  | g :: G, x :: E, 0, _, _, _ => by
    show ((1 : Nat) : Int) * (x * _) + sumG M G E (List.replicate G.length 0) = _
    rw [sumG_zero]; simp
  | g :: G, x :: E, k + 1, h, h2, h3 => by
    show ((0 : Nat) : Int) * _ + sumG M G E (uvL G.length k) = _
    rw [sumG_uv M G E k (by simpa using h) (by simpa using h2) (by simpa using h3)]; simp
def uvOk (n : Nat) : Bool := (List.range (gensV n).length).all fun k => eqL (fdLg (lgN n) ((gensV n).getD k (0, 0)).1) (uvL (gensV n).length k).reverse
set_option maxRecDepth 1000000 in
theorem uv_all : (List.range 60).all (fun i => uvOk (i + 1)) = true := by decide +kernel
/-- The value at a generator. -/
theorem gen_val {n : Nat} {E : List Int} (n1 : 1 ≤ n) (n2 : n ≤ 60) (hck : ckX n E = 0) (k : Nat) (hk : k < (gensV n).length) (hk2 : k < E.length) : (tbV n E).getD (gensV n)[k].1 0 * ((gensV n)[k].2 : Int) = E[k] * (tbM (gensV n) : Int) := by
  obtain ⟨hl, hx⟩ := ck_ok hck
  have h := List.all_eq_true.1 uv_all (n - 1) (List.mem_range.2 (by omega))
  rw [show n - 1 + 1 = n by omega] at h
  have h2 := eqL_ok _ _ (List.all_eq_true.1 h k (List.mem_range.2 hk))
  rw [getDG _ k hk] at h2
  obtain ⟨u1, u2, _⟩ := gu_of n1 n2 _ (List.getElem_mem hk)
  have fl := lg_of n1 n2
  have hmem := fdLg_mem _ _ ((fl.un _ u1).1 u2)
  have h4 := (ag_of n1 n2 hl).at_ _ hmem
  simp only at h4
  have hul : ∀ m k, (uvL m k).length = m := by
    intro m
    induction m with
    | zero => intro k; rfl
    | succ m ih => intro k; cases k with
      | zero => show (1 :: List.replicate m 0).length = m + 1; simp
      | succ k => show (0 :: uvL m k).length = m + 1; rw [List.length_cons, ih]
  have h5 := dot_sum (M := tbM (gensV n)) (gensV n) E (uvL (gensV n).length k) [] [] hl.symm (hul _ _).symm
  rw [List.append_nil, ← h2, show dot [] [] = 0 by simp [dot], Int.add_zero] at h5
  rw [h5, sumG_uv _ _ _ k hk hk2 hl.symm] at h4
  obtain ⟨x0, x1⟩ := hx k hk2 hk
  obtain ⟨o1, o2⟩ := fl.od (gensV n)[k].2 (List.mem_reverse.2 (List.mem_map_of_mem (List.getElem_mem hk)))
  have h6 : (((gensV n)[k].2 : Nat) : Int) * ((tbM (gensV n) / (gensV n)[k].2 : Nat) : Int) = (tbM (gensV n) : Int) := by rw [← Int.natCast_mul, Nat.mul_div_cancel' (Nat.dvd_of_mod_eq_zero o1)]
  have hm := (tbc_le n1 n2).2 (gensV n).length (Nat.le_refl _)
  rw [List.take_length] at hm
  have ho0 : 0 ≤ (((gensV n)[k].2 : Nat) : Int) := Int.natCast_nonneg _
  rw [h4]
  generalize tbM (gensV n) = M at *
  generalize ((M / (gensV n)[k].2 : Nat) : Int) = d at *
  generalize (((gensV n)[k].2 : Nat) : Int) = o at *
  generalize E[k] = x at *
  have hd0 : 0 < d := by
    rcases Int.lt_or_le 0 d with hd | hd
    · exact hd
    · have : o * d ≤ 0 := Int.mul_nonpos_of_nonneg_of_nonpos ho0 hd
      omega
  have h7 : x * d < (M : Int) := by rw [← h6]; exact Int.mul_lt_mul_of_pos_right x1 hd0
  rw [Int.emod_eq_of_lt (Int.mul_nonneg x0 (by omega)) h7, Int.mul_assoc, Int.mul_comm d, h6]
/-- Extended back, the primitive character is the character itself. -/
theorem PmH.back {N C : Nat} {E : List Int} (h : PmH N C (tbM (gensV N)) (tbV N E)) (hck : ckX N E = 0) : chE (tbV C (hxE (pmF (tbV N E) N C) (tbM (gensV N)) C)) (tbM (gensV C)) N = E := by
  have C60 : C ≤ 60 := Nat.le_trans h.C2 h.N2
  obtain ⟨hl, _⟩ := ck_ok hck
  have hck2 := h.hom.ck h.C1 C60
  have hct := cht_of h.C1 C60 (ck_ok hck2).1
  have hd2 : C ∣ N := Nat.dvd_of_mod_eq_zero h.dvd
  have hM := (tbc_le h.C1 C60).2 (gensV C).length (Nat.le_refl _)
  rw [List.take_length] at hM
  have hM2 := (tbc_le h.N1 h.N2).2 (gensV N).length (Nat.le_refl _)
  rw [List.take_length] at hM2
  rw [chE_hx (N := C) hct.len]
  unfold hxE
  refine List.ext_getElem (by rw [List.length_map, hl]) fun k h1 h2 => ?_
  have hk : k < (gensV N).length := by rwa [List.length_map] at h1
  rw [List.getElem_map]
  show (tbV C (hxE (pmF (tbV N E) N C) (tbM (gensV N)) C)).getD ((gensV N)[k].1 % C) 0 * (((gensV N)[k].2 : Nat) : Int) / (tbM (gensV C) : Int) = E[k]
  obtain ⟨u1, u2, _⟩ := gu_of h.N1 h.N2 _ (List.getElem_mem hk)
  have hc : (gensV N)[k].1 % C < C := Nat.mod_lt _ h.C1
  have gc : Nat.gcd ((gensV N)[k].1 % C) C = 1 := by rw [gcd_modn]; exact Nat.Coprime.coprime_dvd_right hd2 u2
  have q1 := h.hom.val h.C1 C60 hc gc
  rw [h.at u1 u2] at q1
  have q2 := gen_val h.N1 h.N2 hck k hk h2
  generalize (tbV C (hxE (pmF (tbV N E) N C) (tbM (gensV N)) C)).getD ((gensV N)[k].1 % C) 0 = t at *
  generalize (tbV N E).getD (gensV N)[k].1 0 = y at *
  generalize tbM (gensV C) = M at *
  generalize tbM (gensV N) = m at *
  generalize (((gensV N)[k].2 : Nat) : Int) = o at *
  generalize E[k] = x at *
  have q3 : t * o = x * (M : Int) := by
    refine Int.eq_of_mul_eq_mul_right (show (m : Int) ≠ 0 by omega) ?_
    rw [Int.mul_right_comm, q1, Int.mul_right_comm, q2, Int.mul_right_comm]
  rw [q3, Int.mul_ediv_cancel _ (show (M : Int) ≠ 0 by omega)]
end Go.Proofs.Ytlagljnhbhnelaa
namespace Go.Proofs.Ytlagljnhbhnelaa
open Go.RowKit
set_option linter.unusedVariables false
set_option linter.unusedSimpArgs false

set_option maxHeartbeats 6400000 in
set_option maxRecDepth 1000000 in
theorem lpm_walk (n : Int) (E : List Int) (w : World) {A : Option Addr} {c : Nat} (hE : RdZ w w.heap.size A c E) (_ : A = none → c = 0) :
    Calls Try.prog 11 #[.agg #[.int .i64 n, .slice A E.length c]] w fun e w' => e = .returned (.bool true) ∧ Below w.heap.size w w' := by
  have HA := Lib.hid awake28_any
  have hln := hE.len
  have X0 : Hid ((w.alloc (.cells #[.int .i64 n, .slice A E.length c] 33)).heap[w.heap.size]? = some (.cells #[.int .i64 n, .slice A E.length c] 33 (0, 0))) := heap_alloc_new w _
  have B0 : Hid (Below w.heap.size w (w.alloc (.cells #[.int .i64 n, .slice A E.length c] 33))) := below1 w _
  have HE0 : Hid (∀ W, Below w.heap.size w W → RdZ W W.heap.size A c E) := fun W hW => (hE.below hW).mono hW.size
  obtain ⟨x0, x1, _⟩ := cells_two X0.out
  by_cases hl : 100 < E.length
  · have hli : 100 < (E.length : Int) := by omega
    clear hE
    go_enter Try.func11, Try.ntmps11
    go_wp2_with (first
      | (go_at_call 13; ((with_reducible refine (HA.out _).mono ?_); rintro e v1 ⟨rfl, hb⟩; have B1 := Lib.hid (B0.out.trans (hb.mono B0.out.size)); clear hb))
      | fail)
    go_ret
    exact ⟨rfl, B1.out⟩
  have hli : ¬ 100 < (E.length : Int) := by omega
  have HRc := Lib.hid (fun (W : World) (h : RdZ W W.heap.size A c E) => rchk_any n E A c W h)
  have HS0 : Hid (∀ W : World, Calls Try.prog 30 #[.agg #[.int .i64 0, .slice none 0 0], .agg #[.int .i64 0, .slice none 0 0]] W fun e w' => e = .returned (.bool true) ∧ Below W.heap.size W w') := fun W => csame_any 0 [] none none 0 0 0 0 W (rdz_nil W 0) (rdz_nil W 0) (Nat.zero_le _) (Nat.zero_le _)
  by_cases hc : chkV n E = 0
  · rw [hc] at HRc
    obtain ⟨N, rfl, N1, N2, hck⟩ := chkV_ok hc
    have N3 : N ≤ 60 := by omega
    have hct := cht_of N1 N3 (ck_ok hck).1
    obtain ⟨C, C1, C2, hC, hmin⟩ := cond_ex N1 N3 (ck_ok hck).1
    have C3 : C ≤ 60 := by omega
    have hP : PmH N C (tbM (gensV N)) (tbV N E) := ⟨hct, N1, N3, C1, C2, hC⟩
    have hM := (tbc_le N1 N3).2 (gensV N).length (Nat.le_refl _)
    rw [List.take_length] at hM
    have hgu := gu_of C1 C3
    have hL := wiE_hx (N := N) (n := C) (m := tbM (gensV N)) (T := tbV N E) (fun k => lfN N C ((gensV C).getD k (0, 0)).1) hM.1 (fun k hk => by
      try dsimp only
      rw [getDG _ k hk]
      exact (hP.hom.rng _ (hgu _ (List.getElem_mem hk)).1 (hgu _ (List.getElem_mem hk)).2.1).1) (pmF (tbV N E) N C) (fun k hk => by
      try dsimp only
      rw [getDG _ k hk]; rfl)
    have hck2 := hP.hom.ck C1 C3
    have hct2 := cht_of C1 C3 (ck_ok hck2).1
    have hback := hP.back hck
    have hcond := hP.cond hmin
    have HX : Hid (∀ W : World, RdZ W W.heap.size A c E → Calls Try.prog 43 #[.agg #[.int .i64 (N : Int), .slice A E.length c]] W fun e w' => ∃ A5 c5, e = .returned (.tuple #[.agg #[.int .i64 (C : Int), .slice A5 (hxE (pmF (tbV N E) N C) (tbM (gensV N)) C).length c5], .int .i64 0]) ∧ RdZ w' w'.heap.size A5 c5 (hxE (pmF (tbV N E) N C) (tbM (gensV N)) C) ∧ Below W.heap.size W w') := fun W hW => by
      refine (pprim_any N C E (pmF (tbV N E) N C) (lfN N C) A c W N1 N2 hW hck C1 C2 hC hmin (fun g hg => ⟨?_, rfl, ?_, fun i hi => ?_⟩)).mono fun e w' ⟨v, he, ho, hb⟩ => ?_
      · have := lfS_le N C g.1 60 0
        unfold lfN; omega
      · have := (hP.hom.rng _ (hgu g hg).1 (hgu g hg).2.1).1
        omega
      · exact hct.no _ (Nat.mod_lt _ N1) (by rw [gcd_modn]; exact lfS_no N C g.1 60 0 i (Nat.zero_le _) hi)
      · obtain ⟨A5, c5, rfl, hr⟩ := own_rdz ho
        exact ⟨A5, c5, he, hr, hb⟩
    have HW : Hid (∀ W : World, RdZ W W.heap.size A c E → Calls Try.prog 42 #[.int .i64 (C : Int), .agg #[.int .i64 (N : Int), .slice A E.length c]] W fun e w' => ∃ A5 c5, e = .returned (.agg #[.int .i64 (C : Int), .slice A5 (hxE (pmF (tbV N E) N C) (tbM (gensV N)) C).length c5]) ∧ RdZ w' w'.heap.size A5 c5 (hxE (pmF (tbV N E) N C) (tbM (gensV N)) C) ∧ Below W.heap.size W w') := fun W hW => by
      refine (rwith_any C N E (fun k => lfN N C ((gensV C).getD k (0, 0)).1) A c W C1 (by omega) N1 N2 hW hck (fun k hk => ?_)).mono fun e w' ⟨v, he, ho, hb⟩ => ?_
      · try dsimp only
        rw [getDG _ k hk]
        refine ⟨?_, lf_of N1 N3 C1 C2 hP.dvd (hgu _ (List.getElem_mem hk)).1 (hgu _ (List.getElem_mem hk)).2.1, fun i hi => lfS_no N C _ 60 0 i (Nat.zero_le _) hi⟩
        have := lfS_le N C (gensV C)[k].1 60 0
        unfold lfN; omega
      · rw [hL] at ho
        obtain ⟨A5, c5, rfl, hr⟩ := own_rdz ho
        exact ⟨A5, c5, he, hr, hb⟩
    have HRd := Lib.hid (fun (W : World) (hW : RdZ W W.heap.size A c E) => rcond_any N C E A c W N1 N2 hW hck C1 C2 hC hmin)
    have HCd := Lib.hid (fun (A5 : Option Addr) (c5 : Nat) (W : World) (hW : RdZ W W.heap.size A5 c5 (hxE (pmF (tbV N E) N C) (tbM (gensV N)) C)) => dcond_any C C _ A5 c5 W C1 (by omega) hW hck2 C1 (by omega) hcond.1 hcond.2)
    have HEx : Hid (∀ (A5 : Option Addr) (c5 : Nat) (W : World), RdZ W W.heap.size A5 c5 (hxE (pmF (tbV N E) N C) (tbM (gensV N)) C) → Calls Try.prog 41 #[.agg #[.int .i64 (C : Int), .slice A5 (hxE (pmF (tbV N E) N C) (tbM (gensV N)) C).length c5], .int .i64 (N : Int)] W fun e w' => ∃ A7 c7, e = .returned (.tuple #[.agg #[.int .i64 (N : Int), .slice A7 E.length c7], .int .i64 0]) ∧ RdZ w' w'.heap.size A7 c7 E ∧ Below W.heap.size W w') := fun A5 c5 W hW => by
      refine (ext_any C N _ A5 c5 W C1 (by omega) N1 N2 hW hck2 hP.dvd (fun g hg => ?_)).mono fun e w' ⟨v, he, ho, hb⟩ => ?_
      · have h1 := (gu_of N1 N3 g hg).2.1
        exact (hct2.yes _ (Nat.mod_lt _ C1) (by rw [gcd_modn]; exact Nat.Coprime.coprime_dvd_right (Nat.dvd_of_mod_eq_zero hP.dvd) h1)).1
      · rw [hback] at ho
        obtain ⟨A7, c7, rfl, hr⟩ := own_rdz ho
        exact ⟨A7, c7, he, hr, hb⟩
    have HSm := Lib.hid (fun (A1 A2 : Option Addr) (c1 c2 B1 B2 : Nat) (W : World) h1 h2 h3 h4 => csame_any (C : Int) (hxE (pmF (tbV N E) N C) (tbM (gensV N)) C) A1 A2 c1 c2 B1 B2 W h1 h2 h3 h4)
    have HSx := Lib.hid (fun (A1 A2 : Option Addr) (c1 c2 B1 B2 : Nat) (W : World) h1 h2 h3 h4 => csame_any (N : Int) E A1 A2 c1 c2 B1 B2 W h1 h2 h3 h4)
    clear hE hck hck2 hct hct2 hback hcond hL hP hC hmin hc hgu
    generalize hxE (pmF (tbV N E) N C) (tbM (gensV N)) C = LL at *
    go_enter Try.func11, Try.ntmps11
    go_upto_region 6 with (first
      | (go_at_call 13; ((with_reducible refine (HA.out _).mono ?_); rintro e v1 ⟨rfl, hb⟩; have B1 := Lib.hid (B0.out.trans (hb.mono B0.out.size)); have X1 := Lib.hid (block_below X0.out hb); clear x0 x1 hb; obtain ⟨x0, x1, _⟩ := cells_two X1.out))
      | (go_at_call 43; ((with_reducible refine (HX.out _ (HE0.out _ B1.out)).mono ?_); rintro e v2 ⟨A5, c5, rfl, hr5, hb⟩; have B2 := Lib.hid (B1.out.trans (hb.mono B1.out.size)); have X2 := Lib.hid (block_below X1.out hb); have P2 := Lib.hid hr5; clear x0 x1 hb hr5))
      | fail)
    have M3 := Lib.hid (heap_alloc_new v2 (.cells #[.int .i64 (C : Int), .slice A5 LL.length c5] 33))
    have X3 := Lib.hid (block_alloc X2.out (.cells #[.int .i64 (C : Int), .slice A5 LL.length c5] 33))
    have B3 : Hid (Below w.heap.size w (v2.alloc (.cells #[.int .i64 (C : Int), .slice A5 LL.length c5] 33))) := B2.out.alloc B2.out.size _
    have P3 := Lib.hid ((P2.out.below (below1 v2 (.cells #[.int .i64 (C : Int), .slice A5 LL.length c5] 33))).mono (below1 v2 (.cells #[.int .i64 (C : Int), .slice A5 LL.length c5] 33)).size)
    generalize v2.alloc (.cells #[.int .i64 (C : Int), .slice A5 LL.length c5] 33) = v3 at *
    generalize v2.heap.size = mb at *
    obtain ⟨x0, x1, _⟩ := cells_two X3.out
    go_upto_region 9 with (first
      | (go_at_call 23; ((with_reducible refine (HRc.out _ (HE0.out _ B3.out)).mono ?_); rintro e v4 ⟨rfl, hb⟩; have B4 := Lib.hid (B3.out.trans (hb.mono B3.out.size)); have M4 := Lib.hid (block_below M3.out hb); have X4 := Lib.hid (block_below X3.out hb); have P4 := Lib.hid ((P3.out.below hb).mono hb.size); clear x0 x1 hb))
      | fail)
    have HKc : Hid (∀ W, Below v4.heap.size v4 W → W.cell? ⟨mb, 0, none⟩ = some (.int .i64 (C : Int)) ∧ W.cell? ⟨mb, 1, none⟩ = some (.slice A5 LL.length c5) ∧ W.cell? ⟨w.heap.size, 0, none⟩ = some (.int .i64 (N : Int)) ∧ W.cell? ⟨w.heap.size, 1, none⟩ = some (.slice A E.length c)) := fun W hW => ⟨(cells_two (block_below M4.out hW)).1, (cells_two (block_below M4.out hW)).2.1, (cells_two (block_below X4.out hW)).1, (cells_two (block_below X4.out hW)).2.1⟩
    have D4 : Hid (Below v4.heap.size v4 v4.drew) := Below.drew (Below.refl _ _)
    go_region_held3 (fun W => W.cell? ⟨mb, 0, none⟩ = some (.int .i64 (C : Int)) ∧ W.cell? ⟨mb, 1, none⟩ = some (.slice A5 LL.length c5) ∧ W.cell? ⟨w.heap.size, 0, none⟩ = some (.int .i64 (N : Int)) ∧ W.cell? ⟨w.heap.size, 1, none⟩ = some (.slice A E.length c))
      (with_reducible first | exact HKc.out _ D7.out | exact HKc.out _ D6.out | exact HKc.out _ D5.out | exact HKc.out _ D4.out | fail)
      (first
        | (go_at_call 26; ((with_reducible refine (HRd.out _ (HE0.out _ (B4.out.trans (D4.out.mono B4.out.size)))).mono ?_); rintro e v5 ⟨rfl, hb⟩; have D5 := Lib.hid (D4.out.trans (hb.mono D4.out.size)); clear hb))
        | (go_at_call 42; ((with_reducible refine (HW.out _ (HE0.out _ (B4.out.trans (D5.out.mono B4.out.size)))).mono ?_); rintro e v6 ⟨A6, c6, rfl, hr6, hb⟩; have D6 := Lib.hid (D5.out.trans (hb.mono D5.out.size)); have P6 := Lib.hid hr6; clear hr6 hb))
        | (go_at_call 30; ((with_reducible refine (HSm.out _ _ _ _ _ _ _ ((P4.out.below D6.out).mono D6.out.size) P6.out (Nat.le_refl _) (Nat.le_refl _)).mono ?_); rintro e v7 ⟨rfl, hb⟩; have D7 := Lib.hid (D6.out.trans (hb.mono D6.out.size)); clear hb))
        | fail)
    have B7 := Lib.hid (B4.out.trans (D7.out.mono B4.out.size))
    have X7 := Lib.hid (block_below X4.out D7.out)
    have M7 := Lib.hid (block_below M4.out D7.out)
    have P7 := Lib.hid ((P4.out.below D7.out).mono D7.out.size)
    clear HKc
    obtain ⟨x0, x1, _⟩ := cells_two X7.out
    obtain ⟨m0, m1', _⟩ := cells_two M7.out
    go_upto_region 13 with (first
      | (go_at_call 21; ((with_reducible refine (HCd.out _ _ _ P7.out).mono ?_); rintro e v8 ⟨rfl, hb⟩; have B8 := Lib.hid (B7.out.trans (hb.mono B7.out.size)); have X8 := Lib.hid (block_below X7.out hb); have M8 := Lib.hid (block_below M7.out hb); have P8 := Lib.hid ((P7.out.below hb).mono hb.size); clear x0 x1 m0 m1' hb; obtain ⟨x0, x1, _⟩ := cells_two X8.out; obtain ⟨m0, m1', _⟩ := cells_two M8.out))
      | (go_at_call 41; ((with_reducible refine (HEx.out _ _ _ P8.out).mono ?_); rintro e v9 ⟨A7, c7, rfl, hr7, hb⟩; have B9 := Lib.hid (B8.out.trans (hb.mono B8.out.size)); have X9 := Lib.hid (block_below X8.out hb); have M9 := Lib.hid (block_below M8.out hb); have P9 := Lib.hid hr7; clear x0 x1 m0 m1' hb hr7))
      | fail)
    have Z10 := Lib.hid (heap_alloc_new v9 (.cells #[.int .i64 (N : Int), .slice A7 E.length c7] 33))
    have X10 := Lib.hid (block_alloc X9.out (.cells #[.int .i64 (N : Int), .slice A7 E.length c7] 33))
    have M10 := Lib.hid (block_alloc M9.out (.cells #[.int .i64 (N : Int), .slice A7 E.length c7] 33))
    have B10 : Hid (Below w.heap.size w (v9.alloc (.cells #[.int .i64 (N : Int), .slice A7 E.length c7] 33))) := B9.out.alloc B9.out.size _
    have P10 := Lib.hid ((P9.out.below (below1 v9 (.cells #[.int .i64 (N : Int), .slice A7 E.length c7] 33))).mono (below1 v9 (.cells #[.int .i64 (N : Int), .slice A7 E.length c7] 33)).size)
    generalize v9.alloc (.cells #[.int .i64 (N : Int), .slice A7 E.length c7] 33) = v10 at *
    generalize v9.heap.size = zb at *
    obtain ⟨x0, x1, _⟩ := cells_two X10.out
    obtain ⟨m0, m1', _⟩ := cells_two M10.out
    obtain ⟨z0, z1, _⟩ := cells_two Z10.out
    go_wp2_with (first
      | (go_at_call 30; ((with_reducible refine (HSx.out _ _ _ _ _ _ _ P10.out (HE0.out _ B10.out) (Nat.le_refl _) (Nat.le_refl _)).mono ?_); rintro e v11 ⟨rfl, hb⟩; have B11 := Lib.hid (B10.out.trans (hb.mono B10.out.size)); clear hb))
      | fail)
    go_ret
    exact ⟨by first | rfl | simp, B11.out⟩
  · have HX := Lib.hid (fun (W : World) (hW : RdZ W W.heap.size A c E) => pprim_bad n E A c W hW hc)
    have hk0 : (chkV n E != 0) = true := by rw [bne_iff_ne]; exact hc
    have hk1 : (chkV n E == 0) = false := by rw [beq_eq_false_iff_ne]; exact hc
    clear hc hE
    generalize chkV n E = KK at *
    go_enter Try.func11, Try.ntmps11
    go_upto_region 6 with (first
      | (go_at_call 13; ((with_reducible refine (HA.out _).mono ?_); rintro e v1 ⟨rfl, hb⟩; have B1 := Lib.hid (B0.out.trans (hb.mono B0.out.size)); have X1 := Lib.hid (block_below X0.out hb); clear x0 x1 hb; obtain ⟨x0, x1, _⟩ := cells_two X1.out))
      | (go_at_call 43; ((with_reducible refine (HX.out _ (HE0.out _ B1.out)).mono ?_); rintro e v2 ⟨rfl, hb⟩; have B2 := Lib.hid (B1.out.trans (hb.mono B1.out.size)); have X2 := Lib.hid (block_below X1.out hb); clear x0 x1 hb))
      | fail)
    have M3 := Lib.hid (heap_alloc_new v2 (.cells #[.int .i64 0, .slice none 0 0] 33))
    have X3 := Lib.hid (block_alloc X2.out (.cells #[.int .i64 0, .slice none 0 0] 33))
    have B3 : Hid (Below w.heap.size w (v2.alloc (.cells #[.int .i64 0, .slice none 0 0] 33))) := B2.out.alloc B2.out.size _
    generalize v2.alloc (.cells #[.int .i64 0, .slice none 0 0] 33) = v3 at *
    generalize v2.heap.size = mb at *
    obtain ⟨x0, x1, _⟩ := cells_two X3.out
    go_wp2_with (first
      | (go_at_call 23; ((with_reducible refine (HRc.out _ (HE0.out _ B3.out)).mono ?_); rintro e v4 ⟨rfl, hb⟩; have B4 := Lib.hid (B3.out.trans (hb.mono B3.out.size)); have M4 := Lib.hid (block_below M3.out hb); clear x0 x1 hb; obtain ⟨m0, m1', _⟩ := cells_two M4.out))
      | (go_at_call 30; ((with_reducible refine (HS0.out _).mono ?_); rintro e v7 ⟨rfl, hb⟩; have B7 := Lib.hid (B4.out.trans (hb.mono B4.out.size)); clear hb))
      | fail)
    go_ret
    exact ⟨by first | rfl | simp, B7.out⟩
end Go.Proofs.Ytlagljnhbhnelaa
