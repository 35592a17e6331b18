/- CuspsComplete answers true for all integers, all cusps and all matrices. -/
import Derived.Test.YtfojlanjhdifoaaWidL
import Derived.Test.YtfojlanjhdifoaaHasA
import Derived.Test.YtfojlanjhdifoaaAwakeL
import Derived.Test.YtfojlanjhdifoaaEqM
import Derived.Test.YtfojlanjhdifoaaCmpN
import Derived.Deep.RegionHeld3
import Derived.Deep.DeepCutAuto
import Derived.Deep.CutBlock
namespace Go.Proofs.Ytfojlanjhdifoaa
open Go.RowKit
set_option linter.unusedVariables false

theorem ck1_cusp {p q : Int} (h : ck1 p q = 0) : cuspI p q = 0 := by
  rcases ck1_cases p q with ⟨h', e⟩ | ⟨h', h1, e⟩ | ⟨h', h1, h2, e⟩ | ⟨h', h1, h2, h3, e⟩ | ⟨h', h1, h2, h3, e⟩
  · rw [e] at h; exact absurd h h'
  all_goals exact h'
/-- Equal0 of a cusp and one of the list: the condition. -/
theorem equal0_L0 {n : Nat} {p q : Int} {c : Int × Int} {t : Nat} {r m : Int} (n1 : 1 ≤ n) (n2 : n ≤ 120) (hl : lvI n = 0) (hk : ck1 p q = 0) (hQ : CQ n p q t r m) (h : c ∈ L0 n) (w : World) :
    Calls Try.prog 10 #[.int .i64 n, .agg #[.int .i64 p, .int .i64 q], .agg #[.int .i64 c.1, .int .i64 c.2]] w fun e w' => ∃ m1 m2 m3 m4, e = .returned (.tuple #[.bool (condB t (Nat.gcd t (n / t) : Nat) p r c), .agg #[.int .i64 m1, .int .i64 m2, .int .i64 m3, .int .i64 m4], .int .i64 0]) ∧ Below w.heap.size w w' := by
  obtain ⟨p', d, rfl, h1, hd, _, h2, h3, h4⟩ := mem_L0 n1 n2 h
  have hK : ckI n p q p' d = 0 := by unfold ckI; rw [if_pos hl, if_pos hk]; exact ck1_L0 h1 h2 h3 h4
  refine (equal0_any n p q p' d w).mono ?_
  rintro e w' ⟨b, m1, m2, m3, m4, z, hE, rfl, hb⟩
  obtain rfl : z = 0 := by
    cases hE with
    | err e => exact absurd hK e
    | yes => rfl
    | no => rfl
  exact ⟨m1, m2, m3, m4, by rw [EqE.cond hE rfl hQ h1 hd], hb⟩
/-- The cells that the round reads. -/
structure KP (w3 : World) (g b o : Nat) (p q p' q' : Int) : Prop where
  x : Two w3 g p q
  lb : b < w3.heap.size
  y1 : w3.cell? ⟨b, o, none⟩ = some (.int .i64 p')
  y2 : w3.cell? ⟨b, o + 1, none⟩ = some (.int .i64 q')
theorem KP.at_ {w3 w' : World} {g b o : Nat} {p q p' q' : Int} (h : KP w3 g b o p q p' q') (hb : Below w3.heap.size w3 w') : (w'.cell? ⟨g, 0, none⟩ = some (.int .i64 p) ∧ w'.cell? ⟨g, 1, none⟩ = some (.int .i64 q)) ∧ (w'.cell? ⟨b, o, none⟩ = some (.int .i64 p') ∧ w'.cell? ⟨b, o + 1, none⟩ = some (.int .i64 q')) :=
  ⟨(h.x.below hb).cells, (hb.cell (p := ⟨b, o, none⟩) h.lb).trans h.y1, (hb.cell (p := ⟨b, o + 1, none⟩) h.lb).trans h.y2⟩
theorem bel_al {w3 wr : World} (hb : Below w3.heap.size w3 wr) (o : Obj) : Below w3.heap.size w3 (wr.alloc o) := hb.alloc hb.size o
theorem cnt_next (f : Int × Int → Bool) (C : List (Int × Int)) {i : Nat} (h : i < C.length) : (C.take (i + 1)).countP f = (C.take i).countP f + if f C[i] = true then 1 else 0 := by
  rw [List.take_add_one, List.getElem?_eq_getElem h, Option.toList_some, List.countP_append, List.countP_singleton]
set_option maxHeartbeats 6400000 in
set_option maxRecDepth 1000000 in
theorem complete_walk (n p q a b c d : Int) (w : World) :
    Calls Try.prog 4 #[.int .i64 n, .agg #[.int .i64 p, .int .i64 q], .agg #[.int .i64 a, .int .i64 b, .int .i64 c, .int .i64 d]] w fun e w' => e = .returned (.bool true) ∧ Below w.heap.size w w' := by
  have HL := Lib.hid (fun W => list0_all n W)
  have HV := Lib.hid (fun W => width0_any n p q W)
  by_cases hz : lvI n = 0 ∧ ckW n p q = 0
  case neg =>
    have hz' : ¬ lvI n = 0 ∨ lvI n = 0 ∧ ¬ ckW n p q = 0 := by
      by_cases h : lvI n = 0
      · exact .inr ⟨h, fun h' => hz ⟨h, h'⟩⟩
      · exact .inl h
    clear hz
    generalize L0I n = C at *
    generalize lvI n = z at *
    generalize wdI n p q = v at *
    generalize ckW n p q = k at *
    rcases hz' with hz | ⟨rfl, hz⟩
    all_goals
      go_enter Try.func4, Try.ntmps4
      go_wp2_with (first
        | (go_at_call 5; ((with_reducible refine (awake_any _).mono ?_); rintro e w1 ⟨rfl, hb⟩; have T : Hid (Two w1 w.heap.size p q) := ((Two.at w rfl p q).alloc _).below hb; have HB1 := Lib.hid (bel2 (Below.refl _ _) hb); clear hb))
        | (go_at_call 8; ((with_reducible refine (HL.out _).mono ?_); rintro e w2 ⟨A, cp, rfl, hr, hb⟩; have HB2 := Lib.hid (bel0 HB1.out hb); have T2 := Lib.hid (T.out.below hb); obtain ⟨c1, c2⟩ := T2.out.cells; have hzz := T2.out.lt; clear hb hr))
        | (go_at_call 6; ((with_reducible refine (HV.out _).mono ?_); rintro e w3 ⟨rfl, hb⟩; have HB3 := Lib.hid (bel0 HB2.out hb); clear hb c1 c2 hzz))
        | fail)
      go_ret
      exact ⟨rfl, HB3.out⟩
  obtain ⟨hl, hk⟩ := hz
  obtain ⟨_, hc1, _, _, q0, q1⟩ := ckW_zero hk
  obtain ⟨s, rfl, n1, n2⟩ := lv_nat hl
  have HQ : ∃ t r m, CQ s p q t r m := by
    obtain ⟨x, y, e⟩ := bez p q
    rw [(low_gcd' (ck1_cusp hc1)).1] at e
    exact cq_of (B := -y) (D := x) n1 (by omega) (by rw [Int.neg_mul, Int.mul_comm y q]; omega)
  obtain ⟨t, r, m, hQ⟩ := HQ
  obtain ⟨f, hf⟩ : ∃ f, f = condB t (Nat.gcd t (s / t) : Nat) p r := ⟨_, rfl⟩
  have HX : Hid (∀ (x : Int × Int), x ∈ L0 s → ∀ W, Calls Try.prog 10 #[.int .i64 s, .agg #[.int .i64 p, .int .i64 q], .agg #[.int .i64 x.1, .int .i64 x.2]] W fun e w' => ∃ m1 m2 m3 m4, e = .returned (.tuple #[.bool (f x), .agg #[.int .i64 m1, .int .i64 m2, .int .i64 m3, .int .i64 m4], .int .i64 0]) ∧ Below W.heap.size W w') := fun x hx W => by
    rw [hf]; exact equal0_L0 n1 (by omega) hl hc1 hQ hx W
  have HN : Hid ((L0 s).countP f = 1) := by show _ = _; rw [hf]; exact hQ.cnt
  have hlen : (L0 s).length ≤ 14641 := len_L0 n1 (by omega)
  have HH := Lib.hid (fun W => hasG_any (s : Int) a b c d W (by omega) n2)
  obtain ⟨u, v, k2, hA⟩ : ∃ u v k2, appE a b c d p q = (u, v, k2) := ⟨_, _, _, rfl⟩
  have HA := Lib.hid (fun W => apply_any a b c d p q u v k2 W hA)
  have HI : Hid (∀ (m1 m2 m3 m4 z : Int) (tb : Bool), k2 = 0 → fitB a b c d = true → a * d - b * c = 1 → (s : Int) ∣ c → EqE s p q u v tb m1 m2 m3 m4 z → z = 2 ∨ (z = 0 ∧ tb = true)) := fun m1 m2 m3 m4 z tb h1 h2 h3 h4 hE => by
    subst h1
    exact EqE.img hE h2 h3 h4 hl hc1 hA
  rw [hl, show L0I s = L0 s from by unfold L0I; rw [if_pos hl]; rfl] at HL
  rw [hk] at HV
  clear hQ hf hA hl hk hc1
  generalize hC : L0 s = C at *
  clear hC
  generalize wdI s p q = v0 at *
  go_enter Try.func4, Try.ntmps4
  go_wp2_with (first
    | (go_at_call 5; ((with_reducible refine (awake_any _).mono ?_); rintro e w1 ⟨rfl, hb⟩; have T : Hid (Two w1 w.heap.size p q) := ((Two.at w rfl p q).alloc _).below hb; have M : Hid (Four w1 (w.heap.size + 1) a b c d) := (Four.at (w.alloc _) (by simp) a b c d).below hb; have HB1 := Lib.hid (bel2 (Below.refl _ _) hb); clear hb))
    | (go_at_call 8; ((with_reducible refine (HL.out _).mono ?_); rintro e w2 ⟨A, cp, rfl, hr, hb⟩; have HB2 := Lib.hid (bel0 HB1.out hb); have T2 := Lib.hid (T.out.below hb); have M2 := Lib.hid (M.out.below hb); have HD2 := Lib.hid hr; obtain ⟨c1, c2⟩ := T2.out.cells; have hzz := T2.out.lt; clear hb hr))
    | (go_at_call 6; ((with_reducible refine (HV.out _).mono ?_); rintro e w3 ⟨rfl, hb⟩; have HB3 := Lib.hid (bel0 HB2.out hb); have T3 := Lib.hid (T2.out.below hb); have M3 := Lib.hid (M2.out.below hb); have HD : Hid (RdC w3 w3.heap.size A cp C) := (HD2.out.below hb).mono hb.size; clear hb c1 c2 hzz))
    | fail)
  go_loopw [11, 12, 13, 14, 15] (fun K I _ _ _ wr => ∃ i : Nat, I = .int .i64 (i : Nat) ∧ i ≤ C.length ∧ K = .int .i64 ((C.take i).countP f : Nat) ∧ Hid (Below w3.heap.size w3 wr)) (fun _ I _ _ _ _ => C.length - (intOf I).toNat)
  case atStart => exact ⟨0, rfl, Nat.zero_le _, by simp, Below.refl _ _⟩
  case round =>
    obtain ⟨i, rfl, hi, rfl, HW⟩ := hrel
    by_cases hil : i < C.length
    · have hili : (i : Int) < (C.length : Int) := by omega
      obtain ⟨g, o, rfl, hgg, y1, y2⟩ := HD.out.at_ hil
      have HK : Hid (KP w3 w.heap.size g (o + i * 2) p q C[i].1 C[i].2) := ⟨T3.out, hgg, y1, y2⟩
      have HNx := Lib.hid (cnt_next f C hil)
      have HXi := Lib.hid (fun W => HX.out C[i] (List.getElem_mem hil) W)
      have h1 : (C.take i).countP f ≤ i := Nat.le_trans List.countP_le_length (by rw [List.length_take]; omega)
      clear y1 y2
      generalize f C[i] = tb at *
      generalize C[i].1 = p' at *
      generalize C[i].2 = q' at *
      generalize (C.take i).countP f = x at *
      have hsz := HW.out.size
      go_upto_region 11 with fail
      go_cut [13, 15] (fun s13 s15 wx => s13 = .bool tb ∧ s15 = .int .i64 0 ∧ Hid (Below w3.heap.size w3 wx))
      case first =>
        have B_0 : Hid (Below w3.heap.size w3 wr.drew) := HW.out.drew
        have B_0a : Hid (Below w3.heap.size w3 (wr.alloc (.cells #[.int .i64 0, .int .i64 0, .int .i64 0, .int .i64 0] 39)).drew) := (bel_al HW.out _).drew
        have M_0a : Hid (Four (wr.alloc (.cells #[.int .i64 0, .int .i64 0, .int .i64 0, .int .i64 0] 39)).drew wr.heap.size 0 0 0 0) := (Four.at wr rfl 0 0 0 0).drew
        go_region_held3 (fun w' => (w'.cell? ⟨w.heap.size, 0, none⟩ = some (.int .i64 p) ∧ w'.cell? ⟨w.heap.size, 1, none⟩ = some (.int .i64 q)) ∧ (w'.cell? ⟨g, o + i * 2, none⟩ = some (.int .i64 p') ∧ w'.cell? ⟨g, o + i * 2 + 1, none⟩ = some (.int .i64 q')))
          (with_reducible first | exact KP.at_ HK.out (below_set4 B_1.out hsz _ _ _ _) | exact KP.at_ HK.out (below_set4 (bel_al B_1.out _) B_1.out.size _ _ _ _) | exact KP.at_ HK.out B_0.out | exact KP.at_ HK.out B_0a.out | exact KP.at_ HK.out B_1.out | exact KP.at_ HK.out (bel_al B_1.out _) | fail)
          (first
            | (go_at_call 10; ((with_reducible refine (HXi.out _).mono ?_); rintro e z1 ⟨m1, m2, m3, m4, rfl, hb⟩; have B_1 : Hid (Below w3.heap.size w3 z1) := (by with_reducible first | exact Lib.hid (bel0 B_0.out hb) | exact Lib.hid (bel0 B_0a.out hb) | fail); (try (with_reducible (first | have M_1 := Lib.hid (Four.below M_0a.out hb) | fail))); (try (have m0 := M_1.out.cells; obtain ⟨k1, k2, k3, k4⟩ := m0; have mf := M_1.out.free)); clear hb))
            | fail)
        all_goals
          go_wp2_with fail
          go_meet
          first
            | exact ⟨rfl, rfl, bel_al B_1.out _⟩
            | exact ⟨rfl, rfl, below_set4 B_1.out hsz _ _ _ _⟩
            | fail
      case rest =>
        obtain ⟨rfl, rfl, HW2⟩ := hcut
        cases tb with
        | false =>
          go_wp2
          go_roundw
          case rel => exact ⟨i + 1, by go_num, by omega, by rw [HNx.out]; rfl, HW2.out⟩
          case measure => simp [intOf]; omega
        | true =>
          go_wp2
          go_roundw
          case rel => exact ⟨i + 1, by go_num, by omega, by rw [HNx.out]; go_num, HW2.out⟩
          case measure => simp [intOf]; omega
    · obtain rfl : i = C.length := by omega
      have hk3 : ¬ (C.length : Int) < (C.length : Int) := by omega
      have HZ : Hid ((C.take C.length).countP f = 1) := by show _ = _; rw [List.take_length]; exact HN.out
      rw [HZ.out]
      have T4 := Lib.hid (T3.out.below HW.out)
      have M4 := Lib.hid (M3.out.below HW.out)
      have HB4 : Hid (Below w.heap.size w wr) := bel0 HB3.out HW.out
      obtain ⟨x1, x2, x3, x4⟩ := M4.out.cells
      have hz4 := M4.out.lt
      go_upto_region 20 with (first
        | (go_at_call 11; ((with_reducible refine (HH.out _).mono ?_); rintro e w5 ⟨tb, k, rfl, himp, hb⟩; have T5 := Lib.hid (T4.out.below hb); have M5 := Lib.hid (M4.out.below hb); have HB5 := Lib.hid (bel0 HB4.out hb); have HJ := Lib.hid himp; clear hb himp x1 x2 x3 x4 hz4; obtain ⟨x1, x2, x3, x4⟩ := M5.out.cells; obtain ⟨c1, c2⟩ := T5.out.cells; have hz4 := M5.out.lt; have hz5 := T5.out.lt))
        | (go_at_call 12; ((with_reducible refine (HA.out _).mono ?_); rintro e w6 ⟨rfl, hb⟩; have T6 := Lib.hid (T5.out.below hb); have HB6 := Lib.hid (bel0 HB5.out hb); clear hb x1 x2 x3 x4 c1 c2 hz4 hz5; obtain ⟨c1, c2⟩ := T6.out.cells; have hz5 := T6.out.lt))
        | fail)
      have hsz6 := HB6.out.size
      by_cases hk : k = 0
      case neg =>
        go_wp2
        go_ret
        exact ⟨rfl, HB6.out.alloc hsz6 _⟩
      by_cases hk2 : k2 = 0
      case neg =>
        subst hk
        go_wp2
        go_ret
        exact ⟨rfl, HB6.out.alloc hsz6 _⟩
      subst hk hk2
      cases tb with
      | false =>
        go_wp2
        go_ret
        exact ⟨rfl, HB6.out.alloc hsz6 _⟩
      | true =>
        obtain ⟨j1, j2, j3⟩ := HJ.out rfl rfl
        have HG : Hid (∀ (m1 m2 m3 m4 z : Int) (tb : Bool), EqE s p q u v tb m1 m2 m3 m4 z → z = 2 ∨ (z = 0 ∧ tb = true)) := fun m1 m2 m3 m4 z tb => HI.out m1 m2 m3 m4 z tb rfl j1 j2 j3
        clear j1 j2 j3
        go_upto_region 23 with (first
          | (go_at_call 10; ((with_reducible refine (equal0_any s p q u v _).mono ?_); rintro e w7 ⟨t7, m1, m2, m3, m4, z7, hE, rfl, hb⟩; have HE := Lib.hid (HG.out m1 m2 m3 m4 z7 t7 hE); have HB7 := Lib.hid (bel1 HB6.out hb); clear hb hE c1 c2 hz5))
          | fail)
        have hsz7 := HB7.out.size
        rcases HE.out with rfl | ⟨rfl, rfl⟩
        all_goals
          go_wp2
          go_ret
          exact ⟨rfl, HB7.out.alloc hsz7 _⟩
end Go.Proofs.Ytfojlanjhdifoaa
