/- Lists of cusps in memory: made, read, compared (out of wip/cf). -/
import Derived.Test.YtdgfdbifeopiaaaBoxL
import Derived.Test.YtdgfdbifeopiaaaCuP
import Derived.Deep.Cut
import Derived.WalkSmall
namespace Go.Proofs.Ytdgfdbifeopiaaa
open Go.RowKit

theorem Try.infoCusp : (Try.prog.info? 54).map (fun i => (i.zero, i.size, i.bytes)) = some (some (.agg #[.int .i64 0, .int .i64 0]), 2, 16) := by kernel_rfl
/-- The cells of a list of cusps. -/
def cs : List (Int × Int) → List Value
  | [] => []
  | x :: l => .int .i64 x.1 :: .int .i64 x.2 :: cs l
theorem cs_append : ∀ (l m : List (Int × Int)), cs (l ++ m) = cs l ++ cs m
  | [], _ => rfl
  | x :: l, m => by show _ :: _ :: cs (l ++ m) = _; rw [cs_append l m]; rfl
theorem cell_two_new (w : World) (a b : Value) (t : TypeId) : ∀ j u, [a, b][j]? = some u → (w.alloc (.cells #[a, b] t)).cell? ((⟨w.heap.size, 0, none⟩ : Addr).add j) = some u := by
  intro j u hj
  match j, hj with
  | 0, hj => simp at hj; subst hj; simp [Addr.add]
  | 1, hj => simp at hj; subst hj; simp [Addr.add]
/-- The slice value '.slice A C.length c' reads as the cusps C; its array lies below block B. -/
def RdC (w : World) (B : Nat) (A : Option Addr) (c : Nat) (C : List (Int × Int)) : Prop :=
  C.length ≤ c ∧ c ≤ maxLen ∧ (0 < C.length → ∃ b o, A = some ⟨b, o, none⟩ ∧ b < B ∧ ∀ k (h : k < C.length), w.cell? ⟨b, o + 2 * k, none⟩ = some (.int .i64 C[k].1) ∧ w.cell? ⟨b, o + 2 * k + 1, none⟩ = some (.int .i64 C[k].2)) ∧
  ∀ a, A = some a → ∃ b o, a = ⟨b, o, none⟩
theorem cs_length : ∀ (C : List (Int × Int)), (cs C).length = 2 * C.length
  | [] => rfl
  | x :: C => by show (cs C).length + 1 + 1 = 2 * (C.length + 1); rw [cs_length C]; omega
theorem cs_get : ∀ (C : List (Int × Int)) (k : Nat) (h : k < C.length), (cs C)[2 * k]? = some (.int .i64 C[k].1) ∧ (cs C)[2 * k + 1]? = some (.int .i64 C[k].2)
  | x :: C, 0, _ => ⟨rfl, rfl⟩
  | x :: C, k + 1, h => by
    have e := cs_get C k (by simpa using h)
    show (Value.int .i64 x.1 :: Value.int .i64 x.2 :: cs C)[2 * k + 1 + 1]? = _ ∧ (Value.int .i64 x.1 :: Value.int .i64 x.2 :: cs C)[2 * k + 1 + 1 + 1]? = _
    simpa using e
section
variable {w w' : World} {B c : Nat} {A : Option Addr} {C : List (Int × Int)}
theorem RdC.keep (h : RdC w B A c C) (hk : ∀ b o, b < B → w'.cell? ⟨b, o, none⟩ = w.cell? ⟨b, o, none⟩) : RdC w' B A c C :=
  ⟨h.1, h.2.1, fun hn => by
    obtain ⟨b, o, e, hb, hc⟩ := h.2.2.1 hn
    exact ⟨b, o, e, hb, fun k hk' => ⟨(hk b _ hb).trans (hc k hk').1, (hk b _ hb).trans (hc k hk').2⟩⟩, h.2.2.2⟩
theorem RdC.below (h : RdC w B A c C) (hb : Below B w w') : RdC w' B A c C := h.keep fun b o hlt => hb.cell (p := ⟨b, o, none⟩) hlt
theorem RdC.mono (h : RdC w B A c C) {B' : Nat} (hB : B ≤ B') : RdC w B' A c C :=
  ⟨h.1, h.2.1, fun hn => by
    obtain ⟨b, o, e, hb, hc⟩ := h.2.2.1 hn
    exact ⟨b, o, e, by omega, hc⟩, h.2.2.2⟩
theorem RdC.drew (h : RdC w B A c C) (n : Nat) : RdC (w.drewN n) B A c C := h
theorem RdC.at_ (h : RdC w B A c C) {k : Nat} (hk : k < C.length) : ∃ b o, A = some ⟨b, o, none⟩ ∧ b < B ∧ w.cell? ⟨b, o + k * 2, none⟩ = some (.int .i64 C[k].1) ∧ w.cell? ⟨b, o + k * 2 + 1, none⟩ = some (.int .i64 C[k].2) := by
  obtain ⟨b, o, e, hb, hc⟩ := h.2.2.1 (by omega)
  rw [Nat.mul_comm k 2]
  exact ⟨b, o, e, hb, hc k hk⟩
theorem RdC.len (h : RdC w B A c C) : (C.length : Int) ≤ 9223372036854775807 := by
  have h1 := h.1
  have h2 := h.2.1
  unfold maxLen at h2; omega
end
theorem rdc_nil (w : World) (B : Nat) : RdC w B none 0 [] := ⟨by simp, by unfold maxLen; omega, fun h0 => by simp at h0, fun _ h0 => by cases h0⟩
theorem own_rdc {w : World} {base c : Nat} {A : Option Addr} {C : List (Int × Int)} (h : w.ownsRow base 54 2 (.slice A C.length c) C.length (cs C)) : RdC w w.heap.size A c C := by
  rcases h.2 with ⟨he, hn⟩ | ⟨g, cap, cur, he, hb, hg, hn, hc, hs, ht⟩
  · have : C = [] := List.length_eq_zero_iff.1 hn
    subst this
    cases he
    exact rdc_nil _ _
  · obtain ⟨rfl, rfl⟩ : A = some ⟨g, 0, none⟩ ∧ c = cap := by simpa using he
    refine ⟨hn, hc, fun _ => ⟨g, 0, rfl, lt_of_block hg, fun k hk => ?_⟩, fun a ha => by cases ha; exact ⟨_, _, rfl⟩⟩
    obtain ⟨c1, c2⟩ := cs_get C k hk
    have d1 := h.cells (g := g) rfl _ _ c1
    have d2 := h.cells (g := g) rfl _ _ c2
    have e : ∀ j, (⟨g, 0, none⟩ : Addr).add j = ⟨g, 0 + j, none⟩ := fun j => by unfold Addr.add; split <;> simp_all
    rw [e] at d1 d2
    exact ⟨d1, by rw [Nat.add_assoc]; exact d2⟩
theorem cs_one (C : List (Int × Int)) : ∀ u ∈ cs C, u.oneCell' = true := by
  induction C with
  | nil => intro u hu; cases hu
  | cons x C ih =>
    intro u hu
    rcases List.mem_cons.1 hu with e | hu
    · rw [e]; rfl
    · rcases List.mem_cons.1 hu with e | hu
      · rw [e]; rfl
      · exact ih u hu
/-- An own row that is not empty has an array. -/
theorem own_some {w : World} {b c n : Nat} {e : TypeId} {size : Nat} {A : Option Addr} {xs : List Value} (h : w.ownsRow b e size (.slice A n c) n xs) (hn : 0 < n) : ∃ g, A = some ⟨g, 0, none⟩ ∧ b ≤ g := by
  rcases h.2 with ⟨_, h0⟩ | ⟨g, cap, cur, he, hb, _⟩
  · omega
  · obtain ⟨rfl, rfl⟩ : A = some ⟨g, 0, none⟩ ∧ c = cap := by simpa using he
    exact ⟨g, rfl, hb⟩
/-- All cells of a list that reads. -/
theorem RdC.cells {w : World} {B c b o : Nat} {C : List (Int × Int)} (h : RdC w B (some ⟨b, o, none⟩) c C) : ∀ j u, (cs C)[j]? = some u → w.cell? ⟨b, o + j, none⟩ = some u := by
  intro j u hj
  have hl : j < 2 * C.length := by
    have := (List.getElem?_eq_some_iff.1 hj).1
    rwa [cs_length] at this
  have hk : j / 2 < C.length := by omega
  obtain ⟨b', o', e, _, hc⟩ := h.2.2.1 (by omega)
  cases e
  obtain ⟨c1, c2⟩ := cs_get C (j / 2) hk
  obtain ⟨d1, d2⟩ := hc (j / 2) hk
  rcases Nat.mod_two_eq_zero_or_one j with e | e
  · have ej : j = 2 * (j / 2) := by omega
    rw [ej] at hj ⊢
    rw [c1] at hj; cases hj
    exact d1
  · have ej : j = 2 * (j / 2) + 1 := by omega
    rw [ej] at hj ⊢
    rw [c2] at hj; cases hj
    exact d2
theorem cs_drop : ∀ (C : List (Int × Int)) (m : Nat), cs (C.drop m) = (cs C).drop (2 * m)
  | C, 0 => rfl
  | [], m + 1 => by simp [cs]
  | x :: C, m + 1 => by
    rw [List.drop_succ_cons, cs_drop C m, show 2 * (m + 1) = 2 * m + 1 + 1 by omega]
    rfl
theorem RdC.drop_cells {w : World} {B c b o m : Nat} {C : List (Int × Int)} (h : RdC w B (some ⟨b, o, none⟩) c C) : ∀ j u, (cs (C.drop m))[j]? = some u → w.cell? ((⟨b, o + m * 2, none⟩ : Addr).add j) = some u := by
  intro j u hj
  rw [cs_drop, List.getElem?_drop] at hj
  have e : (⟨b, o + m * 2, none⟩ : Addr).add j = ⟨b, o + (2 * m + j), none⟩ := by
    have : o + m * 2 + j = o + (2 * m + j) := by omega
    unfold Addr.add; split <;> simp_all
  rw [e]
  exact h.cells _ _ hj
set_option maxHeartbeats 1600000 in
set_option maxRecDepth 1000000 in
theorem same_any {l : List (Int × Int)} {B1 B2 c1 c2 : Nat} {A1 A2 : Option Addr} (w : World) (h1 : RdC w B1 A1 c1 l) (h2 : RdC w B2 A2 c2 l) :
    Calls Try.prog 12 #[.slice A1 l.length c1, .slice A2 l.length c2] w fun e w' => e = .returned (.bool true) ∧ ∃ n, w' = w.drewN n := by
  have hl := h1.len
  have H1 := Lib.hid h1
  have H2 := Lib.hid h2
  clear h1 h2
  go_enter Try.func12, Try.ntmps12
  go_wp2
  go_loopw [5] (fun i wr => ∃ (k n : Nat), k ≤ l.length ∧ i = .int .i64 k ∧ wr = w.drewN n) (fun i _ => l.length - (intOf i).toNat)
  case atStart => exact ⟨0, 0, Nat.zero_le _, rfl, rfl⟩
  case round =>
    obtain ⟨k, n, hk, rfl, rfl⟩ := hrel
    by_cases hlt : k < l.length
    · obtain ⟨b1, o1, rfl, _, x1, x3⟩ := H1.out.at_ hlt
      obtain ⟨b2, o2, rfl, _, x2, x4⟩ := H2.out.at_ hlt
      have hlt2 : (k : Int) < (l.length : Int) := by omega
      have y1 := fun N => (show (w.drewN N).cell? ⟨b1, o1 + k * 2, none⟩ = _ from x1)
      have y2 := fun N => (show (w.drewN N).cell? ⟨b2, o2 + k * 2, none⟩ = _ from x2)
      have y3 := fun N => (show (w.drewN N).cell? ⟨b1, o1 + k * 2 + 1, none⟩ = _ from x3)
      have y4 := fun N => (show (w.drewN N).cell? ⟨b2, o2 + k * 2 + 1, none⟩ = _ from x4)
      clear x1 x2 x3 x4
      generalize l[k].1 = q at *
      generalize l[k].2 = r at *
      go_wp2
      go_region
      go_wp2
      go_roundw
      case rel => exact ⟨k + 1, _, hlt, by go_num, rfl⟩
      case measure => simp [intOf]; omega
    · have hkl : k = l.length := by omega
      subst hkl
      go_wp2
      go_ret
      exact ⟨rfl, n, rfl⟩
end Go.Proofs.Ytdgfdbifeopiaaa
