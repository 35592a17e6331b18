/- Lists of cusps in memory: made, read, compared (out of wip/cf). -/
import Derived.Test.YtlagljnhbhnelaaBoxL
import Derived.Test.YtlagljnhbhnelaaCuspL
import Derived.Deep.Cut
import Derived.WalkSmall
namespace Go.Proofs.Ytlagljnhbhnelaa
open Go.RowKit

/-- The cells of a list of cusps. -/
def cs : List (Int × Int) → List Value
  | [] => []
  | x :: l => .int .i64 x.1 :: .int .i64 x.2 :: cs l
theorem cs_append : ∀ (l m : List (Int × Int)), cs (l ++ m) = cs l ++ cs m
  | [], _ => rfl
  | x :: l, m => by show _ :: _ :: cs (l ++ m) = _; rw [cs_append l m]; rfl
theorem cell_two_new (w : World) (a b : Value) (t : TypeId) : ∀ j u, [a, b][j]? = some u → (w.alloc (.cells #[a, b] t)).cell? ((⟨w.heap.size, 0, none⟩ : Addr).add j) = some u := by
  intro j u hj
  match j, hj with
  | 0, hj => simp at hj; subst hj; simp [Addr.add]
  | 1, hj => simp at hj; subst hj; simp [Addr.add]
/-- The slice value '.slice A C.length c' reads as the cusps C; its array lies below block B. -/
def RdC (w : World) (B : Nat) (A : Option Addr) (c : Nat) (C : List (Int × Int)) : Prop :=
  C.length ≤ c ∧ c ≤ maxLen ∧ (0 < C.length → ∃ b o, A = some ⟨b, o, none⟩ ∧ b < B ∧ ∀ k (h : k < C.length), w.cell? ⟨b, o + 2 * k, none⟩ = some (.int .i64 C[k].1) ∧ w.cell? ⟨b, o + 2 * k + 1, none⟩ = some (.int .i64 C[k].2)) ∧
  ∀ a, A = some a → ∃ b o, a = ⟨b, o, none⟩
theorem cs_length : ∀ (C : List (Int × Int)), (cs C).length = 2 * C.length
  | [] => rfl
  | x :: C => by show (cs C).length + 1 + 1 = 2 * (C.length + 1); rw [cs_length C]; omega
theorem cs_get : ∀ (C : List (Int × Int)) (k : Nat) (h : k < C.length), (cs C)[2 * k]? = some (.int .i64 C[k].1) ∧ (cs C)[2 * k + 1]? = some (.int .i64 C[k].2)
  | x :: C, 0, _ => ⟨rfl, rfl⟩
  | x :: C, k + 1, h => by
    have e := cs_get C k (by simpa using h)
    show (Value.int .i64 x.1 :: Value.int .i64 x.2 :: cs C)[2 * k + 1 + 1]? = _ ∧ (Value.int .i64 x.1 :: Value.int .i64 x.2 :: cs C)[2 * k + 1 + 1 + 1]? = _
    simpa using e
section
variable {w w' : World} {B c : Nat} {A : Option Addr} {C : List (Int × Int)}
theorem RdC.keep (h : RdC w B A c C) (hk : ∀ b o, b < B → w'.cell? ⟨b, o, none⟩ = w.cell? ⟨b, o, none⟩) : RdC w' B A c C :=
  ⟨h.1, h.2.1, fun hn => by
    obtain ⟨b, o, e, hb, hc⟩ := h.2.2.1 hn
    exact ⟨b, o, e, hb, fun k hk' => ⟨(hk b _ hb).trans (hc k hk').1, (hk b _ hb).trans (hc k hk').2⟩⟩, h.2.2.2⟩
theorem RdC.below (h : RdC w B A c C) (hb : Below B w w') : RdC w' B A c C := h.keep fun b o hlt => hb.cell (p := ⟨b, o, none⟩) hlt
theorem RdC.mono (h : RdC w B A c C) {B' : Nat} (hB : B ≤ B') : RdC w B' A c C :=
  ⟨h.1, h.2.1, fun hn => by
    obtain ⟨b, o, e, hb, hc⟩ := h.2.2.1 hn
    exact ⟨b, o, e, by omega, hc⟩, h.2.2.2⟩
theorem RdC.drew (h : RdC w B A c C) (n : Nat) : RdC (w.drewN n) B A c C := h
theorem RdC.at_ (h : RdC w B A c C) {k : Nat} (hk : k < C.length) : ∃ b o, A = some ⟨b, o, none⟩ ∧ b < B ∧ w.cell? ⟨b, o + k * 2, none⟩ = some (.int .i64 C[k].1) ∧ w.cell? ⟨b, o + k * 2 + 1, none⟩ = some (.int .i64 C[k].2) := by
  obtain ⟨b, o, e, hb, hc⟩ := h.2.2.1 (by omega)
  rw [Nat.mul_comm k 2]
  exact ⟨b, o, e, hb, hc k hk⟩
theorem RdC.len (h : RdC w B A c C) : (C.length : Int) ≤ 9223372036854775807 := by
  have h1 := h.1
  have h2 := h.2.1
  unfold maxLen at h2; omega
end
theorem rdc_nil (w : World) (B : Nat) : RdC w B none 0 [] := ⟨by simp, by unfold maxLen; omega, fun h0 => by simp at h0, fun _ h0 => by cases h0⟩
theorem cs_one (C : List (Int × Int)) : ∀ u ∈ cs C, u.oneCell' = true := by
  induction C with
  | nil => intro u hu; cases hu
  | cons x C ih =>
    intro u hu
    rcases List.mem_cons.1 hu with e | hu
    · rw [e]; rfl
    · rcases List.mem_cons.1 hu with e | hu
      · rw [e]; rfl
      · exact ih u hu
/-- An own row that is not empty has an array. -/
theorem own_some {w : World} {b c n : Nat} {e : TypeId} {size : Nat} {A : Option Addr} {xs : List Value} (h : w.ownsRow b e size (.slice A n c) n xs) (hn : 0 < n) : ∃ g, A = some ⟨g, 0, none⟩ ∧ b ≤ g := by
  rcases h.2 with ⟨_, h0⟩ | ⟨g, cap, cur, he, hb, _⟩
  · omega
  · obtain ⟨rfl, rfl⟩ : A = some ⟨g, 0, none⟩ ∧ c = cap := by simpa using he
    exact ⟨g, rfl, hb⟩
/-- All cells of a list that reads. -/
theorem RdC.cells {w : World} {B c b o : Nat} {C : List (Int × Int)} (h : RdC w B (some ⟨b, o, none⟩) c C) : ∀ j u, (cs C)[j]? = some u → w.cell? ⟨b, o + j, none⟩ = some u := by
  intro j u hj
  have hl : j < 2 * C.length := by
    have := (List.getElem?_eq_some_iff.1 hj).1
    rwa [cs_length] at this
  have hk : j / 2 < C.length := by omega
  obtain ⟨b', o', e, _, hc⟩ := h.2.2.1 (by omega)
  cases e
  obtain ⟨c1, c2⟩ := cs_get C (j / 2) hk
  obtain ⟨d1, d2⟩ := hc (j / 2) hk
  rcases Nat.mod_two_eq_zero_or_one j with e | e
  · have ej : j = 2 * (j / 2) := by omega
    rw [ej] at hj ⊢
    rw [c1] at hj; cases hj
    exact d1
  · have ej : j = 2 * (j / 2) + 1 := by omega
    rw [ej] at hj ⊢
    rw [c2] at hj; cases hj
    exact d2
theorem cs_drop : ∀ (C : List (Int × Int)) (m : Nat), cs (C.drop m) = (cs C).drop (2 * m)
  | C, 0 => rfl
  | [], m + 1 => by simp [cs]
  | x :: C, m + 1 => by
    rw [List.drop_succ_cons, cs_drop C m, show 2 * (m + 1) = 2 * m + 1 + 1 by omega]
    rfl
theorem RdC.drop_cells {w : World} {B c b o m : Nat} {C : List (Int × Int)} (h : RdC w B (some ⟨b, o, none⟩) c C) : ∀ j u, (cs (C.drop m))[j]? = some u → w.cell? ((⟨b, o + m * 2, none⟩ : Addr).add j) = some u := by
  intro j u hj
  rw [cs_drop, List.getElem?_drop] at hj
  have e : (⟨b, o + m * 2, none⟩ : Addr).add j = ⟨b, o + (2 * m + j), none⟩ := by
    have : o + m * 2 + j = o + (2 * m + j) := by omega
    unfold Addr.add; split <;> simp_all
  rw [e]
  exact h.cells _ _ hj
end Go.Proofs.Ytlagljnhbhnelaa
