/- Lists of integers in memory: read (RdZ), made by appends (zs); the comparison of two. -/
import Derived.Test.YtlagljnhbhnelaaGcdL
import Derived.Laws.OwnMore
import Derived.Laws.Rows
import Derived.OneCell
import Derived.Deep.OwnRows
namespace Go.Proofs.Ytlagljnhbhnelaa
open Go.RowKit

/-- The slice value '.slice A l.length c' reads as the integers l; its array lies below block B. -/
def RdZ (w : World) (B : Nat) (A : Option Addr) (c : Nat) (l : List Int) : Prop :=
  l.length ≤ c ∧ c ≤ maxLen ∧ (0 < l.length → ∃ b o, A = some ⟨b, o, none⟩ ∧ b < B ∧ ∀ k (h : k < l.length), w.cell? ⟨b, o + k, none⟩ = some (.int .i64 l[k])) ∧
  ∀ a, A = some a → ∃ b o, a = ⟨b, o, none⟩
section
variable {w w' : World} {B c : Nat} {A : Option Addr} {l : List Int}
theorem RdZ.keep (h : RdZ w B A c l) (hk : ∀ b o, b < B → w'.cell? ⟨b, o, none⟩ = w.cell? ⟨b, o, none⟩) : RdZ w' B A c l :=
  ⟨h.1, h.2.1, fun hn => by
    obtain ⟨b, o, e, hb, hc⟩ := h.2.2.1 hn
    exact ⟨b, o, e, hb, fun k hk' => (hk b (o + k) hb).trans (hc k hk')⟩, h.2.2.2⟩
theorem RdZ.below (h : RdZ w B A c l) (hb : Below B w w') : RdZ w' B A c l := h.keep fun b o hlt => hb.cell (p := ⟨b, o, none⟩) hlt
theorem RdZ.mono (h : RdZ w B A c l) {B' : Nat} (hB : B ≤ B') : RdZ w B' A c l :=
  ⟨h.1, h.2.1, fun hn => by
    obtain ⟨b, o, e, hb, hc⟩ := h.2.2.1 hn
    exact ⟨b, o, e, by omega, hc⟩, h.2.2.2⟩
theorem RdZ.at_ (h : RdZ w B A c l) {k : Nat} (hk : k < l.length) : ∃ b o, A = some ⟨b, o, none⟩ ∧ b < B ∧ w.cell? ⟨b, o + k, none⟩ = some (.int .i64 l[k]) := by
  obtain ⟨b, o, e, hb, hc⟩ := h.2.2.1 (by omega)
  exact ⟨b, o, e, hb, hc k hk⟩
theorem RdZ.len (h : RdZ w B A c l) : (l.length : Int) ≤ 9223372036854775807 := by
  have h1 := h.1
  have h2 := h.2.1
  unfold maxLen at h2; omega
end
/-- The cells of a list of integers. -/
def zs (l : List Int) : List Value := l.map fun x => .int .i64 x
theorem zs_append (l m : List Int) : zs (l ++ m) = zs l ++ zs m := by simp [zs]
theorem zs_length (l : List Int) : (zs l).length = l.length := by simp [zs]
theorem zs_get (L : List Int) (k : Nat) (h : k < L.length) : (zs L)[k]? = some (.int .i64 L[k]) := by simp [zs, h]
theorem own_rdz {w : World} {base : Nat} {v : Value} {F : List Int} (h : w.ownsRow base 3 1 v F.length (zs F)) :
    ∃ A c, v = .slice A F.length c ∧ RdZ w w.heap.size A c F := by
  rcases h.2 with ⟨rfl, hn⟩ | ⟨g, cap, cur, rfl, hb, hg, hn, hc, hs, ht⟩
  · rw [hn]
    exact ⟨none, 0, rfl, by omega, by unfold maxLen; omega, fun h0 => by omega, fun _ h0 => by cases h0⟩
  · refine ⟨_, _, rfl, hn, hc, fun _ => ⟨g, 0, rfl, lt_of_block hg, fun k hk => ?_⟩, fun a ha => by cases ha; exact ⟨_, _, rfl⟩⟩
    have c1 := h.cells (g := g) rfl _ _ (zs_get F k hk)
    have e : (⟨g, 0, none⟩ : Addr).add k = ⟨g, 0 + k, none⟩ := by unfold Addr.add; split <;> simp_all
    rwa [e] at c1
theorem cell_one_new' (w : World) (a : Value) (t : TypeId) : ∀ j u, [a][j]? = some u → (w.alloc (.cells #[a] t)).cell? ((⟨w.heap.size, 0, none⟩ : Addr).add j) = some u := by
  intro j u hj
  match j, hj with
  | 0, hj => simp at hj; subst hj; simp [Addr.add]

end Go.Proofs.Ytlagljnhbhnelaa
