/- The contracts of the reference's Cycle and classes. -/
import Derived.Test.YtpooncdaajcmkaaPMiL
import Derived.Test.YtpooncdaajcmkaaClsM
namespace Go.Proofs.Ytpooncdaajcmkaa
open Go.RowKit
set_option linter.unusedVariables false
set_option linter.unusedSimpArgs false

theorem cyL_succ (f : Nat → Nat) (i k : Nat) : cyL f i (k + 1) = cyL f i k ++ [itr f k i] := by simp [cyL, List.range_succ]
theorem cyL_len (f : Nat → Nat) (i k : Nat) : (cyL f i k).length = k := by simp [cyL]
set_option maxHeartbeats 3200000 in
set_option maxRecDepth 1000000 in
theorem rcycle_any {f : Nat → Nat} {n i c bT oT cT : Nat} (w : World) (hT : RdN w w.heap.size bT oT n f) (hp : Prm f n) (hi : i < n) (hc : IsPer f i c) (hcn : c ≤ n) (hn : n ≤ 1152) :
    Calls Try.prog 69 #[.slice (some ⟨bT, oT, none⟩) n cT, .int .i64 (i : Nat)] w fun e w' => ∃ g cc, e = .returned (.slice (some ⟨g, 0, none⟩) c cc) ∧ w'.ownsRow w.heap.size 3 1 (.slice (some ⟨g, 0, none⟩) c cc) c (zs (iz (cyL f i c))) ∧ Below w.heap.size w w' := by
  obtain ⟨i0, hi0, z0, z1, z2⟩ := info_parts Try.infoInt
  have HT := Lib.hid hT
  have HP := Lib.hid hp
  have HPer := Lib.hid hc
  have hii : (i : Int) < (n : Int) := by omega
  have hc1 := hc.pos
  clear hT hp hc
  have c0 : (w.alloc (.cells #[.int .i64 (i : Nat)] 3)).cell? ⟨bT, oT + i, none⟩ = some (.int .i64 (f i : Nat)) := ((below1 w _).cell (p := ⟨bT, oT + i, none⟩) HT.out.1).trans (HT.out.2 i hi)
  have HO0 : Hid ((w.alloc (.cells #[.int .i64 (i : Nat)] 3)).ownsRow w.heap.size 3 1 (.slice (some ⟨w.heap.size, 0, none⟩) 1 1) 1 (zs (iz (cyL f i 1)))) :=
    ⟨rfl, .inr ⟨w.heap.size, 1, _, rfl, Nat.le_refl _, heap_alloc_new w _, Nat.le_refl _, by unfold maxLen; omega, rfl, rfl⟩⟩
  have HB0 : Hid (Below w.heap.size w (w.alloc (.cells #[.int .i64 (i : Nat)] 3))) := below1 w _
  go_enter Try.func69, Try.ntmps69
  go_wp2
  clear c0
  go_loopw [5, 6] (fun V I wr => ∃ (k g cc : Nat), V = .slice (some ⟨g, 0, none⟩) k cc ∧ I = .int .i64 (itr f k i : Nat) ∧ 1 ≤ k ∧ k ≤ c ∧ Hid (wr.ownsRow w.heap.size 3 1 (.slice (some ⟨g, 0, none⟩) k cc) k (zs (iz (cyL f i k)))) ∧ Hid (Below w.heap.size w wr)) (fun V _ _ => c - (match V with | .slice _ k _ => k | _ => 0))
  case atStart => exact ⟨1, _, _, rfl, rfl, Nat.le_refl _, hc1, HO0.out, HB0.out⟩
  case round =>
    clear HO0 HB0
    obtain ⟨k, g, cc, rfl, rfl, hk1, hk, HO, HB⟩ := hrel
    have hx := HP.out.itr_lt hi k
    have HS : Hid (itr f (k + 1) i = f (itr f k i)) := rfl
    have HCy : Hid (zs (iz (cyL f i (k + 1))) = zs (iz (cyL f i k)) ++ [.int .i64 (itr f k i : Nat)]) := by show _ = _; rw [cyL_succ, iz_append, zs_append]; rfl
    have hsz := HB.out.size
    by_cases hlt : k < c
    · have hne := HPer.out.least k hk1 hlt
      have hx2 := HP.out.lt _ hx
      generalize itr f k i = x at *
      have hnei : ((x : Int) == (i : Int)) = false := by simp; omega
      have hxi : (x : Int) < (n : Int) := by omega
      have hown := HO.out
      go_wp2_with (first
        | (at_builtin; (refine wpList_append_own_at _ rfl _ _ 22 rfl w.heap.size 3 i0 (.int .i64 0) 1 8 Try.underlying22 hi0 z0 z1 z2 rfl (by decide) _ _ _ rfl (hown.alloc _) ⟨wr.heap.size, 0, none⟩ 1 1 [.int .i64 (x : Nat)] rfl rfl (cell_one_new' _ _ _) (fun x hx => by simp at hx; rw [hx]; rfl) (by unfold maxLen; omega) (by omega) (by simp; omega) ?_); intro v' w4 hown4 hg4 hnil4 hat4; obtain ⟨A2, c2, rfl⟩ := own_len hown4; have HO4 := Lib.hid hown4; have HB4 : Hid (Below w.heap.size w w4) := (HB.out.alloc hsz _).grown hg4 (by simp; omega) (fun j hj => (HO.out.lt j hj).1); have s4 : w4.cell? ⟨bT, oT + x, none⟩ = some (.int .i64 (f x : Nat)) := (HB4.out.cell (p := ⟨bT, oT + x, none⟩) HT.out.1).trans (HT.out.2 x hx); clear hown4 hg4 hnil4 hat4)
        | fail)
      have hA2 : ∃ gg, A2 = some ⟨gg, 0, none⟩ := by
        rcases HO4.out.2 with ⟨_, h⟩ | ⟨gg, _, _, h, _⟩
        · omega
        · cases h; exact ⟨gg, rfl⟩
      obtain ⟨gg, rfl⟩ := hA2
      go_roundw
      case rel => exact ⟨k + 1, gg, c2, rfl, by rw [HS.out], by omega, hlt, by rw [HCy.out]; exact HO4.out, HB4.out⟩
      case measure => simp; omega
    · obtain rfl : k = c := by omega
      have hxe : itr f k i = i := HPer.out.back
      rw [hxe]
      have hee : ((i : Int) == (i : Int)) = true := by simp
      go_wp2
      go_ret
      exact ⟨g, cc, rfl, HO.out, HB.out⟩
end Go.Proofs.Ytpooncdaajcmkaa
