/- Which error Check returns, for every modulus. -/
import Derived.Test.YtdbleaalpdemnaaTabXb
namespace Go.Proofs.Ytdbleaalpdemnaa
open Go.RowKit
set_option linter.unusedVariables false

/-- The error of a character. -/
def chkV (n : Int) (E : List Int) : Int := if 1 ≤ n ∧ n ≤ 60 then ckX n.toNat E else 2
theorem dckv_any (n : Int) (E : List Int) (A : Option Addr) (c : Nat) (w : World) (hE : RdZ w w.heap.size A c E) :
    Calls Try.prog 24 #[.agg #[.int .i64 n, .slice A E.length c]] w fun e w' => e = .returned (.int .i64 (chkV n E)) ∧ Below w.heap.size w w' := by
  unfold chkV
  by_cases h : 1 ≤ n ∧ n ≤ 60
  · rw [if_pos h]
    obtain ⟨m, rfl⟩ : ∃ m : Nat, n = (m : Int) := ⟨n.toNat, by omega⟩
    rw [Int.toNat_natCast]
    exact dck_any m E A c w (by omega) h.2 hE
  · rw [if_neg h]
    exact dck_range n _ w h
end Go.Proofs.Ytdbleaalpdemnaa
