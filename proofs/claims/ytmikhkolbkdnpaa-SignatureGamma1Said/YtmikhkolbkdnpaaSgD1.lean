/- Decided: the entries of the searches of Gamma1, Gamma and Gamma0 are small. -/
import Derived.Test.YtmikhkolbkdnpaaSgB
namespace Go.Proofs.Ytmikhkolbkdnpaa
set_option linter.unusedVariables false

theorem b_two : (List.range 121).all bOk2 = true := by decide +kernel
theorem b_three : (List.range 121).all bOk3 = true := by decide +kernel
theorem b_one1 : (List.range 60).all bOk1 = true := by decide +kernel
theorem b_one2 : (List.range 35).all (fun k => bOk1 (60 + k)) = true := by decide +kernel
theorem b_one3 : (List.range 26).all (fun k => bOk1 (95 + k)) = true := by decide +kernel
end Go.Proofs.Ytmikhkolbkdnpaa
