/- Decided: the entries of the searches of Gamma^0 are small. -/
import Derived.Test.YtmikhkolbkdnpaaSgB
namespace Go.Proofs.Ytmikhkolbkdnpaa
set_option linter.unusedVariables false

theorem b_nil1 : (List.range 60).all bOk0 = true := by decide +kernel
theorem b_nil2 : (List.range 35).all (fun k => bOk0 (60 + k)) = true := by decide +kernel
theorem b_nil3 : (List.range 26).all (fun k => bOk0 (95 + k)) = true := by decide +kernel
end Go.Proofs.Ytmikhkolbkdnpaa
