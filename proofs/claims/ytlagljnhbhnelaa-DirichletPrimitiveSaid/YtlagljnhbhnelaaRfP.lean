/- The contract of the reference's Psi. -/
import Derived.Test.YtlagljnhbhnelaaRfD
namespace Go.Proofs.Ytlagljnhbhnelaa
open Go.RowKit
set_option linter.unusedVariables false
set_option linter.unusedSimpArgs false

end Go.Proofs.Ytlagljnhbhnelaa
