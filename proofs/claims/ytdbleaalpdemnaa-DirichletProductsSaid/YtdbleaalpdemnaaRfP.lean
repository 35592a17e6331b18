/- The contract of the reference's Psi. -/
import Derived.Test.YtdbleaalpdemnaaRfD
namespace Go.Proofs.Ytdbleaalpdemnaa
open Go.RowKit
set_option linter.unusedVariables false
set_option linter.unusedSimpArgs false

end Go.Proofs.Ytdbleaalpdemnaa
