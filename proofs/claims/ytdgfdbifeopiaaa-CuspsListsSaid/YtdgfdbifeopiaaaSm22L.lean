/- The comparison of two coset actions that are equal. -/
import Derived.Test.YtdgfdbifeopiaaaListL
import Derived.Test.YtdgfdbifeopiaaaBoxL
import Derived.Test.YtdgfdbifeopiaaaLawK
namespace Go.Proofs.Ytdgfdbifeopiaaa
open Go.RowKit
set_option linter.unusedVariables false
set_option linter.unusedSimpArgs false

end Go.Proofs.Ytdgfdbifeopiaaa
