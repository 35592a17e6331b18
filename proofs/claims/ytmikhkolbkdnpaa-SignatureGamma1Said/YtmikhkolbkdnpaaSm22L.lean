/- The comparison of two coset actions that are equal. -/
import Derived.Test.YtmikhkolbkdnpaaListL
import Derived.Test.YtmikhkolbkdnpaaBoxL
import Derived.Test.YtmikhkolbkdnpaaLawK
namespace Go.Proofs.Ytmikhkolbkdnpaa
open Go.RowKit
set_option linter.unusedVariables false
set_option linter.unusedSimpArgs false

end Go.Proofs.Ytmikhkolbkdnpaa
