/- Arguments that are matrices, cusps and words, opened. -/
import Derived.Test.YtaofkfphkkfbnaaListL
import Derived.Lib.SmallJoins
import Derived.ChangeSlices
import Derived.ProofKit
import Derived.OpenShut
namespace Go.Proofs.Ytaofkfphkkfbnaa
open Go.ChangeShapes Go.WideShapes Go.ChangeAt Go.RowKit Go.Joins

end Go.Proofs.Ytaofkfphkkfbnaa
