/- Arguments that are matrices, cusps and words, opened. -/
import Derived.Test.YtlagljnhbhnelaaListL
import Derived.Lib.SmallJoins
import Derived.ChangeSlices
import Derived.ProofKit
import Derived.OpenShut
namespace Go.Proofs.Ytlagljnhbhnelaa
open Go.ChangeShapes Go.WideShapes Go.ChangeAt Go.RowKit Go.Joins

end Go.Proofs.Ytlagljnhbhnelaa
