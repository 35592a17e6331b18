/- Arguments that are matrices, cusps and words, opened. -/
import Derived.Test.YtdbleaalpdemnaaListL
import Derived.Lib.SmallJoins
import Derived.ChangeSlices
import Derived.ProofKit
import Derived.OpenShut
namespace Go.Proofs.Ytdbleaalpdemnaa
open Go.ChangeShapes Go.WideShapes Go.ChangeAt Go.RowKit Go.Joins

end Go.Proofs.Ytdbleaalpdemnaa
