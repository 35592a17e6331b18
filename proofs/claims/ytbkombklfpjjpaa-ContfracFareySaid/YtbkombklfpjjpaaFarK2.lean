/- Farey sequences by two ways: the kernel compares them, part 2. -/
import Derived.Test.YtbkombklfpjjpaaFarM
namespace Go.Proofs.Ytbkombklfpjjpaa

theorem ok_43 : (List.range 6).all (fun i => okQ (i + 43)) = true := by decide +kernel
theorem ok_49 : (List.range 6).all (fun i => okQ (i + 49)) = true := by decide +kernel
theorem ok_55 : (List.range 6).all (fun i => okQ (i + 55)) = true := by decide +kernel
end Go.Proofs.Ytbkombklfpjjpaa
