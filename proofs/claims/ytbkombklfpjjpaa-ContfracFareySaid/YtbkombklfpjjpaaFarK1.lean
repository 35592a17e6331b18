/- Farey sequences by two ways: the kernel compares them, part 1. -/
import Derived.Test.YtbkombklfpjjpaaFarM
namespace Go.Proofs.Ytbkombklfpjjpaa

theorem ok_1 : (List.range 6).all (fun i => okQ (i + 1)) = true := by decide +kernel
theorem ok_7 : (List.range 6).all (fun i => okQ (i + 7)) = true := by decide +kernel
theorem ok_13 : (List.range 6).all (fun i => okQ (i + 13)) = true := by decide +kernel
theorem ok_19 : (List.range 6).all (fun i => okQ (i + 19)) = true := by decide +kernel
theorem ok_25 : (List.range 6).all (fun i => okQ (i + 25)) = true := by decide +kernel
theorem ok_31 : (List.range 6).all (fun i => okQ (i + 31)) = true := by decide +kernel
theorem ok_37 : (List.range 6).all (fun i => okQ (i + 37)) = true := by decide +kernel
end Go.Proofs.Ytbkombklfpjjpaa
