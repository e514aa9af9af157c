/- The two fixed answers, reckoned by the kernel. -/
import Derived.Test.YtfcnhendebjjeaaDoorShaPlain
namespace Go.Proofs.YtfcnhendebjjeaaDoor.Sha
set_option linter.all false
theorem sum_abc : (sum [97, 98, 99]).take 8 = [186, 120, 22, 191, 143, 1, 207, 234] := by decide +kernel
theorem sum_nil : (sum []).take 4 = [227, 176, 196, 66] := by decide +kernel
end Go.Proofs.YtfcnhendebjjeaaDoor.Sha
