/- The sponge's two fixed answers, reckoned by the kernel. -/
import Derived.Test.YtdkhiooiakdecaaDoorRKecSponge
namespace Go.Proofs.YtdkhiooiakdecaaDoorR.Kec
set_option linter.all false
theorem shake_nil : sponge 168 31 [] 8 = [127, 156, 43, 164, 232, 143, 130, 125] := by decide +kernel
theorem sum_nil : (sponge 136 6 [] 32).take 8 = [167, 255, 198, 248, 191, 30, 215, 102] := by decide +kernel
end Go.Proofs.YtdkhiooiakdecaaDoorR.Kec
