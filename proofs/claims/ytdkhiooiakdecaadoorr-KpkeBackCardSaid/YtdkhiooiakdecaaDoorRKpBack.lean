/- Walks: KpkeBack, all four ways. -/
import Derived.Test.YtdkhiooiakdecaaDoorRKpBackA
import Derived.Test.YtdkhiooiakdecaaDoorRKpBackB
import Derived.Test.YtdkhiooiakdecaaDoorRKpBackC
import Derived.Test.YtdkhiooiakdecaaDoorRKpBackD
import Derived.Test.YtdkhiooiakdecaaDoorRKecRow
namespace Go.Proofs.YtdkhiooiakdecaaDoorR.Kp
set_option linter.all false
open Go.RowKit Iter Sm
theorem kpkeBack_walk (a0 : Int) (a1 : Option Addr) (len1 cap1 : Nat) (z1 : List Int) (c2 : Array Value) (x2 : Nat → Int) (w : World) (_hT : Kec.Tables w) (w0 : (Lit.int .u8 a0).wf = true) (w1 : Kec.IsRow .u8 w a1 len1 cap1 z1) (hp : IsP c2 x2) (hf : Fits x2) :
    Calls Tryd.prog 5 #[.int .u8 a0, .slice a1 len1 cap1, .agg c2] w fun e w' => e = .returned (.bool true) ∧ Below w.heap.size w w' := by
  obtain ⟨d, rfl, hd⟩ := nat_wf8 w0
  obtain ⟨hR, hn, hm⟩ := Kec.rd_of_row w1
  by_cases hl : len1 = 32 * (1 + d % 12)
  · by_cases hk : 1 + d % 12 = 12
    · exact back_b d _ a1 _ len1 cap1 c2 x2 w hd rfl hl (by omega) hk hR hn hm hp hf
    · exact back_a d _ a1 _ len1 cap1 c2 x2 w hd rfl hl (by omega) (by omega) hR hn hm hp hf
  · by_cases hk : 1 + d % 12 = 12
    · exact back_d d _ a1 _ len1 cap1 c2 x2 w hd rfl hl (by omega) hk hR hn hm hp hf
    · exact back_c d _ a1 _ len1 cap1 c2 x2 w hd rfl hl (by omega) (by omega) hR hn hm hp hf
end Go.Proofs.YtdkhiooiakdecaaDoorR.Kp
