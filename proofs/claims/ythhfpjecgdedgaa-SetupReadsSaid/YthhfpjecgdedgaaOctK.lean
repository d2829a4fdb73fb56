/- What peek of package octets does. No statement of the seat is proved here. -/
import Derived.Test.YthhfpjecgdedgaaOctD
import Derived.Test.YthhfpjecgdedgaaOctT
namespace Go.Proofs.Ythhfpjecgdedgaa
open Go.RowKit
set_option linter.all false

def peekCode (code : Int) (bs : List UInt8) : Int := if bs.length = 0 then first_ code 6 else code
end Go.Proofs.Ythhfpjecgdedgaa
