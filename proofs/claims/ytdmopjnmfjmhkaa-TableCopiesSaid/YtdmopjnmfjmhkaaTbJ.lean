/- The document's tables: Scan. No statement of the seat is proved here. -/
import Derived.Test.YtdmopjnmfjmhkaaTbI
namespace Go.Proofs.Ytdmopjnmfjmhkaa
open Go.RowKit
set_option maxRecDepth 100000
set_option linter.all false

end Go.Proofs.Ytdmopjnmfjmhkaa
