/- The laws of digest, walked: the sums and the uses. -/
import Derived.Test.YtgfcbgnlkiebhaaSipM
namespace Go.Proofs.Ytgfcbgnlkiebhaa
open Go.RowKit
set_option maxRecDepth 100000

end Go.Proofs.Ytgfcbgnlkiebhaa
