/- The laws of digest, walked: the sums and the uses. -/
import Derived.Test.YtklkddncholoiaaSipM
namespace Go.Proofs.Ytklkddncholoiaa
open Go.RowKit
set_option maxRecDepth 100000

end Go.Proofs.Ytklkddncholoiaa
