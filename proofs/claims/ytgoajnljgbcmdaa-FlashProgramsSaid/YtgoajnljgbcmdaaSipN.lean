/- The laws of digest, walked: the sums and the uses. -/
import Derived.Test.YtgoajnljgbcmdaaSipM
namespace Go.Proofs.Ytgoajnljgbcmdaa
open Go.RowKit
set_option maxRecDepth 100000

end Go.Proofs.Ytgoajnljgbcmdaa
