/- The laws of digest, walked: the sums and the uses. -/
import Derived.Test.YtampadcdmildfaaSipM
namespace Go.Proofs.Ytampadcdmildfaa
open Go.RowKit
set_option maxRecDepth 100000

end Go.Proofs.Ytampadcdmildfaa
