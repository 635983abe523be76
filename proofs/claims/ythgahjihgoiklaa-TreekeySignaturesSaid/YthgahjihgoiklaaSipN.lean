/- The laws of digest, walked: the sums and the uses. -/
import Derived.Test.YthgahjihgoiklaaSipM
namespace Go.Proofs.Ythgahjihgoiklaa
open Go.RowKit
set_option maxRecDepth 100000

end Go.Proofs.Ythgahjihgoiklaa
