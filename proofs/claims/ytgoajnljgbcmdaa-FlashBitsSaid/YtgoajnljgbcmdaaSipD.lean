/- The rounds, one word, the end, the beginning. -/
import Derived.Test.YtgoajnljgbcmdaaSipC
namespace Go.Proofs.Ytgoajnljgbcmdaa
open Go.RowKit
set_option maxRecDepth 100000
attribute [local go_sem] val_xor val_or val_add

end Go.Proofs.Ytgoajnljgbcmdaa
