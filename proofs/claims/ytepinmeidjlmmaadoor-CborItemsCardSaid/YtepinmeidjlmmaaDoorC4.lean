import Derived.Test.YtepinmeidjlmmaaDoorC2
import Derived.Test.YtepinmeidjlmmaaDoorC3
namespace Go.Proofs.YtepinmeidjlmmaaDoor
open Go.RowKit

set_option maxRecDepth 100000 in
set_option maxHeartbeats 1000000 in
theorem items_any (n : Int) (a : Option Addr) (len cap : Nat) (sb s : ByteArray) (v : Bool) (w : World) (ht : Tabs w) (hC : ConvAt w w.heap.size (.slice a len cap) sb) (hn : 0 ≤ n) (hsb : sb.size = len) :
    Calls Tryd.prog 12 #[.int .u64 n, .slice a len cap, .string s, .bool v] w fun e w' => e = .returned (.bool true) ∧ Below w.heap.size w w' := by
  by_cases hl : len ≤ 2000
  · by_cases hs : s.size ≤ 2000
    · cases v
      · exact items_small_false n _ a len cap sb s w ht rfl hC hl hs hn (by omega)
      · exact items_small_true n _ a len cap sb s w ht rfl hC hl hs hn (by omega)
    · have hl1 : ¬ (2000 : Int) < (len : Int) := by omega
      have hs1 : (2000 : Int) < (s.size : Int) := by omega
      have HA := Lib.hid (awake_any w ht)
      clear hC ht
      go_enter Tryd.func12, Tryd.ntmps12
      go_wp2_with (go_at_call 15; refine HA.out.mono ?_; rintro e w' ⟨rfl, hb⟩)
      go_ret
      exact ⟨rfl, hb⟩
  · have hl1 : (2000 : Int) < (len : Int) := by omega
    have HA := Lib.hid (awake_any w ht)
    clear hC ht
    go_enter Tryd.func12, Tryd.ntmps12
    go_wp2_with (go_at_call 15; refine HA.out.mono ?_; rintro e w' ⟨rfl, hb⟩)
    go_ret
    exact ⟨rfl, hb⟩

end Go.Proofs.YtepinmeidjlmmaaDoor
