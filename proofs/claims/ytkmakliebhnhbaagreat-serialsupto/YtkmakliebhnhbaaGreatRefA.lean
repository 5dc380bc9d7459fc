import Derived.Deep.QuietTactic
import Derived.BigQuiet
import Derived.Test.YtkmakliebhnhbaaGreatRows
import Derived.Test.YtkmakliebhnhbaaGreatSer
namespace Go.Proofs.YtkmakliebhnhbaaGreat
open Go.RowKit

set_option maxHeartbeats 400000 in
theorem step_any (h r : Int) (w : World) (r0 : 0 ≤ r) (r1 : r ≤ 100) :
    Calls Tryz.prog 54 #[.int .u64 h, .int .i64 r] w fun e w' => e = .returned (.int .u64 (stepZ h r)) ∧ w' = w := by
  go_enter Tryz.func54, Tryz.ntmps54
  go_wp2
  go_ret
  exact ⟨rfl, rfl⟩

set_option maxHeartbeats 400000 in
theorem drawn_any (h r k : Int) (w : World) (r0 : 0 ≤ r) (r1 : r ≤ 100) (b0 : 0 < k) (b1 : k < 9223372036854775808) :
    Calls Tryz.prog 53 #[.int .u64 h, .int .i64 r, .int .i64 k] w fun e w' => e = .returned (.int .i64 (drawnZ h r k)) ∧ w' = w := by
  go_enter Tryz.func53, Tryz.ntmps53
  go_wp2
  go_ret
  exact ⟨rfl, rfl⟩

end Go.Proofs.YtkmakliebhnhbaaGreat
