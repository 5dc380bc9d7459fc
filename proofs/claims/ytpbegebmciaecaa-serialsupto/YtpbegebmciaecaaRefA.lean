import Derived.Deep.QuietTactic
import Derived.BigQuiet
import Derived.Test.YtpbegebmciaecaaRows
import Derived.Test.YtpbegebmciaecaaSer
namespace Go.Proofs.Ytpbegebmciaecaa
open Go.RowKit

set_option maxHeartbeats 400000 in
theorem step_any (h r : Int) (w : World) (r0 : 0 ≤ r) (r1 : r ≤ 100) :
    Calls Try.prog 86 #[.int .u64 h, .int .i64 r] w fun e w' => e = .returned (.int .u64 (stepZ h r)) ∧ w' = w := by
  go_enter Try.func86, Try.ntmps86
  go_wp2
  go_ret
  exact ⟨rfl, rfl⟩

set_option maxHeartbeats 400000 in
theorem drawn_any (h r k : Int) (w : World) (r0 : 0 ≤ r) (r1 : r ≤ 100) (b0 : 0 < k) (b1 : k < 9223372036854775808) :
    Calls Try.prog 85 #[.int .u64 h, .int .i64 r, .int .i64 k] w fun e w' => e = .returned (.int .i64 (drawnZ h r k)) ∧ w' = w := by
  go_enter Try.func85, Try.ntmps85
  go_wp2
  go_ret
  exact ⟨rfl, rfl⟩

end Go.Proofs.Ytpbegebmciaecaa
