import Derived.Test.YtpbegebmciaecaaRows
import Derived.Test.YtpbegebmciaecaaSer
namespace Go.Proofs.Ytpbegebmciaecaa
open Go.RowKit

set_option maxHeartbeats 400000 in
theorem num_any (e : Int) (w : World) : Calls Try.prog 43 #[.int .i64 e] w fun x w' => x = .returned (.int .i64 e) ∧ w' = w := by
  go_enter Try.func43, Try.ntmps43
  go_wp2
  go_ret
  exact ⟨rfl, rfl⟩

set_option maxHeartbeats 400000 in
theorem pick_any (c n : Int) (w : World) (h : 0 < n) (h2 : n ≤ 1000000000) (hc : -9223372036854775808 ≤ c) (hc2 : c ≤ 9223372036854775807) :
    Calls Try.prog 28 #[.int .i64 c, .int .i64 n] w fun e w' => ∃ k : Nat, (k : Int) < n ∧ e = .returned (.int .i64 k) ∧ w' = w := by
  have hn0 : ¬ n = 0 := by omega
  by_cases hlt : c < 0
  · have hd0 : 0 ≤ (-(c + 1)) % n := Int.emod_nonneg _ hn0
    have hd1 : (-(c + 1)) % n < n := Int.emod_lt_of_pos _ h
    go_enter Try.func28, Try.ntmps28
    go_wp2
    go_ret
    refine ⟨((-(c + 1)) % n).toNat, by omega, ?_, rfl⟩
    rw [Int.toNat_of_nonneg hd0, ← Int.tmod_eq_emod_of_nonneg (by omega), Int.neg_tmod]
    rfl
  · have hd0 : 0 ≤ c % n := Int.emod_nonneg _ hn0
    have hd1 : c % n < n := Int.emod_lt_of_pos _ h
    go_enter Try.func28, Try.ntmps28
    go_wp2
    go_ret
    refine ⟨(c % n).toNat, by omega, ?_, rfl⟩
    rw [Int.toNat_of_nonneg hd0]
    rfl
end Go.Proofs.Ytpbegebmciaecaa
