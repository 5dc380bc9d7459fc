import Derived.Test.YtkmakliebhnhbaaGreatRows
import Derived.Test.YtkmakliebhnhbaaGreatSer
namespace Go.Proofs.YtkmakliebhnhbaaGreat
open Go.RowKit

set_option maxHeartbeats 400000 in
theorem num_any (e : Int) (w : World) : Calls Tryz.prog 19 #[.int .i64 e] w fun x w' => x = .returned (.int .i64 e) ∧ w' = w := by
  go_enter Tryz.func19, Tryz.ntmps19
  go_wp2
  go_ret
  exact ⟨rfl, rfl⟩

set_option maxHeartbeats 400000 in
theorem pick_any (c n : Int) (w : World) (h : 0 < n) (h2 : n ≤ 1000000000) (hc : -9223372036854775808 ≤ c) (hc2 : c ≤ 9223372036854775807) :
    Calls Tryz.prog 9 #[.int .i64 c, .int .i64 n] w fun e w' => ∃ k : Nat, (k : Int) < n ∧ e = .returned (.int .i64 k) ∧ w' = w := by
  have hn0 : ¬ n = 0 := by omega
  by_cases hlt : c < 0
  · have hd0 : 0 ≤ (-(c + 1)) % n := Int.emod_nonneg _ hn0
    have hd1 : (-(c + 1)) % n < n := Int.emod_lt_of_pos _ h
    go_enter Tryz.func9, Tryz.ntmps9
    go_wp2
    go_ret
    refine ⟨((-(c + 1)) % n).toNat, by omega, ?_, rfl⟩
    rw [Int.toNat_of_nonneg hd0, ← Int.tmod_eq_emod_of_nonneg (by omega), Int.neg_tmod]
    rfl
  · have hd0 : 0 ≤ c % n := Int.emod_nonneg _ hn0
    have hd1 : c % n < n := Int.emod_lt_of_pos _ h
    go_enter Tryz.func9, Tryz.ntmps9
    go_wp2
    go_ret
    refine ⟨(c % n).toNat, by omega, ?_, rfl⟩
    rw [Int.toNat_of_nonneg hd0]
    rfl
end Go.Proofs.YtkmakliebhnhbaaGreat
