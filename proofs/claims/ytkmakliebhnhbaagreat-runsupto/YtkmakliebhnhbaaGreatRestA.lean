import Derived.Test.YtkmakliebhnhbaaGreatRows
import Derived.Test.YtkmakliebhnhbaaGreatMachN
namespace Go.Proofs.YtkmakliebhnhbaaGreat
open Go.RowKit
theorem restM_eq (c : Int) (n : Nat) : ((restM c n : Nat) : Int) = (if c < 0 then -(c + 1) else c) % (n : Int):=by
 unfold restM
 have h0 : 0 ≤ (if c < 0 then -(c + 1) else c):=by split <;> omega
 rw [Int.natCast_emod,Int.toNat_of_nonneg h0]
set_option maxHeartbeats 400000 in
theorem rest_ref (c : Int) (n : Nat) (w : World) (h : 0 < n) (h2 : n ≤ 1000000000) (hc : i64 c) :
  Calls Tryz.prog 61 #[.int .i64 c,.int .i64 n] w fun e w'=>e = .returned (.int .i64 (restM c n : Nat)) ∧ w' = w:=by
 unfold i64 at hc
 have hn0 : ¬ (n : Int) = 0:=by omega
 have hn1 : (0 : Int) < n:=by omega
 have hn2 : (n : Int) ≤ 1000000000:=by omega
 rw [restM_eq]
 by_cases hlt : c < 0
 ·have hd0 : 0 ≤ (-(c + 1)) % (n : Int):=Int.emod_nonneg _ hn0
  have hd1 : (-(c + 1)) % (n : Int) < n:=Int.emod_lt_of_pos _ hn1
  rw [if_pos hlt]
  go_enter Tryz.func61,Tryz.ntmps61
  go_wp2
  go_ret
  refine ⟨?_,rfl⟩
  rw [← Int.tmod_eq_emod_of_nonneg (by omega),Int.neg_tmod]
  rfl
 ·have hd0 : 0 ≤ c % (n : Int):=Int.emod_nonneg _ hn0
  have hd1 : c % (n : Int) < n:=Int.emod_lt_of_pos _ hn1
  rw [if_neg hlt]
  go_enter Tryz.func61,Tryz.ntmps61
  go_wp2
  go_ret
  exact ⟨rfl,rfl⟩
set_option maxHeartbeats 400000 in
theorem rest_crew (c : Int) (n : Nat) (w : World) (h : 0 < n) (h2 : n ≤ 1000000000) (hc : i64 c) :
  Calls Tryz.prog 102 #[.int .i64 c,.int .i64 n] w fun e w'=>e = .returned (.int .i64 (restM c n : Nat)) ∧ w' = w:=by
 unfold i64 at hc
 have hn0 : ¬ (n : Int) = 0:=by omega
 have hn1 : (0 : Int) < n:=by omega
 have hn2 : (n : Int) ≤ 1000000000:=by omega
 rw [restM_eq]
 by_cases hlt : c < 0
 ·have hd0 : 0 ≤ (-(c + 1)) % (n : Int):=Int.emod_nonneg _ hn0
  have hd1 : (-(c + 1)) % (n : Int) < n:=Int.emod_lt_of_pos _ hn1
  rw [if_pos hlt]
  go_enter Tryz.func102,Tryz.ntmps102
  go_wp2
  go_ret
  refine ⟨?_,rfl⟩
  rw [← Int.tmod_eq_emod_of_nonneg (by omega),Int.neg_tmod]
  rfl
 ·have hd0 : 0 ≤ c % (n : Int):=Int.emod_nonneg _ hn0
  have hd1 : c % (n : Int) < n:=Int.emod_lt_of_pos _ hn1
  rw [if_neg hlt]
  go_enter Tryz.func102,Tryz.ntmps102
  go_wp2
  go_ret
  exact ⟨rfl,rfl⟩
def runErr (workers : Int) (n : Nat) : Int:=if workers < 1 ∨ 8 < workers then 5 else if 4000 < n then 6 else 0
end Go.Proofs.YtkmakliebhnhbaaGreat
