import Derived.Test.YtkmakliebhnhbaaGreatPlaysW
namespace Go.Proofs.YtkmakliebhnhbaaGreat
open Go.RowKit
attribute [local go_sem ↓] Go.wp_at_zero Go.wp_at_succ

set_option maxRecDepth 100000 in
set_option maxHeartbeats 2000000 in
/-- Serials, out of what is asked of the program's own code. -/
theorem serials_any (D : Dev) (hNew : NewSaid D) (hSer : SerialSaid D) (S0 : Nat → Prop) (v : Value) (l : List OpZ) (w : World) (hl : RdOps S0 w v l) (hok : ∀ o ∈ l, o.ok) (hn : l.length ≤ 1000000) :
    Calls Tryz.prog 3 #[v] w fun e w' => e = .returned (.bool true) ∧ Below w.heap.size w w' := by
  have HP := hide (plays_any D hNew hSer S0 v l w hl hok hn)
  obtain ⟨sa, sc, rfl, _⟩ := hl
  go_enter Tryz.func3, Tryz.ntmps3
  go_wp2_with fail
  refine HP.out.mono ?_
  rintro e w1 ⟨rfl, hb⟩
  have HB := hide hb
  clear hb
  go_wp2
  go_ret
  exact ⟨rfl, HB.out⟩
end Go.Proofs.YtkmakliebhnhbaaGreat
