import Derived.Deep.QuietTactic
import Derived.BigQuiet
import Derived.Deep.DrawnRows
import Derived.Test.YtkmakliebhnhbaaGreatRows
import Derived.Test.YtkmakliebhnhbaaGreatSer
import Derived.Test.YtkmakliebhnhbaaGreatFrames
import Derived.Test.YtkmakliebhnhbaaGreatVals
namespace Go.Proofs.YtkmakliebhnhbaaGreat
open Go.RowKit
set_option maxHeartbeats 4000000 in
theorem may_1 (F R K L : Int) (f : Int) (pb nf nr c1 c2 : Nat) (fa ra : Option Addr) (w : World) (hf : w.cell? ⟨pb,0,none⟩ = some (.slice fa nf c1)) (hr : w.cell? ⟨pb,1,none⟩ = some (.slice ra nr c2)) :
  Calls Tryz.prog 36 #[.pointer (some ⟨pb,0,none⟩),.agg #[.int .i64 1,.int .i64 F,.int .i64 R,.int .i64 K,.int .i64 L],.int .i64 f] w fun e w'=>e = .returned (.bool (mayB nf nr f ⟨1,F,R,K,L⟩)) ∧ Below w.heap.size w w':=by
 have hb:=block_lt_of_cell hf
 simp only at hb
 by_cases q0 : 0 ≤ R
 ·have q0' : decide (0 ≤ R) = true:=by simpa using q0
  by_cases q1 : R < (nr : Int)
  ·have q1' : decide (R < (nr : Int)) = true:=by simpa using q1
   by_cases q2 : F = 0
   ·have q2' : (F == 0) = true:=by simpa using q2
    have H : Hid (mayB nf nr f ⟨1,F,R,K,L⟩ = true):=by unfold Hid;simp [mayB,q0,q1,q2]
    go_enter Tryz.func36,Tryz.ntmps36
    go_wp2
    go_quiet (fail)
    go_wp2
    go_ret
    exact ⟨by rw [H.out];rfl,(by repeat (first | exact Below.refl _ _ | refine Below.drew ?_ | refine below_drewN ?_ _ | refine Below.alloc ?_ (Nat.le_refl _) _))⟩
   ·have q2' : (F == 0) = false:=by simpa using q2
    have H : Hid (mayB nf nr f ⟨1,F,R,K,L⟩ = false):=by unfold Hid;simp [mayB,q2]
    go_enter Tryz.func36,Tryz.ntmps36
    go_wp2
    go_quiet (fail)
    go_wp2
    go_ret
    exact ⟨by rw [H.out];rfl,(by repeat (first | exact Below.refl _ _ | refine Below.drew ?_ | refine below_drewN ?_ _ | refine Below.alloc ?_ (Nat.le_refl _) _))⟩
  ·have q1' : decide (R < (nr : Int)) = false:=by simpa using q1
   have H : Hid (mayB nf nr f ⟨1,F,R,K,L⟩ = false):=by unfold Hid;simp [mayB,q1]
   go_enter Tryz.func36,Tryz.ntmps36
   go_wp2
   go_quiet (fail)
   go_wp2
   go_ret
   exact ⟨by rw [H.out];rfl,(by repeat (first | exact Below.refl _ _ | refine Below.drew ?_ | refine below_drewN ?_ _ | refine Below.alloc ?_ (Nat.le_refl _) _))⟩
 ·have q0' : decide (0 ≤ R) = false:=by simpa using q0
  have H : Hid (mayB nf nr f ⟨1,F,R,K,L⟩ = false):=by unfold Hid;simp [mayB,q0]
  go_enter Tryz.func36,Tryz.ntmps36
  go_wp2
  go_quiet (fail)
  go_wp2
  go_ret
  exact ⟨by rw [H.out];rfl,(by repeat (first | exact Below.refl _ _ | refine Below.drew ?_ | refine below_drewN ?_ _ | refine Below.alloc ?_ (Nat.le_refl _) _))⟩
set_option maxHeartbeats 4000000 in
theorem may_2 (F R K L : Int) (f : Int) (pb nf nr c1 c2 : Nat) (fa ra : Option Addr) (w : World) (hf : w.cell? ⟨pb,0,none⟩ = some (.slice fa nf c1)) (hr : w.cell? ⟨pb,1,none⟩ = some (.slice ra nr c2)) :
  Calls Tryz.prog 36 #[.pointer (some ⟨pb,0,none⟩),.agg #[.int .i64 2,.int .i64 F,.int .i64 R,.int .i64 K,.int .i64 L],.int .i64 f] w fun e w'=>e = .returned (.bool (mayB nf nr f ⟨2,F,R,K,L⟩)) ∧ Below w.heap.size w w':=by
 have hb:=block_lt_of_cell hf
 simp only at hb
 by_cases q0 : 0 ≤ R
 ·have q0' : decide (0 ≤ R) = true:=by simpa using q0
  by_cases q1 : R < (nr : Int)
  ·have q1' : decide (R < (nr : Int)) = true:=by simpa using q1
   by_cases q2 : F = 0
   ·have q2' : (F == 0) = true:=by simpa using q2
    by_cases q3 : 0 < K
    ·have q3' : decide (0 < K) = true:=by simpa using q3
     by_cases q4 : L = 0
     ·have q4' : (L == 0) = true:=by simpa using q4
      have H : Hid (mayB nf nr f ⟨2,F,R,K,L⟩ = true):=by unfold Hid;simp [mayB,q0,q1,q2,q3,q4]
      go_enter Tryz.func36,Tryz.ntmps36
      go_wp2
      go_quiet (fail)
      go_wp2
      go_ret
      exact ⟨by rw [H.out];rfl,(by repeat (first | exact Below.refl _ _ | refine Below.drew ?_ | refine below_drewN ?_ _ | refine Below.alloc ?_ (Nat.le_refl _) _))⟩
     ·have q4' : (L == 0) = false:=by simpa using q4
      have H : Hid (mayB nf nr f ⟨2,F,R,K,L⟩ = false):=by unfold Hid;simp [mayB,q4]
      go_enter Tryz.func36,Tryz.ntmps36
      go_wp2
      go_quiet (fail)
      go_wp2
      go_ret
      exact ⟨by rw [H.out];rfl,(by repeat (first | exact Below.refl _ _ | refine Below.drew ?_ | refine below_drewN ?_ _ | refine Below.alloc ?_ (Nat.le_refl _) _))⟩
    ·have q3' : decide (0 < K) = false:=by simpa using q3
     have H : Hid (mayB nf nr f ⟨2,F,R,K,L⟩ = false):=by unfold Hid;simp [mayB,q3]
     go_enter Tryz.func36,Tryz.ntmps36
     go_wp2
     go_quiet (fail)
     go_wp2
     go_ret
     exact ⟨by rw [H.out];rfl,(by repeat (first | exact Below.refl _ _ | refine Below.drew ?_ | refine below_drewN ?_ _ | refine Below.alloc ?_ (Nat.le_refl _) _))⟩
   ·have q2' : (F == 0) = false:=by simpa using q2
    have H : Hid (mayB nf nr f ⟨2,F,R,K,L⟩ = false):=by unfold Hid;simp [mayB,q2]
    go_enter Tryz.func36,Tryz.ntmps36
    go_wp2
    go_quiet (fail)
    go_wp2
    go_ret
    exact ⟨by rw [H.out];rfl,(by repeat (first | exact Below.refl _ _ | refine Below.drew ?_ | refine below_drewN ?_ _ | refine Below.alloc ?_ (Nat.le_refl _) _))⟩
  ·have q1' : decide (R < (nr : Int)) = false:=by simpa using q1
   have H : Hid (mayB nf nr f ⟨2,F,R,K,L⟩ = false):=by unfold Hid;simp [mayB,q1]
   go_enter Tryz.func36,Tryz.ntmps36
   go_wp2
   go_quiet (fail)
   go_wp2
   go_ret
   exact ⟨by rw [H.out];rfl,(by repeat (first | exact Below.refl _ _ | refine Below.drew ?_ | refine below_drewN ?_ _ | refine Below.alloc ?_ (Nat.le_refl _) _))⟩
 ·have q0' : decide (0 ≤ R) = false:=by simpa using q0
  have H : Hid (mayB nf nr f ⟨2,F,R,K,L⟩ = false):=by unfold Hid;simp [mayB,q0]
  go_enter Tryz.func36,Tryz.ntmps36
  go_wp2
  go_quiet (fail)
  go_wp2
  go_ret
  exact ⟨by rw [H.out];rfl,(by repeat (first | exact Below.refl _ _ | refine Below.drew ?_ | refine below_drewN ?_ _ | refine Below.alloc ?_ (Nat.le_refl _) _))⟩
set_option maxHeartbeats 4000000 in
theorem may_3 (F R K L : Int) (f : Int) (pb nf nr c1 c2 : Nat) (fa ra : Option Addr) (w : World) (hf : w.cell? ⟨pb,0,none⟩ = some (.slice fa nf c1)) (hr : w.cell? ⟨pb,1,none⟩ = some (.slice ra nr c2)) :
  Calls Tryz.prog 36 #[.pointer (some ⟨pb,0,none⟩),.agg #[.int .i64 3,.int .i64 F,.int .i64 R,.int .i64 K,.int .i64 L],.int .i64 f] w fun e w'=>e = .returned (.bool (mayB nf nr f ⟨3,F,R,K,L⟩)) ∧ Below w.heap.size w w':=by
 have hb:=block_lt_of_cell hf
 simp only at hb
 by_cases q0 : 0 ≤ R
 ·have q0' : decide (0 ≤ R) = true:=by simpa using q0
  by_cases q1 : f < F
  ·have q1' : decide (f < F) = true:=by simpa using q1
   by_cases q2 : F < (nf : Int)
   ·have q2' : decide (F < (nf : Int)) = true:=by simpa using q2
    by_cases q3 : R = 0
    ·have q3' : (R == 0) = true:=by simpa using q3
     have H : Hid (mayB nf nr f ⟨3,F,R,K,L⟩ = true):=by unfold Hid;simp [mayB,q1,q2,q3]
     go_enter Tryz.func36,Tryz.ntmps36
     go_wp2
     go_quiet (fail)
     go_wp2
     go_quiet (fail)
     go_wp2
     go_ret
     exact ⟨by rw [H.out];rfl,(by repeat (first | exact Below.refl _ _ | refine Below.drew ?_ | refine below_drewN ?_ _ | refine Below.alloc ?_ (Nat.le_refl _) _))⟩
    ·have q3' : (R == 0) = false:=by simpa using q3
     have H : Hid (mayB nf nr f ⟨3,F,R,K,L⟩ = false):=by unfold Hid;simp [mayB,q3]
     go_enter Tryz.func36,Tryz.ntmps36
     go_wp2
     go_quiet (fail)
     go_wp2
     go_quiet (fail)
     go_wp2
     go_ret
     exact ⟨by rw [H.out];rfl,(by repeat (first | exact Below.refl _ _ | refine Below.drew ?_ | refine below_drewN ?_ _ | refine Below.alloc ?_ (Nat.le_refl _) _))⟩
   ·have q2' : decide (F < (nf : Int)) = false:=by simpa using q2
    have H : Hid (mayB nf nr f ⟨3,F,R,K,L⟩ = false):=by unfold Hid;simp [mayB,q2]
    go_enter Tryz.func36,Tryz.ntmps36
    go_wp2
    go_quiet (fail)
    go_wp2
    go_quiet (fail)
    go_wp2
    go_ret
    exact ⟨by rw [H.out];rfl,(by repeat (first | exact Below.refl _ _ | refine Below.drew ?_ | refine below_drewN ?_ _ | refine Below.alloc ?_ (Nat.le_refl _) _))⟩
  ·have q1' : decide (f < F) = false:=by simpa using q1
   have H : Hid (mayB nf nr f ⟨3,F,R,K,L⟩ = false):=by unfold Hid;simp [mayB,q1]
   go_enter Tryz.func36,Tryz.ntmps36
   go_wp2
   go_quiet (fail)
   go_wp2
   go_quiet (fail)
   go_wp2
   go_ret
   exact ⟨by rw [H.out];rfl,(by repeat (first | exact Below.refl _ _ | refine Below.drew ?_ | refine below_drewN ?_ _ | refine Below.alloc ?_ (Nat.le_refl _) _))⟩
 ·have q0' : decide (0 ≤ R) = false:=by simpa using q0
  have q3 : ¬ R = 0:=by omega
  have q3' : (R == 0) = false:=by simpa using q3
  have H : Hid (mayB nf nr f ⟨3,F,R,K,L⟩ = false):=by unfold Hid;simp [mayB,q3]
  by_cases q1 : f < F
  ·have q1' : decide (f < F) = true:=by simpa using q1
   by_cases q2 : F < (nf : Int)
   ·have q2' : decide (F < (nf : Int)) = true:=by simpa using q2
    go_enter Tryz.func36,Tryz.ntmps36
    go_wp2
    go_quiet (fail)
    go_wp2
    go_quiet (fail)
    go_wp2
    go_ret
    exact ⟨by rw [H.out];rfl,(by repeat (first | exact Below.refl _ _ | refine Below.drew ?_ | refine below_drewN ?_ _ | refine Below.alloc ?_ (Nat.le_refl _) _))⟩
   ·have q2' : decide (F < (nf : Int)) = false:=by simpa using q2
    go_enter Tryz.func36,Tryz.ntmps36
    go_wp2
    go_quiet (fail)
    go_wp2
    go_quiet (fail)
    go_wp2
    go_ret
    exact ⟨by rw [H.out];rfl,(by repeat (first | exact Below.refl _ _ | refine Below.drew ?_ | refine below_drewN ?_ _ | refine Below.alloc ?_ (Nat.le_refl _) _))⟩
  ·have q1' : decide (f < F) = false:=by simpa using q1
   go_enter Tryz.func36,Tryz.ntmps36
   go_wp2
   go_quiet (fail)
   go_wp2
   go_quiet (fail)
   go_wp2
   go_ret
   exact ⟨by rw [H.out];rfl,(by repeat (first | exact Below.refl _ _ | refine Below.drew ?_ | refine below_drewN ?_ _ | refine Below.alloc ?_ (Nat.le_refl _) _))⟩
set_option maxHeartbeats 4000000 in
theorem may_4 (F R K L : Int) (f : Int) (pb nf nr c1 c2 : Nat) (fa ra : Option Addr) (w : World) (hf : w.cell? ⟨pb,0,none⟩ = some (.slice fa nf c1)) (hr : w.cell? ⟨pb,1,none⟩ = some (.slice ra nr c2)) :
  Calls Tryz.prog 36 #[.pointer (some ⟨pb,0,none⟩),.agg #[.int .i64 4,.int .i64 F,.int .i64 R,.int .i64 K,.int .i64 L],.int .i64 f] w fun e w'=>e = .returned (.bool (mayB nf nr f ⟨4,F,R,K,L⟩)) ∧ Below w.heap.size w w':=by
 have hb:=block_lt_of_cell hf
 simp only at hb
 by_cases q0 : 0 ≤ R
 ·have q0' : decide (0 ≤ R) = true:=by simpa using q0
  by_cases q1 : f < F
  ·have q1' : decide (f < F) = true:=by simpa using q1
   by_cases q2 : F < (nf : Int)
   ·have q2' : decide (F < (nf : Int)) = true:=by simpa using q2
    by_cases q3 : R = 0
    ·have q3' : (R == 0) = true:=by simpa using q3
     have H : Hid (mayB nf nr f ⟨4,F,R,K,L⟩ = true):=by unfold Hid;simp [mayB,q1,q2,q3]
     go_enter Tryz.func36,Tryz.ntmps36
     go_wp2
     go_quiet (fail)
     go_wp2
     go_quiet (fail)
     go_wp2
     go_ret
     exact ⟨by rw [H.out];rfl,(by repeat (first | exact Below.refl _ _ | refine Below.drew ?_ | refine below_drewN ?_ _ | refine Below.alloc ?_ (Nat.le_refl _) _))⟩
    ·have q3' : (R == 0) = false:=by simpa using q3
     have H : Hid (mayB nf nr f ⟨4,F,R,K,L⟩ = false):=by unfold Hid;simp [mayB,q3]
     go_enter Tryz.func36,Tryz.ntmps36
     go_wp2
     go_quiet (fail)
     go_wp2
     go_quiet (fail)
     go_wp2
     go_ret
     exact ⟨by rw [H.out];rfl,(by repeat (first | exact Below.refl _ _ | refine Below.drew ?_ | refine below_drewN ?_ _ | refine Below.alloc ?_ (Nat.le_refl _) _))⟩
   ·have q2' : decide (F < (nf : Int)) = false:=by simpa using q2
    have H : Hid (mayB nf nr f ⟨4,F,R,K,L⟩ = false):=by unfold Hid;simp [mayB,q2]
    go_enter Tryz.func36,Tryz.ntmps36
    go_wp2
    go_quiet (fail)
    go_wp2
    go_quiet (fail)
    go_wp2
    go_ret
    exact ⟨by rw [H.out];rfl,(by repeat (first | exact Below.refl _ _ | refine Below.drew ?_ | refine below_drewN ?_ _ | refine Below.alloc ?_ (Nat.le_refl _) _))⟩
  ·have q1' : decide (f < F) = false:=by simpa using q1
   have H : Hid (mayB nf nr f ⟨4,F,R,K,L⟩ = false):=by unfold Hid;simp [mayB,q1]
   go_enter Tryz.func36,Tryz.ntmps36
   go_wp2
   go_quiet (fail)
   go_wp2
   go_quiet (fail)
   go_wp2
   go_ret
   exact ⟨by rw [H.out];rfl,(by repeat (first | exact Below.refl _ _ | refine Below.drew ?_ | refine below_drewN ?_ _ | refine Below.alloc ?_ (Nat.le_refl _) _))⟩
 ·have q0' : decide (0 ≤ R) = false:=by simpa using q0
  have q3 : ¬ R = 0:=by omega
  have q3' : (R == 0) = false:=by simpa using q3
  have H : Hid (mayB nf nr f ⟨4,F,R,K,L⟩ = false):=by unfold Hid;simp [mayB,q3]
  by_cases q1 : f < F
  ·have q1' : decide (f < F) = true:=by simpa using q1
   by_cases q2 : F < (nf : Int)
   ·have q2' : decide (F < (nf : Int)) = true:=by simpa using q2
    go_enter Tryz.func36,Tryz.ntmps36
    go_wp2
    go_quiet (fail)
    go_wp2
    go_quiet (fail)
    go_wp2
    go_ret
    exact ⟨by rw [H.out];rfl,(by repeat (first | exact Below.refl _ _ | refine Below.drew ?_ | refine below_drewN ?_ _ | refine Below.alloc ?_ (Nat.le_refl _) _))⟩
   ·have q2' : decide (F < (nf : Int)) = false:=by simpa using q2
    go_enter Tryz.func36,Tryz.ntmps36
    go_wp2
    go_quiet (fail)
    go_wp2
    go_quiet (fail)
    go_wp2
    go_ret
    exact ⟨by rw [H.out];rfl,(by repeat (first | exact Below.refl _ _ | refine Below.drew ?_ | refine below_drewN ?_ _ | refine Below.alloc ?_ (Nat.le_refl _) _))⟩
  ·have q1' : decide (f < F) = false:=by simpa using q1
   go_enter Tryz.func36,Tryz.ntmps36
   go_wp2
   go_quiet (fail)
   go_wp2
   go_quiet (fail)
   go_wp2
   go_ret
   exact ⟨by rw [H.out];rfl,(by repeat (first | exact Below.refl _ _ | refine Below.drew ?_ | refine below_drewN ?_ _ | refine Below.alloc ?_ (Nat.le_refl _) _))⟩
set_option maxHeartbeats 4000000 in
theorem may_5 (F R K L : Int) (f : Int) (pb nf nr c1 c2 : Nat) (fa ra : Option Addr) (w : World) (hf : w.cell? ⟨pb,0,none⟩ = some (.slice fa nf c1)) (hr : w.cell? ⟨pb,1,none⟩ = some (.slice ra nr c2)) :
  Calls Tryz.prog 36 #[.pointer (some ⟨pb,0,none⟩),.agg #[.int .i64 5,.int .i64 F,.int .i64 R,.int .i64 K,.int .i64 L],.int .i64 f] w fun e w'=>e = .returned (.bool (mayB nf nr f ⟨5,F,R,K,L⟩)) ∧ Below w.heap.size w w':=by
 have hb:=block_lt_of_cell hf
 simp only at hb
 by_cases q0 : 0 ≤ R
 ·have q0' : decide (0 ≤ R) = true:=by simpa using q0
  by_cases q1 : F = 0
  ·have q1' : (F == 0) = true:=by simpa using q1
   by_cases q2 : R = 0
   ·have q2' : (R == 0) = true:=by simpa using q2
    by_cases q3 : K = 0
    ·have q3' : (K == 0) = true:=by simpa using q3
     by_cases q4 : L = 0
     ·have q4' : (L == 0) = true:=by simpa using q4
      have H : Hid (mayB nf nr f ⟨5,F,R,K,L⟩ = true):=by unfold Hid;simp [mayB,q1,q2,q3,q4]
      go_enter Tryz.func36,Tryz.ntmps36
      go_wp2
      go_quiet (fail)
      go_wp2
      go_ret
      exact ⟨by rw [H.out];rfl,(by repeat (first | exact Below.refl _ _ | refine Below.drew ?_ | refine below_drewN ?_ _ | refine Below.alloc ?_ (Nat.le_refl _) _))⟩
     ·have q4' : (L == 0) = false:=by simpa using q4
      have H : Hid (mayB nf nr f ⟨5,F,R,K,L⟩ = false):=by unfold Hid;simp [mayB,q4]
      go_enter Tryz.func36,Tryz.ntmps36
      go_wp2
      go_quiet (fail)
      go_wp2
      go_ret
      exact ⟨by rw [H.out];rfl,(by repeat (first | exact Below.refl _ _ | refine Below.drew ?_ | refine below_drewN ?_ _ | refine Below.alloc ?_ (Nat.le_refl _) _))⟩
    ·have q3' : (K == 0) = false:=by simpa using q3
     have H : Hid (mayB nf nr f ⟨5,F,R,K,L⟩ = false):=by unfold Hid;simp [mayB,q3]
     go_enter Tryz.func36,Tryz.ntmps36
     go_wp2
     go_quiet (fail)
     go_wp2
     go_ret
     exact ⟨by rw [H.out];rfl,(by repeat (first | exact Below.refl _ _ | refine Below.drew ?_ | refine below_drewN ?_ _ | refine Below.alloc ?_ (Nat.le_refl _) _))⟩
   ·have q2' : (R == 0) = false:=by simpa using q2
    have H : Hid (mayB nf nr f ⟨5,F,R,K,L⟩ = false):=by unfold Hid;simp [mayB,q2]
    go_enter Tryz.func36,Tryz.ntmps36
    go_wp2
    go_quiet (fail)
    go_wp2
    go_ret
    exact ⟨by rw [H.out];rfl,(by repeat (first | exact Below.refl _ _ | refine Below.drew ?_ | refine below_drewN ?_ _ | refine Below.alloc ?_ (Nat.le_refl _) _))⟩
  ·have q1' : (F == 0) = false:=by simpa using q1
   have H : Hid (mayB nf nr f ⟨5,F,R,K,L⟩ = false):=by unfold Hid;simp [mayB,q1]
   go_enter Tryz.func36,Tryz.ntmps36
   go_wp2
   go_quiet (fail)
   go_wp2
   go_ret
   exact ⟨by rw [H.out];rfl,(by repeat (first | exact Below.refl _ _ | refine Below.drew ?_ | refine below_drewN ?_ _ | refine Below.alloc ?_ (Nat.le_refl _) _))⟩
 ·have q0' : decide (0 ≤ R) = false:=by simpa using q0
  have q3 : ¬ R = 0:=by omega
  have q3' : (R == 0) = false:=by simpa using q3
  have H : Hid (mayB nf nr f ⟨5,F,R,K,L⟩ = false):=by unfold Hid;simp [mayB,q3]
  by_cases q1 : F = 0
  ·have q1' : (F == 0) = true:=by simpa using q1
   go_enter Tryz.func36,Tryz.ntmps36
   go_wp2
   go_quiet (fail)
   go_wp2
   go_ret
   exact ⟨by rw [H.out];rfl,(by repeat (first | exact Below.refl _ _ | refine Below.drew ?_ | refine below_drewN ?_ _ | refine Below.alloc ?_ (Nat.le_refl _) _))⟩
  ·have q1' : (F == 0) = false:=by simpa using q1
   go_enter Tryz.func36,Tryz.ntmps36
   go_wp2
   go_quiet (fail)
   go_wp2
   go_ret
   exact ⟨by rw [H.out];rfl,(by repeat (first | exact Below.refl _ _ | refine Below.drew ?_ | refine below_drewN ?_ _ | refine Below.alloc ?_ (Nat.le_refl _) _))⟩
set_option maxHeartbeats 4000000 in
theorem may_0 (op F R K L : Int) (o1 : ¬ op = 1) (o2 : ¬ op = 2) (o3 : ¬ op = 3) (o4 : ¬ op = 4) (o5 : ¬ op = 5) (f : Int) (pb nf nr c1 c2 : Nat) (fa ra : Option Addr) (w : World) (hf : w.cell? ⟨pb,0,none⟩ = some (.slice fa nf c1)) (hr : w.cell? ⟨pb,1,none⟩ = some (.slice ra nr c2)) :
  Calls Tryz.prog 36 #[.pointer (some ⟨pb,0,none⟩),.agg #[.int .i64 op,.int .i64 F,.int .i64 R,.int .i64 K,.int .i64 L],.int .i64 f] w fun e w'=>e = .returned (.bool (mayB nf nr f ⟨op,F,R,K,L⟩)) ∧ Below w.heap.size w w':=by
 have hb:=block_lt_of_cell hf
 simp only at hb
 have p1 : (op == 1) = false:=by simpa using o1
 have p2 : (op == 2) = false:=by simpa using o2
 have p3 : (op == 3) = false:=by simpa using o3
 have p4 : (op == 4) = false:=by simpa using o4
 have p5 : (op == 5) = false:=by simpa using o5
 have H : Hid (mayB nf nr f ⟨op,F,R,K,L⟩ = false):=by unfold Hid;simp [mayB,o1,o2,o3,o4,o5]
 clear o1 o2 o3 o4 o5
 by_cases q0 : 0 ≤ R
 ·have q0' : decide (0 ≤ R) = true:=by simpa using q0
  go_enter Tryz.func36,Tryz.ntmps36
  go_wp2
  go_quiet (fail)
  go_wp2
  go_ret
  exact ⟨by rw [H.out];rfl,(by repeat (first | exact Below.refl _ _ | refine Below.drew ?_ | refine below_drewN ?_ _ | refine Below.alloc ?_ (Nat.le_refl _) _))⟩
 ·have q0' : decide (0 ≤ R) = false:=by simpa using q0
  go_enter Tryz.func36,Tryz.ntmps36
  go_wp2
  go_quiet (fail)
  go_wp2
  go_ret
  exact ⟨by rw [H.out];rfl,(by repeat (first | exact Below.refl _ _ | refine Below.drew ?_ | refine below_drewN ?_ _ | refine Below.alloc ?_ (Nat.le_refl _) _))⟩
theorem may_any (i : Ins) (f : Int) (pb nf nr c1 c2 : Nat) (fa ra : Option Addr) (w : World) (hf : w.cell? ⟨pb,0,none⟩ = some (.slice fa nf c1)) (hr : w.cell? ⟨pb,1,none⟩ = some (.slice ra nr c2)) :
  Calls Tryz.prog 36 #[.pointer (some ⟨pb,0,none⟩),.agg #[.int .i64 i.op,.int .i64 i.f,.int .i64 i.r,.int .i64 i.k,.int .i64 i.l],.int .i64 f] w fun e w'=>e = .returned (.bool (mayB nf nr f i)) ∧ Below w.heap.size w w':=by
 obtain ⟨op,F,R,K,L⟩:=i
 by_cases o1 : op = 1
 ·subst o1;exact may_1 F R K L f pb nf nr c1 c2 fa ra w hf hr
 by_cases o2 : op = 2
 ·subst o2;exact may_2 F R K L f pb nf nr c1 c2 fa ra w hf hr
 by_cases o3 : op = 3
 ·subst o3;exact may_3 F R K L f pb nf nr c1 c2 fa ra w hf hr
 by_cases o4 : op = 4
 ·subst o4;exact may_4 F R K L f pb nf nr c1 c2 fa ra w hf hr
 by_cases o5 : op = 5
 ·subst o5;exact may_5 F R K L f pb nf nr c1 c2 fa ra w hf hr
 exact may_0 op F R K L o1 o2 o3 o4 o5 f pb nf nr c1 c2 fa ra w hf hr
end Go.Proofs.YtkmakliebhnhbaaGreat
namespace Go.Proofs.YtkmakliebhnhbaaGreat
open Go.RowKit
section
variable {fs : List (List Ins)} {reds : List Int}
theorem check_1 (h : fs.length < 1 ∨ 8 < fs.length) : check fs reds = (1,0):=by unfold check;rw [if_pos h]
theorem check_2 (h : ¬ (fs.length < 1 ∨ 8 < fs.length)) (h2 : 4 < reds.length) : check fs reds = (2,0):=by unfold check;rw [if_neg h,if_pos h2]
theorem check_3 (h : ¬ (fs.length < 1 ∨ 8 < fs.length)) (h2 : ¬ 4 < reds.length) {r : Nat} (h3 : firstBad (badR reds) reds.length = some r) : check fs reds = (2,(r : Int)):=by unfold check;rw [if_neg h,if_neg h2,h3]
theorem check_4 (h : ¬ (fs.length < 1 ∨ 8 < fs.length)) (h2 : ¬ 4 < reds.length) (h3 : firstBad (badR reds) reds.length = none) {f : Nat} (h4 : firstBad (badF fs reds.length) fs.length = some f) : check fs reds = (3,(f : Int)):=by
 unfold check;rw [if_neg h,if_neg h2,h3];simp only [h4]
theorem check_5 (h : ¬ (fs.length < 1 ∨ 8 < fs.length)) (h2 : ¬ 4 < reds.length) (h3 : firstBad (badR reds) reds.length = none) (h4 : firstBad (badF fs reds.length) fs.length = none) : check fs reds = if 300 < framesC fs then (4,0) else (0,0):=by
 unfold check;rw [if_neg h,if_neg h2,h3];simp only [h4]
theorem badF_false {nr f : Nat} {l : List Ins} (hl : fs[f]? = some l) (h1 : l.length ≤ 10) (h2 : ∀ i ∈ l,mayB fs.length nr f i = true) : badF fs nr f = false:=by
 unfold badF
 rw [hl]
 simp only [Option.getD_some,Bool.or_eq_false_iff,decide_eq_false_iff_not,List.any_eq_false]
 exact ⟨by omega,fun i hi=>by simp [h2 i hi]⟩
theorem badF_long {nr f : Nat} {l : List Ins} (hl : fs[f]? = some l) (h1 : 10 < l.length) : badF fs nr f = true:=by
 unfold badF;rw [hl];simp [h1]
theorem badF_ins {nr f k : Nat} {l : List Ins} {i : Ins} (hl : fs[f]? = some l) (hi : l[k]? = some i) (h1 : mayB fs.length nr f i = false) : badF fs nr f = true:=by
 unfold badF;rw [hl]
 simp only [Option.getD_some,Bool.or_eq_true,List.any_eq_true]
 exact .inr ⟨i,List.mem_of_getElem? hi,by simp [h1]⟩
theorem FsOk_of {nr : Nat} (h : ∀ f,f < fs.length → badF fs nr f = false) (hw : ∀ l ∈ fs,∀ i ∈ l,i.wf) : FsOk fs nr ∧ ∀ l ∈ fs,l.length ≤ 10:=by
 have key : ∀ (f : Nat) (l : List Ins),fs[f]? = some l → l.length ≤ 10 ∧ ∀ i ∈ l,mayB fs.length nr f i = true:=by
  intro f l hl
  have:=h f (List.getElem?_eq_some_iff.1 hl).1
  unfold badF at this
  rw [hl] at this
  simp only [Option.getD_some,Bool.or_eq_false_iff,decide_eq_false_iff_not,List.any_eq_false] at this
  exact ⟨by omega,fun i hi=>by have:=this.2 i hi;simpa using this⟩
 refine ⟨fun f l hl i hi=>⟨(key f l hl).2 i hi,hw l (List.mem_of_getElem? hl) i hi⟩,fun l hl=>?_⟩
 obtain ⟨f,hf⟩:=List.getElem?_of_mem hl
 exact (key f l hf).1
end
set_option maxHeartbeats 2000000 in
theorem check_any (fs : List (List Ins)) (reds : List Int) (S : Nat → Prop) (pb : Nat) (vf vr : Value) (w : World) (hw : ∀ l ∈ fs,∀ i ∈ l,i.wf)
  (hp : w.cell? ⟨pb,0,none⟩ = some vf) (hq : w.cell? ⟨pb,1,none⟩ = some vr) (hF : RdF S w vf fs) (hR : RdL S w 1 int64s vr reds) :
  Calls Tryz.prog 16 #[.pointer (some ⟨pb,0,none⟩)] w fun e w'=>e = .returned (.tuple #[.int .i64 (check fs reds).1,.int .i64 (check fs reds).2]) ∧ Below w.heap.size w w':=by
 have HF:=hide hF
 have HR:=hide hR
 obtain ⟨us,hul,hu,hfs⟩:=hF
 obtain ⟨a,cap,rfl,hc,hm⟩:=hu.form
 obtain ⟨ra,rcap,rfl,hrc,hrm⟩:=hR.form
 have hpb:=block_lt_of_cell hp
 simp only at hpb
 unfold maxLen at hm hrm
 obtain ⟨n,hN⟩ : ∃ n,fs.length = n:=⟨_,rfl⟩
 rw [hul,hN] at hc hp
 obtain ⟨nr,hNR⟩ : ∃ nr,reds.length = nr:=⟨_,rfl⟩
 rw [hNR] at hrc hq
 have HN:=hide hN
 have HU : Hid (us.length = n):=hul.trans hN
 have HNR:=hide hNR
 have Hfs:=hide hfs
 have Hu:=hide hu
 have Hw:=hide hw
 clear hN hul hNR hfs hu hw hR
 by_cases h1 : n < 1 ∨ 8 < n
 ·have HC:=hide (check_1 (reds:=reds) (fs:=fs) (by rw [HN.out];exact h1))
  rcases h1 with h1 | h1
  ·obtain rfl : n = 0:=by omega
   clear h1
   go_enter Tryz.func16,Tryz.ntmps16
   go_wp2
   go_ret2
   rw [HC.out]
   exact ⟨rfl,Below.refl _ _⟩
  ·have h1' : (8 : Int) < n:=by omega
   have h1'' : ¬ (n : Int) < 1:=by omega
   go_enter Tryz.func16,Tryz.ntmps16
   go_wp2
   go_ret2
   rw [HC.out]
   exact ⟨rfl,Below.refl _ _⟩
 have a1 : (1 : Int) ≤ n:=by omega
 have a2 : (n : Int) ≤ 8:=by omega
 have H1 : Hid (¬ (fs.length < 1 ∨ 8 < fs.length)):=by unfold Hid;rw [HN.out];exact h1
 clear h1
 by_cases h2 : 4 < nr
 ·have HC:=hide (check_2 H1.out (reds:=reds) (by rw [HNR.out];exact h2))
  have h2' : (4 : Int) < nr:=by omega
  go_enter Tryz.func16,Tryz.ntmps16
  go_wp2
  go_ret2
  rw [HC.out]
  exact ⟨rfl,Below.refl _ _⟩
 have a3 : (nr : Int) ≤ 4:=by omega
 have H2 : Hid (¬ 4 < reds.length):=by unfold Hid;rw [HNR.out];exact h2
 clear h2
 go_enter Tryz.func16,Tryz.ntmps16
 go_wp2
 go_loop [5] (fun i=>∃ k : Nat,k ≤ nr ∧ i = .int .i64 k ∧ Hid (∀ j,j < k → badR reds j = false)) (fun i=>nr - (intOf i).toNat)
 case atStart=>exact ⟨0,Nat.zero_le _,rfl,fun j hj=>by omega⟩
 case round =>
  obtain ⟨k,hk,rfl,hb⟩:=hrel
  by_cases hlt : k < nr
  ·have hlti : (k : Int) < nr:=by omega
   obtain ⟨q,hqk⟩ : ∃ q,reds[k]? = some q:=⟨reds[k]'(by have:=HNR.out;omega),by simp⟩
   obtain ⟨b,off,rfl,_,hce⟩:=HR.out.at hqk
   have c0:=hce 0 _ rfl
   simp only [Nat.mul_one,Nat.add_zero] at c0
   have HQ:=hide hqk
   clear hce hqk
   by_cases hbad : q < 1 ∨ 5 < q
   ·have HC:=hide (check_3 (fs:=fs) H1.out H2.out (firstBad_some hb.out (by unfold badR;rw [HQ.out];simp;omega) (by have:=HNR.out;omega)))
    rcases hbad with hbad | hbad
    ·go_wp2
     go_ret2
     rw [HC.out]
     exact ⟨rfl,Below.refl _ _⟩
    ·have hbad' : ¬ q < 1:=by omega
     go_wp2
     go_ret2
     rw [HC.out]
     exact ⟨rfl,Below.refl _ _⟩
   ·have b1 : ¬ q < 1:=by omega
    have b2 : ¬ 5 < q:=by omega
    go_wp2
    go_round
    case rel =>
     refine ⟨k + 1,by omega,by go_num,fun j hj=>?_⟩
     by_cases e : j = k
     ·subst e;unfold badR;rw [HQ.out];simp;omega
     ·exact hb.out j (by omega)
    case measure=>simp [intOf];omega
  ·obtain rfl : nr = k:=by omega
   have HB:=hide (firstBad_none (p:=badR reds) (n:=reds.length) (by rw [HNR.out];exact hb.out))
   clear hb
   go_wp2
   go_loopw [6] (fun i wr=>(∃ f : Nat,f ≤ n ∧ i = .int .i64 f ∧ Hid (∀ j,j < f → badF fs reds.length j = false)) ∧ Below w.heap.size w wr) (fun i _=>n - (intOf i).toNat)
   case atStart=>exact ⟨⟨0,Nat.zero_le _,rfl,fun j hj=>by omega⟩,Below.refl _ _⟩
   case round =>
    obtain ⟨wo,rfl⟩ : ∃ wo : World,wo = wr:=⟨_,rfl⟩
    obtain ⟨⟨f,hf,rfl,hg⟩,hBo⟩:=hrel
    have hp1:=(hBo.cell (p:=⟨pb,0,none⟩) hpb).trans hp
    have hq1:=(hBo.cell (p:=⟨pb,1,none⟩) hpb).trans hq
    by_cases hlt : f < n
    ·have hfi : (f : Int) < n:=by omega
     have hf0 : (0 : Int) ≤ f:=by omega
     obtain ⟨l,hlf⟩ : ∃ l,fs[f]? = some l:=⟨fs[f]'(by have:=HN.out;omega),by simp⟩
     obtain ⟨u,huf⟩ : ∃ u,us[f]? = some u:=⟨us[f]'(by have:=HU.out;omega),by simp⟩
     have hx:=Hfs.out f u l huf hlf
     obtain ⟨a2,cap2,rfl,hc2',hm2⟩:=hx.form
     obtain ⟨b,off,rfl,_,hcu⟩:=Hu.out.at huf
     have hcu0:=hcu 0 _ rfl
     obtain ⟨L,hL⟩ : ∃ L,l.length = L:=⟨_,rfl⟩
     rw [hL] at hx hc2' hcu0
     have HL:=hide hL
     have HX:=hide hx
     have HLF:=hide hlf
     have hbb:=block_lt_of_cell hcu0
     simp only [Nat.mul_one,Nat.add_zero] at hbb hcu0
     have HCU:=hide hcu0
     have hu1:=(hBo.cell (p:=⟨b,off + f,none⟩) hbb).trans hcu0
     have HBo:=hide hBo
     clear hx hlf huf hL hcu hcu0 hBo
     unfold maxLen at hm2
     by_cases hlong : 10 < L
     ·have hlongi : (10 : Int) < L:=by omega
      have HC:=hide (check_4 H1.out H2.out HB.out (firstBad_some hg.out (badF_long HLF.out (by have:=HL.out;omega)) (by have:=HN.out;omega)))
      go_wp2
      go_ret2
      rw [HC.out]
      exact ⟨rfl,HBo.out⟩
     have hshort : (L : Int) ≤ 10:=by omega
     go_wp2
     go_loopw [7] (fun i wr=>(∃ k : Nat,k ≤ L ∧ i = .int .i64 k ∧ Hid (∀ j i,j < k → l[j]? = some i → mayB fs.length reds.length f i = true)) ∧ Below w.heap.size w wr) (fun i _=>L - (intOf i).toNat)
     case atStart=>exact ⟨⟨0,Nat.zero_le _,rfl,fun j i hj=>by omega⟩,HBo.out⟩
     case round =>
      clear hp1 hq1 hu1
      obtain ⟨⟨k,hk,rfl,hgk⟩,hBk⟩:=hrel
      have hp1:=(hBk.cell (p:=⟨pb,0,none⟩) hpb).trans hp
      have hq1:=(hBk.cell (p:=⟨pb,1,none⟩) hpb).trans hq
      have hu1:=(hBk.cell (p:=⟨b,off + f,none⟩) hbb).trans HCU.out
      by_cases hkL : k < L
      ·have hkLi : (k : Int) < L:=by omega
       obtain ⟨i,hi⟩ : ∃ i,l[k]? = some i:=⟨l[k]'(by have:=HL.out;omega),by simp⟩
       obtain ⟨b2,o2,rfl,_,hce⟩:=HX.out.at hi
       have e0:=hce 0 _ rfl
       have e1:=hce 1 _ rfl
       have e2:=hce 2 _ rfl
       have e3:=hce 3 _ rfl
       have e4:=hce 4 _ rfl
       have hb2:=block_lt_of_cell e0
       simp only [Nat.add_zero] at hb2 e0
       have q0:=(hBk.cell (p:=⟨b2,o2 + k * 5,none⟩) hb2).trans e0
       have q1:=(hBk.cell (p:=⟨b2,o2 + k * 5 + 1,none⟩) hb2).trans e1
       have q2:=(hBk.cell (p:=⟨b2,o2 + k * 5 + 2,none⟩) hb2).trans e2
       have q3:=(hBk.cell (p:=⟨b2,o2 + k * 5 + 3,none⟩) hb2).trans e3
       have q4:=(hBk.cell (p:=⟨b2,o2 + k * 5 + 4,none⟩) hb2).trans e4
       have HI:=hide hi
       have HBk:=hide hBk
       have hcm:=hide (may_any i (f : Int) pb n nr cap rcap (some ⟨b,off,none⟩) ra wr hp1 hq1)
       clear e0 e1 e2 e3 e4 hce hi hBk hb2
       go_wp2_with fail
       refine hcm.out.mono ?_
       rintro e w' ⟨rfl,hB2⟩
       have HB2:=hide (HBk.out.trans (hB2.mono HBk.out.size))
       clear hcm hB2 hp1 hq1 hu1 q0 q1 q2 q3 q4
       cases hmb : mayB n nr (f : Int) i
       ·have HC:=hide (check_4 H1.out H2.out HB.out (firstBad_some hg.out (badF_ins HLF.out HI.out (by rw [HN.out,HNR.out];exact hmb)) (by have:=HN.out;omega)))
        go_wp2
        go_ret2
        rw [HC.out]
        exact ⟨rfl,HB2.out⟩
       ·go_wp2
        go_roundw
        case rel =>
         refine ⟨⟨k + 1,by omega,by go_num,fun j i' hj hi'=>?_⟩,HB2.out⟩
         by_cases e : j = k
         ·subst e
          have:=HI.out
          rw [hi'] at this
          cases this
          rw [HN.out,HNR.out]
          exact hmb
         ·exact hgk.out j i' (by omega) hi'
        case measure=>simp [intOf];omega
      ·obtain rfl : L = k:=by omega
       have HBk:=hide hBk
       clear hBk
       go_wp2
       go_roundw
       case rel =>
        refine ⟨⟨f + 1,by omega,by go_num,fun j hj=>?_⟩,HBk.out⟩
        by_cases e : j = f
        ·subst e
         refine badF_false HLF.out (by have:=HL.out;omega) (fun i hi=>?_)
         obtain ⟨m,hm⟩:=List.getElem?_of_mem hi
         exact hgk.out m i (by have:=(List.getElem?_eq_some_iff.1 hm).1;have:=HL.out;omega) hm
        ·exact hg.out j (by omega)
       case measure=>simp [intOf];omega
    ·obtain rfl : n = f:=by omega
     have HBF:=hide (firstBad_none (p:=badF fs reds.length) (n:=fs.length) (by rw [HN.out];exact hg.out))
     obtain ⟨hok,hl10⟩:=FsOk_of (fs:=fs) (nr:=reds.length) (by rw [HN.out];exact hg.out) Hw.out
     have HC:=hide (check_5 H1.out H2.out HB.out HBF.out)
     have hfr:=frames_any fs reds.length S pb _ wo (by have:=HN.out;omega) (by have:=HN.out;omega) hok hl10 hp1 (by have:=HF.out.below (hBo.mono (Nat.le_refl _));rw [HU.out] at this;exact this)
     have HBo:=hide hBo
     have HFR:=hide hfr
     clear hfr hok hl10 hBo hg
     go_wp2_with fail
     refine HFR.out.mono ?_
     rintro e w' ⟨rfl,hB2⟩
     have HB2:=hide (HBo.out.trans (hB2.mono HBo.out.size))
     have hcle:=cntsC_le fs fs.length 0
     obtain ⟨c,hcE⟩ : ∃ c,framesC fs = c:=⟨_,rfl⟩
     have hcle' : c ≤ 301:=by rw [← hcE];exact hcle
     rw [hcE]
     have HCE:=hide hcE
     clear hB2 hcle hcE HFR hp1 hq1
     by_cases h300 : 300 < c
     ·have h3 : (300 : Int) < c:=by omega
      go_wp2
      go_ret2
      rw [HC.out,if_pos (by rw [HCE.out];exact h300)]
      exact ⟨rfl,HB2.out⟩
     ·have h3 : (c : Int) ≤ 300:=by omega
      go_wp2
      go_ret2
      rw [HC.out,if_neg (by rw [HCE.out];exact h300)]
      exact ⟨rfl,HB2.out⟩
end Go.Proofs.YtkmakliebhnhbaaGreat
namespace Go.Proofs.YtkmakliebhnhbaaGreat
open Go.RowKit
set_option maxHeartbeats 400000 in
theorem step_any (h r : Int) (w : World) (r0 : 0 ≤ r) (r1 : r ≤ 100) :
  Calls Tryz.prog 54 #[.int .u64 h,.int .i64 r] w fun e w'=>e = .returned (.int .u64 (stepZ h r)) ∧ w' = w:=by
 go_enter Tryz.func54,Tryz.ntmps54
 go_wp2
 go_ret
 exact ⟨rfl,rfl⟩
set_option maxHeartbeats 400000 in
theorem drawn_any (h r k : Int) (w : World) (r0 : 0 ≤ r) (r1 : r ≤ 100) (b0 : 0 < k) (b1 : k < 9223372036854775808) :
  Calls Tryz.prog 53 #[.int .u64 h,.int .i64 r,.int .i64 k] w fun e w'=>e = .returned (.int .i64 (drawnZ h r k)) ∧ w' = w:=by
 go_enter Tryz.func53,Tryz.ntmps53
 go_wp2
 go_ret
 exact ⟨rfl,rfl⟩
end Go.Proofs.YtkmakliebhnhbaaGreat
namespace Go.Proofs.YtkmakliebhnhbaaGreat
open Go.RowKit
attribute [local go_sem ↓] Go.wp_at_zero Go.wp_at_succ
theorem Tryz.infoEv : (Tryz.prog.info? 89).map (fun i=>(i.zero,i.size,i.bytes)) = some (some (.agg #[.int .i64 0,.int .i64 0,.int .i64 0]),3,24):=by kernel_rfl
theorem one3 (a b c : Int) (j k l : IntKind) : ∀ u ∈ [Value.int j a,.int k b,.int l c],u.oneCell' = true:=by simp [Value.oneCell']
set_option maxRecDepth 100000 in
set_option maxHeartbeats 800000 in
theorem serial_step (fs : List (List Ins)) (nr : Nat) (S : Nat → Prop) (pb d : Nat) (v : Value) (_hn8 : fs.length ≤ 8) (hok : FsOk fs nr) (hl : ∀ l ∈ fs,l.length ≤ 10) (hd : d ≤ 7)
  (ih : ∀ (f : Nat) (x h : Int) (w : World),f < fs.length → fs.length ≤ f + d → w.cell? ⟨pb,0,none⟩ = some v → RdF S w v fs →
   Calls Tryz.prog 38 #[.pointer (some ⟨pb,0,none⟩),.int .i64 f,.int .i64 x,.int .u64 h] w fun e w'=>∃ a cap,e = .returned (.slice a (ser fs d f x h).length cap) ∧
    w'.ownsRow w.heap.size 89 3 (.slice a (ser fs d f x h).length cap) (ser fs d f x h).length (evCells (ser fs d f x h)) ∧ Below w.heap.size w w')
  (f : Nat) (x h : Int) (w : World) (hf : f < fs.length) (hfd : fs.length ≤ f + (d + 1)) (hp : w.cell? ⟨pb,0,none⟩ = some v) (hF : RdF S w v fs) :
   Calls Tryz.prog 38 #[.pointer (some ⟨pb,0,none⟩),.int .i64 f,.int .i64 x,.int .u64 h] w fun e w'=>∃ a cap,e = .returned (.slice a (ser fs (d + 1) f x h).length cap) ∧
    w'.ownsRow w.heap.size 89 3 (.slice a (ser fs (d + 1) f x h).length cap) (ser fs (d + 1) f x h).length (evCells (ser fs (d + 1) f x h)) ∧ Below w.heap.size w w':=by
 have HF:=hide hF
 have IH:=hide ih
 have hslen:=ser_len hl d
 clear ih
 obtain ⟨us,hul,hu,hfs⟩:=hF
 obtain ⟨a,cap,rfl,hc,hm⟩:=hu.form
 obtain ⟨i0,hii,hz0,hz1,hz2⟩:=info_parts Tryz.infoEv
 have hpb:=block_lt_of_cell hp
 simp only at hpb
 unfold maxLen at hm
 obtain ⟨n,hN⟩ : ∃ n,fs.length = n:=⟨_,rfl⟩
 rw [hul,hN] at hc hp
 have HN:=hide hN
 have HU : Hid (us.length = n):=hul.trans hN
 have hfi : (f : Int) < n:=by omega
 obtain ⟨l,hlf⟩ : ∃ l,fs[f]? = some l:=⟨fs[f]'(by omega),by simp⟩
 obtain ⟨u,huf⟩ : ∃ u,us[f]? = some u:=⟨us[f]'(by omega),by simp⟩
 have hx:=hfs f u l huf hlf
 obtain ⟨a2,cap2,rfl,hc2',hm2⟩:=hx.form
 obtain ⟨b,off,rfl,_,hcu⟩:=hu.at huf
 have hcu0:=hcu 0 _ rfl
 have hokl:=hok f l hlf
 have hl10:=hl l (List.mem_of_getElem? hlf)
 obtain ⟨L,hL⟩ : ∃ L,l.length = L:=⟨_,rfl⟩
 rw [hL] at hx hc2' hcu0 hl10
 have HL:=hide hL
 have HX:=hide hx
 have hbb:=block_lt_of_cell hcu0
 simp only [Nat.mul_one,Nat.add_zero] at hbb hcu0
 have HO:=hide hokl
 have HSL:=hide hslen
 have hser : ser fs (d + 1) f x h = serL (ser fs d) x h 0 l:=by simp [ser,hlf]
 rw [hser]
 have HE : Hid (∀ k,k ≤ L → (serL (ser fs d) x h 0 (l.take k)).length ≤ 100000000):=by
  intro k hk
  have h1:=serL_len (B:=10 ^ d) (Nat.one_le_pow _ _ (by omega)) hslen x h (l.take k) 0
  have h2 : (l.take k).length ≤ 10:=by rw [List.length_take];omega
  have h3:=Nat.mul_le_mul h2 (Nat.pow_le_pow_right (show 0 < 10 by omega) hd)
  omega
 have HFN : Hid (fs.length ≤ f + (d + 1)):=hfd
 have HFF:=hide hf
 have HHL:=hide hl
 clear hN hul hfs hu hx hL hlf huf hcu hokl hok hslen hser hfd hf hl
 unfold maxLen at hm2
 go_enter Tryz.func38,Tryz.ntmps38
 go_wp2
 go_loopw [9,10,11] (fun v rk i wr=>(∃ k : Nat,k ≤ L ∧ i = .int .i64 k ∧ rk = .int .i64 (rankL 0 (l.take k)) ∧
   wr.ownsRow w.heap.size 89 3 v (serL (ser fs d) x h 0 (l.take k)).length (evCells (serL (ser fs d) x h 0 (l.take k)))) ∧ Below w.heap.size w wr)
  (fun _ _ i _=>L - (intOf i).toNat)
 case atStart=>exact ⟨⟨0,Nat.zero_le _,rfl,rfl,World.ownsRow_nil _ _ _ _⟩,Below.refl _ _⟩
 case round =>
  obtain ⟨⟨k,hk,rfl,rfl,hown⟩,hBk⟩:=hrel
  have hp1:=(hBk.cell (p:=⟨pb,0,none⟩) hpb).trans hp
  have hu1:=(hBk.cell (p:=⟨b,off + f,none⟩) hbb).trans hcu0
  have hes:=HE.out k hk
  obtain ⟨hr0,hr1⟩:=rankL_bd (l.take k) 0 (Int.le_refl 0)
  rw [List.length_take] at hr1
  have HBk:=hide hBk
  have hsz:=hBk.size
  obtain ⟨es,hes'⟩ : ∃ es,serL (ser fs d) x h 0 (l.take k) = es:=⟨_,rfl⟩
  obtain ⟨r,hr'⟩ : ∃ r,rankL 0 (l.take k) = r:=⟨_,rfl⟩
  rw [hes'] at hown hes
  rw [hr'] at hr0 hr1 ⊢
  have HES:=hide hes'
  have HR':=hide hr'
  have HOW:=hide hown
  clear hes' hr' hown hBk
  by_cases hkL : k < L
  ·have hkLi : (k : Int) < L:=by omega
   obtain ⟨i,hi⟩ : ∃ i,l[k]? = some i:=⟨l[k]'(by have:=HL.out;omega),by simp⟩
   obtain ⟨b2,o2,rfl,_,hce⟩:=HX.out.at hi
   have e0:=hce 0 _ rfl
   have e1:=hce 1 _ rfl
   have e2:=hce 2 _ rfl
   have e3:=hce 3 _ rfl
   have e4:=hce 4 _ rfl
   have hb2:=block_lt_of_cell e0
   simp only [Nat.add_zero] at hb2 e0
   have q0:=(HBk.out.cell (p:=⟨b2,o2 + k * 5,none⟩) hb2).trans e0
   have q1:=(HBk.out.cell (p:=⟨b2,o2 + k * 5 + 1,none⟩) hb2).trans e1
   have q2:=(HBk.out.cell (p:=⟨b2,o2 + k * 5 + 2,none⟩) hb2).trans e2
   have q3:=(HBk.out.cell (p:=⟨b2,o2 + k * 5 + 3,none⟩) hb2).trans e3
   have q4:=(HBk.out.cell (p:=⟨b2,o2 + k * 5 + 4,none⟩) hb2).trans e4
   obtain ⟨hmay,hwf⟩:=HO.out i (List.mem_of_getElem? hi)
   have HI:=hide hi
   have HST:=hide (serL_take (sub:=ser fs d) (x:=x) (h:=h) (r:=0) hi)
   have HRT:=hide (rankL_take (r:=0) hi)
   clear e0 e1 e2 e3 e4 hce hi hb2
   obtain ⟨op,F,R,K,LL⟩:=i
   simp only at q0 q1 q2 q3 q4
   by_cases o1 : op = 1
   ·subst o1
    have HS1 : Hid (serL (ser fs d) x h 0 (l.take (k + 1)) = es ++ [⟨0,R,numZ ⟨1,F,R,K,LL⟩ x⟩]):=by
     unfold Hid;rw [HST.out,HES.out];simp [oneZ]
    have HR1 : Hid (rankL 0 (l.take (k + 1)) = r):=by
     unfold Hid;rw [HRT.out,HR'.out];simp [rankZ]
    clear HST HRT
    go_wp2_with (at_builtin;refine wpList_app _ rfl _ _ 65 rfl w.heap.size 89 i0 _ 3 24 Tryz.underlying65 hii hz0 hz1 hz2 rfl (by decide) _ _ _ rfl ((HOW.out.alloc _).alloc _) (.slice (some ⟨wr.heap.size + 1,0,none⟩) 1 1) 1 [_,_,_] rfl (cells3 _ _ _ _ _ _ (by simp)) (one3 _ _ _ _ _ _) ?h63 ?hbytes ?hbase ?_)
    case h63=>unfold maxLen;omega
    case hbytes=>omega
    case hbase=>simp;omega
    intro a' cap' w2 ho hg _ _
    have HO2:=hide ho
    have HB2:=hide ((((HBk.out.alloc hsz _).alloc (by simp;omega) _).grown hg (by simp;omega) (fun q hq=>(HOW.out.lt q hq).1)))
    clear ho hg hp1 hu1 q0 q1 q2 q3 q4 hmay hwf hz0 hz1 hz2 hii
    go_wp2
    go_roundw
    case rel=>exact ⟨⟨k + 1,by omega,by go_num,by rw [HR1.out],by rw [HS1.out,evCells_append,List.length_append];exact HO2.out⟩,HB2.out⟩
    case measure=>simp [intOf];omega
   by_cases o2 : op = 2
   ·subst o2
    have HS1 : Hid (serL (ser fs d) x h 0 (l.take (k + 1)) = es ++ [⟨0,R,drawnZ h r K⟩]):=by
     unfold Hid;rw [HST.out,HES.out,HR'.out];simp [oneZ]
    have HR1 : Hid (rankL 0 (l.take (k + 1)) = r + 1):=by
     unfold Hid;rw [HRT.out,HR'.out];simp [rankZ]
    have hK : 0 < K ∧ K < 9223372036854775808:=by
     have h1:=hwf.2.2.2.1
     unfold i64 at h1
     simp [mayB] at hmay
     simp only at h1
     omega
    obtain ⟨hK0,hK1⟩:=hK
    clear HST HRT
    go_wp2_with fail
    refine (drawn_any h r K _ hr0 (by omega) hK0 hK1).mono ?_
    rintro e w3 ⟨rfl,rfl⟩
    go_wp2_with (at_builtin;refine wpList_app _ rfl _ _ 65 rfl w.heap.size 89 i0 _ 3 24 Tryz.underlying65 hii hz0 hz1 hz2 rfl (by decide) _ _ _ rfl ((HOW.out.alloc _).alloc _) (.slice (some ⟨wr.heap.size + 1,0,none⟩) 1 1) 1 [_,_,_] rfl (cells3 _ _ _ _ _ _ (by simp)) (one3 _ _ _ _ _ _) ?h63 ?hbytes ?hbase ?_)
    case h63=>unfold maxLen;omega
    case hbytes=>omega
    case hbase=>simp;omega
    intro a' cap' w2 ho hg _ _
    have HO2:=hide ho
    have HB2:=hide ((((HBk.out.alloc hsz _).alloc (by simp;omega) _).grown hg (by simp;omega) (fun q hq=>(HOW.out.lt q hq).1)))
    clear ho hg hp1 hu1 q0 q1 q2 q3 q4 hmay hwf hz0 hz1 hz2 hii
    go_wp2
    go_roundw
    case rel=>exact ⟨⟨k + 1,by omega,by go_num,by rw [HR1.out],by rw [HS1.out,evCells_append,List.length_append];exact HO2.out⟩,HB2.out⟩
    case measure=>simp [intOf];omega
   by_cases o3 : op = 3
   ·subst o3
    obtain ⟨m,hmF,hmf,hmn⟩:=mayB_begins hmay rfl
    simp only at hmF
    subst hmF
    have HS1 : Hid (serL (ser fs d) x h 0 (l.take (k + 1)) = es ++ ser fs d m (numZ ⟨3,m,R,K,LL⟩ x) (stepZ h r)):=by
     unfold Hid;rw [HST.out,HES.out,HR'.out];simp [oneZ]
    have HR1 : Hid (rankL 0 (l.take (k + 1)) = r + 1):=by
     unfold Hid;rw [HRT.out,HR'.out];simp [rankZ]
    have hmd : fs.length ≤ m + d:=by have:=HFN.out;omega
    have hp2:=hide (fun o=>(Below.cell (p:=⟨pb,0,none⟩) ((Below.refl _ wr).alloc (Nat.le_refl _) o) (by simp;omega)).trans hp1)
    have hF2:=hide (fun o=>(by have:=(HF.out.turn (S':=S) (W':=wr.alloc o) (fun b hb hlt=>⟨hb,((HBk.out.alloc hsz o).block b hlt)⟩));rw [HU.out] at this;exact this : RdF S (wr.alloc o) (.slice (some ⟨b,off,none⟩) n cap) fs))
    have hsl:=HSL.out m (numZ ⟨3,m,R,K,LL⟩ x) (stepZ h r)
    have hp10 : 10 ^ d ≤ 10 ^ 7:=Nat.pow_le_pow_right (by omega) hd
    have hsl' : (ser fs d m (numZ ⟨3,m,R,K,LL⟩ x) (stepZ h r)).length ≤ 10000000:=by omega
    obtain ⟨ss,hss⟩ : ∃ ss,ser fs d m (numZ ⟨3,m,R,K,LL⟩ x) (stepZ h r) = ss:=⟨_,rfl⟩
    have hih:=hide (fun w2 h1 h2=>IH.out m (numZ ⟨3,m,R,K,LL⟩ x) (stepZ h r) w2 hmn hmd h1 h2)
    rw [hss] at HS1 hsl'
    have hih1:=hih.out
    have hnz : numZ ⟨3,m,R,K,LL⟩ x = IntKind.i64.wrap (K + IntKind.i64.wrap (LL * x)):=numZ_wrap _ _
    simp only [hss,HU.out] at hih1
    simp only [hnz] at hih1
    clear hnz
    clear hih
    have hih:=hide hih1
    clear hih1
    clear HST HRT hsl hp10 hss IH hmay hwf
    have hr10 : r ≤ 100:=by omega
    go_wp2
    go_region_held3 (fun w'=>w'.cell? ⟨wr.heap.size,1,none⟩ = some (.int .i64 m) ∧ w'.cell? ⟨wr.heap.size,3,none⟩ = some (.int .i64 K) ∧ w'.cell? ⟨wr.heap.size,4,none⟩ = some (.int .i64 LL)) (go_keep)
     ((first
      | (go_at_call 54;refine (step_any h r _ hr0 hr10).mono ?_;rintro e w3 ⟨rfl,rfl⟩)
      | (go_at_call 38;refine (hih.out _ (by exact hp2.out _) (by exact hF2.out _)).mono ?_;rintro e w3 ⟨a3,c3,rfl,ho3,hb3⟩;have hkp : ∀ j,w3.cell? ⟨wr.heap.size,j,none⟩ = _:=fun j=>hb3.cell (p:=⟨wr.heap.size,j,none⟩) (by simp))))
    have HO3:=hide ho3
    have HOW3:=hide (own_below (HOW.out.alloc _).drew hb3)
    have hsz3 : wr.heap.size ≤ w3.heap.size:=by have:=hb3.size;simp at this;omega
    have HB3:=hide ((HBk.out.alloc hsz _).drew.trans (hb3.mono (by simp;omega)))
    clear ho3 hb3 hkp hih hp2 hF2 hp1 hu1 q0 q1 q2 q3 q4
    go_wp2_with (at_builtin;refine wpList_app _ rfl _ _ 65 rfl w.heap.size 89 i0 _ 3 24 Tryz.underlying65 hii hz0 hz1 hz2 rfl (by decide) _ _ _ rfl HOW3.out _ ss.length (evCells ss) rfl (own_src HO3.out) (evCells_one _) ?h63 ?hbytes ?hbase ?_)
    case h63=>unfold maxLen;omega
    case hbytes=>omega
    case hbase=>omega
    intro a' cap' w2 ho hg _ _
    have HO2:=hide ho
    have HB2:=hide (HB3.out.grown hg (by omega) (fun q hq=>(HOW3.out.lt q hq).1))
    clear ho hg hz0 hz1 hz2 hii
    go_wp2
    go_roundw
    case rel=>exact ⟨⟨k + 1,by omega,by go_num,by rw [HR1.out],by rw [HS1.out,evCells_append,List.length_append];exact HO2.out⟩,HB2.out⟩
    case measure=>simp [intOf];omega
   by_cases o4 : op = 4
   ·subst o4
    obtain ⟨m,hmF,hmf,hmn⟩:=mayB_begins hmay rfl
    simp only at hmF
    subst hmF
    have HS1 : Hid (serL (ser fs d) x h 0 (l.take (k + 1)) = es ++ ser fs d m (numZ ⟨4,m,R,K,LL⟩ x) (stepZ h r)):=by
     unfold Hid;rw [HST.out,HES.out,HR'.out];simp [oneZ]
    have HR1 : Hid (rankL 0 (l.take (k + 1)) = r + 1):=by
     unfold Hid;rw [HRT.out,HR'.out];simp [rankZ]
    have hmd : fs.length ≤ m + d:=by have:=HFN.out;omega
    have hp2:=hide (fun o=>(Below.cell (p:=⟨pb,0,none⟩) ((Below.refl _ wr).alloc (Nat.le_refl _) o) (by simp;omega)).trans hp1)
    have hF2:=hide (fun o=>(by have:=(HF.out.turn (S':=S) (W':=wr.alloc o) (fun b hb hlt=>⟨hb,((HBk.out.alloc hsz o).block b hlt)⟩));rw [HU.out] at this;exact this : RdF S (wr.alloc o) (.slice (some ⟨b,off,none⟩) n cap) fs))
    have hsl:=HSL.out m (numZ ⟨4,m,R,K,LL⟩ x) (stepZ h r)
    have hp10 : 10 ^ d ≤ 10 ^ 7:=Nat.pow_le_pow_right (by omega) hd
    have hsl' : (ser fs d m (numZ ⟨4,m,R,K,LL⟩ x) (stepZ h r)).length ≤ 10000000:=by omega
    obtain ⟨ss,hss⟩ : ∃ ss,ser fs d m (numZ ⟨4,m,R,K,LL⟩ x) (stepZ h r) = ss:=⟨_,rfl⟩
    have hih:=hide (fun w2 h1 h2=>IH.out m (numZ ⟨4,m,R,K,LL⟩ x) (stepZ h r) w2 hmn hmd h1 h2)
    rw [hss] at HS1 hsl'
    have hih1:=hih.out
    have hnz : numZ ⟨4,m,R,K,LL⟩ x = IntKind.i64.wrap (K + IntKind.i64.wrap (LL * x)):=numZ_wrap _ _
    simp only [hss,HU.out] at hih1
    simp only [hnz] at hih1
    clear hnz
    clear hih
    have hih:=hide hih1
    clear hih1
    clear HST HRT hsl hp10 hss IH hmay hwf
    have hr10 : r ≤ 100:=by omega
    go_wp2
    go_region_held3 (fun w'=>w'.cell? ⟨wr.heap.size,1,none⟩ = some (.int .i64 m) ∧ w'.cell? ⟨wr.heap.size,3,none⟩ = some (.int .i64 K) ∧ w'.cell? ⟨wr.heap.size,4,none⟩ = some (.int .i64 LL)) (go_keep)
     ((first
      | (go_at_call 54;refine (step_any h r _ hr0 hr10).mono ?_;rintro e w3 ⟨rfl,rfl⟩)
      | (go_at_call 38;refine (hih.out _ (by exact hp2.out _) (by exact hF2.out _)).mono ?_;rintro e w3 ⟨a3,c3,rfl,ho3,hb3⟩;have hkp : ∀ j,w3.cell? ⟨wr.heap.size,j,none⟩ = _:=fun j=>hb3.cell (p:=⟨wr.heap.size,j,none⟩) (by simp))))
    have HO3:=hide ho3
    have HOW3:=hide (own_below (HOW.out.alloc _).drew hb3)
    have hsz3 : wr.heap.size ≤ w3.heap.size:=by have:=hb3.size;simp at this;omega
    have HB3:=hide ((HBk.out.alloc hsz _).drew.trans (hb3.mono (by simp;omega)))
    clear ho3 hb3 hkp hih hp2 hF2 hp1 hu1 q0 q1 q2 q3 q4
    go_wp2_with (at_builtin;refine wpList_app _ rfl _ _ 65 rfl w.heap.size 89 i0 _ 3 24 Tryz.underlying65 hii hz0 hz1 hz2 rfl (by decide) _ _ _ rfl HOW3.out _ ss.length (evCells ss) rfl (own_src HO3.out) (evCells_one _) ?h63 ?hbytes ?hbase ?_)
    case h63=>unfold maxLen;omega
    case hbytes=>omega
    case hbase=>omega
    intro a' cap' w2 ho hg _ _
    have HO2:=hide ho
    have HB2:=hide (HB3.out.grown hg (by omega) (fun q hq=>(HOW3.out.lt q hq).1))
    clear ho hg hz0 hz1 hz2 hii
    go_wp2
    go_roundw
    case rel=>exact ⟨⟨k + 1,by omega,by go_num,by rw [HR1.out],by rw [HS1.out,evCells_append,List.length_append];exact HO2.out⟩,HB2.out⟩
    case measure=>simp [intOf];omega
   ·have o34 : ¬ (op = 3 ∨ op = 4):=by omega
    clear o3 o4
    have o3 : (op == 3) = false:=by simp;omega
    have o4 : (op == 4) = false:=by simp;omega
    have o1' : (op == 1) = false:=by simpa using o1
    have o2' : (op == 2) = false:=by simpa using o2
    have HS1 : Hid (serL (ser fs d) x h 0 (l.take (k + 1)) = es):=by
     unfold Hid;rw [HST.out,HES.out];simp [oneZ,o1,o2,o34]
    have HR1 : Hid (rankL 0 (l.take (k + 1)) = r + 1):=by
     unfold Hid;rw [HRT.out,HR'.out];simp [rankZ,o1]
    clear HST HRT o1 o2 o34
    go_wp2
    go_roundw
    case rel=>exact ⟨⟨k + 1,by omega,by go_num,by rw [HR1.out],by rw [HS1.out];exact HOW.out.alloc _⟩,HBk.out.alloc hsz _⟩
    case measure=>simp [intOf];omega
  ·obtain rfl : L = k:=by omega
   have e1 : l.take L = l:=by rw [← HL.out,List.take_length]
   have HE1:=hide e1
   clear e1
   obtain ⟨a',cap',hv'⟩:=own_form HOW.out
   have HV:=hide hv'
   have HEE : Hid (serL (ser fs d) x h 0 l = es):=by unfold Hid;rw [← HES.out,HE1.out]
   clear hv'
   go_wp2
   go_ret
   refine ⟨a',cap',?_,?_,HBk.out⟩
   ·rw [HEE.out,← HV.out];rfl
   ·rw [HEE.out,← HV.out];exact HOW.out
theorem serial_any (fs : List (List Ins)) (nr : Nat) (S : Nat → Prop) (pb : Nat) (v : Value) (hn8 : fs.length ≤ 8) (hok : FsOk fs nr) (hl : ∀ l ∈ fs,l.length ≤ 10) :
  ∀ (d : Nat),d ≤ 8 → ∀ (f : Nat) (x h : Int) (w : World),f < fs.length → fs.length ≤ f + d → w.cell? ⟨pb,0,none⟩ = some v → RdF S w v fs →
   Calls Tryz.prog 38 #[.pointer (some ⟨pb,0,none⟩),.int .i64 f,.int .i64 x,.int .u64 h] w fun e w'=>∃ a cap,e = .returned (.slice a (ser fs d f x h).length cap) ∧
    w'.ownsRow w.heap.size 89 3 (.slice a (ser fs d f x h).length cap) (ser fs d f x h).length (evCells (ser fs d f x h)) ∧ Below w.heap.size w w'
 | 0,_,f,_,_,_,h1,h2,_,_=>by omega
 | d + 1,hd,f,x,h,w,h1,h2,h3,h4=>serial_step fs nr S pb d v hn8 hok hl (by omega) (serial_any fs nr S pb v hn8 hok hl d (by omega)) f x h w h1 h2 h3 h4
def traceZ (fs : List (List Ins)) (seed x : Int) : List Ev:=ser fs fs.length 0 x seed
set_option maxHeartbeats 400000 in
theorem trace_any (fs : List (List Ins)) (nr : Nat) (S : Nat → Prop) (pb : Nat) (v : Value) (hn : 0 < fs.length) (hn8 : fs.length ≤ 8) (hok : FsOk fs nr) (hl : ∀ l ∈ fs,l.length ≤ 10)
  (seed x : Int) (w : World) (hp : w.cell? ⟨pb,0,none⟩ = some v) (hF : RdF S w v fs) :
  Calls Tryz.prog 21 #[.pointer (some ⟨pb,0,none⟩),.int .u64 seed,.int .i64 x] w fun e w'=>∃ a cap,e = .returned (.slice a (traceZ fs seed x).length cap) ∧
    w'.ownsRow w.heap.size 89 3 (.slice a (traceZ fs seed x).length cap) (traceZ fs seed x).length (evCells (traceZ fs seed x)) ∧ Below w.heap.size w w':=by
 have hc:=hide (serial_any fs nr S pb v hn8 hok hl fs.length hn8 0 x seed w hn (by omega) hp hF)
 obtain ⟨es,hes⟩ : ∃ es,traceZ fs seed x = es:=⟨_,rfl⟩
 rw [hes]
 have hes' : ser fs fs.length 0 x seed = es:=hes
 rw [hes'] at hc
 clear hok hl hp hF hes hes'
 go_enter Tryz.func21,Tryz.ntmps21
 go_wp2_with fail
 refine hc.out.mono ?_
 rintro e w3 ⟨a3,c3,rfl,ho3,hb3⟩
 have HO3:=hide ho3
 have HB3:=hide hb3
 clear ho3 hb3 hc
 go_wp2
 go_ret
 exact ⟨_,_,rfl,HO3.out,HB3.out⟩
end Go.Proofs.YtkmakliebhnhbaaGreat
