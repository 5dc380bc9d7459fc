import Derived.Deep.QuietTactic
import Derived.BigQuiet
import Derived.Test.YtkmakliebhnhbaaGreatRows
import Derived.Test.YtkmakliebhnhbaaGreatSer
namespace Go.Proofs.YtkmakliebhnhbaaGreat
open Go.RowKit

set_option maxHeartbeats 4000000 in
theorem may_1 (F R K L : Int) (f : Int) (pb nf nr c1 c2 : Nat) (fa ra : Option Addr) (w : World) (hf : w.cell? ⟨pb, 0, none⟩ = some (.slice fa nf c1)) (hr : w.cell? ⟨pb, 1, none⟩ = some (.slice ra nr c2)) :
    Calls Tryz.prog 36 #[.pointer (some ⟨pb, 0, none⟩), .agg #[.int .i64 1, .int .i64 F, .int .i64 R, .int .i64 K, .int .i64 L], .int .i64 f] w fun e w' => e = .returned (.bool (mayB nf nr f ⟨1, F, R, K, L⟩)) ∧ Below w.heap.size w w' := by
  have hb := block_lt_of_cell hf
  simp only at hb
  by_cases q0 : 0 ≤ R
  · have q0' : decide (0 ≤ R) = true := by simpa using q0
    by_cases q1 : R < (nr : Int)
    · have q1' : decide (R < (nr : Int)) = true := by simpa using q1
      by_cases q2 : F = 0
      · have q2' : (F == 0) = true := by simpa using q2
        have H : Hid (mayB nf nr f ⟨1, F, R, K, L⟩ = true) := by unfold Hid; simp [mayB, q0, q1, q2]
        go_enter Tryz.func36, Tryz.ntmps36
        go_wp2
        go_quiet (fail)
        go_wp2
        go_ret
        exact ⟨by rw [H.out]; rfl, (by repeat (first | exact Below.refl _ _ | refine Below.drew ?_ | refine below_drewN ?_ _ | refine Below.alloc ?_ (Nat.le_refl _) _))⟩
      · have q2' : (F == 0) = false := by simpa using q2
        have H : Hid (mayB nf nr f ⟨1, F, R, K, L⟩ = false) := by unfold Hid; simp [mayB, q2]
        go_enter Tryz.func36, Tryz.ntmps36
        go_wp2
        go_quiet (fail)
        go_wp2
        go_ret
        exact ⟨by rw [H.out]; rfl, (by repeat (first | exact Below.refl _ _ | refine Below.drew ?_ | refine below_drewN ?_ _ | refine Below.alloc ?_ (Nat.le_refl _) _))⟩
    · have q1' : decide (R < (nr : Int)) = false := by simpa using q1
      have H : Hid (mayB nf nr f ⟨1, F, R, K, L⟩ = false) := by unfold Hid; simp [mayB, q1]
      go_enter Tryz.func36, Tryz.ntmps36
      go_wp2
      go_quiet (fail)
      go_wp2
      go_ret
      exact ⟨by rw [H.out]; rfl, (by repeat (first | exact Below.refl _ _ | refine Below.drew ?_ | refine below_drewN ?_ _ | refine Below.alloc ?_ (Nat.le_refl _) _))⟩
  · have q0' : decide (0 ≤ R) = false := by simpa using q0
    have H : Hid (mayB nf nr f ⟨1, F, R, K, L⟩ = false) := by unfold Hid; simp [mayB, q0]
    go_enter Tryz.func36, Tryz.ntmps36
    go_wp2
    go_quiet (fail)
    go_wp2
    go_ret
    exact ⟨by rw [H.out]; rfl, (by repeat (first | exact Below.refl _ _ | refine Below.drew ?_ | refine below_drewN ?_ _ | refine Below.alloc ?_ (Nat.le_refl _) _))⟩
set_option maxHeartbeats 4000000 in
theorem may_2 (F R K L : Int) (f : Int) (pb nf nr c1 c2 : Nat) (fa ra : Option Addr) (w : World) (hf : w.cell? ⟨pb, 0, none⟩ = some (.slice fa nf c1)) (hr : w.cell? ⟨pb, 1, none⟩ = some (.slice ra nr c2)) :
    Calls Tryz.prog 36 #[.pointer (some ⟨pb, 0, none⟩), .agg #[.int .i64 2, .int .i64 F, .int .i64 R, .int .i64 K, .int .i64 L], .int .i64 f] w fun e w' => e = .returned (.bool (mayB nf nr f ⟨2, F, R, K, L⟩)) ∧ Below w.heap.size w w' := by
  have hb := block_lt_of_cell hf
  simp only at hb
  by_cases q0 : 0 ≤ R
  · have q0' : decide (0 ≤ R) = true := by simpa using q0
    by_cases q1 : R < (nr : Int)
    · have q1' : decide (R < (nr : Int)) = true := by simpa using q1
      by_cases q2 : F = 0
      · have q2' : (F == 0) = true := by simpa using q2
        by_cases q3 : 0 < K
        · have q3' : decide (0 < K) = true := by simpa using q3
          by_cases q4 : L = 0
          · have q4' : (L == 0) = true := by simpa using q4
            have H : Hid (mayB nf nr f ⟨2, F, R, K, L⟩ = true) := by unfold Hid; simp [mayB, q0, q1, q2, q3, q4]
            go_enter Tryz.func36, Tryz.ntmps36
            go_wp2
            go_quiet (fail)
            go_wp2
            go_ret
            exact ⟨by rw [H.out]; rfl, (by repeat (first | exact Below.refl _ _ | refine Below.drew ?_ | refine below_drewN ?_ _ | refine Below.alloc ?_ (Nat.le_refl _) _))⟩
          · have q4' : (L == 0) = false := by simpa using q4
            have H : Hid (mayB nf nr f ⟨2, F, R, K, L⟩ = false) := by unfold Hid; simp [mayB, q4]
            go_enter Tryz.func36, Tryz.ntmps36
            go_wp2
            go_quiet (fail)
            go_wp2
            go_ret
            exact ⟨by rw [H.out]; rfl, (by repeat (first | exact Below.refl _ _ | refine Below.drew ?_ | refine below_drewN ?_ _ | refine Below.alloc ?_ (Nat.le_refl _) _))⟩
        · have q3' : decide (0 < K) = false := by simpa using q3
          have H : Hid (mayB nf nr f ⟨2, F, R, K, L⟩ = false) := by unfold Hid; simp [mayB, q3]
          go_enter Tryz.func36, Tryz.ntmps36
          go_wp2
          go_quiet (fail)
          go_wp2
          go_ret
          exact ⟨by rw [H.out]; rfl, (by repeat (first | exact Below.refl _ _ | refine Below.drew ?_ | refine below_drewN ?_ _ | refine Below.alloc ?_ (Nat.le_refl _) _))⟩
      · have q2' : (F == 0) = false := by simpa using q2
        have H : Hid (mayB nf nr f ⟨2, F, R, K, L⟩ = false) := by unfold Hid; simp [mayB, q2]
        go_enter Tryz.func36, Tryz.ntmps36
        go_wp2
        go_quiet (fail)
        go_wp2
        go_ret
        exact ⟨by rw [H.out]; rfl, (by repeat (first | exact Below.refl _ _ | refine Below.drew ?_ | refine below_drewN ?_ _ | refine Below.alloc ?_ (Nat.le_refl _) _))⟩
    · have q1' : decide (R < (nr : Int)) = false := by simpa using q1
      have H : Hid (mayB nf nr f ⟨2, F, R, K, L⟩ = false) := by unfold Hid; simp [mayB, q1]
      go_enter Tryz.func36, Tryz.ntmps36
      go_wp2
      go_quiet (fail)
      go_wp2
      go_ret
      exact ⟨by rw [H.out]; rfl, (by repeat (first | exact Below.refl _ _ | refine Below.drew ?_ | refine below_drewN ?_ _ | refine Below.alloc ?_ (Nat.le_refl _) _))⟩
  · have q0' : decide (0 ≤ R) = false := by simpa using q0
    have H : Hid (mayB nf nr f ⟨2, F, R, K, L⟩ = false) := by unfold Hid; simp [mayB, q0]
    go_enter Tryz.func36, Tryz.ntmps36
    go_wp2
    go_quiet (fail)
    go_wp2
    go_ret
    exact ⟨by rw [H.out]; rfl, (by repeat (first | exact Below.refl _ _ | refine Below.drew ?_ | refine below_drewN ?_ _ | refine Below.alloc ?_ (Nat.le_refl _) _))⟩
set_option maxHeartbeats 4000000 in
theorem may_3 (F R K L : Int) (f : Int) (pb nf nr c1 c2 : Nat) (fa ra : Option Addr) (w : World) (hf : w.cell? ⟨pb, 0, none⟩ = some (.slice fa nf c1)) (hr : w.cell? ⟨pb, 1, none⟩ = some (.slice ra nr c2)) :
    Calls Tryz.prog 36 #[.pointer (some ⟨pb, 0, none⟩), .agg #[.int .i64 3, .int .i64 F, .int .i64 R, .int .i64 K, .int .i64 L], .int .i64 f] w fun e w' => e = .returned (.bool (mayB nf nr f ⟨3, F, R, K, L⟩)) ∧ Below w.heap.size w w' := by
  have hb := block_lt_of_cell hf
  simp only at hb
  by_cases q0 : 0 ≤ R
  · have q0' : decide (0 ≤ R) = true := by simpa using q0
    by_cases q1 : f < F
    · have q1' : decide (f < F) = true := by simpa using q1
      by_cases q2 : F < (nf : Int)
      · have q2' : decide (F < (nf : Int)) = true := by simpa using q2
        by_cases q3 : R = 0
        · have q3' : (R == 0) = true := by simpa using q3
          have H : Hid (mayB nf nr f ⟨3, F, R, K, L⟩ = true) := by unfold Hid; simp [mayB, q1, q2, q3]
          go_enter Tryz.func36, Tryz.ntmps36
          go_wp2
          go_quiet (fail)
          go_wp2
          go_quiet (fail)
          go_wp2
          go_ret
          exact ⟨by rw [H.out]; rfl, (by repeat (first | exact Below.refl _ _ | refine Below.drew ?_ | refine below_drewN ?_ _ | refine Below.alloc ?_ (Nat.le_refl _) _))⟩
        · have q3' : (R == 0) = false := by simpa using q3
          have H : Hid (mayB nf nr f ⟨3, F, R, K, L⟩ = false) := by unfold Hid; simp [mayB, q3]
          go_enter Tryz.func36, Tryz.ntmps36
          go_wp2
          go_quiet (fail)
          go_wp2
          go_quiet (fail)
          go_wp2
          go_ret
          exact ⟨by rw [H.out]; rfl, (by repeat (first | exact Below.refl _ _ | refine Below.drew ?_ | refine below_drewN ?_ _ | refine Below.alloc ?_ (Nat.le_refl _) _))⟩
      · have q2' : decide (F < (nf : Int)) = false := by simpa using q2
        have H : Hid (mayB nf nr f ⟨3, F, R, K, L⟩ = false) := by unfold Hid; simp [mayB, q2]
        go_enter Tryz.func36, Tryz.ntmps36
        go_wp2
        go_quiet (fail)
        go_wp2
        go_quiet (fail)
        go_wp2
        go_ret
        exact ⟨by rw [H.out]; rfl, (by repeat (first | exact Below.refl _ _ | refine Below.drew ?_ | refine below_drewN ?_ _ | refine Below.alloc ?_ (Nat.le_refl _) _))⟩
    · have q1' : decide (f < F) = false := by simpa using q1
      have H : Hid (mayB nf nr f ⟨3, F, R, K, L⟩ = false) := by unfold Hid; simp [mayB, q1]
      go_enter Tryz.func36, Tryz.ntmps36
      go_wp2
      go_quiet (fail)
      go_wp2
      go_quiet (fail)
      go_wp2
      go_ret
      exact ⟨by rw [H.out]; rfl, (by repeat (first | exact Below.refl _ _ | refine Below.drew ?_ | refine below_drewN ?_ _ | refine Below.alloc ?_ (Nat.le_refl _) _))⟩
  · have q0' : decide (0 ≤ R) = false := by simpa using q0
    have q3 : ¬ R = 0 := by omega
    have q3' : (R == 0) = false := by simpa using q3
    have H : Hid (mayB nf nr f ⟨3, F, R, K, L⟩ = false) := by unfold Hid; simp [mayB, q3]
    by_cases q1 : f < F
    · have q1' : decide (f < F) = true := by simpa using q1
      by_cases q2 : F < (nf : Int)
      · have q2' : decide (F < (nf : Int)) = true := by simpa using q2
        go_enter Tryz.func36, Tryz.ntmps36
        go_wp2
        go_quiet (fail)
        go_wp2
        go_quiet (fail)
        go_wp2
        go_ret
        exact ⟨by rw [H.out]; rfl, (by repeat (first | exact Below.refl _ _ | refine Below.drew ?_ | refine below_drewN ?_ _ | refine Below.alloc ?_ (Nat.le_refl _) _))⟩
      · have q2' : decide (F < (nf : Int)) = false := by simpa using q2
        go_enter Tryz.func36, Tryz.ntmps36
        go_wp2
        go_quiet (fail)
        go_wp2
        go_quiet (fail)
        go_wp2
        go_ret
        exact ⟨by rw [H.out]; rfl, (by repeat (first | exact Below.refl _ _ | refine Below.drew ?_ | refine below_drewN ?_ _ | refine Below.alloc ?_ (Nat.le_refl _) _))⟩
    · have q1' : decide (f < F) = false := by simpa using q1
      go_enter Tryz.func36, Tryz.ntmps36
      go_wp2
      go_quiet (fail)
      go_wp2
      go_quiet (fail)
      go_wp2
      go_ret
      exact ⟨by rw [H.out]; rfl, (by repeat (first | exact Below.refl _ _ | refine Below.drew ?_ | refine below_drewN ?_ _ | refine Below.alloc ?_ (Nat.le_refl _) _))⟩
set_option maxHeartbeats 4000000 in
theorem may_4 (F R K L : Int) (f : Int) (pb nf nr c1 c2 : Nat) (fa ra : Option Addr) (w : World) (hf : w.cell? ⟨pb, 0, none⟩ = some (.slice fa nf c1)) (hr : w.cell? ⟨pb, 1, none⟩ = some (.slice ra nr c2)) :
    Calls Tryz.prog 36 #[.pointer (some ⟨pb, 0, none⟩), .agg #[.int .i64 4, .int .i64 F, .int .i64 R, .int .i64 K, .int .i64 L], .int .i64 f] w fun e w' => e = .returned (.bool (mayB nf nr f ⟨4, F, R, K, L⟩)) ∧ Below w.heap.size w w' := by
  have hb := block_lt_of_cell hf
  simp only at hb
  by_cases q0 : 0 ≤ R
  · have q0' : decide (0 ≤ R) = true := by simpa using q0
    by_cases q1 : f < F
    · have q1' : decide (f < F) = true := by simpa using q1
      by_cases q2 : F < (nf : Int)
      · have q2' : decide (F < (nf : Int)) = true := by simpa using q2
        by_cases q3 : R = 0
        · have q3' : (R == 0) = true := by simpa using q3
          have H : Hid (mayB nf nr f ⟨4, F, R, K, L⟩ = true) := by unfold Hid; simp [mayB, q1, q2, q3]
          go_enter Tryz.func36, Tryz.ntmps36
          go_wp2
          go_quiet (fail)
          go_wp2
          go_quiet (fail)
          go_wp2
          go_ret
          exact ⟨by rw [H.out]; rfl, (by repeat (first | exact Below.refl _ _ | refine Below.drew ?_ | refine below_drewN ?_ _ | refine Below.alloc ?_ (Nat.le_refl _) _))⟩
        · have q3' : (R == 0) = false := by simpa using q3
          have H : Hid (mayB nf nr f ⟨4, F, R, K, L⟩ = false) := by unfold Hid; simp [mayB, q3]
          go_enter Tryz.func36, Tryz.ntmps36
          go_wp2
          go_quiet (fail)
          go_wp2
          go_quiet (fail)
          go_wp2
          go_ret
          exact ⟨by rw [H.out]; rfl, (by repeat (first | exact Below.refl _ _ | refine Below.drew ?_ | refine below_drewN ?_ _ | refine Below.alloc ?_ (Nat.le_refl _) _))⟩
      · have q2' : decide (F < (nf : Int)) = false := by simpa using q2
        have H : Hid (mayB nf nr f ⟨4, F, R, K, L⟩ = false) := by unfold Hid; simp [mayB, q2]
        go_enter Tryz.func36, Tryz.ntmps36
        go_wp2
        go_quiet (fail)
        go_wp2
        go_quiet (fail)
        go_wp2
        go_ret
        exact ⟨by rw [H.out]; rfl, (by repeat (first | exact Below.refl _ _ | refine Below.drew ?_ | refine below_drewN ?_ _ | refine Below.alloc ?_ (Nat.le_refl _) _))⟩
    · have q1' : decide (f < F) = false := by simpa using q1
      have H : Hid (mayB nf nr f ⟨4, F, R, K, L⟩ = false) := by unfold Hid; simp [mayB, q1]
      go_enter Tryz.func36, Tryz.ntmps36
      go_wp2
      go_quiet (fail)
      go_wp2
      go_quiet (fail)
      go_wp2
      go_ret
      exact ⟨by rw [H.out]; rfl, (by repeat (first | exact Below.refl _ _ | refine Below.drew ?_ | refine below_drewN ?_ _ | refine Below.alloc ?_ (Nat.le_refl _) _))⟩
  · have q0' : decide (0 ≤ R) = false := by simpa using q0
    have q3 : ¬ R = 0 := by omega
    have q3' : (R == 0) = false := by simpa using q3
    have H : Hid (mayB nf nr f ⟨4, F, R, K, L⟩ = false) := by unfold Hid; simp [mayB, q3]
    by_cases q1 : f < F
    · have q1' : decide (f < F) = true := by simpa using q1
      by_cases q2 : F < (nf : Int)
      · have q2' : decide (F < (nf : Int)) = true := by simpa using q2
        go_enter Tryz.func36, Tryz.ntmps36
        go_wp2
        go_quiet (fail)
        go_wp2
        go_quiet (fail)
        go_wp2
        go_ret
        exact ⟨by rw [H.out]; rfl, (by repeat (first | exact Below.refl _ _ | refine Below.drew ?_ | refine below_drewN ?_ _ | refine Below.alloc ?_ (Nat.le_refl _) _))⟩
      · have q2' : decide (F < (nf : Int)) = false := by simpa using q2
        go_enter Tryz.func36, Tryz.ntmps36
        go_wp2
        go_quiet (fail)
        go_wp2
        go_quiet (fail)
        go_wp2
        go_ret
        exact ⟨by rw [H.out]; rfl, (by repeat (first | exact Below.refl _ _ | refine Below.drew ?_ | refine below_drewN ?_ _ | refine Below.alloc ?_ (Nat.le_refl _) _))⟩
    · have q1' : decide (f < F) = false := by simpa using q1
      go_enter Tryz.func36, Tryz.ntmps36
      go_wp2
      go_quiet (fail)
      go_wp2
      go_quiet (fail)
      go_wp2
      go_ret
      exact ⟨by rw [H.out]; rfl, (by repeat (first | exact Below.refl _ _ | refine Below.drew ?_ | refine below_drewN ?_ _ | refine Below.alloc ?_ (Nat.le_refl _) _))⟩
set_option maxHeartbeats 4000000 in
theorem may_5 (F R K L : Int) (f : Int) (pb nf nr c1 c2 : Nat) (fa ra : Option Addr) (w : World) (hf : w.cell? ⟨pb, 0, none⟩ = some (.slice fa nf c1)) (hr : w.cell? ⟨pb, 1, none⟩ = some (.slice ra nr c2)) :
    Calls Tryz.prog 36 #[.pointer (some ⟨pb, 0, none⟩), .agg #[.int .i64 5, .int .i64 F, .int .i64 R, .int .i64 K, .int .i64 L], .int .i64 f] w fun e w' => e = .returned (.bool (mayB nf nr f ⟨5, F, R, K, L⟩)) ∧ Below w.heap.size w w' := by
  have hb := block_lt_of_cell hf
  simp only at hb
  by_cases q0 : 0 ≤ R
  · have q0' : decide (0 ≤ R) = true := by simpa using q0
    by_cases q1 : F = 0
    · have q1' : (F == 0) = true := by simpa using q1
      by_cases q2 : R = 0
      · have q2' : (R == 0) = true := by simpa using q2
        by_cases q3 : K = 0
        · have q3' : (K == 0) = true := by simpa using q3
          by_cases q4 : L = 0
          · have q4' : (L == 0) = true := by simpa using q4
            have H : Hid (mayB nf nr f ⟨5, F, R, K, L⟩ = true) := by unfold Hid; simp [mayB, q1, q2, q3, q4]
            go_enter Tryz.func36, Tryz.ntmps36
            go_wp2
            go_quiet (fail)
            go_wp2
            go_ret
            exact ⟨by rw [H.out]; rfl, (by repeat (first | exact Below.refl _ _ | refine Below.drew ?_ | refine below_drewN ?_ _ | refine Below.alloc ?_ (Nat.le_refl _) _))⟩
          · have q4' : (L == 0) = false := by simpa using q4
            have H : Hid (mayB nf nr f ⟨5, F, R, K, L⟩ = false) := by unfold Hid; simp [mayB, q4]
            go_enter Tryz.func36, Tryz.ntmps36
            go_wp2
            go_quiet (fail)
            go_wp2
            go_ret
            exact ⟨by rw [H.out]; rfl, (by repeat (first | exact Below.refl _ _ | refine Below.drew ?_ | refine below_drewN ?_ _ | refine Below.alloc ?_ (Nat.le_refl _) _))⟩
        · have q3' : (K == 0) = false := by simpa using q3
          have H : Hid (mayB nf nr f ⟨5, F, R, K, L⟩ = false) := by unfold Hid; simp [mayB, q3]
          go_enter Tryz.func36, Tryz.ntmps36
          go_wp2
          go_quiet (fail)
          go_wp2
          go_ret
          exact ⟨by rw [H.out]; rfl, (by repeat (first | exact Below.refl _ _ | refine Below.drew ?_ | refine below_drewN ?_ _ | refine Below.alloc ?_ (Nat.le_refl _) _))⟩
      · have q2' : (R == 0) = false := by simpa using q2
        have H : Hid (mayB nf nr f ⟨5, F, R, K, L⟩ = false) := by unfold Hid; simp [mayB, q2]
        go_enter Tryz.func36, Tryz.ntmps36
        go_wp2
        go_quiet (fail)
        go_wp2
        go_ret
        exact ⟨by rw [H.out]; rfl, (by repeat (first | exact Below.refl _ _ | refine Below.drew ?_ | refine below_drewN ?_ _ | refine Below.alloc ?_ (Nat.le_refl _) _))⟩
    · have q1' : (F == 0) = false := by simpa using q1
      have H : Hid (mayB nf nr f ⟨5, F, R, K, L⟩ = false) := by unfold Hid; simp [mayB, q1]
      go_enter Tryz.func36, Tryz.ntmps36
      go_wp2
      go_quiet (fail)
      go_wp2
      go_ret
      exact ⟨by rw [H.out]; rfl, (by repeat (first | exact Below.refl _ _ | refine Below.drew ?_ | refine below_drewN ?_ _ | refine Below.alloc ?_ (Nat.le_refl _) _))⟩
  · have q0' : decide (0 ≤ R) = false := by simpa using q0
    have q3 : ¬ R = 0 := by omega
    have q3' : (R == 0) = false := by simpa using q3
    have H : Hid (mayB nf nr f ⟨5, F, R, K, L⟩ = false) := by unfold Hid; simp [mayB, q3]
    by_cases q1 : F = 0
    · have q1' : (F == 0) = true := by simpa using q1
      go_enter Tryz.func36, Tryz.ntmps36
      go_wp2
      go_quiet (fail)
      go_wp2
      go_ret
      exact ⟨by rw [H.out]; rfl, (by repeat (first | exact Below.refl _ _ | refine Below.drew ?_ | refine below_drewN ?_ _ | refine Below.alloc ?_ (Nat.le_refl _) _))⟩
    · have q1' : (F == 0) = false := by simpa using q1
      go_enter Tryz.func36, Tryz.ntmps36
      go_wp2
      go_quiet (fail)
      go_wp2
      go_ret
      exact ⟨by rw [H.out]; rfl, (by repeat (first | exact Below.refl _ _ | refine Below.drew ?_ | refine below_drewN ?_ _ | refine Below.alloc ?_ (Nat.le_refl _) _))⟩
set_option maxHeartbeats 4000000 in
theorem may_0 (op F R K L : Int) (o1 : ¬ op = 1) (o2 : ¬ op = 2) (o3 : ¬ op = 3) (o4 : ¬ op = 4) (o5 : ¬ op = 5) (f : Int) (pb nf nr c1 c2 : Nat) (fa ra : Option Addr) (w : World) (hf : w.cell? ⟨pb, 0, none⟩ = some (.slice fa nf c1)) (hr : w.cell? ⟨pb, 1, none⟩ = some (.slice ra nr c2)) :
    Calls Tryz.prog 36 #[.pointer (some ⟨pb, 0, none⟩), .agg #[.int .i64 op, .int .i64 F, .int .i64 R, .int .i64 K, .int .i64 L], .int .i64 f] w fun e w' => e = .returned (.bool (mayB nf nr f ⟨op, F, R, K, L⟩)) ∧ Below w.heap.size w w' := by
  have hb := block_lt_of_cell hf
  simp only at hb
  have p1 : (op == 1) = false := by simpa using o1
  have p2 : (op == 2) = false := by simpa using o2
  have p3 : (op == 3) = false := by simpa using o3
  have p4 : (op == 4) = false := by simpa using o4
  have p5 : (op == 5) = false := by simpa using o5
  have H : Hid (mayB nf nr f ⟨op, F, R, K, L⟩ = false) := by unfold Hid; simp [mayB, o1, o2, o3, o4, o5]
  clear o1 o2 o3 o4 o5
  by_cases q0 : 0 ≤ R
  · have q0' : decide (0 ≤ R) = true := by simpa using q0
    go_enter Tryz.func36, Tryz.ntmps36
    go_wp2
    go_quiet (fail)
    go_wp2
    go_ret
    exact ⟨by rw [H.out]; rfl, (by repeat (first | exact Below.refl _ _ | refine Below.drew ?_ | refine below_drewN ?_ _ | refine Below.alloc ?_ (Nat.le_refl _) _))⟩
  · have q0' : decide (0 ≤ R) = false := by simpa using q0
    go_enter Tryz.func36, Tryz.ntmps36
    go_wp2
    go_quiet (fail)
    go_wp2
    go_ret
    exact ⟨by rw [H.out]; rfl, (by repeat (first | exact Below.refl _ _ | refine Below.drew ?_ | refine below_drewN ?_ _ | refine Below.alloc ?_ (Nat.le_refl _) _))⟩
theorem may_any (i : Ins) (f : Int) (pb nf nr c1 c2 : Nat) (fa ra : Option Addr) (w : World) (hf : w.cell? ⟨pb, 0, none⟩ = some (.slice fa nf c1)) (hr : w.cell? ⟨pb, 1, none⟩ = some (.slice ra nr c2)) :
    Calls Tryz.prog 36 #[.pointer (some ⟨pb, 0, none⟩), .agg #[.int .i64 i.op, .int .i64 i.f, .int .i64 i.r, .int .i64 i.k, .int .i64 i.l], .int .i64 f] w fun e w' => e = .returned (.bool (mayB nf nr f i)) ∧ Below w.heap.size w w' := by
  obtain ⟨op, F, R, K, L⟩ := i
  by_cases o1 : op = 1
  · subst o1; exact may_1 F R K L f pb nf nr c1 c2 fa ra w hf hr
  by_cases o2 : op = 2
  · subst o2; exact may_2 F R K L f pb nf nr c1 c2 fa ra w hf hr
  by_cases o3 : op = 3
  · subst o3; exact may_3 F R K L f pb nf nr c1 c2 fa ra w hf hr
  by_cases o4 : op = 4
  · subst o4; exact may_4 F R K L f pb nf nr c1 c2 fa ra w hf hr
  by_cases o5 : op = 5
  · subst o5; exact may_5 F R K L f pb nf nr c1 c2 fa ra w hf hr
  exact may_0 op F R K L o1 o2 o3 o4 o5 f pb nf nr c1 c2 fa ra w hf hr
end Go.Proofs.YtkmakliebhnhbaaGreat
