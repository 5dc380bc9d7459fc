import Derived.Test.YtkmakliebhnhbaaGreatItV
import Derived.Test.YtkmakliebhnhbaaGreatCheck
/- The program's checks: kinds, reducers, one instruction. -/
namespace Go.Proofs.YtkmakliebhnhbaaGreat
open Go.RowKit Go.Shelf

set_option maxHeartbeats 2000000 in
theorem isKind_calls (k : Int) (w : World) : Calls Tryz.prog 66 #[.int .i64 k] w fun e w' => e = .returned (.bool (decide (1 ≤ k) && decide (k ≤ 5))) ∧ w' = w := by
  by_cases h : 1 ≤ k ∧ k ≤ 5
  · have H : Hid ((decide (1 ≤ k) && decide (k ≤ 5)) = true) := by unfold Hid; simp [h.1, h.2]
    rw [H.out]
    obtain rfl | rfl | rfl | rfl | rfl : k = 1 ∨ k = 2 ∨ k = 3 ∨ k = 4 ∨ k = 5 := by omega
    all_goals
      clear h
      go_enter Tryz.func66, Tryz.ntmps66
      go_wp2
      go_ret
      exact ⟨rfl, rfl⟩
  · have H : Hid ((decide (1 ≤ k) && decide (k ≤ 5)) = false) := by unfold Hid; simp; omega
    rw [H.out]
    have b1 : (k == 1) = false := by simp; omega
    have b2 : (k == 2) = false := by simp; omega
    have b3 : (k == 3) = false := by simp; omega
    have b4 : (k == 4) = false := by simp; omega
    have b5 : (k == 5) = false := by simp; omega
    clear h
    go_enter Tryz.func66, Tryz.ntmps66
    go_wp2
    go_ret
    exact ⟨rfl, rfl⟩

def badRed (reds : List Int) : Int × Bool := if 4 < reds.length then (0, true) else match firstBad (badR reds) reds.length with
  | some r => ((r : Int), true)
  | none => (0, false)

set_option maxHeartbeats 2000000 in
theorem badReducer_calls (reds : List Int) (S : Nat → Prop) (vr : Value) (w : World) (hR : RdL S w 1 int64s vr reds) :
    Calls Tryz.prog 45 #[vr] w fun e w' => e = .returned (.tuple #[.int .i64 (badRed reds).1, .bool (badRed reds).2]) ∧ w' = w := by
  have HR := hide hR
  obtain ⟨ra, rcap, rfl, hrc, hrm⟩ := hR.form
  unfold maxLen at hrm
  obtain ⟨nr, hNR⟩ : ∃ nr, reds.length = nr := ⟨_, rfl⟩
  rw [hNR] at hrc ⊢
  have HNR := hide hNR
  clear hNR hR
  by_cases h2 : 4 < nr
  · have HC : Hid (badRed reds = (0, true)) := by unfold Hid badRed; rw [if_pos (by rw [HNR.out]; exact h2)]
    have h2' : (4 : Int) < nr := by omega
    go_enter Tryz.func45, Tryz.ntmps45
    go_wp2
    go_ret2
    rw [HC.out]
    exact ⟨rfl, rfl⟩
  have a3 : (nr : Int) ≤ 4 := by omega
  have H2 : Hid (¬ 4 < reds.length) := by unfold Hid; rw [HNR.out]; exact h2
  clear h2
  go_enter Tryz.func45, Tryz.ntmps45
  go_wp2
  go_loop [11] (fun i => ∃ k : Nat, k ≤ nr ∧ i = .int .i64 k ∧ Hid (∀ j, j < k → badR reds j = false)) (fun i => nr - (intOf i).toNat)
  case atStart => exact ⟨0, Nat.zero_le _, rfl, fun j hj => by omega⟩
  case round =>
    obtain ⟨k, hk, rfl, hb⟩ := hrel
    by_cases hlt : k < nr
    · have hlti : (k : Int) < nr := by omega
      obtain ⟨q, hqk⟩ : ∃ q, reds[k]? = some q := ⟨reds[k]'(by have := HNR.out; omega), by simp⟩
      obtain ⟨b, off, rfl, _, hce⟩ := HR.out.at hqk
      have c0 := hce 0 _ rfl
      simp only [Nat.mul_one, Nat.add_zero] at c0
      have HQ := hide hqk
      clear hce hqk
      by_cases hbad : 1 ≤ q ∧ q ≤ 5
      · have H : Hid ((decide (1 ≤ q) && decide (q ≤ 5)) = true) := by unfold Hid; simp [hbad.1, hbad.2]
        have HB := hide hbad
        clear hbad
        go_wp2_with (go_at_call 66; refine (isKind_calls _ _).mono ?_; rintro e w' ⟨rfl, rfl⟩; rw [H.out])
        go_round
        case rel =>
          refine ⟨k + 1, by omega, by go_num, fun j hj => ?_⟩
          by_cases e : j = k
          · subst e; unfold badR; rw [HQ.out]; simpa using H.out
          · exact hb.out j (by omega)
        case measure => simp [intOf]; omega
      · have H : Hid ((decide (1 ≤ q) && decide (q ≤ 5)) = false) := by unfold Hid; simp; omega
        clear hbad
        have HC : Hid (badRed reds = ((k : Int), true)) := by
          unfold Hid badRed
          rw [if_neg H2.out, firstBad_some hb.out (by have := H.out; unfold badR; rw [HQ.out]; simp at this ⊢; omega) (by have := HNR.out; omega)]
        go_wp2_with (go_at_call 66; refine (isKind_calls _ _).mono ?_; rintro e w' ⟨rfl, rfl⟩; rw [H.out])
        go_ret2
        rw [HC.out]
        exact ⟨rfl, rfl⟩
    · obtain rfl : nr = k := by omega
      have HC : Hid (badRed reds = (0, false)) := by
        unfold Hid badRed
        rw [if_neg H2.out, firstBad_none (p := badR reds) (n := reds.length) (by rw [HNR.out]; exact hb.out)]
      clear hb
      go_wp2
      go_ret2
      rw [HC.out]
      exact ⟨rfl, rfl⟩

set_option maxHeartbeats 4000000 in
theorem mayBe_1 (F R K L : Int) (f : Int) (nf nr : Nat) (w : World) :
    Calls Tryz.prog 68 #[.agg #[.int .i64 1, .int .i64 F, .int .i64 R, .int .i64 K, .int .i64 L], .int .i64 f, .int .i64 nf, .int .i64 nr] w fun e w' => e = .returned (.bool (mayB nf nr f ⟨1, F, R, K, L⟩)) ∧ Below w.heap.size w w' := by
  by_cases q0 : 0 ≤ R
  · have q0' : decide (0 ≤ R) = true := by simpa using q0
    by_cases q1 : R < (nr : Int)
    · have q1' : decide (R < (nr : Int)) = true := by simpa using q1
      by_cases q2 : F = 0
      · have q2' : (F == 0) = true := by simpa using q2
        have H : Hid (mayB nf nr f ⟨1, F, R, K, L⟩ = true) := by unfold Hid; simp [mayB, q0, q1, q2]
        go_enter Tryz.func68, Tryz.ntmps68
        go_wp2
        all_goals
          (try subst q2)
          (try subst q4)
          (try subst q7)
          (try subst q8)
          go_ret
          exact ⟨by rw [H.out]; rfl, (by repeat (first | exact Below.refl _ _ | refine Below.drew ?_ | refine below_drewN ?_ _ | refine Below.alloc ?_ (Nat.le_refl _) _))⟩
      · have q2' : (F == 0) = false := by simpa using q2
        have H : Hid (mayB nf nr f ⟨1, F, R, K, L⟩ = false) := by unfold Hid; simp [mayB, q2]
        go_enter Tryz.func68, Tryz.ntmps68
        go_wp2
        all_goals
          (try subst q2)
          (try subst q4)
          (try subst q7)
          (try subst q8)
          go_ret
          exact ⟨by rw [H.out]; rfl, (by repeat (first | exact Below.refl _ _ | refine Below.drew ?_ | refine below_drewN ?_ _ | refine Below.alloc ?_ (Nat.le_refl _) _))⟩
    · have q1' : decide (R < (nr : Int)) = false := by simpa using q1
      have H : Hid (mayB nf nr f ⟨1, F, R, K, L⟩ = false) := by unfold Hid; simp [mayB, q1]
      go_enter Tryz.func68, Tryz.ntmps68
      go_wp2
      all_goals
        (try subst q2)
        (try subst q4)
        (try subst q7)
        (try subst q8)
        go_ret
        exact ⟨by rw [H.out]; rfl, (by repeat (first | exact Below.refl _ _ | refine Below.drew ?_ | refine below_drewN ?_ _ | refine Below.alloc ?_ (Nat.le_refl _) _))⟩
  · have q0' : decide (0 ≤ R) = false := by simpa using q0
    have H : Hid (mayB nf nr f ⟨1, F, R, K, L⟩ = false) := by unfold Hid; simp [mayB, q0]
    go_enter Tryz.func68, Tryz.ntmps68
    go_wp2
    all_goals
      (try subst q2)
      (try subst q4)
      (try subst q7)
      (try subst q8)
      go_ret
      exact ⟨by rw [H.out]; rfl, (by repeat (first | exact Below.refl _ _ | refine Below.drew ?_ | refine below_drewN ?_ _ | refine Below.alloc ?_ (Nat.le_refl _) _))⟩

set_option maxHeartbeats 4000000 in
theorem mayBe_2 (F R K L : Int) (f : Int) (nf nr : Nat) (w : World) :
    Calls Tryz.prog 68 #[.agg #[.int .i64 2, .int .i64 F, .int .i64 R, .int .i64 K, .int .i64 L], .int .i64 f, .int .i64 nf, .int .i64 nr] w fun e w' => e = .returned (.bool (mayB nf nr f ⟨2, F, R, K, L⟩)) ∧ Below w.heap.size w w' := by
  by_cases q0 : 0 ≤ R
  · have q0' : decide (0 ≤ R) = true := by simpa using q0
    by_cases q1 : R < (nr : Int)
    · have q1' : decide (R < (nr : Int)) = true := by simpa using q1
      by_cases q2 : F = 0
      · have q2' : (F == 0) = true := by simpa using q2
        by_cases q3 : 1 ≤ K
        · have q3' : decide (1 ≤ K) = true := by simpa using q3
          have q3n : 0 < K := by omega
          by_cases q4 : L = 0
          · have q4' : (L == 0) = true := by simpa using q4
            have H : Hid (mayB nf nr f ⟨2, F, R, K, L⟩ = true) := by unfold Hid; simp [mayB, q0, q1, q2, q3n, q4]
            go_enter Tryz.func68, Tryz.ntmps68
            go_wp2
            all_goals
              (try subst q2)
              (try subst q4)
              (try subst q7)
              (try subst q8)
              go_ret
              exact ⟨by rw [H.out]; rfl, (by repeat (first | exact Below.refl _ _ | refine Below.drew ?_ | refine below_drewN ?_ _ | refine Below.alloc ?_ (Nat.le_refl _) _))⟩
          · have q4' : (L == 0) = false := by simpa using q4
            have H : Hid (mayB nf nr f ⟨2, F, R, K, L⟩ = false) := by unfold Hid; simp [mayB, q4]
            go_enter Tryz.func68, Tryz.ntmps68
            go_wp2
            all_goals
              (try subst q2)
              (try subst q4)
              (try subst q7)
              (try subst q8)
              go_ret
              exact ⟨by rw [H.out]; rfl, (by repeat (first | exact Below.refl _ _ | refine Below.drew ?_ | refine below_drewN ?_ _ | refine Below.alloc ?_ (Nat.le_refl _) _))⟩
        · have q3' : decide (1 ≤ K) = false := by simpa using q3
          have q3n : ¬ 0 < K := by omega
          have H : Hid (mayB nf nr f ⟨2, F, R, K, L⟩ = false) := by unfold Hid; simp [mayB, q3n]
          go_enter Tryz.func68, Tryz.ntmps68
          go_wp2
          all_goals
            (try subst q2)
            (try subst q4)
            (try subst q7)
            (try subst q8)
            go_ret
            exact ⟨by rw [H.out]; rfl, (by repeat (first | exact Below.refl _ _ | refine Below.drew ?_ | refine below_drewN ?_ _ | refine Below.alloc ?_ (Nat.le_refl _) _))⟩
      · have q2' : (F == 0) = false := by simpa using q2
        have H : Hid (mayB nf nr f ⟨2, F, R, K, L⟩ = false) := by unfold Hid; simp [mayB, q2]
        go_enter Tryz.func68, Tryz.ntmps68
        go_wp2
        all_goals
          (try subst q2)
          (try subst q4)
          (try subst q7)
          (try subst q8)
          go_ret
          exact ⟨by rw [H.out]; rfl, (by repeat (first | exact Below.refl _ _ | refine Below.drew ?_ | refine below_drewN ?_ _ | refine Below.alloc ?_ (Nat.le_refl _) _))⟩
    · have q1' : decide (R < (nr : Int)) = false := by simpa using q1
      have H : Hid (mayB nf nr f ⟨2, F, R, K, L⟩ = false) := by unfold Hid; simp [mayB, q1]
      go_enter Tryz.func68, Tryz.ntmps68
      go_wp2
      all_goals
        (try subst q2)
        (try subst q4)
        (try subst q7)
        (try subst q8)
        go_ret
        exact ⟨by rw [H.out]; rfl, (by repeat (first | exact Below.refl _ _ | refine Below.drew ?_ | refine below_drewN ?_ _ | refine Below.alloc ?_ (Nat.le_refl _) _))⟩
  · have q0' : decide (0 ≤ R) = false := by simpa using q0
    have H : Hid (mayB nf nr f ⟨2, F, R, K, L⟩ = false) := by unfold Hid; simp [mayB, q0]
    go_enter Tryz.func68, Tryz.ntmps68
    go_wp2
    all_goals
      (try subst q2)
      (try subst q4)
      (try subst q7)
      (try subst q8)
      go_ret
      exact ⟨by rw [H.out]; rfl, (by repeat (first | exact Below.refl _ _ | refine Below.drew ?_ | refine below_drewN ?_ _ | refine Below.alloc ?_ (Nat.le_refl _) _))⟩

set_option maxHeartbeats 4000000 in
theorem mayBe_3 (F R K L : Int) (f : Int) (nf nr : Nat) (w : World) :
    Calls Tryz.prog 68 #[.agg #[.int .i64 3, .int .i64 F, .int .i64 R, .int .i64 K, .int .i64 L], .int .i64 f, .int .i64 nf, .int .i64 nr] w fun e w' => e = .returned (.bool (mayB nf nr f ⟨3, F, R, K, L⟩)) ∧ Below w.heap.size w w' := by
  by_cases q5 : f < F
  · have q5' : decide (f < F) = true := by simpa using q5
    by_cases q6 : F < (nf : Int)
    · have q6' : decide (F < (nf : Int)) = true := by simpa using q6
      by_cases q2 : R = 0
      · have q2' : (R == 0) = true := by simpa using q2
        have H : Hid (mayB nf nr f ⟨3, F, R, K, L⟩ = true) := by unfold Hid; simp [mayB, q5, q6, q2]
        go_enter Tryz.func68, Tryz.ntmps68
        go_wp2
        all_goals
          (try subst q2)
          (try subst q4)
          (try subst q7)
          (try subst q8)
          go_ret
          exact ⟨by rw [H.out]; rfl, (by repeat (first | exact Below.refl _ _ | refine Below.drew ?_ | refine below_drewN ?_ _ | refine Below.alloc ?_ (Nat.le_refl _) _))⟩
      · have q2' : (R == 0) = false := by simpa using q2
        have H : Hid (mayB nf nr f ⟨3, F, R, K, L⟩ = false) := by unfold Hid; simp [mayB, q2]
        go_enter Tryz.func68, Tryz.ntmps68
        go_wp2
        all_goals
          (try subst q2)
          (try subst q4)
          (try subst q7)
          (try subst q8)
          go_ret
          exact ⟨by rw [H.out]; rfl, (by repeat (first | exact Below.refl _ _ | refine Below.drew ?_ | refine below_drewN ?_ _ | refine Below.alloc ?_ (Nat.le_refl _) _))⟩
    · have q6' : decide (F < (nf : Int)) = false := by simpa using q6
      have H : Hid (mayB nf nr f ⟨3, F, R, K, L⟩ = false) := by unfold Hid; simp [mayB, q6]
      go_enter Tryz.func68, Tryz.ntmps68
      go_wp2
      all_goals
        (try subst q2)
        (try subst q4)
        (try subst q7)
        (try subst q8)
        go_ret
        exact ⟨by rw [H.out]; rfl, (by repeat (first | exact Below.refl _ _ | refine Below.drew ?_ | refine below_drewN ?_ _ | refine Below.alloc ?_ (Nat.le_refl _) _))⟩
  · have q5' : decide (f < F) = false := by simpa using q5
    have H : Hid (mayB nf nr f ⟨3, F, R, K, L⟩ = false) := by unfold Hid; simp [mayB, q5]
    go_enter Tryz.func68, Tryz.ntmps68
    go_wp2
    all_goals
      (try subst q2)
      (try subst q4)
      (try subst q7)
      (try subst q8)
      go_ret
      exact ⟨by rw [H.out]; rfl, (by repeat (first | exact Below.refl _ _ | refine Below.drew ?_ | refine below_drewN ?_ _ | refine Below.alloc ?_ (Nat.le_refl _) _))⟩

set_option maxHeartbeats 4000000 in
theorem mayBe_4 (F R K L : Int) (f : Int) (nf nr : Nat) (w : World) :
    Calls Tryz.prog 68 #[.agg #[.int .i64 4, .int .i64 F, .int .i64 R, .int .i64 K, .int .i64 L], .int .i64 f, .int .i64 nf, .int .i64 nr] w fun e w' => e = .returned (.bool (mayB nf nr f ⟨4, F, R, K, L⟩)) ∧ Below w.heap.size w w' := by
  by_cases q5 : f < F
  · have q5' : decide (f < F) = true := by simpa using q5
    by_cases q6 : F < (nf : Int)
    · have q6' : decide (F < (nf : Int)) = true := by simpa using q6
      by_cases q2 : R = 0
      · have q2' : (R == 0) = true := by simpa using q2
        have H : Hid (mayB nf nr f ⟨4, F, R, K, L⟩ = true) := by unfold Hid; simp [mayB, q5, q6, q2]
        go_enter Tryz.func68, Tryz.ntmps68
        go_wp2
        all_goals
          (try subst q2)
          (try subst q4)
          (try subst q7)
          (try subst q8)
          go_ret
          exact ⟨by rw [H.out]; rfl, (by repeat (first | exact Below.refl _ _ | refine Below.drew ?_ | refine below_drewN ?_ _ | refine Below.alloc ?_ (Nat.le_refl _) _))⟩
      · have q2' : (R == 0) = false := by simpa using q2
        have H : Hid (mayB nf nr f ⟨4, F, R, K, L⟩ = false) := by unfold Hid; simp [mayB, q2]
        go_enter Tryz.func68, Tryz.ntmps68
        go_wp2
        all_goals
          (try subst q2)
          (try subst q4)
          (try subst q7)
          (try subst q8)
          go_ret
          exact ⟨by rw [H.out]; rfl, (by repeat (first | exact Below.refl _ _ | refine Below.drew ?_ | refine below_drewN ?_ _ | refine Below.alloc ?_ (Nat.le_refl _) _))⟩
    · have q6' : decide (F < (nf : Int)) = false := by simpa using q6
      have H : Hid (mayB nf nr f ⟨4, F, R, K, L⟩ = false) := by unfold Hid; simp [mayB, q6]
      go_enter Tryz.func68, Tryz.ntmps68
      go_wp2
      all_goals
        (try subst q2)
        (try subst q4)
        (try subst q7)
        (try subst q8)
        go_ret
        exact ⟨by rw [H.out]; rfl, (by repeat (first | exact Below.refl _ _ | refine Below.drew ?_ | refine below_drewN ?_ _ | refine Below.alloc ?_ (Nat.le_refl _) _))⟩
  · have q5' : decide (f < F) = false := by simpa using q5
    have H : Hid (mayB nf nr f ⟨4, F, R, K, L⟩ = false) := by unfold Hid; simp [mayB, q5]
    go_enter Tryz.func68, Tryz.ntmps68
    go_wp2
    all_goals
      (try subst q2)
      (try subst q4)
      (try subst q7)
      (try subst q8)
      go_ret
      exact ⟨by rw [H.out]; rfl, (by repeat (first | exact Below.refl _ _ | refine Below.drew ?_ | refine below_drewN ?_ _ | refine Below.alloc ?_ (Nat.le_refl _) _))⟩

set_option maxHeartbeats 4000000 in
theorem mayBe_5 (F R K L : Int) (f : Int) (nf nr : Nat) (w : World) :
    Calls Tryz.prog 68 #[.agg #[.int .i64 5, .int .i64 F, .int .i64 R, .int .i64 K, .int .i64 L], .int .i64 f, .int .i64 nf, .int .i64 nr] w fun e w' => e = .returned (.bool (mayB nf nr f ⟨5, F, R, K, L⟩)) ∧ Below w.heap.size w w' := by
  by_cases q2 : F = 0
  · have q2' : (F == 0) = true := by simpa using q2
    by_cases q4 : R = 0
    · have q4' : (R == 0) = true := by simpa using q4
      by_cases q7 : K = 0
      · have q7' : (K == 0) = true := by simpa using q7
        by_cases q8 : L = 0
        · have q8' : (L == 0) = true := by simpa using q8
          have H : Hid (mayB nf nr f ⟨5, F, R, K, L⟩ = true) := by unfold Hid; simp [mayB, q2, q4, q7, q8]
          go_enter Tryz.func68, Tryz.ntmps68
          go_wp2
          all_goals
            (try subst q2)
            (try subst q4)
            (try subst q7)
            (try subst q8)
            go_ret
            exact ⟨by rw [H.out]; rfl, (by repeat (first | exact Below.refl _ _ | refine Below.drew ?_ | refine below_drewN ?_ _ | refine Below.alloc ?_ (Nat.le_refl _) _))⟩
        · have q8' : (L == 0) = false := by simpa using q8
          have H : Hid (mayB nf nr f ⟨5, F, R, K, L⟩ = false) := by unfold Hid; simp [mayB, q8]
          go_enter Tryz.func68, Tryz.ntmps68
          go_wp2
          all_goals
            (try subst q2)
            (try subst q4)
            (try subst q7)
            (try subst q8)
            go_ret
            exact ⟨by rw [H.out]; rfl, (by repeat (first | exact Below.refl _ _ | refine Below.drew ?_ | refine below_drewN ?_ _ | refine Below.alloc ?_ (Nat.le_refl _) _))⟩
      · have q7' : (K == 0) = false := by simpa using q7
        have H : Hid (mayB nf nr f ⟨5, F, R, K, L⟩ = false) := by unfold Hid; simp [mayB, q7]
        go_enter Tryz.func68, Tryz.ntmps68
        go_wp2
        all_goals
          (try subst q2)
          (try subst q4)
          (try subst q7)
          (try subst q8)
          go_ret
          exact ⟨by rw [H.out]; rfl, (by repeat (first | exact Below.refl _ _ | refine Below.drew ?_ | refine below_drewN ?_ _ | refine Below.alloc ?_ (Nat.le_refl _) _))⟩
    · have q4' : (R == 0) = false := by simpa using q4
      have H : Hid (mayB nf nr f ⟨5, F, R, K, L⟩ = false) := by unfold Hid; simp [mayB, q4]
      go_enter Tryz.func68, Tryz.ntmps68
      go_wp2
      all_goals
        (try subst q2)
        (try subst q4)
        (try subst q7)
        (try subst q8)
        go_ret
        exact ⟨by rw [H.out]; rfl, (by repeat (first | exact Below.refl _ _ | refine Below.drew ?_ | refine below_drewN ?_ _ | refine Below.alloc ?_ (Nat.le_refl _) _))⟩
  · have q2' : (F == 0) = false := by simpa using q2
    have H : Hid (mayB nf nr f ⟨5, F, R, K, L⟩ = false) := by unfold Hid; simp [mayB, q2]
    go_enter Tryz.func68, Tryz.ntmps68
    go_wp2
    all_goals
      (try subst q2)
      (try subst q4)
      (try subst q7)
      (try subst q8)
      go_ret
      exact ⟨by rw [H.out]; rfl, (by repeat (first | exact Below.refl _ _ | refine Below.drew ?_ | refine below_drewN ?_ _ | refine Below.alloc ?_ (Nat.le_refl _) _))⟩

set_option maxHeartbeats 4000000 in
theorem mayBe_0 (op F R K L : Int) (f : Int) (nf nr : Nat) (w : World) (h : op < 1 ∨ 5 < op) :
    Calls Tryz.prog 68 #[.agg #[.int .i64 op, .int .i64 F, .int .i64 R, .int .i64 K, .int .i64 L], .int .i64 f, .int .i64 nf, .int .i64 nr] w fun e w' => e = .returned (.bool (mayB nf nr f ⟨op, F, R, K, L⟩)) ∧ Below w.heap.size w w' := by
  have H : Hid (mayB nf nr f ⟨op, F, R, K, L⟩ = false) := by
    unfold Hid mayB
    rw [if_neg (by simp only; omega), if_neg (by simp only; omega), if_neg (by simp only; omega), if_neg (by simp only; omega)]
  have b1 : (op == 1) = false := by simp; omega
  have b2 : (op == 2) = false := by simp; omega
  have b3 : (op == 3) = false := by simp; omega
  have b4 : (op == 4) = false := by simp; omega
  have b5 : (op == 5) = false := by simp; omega
  clear h
  go_enter Tryz.func68, Tryz.ntmps68
  go_wp2
  all_goals
    go_ret
    exact ⟨by rw [H.out]; rfl, (by repeat (first | exact Below.refl _ _ | refine Below.drew ?_ | refine below_drewN ?_ _ | refine Below.alloc ?_ (Nat.le_refl _) _))⟩

/-- One instruction: whether it may be. -/
theorem mayBe_calls (i : Ins) (f : Int) (nf nr : Nat) (w : World) :
    Calls Tryz.prog 68 #[i.agg, .int .i64 f, .int .i64 nf, .int .i64 nr] w fun e w' => e = .returned (.bool (mayB nf nr f i)) ∧ Below w.heap.size w w' := by
  obtain ⟨op, F, R, K, L⟩ := i
  by_cases h : op < 1 ∨ 5 < op
  · exact mayBe_0 op F R K L f nf nr w h
  · obtain rfl | rfl | rfl | rfl | rfl : op = 1 ∨ op = 2 ∨ op = 3 ∨ op = 4 ∨ op = 5 := by omega
    · exact mayBe_1 F R K L f nf nr w
    · exact mayBe_2 F R K L f nf nr w
    · exact mayBe_3 F R K L f nf nr w
    · exact mayBe_4 F R K L f nf nr w
    · exact mayBe_5 F R K L f nf nr w

end Go.Proofs.YtkmakliebhnhbaaGreat
