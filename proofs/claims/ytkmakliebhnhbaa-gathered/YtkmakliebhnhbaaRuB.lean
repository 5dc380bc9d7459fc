import Derived.Test.YtkmakliebhnhbaaRuA
/- The program's Run: what it is told beside the program; the call. -/
namespace Go.Proofs.Ytkmakliebhnhbaa
open Go.RowKit Go.Shelf

set_option maxHeartbeats 400000 in
theorem tooLong_calls (a : Option Addr) (n cap : Nat) (w : World) : Calls Try.prog 41 #[.slice a n cap] w fun e w' => e = .returned (.bool (decide (4000 < n))) ∧ w' = w := by
  by_cases h : 4000 < n
  · have hi : (4000 : Int) < n := by omega
    rw [decide_eq_true h]
    go_enter Try.func41, Try.ntmps41
    go_wp2
    go_ret
    exact ⟨rfl, rfl⟩
  · have hi : ¬ (4000 : Int) < n := by omega
    rw [decide_eq_false h]
    go_enter Try.func41, Try.ntmps41
    go_wp2
    go_ret
    exact ⟨rfl, rfl⟩

/-- Lists of picks in memory, by their lengths. -/
def LenAt (w : World) (a : Option Addr) (ls : List Nat) : Prop := ls = [] ∨ ∃ b off, a = some ⟨b, off, none⟩ ∧ ∀ (k n : Nat), ls[k]? = some n → ∃ a' cap, w.cell? ⟨b, off + k, none⟩ = some (.slice a' n cap)
def anyLong (ls : List Nat) : Bool := ls.any (fun n => decide (4000 < n))

set_option maxHeartbeats 1000000 in
theorem index_calls (ls : List Nat) (a : Option Addr) (cap : Nat) (w : World) (hl : LenAt w a ls) (hlen : ls.length ≤ 1000000) (_hcap : ls.length ≤ cap) (_hcm : cap ≤ 9223372036854775807) : Calls Try.prog 56 #[.slice a ls.length cap, .func (.func 41) #[] #[]] w fun e w' => (∃ z : Int, e = .returned (.int .i64 z) ∧ (0 ≤ z ↔ anyLong ls = true) ∧ -1 ≤ z) ∧ w' = w := by
  obtain ⟨n, hn⟩ : ∃ n, ls.length = n := ⟨_, rfl⟩
  rw [hn] at hlen ⊢
  have HN := hide hn
  have HL := hide hl
  clear hn hl
  go_enter Try.func56, Try.ntmps56
  go_wp2
  go_loop [8] (fun i => ∃ k : Nat, k ≤ n ∧ i = .int .i64 k ∧ Hid (∀ j m, j < k → ls[j]? = some m → ¬ 4000 < m)) (fun i => n - (intOf i).toNat)
  case atStart => exact ⟨0, Nat.zero_le _, rfl, fun j m hj => absurd hj (Nat.not_lt_zero _)⟩
  case round =>
    obtain ⟨k, hk, rfl, hall⟩ := hrel
    by_cases hlt : k < n
    · have hlti : (k : Int) < n := by omega
      obtain ⟨m, hm⟩ : ∃ m, ls[k]? = some m := ⟨ls[k]'(by have := HN.out; omega), by simp⟩
      rcases HL.out with he | ⟨b, off, rfl, hc⟩
      · have := HN.out; rw [he] at this; simp at this; omega
      · obtain ⟨a', cap', hcell⟩ := hc k m hm
        have HTL := hide (tooLong_calls a' m cap' w)
        have HM := hide hm
        clear hc hm
        by_cases h4 : 4000 < m
        · rw [decide_eq_true h4] at HTL
          go_wp2_with (go_at_call 41; refine HTL.out.mono ?_; rintro e w' ⟨rfl, rfl⟩)
          go_ret
          refine ⟨⟨k, rfl, ⟨fun _ => ?_, fun _ => by omega⟩, by omega⟩, rfl⟩
          unfold anyLong
          rw [List.any_eq_true]
          exact ⟨m, List.mem_of_getElem? HM.out, by simpa using h4⟩
        · rw [decide_eq_false h4] at HTL
          go_wp2_with (go_at_call 41; refine HTL.out.mono ?_; rintro e w' ⟨rfl, rfl⟩)
          go_round
          case rel =>
            refine ⟨k + 1, by omega, by simp, fun j q hj hq => ?_⟩
            by_cases e : j = k
            · subst e; rw [HM.out] at hq; cases hq; exact h4
            · exact hall.out j q (by omega) hq
          case measure => simp [intOf]; omega
    · obtain rfl : n = k := by omega
      go_wp2
      go_ret
      refine ⟨⟨-1, rfl, ⟨fun h => absurd h (by decide), fun h => ?_⟩, by decide⟩, rfl⟩
      unfold anyLong at h
      rw [List.any_eq_true] at h
      obtain ⟨m, hm, h4⟩ := h
      obtain ⟨j, hj⟩ := List.getElem?_of_mem hm
      have hjl := (List.getElem?_eq_some_iff.1 hj).1
      have := HN.out
      exact absurd (by simpa using h4) (hall.out j m (by omega) hj)

set_option maxHeartbeats 1000000 in
theorem contains_calls (ls : List Nat) (a : Option Addr) (cap : Nat) (w : World) (hl : LenAt w a ls) (hlen : ls.length ≤ 1000000) (hcap : ls.length ≤ cap) (hcm : cap ≤ 9223372036854775807) : Calls Try.prog 40 #[.slice a ls.length cap, .func (.func 41) #[] #[]] w fun e w' => e = .returned (.bool (anyLong ls)) ∧ w' = w := by
  have HI := hide (index_calls ls a cap w hl hlen hcap hcm)
  clear hl
  go_enter Try.func40, Try.ntmps40
  go_wp2_with (go_at_call 56; refine HI.out.mono ?_; rintro e w' ⟨⟨z, rfl, hz, hz1⟩, rfl⟩)
  go_ret
  refine ⟨?_, rfl⟩
  cases hb : anyLong ls with
  | true => rw [hb] at hz; have := hz.2 rfl; simp
  | false => rw [hb] at hz; have : ¬ 0 ≤ z := fun h => Bool.false_ne_true (hz.1 h); simp

/-- P5's and P6's errors. -/
def sweepErr (workers : Int) (ls : List Nat) : Int := if workers < 1 ∨ 8 < workers then 5 else if 20 < ls.length ∨ anyLong ls = true then 6 else 0
theorem sweepErr_one (workers : Int) (n : Nat) : sweepErr workers [n] = runErr workers n := by
  unfold sweepErr runErr anyLong
  simp

set_option maxHeartbeats 1000000 in
theorem check_crew (workers : Int) (ls : List Nat) (a : Option Addr) (cap : Nat) (w : World) (hl : LenAt w a ls) (hlen : ls.length ≤ 1000000) (hcap : ls.length ≤ cap) (hcm : cap ≤ 9223372036854775807) :
    Calls Try.prog 28 #[.int .i64 workers, .slice a ls.length cap] w fun e w' => e = .returned (.int .i64 (sweepErr workers ls)) ∧ w' = w := by
  have HI := hide (contains_calls ls a cap w hl hlen hcap hcm)
  unfold sweepErr
  obtain ⟨n, hn⟩ : ∃ n, ls.length = n := ⟨_, rfl⟩
  rw [hn] at HI hlen hcap ⊢
  clear hl hn
  by_cases h1 : workers < 1
  · rw [if_pos (.inl h1)]
    go_enter Try.func28, Try.ntmps28
    go_wp2
    go_ret
    exact ⟨rfl, rfl⟩
  by_cases h2 : 8 < workers
  · rw [if_pos (.inr h2)]
    go_enter Try.func28, Try.ntmps28
    go_wp2
    go_ret
    exact ⟨rfl, rfl⟩
  rw [if_neg (by omega)]
  by_cases h3 : 20 < n
  · have h3i : (20 : Int) < n := by omega
    rw [if_pos (.inl h3)]
    go_enter Try.func28, Try.ntmps28
    go_wp2
    go_ret
    exact ⟨rfl, rfl⟩
  have h3i : ¬ (20 : Int) < n := by omega
  cases hb : anyLong ls with
  | true =>
    rw [hb] at HI
    rw [if_pos (.inr rfl)]
    go_enter Try.func28, Try.ntmps28
    go_wp2_with (go_at_call 40; refine HI.out.mono ?_; rintro e w' ⟨rfl, rfl⟩)
    go_ret
    exact ⟨rfl, rfl⟩
  | false =>
    rw [hb] at HI
    rw [if_neg (by simp; omega)]
    go_enter Try.func28, Try.ntmps28
    go_wp2_with (go_at_call 40; refine HI.out.mono ?_; rintro e w' ⟨rfl, rfl⟩)
    go_ret
    exact ⟨rfl, rfl⟩
end Go.Proofs.Ytkmakliebhnhbaa
