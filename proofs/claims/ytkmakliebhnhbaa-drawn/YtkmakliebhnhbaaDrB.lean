import Derived.Test.YtkmakliebhnhbaaDrA
/- Drawn, walked: the rest. -/
namespace Go.Proofs.Ytkmakliebhnhbaa
open Go.RowKit Go.Shelf

set_option maxRecDepth 100000 in
set_option maxHeartbeats 4000000 in
theorem drawn_pos (seed k x : Int) (w : World) (hs : u64 seed) (hk : 1 ≤ k) (hk1 : k < 9223372036854775808) (hx : i64 x) : Calls Try.prog 4 #[.int .u64 seed, .int .i64 k, .int .i64 x] w fun e w' => e = .returned (.bool true) ∧ Below w.heap.size w w' := by
  have hk0 : ¬ k < 1 := by omega
  have hkp : 0 < k := by omega
  have hik : i64 k := by unfold i64; omega
  obtain ⟨d0, hd0⟩ : ∃ d, drawnZ seed 0 k = d := ⟨_, rfl⟩
  obtain ⟨d1, hd1⟩ : ∃ d, drawnZ (stepZ seed 1) 0 k = d := ⟨_, rfl⟩
  obtain ⟨d2, hd2⟩ : ∃ d, drawnZ seed 2 k = d := ⟨_, rfl⟩
  obtain ⟨d3, hd3⟩ : ∃ d, drawnZ seed 4 k = d := ⟨_, rfl⟩
  have tA : traceZ (fsA k) seed x = [⟨0, 0, d0⟩, ⟨0, 0, d1⟩, ⟨0, 0, d2⟩, ⟨0, 0, d3⟩] := by rw [fsA_tr, hd0, hd1, hd2, hd3]
  have tB : traceZ (fsB k) seed x = [⟨0, 0, d0⟩, ⟨0, 0, 5⟩, ⟨0, 0, d1⟩, ⟨0, 0, x⟩, ⟨0, 0, d2⟩, ⟨0, 0, d3⟩] := by rw [fsB_tr k seed x hx, hd0, hd1, hd2, hd3]
  obtain ⟨l0, g0⟩ := hd0 ▸ drawnZ_lt (h := seed) (r := 0) hkp hk1
  obtain ⟨l1, g1⟩ := hd1 ▸ drawnZ_lt (h := stepZ seed 1) (r := 0) hkp hk1
  obtain ⟨l2, g2⟩ := hd2 ▸ drawnZ_lt (h := seed) (r := 2) hkp hk1
  obtain ⟨l3, g3⟩ := hd3 ▸ drawnZ_lt (h := seed) (r := 4) hkp hk1
  clear hd0 hd1 hd2 hd3
  go_enter Try.func4, Try.ntmps4
  go_wp2_with (first
    | (go_at_call 14; refine (known_calls w).mono ?_; rintro e w1 ⟨rfl, hb1⟩)
    | (go_at_call 15; first
       | (refine (newB k hkp hik w2).mono ?_; rintro e w3 ⟨pb, rfl, hb3, hP3⟩)
       | (refine (newA k hkp hik w1).mono ?_; rintro e w2 ⟨pa, rfl, hb2, hP2⟩))
    | (go_at_call 12; (fail_if_success (have := hb4)); refine (serG (fsA k) _ pa seed x _ _ (fsA_wf hik) (fsA_check hkp) hs hx (dev.turn hP2 (fun b hb _ => ⟨hb, hb3.block b hb.2⟩)) tA (by simp)).mono ?_; rintro e w4 ⟨va, ua, ta, ca, rfl, ka1, ka2, ka, hb4⟩
       have HPB : ∀ w' : World, Below w4.heap.size w4 w' → dev.P (fun b => w2.heap.size ≤ b ∧ b < w3.heap.size) w' (.pointer (some ⟨pb, 0, none⟩)) (fsB k) redsK := fun w' hb' => dev.turn hP3 (fun b hb _ => ⟨hb, (hb'.block b (Nat.lt_of_lt_of_le hb.2 hb4.size)).trans (hb4.block b hb.2)⟩)))
  go_at_call 12
  refine (serG (fsB k) _ pb seed x _ _ (fsB_wf hik) (fsB_check hkp) hs hx (HPB _ ((Below.refl _ w4).alloc (Nat.le_refl _) _)) tB (by simp)).mono ?_
  rintro e w5 ⟨vb, ub, tb, cb, rfl, kb1, kb2, kb, hb5⟩
  have hsz : w4.heap.size < w5.heap.size := by
    have := hb5.size
    rw [World.size_alloc] at this
    omega
  have hta : ta < w5.heap.size := by omega
  have qa : w5.cell? ⟨w4.heap.size, 1, none⟩ = some (.slice (some ⟨ta, 0, none⟩) 4 ca) := out_cell hb5 1 _ rfl
  have qb : ∀ i e, [(⟨0, 0, d0⟩ : Ev), ⟨0, 0, d1⟩, ⟨0, 0, d2⟩, ⟨0, 0, d3⟩][i]? = some e → w5.cell? ⟨ta, 3 * i + 2, none⟩ = some (.int .i64 e.n) := fun i e he => by
    rw [World.cell?_of_block (hb5.block ta (by rw [World.size_alloc]; omega)), World.cell?_of_block (Below.heap_alloc _ _ _ (by omega))]
    exact ka i e he
  have c0 := qb 0 _ rfl
  have c1 := qb 1 _ rfl
  have c2 := qb 2 _ rfl
  have c3 := qb 3 _ rfl
  have b0 := kb 0 _ rfl
  have b1 := kb 1 _ rfl
  have b2 := kb 2 _ rfl
  have b3 := kb 3 _ rfl
  have b4 := kb 4 _ rfl
  have b5 := kb 5 _ rfl
  simp only [Nat.mul_zero, Nat.reduceMul, Nat.reduceAdd] at c0 c1 c2 c3 b0 b1 b2 b3 b4 b5
  clear HPB hP2 hP3 kb ka qb tA tB
  go_wp2
  have n0 : ¬ d0 < 0 := by omega
  have n1 : ¬ d1 < 0 := by omega
  have n2 : ¬ d2 < 0 := by omega
  have n3 : ¬ d3 < 0 := by omega
  have m0 : ¬ k ≤ d0 := by omega
  have m1 : ¬ k ≤ d1 := by omega
  have m2 : ¬ k ≤ d2 := by omega
  have m3 : ¬ k ≤ d3 := by omega
  go_loop [17] (fun i => ∃ n : Nat, n ≤ 4 ∧ i = .int .i64 (n : Int)) (fun i => 4 - (intOf i).toNat)
  case atStart => exact ⟨0, by omega, rfl⟩
  case round =>
    obtain ⟨n, hn, rfl⟩ := by assumption
    by_cases hlt : n < 4
    · obtain rfl | rfl | rfl | rfl : n = 0 ∨ n = 1 ∨ n = 2 ∨ n = 3 := by omega
      · go_wp2
        go_round
        case rel => exact ⟨1, by omega, by go_num⟩
        case measure => simp [intOf]
      · go_wp2
        go_round
        case rel => exact ⟨2, by omega, by go_num⟩
        case measure => simp [intOf]
      · go_wp2
        go_round
        case rel => exact ⟨3, by omega, by go_num⟩
        case measure => simp [intOf]
      · go_wp2
        go_round
        case rel => exact ⟨4, by omega, by go_num⟩
        case measure => simp [intOf]
    · obtain rfl : n = 4 := by omega
      go_wp2
      clear n0 n1 n2 n3 m0 m1 m2 m3
      go_quiet (fail)
      go_wp2
      go_ret
      exact ⟨rfl, below_all _ hb1 hb2 hb3 hb4 hb5⟩
end Go.Proofs.Ytkmakliebhnhbaa
