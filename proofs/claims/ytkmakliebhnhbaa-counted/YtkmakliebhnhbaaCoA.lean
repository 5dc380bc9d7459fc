import Derived.Deep.RegionHeld3
import Derived.Test.YtkmakliebhnhbaaLoA
import Derived.Test.YtkmakliebhnhbaaRgN
/- Counted: the walk. -/
namespace Go.Proofs.Ytkmakliebhnhbaa
open Go.RowKit Go.Shelf

/-- Take number i first, which is not wanted. -/
theorem take_no {P : Program} {md : Region.Mode} {ops : Array Oper} {Q : Exit → Act → World → Prop} {S : World → Prop} (i d : Nat) {oi : Oper} {fuel : Nat} {listed : Array Bool} {tmps : Array Value} {ds : List Deferred} {w : World} (hi : ops[i]? = some oi) (hd : oi.dst = some d)
    (hs : Region.noSelect ops = true) (hf : Region.free md ops listed i = true) (hr : (Region.ready md ops listed).contains i = true)
    (hQ : ∀ c a w, Q (.panic c) (a.put oi.dst undef) w → Q (.panic c) a w) (hw : Region.wanted oi (yielded ops tmps) = false) (hS : S w)
    (h : wpAnyH P md ops Q S fuel (listed.setIfInBounds i true) { tmps := tmps.setIfInBounds d undef, defers := ds } w) : wpAnyH P md ops Q S (fuel + 1) listed { tmps := tmps, defers := ds } w :=
  wpAnyH_take hi hs hf hr hQ (.inr ⟨hw, rfl⟩) hS (by rw [hd]; exact h)

theorem plCounted (ls : Nat → List Ins) (ks : Nat → Int) (B pb : Nat) (seed x wk : Int) (script : List (Int × Int)) (S : Nat → Prop) (sv : Value) (W : World) (hw : LsWf ls) (h1 : 1 ≤ wk) (h8 : wk ≤ 8) (hl : script.length ≤ 4000) (hsc : ∀ q ∈ script, i64 q.1 ∧ i64 q.2) (hP : PlP B W pb ls ks) (hS : RdL S W 2 pickV sv script) :
    Calls Try.prog 17 #[.pointer (some ⟨pb, 0, none⟩), .int .u64 seed, .int .i64 x, .int .i64 wk, sv] W fun e w' => ∃ la lc ta tn tc st fl A Z, e = .returned (.tuple #[.agg #[.slice la 4 lc, .slice ta tn tc, .int .i64 (Z : Nat), .int .i64 (st : Nat), .int .i64 (fl : Nat), .int .i64 (framesC (codeN ls))], .int .i64 0]) ∧
      A ≤ st ∧ st ≤ wfC (codeN ls) spawnO 4 0 ∧ (wk = 1 → st = 0) ∧ Z = framesC (codeN ls) + wfC (codeN ls) (fun _ => 1) 4 0 + st + fl + A ∧ Z ≤ 100000 ∧ Below W.heap.size W w' := by
  refine (plRun ls ks B pb seed x wk script S sv W hw h1 h8 hl hsc hP hS).mono ?_
  rintro e w' ⟨N, la, lc, ta, tc, hN, rfl, hV, hT, hb⟩
  have hck : (check (codeN ls) (kindsN ks)).1 = 0 := by rw [codeN_check ks hw]
  obtain ⟨c1, c2, c3, c4, c5⟩ := check_ok hck (codeN_wf hw)
  obtain ⟨wn, rfl⟩ : ∃ wn : Nat, wk = wn := ⟨wk.toNat, by omega⟩
  simp only [Int.toNat_natCast] at hN ⊢
  obtain ⟨A, r1, r2, r3⟩ := run_counted c4 c5 (show 1 ≤ wn by omega) c1 hN
  obtain ⟨N', n1, n2, _⟩ := run_told c4 c5 (show 1 ≤ wn by omega) c1 script seed x
  obtain rfl := hN.one n2
  have hwh := work_whole c4 c1
  rw [codeN_len] at r1 r3 hwh
  have hfr := frames_ok hck
  have hf := frames_le (codeN ls)
  have hm : 14 * framesF (codeN ls) * wn ≤ 14 * 301 * 8 := Nat.mul_le_mul (by omega) (by omega)
  refine ⟨la, lc, ta, (trAt (codeN ls) wn script seed x N).length, tc, stealsAt (codeN ls) wn script seed x N, failsAt (codeN ls) wn script seed x N, A, N + 1, rfl, r2, r3, fun h => ?_, by omega, by omega, hb⟩
  have e1 : wn = 1 := by omega
  subst e1
  exact (run_lone c4 c5 c1 hN).2.1

set_option maxHeartbeats 8000000 in
set_option maxRecDepth 100000 in
theorem counted_walk (sa : Nat → Option Addr) (sn sc : Nat → Nat) (ks : Nat → Int) (ls : Nat → List Ins) (S S4 : Nat → Prop) (seed x wk : Int) (a4 : Option Addr) (n4 c4 : Nat) (l4 : List (Int × Int)) (w : World) (hw : LsWf ls) (hk : ∀ r, r < 4 → i64 (ks r)) (hR : PlRd S w sa sn sc ls)
    (hwk : i64 wk) (h4 : ∀ q ∈ l4, i64 q.1 ∧ i64 q.2) (r4 : RdL S4 w 2 pickV (.slice a4 n4 c4) l4) :
    Calls Try.prog 8 #[.agg #[.slice (sa 0) (sn 0) (sc 0), .slice (sa 1) (sn 1) (sc 1), .slice (sa 2) (sn 2) (sc 2), .slice (sa 3) (sn 3) (sc 3), .int .i64 (ks 0), .int .i64 (ks 1), .int .i64 (ks 2), .int .i64 (ks 3)], .int .u64 seed, .int .i64 x, .int .i64 wk, .slice a4 n4 c4] w fun e w' => e = .returned (.bool true) ∧ Below w.heap.size w w' := by
  have hn := World.alloc_heap_new w (.cells #[.slice (sa 0) (sn 0) (sc 0), .slice (sa 1) (sn 1) (sc 1), .slice (sa 2) (sn 2) (sc 2), .slice (sa 3) (sn 3) (sc 3), .int .i64 (ks 0), .int .i64 (ks 1), .int .i64 (ks 2), .int .i64 (ks 3)] 26)
  have hb := (Below.refl _ w).alloc (Nat.le_refl _) (.cells #[.slice (sa 0) (sn 0) (sc 0), .slice (sa 1) (sn 1) (sc 1), .slice (sa 2) (sn 2) (sc 2), .slice (sa 3) (sn 3) (sc 3), .int .i64 (ks 0), .int .i64 (ks 1), .int .i64 (ks 2), .int .i64 (ks 3)] 26)
  obtain ⟨q0, q1, q2, q3, q4, q5, q6, q7⟩ := box8 hn
  have HN := hide hn
  have HB := hide hb
  have HM := hide (fun W (hb : Below w.heap.size w W) => made_calls sa sn sc ks ls S W hw hk (hR.below hb))
  have hz := pickN_lt (c := wk) (n := 8) (by omega)
  have HP1 := hide (fun W => pick_calls wk 8 W hwk (by omega) (by omega))
  obtain ⟨z, hze⟩ : ∃ z, pickN wk 8 = z := ⟨_, rfl⟩
  rw [hze] at HP1 hz
  have HR1 := hide (fun B pb sv W hP hS => plCounted ls ks B pb seed x (1 + z) (l4.take 4000) S4 sv W hw (by omega) (by omega) take_len (take_pick h4) hP hS)
  have HC := hide (fun W hb => codeK sa sn sc ks ls S w W hw hR hb)
  have hck : (check (codeN ls) (kindsN ks)).1 = 0 := by rw [codeN_check ks hw]
  obtain ⟨k1, k2, k3, k4, k5⟩ := check_ok hck (codeN_wf hw)
  have HST := hide (fun S' va vn vc W h => plSteps_calls (S := S') (va := va) (vn := vn) (vc := vc) k4 k5 k2 4 0 W (by omega) (by rw [codeN_len]; omega) k1 h)
  have HSP := hide (fun S' va vn vc W h => plSpawns_calls (S := S') (va := va) (vn := vn) (vc := vc) k4 k5 k2 4 0 W (by omega) (by rw [codeN_len]; omega) k1 h)
  obtain ⟨q, hqe⟩ : ∃ q, wfC (codeN ls) (fun _ => 1) 4 0 = q := ⟨_, rfl⟩
  obtain ⟨sp, hspe⟩ : ∃ sp, wfC (codeN ls) spawnO 4 0 = sp := ⟨_, rfl⟩
  obtain ⟨f, hfe⟩ : ∃ f, framesC (codeN ls) = f := ⟨_, rfl⟩
  rw [hqe, hspe, hfe] at HR1
  rw [hqe] at HST
  rw [hspe] at HSP
  have R4 := hide r4
  clear hw hk hR h4 r4 hn hb hck k1 k2 k3 k4 k5 hqe hfe hze hwk hspe
  go_enter Try.func8, Try.ntmps8
  go_wp2_with (first
    | (go_at_call 10; refine (HM.out _ HB.out).mono ?_; rintro e w1 ⟨pb, rfl, hP1, hb1⟩; have hbA := Below.up HB.out hb1 HB.out.size)
    | (go_at_call 16; refine (HP1.out _).mono ?_; rintro e w' ⟨rfl, rfl⟩)
    | (go_at_call 18; refine (short_calls l4 S4 _ _ _ _ (R4.out.below hbA (fun x _ => pick_ne x))).mono ?_; rintro e w' ⟨⟨m4, rfl, s4⟩, rfl⟩)
    | (go_at_call 17
       refine (HR1.out _ _ _ _ hP1 s4).mono ?_
       rintro e w3 ⟨la, lc, ta, tn, tc, st, fl, A, Z, rfl, hA1, hA2, hA3, hZ, hA4, hb3⟩
       have HZ := hide hZ
       clear hZ))
  have hs1 : w.heap.size < w3.heap.size := by have := hb1.size; have := hb3.size; simp at *; omega
  have hbC := Below.up hbA hb3 hbA.size
  have x1 := (((Below.up hb1 hb3 hb1.size)).block _ (by simp)).trans HN.out
  have y3 := heap_new w3 (.cells #[.slice la 4 lc, .slice ta tn tc, .int .i64 (Z : Int), .int .i64 (st : Int), .int .i64 (fl : Int), .int .i64 (f : Int)] 38)
  have y1 := (Below.heap_alloc w3 (.cells #[.slice la 4 lc, .slice ta tn tc, .int .i64 (Z : Int), .int .i64 (st : Int), .int .i64 (fl : Int), .int .i64 (f : Int)] 38) _ hs1).trans x1
  have hbD := hbC.alloc hbC.size (.cells #[.slice la 4 lc, .slice ta tn tc, .int .i64 (Z : Int), .int .i64 (st : Int), .int .i64 (fl : Int), .int .i64 (f : Int)] 38)
  generalize hO : w3.alloc (.cells #[.slice la 4 lc, .slice ta tn tc, .int .i64 (Z : Int), .int .i64 (st : Int), .int .i64 (fl : Int), .int .i64 (f : Int)] 38) = w4 at y3 y1 hbD ⊢
  obtain ⟨p0, p1, p2, p3, p4, p5, p6, p7⟩ := box8 y1
  obtain ⟨_, _, o2, o3, o4, o5⟩ := box6 y3
  have hs3 : w3.heap.size < w4.heap.size := (Array.getElem?_eq_some_iff.1 y3).1
  have Y1 := hide y1
  have Y3 := hide y3
  have HBG : Hid (Below w.heap.size w w4.drew) := ⟨hbD.os, hbD.tape, hbD.output, hbD.size, hbD.block⟩
  have HA3 := hide hA3
  clear hO y1 y3 x1 hbC hbD hb1 hb3 hbA hP1 hA3 HM HP1 HR1 R4 HN HB q0 q1 q2 q3 q4 q5 q6 q7
  go_region_held3 (fun W => W.cell? ⟨w.heap.size, 0, none⟩ = some (.slice (sa 0) (sn 0) (sc 0)) ∧ W.cell? ⟨w.heap.size, 1, none⟩ = some (.slice (sa 1) (sn 1) (sc 1)) ∧ W.cell? ⟨w.heap.size, 2, none⟩ = some (.slice (sa 2) (sn 2) (sc 2)) ∧ W.cell? ⟨w.heap.size, 3, none⟩ = some (.slice (sa 3) (sn 3) (sc 3)) ∧ W.cell? ⟨w.heap.size, 4, none⟩ = some (.int .i64 (ks 0)) ∧ W.cell? ⟨w.heap.size, 5, none⟩ = some (.int .i64 (ks 1)) ∧ W.cell? ⟨w.heap.size, 6, none⟩ = some (.int .i64 (ks 2)) ∧ W.cell? ⟨w.heap.size, 7, none⟩ = some (.int .i64 (ks 3)) ∧
      W.cell? ⟨w3.heap.size, 2, none⟩ = some (.int .i64 (Z : Int)) ∧ W.cell? ⟨w3.heap.size, 3, none⟩ = some (.int .i64 (st : Int)) ∧ W.cell? ⟨w3.heap.size, 4, none⟩ = some (.int .i64 (fl : Int)) ∧ W.cell? ⟨w3.heap.size, 5, none⟩ = some (.int .i64 (f : Int)))
    (go_keep)
    (first
      | (go_at_call 22
         refine (HC.out _ HBG.out).mono ?_
         rintro e w7 ⟨a7, n7, c7, rfl, hF7, hb7⟩
         have z1 := (hb7.block _ (Nat.lt_trans hs1 hs3)).trans Y1.out
         have z3 := (hb7.block _ hs3).trans Y3.out
         obtain ⟨p0, p1, p2, p3, p4, p5, p6, p7⟩ := box8 z1
         obtain ⟨_, _, o2, o3, o4, o5⟩ := box6 z3
         have hs7 := Nat.lt_of_lt_of_le hs3 hb7.size
         have Z1 := hide z1
         have Z3 := hide z3
         have HB7 := hide (Below.up HBG.out hb7 HBG.out.size)
         have HF7 := hide hF7
         clear hF7 hb7 z1 z3)
      | (go_at_call 21
         refine (HST.out _ _ _ _ _ HF7.out).mono ?_
         rintro e w8 ⟨rfl, rfl⟩))
  have hwr : IntKind.i64.wrap ((f : Int) + (q : Int)) = (f : Int) + (q : Int) := by rw [wrap_i64']; exact i64_wrap (by have := HZ.out; unfold i64; omega)
  rw [hwr]
  have hle : f + q + st + fl ≤ Z := by have := HZ.out; omega
  clear hwr p0 p1 p2 p3 p4 p5 p6 p7 o2 o3 o4 o5
  rename_i o2 o3 o4 o5
  go_wp2
  have hAe : (Z : Int) - ((f : Int) + (q : Int)) - (st : Int) - (fl : Int) = (A : Int) := by have := HZ.out; omega
  rw [hAe]
  clear hAe hle o2 o3 o4 o5
  obtain ⟨p0, p1, p2, p3, p4, p5, p6, p7⟩ := box8 Z1.out
  obtain ⟨_, _, o2, o3, o4, o5⟩ := box6 Z3.out
  have HBG : Hid (Below w.heap.size w w8.drew) := ⟨HB7.out.os, HB7.out.tape, HB7.out.output, HB7.out.size, HB7.out.block⟩
  have hA1i : (A : Int) ≤ (st : Int) := by omega
  have hA2i : (st : Int) ≤ (sp : Int) := by omega
  have hA0 : (0 : Int) ≤ (A : Int) := by omega
  have hst0 : (0 : Int) ≤ (st : Int) := by omega
  have hfl0 : (0 : Int) ≤ (fl : Int) := by omega
  have hcase : (0 < z ∧ (1 : Int) < 1 + z) ∨ (¬ 0 < z ∧ ¬ (1 : Int) < 1 + z ∧ ((st : Int) == 0) = true) := by
    by_cases h : 0 < z
    · exact .inl ⟨h, by omega⟩
    · refine .inr ⟨h, by omega, ?_⟩
      rw [HA3.out (by omega)]
      rfl
  rcases hcase with ⟨hz0, hz1⟩ | ⟨hz0, hz1, hse⟩
  · have hS0 : (fun W => W.cell? ⟨w.heap.size, 0, none⟩ = some (.slice (sa 0) (sn 0) (sc 0)) ∧ W.cell? ⟨w.heap.size, 1, none⟩ = some (.slice (sa 1) (sn 1) (sc 1)) ∧ W.cell? ⟨w.heap.size, 2, none⟩ = some (.slice (sa 2) (sn 2) (sc 2)) ∧ W.cell? ⟨w.heap.size, 3, none⟩ = some (.slice (sa 3) (sn 3) (sc 3)) ∧ W.cell? ⟨w.heap.size, 4, none⟩ = some (.int .i64 (ks 0)) ∧ W.cell? ⟨w.heap.size, 5, none⟩ = some (.int .i64 (ks 1)) ∧ W.cell? ⟨w.heap.size, 6, none⟩ = some (.int .i64 (ks 2)) ∧ W.cell? ⟨w.heap.size, 7, none⟩ = some (.int .i64 (ks 3)) ∧
      W.cell? ⟨w3.heap.size, 2, none⟩ = some (.int .i64 (Z : Int)) ∧ W.cell? ⟨w3.heap.size, 3, none⟩ = some (.int .i64 (st : Int)) ∧ W.cell? ⟨w3.heap.size, 4, none⟩ = some (.int .i64 (fl : Int)) ∧ W.cell? ⟨w3.heap.size, 5, none⟩ = some (.int .i64 (f : Int))) w8.drew := ⟨p0, p1, p2, p3, p4, p5, p6, p7, o2, o3, o4, o5⟩
    refine wp_region_held_drew (S := (fun W => W.cell? ⟨w.heap.size, 0, none⟩ = some (.slice (sa 0) (sn 0) (sc 0)) ∧ W.cell? ⟨w.heap.size, 1, none⟩ = some (.slice (sa 1) (sn 1) (sc 1)) ∧ W.cell? ⟨w.heap.size, 2, none⟩ = some (.slice (sa 2) (sn 2) (sc 2)) ∧ W.cell? ⟨w.heap.size, 3, none⟩ = some (.slice (sa 3) (sn 3) (sc 3)) ∧ W.cell? ⟨w.heap.size, 4, none⟩ = some (.int .i64 (ks 0)) ∧ W.cell? ⟨w.heap.size, 5, none⟩ = some (.int .i64 (ks 1)) ∧ W.cell? ⟨w.heap.size, 6, none⟩ = some (.int .i64 (ks 2)) ∧ W.cell? ⟨w.heap.size, 7, none⟩ = some (.int .i64 (ks 3)) ∧
      W.cell? ⟨w3.heap.size, 2, none⟩ = some (.int .i64 (Z : Int)) ∧ W.cell? ⟨w3.heap.size, 3, none⟩ = some (.int .i64 (st : Int)) ∧ W.cell? ⟨w3.heap.size, 4, none⟩ = some (.int .i64 (fl : Int)) ∧ W.cell? ⟨w3.heap.size, 5, none⟩ = some (.int .i64 (f : Int)))) (by kernel_rfl) hS0 (fun _ => ?_)
    refine take_at 0 58 (.int .i64 (0)) rfl rfl (by kernel_rfl) (by kernel_rfl) (by kernel_rfl) (fun _ _ _ h => h) (by rfl) ?y0 hS0 ?_
    case y0 =>
      rintro V ⟨g0, g1, g2, g3, g4, g5, g6, g7, g8, g9, g10, g11⟩
      go_simp
    simp only [List.setIfInBounds_toArray, List.set_cons_zero, List.set_cons_succ]
    refine take_at 1 59 (.bool true) rfl rfl (by kernel_rfl) (by kernel_rfl) (by kernel_rfl) (fun _ _ _ h => h) (by rfl) ?y1 hS0 ?_
    case y1 =>
      rintro V ⟨g0, g1, g2, g3, g4, g5, g6, g7, g8, g9, g10, g11⟩
      go_simp
    simp only [List.setIfInBounds_toArray, List.set_cons_zero, List.set_cons_succ]
    refine take_at 2 60 (.bool true) rfl rfl (by kernel_rfl) (by kernel_rfl) (by kernel_rfl) (fun _ _ _ h => h) (by rfl) ?y2 hS0 ?_
    case y2 =>
      rintro V ⟨g0, g1, g2, g3, g4, g5, g6, g7, g8, g9, g10, g11⟩
      go_simp
    simp only [List.setIfInBounds_toArray, List.set_cons_zero, List.set_cons_succ]
    refine take_at 3 61 (.pointer (some ⟨w3.heap.size, 2, none⟩)) rfl rfl (by kernel_rfl) (by kernel_rfl) (by kernel_rfl) (fun _ _ _ h => h) (by rfl) ?y3 hS0 ?_
    case y3 =>
      rintro V ⟨g0, g1, g2, g3, g4, g5, g6, g7, g8, g9, g10, g11⟩
      go_simp
    simp only [List.setIfInBounds_toArray, List.set_cons_zero, List.set_cons_succ]
    refine take_at 4 62 (.pointer (some ⟨w3.heap.size, 3, none⟩)) rfl rfl (by kernel_rfl) (by kernel_rfl) (by kernel_rfl) (fun _ _ _ h => h) (by rfl) ?y4 hS0 ?_
    case y4 =>
      rintro V ⟨g0, g1, g2, g3, g4, g5, g6, g7, g8, g9, g10, g11⟩
      go_simp
    simp only [List.setIfInBounds_toArray, List.set_cons_zero, List.set_cons_succ]
    refine take_at 5 63 (.int .i64 (st : Int)) rfl rfl (by kernel_rfl) (by kernel_rfl) (by kernel_rfl) (fun _ _ _ h => h) (by rfl) ?y5 hS0 ?_
    case y5 =>
      rintro V ⟨g0, g1, g2, g3, g4, g5, g6, g7, g8, g9, g10, g11⟩
      go_simp
    simp only [List.setIfInBounds_toArray, List.set_cons_zero, List.set_cons_succ]
    refine take_at 6 64 (.bool true) rfl rfl (by kernel_rfl) (by kernel_rfl) (by kernel_rfl) (fun _ _ _ h => h) (by rfl) ?y6 hS0 ?_
    case y6 =>
      rintro V ⟨g0, g1, g2, g3, g4, g5, g6, g7, g8, g9, g10, g11⟩
      go_simp
    simp only [List.setIfInBounds_toArray, List.set_cons_zero, List.set_cons_succ]
    refine take_at 7 65 (.bool true) rfl rfl (by kernel_rfl) (by kernel_rfl) (by kernel_rfl) (fun _ _ _ h => h) (by rfl) ?y7 hS0 ?_
    case y7 =>
      rintro V ⟨g0, g1, g2, g3, g4, g5, g6, g7, g8, g9, g10, g11⟩
      go_simp
    simp only [List.setIfInBounds_toArray, List.set_cons_zero, List.set_cons_succ]
    refine take_at 8 66 (.bool true) rfl rfl (by kernel_rfl) (by kernel_rfl) (by kernel_rfl) (fun _ _ _ h => h) (by rfl) ?y8 hS0 ?_
    case y8 =>
      rintro V ⟨g0, g1, g2, g3, g4, g5, g6, g7, g8, g9, g10, g11⟩
      go_simp
    simp only [List.setIfInBounds_toArray, List.set_cons_zero, List.set_cons_succ]
    refine take_at 9 67 (.pointer (some ⟨w3.heap.size, 2, none⟩)) rfl rfl (by kernel_rfl) (by kernel_rfl) (by kernel_rfl) (fun _ _ _ h => h) (by rfl) ?y9 hS0 ?_
    case y9 =>
      rintro V ⟨g0, g1, g2, g3, g4, g5, g6, g7, g8, g9, g10, g11⟩
      go_simp
    simp only [List.setIfInBounds_toArray, List.set_cons_zero, List.set_cons_succ]
    refine take_at 10 68 (.pointer (some ⟨w3.heap.size, 4, none⟩)) rfl rfl (by kernel_rfl) (by kernel_rfl) (by kernel_rfl) (fun _ _ _ h => h) (by rfl) ?y10 hS0 ?_
    case y10 =>
      rintro V ⟨g0, g1, g2, g3, g4, g5, g6, g7, g8, g9, g10, g11⟩
      go_simp
    simp only [List.setIfInBounds_toArray, List.set_cons_zero, List.set_cons_succ]
    refine take_at 11 69 (.int .i64 (fl : Int)) rfl rfl (by kernel_rfl) (by kernel_rfl) (by kernel_rfl) (fun _ _ _ h => h) (by rfl) ?y11 hS0 ?_
    case y11 =>
      rintro V ⟨g0, g1, g2, g3, g4, g5, g6, g7, g8, g9, g10, g11⟩
      go_simp
    simp only [List.setIfInBounds_toArray, List.set_cons_zero, List.set_cons_succ]
    refine take_at 12 70 (.bool true) rfl rfl (by kernel_rfl) (by kernel_rfl) (by kernel_rfl) (fun _ _ _ h => h) (by rfl) ?y12 hS0 ?_
    case y12 =>
      rintro V ⟨g0, g1, g2, g3, g4, g5, g6, g7, g8, g9, g10, g11⟩
      go_simp
    simp only [List.setIfInBounds_toArray, List.set_cons_zero, List.set_cons_succ]
    refine take_at 13 71 (.bool true) rfl rfl (by kernel_rfl) (by kernel_rfl) (by kernel_rfl) (fun _ _ _ h => h) (by rfl) ?y13 hS0 ?_
    case y13 =>
      rintro V ⟨g0, g1, g2, g3, g4, g5, g6, g7, g8, g9, g10, g11⟩
      go_simp
    simp only [List.setIfInBounds_toArray, List.set_cons_zero, List.set_cons_succ]
    refine take_at 14 72 (.bool true) rfl rfl (by kernel_rfl) (by kernel_rfl) (by kernel_rfl) (fun _ _ _ h => h) (by rfl) ?y14 hS0 ?_
    case y14 =>
      rintro V ⟨g0, g1, g2, g3, g4, g5, g6, g7, g8, g9, g10, g11⟩
      go_simp
    simp only [List.setIfInBounds_toArray, List.set_cons_zero, List.set_cons_succ]
    refine take_at 15 73 (.int .i64 (A : Int)) rfl rfl (by kernel_rfl) (by kernel_rfl) (by kernel_rfl) (fun _ _ _ h => h) (by rfl) ?y15 hS0 ?_
    case y15 =>
      rintro V ⟨g0, g1, g2, g3, g4, g5, g6, g7, g8, g9, g10, g11⟩
      go_simp
    simp only [List.setIfInBounds_toArray, List.set_cons_zero, List.set_cons_succ]
    refine take_at 16 74 (.bool true) rfl rfl (by kernel_rfl) (by kernel_rfl) (by kernel_rfl) (fun _ _ _ h => h) (by rfl) ?y16 hS0 ?_
    case y16 =>
      rintro V ⟨g0, g1, g2, g3, g4, g5, g6, g7, g8, g9, g10, g11⟩
      go_simp
    simp only [List.setIfInBounds_toArray, List.set_cons_zero, List.set_cons_succ]
    refine take_at 17 75 (.bool true) rfl rfl (by kernel_rfl) (by kernel_rfl) (by kernel_rfl) (fun _ _ _ h => h) (by rfl) ?y17 hS0 ?_
    case y17 =>
      rintro V ⟨g0, g1, g2, g3, g4, g5, g6, g7, g8, g9, g10, g11⟩
      go_simp
    simp only [List.setIfInBounds_toArray, List.set_cons_zero, List.set_cons_succ]
    refine take_at 18 76 (.bool true) rfl rfl (by kernel_rfl) (by kernel_rfl) (by kernel_rfl) (fun _ _ _ h => h) (by rfl) ?y18 hS0 ?_
    case y18 =>
      rintro V ⟨g0, g1, g2, g3, g4, g5, g6, g7, g8, g9, g10, g11⟩
      go_simp
    simp only [List.setIfInBounds_toArray, List.set_cons_zero, List.set_cons_succ]
    refine take_at 19 77 (.int .i64 (A : Int)) rfl rfl (by kernel_rfl) (by kernel_rfl) (by kernel_rfl) (fun _ _ _ h => h) (by rfl) ?y19 hS0 ?_
    case y19 =>
      rintro V ⟨g0, g1, g2, g3, g4, g5, g6, g7, g8, g9, g10, g11⟩
      go_simp
    simp only [List.setIfInBounds_toArray, List.set_cons_zero, List.set_cons_succ]
    refine take_at 20 78 (.pointer (some ⟨w3.heap.size, 2, none⟩)) rfl rfl (by kernel_rfl) (by kernel_rfl) (by kernel_rfl) (fun _ _ _ h => h) (by rfl) ?y20 hS0 ?_
    case y20 =>
      rintro V ⟨g0, g1, g2, g3, g4, g5, g6, g7, g8, g9, g10, g11⟩
      go_simp
    simp only [List.setIfInBounds_toArray, List.set_cons_zero, List.set_cons_succ]
    refine take_at 21 79 (.pointer (some ⟨w3.heap.size, 3, none⟩)) rfl rfl (by kernel_rfl) (by kernel_rfl) (by kernel_rfl) (fun _ _ _ h => h) (by rfl) ?y21 hS0 ?_
    case y21 =>
      rintro V ⟨g0, g1, g2, g3, g4, g5, g6, g7, g8, g9, g10, g11⟩
      go_simp
    simp only [List.setIfInBounds_toArray, List.set_cons_zero, List.set_cons_succ]
    refine take_at 22 80 (.int .i64 (st : Int)) rfl rfl (by kernel_rfl) (by kernel_rfl) (by kernel_rfl) (fun _ _ _ h => h) (by rfl) ?y22 hS0 ?_
    case y22 =>
      rintro V ⟨g0, g1, g2, g3, g4, g5, g6, g7, g8, g9, g10, g11⟩
      go_simp
    simp only [List.setIfInBounds_toArray, List.set_cons_zero, List.set_cons_succ]
    refine take_at 23 81 (.bool true) rfl rfl (by kernel_rfl) (by kernel_rfl) (by kernel_rfl) (fun _ _ _ h => h) (by rfl) ?y23 hS0 ?_
    case y23 =>
      rintro V ⟨g0, g1, g2, g3, g4, g5, g6, g7, g8, g9, g10, g11⟩
      go_simp
    simp only [List.setIfInBounds_toArray, List.set_cons_zero, List.set_cons_succ]
    refine take_at 24 82 (.bool true) rfl rfl (by kernel_rfl) (by kernel_rfl) (by kernel_rfl) (fun _ _ _ h => h) (by rfl) ?y24 hS0 ?_
    case y24 =>
      rintro V ⟨g0, g1, g2, g3, g4, g5, g6, g7, g8, g9, g10, g11⟩
      go_simp
    simp only [List.setIfInBounds_toArray, List.set_cons_zero, List.set_cons_succ]
    refine take_at 25 83 (.bool true) rfl rfl (by kernel_rfl) (by kernel_rfl) (by kernel_rfl) (fun _ _ _ h => h) (by rfl) ?y25 hS0 ?_
    case y25 =>
      rintro V ⟨g0, g1, g2, g3, g4, g5, g6, g7, g8, g9, g10, g11⟩
      go_simp
    simp only [List.setIfInBounds_toArray, List.set_cons_zero, List.set_cons_succ]
    refine take_at 26 84 (.int .i64 (1 + z)) rfl rfl (by kernel_rfl) (by kernel_rfl) (by kernel_rfl) (fun _ _ _ h => h) (by rfl) ?y26 hS0 ?_
    case y26 =>
      rintro V ⟨g0, g1, g2, g3, g4, g5, g6, g7, g8, g9, g10, g11⟩
      go_simp
    simp only [List.setIfInBounds_toArray, List.set_cons_zero, List.set_cons_succ]
    refine take_at 27 85 (.bool true) rfl rfl (by kernel_rfl) (by kernel_rfl) (by kernel_rfl) (fun _ _ _ h => h) (by rfl) ?y27 hS0 ?_
    case y27 =>
      rintro V ⟨g0, g1, g2, g3, g4, g5, g6, g7, g8, g9, g10, g11⟩
      go_simp
    simp only [List.setIfInBounds_toArray, List.set_cons_zero, List.set_cons_succ]
    refine take_at 28 86 (.bool true) rfl rfl (by kernel_rfl) (by kernel_rfl) (by kernel_rfl) (fun _ _ _ h => h) (by rfl) ?y28 hS0 ?_
    case y28 =>
      rintro V ⟨g0, g1, g2, g3, g4, g5, g6, g7, g8, g9, g10, g11⟩
      go_simp
    simp only [List.setIfInBounds_toArray, List.set_cons_zero, List.set_cons_succ]
    refine take_no 29 87 rfl rfl (by kernel_rfl) (by kernel_rfl) (by kernel_rfl) (fun _ _ _ h => h) (by rfl) hS0 ?_
    simp only [List.setIfInBounds_toArray, List.set_cons_zero, List.set_cons_succ]
    refine take_no 30 88 rfl rfl (by kernel_rfl) (by kernel_rfl) (by kernel_rfl) (fun _ _ _ h => h) (by rfl) hS0 ?_
    simp only [List.setIfInBounds_toArray, List.set_cons_zero, List.set_cons_succ]
    refine take_no 31 89 rfl rfl (by kernel_rfl) (by kernel_rfl) (by kernel_rfl) (fun _ _ _ h => h) (by rfl) hS0 ?_
    simp only [List.setIfInBounds_toArray, List.set_cons_zero, List.set_cons_succ]
    refine take_no 32 90 rfl rfl (by kernel_rfl) (by kernel_rfl) (by kernel_rfl) (fun _ _ _ h => h) (by rfl) hS0 ?_
    simp only [List.setIfInBounds_toArray, List.set_cons_zero, List.set_cons_succ]
    refine take_at 33 91 (.bool true) rfl rfl (by kernel_rfl) (by kernel_rfl) (by kernel_rfl) (fun _ _ _ h => h) (by rfl) ?y33 hS0 ?_
    case y33 =>
      rintro V ⟨g0, g1, g2, g3, g4, g5, g6, g7, g8, g9, g10, g11⟩
      go_simp
    simp only [List.setIfInBounds_toArray, List.set_cons_zero, List.set_cons_succ]
    refine take_at 34 92 (.bool true) rfl rfl (by kernel_rfl) (by kernel_rfl) (by kernel_rfl) (fun _ _ _ h => h) (by rfl) ?y34 hS0 ?_
    case y34 =>
      rintro V ⟨g0, g1, g2, g3, g4, g5, g6, g7, g8, g9, g10, g11⟩
      go_simp
    simp only [List.setIfInBounds_toArray, List.set_cons_zero, List.set_cons_succ]
    refine take_at 35 93 (.bool true) rfl rfl (by kernel_rfl) (by kernel_rfl) (by kernel_rfl) (fun _ _ _ h => h) (by rfl) ?y35 hS0 ?_
    case y35 =>
      rintro V ⟨g0, g1, g2, g3, g4, g5, g6, g7, g8, g9, g10, g11⟩
      go_simp
    simp only [List.setIfInBounds_toArray, List.set_cons_zero, List.set_cons_succ]
    refine take_at 36 94 (.pointer (some ⟨w3.heap.size, 2, none⟩)) rfl rfl (by kernel_rfl) (by kernel_rfl) (by kernel_rfl) (fun _ _ _ h => h) (by rfl) ?y36 hS0 ?_
    case y36 =>
      rintro V ⟨g0, g1, g2, g3, g4, g5, g6, g7, g8, g9, g10, g11⟩
      go_simp
    simp only [List.setIfInBounds_toArray, List.set_cons_zero, List.set_cons_succ]
    refine take_at 37 95 (.pointer (some ⟨w3.heap.size, 3, none⟩)) rfl rfl (by kernel_rfl) (by kernel_rfl) (by kernel_rfl) (fun _ _ _ h => h) (by rfl) ?y37 hS0 ?_
    case y37 =>
      rintro V ⟨g0, g1, g2, g3, g4, g5, g6, g7, g8, g9, g10, g11⟩
      go_simp
    simp only [List.setIfInBounds_toArray, List.set_cons_zero, List.set_cons_succ]
    refine take_at 38 96 (.int .i64 (st : Int)) rfl rfl (by kernel_rfl) (by kernel_rfl) (by kernel_rfl) (fun _ _ _ h => h) (by rfl) ?y38 hS0 ?_
    case y38 =>
      rintro V ⟨g0, g1, g2, g3, g4, g5, g6, g7, g8, g9, g10, g11⟩
      go_simp
    simp only [List.setIfInBounds_toArray, List.set_cons_zero, List.set_cons_succ]
    refine take_at 39 97 (.agg #[.slice (sa 0) (sn 0) (sc 0), .slice (sa 1) (sn 1) (sc 1), .slice (sa 2) (sn 2) (sc 2), .slice (sa 3) (sn 3) (sc 3), .int .i64 (ks 0), .int .i64 (ks 1), .int .i64 (ks 2), .int .i64 (ks 3)]) rfl rfl (by kernel_rfl) (by kernel_rfl) (by kernel_rfl) (fun _ _ _ h => h) (by rfl) ?y39 hS0 ?_
    case y39 =>
      rintro V ⟨g0, g1, g2, g3, g4, g5, g6, g7, g8, g9, g10, g11⟩
      go_simp
    simp only [List.setIfInBounds_toArray, List.set_cons_zero, List.set_cons_succ]
    refine wpAnyH_ready (rs := [40]) (by kernel_rfl) (by simp) ?_
    refine AllReadyH.cons rfl (fun K hK => ?_) AllReadyH.nil
    go_simp
    refine (HC.out _ HBG.out).mono ?_
    rintro e w9 ⟨a9, n9, c9, rfl, hF9, hb9⟩
    have z1 := (hb9.block _ (Nat.lt_trans hs1 hs7)).trans Z1.out
    have z3 := (hb9.block _ hs7).trans Z3.out
    obtain ⟨p0, p1, p2, p3, p4, p5, p6, p7⟩ := box8 z1
    obtain ⟨_, _, o2, o3, o4, o5⟩ := box6 z3
    have HB9 := hide (Below.up HBG.out hb9 HBG.out.size)
    have HF9 := hide hF9
    clear hF9 hb9 z1 z3
    have hS1 : ((fun W => W.cell? ⟨w.heap.size, 0, none⟩ = some (.slice (sa 0) (sn 0) (sc 0)) ∧ W.cell? ⟨w.heap.size, 1, none⟩ = some (.slice (sa 1) (sn 1) (sc 1)) ∧ W.cell? ⟨w.heap.size, 2, none⟩ = some (.slice (sa 2) (sn 2) (sc 2)) ∧ W.cell? ⟨w.heap.size, 3, none⟩ = some (.slice (sa 3) (sn 3) (sc 3)) ∧ W.cell? ⟨w.heap.size, 4, none⟩ = some (.int .i64 (ks 0)) ∧ W.cell? ⟨w.heap.size, 5, none⟩ = some (.int .i64 (ks 1)) ∧ W.cell? ⟨w.heap.size, 6, none⟩ = some (.int .i64 (ks 2)) ∧ W.cell? ⟨w.heap.size, 7, none⟩ = some (.int .i64 (ks 3)) ∧
      W.cell? ⟨w3.heap.size, 2, none⟩ = some (.int .i64 (Z : Int)) ∧ W.cell? ⟨w3.heap.size, 3, none⟩ = some (.int .i64 (st : Int)) ∧ W.cell? ⟨w3.heap.size, 4, none⟩ = some (.int .i64 (fl : Int)) ∧ W.cell? ⟨w3.heap.size, 5, none⟩ = some (.int .i64 (f : Int)))) w9 := ⟨p0, p1, p2, p3, p4, p5, p6, p7, o2, o3, o4, o5⟩
    refine hK.out _ _ hS1 (fun _ => ?_)
    clear hK K
    try simp only [Act.put, List.setIfInBounds_toArray, List.set_cons_zero, List.set_cons_succ]
    refine wpAnyH_ready (rs := [41]) (by kernel_rfl) (by simp) ?_
    refine AllReadyH.cons rfl (fun K hK => ?_) AllReadyH.nil
    go_simp
    refine (HSP.out _ _ _ _ _ HF9.out).mono ?_
    rintro e w10 ⟨rfl, rfl⟩
    refine hK.out _ _ hS1 (fun _ => ?_)
    clear hK K
    try simp only [Act.put, List.setIfInBounds_toArray, List.set_cons_zero, List.set_cons_succ]
    refine take_at 42 100 (.bool true) rfl rfl (by kernel_rfl) (by kernel_rfl) (by kernel_rfl) (fun _ _ _ h => h) (by rfl) ?y42 hS1 ?_
    case y42 =>
      rintro V ⟨g0, g1, g2, g3, g4, g5, g6, g7, g8, g9, g10, g11⟩
      go_simp
    simp only [List.setIfInBounds_toArray, List.set_cons_zero, List.set_cons_succ]
    refine take_at 43 101 (.bool true) rfl rfl (by kernel_rfl) (by kernel_rfl) (by kernel_rfl) (fun _ _ _ h => h) (by rfl) ?y43 hS1 ?_
    case y43 =>
      rintro V ⟨g0, g1, g2, g3, g4, g5, g6, g7, g8, g9, g10, g11⟩
      go_simp
    simp only [List.setIfInBounds_toArray, List.set_cons_zero, List.set_cons_succ]
    refine take_at 44 10 (.bool true) rfl rfl (by kernel_rfl) (by kernel_rfl) (by kernel_rfl) (fun _ _ _ h => h) (by rfl) ?y44 hS1 ?_
    case y44 =>
      rintro V ⟨g0, g1, g2, g3, g4, g5, g6, g7, g8, g9, g10, g11⟩
      go_simp
    simp only [List.setIfInBounds_toArray, List.set_cons_zero, List.set_cons_succ]
    refine wpAnyH_done (by kernel_rfl) ?_ _
    go_wp2
    go_ret
    exact ⟨rfl, HB9.out⟩
  · go_region_held3 (fun W => W.cell? ⟨w.heap.size, 0, none⟩ = some (.slice (sa 0) (sn 0) (sc 0)) ∧ W.cell? ⟨w.heap.size, 1, none⟩ = some (.slice (sa 1) (sn 1) (sc 1)) ∧ W.cell? ⟨w.heap.size, 2, none⟩ = some (.slice (sa 2) (sn 2) (sc 2)) ∧ W.cell? ⟨w.heap.size, 3, none⟩ = some (.slice (sa 3) (sn 3) (sc 3)) ∧ W.cell? ⟨w.heap.size, 4, none⟩ = some (.int .i64 (ks 0)) ∧ W.cell? ⟨w.heap.size, 5, none⟩ = some (.int .i64 (ks 1)) ∧ W.cell? ⟨w.heap.size, 6, none⟩ = some (.int .i64 (ks 2)) ∧ W.cell? ⟨w.heap.size, 7, none⟩ = some (.int .i64 (ks 3)) ∧
      W.cell? ⟨w3.heap.size, 2, none⟩ = some (.int .i64 (Z : Int)) ∧ W.cell? ⟨w3.heap.size, 3, none⟩ = some (.int .i64 (st : Int)) ∧ W.cell? ⟨w3.heap.size, 4, none⟩ = some (.int .i64 (fl : Int)) ∧ W.cell? ⟨w3.heap.size, 5, none⟩ = some (.int .i64 (f : Int)))
      (go_keep)
      (first
        | (go_at_call 22
           refine (HC.out _ HBG.out).mono ?_
           rintro e w9 ⟨a9, n9, c9, rfl, hF9, hb9⟩
           have z1 := (hb9.block _ (Nat.lt_trans hs1 hs7)).trans Z1.out
           have z3 := (hb9.block _ hs7).trans Z3.out
           obtain ⟨p0, p1, p2, p3, p4, p5, p6, p7⟩ := box8 z1
           obtain ⟨_, _, o2, o3, o4, o5⟩ := box6 z3
           have HB9 := hide (Below.up HBG.out hb9 HBG.out.size)
           have HF9 := hide hF9
           clear hF9 hb9 z1 z3)
        | (go_at_call 23
           refine (HSP.out _ _ _ _ _ HF9.out).mono ?_
           rintro e w10 ⟨rfl, rfl⟩))
    all_goals
      go_wp2
      go_ret
      exact ⟨rfl, HB9.out⟩
end Go.Proofs.Ytkmakliebhnhbaa
