import Derived.Test.YtkmakliebhnhbaaGreatNewB
import Derived.Test.YtkmakliebhnhbaaGreatMsr
/- The program's Check. -/
namespace Go.Proofs.YtkmakliebhnhbaaGreat
open Go.RowKit Go.Shelf

section
variable {fs : List (List Ins)} {reds : List Int}
theorem check_red (h : ¬ (fs.length < 1 ∨ 8 < fs.length)) (hb : (badRed reds).2 = true) : check fs reds = (2, (badRed reds).1) := by
  by_cases h2 : 4 < reds.length
  · rw [check_2 h h2]; unfold badRed; rw [if_pos h2]
  · cases h3 : firstBad (badR reds) reds.length with
    | some r => rw [check_3 h h2 h3]; unfold badRed; rw [if_neg h2, h3]
    | none => unfold badRed at hb; rw [if_neg h2, h3] at hb; cases hb
theorem red_ok (hb : (badRed reds).2 = false) : ¬ 4 < reds.length ∧ firstBad (badR reds) reds.length = none := by
  by_cases h2 : 4 < reds.length
  · unfold badRed at hb; rw [if_pos h2] at hb; cases hb
  · cases h3 : firstBad (badR reds) reds.length with
    | some r => unfold badRed at hb; rw [if_neg h2, h3] at hb; cases hb
    | none => exact ⟨h2, rfl⟩
theorem check_fun (h : ¬ (fs.length < 1 ∨ 8 < fs.length)) (hb : (badRed reds).2 = false) (hf : (badFun fs reds.length).2 = true) : check fs reds = (3, (badFun fs reds.length).1) := by
  obtain ⟨h2, h3⟩ := red_ok hb
  cases h4 : firstBad (badF fs reds.length) fs.length with
  | some f => rw [check_4 h h2 h3 h4]; unfold badFun; rw [h4]
  | none => unfold badFun at hf; rw [h4] at hf; cases hf
theorem check_last (h : ¬ (fs.length < 1 ∨ 8 < fs.length)) (hb : (badRed reds).2 = false) (hf : (badFun fs reds.length).2 = false) : check fs reds = if 300 < framesC fs then (4, 0) else (0, 0) := by
  obtain ⟨h2, h3⟩ := red_ok hb
  cases h4 : firstBad (badF fs reds.length) fs.length with
  | some f => unfold badFun at hf; rw [h4] at hf; cases hf
  | none => exact check_5 h h2 h3 h4
theorem fun_ok (hf : (badFun fs reds.length).2 = false) (hw : ∀ l ∈ fs, ∀ i ∈ l, i.wf) : FsOk fs reds.length ∧ ∀ l ∈ fs, l.length ≤ 10 := by
  cases h4 : firstBad (badF fs reds.length) fs.length with
  | some f => unfold badFun at hf; rw [h4] at hf; cases hf
  | none =>
    exact FsOk_of (fun f hf => by
      have := List.find?_eq_none.1 h4 f (List.mem_range.2 hf)
      simpa using this) hw
end

set_option maxHeartbeats 2000000 in
theorem codeCheck_calls (fs : List (List Ins)) (reds : List Int) (S : Nat → Prop) (vf vr : Value) (w : World) (hw : ∀ l ∈ fs, ∀ i ∈ l, i.wf) (hF : RdF S w vf fs) (hR : RdL S w 1 int64s vr reds) :
    Calls Tryz.prog 34 #[vf, vr] w fun e w' => e = .returned (.tuple #[.int .i64 (check fs reds).1, .int .i64 (check fs reds).2]) ∧ Below w.heap.size w w' := by
  have HF := hide hF
  have HR := hide hR
  obtain ⟨us, hul, hu, hfs⟩ := hF
  obtain ⟨a, cap, rfl, hc, hm⟩ := hu.form
  obtain ⟨ra, rcap, rfl, hrc, hrm⟩ := hR.form
  unfold maxLen at hm hrm
  obtain ⟨n, hN⟩ : ∃ n, fs.length = n := ⟨_, rfl⟩
  rw [hul, hN] at hc HF ⊢
  obtain ⟨nr, hNR⟩ : ∃ nr, reds.length = nr := ⟨_, rfl⟩
  rw [hNR] at hrc HR ⊢
  have HN := hide hN
  have HNR := hide hNR
  have Hw := hide hw
  clear hN hul hNR hfs hu hw hR
  by_cases h1 : n < 1 ∨ 8 < n
  · have HC := hide (check_1 (reds := reds) (fs := fs) (by rw [HN.out]; exact h1))
    rcases h1 with h1 | h1
    · obtain rfl : n = 0 := by omega
      clear h1
      go_enter Tryz.func34, Tryz.ntmps34
      go_wp2
      go_ret2
      rw [HC.out]
      exact ⟨rfl, Below.refl _ _⟩
    · have h1' : (8 : Int) < n := by omega
      have h1'' : ¬ (n : Int) < 1 := by omega
      go_enter Tryz.func34, Tryz.ntmps34
      go_wp2
      go_ret2
      rw [HC.out]
      exact ⟨rfl, Below.refl _ _⟩
  have a1 : (1 : Int) ≤ n := by omega
  have a2 : (n : Int) ≤ 8 := by omega
  have hn8 : n ≤ 8 := by omega
  have hn0 : 0 < n := by omega
  have H1 : Hid (¬ (fs.length < 1 ∨ 8 < fs.length)) := by unfold Hid; rw [HN.out]; exact h1
  clear h1
  have cR := badReducer_calls reds S (.slice ra nr rcap) w HR.out
  have cF := badFunction_calls fs nr S (.slice a n cap) w Hw.out (by rw [HN.out]; exact hn8) HF.out
  cases hb : (badRed reds).2 with
  | true =>
    have HC := hide (check_red (fs := fs) H1.out hb)
    rw [hb] at cR
    obtain ⟨z, hz⟩ : ∃ z, (badRed reds).1 = z := ⟨_, rfl⟩
    rw [hz] at cR
    have HZ := hide hz
    clear hz hb cF
    go_enter Tryz.func34, Tryz.ntmps34
    go_wp2_with (go_at_call 45; refine cR.mono ?_; rintro e w' ⟨rfl, rfl⟩)
    go_ret2
    rw [HC.out, HZ.out]
    exact ⟨rfl, Below.refl _ _⟩
  | false =>
    rw [hb] at cR
    have HB := hide hb
    obtain ⟨z, hz⟩ : ∃ z, (badRed reds).1 = z := ⟨_, rfl⟩
    rw [hz] at cR
    clear hz hb
    cases hf : (badFun fs nr).2 with
    | true =>
      have HC := hide (check_fun (fs := fs) H1.out HB.out (by rw [HNR.out]; exact hf))
      rw [HNR.out] at HC
      rw [hf] at cF
      obtain ⟨y, hy⟩ : ∃ y, (badFun fs nr).1 = y := ⟨_, rfl⟩
      rw [hy] at cF
      have HY := hide hy
      clear hy hf
      go_enter Tryz.func34, Tryz.ntmps34
      go_wp2_with (first
        | (go_at_call 45; refine cR.mono ?_; rintro e w' ⟨rfl, rfl⟩)
        | (go_at_call 46; refine cF.mono ?_; rintro e w' ⟨rfl, hb1⟩))
      go_ret2
      rw [HC.out, HY.out]
      exact ⟨rfl, hb1⟩
    | false =>
      have HC := hide (check_last (fs := fs) H1.out HB.out (by rw [HNR.out]; exact hf))
      obtain ⟨ok1, ok2⟩ := fun_ok (fs := fs) (reds := reds) (by rw [HNR.out]; exact hf) Hw.out
      rw [hf] at cF
      obtain ⟨y, hy⟩ : ∃ y, (badFun fs nr).1 = y := ⟨_, rfl⟩
      rw [hy] at cF
      clear hy hf
      have cM : Hid (∀ w1, Below w.heap.size w w1 → Calls Tryz.prog 47 #[.slice a n cap] w1 fun e w' => ∃ g, e = .returned (.slice (some ⟨g, 0, none⟩) n n) ∧ w'.cell? ⟨g, 0, none⟩ = some (.int .i64 (framesF fs)) ∧ Below w.heap.size w w') := fun w1 hb1 =>
        (measure_calls fs reds.length S (.slice a n cap) w1 (by rw [HN.out]; exact hn0) (by rw [HN.out]; exact hn8) ok1 ok2 (HF.out.below hb1)).mono (fun e w' ⟨g, he, _, _, hs, hb⟩ => by
          rw [HN.out] at he
          have := (hs 0 (by rw [HN.out]; exact hn0)).1
          exact ⟨g, he, by simpa [toZ, framesF] using this, hb1.trans (hb.mono hb1.size)⟩)
      have Hok1 := hide ok1
      clear ok1 ok2
      obtain ⟨q, hq⟩ : ∃ q, framesF fs = q := ⟨_, rfl⟩
      rw [hq] at cM
      by_cases h300 : 300 < q
      · have h300' : (300 : Int) < q := by omega
        have HC2 : Hid (check fs reds = (4, 0)) := by unfold Hid; rw [HC.out, if_pos (framesF_gt.1 (by rw [hq]; exact h300))]
        clear hq HC
        go_enter Tryz.func34, Tryz.ntmps34
        go_wp2_with (first
          | (go_at_call 45; refine cR.mono ?_; rintro e w' ⟨rfl, rfl⟩)
          | (go_at_call 46; refine cF.mono ?_; rintro e w' ⟨rfl, hb1⟩)
          | (go_at_call 47; refine (cM.out _ hb1).mono ?_; rintro e w2 ⟨g, rfl, hg, hb2⟩))
        go_ret2
        rw [HC2.out]
        exact ⟨rfl, hb2⟩
      · have h300' : ¬ (300 : Int) < q := by omega
        have HC2 : Hid (check fs reds = (0, 0)) := by unfold Hid; rw [HC.out, if_neg (fun h => h300 (by rw [← hq]; exact framesF_gt.2 h))]
        clear hq HC
        go_enter Tryz.func34, Tryz.ntmps34
        go_wp2_with (first
          | (go_at_call 45; refine cR.mono ?_; rintro e w' ⟨rfl, rfl⟩)
          | (go_at_call 46; refine cF.mono ?_; rintro e w' ⟨rfl, hb1⟩)
          | (go_at_call 47; refine (cM.out _ hb1).mono ?_; rintro e w2 ⟨g, rfl, hg, hb2⟩))
        go_ret2
        rw [HC2.out]
        exact ⟨rfl, hb2⟩
end Go.Proofs.YtkmakliebhnhbaaGreat
