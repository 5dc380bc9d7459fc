import Derived.Test.YtkmakliebhnhbaaGreatFrames
import Derived.Test.YtkmakliebhnhbaaGreatMay
namespace Go.Proofs.YtkmakliebhnhbaaGreat
open Go.RowKit

section
variable {fs : List (List Ins)} {reds : List Int}
theorem check_1 (h : fs.length < 1 ∨ 8 < fs.length) : check fs reds = (1, 0) := by unfold check; rw [if_pos h]
theorem check_2 (h : ¬ (fs.length < 1 ∨ 8 < fs.length)) (h2 : 4 < reds.length) : check fs reds = (2, 0) := by unfold check; rw [if_neg h, if_pos h2]
theorem check_3 (h : ¬ (fs.length < 1 ∨ 8 < fs.length)) (h2 : ¬ 4 < reds.length) {r : Nat} (h3 : firstBad (badR reds) reds.length = some r) : check fs reds = (2, (r : Int)) := by unfold check; rw [if_neg h, if_neg h2, h3]
theorem check_4 (h : ¬ (fs.length < 1 ∨ 8 < fs.length)) (h2 : ¬ 4 < reds.length) (h3 : firstBad (badR reds) reds.length = none) {f : Nat} (h4 : firstBad (badF fs reds.length) fs.length = some f) : check fs reds = (3, (f : Int)) := by
  unfold check; rw [if_neg h, if_neg h2, h3]; simp only [h4]
theorem check_5 (h : ¬ (fs.length < 1 ∨ 8 < fs.length)) (h2 : ¬ 4 < reds.length) (h3 : firstBad (badR reds) reds.length = none) (h4 : firstBad (badF fs reds.length) fs.length = none) : check fs reds = if 300 < framesC fs then (4, 0) else (0, 0) := by
  unfold check; rw [if_neg h, if_neg h2, h3]; simp only [h4]

theorem badF_false {nr f : Nat} {l : List Ins} (hl : fs[f]? = some l) (h1 : l.length ≤ 10) (h2 : ∀ i ∈ l, mayB fs.length nr f i = true) : badF fs nr f = false := by
  unfold badF
  rw [hl]
  simp only [Option.getD_some, Bool.or_eq_false_iff, decide_eq_false_iff_not, List.any_eq_false]
  exact ⟨by omega, fun i hi => by simp [h2 i hi]⟩
theorem badF_long {nr f : Nat} {l : List Ins} (hl : fs[f]? = some l) (h1 : 10 < l.length) : badF fs nr f = true := by
  unfold badF; rw [hl]; simp [h1]
theorem badF_ins {nr f k : Nat} {l : List Ins} {i : Ins} (hl : fs[f]? = some l) (hi : l[k]? = some i) (h1 : mayB fs.length nr f i = false) : badF fs nr f = true := by
  unfold badF; rw [hl]
  simp only [Option.getD_some, Bool.or_eq_true, List.any_eq_true]
  exact .inr ⟨i, List.mem_of_getElem? hi, by simp [h1]⟩
/-- None of the functions is bad: each instruction may be. -/
theorem FsOk_of {nr : Nat} (h : ∀ f, f < fs.length → badF fs nr f = false) (hw : ∀ l ∈ fs, ∀ i ∈ l, i.wf) : FsOk fs nr ∧ ∀ l ∈ fs, l.length ≤ 10 := by
  have key : ∀ (f : Nat) (l : List Ins), fs[f]? = some l → l.length ≤ 10 ∧ ∀ i ∈ l, mayB fs.length nr f i = true := by
    intro f l hl
    have := h f (List.getElem?_eq_some_iff.1 hl).1
    unfold badF at this
    rw [hl] at this
    simp only [Option.getD_some, Bool.or_eq_false_iff, decide_eq_false_iff_not, List.any_eq_false] at this
    exact ⟨by omega, fun i hi => by have := this.2 i hi; simpa using this⟩
  refine ⟨fun f l hl i hi => ⟨(key f l hl).2 i hi, hw l (List.mem_of_getElem? hl) i hi⟩, fun l hl => ?_⟩
  obtain ⟨f, hf⟩ := List.getElem?_of_mem hl
  exact (key f l hf).1
end

set_option maxHeartbeats 2000000 in
theorem check_any (fs : List (List Ins)) (reds : List Int) (S : Nat → Prop) (pb : Nat) (vf vr : Value) (w : World) (hw : ∀ l ∈ fs, ∀ i ∈ l, i.wf)
    (hp : w.cell? ⟨pb, 0, none⟩ = some vf) (hq : w.cell? ⟨pb, 1, none⟩ = some vr) (hF : RdF S w vf fs) (hR : RdL S w 1 int64s vr reds) :
    Calls Tryz.prog 16 #[.pointer (some ⟨pb, 0, none⟩)] w fun e w' => e = .returned (.tuple #[.int .i64 (check fs reds).1, .int .i64 (check fs reds).2]) ∧ Below w.heap.size w w' := by
  have HF := hide hF
  have HR := hide hR
  obtain ⟨us, hul, hu, hfs⟩ := hF
  obtain ⟨a, cap, rfl, hc, hm⟩ := hu.form
  obtain ⟨ra, rcap, rfl, hrc, hrm⟩ := hR.form
  have hpb := block_lt_of_cell hp
  simp only at hpb
  unfold maxLen at hm hrm
  obtain ⟨n, hN⟩ : ∃ n, fs.length = n := ⟨_, rfl⟩
  rw [hul, hN] at hc hp
  obtain ⟨nr, hNR⟩ : ∃ nr, reds.length = nr := ⟨_, rfl⟩
  rw [hNR] at hrc hq
  have HN := hide hN
  have HU : Hid (us.length = n) := hul.trans hN
  have HNR := hide hNR
  have Hfs := hide hfs
  have Hu := hide hu
  have Hw := hide hw
  clear hN hul hNR hfs hu hw hR
  by_cases h1 : n < 1 ∨ 8 < n
  · have HC := hide (check_1 (reds := reds) (fs := fs) (by rw [HN.out]; exact h1))
    rcases h1 with h1 | h1
    · obtain rfl : n = 0 := by omega
      clear h1
      go_enter Tryz.func16, Tryz.ntmps16
      go_wp2
      go_ret2
      rw [HC.out]
      exact ⟨rfl, Below.refl _ _⟩
    · have h1' : (8 : Int) < n := by omega
      have h1'' : ¬ (n : Int) < 1 := by omega
      go_enter Tryz.func16, Tryz.ntmps16
      go_wp2
      go_ret2
      rw [HC.out]
      exact ⟨rfl, Below.refl _ _⟩
  have a1 : (1 : Int) ≤ n := by omega
  have a2 : (n : Int) ≤ 8 := by omega
  have H1 : Hid (¬ (fs.length < 1 ∨ 8 < fs.length)) := by unfold Hid; rw [HN.out]; exact h1
  clear h1
  by_cases h2 : 4 < nr
  · have HC := hide (check_2 H1.out (reds := reds) (by rw [HNR.out]; exact h2))
    have h2' : (4 : Int) < nr := by omega
    go_enter Tryz.func16, Tryz.ntmps16
    go_wp2
    go_ret2
    rw [HC.out]
    exact ⟨rfl, Below.refl _ _⟩
  have a3 : (nr : Int) ≤ 4 := by omega
  have H2 : Hid (¬ 4 < reds.length) := by unfold Hid; rw [HNR.out]; exact h2
  clear h2
  go_enter Tryz.func16, Tryz.ntmps16
  go_wp2
  go_loop [5] (fun i => ∃ k : Nat, k ≤ nr ∧ i = .int .i64 k ∧ Hid (∀ j, j < k → badR reds j = false)) (fun i => nr - (intOf i).toNat)
  case atStart => exact ⟨0, Nat.zero_le _, rfl, fun j hj => by omega⟩
  case round =>
    obtain ⟨k, hk, rfl, hb⟩ := hrel
    by_cases hlt : k < nr
    · have hlti : (k : Int) < nr := by omega
      obtain ⟨q, hqk⟩ : ∃ q, reds[k]? = some q := ⟨reds[k]'(by have := HNR.out; omega), by simp⟩
      obtain ⟨b, off, rfl, _, hce⟩ := HR.out.at hqk
      have c0 := hce 0 _ rfl
      simp only [Nat.mul_one, Nat.add_zero] at c0
      have HQ := hide hqk
      clear hce hqk
      by_cases hbad : q < 1 ∨ 5 < q
      · have HC := hide (check_3 (fs := fs) H1.out H2.out (firstBad_some hb.out (by unfold badR; rw [HQ.out]; simp; omega) (by have := HNR.out; omega)))
        rcases hbad with hbad | hbad
        · go_wp2
          go_ret2
          rw [HC.out]
          exact ⟨rfl, Below.refl _ _⟩
        · have hbad' : ¬ q < 1 := by omega
          go_wp2
          go_ret2
          rw [HC.out]
          exact ⟨rfl, Below.refl _ _⟩
      · have b1 : ¬ q < 1 := by omega
        have b2 : ¬ 5 < q := by omega
        go_wp2
        go_round
        case rel =>
          refine ⟨k + 1, by omega, by go_num, fun j hj => ?_⟩
          by_cases e : j = k
          · subst e; unfold badR; rw [HQ.out]; simp; omega
          · exact hb.out j (by omega)
        case measure => simp [intOf]; omega
    · obtain rfl : nr = k := by omega
      have HB := hide (firstBad_none (p := badR reds) (n := reds.length) (by rw [HNR.out]; exact hb.out))
      clear hb
      go_wp2
      go_loopw [6] (fun i wr => (∃ f : Nat, f ≤ n ∧ i = .int .i64 f ∧ Hid (∀ j, j < f → badF fs reds.length j = false)) ∧ Below w.heap.size w wr) (fun i _ => n - (intOf i).toNat)
      case atStart => exact ⟨⟨0, Nat.zero_le _, rfl, fun j hj => by omega⟩, Below.refl _ _⟩
      case round =>
        obtain ⟨wo, rfl⟩ : ∃ wo : World, wo = wr := ⟨_, rfl⟩
        obtain ⟨⟨f, hf, rfl, hg⟩, hBo⟩ := hrel
        have hp1 := (hBo.cell (p := ⟨pb, 0, none⟩) hpb).trans hp
        have hq1 := (hBo.cell (p := ⟨pb, 1, none⟩) hpb).trans hq
        by_cases hlt : f < n
        · have hfi : (f : Int) < n := by omega
          have hf0 : (0 : Int) ≤ f := by omega
          obtain ⟨l, hlf⟩ : ∃ l, fs[f]? = some l := ⟨fs[f]'(by have := HN.out; omega), by simp⟩
          obtain ⟨u, huf⟩ : ∃ u, us[f]? = some u := ⟨us[f]'(by have := HU.out; omega), by simp⟩
          have hx := Hfs.out f u l huf hlf
          obtain ⟨a2, cap2, rfl, hc2', hm2⟩ := hx.form
          obtain ⟨b, off, rfl, _, hcu⟩ := Hu.out.at huf
          have hcu0 := hcu 0 _ rfl
          obtain ⟨L, hL⟩ : ∃ L, l.length = L := ⟨_, rfl⟩
          rw [hL] at hx hc2' hcu0
          have HL := hide hL
          have HX := hide hx
          have HLF := hide hlf
          have hbb := block_lt_of_cell hcu0
          simp only [Nat.mul_one, Nat.add_zero] at hbb hcu0
          have HCU := hide hcu0
          have hu1 := (hBo.cell (p := ⟨b, off + f, none⟩) hbb).trans hcu0
          have HBo := hide hBo
          clear hx hlf huf hL hcu hcu0 hBo
          unfold maxLen at hm2
          by_cases hlong : 10 < L
          · have hlongi : (10 : Int) < L := by omega
            have HC := hide (check_4 H1.out H2.out HB.out (firstBad_some hg.out (badF_long HLF.out (by have := HL.out; omega)) (by have := HN.out; omega)))
            go_wp2
            go_ret2
            rw [HC.out]
            exact ⟨rfl, HBo.out⟩
          have hshort : (L : Int) ≤ 10 := by omega
          go_wp2
          go_loopw [7] (fun i wr => (∃ k : Nat, k ≤ L ∧ i = .int .i64 k ∧ Hid (∀ j i, j < k → l[j]? = some i → mayB fs.length reds.length f i = true)) ∧ Below w.heap.size w wr) (fun i _ => L - (intOf i).toNat)
          case atStart => exact ⟨⟨0, Nat.zero_le _, rfl, fun j i hj => by omega⟩, HBo.out⟩
          case round =>
            clear hp1 hq1 hu1
            obtain ⟨⟨k, hk, rfl, hgk⟩, hBk⟩ := hrel
            have hp1 := (hBk.cell (p := ⟨pb, 0, none⟩) hpb).trans hp
            have hq1 := (hBk.cell (p := ⟨pb, 1, none⟩) hpb).trans hq
            have hu1 := (hBk.cell (p := ⟨b, off + f, none⟩) hbb).trans HCU.out
            by_cases hkL : k < L
            · have hkLi : (k : Int) < L := by omega
              obtain ⟨i, hi⟩ : ∃ i, l[k]? = some i := ⟨l[k]'(by have := HL.out; omega), by simp⟩
              obtain ⟨b2, o2, rfl, _, hce⟩ := HX.out.at hi
              have e0 := hce 0 _ rfl
              have e1 := hce 1 _ rfl
              have e2 := hce 2 _ rfl
              have e3 := hce 3 _ rfl
              have e4 := hce 4 _ rfl
              have hb2 := block_lt_of_cell e0
              simp only [Nat.add_zero] at hb2 e0
              have q0 := (hBk.cell (p := ⟨b2, o2 + k * 5, none⟩) hb2).trans e0
              have q1 := (hBk.cell (p := ⟨b2, o2 + k * 5 + 1, none⟩) hb2).trans e1
              have q2 := (hBk.cell (p := ⟨b2, o2 + k * 5 + 2, none⟩) hb2).trans e2
              have q3 := (hBk.cell (p := ⟨b2, o2 + k * 5 + 3, none⟩) hb2).trans e3
              have q4 := (hBk.cell (p := ⟨b2, o2 + k * 5 + 4, none⟩) hb2).trans e4
              have HI := hide hi
              have HBk := hide hBk
              have hcm := hide (may_any i (f : Int) pb n nr cap rcap (some ⟨b, off, none⟩) ra wr hp1 hq1)
              clear e0 e1 e2 e3 e4 hce hi hBk hb2
              go_wp2_with fail
              refine hcm.out.mono ?_
              rintro e w' ⟨rfl, hB2⟩
              have HB2 := hide (HBk.out.trans (hB2.mono HBk.out.size))
              clear hcm hB2 hp1 hq1 hu1 q0 q1 q2 q3 q4
              cases hmb : mayB n nr (f : Int) i
              · have HC := hide (check_4 H1.out H2.out HB.out (firstBad_some hg.out (badF_ins HLF.out HI.out (by rw [HN.out, HNR.out]; exact hmb)) (by have := HN.out; omega)))
                go_wp2
                go_ret2
                rw [HC.out]
                exact ⟨rfl, HB2.out⟩
              · go_wp2
                go_roundw
                case rel =>
                  refine ⟨⟨k + 1, by omega, by go_num, fun j i' hj hi' => ?_⟩, HB2.out⟩
                  by_cases e : j = k
                  · subst e
                    have := HI.out
                    rw [hi'] at this
                    cases this
                    rw [HN.out, HNR.out]
                    exact hmb
                  · exact hgk.out j i' (by omega) hi'
                case measure => simp [intOf]; omega
            · obtain rfl : L = k := by omega
              have HBk := hide hBk
              clear hBk
              go_wp2
              go_roundw
              case rel =>
                refine ⟨⟨f + 1, by omega, by go_num, fun j hj => ?_⟩, HBk.out⟩
                by_cases e : j = f
                · subst e
                  refine badF_false HLF.out (by have := HL.out; omega) (fun i hi => ?_)
                  obtain ⟨m, hm⟩ := List.getElem?_of_mem hi
                  exact hgk.out m i (by have := (List.getElem?_eq_some_iff.1 hm).1; have := HL.out; omega) hm
                · exact hg.out j (by omega)
              case measure => simp [intOf]; omega
        · obtain rfl : n = f := by omega
          have HBF := hide (firstBad_none (p := badF fs reds.length) (n := fs.length) (by rw [HN.out]; exact hg.out))
          obtain ⟨hok, hl10⟩ := FsOk_of (fs := fs) (nr := reds.length) (by rw [HN.out]; exact hg.out) Hw.out
          have HC := hide (check_5 H1.out H2.out HB.out HBF.out)
          have hfr := frames_any fs reds.length S pb _ wo (by have := HN.out; omega) (by have := HN.out; omega) hok hl10 hp1 (by have := HF.out.below (hBo.mono (Nat.le_refl _)); rw [HU.out] at this; exact this)
          have HBo := hide hBo
          have HFR := hide hfr
          clear hfr hok hl10 hBo hg
          go_wp2_with fail
          refine HFR.out.mono ?_
          rintro e w' ⟨rfl, hB2⟩
          have HB2 := hide (HBo.out.trans (hB2.mono HBo.out.size))
          have hcle := cntsC_le fs fs.length 0
          obtain ⟨c, hcE⟩ : ∃ c, framesC fs = c := ⟨_, rfl⟩
          have hcle' : c ≤ 301 := by rw [← hcE]; exact hcle
          rw [hcE]
          have HCE := hide hcE
          clear hB2 hcle hcE HFR hp1 hq1
          by_cases h300 : 300 < c
          · have h3 : (300 : Int) < c := by omega
            go_wp2
            go_ret2
            rw [HC.out, if_pos (by rw [HCE.out]; exact h300)]
            exact ⟨rfl, HB2.out⟩
          · have h3 : (c : Int) ≤ 300 := by omega
            go_wp2
            go_ret2
            rw [HC.out, if_neg (by rw [HCE.out]; exact h300)]
            exact ⟨rfl, HB2.out⟩
end Go.Proofs.YtkmakliebhnhbaaGreat
