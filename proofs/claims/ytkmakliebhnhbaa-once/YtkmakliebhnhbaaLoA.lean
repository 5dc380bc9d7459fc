import Derived.Deep.RegionHeld3
import Derived.Test.YtkmakliebhnhbaaPlK
/- Lone: the walk. -/
namespace Go.Proofs.Ytkmakliebhnhbaa
open Go.RowKit Go.Shelf

theorem box6 {W : World} {b : Nat} {t : TypeId} {v0 v1 v2 v3 v4 v5 : Value} (h : W.heap[b]? = some (.cells #[v0, v1, v2, v3, v4, v5] t (0, 0))) : W.cell? ⟨b, 0, none⟩ = some v0 ∧ W.cell? ⟨b, 1, none⟩ = some v1 ∧ W.cell? ⟨b, 2, none⟩ = some v2 ∧ W.cell? ⟨b, 3, none⟩ = some v3 ∧ W.cell? ⟨b, 4, none⟩ = some v4 ∧ W.cell? ⟨b, 5, none⟩ = some v5 :=
  ⟨cell_blk h rfl, cell_blk h rfl, cell_blk h rfl, cell_blk h rfl, cell_blk h rfl, cell_blk h rfl⟩
theorem frames_le (fs : List (List Ins)) : framesC fs ≤ 301 := cntsC_le fs _ _
theorem plLone (ls : Nat → List Ins) (ks : Nat → Int) (B pb : Nat) (seed x : Int) (script : List (Int × Int)) (S : Nat → Prop) (sv : Value) (W : World) (hw : LsWf ls) (hl : script.length ≤ 4000) (hsc : ∀ q ∈ script, i64 q.1 ∧ i64 q.2) (hP : PlP B W pb ls ks) (hS : RdL S W 2 pickV sv script) :
    Calls Try.prog 17 #[.pointer (some ⟨pb, 0, none⟩), .int .u64 seed, .int .i64 x, .int .i64 1, sv] W fun e w' => ∃ la lc ta tc, e = .returned (.tuple #[.agg #[.slice la 4 lc, .slice ta (traceZ (codeN ls) seed x).length tc, .int .i64 ((framesC (codeN ls) + wfC (codeN ls) (fun _ => 1) 4 0 : Nat) : Int), .int .i64 0, .int .i64 0, .int .i64 (framesC (codeN ls))], .int .i64 0]) ∧
      RdV w' (.slice la 4 lc) (valsZ (kindsN ks) (traceZ (codeN ls) seed x)) 4 ∧ RdL (fun _ => True) w' 3 Ev.vals (.slice ta (traceZ (codeN ls) seed x).length tc) (traceZ (codeN ls) seed x) ∧ Below W.heap.size W w' := by
  refine (plRun ls ks B pb seed x 1 script S sv W hw (by omega) (by omega) hl hsc hP hS).mono ?_
  rintro e w' ⟨N, la, lc, ta, tc, hN, rfl, hV, hT, hb⟩
  have hck : (check (codeN ls) (kindsN ks)).1 = 0 := by rw [codeN_check ks hw]
  obtain ⟨c1, c2, c3, c4, c5⟩ := check_ok hck (codeN_wf hw)
  have hN' : Ends (codeN ls) 1 script seed x N := hN
  obtain ⟨t1, t2, t3⟩ := run_lone c4 c5 c1 hN'
  obtain ⟨A, r1, r2, r3⟩ := run_counted c4 c5 (Nat.le_refl 1) c1 hN'
  have hwh := work_whole c4 c1
  rw [codeN_len] at r1 hwh
  have hfr := frames_ok hck
  have e1 : N + 1 = framesC (codeN ls) + wfC (codeN ls) (fun _ => 1) 4 0 := by omega
  have ht : traceZ (codeN ls) seed x = trAt (codeN ls) 1 script seed x N := t1.symm
  simp only [Int.toNat_one] at hT ⊢
  rw [← ht] at hT ⊢
  rw [t2, t3, e1]
  exact ⟨la, lc, ta, tc, rfl, hV, hT, hb⟩

set_option maxHeartbeats 8000000 in
set_option maxRecDepth 100000 in
theorem lone_walk (sa : Nat → Option Addr) (sn sc : Nat → Nat) (ks : Nat → Int) (ls : Nat → List Ins) (S S4 : Nat → Prop) (seed x : Int) (a4 : Option Addr) (n4 c4 : Nat) (l4 : List (Int × Int)) (w : World) (hw : LsWf ls) (hk : ∀ r, r < 4 → i64 (ks r)) (hR : PlRd S w sa sn sc ls)
    (hs : u64 seed) (hx : i64 x) (h4 : ∀ q ∈ l4, i64 q.1 ∧ i64 q.2) (r4 : RdL S4 w 2 pickV (.slice a4 n4 c4) l4) :
    Calls Try.prog 7 #[.agg #[.slice (sa 0) (sn 0) (sc 0), .slice (sa 1) (sn 1) (sc 1), .slice (sa 2) (sn 2) (sc 2), .slice (sa 3) (sn 3) (sc 3), .int .i64 (ks 0), .int .i64 (ks 1), .int .i64 (ks 2), .int .i64 (ks 3)], .int .u64 seed, .int .i64 x, .slice a4 n4 c4] w fun e w' => e = .returned (.bool true) ∧ Below w.heap.size w w' := by
  have hn := World.alloc_heap_new w (.cells #[.slice (sa 0) (sn 0) (sc 0), .slice (sa 1) (sn 1) (sc 1), .slice (sa 2) (sn 2) (sc 2), .slice (sa 3) (sn 3) (sc 3), .int .i64 (ks 0), .int .i64 (ks 1), .int .i64 (ks 2), .int .i64 (ks 3)] 26)
  have hb := (Below.refl _ w).alloc (Nat.le_refl _) (.cells #[.slice (sa 0) (sn 0) (sc 0), .slice (sa 1) (sn 1) (sc 1), .slice (sa 2) (sn 2) (sc 2), .slice (sa 3) (sn 3) (sc 3), .int .i64 (ks 0), .int .i64 (ks 1), .int .i64 (ks 2), .int .i64 (ks 3)] 26)
  obtain ⟨q0, q1, q2, q3, q4, q5, q6, q7⟩ := box8 hn
  have HN := hide hn
  have HB := hide hb
  have HM := hide (fun W (hb : Below w.heap.size w W) => made_calls sa sn sc ks ls S W hw hk (hR.below hb))
  have HSE := hide (fun B pb W hP => plSerial ls ks B pb seed x W hw hs hx hP)
  have HR1 := hide (fun B pb sv W hP hS => plLone ls ks B pb seed x (l4.take 4000) S4 sv W hw take_len (take_pick h4) hP hS)
  have HC := hide (fun W hb => codeK sa sn sc ks ls S w W hw hR hb)
  have hck : (check (codeN ls) (kindsN ks)).1 = 0 := by rw [codeN_check ks hw]
  obtain ⟨k1, k2, k3, k4, k5⟩ := check_ok hck (codeN_wf hw)
  have HST := hide (fun S' va vn vc W h => plSteps_calls (S := S') (va := va) (vn := vn) (vc := vc) k4 k5 k2 4 0 W (by omega) (by rw [codeN_len]; omega) k1 h)
  have hq := wfC_bd (own := fun _ => 1) (fun _ => Nat.le_refl _) k5 4 0
  have hf := frames_le (codeN ls)
  obtain ⟨q, hqe⟩ : ∃ q, wfC (codeN ls) (fun _ => 1) 4 0 = q := ⟨_, rfl⟩
  obtain ⟨f, hfe⟩ : ∃ f, framesC (codeN ls) = f := ⟨_, rfl⟩
  rw [hqe] at hq HR1 HST
  rw [hfe] at hf HR1 HSE
  have hq2 : q ≤ 160000 := by omega
  obtain ⟨T, hT⟩ : ∃ T, traceZ (codeN ls) seed x = T := ⟨_, rfl⟩
  rw [hT] at HSE HR1
  have R4 := hide r4
  clear hw hk hR hs hx h4 r4 hn hb hck k1 k2 k3 k4 k5 hqe hfe hT hq
  go_enter Try.func7, Try.ntmps7
  go_wp2_with (first
    | (go_at_call 10; refine (HM.out _ HB.out).mono ?_; rintro e w1 ⟨pb, rfl, hP1, hb1⟩)
    | (go_at_call 12
       refine (HSE.out _ _ _ hP1).mono ?_
       rintro e w2 ⟨la, lc, ta, tc, rfl, hV2, hT2, hb2⟩
       have hbA := Below.up HB.out hb1 HB.out.size
       have hbB := Below.up hbA hb2 hbA.size
       have hP2 := PlP.below hP1 hb2)
    | (go_at_call 18; refine (short_calls l4 S4 _ _ _ _ (R4.out.below (Below.up hbB (new_below _ _) hbB.size) (fun x _ => pick_ne x))).mono ?_; rintro e w' ⟨⟨m4, rfl, s4⟩, rfl⟩)
    | (go_at_call 17
       refine (HR1.out _ _ _ _ (hP2.below (new_below _ _)) s4).mono ?_
       rintro e w3 ⟨la3, lc3, ta3, tc3, rfl, hV3, hT3, hb3⟩
       have hbC := Below.up (Below.up hbB (new_below _ _) hbB.size) hb3 (Nat.le_trans hbB.size (new_below _ _).size)
       have o2 := obj_keep hb3
       have hb12 := Below.up hb1 hb2 hb1.size
       have o1 := Below.up hb12 (Below.up (new_below w2 _) hb3 (new_below _ _).size) hb12.size
       have x1 := (o1.block _ (by simp)).trans HN.out
       have d2 := cell_new (i := 0) o2 rfl
       have d3 := cell_new (i := 1) o2 rfl
       have V2 := hide ((hV2.below (new_below _ _)).below hb3)
       have T2 := hide ((hT2.below (new_below _ _) (fun x _ => List.cons_ne_nil _ _)).below hb3 (fun x _ => List.cons_ne_nil _ _))
       have V3 := hide hV3
       have T3 := hide hT3
       have HBD := hide hbC
       have O2 := hide o2
       have X1 := hide x1
       have hs1 : w.heap.size < w2.heap.size := by have := hb12.size; simp at this; omega
       have hs2 : w2.heap.size < w3.heap.size := by have := hb3.size; simp at this; omega
       clear hV2 hV3 hT2 hT3 hb1 hb2 hb3 hbA hbB hbC hP1 hP2 o2 o1 x1 hb12)
    | (go_at_call 19
       refine (same_calls 4 _ _ _ _ (V3.out.below (new_below _ _)) (V2.out.below (new_below _ _))).mono ?_
       rintro e w5 ⟨rfl, hb5⟩
       have x3 := obj_keep hb5
       have hb5' := Below.up (new_below w3 _) hb5 (new_below _ _).size
       have x2 := (hb5'.block _ hs2).trans O2.out
       have x1 := (hb5'.block _ (Nat.lt_trans hs1 hs2)).trans X1.out
       have g2 := cell_blk (i := 1) x2 rfl
       have g3 := cell_blk (i := 1) x3 rfl
       have T22 := hide (T2.out.below hb5' (fun x _ => List.cons_ne_nil _ _))
       have T33 := hide (T3.out.below hb5' (fun x _ => List.cons_ne_nil _ _))
       have HBE := hide (Below.up HBD.out hb5' HBD.out.size)
       have X22 := hide x2
       have X33 := hide x3
       have X11 := hide x1
       have hs3 : w3.heap.size < w5.heap.size := by have := hb5.size; simp at this; omega
       clear x1 x2 x3 hb5 hb5')
    | (go_at_call 20
       refine (alike_calls _ _ _ _ _ _ T33.out T22.out).mono ?_
       rintro e w6 ⟨rfl, hb6⟩))
  have hs5 := hb6.size
  have y1 := (hb6.block _ (Nat.lt_trans hs1 (Nat.lt_trans hs2 hs3))).trans X11.out
  have y2 := (hb6.block _ (Nat.lt_trans hs2 hs3)).trans X22.out
  have y3 := (hb6.block _ hs3).trans X33.out
  have HBF := hide (Below.up HBE.out hb6 HBE.out.size)
  clear g2 g3 hb6 d2 d3 q0 q1 q2 q3 q4 q5 q6 q7
  obtain ⟨p0, p1, p2, p3, p4, p5, p6, p7⟩ := box8 y1
  obtain ⟨_, _, _, _, _, s5⟩ := box6 y2
  obtain ⟨_, _, o2, o3, o4, o5⟩ := box6 y3
  have hs6 : w3.heap.size < w6.heap.size := Nat.lt_of_lt_of_le hs3 hs5
  have Y1 := hide y1
  have Y2 := hide y2
  have Y3 := hide y3
  have HBG : Hid (Below w.heap.size w w6.drew) := ⟨HBF.out.os, HBF.out.tape, HBF.out.output, HBF.out.size, HBF.out.block⟩
  clear y1 y2 y3 X11 X22 X33 T22 T33 T2 T3 V2 V3 O2 X1 HBD HBE HM HSE HR1 R4 HN HB
  go_region_held3 (fun W => W.cell? ⟨w.heap.size, 0, none⟩ = some (.slice (sa 0) (sn 0) (sc 0)) ∧ W.cell? ⟨w.heap.size, 1, none⟩ = some (.slice (sa 1) (sn 1) (sc 1)) ∧ W.cell? ⟨w.heap.size, 2, none⟩ = some (.slice (sa 2) (sn 2) (sc 2)) ∧ W.cell? ⟨w.heap.size, 3, none⟩ = some (.slice (sa 3) (sn 3) (sc 3)) ∧ W.cell? ⟨w.heap.size, 4, none⟩ = some (.int .i64 (ks 0)) ∧ W.cell? ⟨w.heap.size, 5, none⟩ = some (.int .i64 (ks 1)) ∧ W.cell? ⟨w.heap.size, 6, none⟩ = some (.int .i64 (ks 2)) ∧ W.cell? ⟨w.heap.size, 7, none⟩ = some (.int .i64 (ks 3)) ∧
      W.cell? ⟨w2.heap.size, 5, none⟩ = some (.int .i64 (f : Int)) ∧ W.cell? ⟨w3.heap.size, 2, none⟩ = some (.int .i64 ((f : Int) + (q : Int))) ∧ W.cell? ⟨w3.heap.size, 3, none⟩ = some (.int .i64 0) ∧ W.cell? ⟨w3.heap.size, 4, none⟩ = some (.int .i64 0) ∧ W.cell? ⟨w3.heap.size, 5, none⟩ = some (.int .i64 (f : Int)))
    (go_keep)
    (first
      | (go_at_call 22
         refine (HC.out _ HBG.out).mono ?_
         rintro e w7 ⟨a7, n7, c7, rfl, hF7, hb7⟩
         obtain ⟨p0, p1, p2, p3, p4, p5, p6, p7⟩ := box8 ((hb7.block _ (Nat.lt_trans hs1 (Nat.lt_trans hs2 hs6))).trans Y1.out)
         obtain ⟨_, _, _, _, _, s5⟩ := box6 ((hb7.block _ (Nat.lt_trans hs2 hs6)).trans Y2.out)
         obtain ⟨_, _, o2, o3, o4, o5⟩ := box6 ((hb7.block _ hs6).trans Y3.out)
         have HB7 := hide (Below.up HBG.out hb7 HBG.out.size)
         have HF7 := hide hF7
         clear hF7 hb7)
      | (go_at_call 21
         refine (HST.out _ _ _ _ _ HF7.out).mono ?_
         rintro e w8 ⟨rfl, rfl⟩))
  all_goals
    have hwr : IntKind.i64.wrap ((f : Int) + (q : Int)) = (f : Int) + (q : Int) := by rw [wrap_i64']; exact i64_wrap (by unfold i64; omega)
    rw [hwr]
    simp only [beq_self_eq_true]
    go_wp2
    go_ret
    exact ⟨rfl, HB7.out⟩
end Go.Proofs.Ytkmakliebhnhbaa
