import Derived.Test.YtkmakliebhnhbaaPlK
/- Unseen: the walk. -/
namespace Go.Proofs.Ytkmakliebhnhbaa
open Go.RowKit Go.Shelf

set_option maxHeartbeats 4000000 in
set_option maxRecDepth 100000 in
theorem unseen_walk (sa : Nat → Option Addr) (sn sc : Nat → Nat) (ks : Nat → Int) (ls : Nat → List Ins) (S S4 S5 : Nat → Prop) (seed x wk : Int) (a4 a5 : Option Addr) (n4 n5 c4 c5 : Nat) (l4 l5 : List (Int × Int)) (w : World) (hw : LsWf ls) (hk : ∀ r, r < 4 → i64 (ks r)) (hR : PlRd S w sa sn sc ls)
    (hs : u64 seed) (hx : i64 x) (hwk : i64 wk) (h4 : ∀ q ∈ l4, i64 q.1 ∧ i64 q.2) (h5 : ∀ q ∈ l5, i64 q.1 ∧ i64 q.2) (r4 : RdL S4 w 2 pickV (.slice a4 n4 c4) l4) (r5 : RdL S5 w 2 pickV (.slice a5 n5 c5) l5) :
    Calls Try.prog 5 #[.agg #[.slice (sa 0) (sn 0) (sc 0), .slice (sa 1) (sn 1) (sc 1), .slice (sa 2) (sn 2) (sc 2), .slice (sa 3) (sn 3) (sc 3), .int .i64 (ks 0), .int .i64 (ks 1), .int .i64 (ks 2), .int .i64 (ks 3)], .int .u64 seed, .int .i64 x, .int .i64 wk, .slice a4 n4 c4, .slice a5 n5 c5] w fun e w' => e = .returned (.bool true) ∧ Below w.heap.size w w' := by
  have hn := World.alloc_heap_new w (.cells #[.slice (sa 0) (sn 0) (sc 0), .slice (sa 1) (sn 1) (sc 1), .slice (sa 2) (sn 2) (sc 2), .slice (sa 3) (sn 3) (sc 3), .int .i64 (ks 0), .int .i64 (ks 1), .int .i64 (ks 2), .int .i64 (ks 3)] 26)
  have hb := (Below.refl _ w).alloc (Nat.le_refl _) (.cells #[.slice (sa 0) (sn 0) (sc 0), .slice (sa 1) (sn 1) (sc 1), .slice (sa 2) (sn 2) (sc 2), .slice (sa 3) (sn 3) (sc 3), .int .i64 (ks 0), .int .i64 (ks 1), .int .i64 (ks 2), .int .i64 (ks 3)] 26)
  obtain ⟨q0, q1, q2, q3, q4, q5, q6, q7⟩ := box8 hn
  have HB := hide hb
  have HM := hide (fun W (hb : Below w.heap.size w W) => made_calls sa sn sc ks ls S W hw hk (hR.below hb))
  have hz := pickN_lt (c := wk) (n := 8) (by omega)
  have HP1 := hide (fun W => pick_calls wk 8 W hwk (by omega) (by omega))
  obtain ⟨z, hze⟩ : ∃ z, pickN wk 8 = z := ⟨_, rfl⟩
  rw [hze] at HP1 hz
  have hz2 := pickN_lt (c := 1 + z) (n := 8) (by omega)
  have HP2 := hide (fun W => pick_calls (1 + z) 8 W (by unfold i64; omega) (by omega) (by omega))
  obtain ⟨y, hye⟩ : ∃ y, pickN (1 + z) 8 = y := ⟨_, rfl⟩
  rw [hye] at HP2 hz2
  have HSE := hide (fun B pb W hP => plSerial ls ks B pb seed x W hw hs hx hP)
  have HR1 := hide (fun B pb sv W hP hS => plRun ls ks B pb seed x (1 + z) (l4.take 4000) S4 sv W hw (by omega) (by omega) take_len (take_pick h4) hP hS)
  have HR2 := hide (fun B pb sv W hP hS => plRun ls ks B pb seed x (1 + y) (l5.take 4000) S5 sv W hw (by omega) (by omega) take_len (take_pick h5) hP hS)
  have R4 := hide r4
  have R5 := hide r5
  clear hw hk hR hs hx hwk h4 h5 r4 r5 hn hb hze hye
  go_enter Try.func5, Try.ntmps5
  go_wp2_with (first
    | (go_at_call 10; refine (HM.out _ HB.out).mono ?_; rintro e w1 ⟨pb, rfl, hP1, hb1⟩)
    | (go_at_call_of 16 wk; refine (HP1.out _).mono ?_; rintro e w' ⟨rfl, rfl⟩)
    | (go_at_call 16; refine (HP2.out _).mono ?_; rintro e w' ⟨rfl, rfl⟩)
    | (go_at_call 12
       refine (HSE.out _ _ _ hP1).mono ?_
       rintro e w2 ⟨la, lc, ta, tc, rfl, hV2, hT2, hb2⟩
       have hbA := Below.up HB.out hb1 HB.out.size
       have hbB := Below.up hbA hb2 hbA.size
       have hP2 := PlP.below hP1 hb2)
    | (go_at_call_of 18 a4; refine (short_calls l4 S4 _ _ _ _ (R4.out.below (Below.up hbB (new_below _ _) hbB.size) (fun x _ => pick_ne x))).mono ?_; rintro e w' ⟨⟨m4, rfl, s4⟩, rfl⟩)
    | (go_at_call_of 17 a4
       refine (HR1.out _ _ _ _ (hP2.below (new_below _ _)) s4).mono ?_
       rintro e w3 ⟨N3, la3, lc3, ta3, tc3, hN3, rfl, hV3, hT3, hb3⟩
       have hbC := Below.up (Below.up hbB (new_below _ _) hbB.size) hb3 (Nat.le_trans hbB.size (new_below _ _).size)
       have hP3 := (hP2.below (new_below _ _)).below hb3)
    | (go_at_call_of 18 a5; refine (short_calls l5 S5 _ _ _ _ (R5.out.below (Below.up hbC (new_below _ _) hbC.size) (fun x _ => pick_ne x))).mono ?_; rintro e w' ⟨⟨m5, rfl, s5⟩, rfl⟩)
    | (go_at_call_of 17 a5
       refine (HR2.out _ _ _ _ (hP3.below (new_below _ _)) s5).mono ?_
       rintro e w4 ⟨N4, la4, lc4, ta4, tc4, hN4, rfl, hV4, hT4, hb4⟩
       have hbD := Below.up (Below.up hbC (new_below _ _) hbC.size) hb4 (Nat.le_trans hbC.size (new_below _ _).size)
       have o3 := obj_keep hb4
       have o2 := (hb4.block _ (by simp; have := hb3.size; simp at this; omega)).trans ((Below.heap_alloc _ _ _ (by have := hb3.size; simp at this; omega)).trans (obj_keep hb3))
       have d2 := cell_new (i := 0) o2 rfl
       have d3 := cell_new (i := 0) o3 rfl
       have V2 := hide (((hV2.below (new_below _ _)).below hb3).below (new_below _ _)|>.below hb4)
       have V3 := hide ((hV3.below (new_below _ _)).below hb4)
       have V4 := hide hV4
       have HBD := hide hbD
       have O2 := hide o2
       clear hV2 hV3 hV4 hT2 hT3 hT4 hN3 hN4 hb1 hb2 hb3 hb4 hbA hbB hbC hbD hP1 hP2 hP3 o2 o3)
    | (go_at_call_of 19 la3
       refine (same_calls 4 _ _ _ _ (V3.out.below (new_below _ _)) (V2.out.below (new_below _ _))).mono ?_
       rintro e w5 ⟨rfl, hb5⟩
       have x4 := obj_keep hb5
       have x2 := (hb5.block _ (by have := (Array.getElem?_eq_some_iff.1 O2.out).1; simp; omega)).trans ((Below.heap_alloc _ _ _ (Array.getElem?_eq_some_iff.1 O2.out).1).trans O2.out)
       have g2 := cell_blk (i := 0) x2 rfl
       have g4 := cell_blk (i := 0) x4 rfl
       have W2 := hide ((V2.out.below (new_below _ _)).below hb5)
       have W4 := hide ((V4.out.below (new_below _ _)).below hb5)
       have HBE := hide (Below.up (Below.up HBD.out (new_below _ _) HBD.out.size) hb5 (Nat.le_trans HBD.out.size (new_below _ _).size))
       clear x2 x4 hb5)
    | (go_at_call_of 19 la4
       refine (same_calls 4 _ _ _ _ W4.out W2.out).mono ?_
       rintro e w6 ⟨rfl, hb6⟩))
  go_ret
  exact ⟨rfl, Below.up HBE.out hb6 HBE.out.size⟩
end Go.Proofs.Ytkmakliebhnhbaa
