import Derived.Test.YtkmakliebhnhbaaGreatItV
import Derived.Test.YtkmakliebhnhbaaGreatSerRef
import Derived.Test.YtkmakliebhnhbaaGreatMk
import Derived.Test.YtkmakliebhnhbaaGreatMsr
namespace Go.Proofs.YtkmakliebhnhbaaGreat
open Go.RowKit Go.Shelf
set_option maxHeartbeats 2000000 in
theorem isKind_calls (k : Int) (w : World) : Calls Tryz.prog 66 #[.int .i64 k] w fun e w'=>e = .returned (.bool (decide (1 ≤ k) && decide (k ≤ 5))) ∧ w' = w:=by
 by_cases h : 1 ≤ k ∧ k ≤ 5
 ·have H : Hid ((decide (1 ≤ k) && decide (k ≤ 5)) = true):=by unfold Hid;simp [h.1,h.2]
  rw [H.out]
  obtain rfl | rfl | rfl | rfl | rfl : k = 1 ∨ k = 2 ∨ k = 3 ∨ k = 4 ∨ k = 5:=by omega
  all_goals
   clear h
   go_enter Tryz.func66,Tryz.ntmps66
   go_wp2
   go_ret
   exact ⟨rfl,rfl⟩
 ·have H : Hid ((decide (1 ≤ k) && decide (k ≤ 5)) = false):=by unfold Hid;simp;omega
  rw [H.out]
  have b1 : (k == 1) = false:=by simp;omega
  have b2 : (k == 2) = false:=by simp;omega
  have b3 : (k == 3) = false:=by simp;omega
  have b4 : (k == 4) = false:=by simp;omega
  have b5 : (k == 5) = false:=by simp;omega
  clear h
  go_enter Tryz.func66,Tryz.ntmps66
  go_wp2
  go_ret
  exact ⟨rfl,rfl⟩
def badRed (reds : List Int) : Int × Bool:=if 4 < reds.length then (0,true) else match firstBad (badR reds) reds.length with
 | some r=>((r : Int),true)
 | none=>(0,false)
set_option maxHeartbeats 2000000 in
theorem badReducer_calls (reds : List Int) (S : Nat → Prop) (vr : Value) (w : World) (hR : RdL S w 1 int64s vr reds) :
  Calls Tryz.prog 45 #[vr] w fun e w'=>e = .returned (.tuple #[.int .i64 (badRed reds).1,.bool (badRed reds).2]) ∧ w' = w:=by
 have HR:=hide hR
 obtain ⟨ra,rcap,rfl,hrc,hrm⟩:=hR.form
 unfold maxLen at hrm
 obtain ⟨nr,hNR⟩ : ∃ nr,reds.length = nr:=⟨_,rfl⟩
 rw [hNR] at hrc ⊢
 have HNR:=hide hNR
 clear hNR hR
 by_cases h2 : 4 < nr
 ·have HC : Hid (badRed reds = (0,true)):=by unfold Hid badRed;rw [if_pos (by rw [HNR.out];exact h2)]
  have h2' : (4 : Int) < nr:=by omega
  go_enter Tryz.func45,Tryz.ntmps45
  go_wp2
  go_ret2
  rw [HC.out]
  exact ⟨rfl,rfl⟩
 have a3 : (nr : Int) ≤ 4:=by omega
 have H2 : Hid (¬ 4 < reds.length):=by unfold Hid;rw [HNR.out];exact h2
 clear h2
 go_enter Tryz.func45,Tryz.ntmps45
 go_wp2
 go_loop [11] (fun i=>∃ k : Nat,k ≤ nr ∧ i = .int .i64 k ∧ Hid (∀ j,j < k → badR reds j = false)) (fun i=>nr - (intOf i).toNat)
 case atStart=>exact ⟨0,Nat.zero_le _,rfl,fun j hj=>by omega⟩
 case round =>
  obtain ⟨k,hk,rfl,hb⟩:=hrel
  by_cases hlt : k < nr
  ·have hlti : (k : Int) < nr:=by omega
   obtain ⟨q,hqk⟩ : ∃ q,reds[k]? = some q:=⟨reds[k]'(by have:=HNR.out;omega),by simp⟩
   obtain ⟨b,off,rfl,_,hce⟩:=HR.out.at hqk
   have c0:=hce 0 _ rfl
   simp only [Nat.mul_one,Nat.add_zero] at c0
   have HQ:=hide hqk
   clear hce hqk
   by_cases hbad : 1 ≤ q ∧ q ≤ 5
   ·have H : Hid ((decide (1 ≤ q) && decide (q ≤ 5)) = true):=by unfold Hid;simp [hbad.1,hbad.2]
    have HB:=hide hbad
    clear hbad
    go_wp2_with (go_at_call 66;refine (isKind_calls _ _).mono ?_;rintro e w' ⟨rfl,rfl⟩;rw [H.out])
    go_round
    case rel =>
     refine ⟨k + 1,by omega,by go_num,fun j hj=>?_⟩
     by_cases e : j = k
     ·subst e;unfold badR;rw [HQ.out];simpa using H.out
     ·exact hb.out j (by omega)
    case measure=>simp [intOf];omega
   ·have H : Hid ((decide (1 ≤ q) && decide (q ≤ 5)) = false):=by unfold Hid;simp;omega
    clear hbad
    have HC : Hid (badRed reds = ((k : Int),true)):=by
     unfold Hid badRed
     rw [if_neg H2.out,firstBad_some hb.out (by have:=H.out;unfold badR;rw [HQ.out];simp at this ⊢;omega) (by have:=HNR.out;omega)]
    go_wp2_with (go_at_call 66;refine (isKind_calls _ _).mono ?_;rintro e w' ⟨rfl,rfl⟩;rw [H.out])
    go_ret2
    rw [HC.out]
    exact ⟨rfl,rfl⟩
  ·obtain rfl : nr = k:=by omega
   have HC : Hid (badRed reds = (0,false)):=by
    unfold Hid badRed
    rw [if_neg H2.out,firstBad_none (p:=badR reds) (n:=reds.length) (by rw [HNR.out];exact hb.out)]
   clear hb
   go_wp2
   go_ret2
   rw [HC.out]
   exact ⟨rfl,rfl⟩
set_option maxHeartbeats 4000000 in
theorem mayBe_1 (F R K L : Int) (f : Int) (nf nr : Nat) (w : World) :
  Calls Tryz.prog 68 #[.agg #[.int .i64 1,.int .i64 F,.int .i64 R,.int .i64 K,.int .i64 L],.int .i64 f,.int .i64 nf,.int .i64 nr] w fun e w'=>e = .returned (.bool (mayB nf nr f ⟨1,F,R,K,L⟩)) ∧ Below w.heap.size w w':=by
 by_cases q0 : 0 ≤ R
 ·have q0' : decide (0 ≤ R) = true:=by simpa using q0
  by_cases q1 : R < (nr : Int)
  ·have q1' : decide (R < (nr : Int)) = true:=by simpa using q1
   by_cases q2 : F = 0
   ·have q2' : (F == 0) = true:=by simpa using q2
    have H : Hid (mayB nf nr f ⟨1,F,R,K,L⟩ = true):=by unfold Hid;simp [mayB,q0,q1,q2]
    go_enter Tryz.func68,Tryz.ntmps68
    go_wp2
    all_goals
     (try subst q2)
     (try subst q4)
     (try subst q7)
     (try subst q8)
     go_ret
     exact ⟨by rw [H.out];rfl,(by repeat (first | exact Below.refl _ _ | refine Below.drew ?_ | refine below_drewN ?_ _ | refine Below.alloc ?_ (Nat.le_refl _) _))⟩
   ·have q2' : (F == 0) = false:=by simpa using q2
    have H : Hid (mayB nf nr f ⟨1,F,R,K,L⟩ = false):=by unfold Hid;simp [mayB,q2]
    go_enter Tryz.func68,Tryz.ntmps68
    go_wp2
    all_goals
     (try subst q2)
     (try subst q4)
     (try subst q7)
     (try subst q8)
     go_ret
     exact ⟨by rw [H.out];rfl,(by repeat (first | exact Below.refl _ _ | refine Below.drew ?_ | refine below_drewN ?_ _ | refine Below.alloc ?_ (Nat.le_refl _) _))⟩
  ·have q1' : decide (R < (nr : Int)) = false:=by simpa using q1
   have H : Hid (mayB nf nr f ⟨1,F,R,K,L⟩ = false):=by unfold Hid;simp [mayB,q1]
   go_enter Tryz.func68,Tryz.ntmps68
   go_wp2
   all_goals
    (try subst q2)
    (try subst q4)
    (try subst q7)
    (try subst q8)
    go_ret
    exact ⟨by rw [H.out];rfl,(by repeat (first | exact Below.refl _ _ | refine Below.drew ?_ | refine below_drewN ?_ _ | refine Below.alloc ?_ (Nat.le_refl _) _))⟩
 ·have q0' : decide (0 ≤ R) = false:=by simpa using q0
  have H : Hid (mayB nf nr f ⟨1,F,R,K,L⟩ = false):=by unfold Hid;simp [mayB,q0]
  go_enter Tryz.func68,Tryz.ntmps68
  go_wp2
  all_goals
   (try subst q2)
   (try subst q4)
   (try subst q7)
   (try subst q8)
   go_ret
   exact ⟨by rw [H.out];rfl,(by repeat (first | exact Below.refl _ _ | refine Below.drew ?_ | refine below_drewN ?_ _ | refine Below.alloc ?_ (Nat.le_refl _) _))⟩
set_option maxHeartbeats 4000000 in
theorem mayBe_2 (F R K L : Int) (f : Int) (nf nr : Nat) (w : World) :
  Calls Tryz.prog 68 #[.agg #[.int .i64 2,.int .i64 F,.int .i64 R,.int .i64 K,.int .i64 L],.int .i64 f,.int .i64 nf,.int .i64 nr] w fun e w'=>e = .returned (.bool (mayB nf nr f ⟨2,F,R,K,L⟩)) ∧ Below w.heap.size w w':=by
 by_cases q0 : 0 ≤ R
 ·have q0' : decide (0 ≤ R) = true:=by simpa using q0
  by_cases q1 : R < (nr : Int)
  ·have q1' : decide (R < (nr : Int)) = true:=by simpa using q1
   by_cases q2 : F = 0
   ·have q2' : (F == 0) = true:=by simpa using q2
    by_cases q3 : 1 ≤ K
    ·have q3' : decide (1 ≤ K) = true:=by simpa using q3
     have q3n : 0 < K:=by omega
     by_cases q4 : L = 0
     ·have q4' : (L == 0) = true:=by simpa using q4
      have H : Hid (mayB nf nr f ⟨2,F,R,K,L⟩ = true):=by unfold Hid;simp [mayB,q0,q1,q2,q3n,q4]
      go_enter Tryz.func68,Tryz.ntmps68
      go_wp2
      all_goals
       (try subst q2)
       (try subst q4)
       (try subst q7)
       (try subst q8)
       go_ret
       exact ⟨by rw [H.out];rfl,(by repeat (first | exact Below.refl _ _ | refine Below.drew ?_ | refine below_drewN ?_ _ | refine Below.alloc ?_ (Nat.le_refl _) _))⟩
     ·have q4' : (L == 0) = false:=by simpa using q4
      have H : Hid (mayB nf nr f ⟨2,F,R,K,L⟩ = false):=by unfold Hid;simp [mayB,q4]
      go_enter Tryz.func68,Tryz.ntmps68
      go_wp2
      all_goals
       (try subst q2)
       (try subst q4)
       (try subst q7)
       (try subst q8)
       go_ret
       exact ⟨by rw [H.out];rfl,(by repeat (first | exact Below.refl _ _ | refine Below.drew ?_ | refine below_drewN ?_ _ | refine Below.alloc ?_ (Nat.le_refl _) _))⟩
    ·have q3' : decide (1 ≤ K) = false:=by simpa using q3
     have q3n : ¬ 0 < K:=by omega
     have H : Hid (mayB nf nr f ⟨2,F,R,K,L⟩ = false):=by unfold Hid;simp [mayB,q3n]
     go_enter Tryz.func68,Tryz.ntmps68
     go_wp2
     all_goals
      (try subst q2)
      (try subst q4)
      (try subst q7)
      (try subst q8)
      go_ret
      exact ⟨by rw [H.out];rfl,(by repeat (first | exact Below.refl _ _ | refine Below.drew ?_ | refine below_drewN ?_ _ | refine Below.alloc ?_ (Nat.le_refl _) _))⟩
   ·have q2' : (F == 0) = false:=by simpa using q2
    have H : Hid (mayB nf nr f ⟨2,F,R,K,L⟩ = false):=by unfold Hid;simp [mayB,q2]
    go_enter Tryz.func68,Tryz.ntmps68
    go_wp2
    all_goals
     (try subst q2)
     (try subst q4)
     (try subst q7)
     (try subst q8)
     go_ret
     exact ⟨by rw [H.out];rfl,(by repeat (first | exact Below.refl _ _ | refine Below.drew ?_ | refine below_drewN ?_ _ | refine Below.alloc ?_ (Nat.le_refl _) _))⟩
  ·have q1' : decide (R < (nr : Int)) = false:=by simpa using q1
   have H : Hid (mayB nf nr f ⟨2,F,R,K,L⟩ = false):=by unfold Hid;simp [mayB,q1]
   go_enter Tryz.func68,Tryz.ntmps68
   go_wp2
   all_goals
    (try subst q2)
    (try subst q4)
    (try subst q7)
    (try subst q8)
    go_ret
    exact ⟨by rw [H.out];rfl,(by repeat (first | exact Below.refl _ _ | refine Below.drew ?_ | refine below_drewN ?_ _ | refine Below.alloc ?_ (Nat.le_refl _) _))⟩
 ·have q0' : decide (0 ≤ R) = false:=by simpa using q0
  have H : Hid (mayB nf nr f ⟨2,F,R,K,L⟩ = false):=by unfold Hid;simp [mayB,q0]
  go_enter Tryz.func68,Tryz.ntmps68
  go_wp2
  all_goals
   (try subst q2)
   (try subst q4)
   (try subst q7)
   (try subst q8)
   go_ret
   exact ⟨by rw [H.out];rfl,(by repeat (first | exact Below.refl _ _ | refine Below.drew ?_ | refine below_drewN ?_ _ | refine Below.alloc ?_ (Nat.le_refl _) _))⟩
set_option maxHeartbeats 4000000 in
theorem mayBe_3 (F R K L : Int) (f : Int) (nf nr : Nat) (w : World) :
  Calls Tryz.prog 68 #[.agg #[.int .i64 3,.int .i64 F,.int .i64 R,.int .i64 K,.int .i64 L],.int .i64 f,.int .i64 nf,.int .i64 nr] w fun e w'=>e = .returned (.bool (mayB nf nr f ⟨3,F,R,K,L⟩)) ∧ Below w.heap.size w w':=by
 by_cases q5 : f < F
 ·have q5' : decide (f < F) = true:=by simpa using q5
  by_cases q6 : F < (nf : Int)
  ·have q6' : decide (F < (nf : Int)) = true:=by simpa using q6
   by_cases q2 : R = 0
   ·have q2' : (R == 0) = true:=by simpa using q2
    have H : Hid (mayB nf nr f ⟨3,F,R,K,L⟩ = true):=by unfold Hid;simp [mayB,q5,q6,q2]
    go_enter Tryz.func68,Tryz.ntmps68
    go_wp2
    all_goals
     (try subst q2)
     (try subst q4)
     (try subst q7)
     (try subst q8)
     go_ret
     exact ⟨by rw [H.out];rfl,(by repeat (first | exact Below.refl _ _ | refine Below.drew ?_ | refine below_drewN ?_ _ | refine Below.alloc ?_ (Nat.le_refl _) _))⟩
   ·have q2' : (R == 0) = false:=by simpa using q2
    have H : Hid (mayB nf nr f ⟨3,F,R,K,L⟩ = false):=by unfold Hid;simp [mayB,q2]
    go_enter Tryz.func68,Tryz.ntmps68
    go_wp2
    all_goals
     (try subst q2)
     (try subst q4)
     (try subst q7)
     (try subst q8)
     go_ret
     exact ⟨by rw [H.out];rfl,(by repeat (first | exact Below.refl _ _ | refine Below.drew ?_ | refine below_drewN ?_ _ | refine Below.alloc ?_ (Nat.le_refl _) _))⟩
  ·have q6' : decide (F < (nf : Int)) = false:=by simpa using q6
   have H : Hid (mayB nf nr f ⟨3,F,R,K,L⟩ = false):=by unfold Hid;simp [mayB,q6]
   go_enter Tryz.func68,Tryz.ntmps68
   go_wp2
   all_goals
    (try subst q2)
    (try subst q4)
    (try subst q7)
    (try subst q8)
    go_ret
    exact ⟨by rw [H.out];rfl,(by repeat (first | exact Below.refl _ _ | refine Below.drew ?_ | refine below_drewN ?_ _ | refine Below.alloc ?_ (Nat.le_refl _) _))⟩
 ·have q5' : decide (f < F) = false:=by simpa using q5
  have H : Hid (mayB nf nr f ⟨3,F,R,K,L⟩ = false):=by unfold Hid;simp [mayB,q5]
  go_enter Tryz.func68,Tryz.ntmps68
  go_wp2
  all_goals
   (try subst q2)
   (try subst q4)
   (try subst q7)
   (try subst q8)
   go_ret
   exact ⟨by rw [H.out];rfl,(by repeat (first | exact Below.refl _ _ | refine Below.drew ?_ | refine below_drewN ?_ _ | refine Below.alloc ?_ (Nat.le_refl _) _))⟩
set_option maxHeartbeats 4000000 in
theorem mayBe_4 (F R K L : Int) (f : Int) (nf nr : Nat) (w : World) :
  Calls Tryz.prog 68 #[.agg #[.int .i64 4,.int .i64 F,.int .i64 R,.int .i64 K,.int .i64 L],.int .i64 f,.int .i64 nf,.int .i64 nr] w fun e w'=>e = .returned (.bool (mayB nf nr f ⟨4,F,R,K,L⟩)) ∧ Below w.heap.size w w':=by
 by_cases q5 : f < F
 ·have q5' : decide (f < F) = true:=by simpa using q5
  by_cases q6 : F < (nf : Int)
  ·have q6' : decide (F < (nf : Int)) = true:=by simpa using q6
   by_cases q2 : R = 0
   ·have q2' : (R == 0) = true:=by simpa using q2
    have H : Hid (mayB nf nr f ⟨4,F,R,K,L⟩ = true):=by unfold Hid;simp [mayB,q5,q6,q2]
    go_enter Tryz.func68,Tryz.ntmps68
    go_wp2
    all_goals
     (try subst q2)
     (try subst q4)
     (try subst q7)
     (try subst q8)
     go_ret
     exact ⟨by rw [H.out];rfl,(by repeat (first | exact Below.refl _ _ | refine Below.drew ?_ | refine below_drewN ?_ _ | refine Below.alloc ?_ (Nat.le_refl _) _))⟩
   ·have q2' : (R == 0) = false:=by simpa using q2
    have H : Hid (mayB nf nr f ⟨4,F,R,K,L⟩ = false):=by unfold Hid;simp [mayB,q2]
    go_enter Tryz.func68,Tryz.ntmps68
    go_wp2
    all_goals
     (try subst q2)
     (try subst q4)
     (try subst q7)
     (try subst q8)
     go_ret
     exact ⟨by rw [H.out];rfl,(by repeat (first | exact Below.refl _ _ | refine Below.drew ?_ | refine below_drewN ?_ _ | refine Below.alloc ?_ (Nat.le_refl _) _))⟩
  ·have q6' : decide (F < (nf : Int)) = false:=by simpa using q6
   have H : Hid (mayB nf nr f ⟨4,F,R,K,L⟩ = false):=by unfold Hid;simp [mayB,q6]
   go_enter Tryz.func68,Tryz.ntmps68
   go_wp2
   all_goals
    (try subst q2)
    (try subst q4)
    (try subst q7)
    (try subst q8)
    go_ret
    exact ⟨by rw [H.out];rfl,(by repeat (first | exact Below.refl _ _ | refine Below.drew ?_ | refine below_drewN ?_ _ | refine Below.alloc ?_ (Nat.le_refl _) _))⟩
 ·have q5' : decide (f < F) = false:=by simpa using q5
  have H : Hid (mayB nf nr f ⟨4,F,R,K,L⟩ = false):=by unfold Hid;simp [mayB,q5]
  go_enter Tryz.func68,Tryz.ntmps68
  go_wp2
  all_goals
   (try subst q2)
   (try subst q4)
   (try subst q7)
   (try subst q8)
   go_ret
   exact ⟨by rw [H.out];rfl,(by repeat (first | exact Below.refl _ _ | refine Below.drew ?_ | refine below_drewN ?_ _ | refine Below.alloc ?_ (Nat.le_refl _) _))⟩
set_option maxHeartbeats 4000000 in
theorem mayBe_5 (F R K L : Int) (f : Int) (nf nr : Nat) (w : World) :
  Calls Tryz.prog 68 #[.agg #[.int .i64 5,.int .i64 F,.int .i64 R,.int .i64 K,.int .i64 L],.int .i64 f,.int .i64 nf,.int .i64 nr] w fun e w'=>e = .returned (.bool (mayB nf nr f ⟨5,F,R,K,L⟩)) ∧ Below w.heap.size w w':=by
 by_cases q2 : F = 0
 ·have q2' : (F == 0) = true:=by simpa using q2
  by_cases q4 : R = 0
  ·have q4' : (R == 0) = true:=by simpa using q4
   by_cases q7 : K = 0
   ·have q7' : (K == 0) = true:=by simpa using q7
    by_cases q8 : L = 0
    ·have q8' : (L == 0) = true:=by simpa using q8
     have H : Hid (mayB nf nr f ⟨5,F,R,K,L⟩ = true):=by unfold Hid;simp [mayB,q2,q4,q7,q8]
     go_enter Tryz.func68,Tryz.ntmps68
     go_wp2
     all_goals
      (try subst q2)
      (try subst q4)
      (try subst q7)
      (try subst q8)
      go_ret
      exact ⟨by rw [H.out];rfl,(by repeat (first | exact Below.refl _ _ | refine Below.drew ?_ | refine below_drewN ?_ _ | refine Below.alloc ?_ (Nat.le_refl _) _))⟩
    ·have q8' : (L == 0) = false:=by simpa using q8
     have H : Hid (mayB nf nr f ⟨5,F,R,K,L⟩ = false):=by unfold Hid;simp [mayB,q8]
     go_enter Tryz.func68,Tryz.ntmps68
     go_wp2
     all_goals
      (try subst q2)
      (try subst q4)
      (try subst q7)
      (try subst q8)
      go_ret
      exact ⟨by rw [H.out];rfl,(by repeat (first | exact Below.refl _ _ | refine Below.drew ?_ | refine below_drewN ?_ _ | refine Below.alloc ?_ (Nat.le_refl _) _))⟩
   ·have q7' : (K == 0) = false:=by simpa using q7
    have H : Hid (mayB nf nr f ⟨5,F,R,K,L⟩ = false):=by unfold Hid;simp [mayB,q7]
    go_enter Tryz.func68,Tryz.ntmps68
    go_wp2
    all_goals
     (try subst q2)
     (try subst q4)
     (try subst q7)
     (try subst q8)
     go_ret
     exact ⟨by rw [H.out];rfl,(by repeat (first | exact Below.refl _ _ | refine Below.drew ?_ | refine below_drewN ?_ _ | refine Below.alloc ?_ (Nat.le_refl _) _))⟩
  ·have q4' : (R == 0) = false:=by simpa using q4
   have H : Hid (mayB nf nr f ⟨5,F,R,K,L⟩ = false):=by unfold Hid;simp [mayB,q4]
   go_enter Tryz.func68,Tryz.ntmps68
   go_wp2
   all_goals
    (try subst q2)
    (try subst q4)
    (try subst q7)
    (try subst q8)
    go_ret
    exact ⟨by rw [H.out];rfl,(by repeat (first | exact Below.refl _ _ | refine Below.drew ?_ | refine below_drewN ?_ _ | refine Below.alloc ?_ (Nat.le_refl _) _))⟩
 ·have q2' : (F == 0) = false:=by simpa using q2
  have H : Hid (mayB nf nr f ⟨5,F,R,K,L⟩ = false):=by unfold Hid;simp [mayB,q2]
  go_enter Tryz.func68,Tryz.ntmps68
  go_wp2
  all_goals
   (try subst q2)
   (try subst q4)
   (try subst q7)
   (try subst q8)
   go_ret
   exact ⟨by rw [H.out];rfl,(by repeat (first | exact Below.refl _ _ | refine Below.drew ?_ | refine below_drewN ?_ _ | refine Below.alloc ?_ (Nat.le_refl _) _))⟩
set_option maxHeartbeats 4000000 in
theorem mayBe_0 (op F R K L : Int) (f : Int) (nf nr : Nat) (w : World) (h : op < 1 ∨ 5 < op) :
  Calls Tryz.prog 68 #[.agg #[.int .i64 op,.int .i64 F,.int .i64 R,.int .i64 K,.int .i64 L],.int .i64 f,.int .i64 nf,.int .i64 nr] w fun e w'=>e = .returned (.bool (mayB nf nr f ⟨op,F,R,K,L⟩)) ∧ Below w.heap.size w w':=by
 have H : Hid (mayB nf nr f ⟨op,F,R,K,L⟩ = false):=by
  unfold Hid mayB
  rw [if_neg (by simp only;omega),if_neg (by simp only;omega),if_neg (by simp only;omega),if_neg (by simp only;omega)]
 have b1 : (op == 1) = false:=by simp;omega
 have b2 : (op == 2) = false:=by simp;omega
 have b3 : (op == 3) = false:=by simp;omega
 have b4 : (op == 4) = false:=by simp;omega
 have b5 : (op == 5) = false:=by simp;omega
 clear h
 go_enter Tryz.func68,Tryz.ntmps68
 go_wp2
 all_goals
  go_ret
  exact ⟨by rw [H.out];rfl,(by repeat (first | exact Below.refl _ _ | refine Below.drew ?_ | refine below_drewN ?_ _ | refine Below.alloc ?_ (Nat.le_refl _) _))⟩
theorem mayBe_calls (i : Ins) (f : Int) (nf nr : Nat) (w : World) :
  Calls Tryz.prog 68 #[i.agg,.int .i64 f,.int .i64 nf,.int .i64 nr] w fun e w'=>e = .returned (.bool (mayB nf nr f i)) ∧ Below w.heap.size w w':=by
 obtain ⟨op,F,R,K,L⟩:=i
 by_cases h : op < 1 ∨ 5 < op
 ·exact mayBe_0 op F R K L f nf nr w h
 ·obtain rfl | rfl | rfl | rfl | rfl : op = 1 ∨ op = 2 ∨ op = 3 ∨ op = 4 ∨ op = 5:=by omega
  ·exact mayBe_1 F R K L f nf nr w
  ·exact mayBe_2 F R K L f nf nr w
  ·exact mayBe_3 F R K L f nf nr w
  ·exact mayBe_4 F R K L f nf nr w
  ·exact mayBe_5 F R K L f nf nr w
end Go.Proofs.YtkmakliebhnhbaaGreat
namespace Go.Proofs.YtkmakliebhnhbaaGreat
open Go.RowKit Go.Shelf
attribute [local go_sem] Oper.semAt_some
def badFun (fs : List (List Ins)) (nr : Nat) : Int × Bool:=match firstBad (badF fs nr) fs.length with
 | some f=>((f : Int),true)
 | none=>(0,false)
set_option maxRecDepth 100000 in
set_option maxHeartbeats 4000000 in
theorem badFunction_calls (fs : List (List Ins)) (nr : Nat) (S : Nat → Prop) (vf : Value) (w : World) (hw : ∀ l ∈ fs,∀ i ∈ l,i.wf) (hlen : fs.length ≤ 8) (hF : RdF S w vf fs) :
  Calls Tryz.prog 46 #[vf,.int .i64 nr] w fun e w'=>e = .returned (.tuple #[.int .i64 (badFun fs nr).1,.bool (badFun fs nr).2]) ∧ Below w.heap.size w w':=by
 obtain ⟨m,hm1⟩ : ∃ m : Nat,5 ≤ m:=⟨5,Nat.le_refl _⟩
 refine (callsIn_wide (n:=m)).1 ?_
 have HF:=hide hF
 obtain ⟨us,hul,hu,hfs⟩:=hF
 obtain ⟨a,cap,rfl,hc,hm⟩:=hu.form
 unfold maxLen at hm
 obtain ⟨n,hN⟩ : ∃ n,fs.length = n:=⟨_,rfl⟩
 rw [hul,hN] at hc ⊢
 rw [hN] at hlen
 have HN:=hide hN
 have HU : Hid (us.length = n):=hul.trans hN
 have Hfs:=hide hfs
 have Hu:=hide hu
 have Hw:=hide hw
 clear hN hul hfs hu hw
 refine callsIn_of_wp_marks Tryz.func46 rfl trivial ?_ rfl
 simp only [Tryz.ntmps46,List.size_toArray,List.length_cons,List.length_nil,Nat.reduceAdd,Nat.reduceSub,Array.replicate_succ,Array.replicate_zero,List.push_toArray,List.append_toArray,List.nil_append,List.cons_append]
 gi_wp2
 refine wpIn_loop (fun a' wr=>∃ (f : Nat) (ds : List Nat) (u6 u7 u8 u12 u13 u14 u15 u16 u17 u18 u19 u20 u21 u22 u23 u24 u25 u26 u27 u28 u29 u30 u31 : Value),f ≤ n ∧ Hid (∀ j,j < f → badF fs nr j = false) ∧ Marks (w.heap.size + 4) wr ds ∧ Boxed wr w.heap.size 29 (.slice a n cap) ∧ Boxed wr (w.heap.size + 1) 3 (.int .i64 nr) ∧ Boxed wr (w.heap.size + 1 + 1) 3 (.int .i64 0) ∧ Boxed wr (w.heap.size + 1 + 1 + 1) 4 (.bool false) ∧ Below w.heap.size w wr ∧
   a' = { tmps:=#[.slice a n cap,.int .i64 nr,.pointer (some ⟨w.heap.size,0,none⟩),.pointer (some ⟨w.heap.size + 1,0,none⟩),.pointer (some ⟨w.heap.size + 1 + 1,0,none⟩),.pointer (some ⟨w.heap.size + 1 + 1 + 1,0,none⟩),u6,u7,u8,.slice a n cap,.int .i64 n,.int .i64 f,u12,u13,u14,u15,u16,u17,u18,u19,u20,u21,u22,u23,u24,u25,u26,u27,u28,u29,u30,u31],defers:=ds.map mark }) (fun a' _=>n - (intOf (a'.tmps.getD 11 undef)).toNat) ?_ ?_
 ·refine ⟨0,[],undef,undef,undef,undef,undef,undef,undef,undef,undef,undef,undef,undef,undef,undef,undef,undef,undef,undef,undef,undef,undef,undef,undef,Nat.zero_le _,fun j hj=>by omega,trivial,?_,?_,?_,?_,?_,rfl⟩
  ·exact ((Boxed.new w _ _).alloc _).alloc _ |>.alloc _
  ·have:=Boxed.new (w.alloc (.cells #[.slice a n cap] 29)) 3 (.int .i64 nr)
   rw [World.size_alloc] at this
   exact (this.alloc _).alloc _
  ·have:=Boxed.new ((w.alloc (.cells #[.slice a n cap] 29)).alloc (.cells #[.int .i64 nr] 3)) 3 (.int .i64 0)
   rw [World.size_alloc,World.size_alloc] at this
   exact this.alloc _
  ·have:=Boxed.new (((w.alloc (.cells #[.slice a n cap] 29)).alloc (.cells #[.int .i64 nr] 3)).alloc (.cells #[.int .i64 0] 3)) 4 (.bool false)
   rw [World.size_alloc,World.size_alloc,World.size_alloc] at this
   exact this
  ·exact ((((Below.refl _ w).alloc (Nat.le_refl _) _).alloc (by simp) _).alloc (by simp;omega) _).alloc (by simp;omega) _
 ·rintro a' wr ⟨f,ds,u6,u7,u8,u12,u13,u14,u15,u16,u17,u18,u19,u20,u21,u22,u23,u24,u25,u26,u27,u28,u29,u30,u31,hf,Hg,hM,x0,x1,x2,x3,hB,rfl⟩
  dsimp only
  have y0:=x0.cell
  have y1:=x1.cell
  have y2:=x2.cell
  have y3:=x3.cell
  have z2:=x2.frozen
  have z3:=x3.frozen
  have s0:=x0.lt
  have s1:=x1.lt
  have s2:=x2.lt
  have s3:=x3.lt
  by_cases hlt : f < n
  ·have hlti : (f : Int) < n:=by omega
   obtain ⟨u,hu⟩ : ∃ u,us[f]? = some u:=⟨us[f]'(by have:=HU.out;omega),by simp⟩
   obtain ⟨l,hl⟩ : ∃ l,fs[f]? = some l:=⟨fs[f]'(by have:=HN.out;omega),by simp⟩
   obtain ⟨b,off,rfl,_,hce⟩:=Hu.out.at hu
   have c0:=hce 0 _ rfl
   simp only [Nat.mul_one,Nat.add_zero] at c0
   have hrl:=Hfs.out f u l hu hl
   have hbl:=block_lt_of_cell c0
   simp only at hbl
   have d0:=(hB.cell (p:=⟨b,off + f,none⟩) hbl).trans c0
   have HL:=hide hl
   have HRL:=hide hrl
   obtain ⟨a1,cap1,rfl,hc1,hm1⟩:=hrl.form
   unfold maxLen at hm1
   clear hce c0 hu hl hrl
   by_cases hten : 10 < l.length
   ·have hten' : (10 : Int) < l.length:=by omega
    have HC : Hid (badFun fs nr = ((f : Int),true)):=by
     unfold Hid badFun
     rw [firstBad_some Hg.out (badF_long HL.out hten) (by have:=HN.out;omega)]
    gi_wp2
    refine leaves_marks (B:=w.heap.size + 4) ds _ (((hM.setCell _ (hM.ne x2)).setCell _ (hM.ne x3)).below ((Below.refl _ _).alloc (Nat.le_refl _) _)) (fun W' hT=>?_)
    have k2:=(hT.boxed (((x2.set (.int .i64 f)).other (by omega) _).alloc _)).cell
    have k3:=(hT.boxed (((x3.other (by omega) _).set (.bool true)).alloc _)).cell
    refine ⟨_,?_,rfl,(((hB.setCell (p:=⟨w.heap.size + 1 + 1,0,none⟩) (by simp;omega) _).setCell (p:=⟨w.heap.size + 1 + 1 + 1,0,none⟩) (by simp;omega) _).alloc (by simp;omega) _).trans (hT.below.mono (by omega))⟩
    rw [HC.out]
    simp [results,Tryz.f46,go_sem,k2,k3]
   ·have hten' : (l.length : Int) ≤ 10:=by omega
    gi_wp2_with (refine ⟨trivial,room_none _,?_⟩;gi_at_call 67;refine (callsIn_wide.2 (each_calls _ _ _ _)).mono ?_;rintro e w' ⟨rfl,rfl⟩)
    obtain ⟨W0,hW0⟩ : ∃ W0,(wr.alloc (.cells #[.int .i64 f] 3)).alloc (.cells #[.slice a1 l.length cap1] 46) = W0:=⟨_,rfl⟩
    have hsz : W0.heap.size = wr.heap.size + 2:=by rw [← hW0];simp
    have hb0 : Below wr.heap.size wr W0:=by rw [← hW0];exact ((Below.refl _ wr).alloc (Nat.le_refl _) _).alloc (by simp) _
    have bf : Boxed W0 wr.heap.size 3 (.int .i64 f):=by rw [← hW0];exact (Boxed.new wr _ _).alloc _
    have bs : Boxed W0 (wr.heap.size + 1) 46 (.slice a1 l.length cap1):=by
     have:=Boxed.new (wr.alloc (.cells #[.int .i64 f] 3)) 46 (.slice a1 l.length cap1)
     rw [World.size_alloc,hW0] at this
     exact this
    rw [hW0]
    clear hW0
    have hBw : Below w.heap.size w W0:=hB.trans (hb0.mono (by omega))
    have X0:=boxed_below x0 hb0 s0
    have X1:=boxed_below x1 hb0 s1
    have X2:=boxed_below x2 hb0 s2
    have X3:=boxed_below x3 hb0 s3
    obtain ⟨zs,hzs⟩:=insW_of l (Hw.out l (List.mem_of_getElem? HL.out))
    have hzl : zs.length ≤ 2000000:=by have:=congrArg List.length hzs;rw [List.length_map] at this;omega
    have hrd : RdL (Lt w.heap.size) W0 5 Ins.vals (.slice a1 l.length cap1) (zs.map (·.1)):=by
     rw [hzs];exact HRL.out.turn (fun b hb hlt=>⟨hlt,hBw.block b hlt⟩) (fun x _=>by simp [Ins.vals])
    refine wpIn_rangeFunc_ownH rfl (by omega) (gf:=119) (lb:=#[.pointer (some ⟨wr.heap.size + 1,0,none⟩)]) rfl trivial (enters_of Tryz.func119 (by kernel_rfl) rfl)
     (values_stops (α:=InsW) (fun x=>x.1) (m - 1) (wr.heap.size + 1) w.heap.size _ zs hzl W0 (by omega) (by omega) bs.cell hrd) belowK_t (belowK_b (by omega)) (Below.refl _ _) (fun _=>rfl)
     (fun pre W=>(∀ i ∈ pre,mayB n nr f i.1 = true) ∧ Below W0.heap.size W0 W)
     (fun c pre W=>(c = .ret ∧ ∃ i ∈ pre,mayB n nr f i.1 = false) ∧ (Boxed W (w.heap.size + 1 + 1) 3 (.int .i64 f) ∧ Boxed W (w.heap.size + 1 + 1 + 1) 4 (.bool true)) ∧ Kept2 W0 W (w.heap.size + 1 + 1) (w.heap.size + 1 + 1 + 1) ∧ Below w.heap.size w W)
     (OwnFrom.and (ownFrom_pure _ _) (ownFrom_below (Nat.le_refl _) (Nat.le_refl _)))
     (fun c=>OwnFrom.and (ownFrom_pure _ _) (OwnFrom.and (OwnFrom.and (Own.from (boxed_own _ _ _) _) (Own.from (boxed_own _ _ _) _)) (OwnFrom.and (kept2_own _ _ _) (ownFrom_below (Nat.le_refl _) (by omega)))))
     ⟨by simp,Below.refl _ _⟩
     (fun x a' W=>∃ Bx,W0.heap.size ≤ Bx ∧ Box5 W Bx x.1 ∧ a' = { tmps:=#[.slice (some ⟨b,off,none⟩) n cap,.int .i64 nr,.pointer (some ⟨w.heap.size,0,none⟩),.pointer (some ⟨w.heap.size + 1,0,none⟩),.pointer (some ⟨w.heap.size + 1 + 1,0,none⟩),.pointer (some ⟨w.heap.size + 1 + 1 + 1,0,none⟩),.pointer (some ⟨wr.heap.size,0,none⟩),.slice a1 l.length cap1,.pointer (some ⟨Bx,0,none⟩),.slice (some ⟨b,off,none⟩) n cap,.int .i64 n,.int .i64 f,.bool true,.int .i64 f,.pointer (some ⟨b,off + f,none⟩),.slice a1 l.length cap1,.slice a1 l.length cap1,.int .i64 l.length,.bool (decide ((10 : Int) < l.length)),u19,.slice a1 l.length cap1,.func (.func 119) #[] #[.pointer (some ⟨wr.heap.size + 1,0,none⟩)],x.1.agg,u23,u24,u25,u26,u27,u28,u29,u30,u31],defers:=[] })
     (fun x a' s X Y row hs hg hr=>by
      obtain ⟨Bx,h1,h2,h3⟩:=hs
      exact ⟨Bx,h1,box5_own (β:=Unit) Bx x.1 () X Y row h2 hg (fun r e=>(hr r e).2),h3⟩) ?assign ?body ?done ?stop
    case assign =>
     rintro l' pre x W K ⟨hp,hBW⟩ hK
     dsimp only [Ins.agg]
     gi_wp2
     exact hK _ _ ((KeepsOthers.alloc _ _).from _) ((Below.refl _ W).alloc (Nat.le_trans (by omega) hBW.size) _) ⟨hp,hBW.alloc hBW.size _⟩ ⟨W.heap.size,hBW.size,Box5.new W x.1,rfl⟩
    case body =>
     rintro l' pre x a' W hl' ⟨r,hr⟩ ⟨hp,hBW⟩ ⟨Bx,hBx,bX,rfl⟩ hlt'
     have g0:=bX.c0
     have g1:=bX.c1
     have g2:=bX.c2
     have g3:=bX.c3
     have g4:=bX.c4
     have v0:=(boxed_below X0 hBW (by omega)).cell
     have v1:=(boxed_below X1 hBW (by omega)).cell
     have vf:=(boxed_below bf hBW (by omega)).cell
     cases hmay : mayB n nr f x.1 with
     | true =>
      have HM:=hide hmay
      clear hmay
      dsimp only [Ins.agg]
      gi_wp2_with (refine ⟨trivial,room_none _,?_⟩;gi_at_call 68;refine (CallsIn.inRound l' (callsIn_wide.2 (mayBe_calls x.1 _ _ _ _))).mono ?_;rintro e W2 ⟨rfl,hb2⟩;rw [HM.out])
      have hsW:=hBW.size
      exact ⟨keepsFrom_below hb2,hb2.mono (by omega),fun i hi=>(List.mem_append.1 hi).elim (hp i) (fun e=>by simp at e;subst e;exact HM.out),hBW.trans (hb2.mono hBW.size)⟩
     | false =>
      have HM:=hide hmay
      clear hmay
      dsimp only [Ins.agg]
      have hsW:=hBW.size
      have HH : ∀ W2,Below W.heap.size W W2 → Boxed W2 (w.heap.size + 1 + 1) 3 (.int .i64 0) ∧ Boxed W2 (w.heap.size + 1 + 1 + 1) 4 (.bool false) ∧ Boxed W2 wr.heap.size 3 (.int .i64 f):=fun W2 hb2 =>
       ⟨boxed_below (boxed_below X2 hBW (by omega)) hb2 (by omega),boxed_below (boxed_below X3 hBW (by omega)) hb2 (by omega),boxed_below (boxed_below bf hBW (by omega)) hb2 (by omega)⟩
      have HH:=hide HH
      gi_wp2_with (refine ⟨trivial,room_none _,?_⟩;gi_at_call 68;refine (CallsIn.inRound l' (callsIn_wide.2 (mayBe_calls x.1 _ _ _ _))).mono ?_;rintro e W2 ⟨rfl,hb2⟩;rw [HM.out];obtain ⟨q2,q3,qf⟩:=HH.out W2 hb2;have q2c:=q2.cell;have q3c:=q3.cell;have q2f:=q2.frozen;have q3f:=q3.frozen;have qfc:=qf.cell;have q2l:=q2.lt;have q3l:=q3.lt;have qfl:=qf.lt)
      have hk : KeepsOthers W2 ((W2.setCell ⟨w.heap.size + 1 + 1,0,none⟩ (.int .i64 f)).setCell ⟨w.heap.size + 1 + 1 + 1,0,none⟩ (.bool true)):=(KeepsOthers.setCell _ _ _).trans (KeepsOthers.setCell _ _ _)
      have hB2 : Below W0.heap.size W0 W2:=hBW.trans (hb2.mono hBW.size)
      refine ⟨(keepsFrom_below hb2).trans (hk.from _),⟨rfl,x,by simp,HM.out⟩,⟨(q2.set _).other (by omega) _,(q3.other (by omega) _).set _⟩,fun b hb h1 h2=>?_,((hBw.trans (hB2.mono (by omega))).setCell (p:=⟨w.heap.size + 1 + 1,0,none⟩) (by simp;omega) _).setCell (p:=⟨w.heap.size + 1 + 1 + 1,0,none⟩) (by simp;omega) _⟩
      exact ((Below.heap_setCell _ _ _ _ h2).trans (Below.heap_setCell _ _ _ _ h1)).trans (hB2.block b hb)
    case done =>
     rintro D xs W hD hxs ⟨hp,hBW⟩ hK
     have hsW:=hBW.size
     gi_wp2
     refine ⟨⟨f + 1,D :: ds,_,_,_,_,_,_,_,_,_,_,_,_,_,_,_,_,_,_,_,_,_,_,_,by omega,fun j hj=>?_,(hM.below hb0).cons hBW hD (by omega) hK,boxed_below X0 hBW (by omega),boxed_below X1 hBW (by omega),boxed_below X2 hBW (by omega),boxed_below X3 hBW (by omega),hBw.trans (hBW.mono (by omega)),rfl⟩,by simp [intOf];omega⟩
     by_cases e : j = f
     ·subst e
      refine badF_false HL.out (by omega) (fun i hi=>?_)
      rw [HN.out]
      subst hxs
      rw [← hzs] at hi
      obtain ⟨q,hq,rfl⟩:=List.mem_map.1 hi
      exact hp q hq
     ·exact Hg.out j (by omega)
    case stop =>
     rintro D c pre W hD hpre ⟨⟨rfl,i,hi,hbad⟩,⟨e2,e3⟩,hk2,hBW⟩ hK
     have HC : Hid (badFun fs nr = ((f : Int),true)):=by
      unfold Hid badFun
      obtain ⟨k,hk⟩:=List.getElem?_of_mem (show i.1 ∈ l by rw [← hzs];exact List.mem_map.2 ⟨i,hpre.subset hi,rfl⟩)
      rw [firstBad_some Hg.out (badF_ins HL.out hk (by rw [HN.out];exact hbad)) (by have:=HN.out;omega)]
     have hM' : Marks (w.heap.size + 4) W (D :: ds):=⟨by omega,hK,fun E he e=>by have:=(Array.getElem?_eq_some_iff.1 (hM.lt E he).2).1;omega,(hM.below hb0).kept2 hk2 (by omega) (by omega)⟩
     gi_wp2
     refine leaves_marks (B:=w.heap.size + 4) (D :: ds) _ hM' (fun W' hT=>?_)
     have k2:=(hT.boxed e2).cell
     have k3:=(hT.boxed e3).cell
     refine ⟨_,?_,rfl,hBW.trans (hT.below.mono (by omega))⟩
     rw [HC.out]
     simp [results,Tryz.f46,go_sem,k2,k3]
  ·obtain rfl : n = f:=by omega
   have HC : Hid (badFun fs nr = (0,false)):=by
    unfold Hid badFun
    rw [firstBad_none (p:=badF fs nr) (n:=fs.length) (by rw [HN.out];exact Hg.out)]
   gi_wp2
   refine leaves_marks (B:=w.heap.size + 4) ds _ ((hM.setCell _ (hM.ne x2)).setCell _ (hM.ne x3)) (fun W' hT=>?_)
   have k2:=(hT.boxed ((x2.set (.int .i64 0)).other (by omega) _)).cell
   have k3:=(hT.boxed ((x3.other (by omega) _).set (.bool false))).cell
   refine ⟨_,?_,rfl,((hB.setCell (p:=⟨w.heap.size + 1 + 1,0,none⟩) (by simp;omega) _).setCell (p:=⟨w.heap.size + 1 + 1 + 1,0,none⟩) (by simp;omega) _).trans (hT.below.mono (by omega))⟩
   rw [HC.out]
   simp [results,Tryz.f46,go_sem,k2,k3]
end Go.Proofs.YtkmakliebhnhbaaGreat
namespace Go.Proofs.YtkmakliebhnhbaaGreat
open Go.RowKit Go.Shelf
section
variable {fs : List (List Ins)} {reds : List Int}
theorem check_red (h : ¬ (fs.length < 1 ∨ 8 < fs.length)) (hb : (badRed reds).2 = true) : check fs reds = (2,(badRed reds).1):=by
 by_cases h2 : 4 < reds.length
 ·rw [check_2 h h2];unfold badRed;rw [if_pos h2]
 ·cases h3 : firstBad (badR reds) reds.length with
  | some r=>rw [check_3 h h2 h3];unfold badRed;rw [if_neg h2,h3]
  | none=>unfold badRed at hb;rw [if_neg h2,h3] at hb;cases hb
theorem red_ok (hb : (badRed reds).2 = false) : ¬ 4 < reds.length ∧ firstBad (badR reds) reds.length = none:=by
 by_cases h2 : 4 < reds.length
 ·unfold badRed at hb;rw [if_pos h2] at hb;cases hb
 ·cases h3 : firstBad (badR reds) reds.length with
  | some r=>unfold badRed at hb;rw [if_neg h2,h3] at hb;cases hb
  | none=>exact ⟨h2,rfl⟩
theorem check_fun (h : ¬ (fs.length < 1 ∨ 8 < fs.length)) (hb : (badRed reds).2 = false) (hf : (badFun fs reds.length).2 = true) : check fs reds = (3,(badFun fs reds.length).1):=by
 obtain ⟨h2,h3⟩:=red_ok hb
 cases h4 : firstBad (badF fs reds.length) fs.length with
 | some f=>rw [check_4 h h2 h3 h4];unfold badFun;rw [h4]
 | none=>unfold badFun at hf;rw [h4] at hf;cases hf
theorem check_last (h : ¬ (fs.length < 1 ∨ 8 < fs.length)) (hb : (badRed reds).2 = false) (hf : (badFun fs reds.length).2 = false) : check fs reds = if 300 < framesC fs then (4,0) else (0,0):=by
 obtain ⟨h2,h3⟩:=red_ok hb
 cases h4 : firstBad (badF fs reds.length) fs.length with
 | some f=>unfold badFun at hf;rw [h4] at hf;cases hf
 | none=>exact check_5 h h2 h3 h4
theorem fun_ok (hf : (badFun fs reds.length).2 = false) (hw : ∀ l ∈ fs,∀ i ∈ l,i.wf) : FsOk fs reds.length ∧ ∀ l ∈ fs,l.length ≤ 10:=by
 cases h4 : firstBad (badF fs reds.length) fs.length with
 | some f=>unfold badFun at hf;rw [h4] at hf;cases hf
 | none =>
  exact FsOk_of (fun f hf=>by
   have:=List.find?_eq_none.1 h4 f (List.mem_range.2 hf)
   simpa using this) hw
end
set_option maxHeartbeats 2000000 in
theorem codeCheck_calls (fs : List (List Ins)) (reds : List Int) (S : Nat → Prop) (vf vr : Value) (w : World) (hw : ∀ l ∈ fs,∀ i ∈ l,i.wf) (hF : RdF S w vf fs) (hR : RdL S w 1 int64s vr reds) :
  Calls Tryz.prog 34 #[vf,vr] w fun e w'=>e = .returned (.tuple #[.int .i64 (check fs reds).1,.int .i64 (check fs reds).2]) ∧ Below w.heap.size w w':=by
 have HF:=hide hF
 have HR:=hide hR
 obtain ⟨us,hul,hu,hfs⟩:=hF
 obtain ⟨a,cap,rfl,hc,hm⟩:=hu.form
 obtain ⟨ra,rcap,rfl,hrc,hrm⟩:=hR.form
 unfold maxLen at hm hrm
 obtain ⟨n,hN⟩ : ∃ n,fs.length = n:=⟨_,rfl⟩
 rw [hul,hN] at hc HF ⊢
 obtain ⟨nr,hNR⟩ : ∃ nr,reds.length = nr:=⟨_,rfl⟩
 rw [hNR] at hrc HR ⊢
 have HN:=hide hN
 have HNR:=hide hNR
 have Hw:=hide hw
 clear hN hul hNR hfs hu hw hR
 by_cases h1 : n < 1 ∨ 8 < n
 ·have HC:=hide (check_1 (reds:=reds) (fs:=fs) (by rw [HN.out];exact h1))
  rcases h1 with h1 | h1
  ·obtain rfl : n = 0:=by omega
   clear h1
   go_enter Tryz.func34,Tryz.ntmps34
   go_wp2
   go_ret2
   rw [HC.out]
   exact ⟨rfl,Below.refl _ _⟩
  ·have h1' : (8 : Int) < n:=by omega
   have h1'' : ¬ (n : Int) < 1:=by omega
   go_enter Tryz.func34,Tryz.ntmps34
   go_wp2
   go_ret2
   rw [HC.out]
   exact ⟨rfl,Below.refl _ _⟩
 have a1 : (1 : Int) ≤ n:=by omega
 have a2 : (n : Int) ≤ 8:=by omega
 have hn8 : n ≤ 8:=by omega
 have hn0 : 0 < n:=by omega
 have H1 : Hid (¬ (fs.length < 1 ∨ 8 < fs.length)):=by unfold Hid;rw [HN.out];exact h1
 clear h1
 have cR:=badReducer_calls reds S (.slice ra nr rcap) w HR.out
 have cF:=badFunction_calls fs nr S (.slice a n cap) w Hw.out (by rw [HN.out];exact hn8) HF.out
 cases hb : (badRed reds).2 with
 | true =>
  have HC:=hide (check_red (fs:=fs) H1.out hb)
  rw [hb] at cR
  obtain ⟨z,hz⟩ : ∃ z,(badRed reds).1 = z:=⟨_,rfl⟩
  rw [hz] at cR
  have HZ:=hide hz
  clear hz hb cF
  go_enter Tryz.func34,Tryz.ntmps34
  go_wp2_with (go_at_call 45;refine cR.mono ?_;rintro e w' ⟨rfl,rfl⟩)
  go_ret2
  rw [HC.out,HZ.out]
  exact ⟨rfl,Below.refl _ _⟩
 | false =>
  rw [hb] at cR
  have HB:=hide hb
  obtain ⟨z,hz⟩ : ∃ z,(badRed reds).1 = z:=⟨_,rfl⟩
  rw [hz] at cR
  clear hz hb
  cases hf : (badFun fs nr).2 with
  | true =>
   have HC:=hide (check_fun (fs:=fs) H1.out HB.out (by rw [HNR.out];exact hf))
   rw [HNR.out] at HC
   rw [hf] at cF
   obtain ⟨y,hy⟩ : ∃ y,(badFun fs nr).1 = y:=⟨_,rfl⟩
   rw [hy] at cF
   have HY:=hide hy
   clear hy hf
   go_enter Tryz.func34,Tryz.ntmps34
   go_wp2_with (first
    | (go_at_call 45;refine cR.mono ?_;rintro e w' ⟨rfl,rfl⟩)
    | (go_at_call 46;refine cF.mono ?_;rintro e w' ⟨rfl,hb1⟩))
   go_ret2
   rw [HC.out,HY.out]
   exact ⟨rfl,hb1⟩
  | false =>
   have HC:=hide (check_last (fs:=fs) H1.out HB.out (by rw [HNR.out];exact hf))
   obtain ⟨ok1,ok2⟩:=fun_ok (fs:=fs) (reds:=reds) (by rw [HNR.out];exact hf) Hw.out
   rw [hf] at cF
   obtain ⟨y,hy⟩ : ∃ y,(badFun fs nr).1 = y:=⟨_,rfl⟩
   rw [hy] at cF
   clear hy hf
   have cM : Hid (∀ w1,Below w.heap.size w w1 → Calls Tryz.prog 47 #[.slice a n cap] w1 fun e w'=>∃ g,e = .returned (.slice (some ⟨g,0,none⟩) n n) ∧ w'.cell? ⟨g,0,none⟩ = some (.int .i64 (framesF fs)) ∧ Below w.heap.size w w'):=fun w1 hb1 =>
    (measure_calls fs reds.length S (.slice a n cap) w1 (by rw [HN.out];exact hn0) (by rw [HN.out];exact hn8) ok1 ok2 (HF.out.below hb1)).mono (fun e w' ⟨g,he,_,_,hs,hb⟩=>by
     rw [HN.out] at he
     have:=(hs 0 (by rw [HN.out];exact hn0)).1
     exact ⟨g,he,by simpa [toZ,framesF] using this,hb1.trans (hb.mono hb1.size)⟩)
   have Hok1:=hide ok1
   clear ok1 ok2
   obtain ⟨q,hq⟩ : ∃ q,framesF fs = q:=⟨_,rfl⟩
   rw [hq] at cM
   by_cases h300 : 300 < q
   ·have h300' : (300 : Int) < q:=by omega
    have HC2 : Hid (check fs reds = (4,0)):=by unfold Hid;rw [HC.out,if_pos (framesF_gt.1 (by rw [hq];exact h300))]
    clear hq HC
    go_enter Tryz.func34,Tryz.ntmps34
    go_wp2_with (first
     | (go_at_call 45;refine cR.mono ?_;rintro e w' ⟨rfl,rfl⟩)
     | (go_at_call 46;refine cF.mono ?_;rintro e w' ⟨rfl,hb1⟩)
     | (go_at_call 47;refine (cM.out _ hb1).mono ?_;rintro e w2 ⟨g,rfl,hg,hb2⟩))
    go_ret2
    rw [HC2.out]
    exact ⟨rfl,hb2⟩
   ·have h300' : ¬ (300 : Int) < q:=by omega
    have HC2 : Hid (check fs reds = (0,0)):=by unfold Hid;rw [HC.out,if_neg (fun h=>h300 (by rw [← hq];exact framesF_gt.2 h))]
    clear hq HC
    go_enter Tryz.func34,Tryz.ntmps34
    go_wp2_with (first
     | (go_at_call 45;refine cR.mono ?_;rintro e w' ⟨rfl,rfl⟩)
     | (go_at_call 46;refine cF.mono ?_;rintro e w' ⟨rfl,hb1⟩)
     | (go_at_call 47;refine (cM.out _ hb1).mono ?_;rintro e w2 ⟨g,rfl,hg,hb2⟩))
    go_ret2
    rw [HC2.out]
    exact ⟨rfl,hb2⟩
end Go.Proofs.YtkmakliebhnhbaaGreat
