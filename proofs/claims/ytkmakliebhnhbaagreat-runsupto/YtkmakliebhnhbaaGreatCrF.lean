import Derived.Deep.QuietTactic
import Derived.BigQuiet
import Derived.Test.YtkmakliebhnhbaaGreatRestA
import Derived.Test.YtkmakliebhnhbaaGreatFrA
namespace Go.Proofs.YtkmakliebhnhbaaGreat
open Go.RowKit Go.Shelf
def orgZ : Org → Int
 | .root=>0
 | .call=>1
 | .spawn=>2
def TkB (W : World) (B : Nat) (t : Tk) (pv av : Value) : Prop:=W.heap[B]? = some (.cells #[.int .i64 (t.f : Int),.int .i64 t.x,.int .u64 t.h,.int .u64 t.r,.int .i64 (orgZ t.org),pv,av,.int .i64 (t.pl : Int),.int .i64 t.out,.bool t.asd] 178 (0,0))
theorem TkB.lt {W : World} {B : Nat} {t : Tk} {pv av : Value} (q : TkB W B t pv av) : B < W.heap.size:=(Array.getElem?_eq_some_iff.1 q).1
theorem TkB.c1 {W : World} {B : Nat} {t : Tk} {pv av : Value} (q : TkB W B t pv av) : W.cell? ⟨B,1,none⟩ = some (.int .i64 t.x):=by simp [World.cell?,show W.heap[B]? = _ from q]
theorem TkB.c2 {W : World} {B : Nat} {t : Tk} {pv av : Value} (q : TkB W B t pv av) : W.cell? ⟨B,2,none⟩ = some (.int .u64 t.h):=by simp [World.cell?,show W.heap[B]? = _ from q]
theorem TkB.c3 {W : World} {B : Nat} {t : Tk} {pv av : Value} (q : TkB W B t pv av) : W.cell? ⟨B,3,none⟩ = some (.int .u64 t.r):=by simp [World.cell?,show W.heap[B]? = _ from q]
theorem TkB.c4 {W : World} {B : Nat} {t : Tk} {pv av : Value} (q : TkB W B t pv av) : W.cell? ⟨B,4,none⟩ = some (.int .i64 (orgZ t.org)):=by simp [World.cell?,show W.heap[B]? = _ from q]
theorem TkB.c5 {W : World} {B : Nat} {t : Tk} {pv av : Value} (q : TkB W B t pv av) : W.cell? ⟨B,5,none⟩ = some pv:=by simp [World.cell?,show W.heap[B]? = _ from q]
theorem TkB.c6 {W : World} {B : Nat} {t : Tk} {pv av : Value} (q : TkB W B t pv av) : W.cell? ⟨B,6,none⟩ = some av:=by simp [World.cell?,show W.heap[B]? = _ from q]
theorem TkB.c7 {W : World} {B : Nat} {t : Tk} {pv av : Value} (q : TkB W B t pv av) : W.cell? ⟨B,7,none⟩ = some (.int .i64 (t.pl : Int)):=by simp [World.cell?,show W.heap[B]? = _ from q]
theorem TkB.c8 {W : World} {B : Nat} {t : Tk} {pv av : Value} (q : TkB W B t pv av) : W.cell? ⟨B,8,none⟩ = some (.int .i64 t.out):=by simp [World.cell?,show W.heap[B]? = _ from q]
theorem TkB.c9 {W : World} {B : Nat} {t : Tk} {pv av : Value} (q : TkB W B t pv av) : W.cell? ⟨B,9,none⟩ = some (.bool t.asd):=by simp [World.cell?,show W.heap[B]? = _ from q]
theorem TkB.fz {W : World} {B : Nat} {t : Tk} {pv av : Value} (q : TkB W B t pv av) (j : Nat) : W.frozen? ⟨B,j,none⟩ = false:=by simp [World.frozen?,show W.heap[B]? = _ from q]
set_option maxHeartbeats 1000000 in
theorem atEnd_calls (B : Nat) (t : Tk) (pv : Value) (a : Option Addr) (n cap : Nat) (w : World) (hb : TkB w B t pv (.slice a n cap)) : Calls Tryz.prog 106 #[.pointer (some ⟨B,0,none⟩)] w fun e w'=>e = .returned (.bool (decide (n = 0))) ∧ w' = w:=by
 have c6:=hb.c6
 have H : Hid (decide ((n : Int) = 0) = decide (n = 0)):=by unfold Hid;simp
 go_enter Tryz.func106,Tryz.ntmps106
 go_wp2
 go_ret
 refine ⟨?_,rfl⟩
 rw [← H.out]
 rfl
set_option maxHeartbeats 1000000 in
theorem mustWait_calls (S : Nat → Prop) (B : Nat) (t : Tk) (pv av : Value) (w : World) (hb : TkB w B t pv av) (hr : RdL S w 5 Ins.vals av t.rem) : Calls Tryz.prog 104 #[.pointer (some ⟨B,0,none⟩)] w fun e w'=>e = .returned (.bool (waits t)) ∧ w' = w:=by
 obtain ⟨a,cap,rfl,hc,hm⟩:=hr.form
 have c8:=hb.c8
 have c6:=hb.c6
 by_cases ho : t.out = 0
 ·have H : Hid (waits t = false):=by unfold Hid waits;rw [ho];rfl
  rw [ho] at c8
  go_enter Tryz.func104,Tryz.ntmps104
  go_wp2
  go_ret
  exact ⟨by rw [H.out];rfl,rfl⟩
 have hob : Hid ((t.out != 0) = true):=by unfold Hid;simpa using ho
 cases hrm : t.rem with
 | nil =>
  have H : Hid (waits t = true):=by unfold Hid waits;rw [hrm,hob.out];rfl
  have HE:=hide (atEnd_calls B t pv a t.rem.length cap w hb)
  rw [hrm] at c6 HE
  clear hr hc hm hb
  go_enter Tryz.func104,Tryz.ntmps104
  go_wp2_with fail
  refine HE.out.mono ?_
  rintro e w3 ⟨rfl,rfl⟩
  go_wp2
  go_ret
  refine ⟨?_,rfl⟩
  show Ending.returned (Value.bool (t.out != 0)) = _
  rw [hob.out,H.out]
 | cons i rest =>
  have H : Hid (waits t = (i.op == 5)):=by unfold Hid waits;rw [hrm,hob.out];rfl
  have HE:=hide (atEnd_calls B t pv a t.rem.length cap w hb)
  obtain ⟨b,off,rfl,_,hce⟩:=hr.at (k:=0) (x:=i) (by rw [hrm];rfl)
  have e0:=hce 0 _ rfl
  obtain ⟨n,hN⟩ : ∃ n,t.rem.length = n:=⟨_,rfl⟩
  have hn0 : ¬ n = 0:=by rw [hrm] at hN;simp at hN;omega
  have hn1 : (0 : Int) < n:=by omega
  simp only [Nat.zero_mul,Nat.add_zero] at e0
  rw [hN] at c6 HE
  clear hr hm hb hce hc hN
  go_enter Tryz.func104,Tryz.ntmps104
  go_wp2_with fail
  refine HE.out.mono ?_
  rintro e w3 ⟨rfl,rfl⟩
  go_wp2
  go_ret
  refine ⟨?_,rfl⟩
  rw [H.out]
  show Ending.returned (Value.bool _) = _
  simp only [hob.out,Bool.true_and]
end Go.Proofs.YtkmakliebhnhbaaGreat
namespace Go.Proofs.YtkmakliebhnhbaaGreat
open Go.RowKit Go.Shelf
set_option maxHeartbeats 1000000 in
theorem setAside_calls (B wb o : Nat) (t : Tk) (pv av : Value) (w : World) (hb : TkB w B t pv av) (hh : w.cell? ⟨wb,o + 1,none⟩ = some (.pointer (some ⟨B,0,none⟩))) (hf : w.frozen? ⟨wb,o + 1,none⟩ = false) (hne : B ≠ wb) :
  Calls Tryz.prog 105 #[.pointer (some ⟨wb,o,none⟩)] w fun e w'=>e = .returned (.agg #[.int .i64 0,.int .i64 0,.int .i64 0,.int .i64 0,.int .i64 0]) ∧ Below w.heap.size ((w.setCell ⟨B,9,none⟩ (.bool true)).setCell ⟨wb,o + 1,none⟩ (.pointer none)) w':=by
 have c9:=hb.c9
 have f9:=hb.fz 9
 have hlt:=hb.lt
 have hwlt:=block_lt_of_cell hh
 simp only at hwlt
 go_enter Tryz.func105,Tryz.ntmps105
 go_wp2
 refine bodyPost_ret (v:=.agg #[.int .i64 0,.int .i64 0,.int .i64 0,.int .i64 0,.int .i64 0]) (by simp [results,Tryz.f105,go_sem]) rfl ⟨rfl,?_⟩
 exact (Below.refl _ _).alloc (by simp) _
set_option maxHeartbeats 1000000 in
theorem wgive_calls (B wb o : Nat) (t : Tk) (pv av : Value) (me r n : Int) (w : World) (hb : TkB w B t pv av) (h0 : w.cell? ⟨wb,o,none⟩ = some (.int .i64 me)) (hh : w.cell? ⟨wb,o + 1,none⟩ = some (.pointer (some ⟨B,0,none⟩))) (hne : B ≠ wb) (hpl : t.pl ≤ 10000000000000) :
  Calls Tryz.prog 125 #[.pointer (some ⟨wb,o,none⟩),.int .i64 r,.int .i64 n] w fun e w'=>e = .returned (.agg #[.int .i64 1,.int .i64 me,.int .i64 r,.int .i64 n,.int .i64 (t.pl : Int)]) ∧ Below w.heap.size (w.setCell ⟨B,7,none⟩ (.int .i64 ((t.pl + 1 : Nat) : Int))) w':=by
 have c7:=hb.c7
 have f7:=hb.fz 7
 have hlt:=hb.lt
 have hwlt:=block_lt_of_cell hh
 simp only at hwlt
 have hpi : (t.pl : Int) ≤ 10000000000000:=by omega
 have hp0 : (0 : Int) ≤ t.pl:=by omega
 have HP : Hid (((t.pl + 1 : Nat) : Int) = (t.pl : Int) + 1):=by unfold Hid;omega
 rw [HP.out]
 clear HP
 go_enter Tryz.func125,Tryz.ntmps125
 go_wp2
 refine bodyPost_ret (v:=.agg #[.int .i64 1,.int .i64 me,.int .i64 r,.int .i64 n,.int .i64 (t.pl : Int)]) (by simp [results,Tryz.f125,go_sem]) rfl ⟨rfl,?_⟩
 exact (Below.refl _ _).alloc (by simp) _
end Go.Proofs.YtkmakliebhnhbaaGreat
namespace Go.Proofs.YtkmakliebhnhbaaGreat
open Go.RowKit Go.Shelf
def stepV (k : Int) : Value:=.agg #[.int .i64 k,.int .i64 0,.int .i64 0,.int .i64 0,.int .i64 0]
set_option maxHeartbeats 1000000 in
theorem steal_fail (wb o o' cap : Nat) (a : Option Addr) (w : World) (hs : w.cell? ⟨wb,o' + 2,none⟩ = some (.slice a 0 cap)) :
  Calls Tryz.prog 103 #[.pointer (some ⟨wb,o,none⟩),.pointer (some ⟨wb,o',none⟩)] w fun e w'=>e = .returned (stepV 3) ∧ Below w.heap.size w w':=by
 have hwlt:=block_lt_of_cell hs
 simp only at hwlt
 go_enter Tryz.func103,Tryz.ntmps103
 go_wp2
 refine bodyPost_ret (v:=stepV 3) (by simp [results,Tryz.f103,go_sem,stepV]) rfl ⟨rfl,?_⟩
 exact (Below.refl _ _).alloc (by simp) _
set_option maxHeartbeats 1000000 in
theorem steal_ok (B wb o o' sb so n cap : Nat) (t : Tk) (pv av hv : Value) (w : World) (hb : TkB w B t pv av) (hh : w.cell? ⟨wb,o + 1,none⟩ = some hv) (hf : w.frozen? ⟨wb,o + 1,none⟩ = false) (hf' : w.frozen? ⟨wb,o' + 2,none⟩ = false) (hs : w.cell? ⟨wb,o' + 2,none⟩ = some (.slice (some ⟨sb,so,none⟩) (n + 1) cap)) (hq : w.cell? ⟨sb,so,none⟩ = some (.pointer (some ⟨B,0,none⟩)))
  (hne : B ≠ wb) (hsw : sb ≠ wb) (hoo : o + 1 ≠ o' + 2) (hnc : n + 1 ≤ cap) (hcap : cap ≤ 9223372036854775807) (ho0 : 0 ≤ t.out) (ho1 : t.out ≤ 1000000000) :
  Calls Tryz.prog 103 #[.pointer (some ⟨wb,o,none⟩),.pointer (some ⟨wb,o',none⟩)] w fun e w'=>e = .returned (stepV 2) ∧
   Below w.heap.size (((w.setCell ⟨wb,o + 1,none⟩ (.pointer (some ⟨B,0,none⟩))).setCell ⟨wb,o' + 2,none⟩ (.slice (some ⟨sb,if cap = 1 then so else so + 1,none⟩) n (cap - 1))).setCell ⟨B,8,none⟩ (.int .i64 (t.out + 1))) w':=by
 have c8:=hb.c8
 have f8:=hb.fz 8
 have hlt:=hb.lt
 have hwlt:=block_lt_of_cell hh
 have hslt:=block_lt_of_cell hq
 simp only at hwlt hslt
 have hn1 : ¬ ((n : Int) + 1 = 0):=by omega
 have hn2 : (0 : Int) < (n : Int) + 1:=by omega
 have hn3 : (n : Int) + 1 ≤ cap:=by omega
 by_cases hc1 : cap = 1
 ·have hn0 : n = 0:=by omega
  subst hn0 hc1
  rw [if_pos rfl]
  go_enter Tryz.func103,Tryz.ntmps103
  go_wp2
  refine bodyPost_ret (v:=stepV 2) (by simp [results,Tryz.f103,go_sem,stepV]) rfl ⟨rfl,?_⟩
  exact (Below.refl _ _).alloc (by simp) _
 ·rw [if_neg hc1]
  go_enter Tryz.func103,Tryz.ntmps103
  go_wp2
  refine bodyPost_ret (v:=stepV 2) (by simp [results,Tryz.f103,go_sem,stepV]) rfl ⟨rfl,?_⟩
  exact (Below.refl _ _).alloc (by simp) _
end Go.Proofs.YtkmakliebhnhbaaGreat
namespace Go.Proofs.YtkmakliebhnhbaaGreat
open Go.RowKit Go.Shelf
set_option maxHeartbeats 1000000 in
theorem behind_pop (B wb o sb so n cap : Nat) (pv : Value) (w : World) (hf : w.frozen? ⟨wb,o + 2,none⟩ = false) (hs : w.cell? ⟨wb,o + 2,none⟩ = some (.slice (some ⟨sb,so,none⟩) (n + 1) cap)) (hq : w.cell? ⟨sb,so + n,none⟩ = some (.pointer (some ⟨B,0,none⟩)))
  (hnc : n + 1 ≤ cap) (hcap : cap ≤ 9223372036854775807) :
  Calls Tryz.prog 124 #[.pointer (some ⟨wb,o,none⟩),pv] w fun e w'=>e = .returned (.pointer (some ⟨B,0,none⟩)) ∧ w' = w.setCell ⟨wb,o + 2,none⟩ (.slice (some ⟨sb,so,none⟩) n cap):=by
 have hn1 : (n : Int) + 1 - 1 = n:=by omega
 have hn2 : (0 : Int) ≤ n:=by omega
 have hn3 : (n : Int) < (n : Int) + 1:=by omega
 have hn4 : (n : Int) ≤ cap:=by omega
 go_enter Tryz.func124,Tryz.ntmps124
 go_wp2
 go_ret
 exact ⟨rfl,rfl⟩
set_option maxHeartbeats 1000000 in
theorem behind_join (P wb o cap : Nat) (a : Option Addr) (t : Tk) (pv av : Value) (w : World) (hb : TkB w P t pv av) (hs : w.cell? ⟨wb,o + 2,none⟩ = some (.slice a 0 cap)) (ho0 : 1 ≤ t.out) (ho1 : t.out ≤ 1000000000) (hn : ¬(t.out - 1 = 0 ∧ t.asd = true)) :
  Calls Tryz.prog 124 #[.pointer (some ⟨wb,o,none⟩),.pointer (some ⟨P,0,none⟩)] w fun e w'=>e = .returned (.pointer none) ∧ w' = w.setCell ⟨P,8,none⟩ (.int .i64 (t.out - 1)):=by
 have c8:=hb.c8
 have c9:=hb.c9
 have f8:=hb.fz 8
 by_cases hz : t.out = 1
 ·have ha : t.asd = false:=by
   cases e : t.asd with
   | false=>rfl
   | true=>exact absurd ⟨by omega,e⟩ hn
  rw [hz] at c8 ⊢
  rw [ha] at c9
  go_enter Tryz.func124,Tryz.ntmps124
  go_wp2
  go_ret
  exact ⟨rfl,rfl⟩
 ·have hz1 : ¬ (t.out - 1 = 0):=by omega
  go_enter Tryz.func124,Tryz.ntmps124
  go_wp2
  go_ret
  exact ⟨rfl,rfl⟩
set_option maxHeartbeats 1000000 in
theorem behind_wake (P wb o cap : Nat) (a : Option Addr) (t : Tk) (pv av : Value) (w : World) (hb : TkB w P t pv av) (hs : w.cell? ⟨wb,o + 2,none⟩ = some (.slice a 0 cap)) (hz : t.out = 1) (ha : t.asd = true) :
  Calls Tryz.prog 124 #[.pointer (some ⟨wb,o,none⟩),.pointer (some ⟨P,0,none⟩)] w fun e w'=>e = .returned (.pointer (some ⟨P,0,none⟩)) ∧ w' = (w.setCell ⟨P,8,none⟩ (.int .i64 0)).setCell ⟨P,9,none⟩ (.bool false):=by
 have c8:=hb.c8
 have c9:=hb.c9
 have f8:=hb.fz 8
 have f9:=hb.fz 9
 rw [hz] at c8
 rw [ha] at c9
 go_enter Tryz.func124,Tryz.ntmps124
 go_wp2
 go_ret
 exact ⟨rfl,rfl⟩
end Go.Proofs.YtkmakliebhnhbaaGreat
namespace Go.Proofs.YtkmakliebhnhbaaGreat
open Go.RowKit Go.Shelf
theorem alloc_frozen {w : World} {a : Addr} {o : Obj} {v : Bool} (h : w.frozen? a = v) (hl : a.block < w.heap.size) : (w.alloc o).frozen? a = v:=by
 rw [← h]
 unfold World.frozen?
 rw [Below.heap_alloc _ _ _ hl]
theorem alloc_cell {w : World} {a : Addr} {o : Obj} {v : Value} (h : w.cell? a = some v) : (w.alloc o).cell? a = some v:=(World.cell?_of_block (w:=w) (a:=a) (Below.heap_alloc _ _ _ (block_lt_of_cell h))).trans h
theorem TkB.al {W : World} {B : Nat} {t : Tk} {pv av : Value} (q : TkB W B t pv av) (o : Obj) : TkB (W.alloc o) B t pv av:=(Below.heap_alloc _ _ _ q.lt).trans q
set_option maxHeartbeats 1000000 in
theorem end_root (B wb o : Nat) (t : Tk) (pv av : Value) (w : World) (hb : TkB w B t pv av) (ho : t.org = .root) (hh : w.cell? ⟨wb,o + 1,none⟩ = some (.pointer (some ⟨B,0,none⟩))) (hf : w.frozen? ⟨wb,o + 1,none⟩ = false) :
  Calls Tryz.prog 107 #[.pointer (some ⟨wb,o,none⟩)] w fun e w'=>e = .returned (stepV 4) ∧ Below w.heap.size (w.setCell ⟨wb,o + 1,none⟩ (.pointer none)) w':=by
 have c4:=hb.c4
 rw [ho] at c4
 simp only [orgZ] at c4
 have hlt:=hb.lt
 have hwlt:=block_lt_of_cell hh
 simp only at hwlt
 go_enter Tryz.func107,Tryz.ntmps107
 go_wp2
 refine bodyPost_ret (v:=stepV 4) (by simp [results,Tryz.f107,go_sem,stepV]) rfl ⟨rfl,?_⟩
 exact (Below.refl _ _).alloc (by simp) _
set_option maxHeartbeats 1000000 in
theorem end_call (B P wb o : Nat) (t : Tk) (av : Value) (w : World) (hb : TkB w B t (.pointer (some ⟨P,0,none⟩)) av) (ho : t.org = .call) (hh : w.cell? ⟨wb,o + 1,none⟩ = some (.pointer (some ⟨B,0,none⟩))) (hf : w.frozen? ⟨wb,o + 1,none⟩ = false) :
  Calls Tryz.prog 107 #[.pointer (some ⟨wb,o,none⟩)] w fun e w'=>e = .returned (stepV 0) ∧ Below w.heap.size (w.setCell ⟨wb,o + 1,none⟩ (.pointer (some ⟨P,0,none⟩))) w':=by
 have c4:=hb.c4
 have c5:=hb.c5
 rw [ho] at c4
 simp only [orgZ] at c4
 have hlt:=hb.lt
 have hwlt:=block_lt_of_cell hh
 simp only at hwlt
 go_enter Tryz.func107,Tryz.ntmps107
 go_wp2
 refine bodyPost_ret (v:=stepV 0) (by simp [results,Tryz.f107,go_sem,stepV]) rfl ⟨rfl,?_⟩
 exact (Below.refl _ _).alloc (by simp) _
set_option maxHeartbeats 1000000 in
theorem end_pop (B P Q wb o sb so n cap : Nat) (t : Tk) (av : Value) (w : World) (hb : TkB w B t (.pointer (some ⟨P,0,none⟩)) av) (ho : t.org = .spawn) (hh : w.cell? ⟨wb,o + 1,none⟩ = some (.pointer (some ⟨B,0,none⟩))) (hf : w.frozen? ⟨wb,o + 1,none⟩ = false)
  (hf2 : w.frozen? ⟨wb,o + 2,none⟩ = false) (hs : w.cell? ⟨wb,o + 2,none⟩ = some (.slice (some ⟨sb,so,none⟩) (n + 1) cap)) (hq : w.cell? ⟨sb,so + n,none⟩ = some (.pointer (some ⟨Q,0,none⟩))) (hnc : n + 1 ≤ cap) (hcap : cap ≤ 9223372036854775807) :
  Calls Tryz.prog 107 #[.pointer (some ⟨wb,o,none⟩)] w fun e w'=>e = .returned (stepV 0) ∧ Below w.heap.size ((w.setCell ⟨wb,o + 2,none⟩ (.slice (some ⟨sb,so,none⟩) n cap)).setCell ⟨wb,o + 1,none⟩ (.pointer (some ⟨Q,0,none⟩))) w':=by
 have c4:=hb.c4
 have c5:=hb.c5
 rw [ho] at c4
 simp only [orgZ] at c4
 have hlt:=hb.lt
 have hwlt:=block_lt_of_cell hh
 have hslt:=block_lt_of_cell hq
 simp only at hwlt hslt
 go_enter Tryz.func107,Tryz.ntmps107
 go_wp2_with fail
 refine (behind_pop Q wb o sb so n cap _ _ (alloc_frozen hf2 hwlt) (alloc_cell hs) (alloc_cell hq) hnc hcap).mono ?_
 rintro e w3 ⟨rfl,rfl⟩
 go_wp2
 refine bodyPost_ret (v:=stepV 0) (by simp [results,Tryz.f107,go_sem,stepV]) rfl ⟨rfl,?_⟩
 exact (Below.refl _ _).alloc (by simp) _
set_option maxHeartbeats 1000000 in
theorem end_join (B P wb o cap : Nat) (a : Option Addr) (t p : Tk) (av pv2 av2 : Value) (w : World) (hb : TkB w B t (.pointer (some ⟨P,0,none⟩)) av) (hp : TkB w P p pv2 av2) (ho : t.org = .spawn) (hh : w.cell? ⟨wb,o + 1,none⟩ = some (.pointer (some ⟨B,0,none⟩))) (hf : w.frozen? ⟨wb,o + 1,none⟩ = false)
  (hne : P ≠ wb) (hs : w.cell? ⟨wb,o + 2,none⟩ = some (.slice a 0 cap)) (ho0 : 1 ≤ p.out) (ho1 : p.out ≤ 1000000000) (hn : ¬(p.out - 1 = 0 ∧ p.asd = true)) :
  Calls Tryz.prog 107 #[.pointer (some ⟨wb,o,none⟩)] w fun e w'=>e = .returned (stepV 0) ∧ Below w.heap.size ((w.setCell ⟨P,8,none⟩ (.int .i64 (p.out - 1))).setCell ⟨wb,o + 1,none⟩ (.pointer none)) w':=by
 have c4:=hb.c4
 have c5:=hb.c5
 rw [ho] at c4
 simp only [orgZ] at c4
 have hlt:=hb.lt
 have hplt:=hp.lt
 have hwlt:=block_lt_of_cell hh
 simp only at hwlt
 go_enter Tryz.func107,Tryz.ntmps107
 go_wp2_with fail
 refine (behind_join P wb o cap a p pv2 av2 _ (hp.al _) (alloc_cell hs) ho0 ho1 hn).mono ?_
 rintro e w3 ⟨rfl,rfl⟩
 go_wp2
 refine bodyPost_ret (v:=stepV 0) (by simp [results,Tryz.f107,go_sem,stepV]) rfl ⟨rfl,?_⟩
 exact (Below.refl _ _).alloc (by simp) _
set_option maxHeartbeats 1000000 in
theorem end_wake (B P wb o cap : Nat) (a : Option Addr) (t p : Tk) (av pv2 av2 : Value) (w : World) (hb : TkB w B t (.pointer (some ⟨P,0,none⟩)) av) (hp : TkB w P p pv2 av2) (ho : t.org = .spawn) (hh : w.cell? ⟨wb,o + 1,none⟩ = some (.pointer (some ⟨B,0,none⟩))) (hf : w.frozen? ⟨wb,o + 1,none⟩ = false)
  (hne : P ≠ wb) (hs : w.cell? ⟨wb,o + 2,none⟩ = some (.slice a 0 cap)) (hz : p.out = 1) (ha : p.asd = true) :
  Calls Tryz.prog 107 #[.pointer (some ⟨wb,o,none⟩)] w fun e w'=>e = .returned (stepV 0) ∧ Below w.heap.size (((w.setCell ⟨P,8,none⟩ (.int .i64 0)).setCell ⟨P,9,none⟩ (.bool false)).setCell ⟨wb,o + 1,none⟩ (.pointer (some ⟨P,0,none⟩))) w':=by
 have c4:=hb.c4
 have c5:=hb.c5
 rw [ho] at c4
 simp only [orgZ] at c4
 have hlt:=hb.lt
 have hplt:=hp.lt
 have hwlt:=block_lt_of_cell hh
 simp only at hwlt
 go_enter Tryz.func107,Tryz.ntmps107
 go_wp2_with fail
 refine (behind_wake P wb o cap a p pv2 av2 _ (hp.al _) (alloc_cell hs) hz ha).mono ?_
 rintro e w3 ⟨rfl,rfl⟩
 go_wp2
 refine bodyPost_ret (v:=stepV 0) (by simp [results,Tryz.f107,go_sem,stepV]) rfl ⟨rfl,?_⟩
 exact (Below.refl _ _).alloc (by simp) _
end Go.Proofs.YtkmakliebhnhbaaGreat
namespace Go.Proofs.YtkmakliebhnhbaaGreat
open Go.RowKit Go.Shelf
set_option maxHeartbeats 1000000 in
theorem number_at (i : Ins) (B : Nat) (x : Int) (w : World) (c1 : w.cell? ⟨B,1,none⟩ = some (.int .i64 x)) : Calls Tryz.prog 120 #[.pointer (some ⟨B,0,none⟩),i.agg] w fun e w'=>e = .returned (.int .i64 (numZ i x)) ∧ Below w.heap.size w w':=by
 have hlt:=block_lt_of_cell c1
 simp only at hlt
 obtain ⟨op,F,R,K,L⟩:=i
 have H : Hid (numZ ⟨op,F,R,K,L⟩ x = IntKind.i64.wrap (K + IntKind.i64.wrap (L * x))):=numZ_wrap _ _
 dsimp only [Ins.agg]
 go_enter Tryz.func120,Tryz.ntmps120
 go_wp2
 go_quiet (fail)
 go_wp2
 go_ret
 exact ⟨by rw [H.out];simp [wrap_i64'],(by repeat (first | exact Below.refl _ _ | refine Below.drew ?_ | refine below_drewN ?_ _ | refine Below.alloc ?_ (Nat.le_refl _) _))⟩
set_option maxHeartbeats 1000000 in
theorem sync_at (B : Nat) (r : Int) (w : World) (c3 : w.cell? ⟨B,3,none⟩ = some (.int .u64 r)) (f3 : w.frozen? ⟨B,3,none⟩ = false) (h0 : 0 ≤ r) (h1 : r ≤ 1000) : Calls Tryz.prog 123 #[.pointer (some ⟨B,0,none⟩)] w fun e w'=>(∃ v,e = .returned v) ∧ w' = w.setCell ⟨B,3,none⟩ (.int .u64 (r + 1)):=by
 go_enter Tryz.func123,Tryz.ntmps123
 go_wp2
 go_end0
 exact ⟨⟨_,rfl⟩,rfl⟩
set_option maxHeartbeats 1000000 in
theorem draw_at (k : Int) (B : Nat) (h r : Int) (w : World) (c2 : w.cell? ⟨B,2,none⟩ = some (.int .u64 h)) (c3 : w.cell? ⟨B,3,none⟩ = some (.int .u64 r)) (f3 : w.frozen? ⟨B,3,none⟩ = false) (h0 : 0 ≤ r) (h1 : r ≤ 1000) (k0 : 0 < k) (k1 : k < 9223372036854775808) : Calls Tryz.prog 121 #[.pointer (some ⟨B,0,none⟩),.int .i64 k] w fun e w'=>e = .returned (.int .i64 (drawnZ h r k)) ∧ ∃ n,w' = (w.drewN n).setCell ⟨B,3,none⟩ (.int .u64 (r + 1)):=by
 go_enter Tryz.func121,Tryz.ntmps121
 go_wp2
 go_quiet (exact (mix_calls h r _ h0 h1).mono (fun e w' he=>⟨he.1,_,he.2⟩))
 go_wp2_with (go_at_call 131;refine (finish_calls (stepZ h r) _ (u64_wrap _)).mono ?_;rintro e w' ⟨rfl,rfl⟩)
 go_ret
 exact ⟨rfl,nq,rfl⟩
end Go.Proofs.YtkmakliebhnhbaaGreat
