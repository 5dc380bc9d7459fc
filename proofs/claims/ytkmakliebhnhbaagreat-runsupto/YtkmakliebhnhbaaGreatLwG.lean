import Derived.Deep.DrawnRows
import Derived.Deep.Cut
import Derived.Test.YtkmakliebhnhbaaGreatRpQ
import Derived.Test.YtkmakliebhnhbaaGreatRuC
import Derived.Test.YtkmakliebhnhbaaGreatLwC
import Derived.Test.YtkmakliebhnhbaaGreatLawSer
import Derived.Test.YtkmakliebhnhbaaGreatMadeA
namespace Go.Proofs.YtkmakliebhnhbaaGreat
open Go.RowKit
attribute [local go_sem ↓] Go.wp_at_zero Go.wp_at_succ
theorem ends_small {fs : List (List Ins)} {reds : List Int} {k N : Nat} {script : List (Int × Int)} {seed x : Int} (hw : FsWf fs) (hck : (check fs reds).1 = 0) (hk1 : 1 ≤ k) (hk8 : k ≤ 8) (hs : script.length ≤ 4000) (hN : Ends fs k script seed x N) :
  N ≤ 50000 ∧ ∀ j,j ≤ N → Lean1 fs reds.length (stAt fs k script seed x j) N:=by
 obtain ⟨hn0,hn8,hr4,hok,hl10⟩:=check_ok hck hw
 have hgs:=gift_small hok hn0 hn8 hl10
 obtain ⟨M,hN1,hN2,hN3,hN4,hN5,hN6⟩:=run_whole hok hl10 hk1 hn0 script seed x
 have hfar:=far_start hok hl10 hn0 k seed x
 have hf3:=frames_300 hck
 have hN50 : M ≤ 50000:=by
  have : (far fs (start fs k seed x) [(some 0,[0])] + 1) * k ≤ 4200 * 8:=Nat.mul_le_mul (by omega) hk8
  omega
 have hends : Ends fs k script seed x M:=⟨hN2,hN3⟩
 have:=hN.one hends
 subst this
 exact ⟨hN50,lean_all hgs hk1 hN4⟩
theorem refRun_ok (fs : List (List Ins)) (reds : List Int) (N rb k : Nat) (seed x : Int) (S S2 : Nat → Prop) (script : List (Int × Int)) (sa : Option Addr) (sl sc : Nat) (w : World) (hw : FsWf fs) (hck : (check fs reds).1 = 0) (hk1 : 1 ≤ k) (hk8 : k ≤ 8) (hR : RefP S w (.pointer (some ⟨rb,0,none⟩)) fs reds) (hsv : RdL S2 w 2 pickV (.slice sa sl sc) script) (hsc : ∀ p ∈ script,i64 p.1 ∧ i64 p.2) (hsl4 : sl ≤ 4000) (hN : Ends fs k script seed x N) :
  Calls Tryz.prog 43 #[.pointer (some ⟨rb,0,none⟩),.int .u64 seed,.int .i64 x,.int .i64 (k : Int),.slice sa sl sc] w fun e w'=>∃ ta tc,e = .returned (.tuple #[.slice ta (trAt fs k script seed x N).length tc,.agg #[.int .i64 ((N + 1 : Nat) : Int),.int .i64 (stealsAt fs k script seed x N : Nat),.int .i64 (failsAt fs k script seed x N : Nat),.int .i64 (framesC fs : Int)]]) ∧ RdL (fun _=>True) w' 3 Ev.vals (.slice ta (trAt fs k script seed x N).length tc) (trAt fs k script seed x N) ∧ Below w.heap.size w w':=by
 obtain ⟨hn0,hn8,hr4,hok,hl10⟩:=check_ok hck hw
 have hsl : script.length ≤ 4000:=by
  obtain ⟨a,c,h,_⟩:=hsv.form
  injection h with h1 h2 h3
  omega
 obtain ⟨h1,h2⟩:=ends_small hw hck hk1 hk8 hsl hN
 refine refRun_calls fs reds reds.length N rb k seed x S S2 script sa sl sc w hk1 hk8 hR hsv hsc hsl4 hN h1 h2 (fun X hX=>?_)
 obtain ⟨rb',vf,vr,hv,hrb,c0,c1,hF,hRd⟩:=hR
 have : rb' = rb:=by injection hv with h;injection h with h;injection h with h;exact h.symm
 subst this
 exact frames_any fs reds.length S rb' vf X hn0 hn8 hok hl10 ((hX.cell (p:=⟨rb',0,none⟩) (block_lt_of_cell c0)).trans c0) (hF.below hX)
end Go.Proofs.YtkmakliebhnhbaaGreat
namespace Go.Proofs.YtkmakliebhnhbaaGreat
open Go.RowKit
attribute [local go_sem ↓] Go.wp_at_zero Go.wp_at_succ
set_option maxRecDepth 100000 in
set_option maxHeartbeats 4000000 in
theorem told_any (fs : List (List Ins)) (reds : List Int) (N k nr nt : Nat) (seed x kind at_ : Int) (la : Option Addr) (lc : Nat) (ta : Option Addr) (tc : Nat) (r vF vR vS : Value) (S S2 : Nat → Prop) (script : List (Int × Int)) (sa : Option Addr) (sl sc : Nat) (w : World)
  (ha : ∃ a n c,vF = .slice a n c) (hb : ∃ a n c,vR = .slice a n c) (hc : ∃ a n c,vS = .slice a n c) (hw : FsWf fs) (hck : (check fs reds).1 = 0) (hk1 : 1 ≤ k) (hk8 : k ≤ 8) (hR : RefP S w r fs reds) (hsv : RdL S2 w 2 pickV (.slice sa sl sc) script) (hsc : ∀ p ∈ script,i64 p.1 ∧ i64 p.2) (hsl4 : sl ≤ 4000) (hN : Ends fs k script seed x N)
  (hnr : reds.length = nr) (hnt : (trAt fs k script seed x N).length = nt) (hV : RdV w (.slice la nr lc) (valsZ reds (traceZ fs seed x)) nr) (hT : RdL (fun _=>True) w 3 Ev.vals (.slice ta nt tc) (trAt fs k script seed x N)) :
  Calls Tryz.prog 31 #[.agg #[.slice la nr lc,.slice ta nt tc,.int .i64 ((N + 1 : Nat) : Int),.int .i64 (stealsAt fs k script seed x N : Nat),.int .i64 (failsAt fs k script seed x N : Nat),.int .i64 (framesC fs : Int)],r,.agg #[.int .i64 kind,.int .i64 at_,vF,vR,.int .u64 seed,.int .i64 x,.int .i64 (k : Int),vS],.slice sa sl sc] w fun e w'=>e = .returned (.bool true) ∧ Below w.heap.size w w':=by
 obtain ⟨fa,fn,fc,rfl⟩:=ha
 obtain ⟨qa,qn,qc,rfl⟩:=hb
 obtain ⟨ua,un,uc,rfl⟩:=hc
 obtain ⟨hn0,hn8,hr4,hok,hl10⟩:=check_ok hck hw
 have hne8:=trace_len hn8 hl10 seed x
 have hrr:=ser_r hok fs.length 0 x seed
 obtain ⟨rb,vf,vr,rfl,hrb,c0,c1,hF,hRd⟩:=id hR
 have hrbl : rb < w.heap.size:=block_lt_of_cell c0
 obtain ⟨oa,hoa⟩ : ∃ oa,Obj.cells #[.slice la nr lc,.slice ta nt tc,.int .i64 ((N + 1 : Nat) : Int),.int .i64 (stealsAt fs k script seed x N : Nat),.int .i64 (failsAt fs k script seed x N : Nat),.int .i64 (framesC fs : Int)] 69 = oa:=⟨_,rfl⟩
 obtain ⟨ob,hob⟩ : ∃ ob,Obj.cells #[.int .i64 kind,.int .i64 at_,.slice fa fn fc,.slice qa qn qc,.int .u64 seed,.int .i64 x,.int .i64 (k : Int),.slice ua un uc] 33 = ob:=⟨_,rfl⟩
 obtain ⟨W0,hW0⟩ : ∃ W0,(w.alloc oa).alloc ob = W0:=⟨_,rfl⟩
 have hb0 : Below w.heap.size w W0:=by rw [← hW0];exact ((Below.refl _ w).alloc (Nat.le_refl _) _).alloc (by simp) _
 have hs0 : W0.heap.size = w.heap.size + 2:=by rw [← hW0];simp
 have hA : W0.heap[w.heap.size]? = some oa:=by rw [← hW0];exact (Below.heap_alloc _ _ _ (by simp)).trans (World.alloc_heap_new w _)
 have hO : W0.heap[w.heap.size + 1]? = some ob:=by rw [← hW0];have:=World.alloc_heap_new (w.alloc oa) ob;rw [World.size_alloc] at this;exact this
 have HAB : Hid (∀ W : World,Below W0.heap.size W0 W → W.cell? ⟨w.heap.size,0,none⟩ = some (.slice la nr lc) ∧ W.cell? ⟨w.heap.size,1,none⟩ = some (.slice ta nt tc) ∧ W.cell? ⟨w.heap.size,2,none⟩ = some (.int .i64 ((N + 1 : Nat) : Int)) ∧ W.cell? ⟨w.heap.size,3,none⟩ = some (.int .i64 (stealsAt fs k script seed x N : Nat)) ∧ W.cell? ⟨w.heap.size,4,none⟩ = some (.int .i64 (failsAt fs k script seed x N : Nat)) ∧ W.cell? ⟨w.heap.size,5,none⟩ = some (.int .i64 (framesC fs : Int))):=fun W h=>by
  have hh:=(h.block w.heap.size (by omega)).trans hA
  subst hoa
  exact ⟨cell_of_row _ _ 0 _ _ (0,0) hh,cell_of_row _ _ 1 _ _ (0,0) hh,cell_of_row _ _ 2 _ _ (0,0) hh,cell_of_row _ _ 3 _ _ (0,0) hh,cell_of_row _ _ 4 _ _ (0,0) hh,cell_of_row _ _ 5 _ _ (0,0) hh⟩
 have HOB : Hid (∀ W : World,Below W0.heap.size W0 W → W.cell? ⟨w.heap.size + 1,4,none⟩ = some (.int .u64 seed) ∧ W.cell? ⟨w.heap.size + 1,5,none⟩ = some (.int .i64 x) ∧ W.cell? ⟨w.heap.size + 1,6,none⟩ = some (.int .i64 (k : Int))):=fun W h=>by
  have hh:=(h.block (w.heap.size + 1) (by omega)).trans hO
  subst hob
  exact ⟨cell_of_row _ _ 4 _ _ (0,0) hh,cell_of_row _ _ 5 _ _ (0,0) hh,cell_of_row _ _ 6 _ _ (0,0) hh⟩
 have HRUN:=hide (refRun_ok fs reds N rb k seed x S S2 script sa sl sc W0 hw hck hk1 hk8 (hR.turn (fun b h1 h2=>⟨h1,hb0.block b h2⟩)) (hsv.turn (fun b h1 h2=>⟨h1,hb0.block b h2⟩) (fun y _=>List.cons_ne_nil _ _)) hsc hsl4 hN)
 have HRF : Hid (∀ W : World,Below w.heap.size w W → W.cell? ⟨rb,0,none⟩ = some vf ∧ W.cell? ⟨rb,1,none⟩ = some vr ∧ RdF S W vf fs ∧ RdL (fun _=>True) W 1 int64s vr reds):=fun W h =>
  ⟨(h.cell (p:=⟨rb,0,none⟩) hrbl).trans c0,(h.cell (p:=⟨rb,1,none⟩) hrbl).trans c1,hF.below h,(hRd.turn (S':=fun _=>True) (fun b _ h2=>⟨trivial,h.block b h2⟩) (fun x _=>by simp [int64s]))⟩
 have HTR : Hid (∀ W : World,W.cell? ⟨rb,0,none⟩ = some vf → RdF S W vf fs → _):=fun W h1 h2=>trace_any fs reds.length S rb vf hn0 hn8 hok hl10 seed x W h1 h2
 obtain ⟨va,vc,hvr⟩ : ∃ va vc,vr = .slice va nr vc:=by obtain ⟨q1,q2,q3,_⟩:=hRd.form;exact ⟨q1,q2,by rw [q3,hnr]⟩
 subst hvr
 obtain ⟨p0,p1,p2,p3,p4,p5⟩:=HAB.out W0 (Below.refl _ _)
 obtain ⟨o4,o5,o6⟩:=HOB.out W0 (Below.refl _ _)
 have HV:=hide hV
 have HT:=hide hT
 have HB0:=hide hb0
 have HW0:=hide hW0
 have HCK:=hide hck
 rw [hnt] at HRUN
 obtain ⟨evs,hevs⟩ : ∃ evs,traceZ fs seed x = evs:=⟨_,rfl⟩
 have HRR : Hid (∀ e ∈ evs,∃ q : Nat,e.r = q ∧ q < reds.length):=by unfold Hid;rw [← hevs];exact hrr
 rw [hevs] at HV HTR
 have HEL : Hid (evs.length ≤ 100000000):=by unfold Hid;rw [← hevs];exact hne8
 obtain ⟨tr,htr⟩ : ∃ tr,trAt fs k script seed x N = tr:=⟨_,rfl⟩
 obtain ⟨sN,hsN⟩ : ∃ sN : Int,((N + 1 : Nat) : Int) = sN:=⟨_,rfl⟩
 obtain ⟨s1,hs1⟩ : ∃ s1 : Int,((stealsAt fs k script seed x N : Nat) : Int) = s1:=⟨_,rfl⟩
 obtain ⟨s2,hs2⟩ : ∃ s2 : Int,((failsAt fs k script seed x N : Nat) : Int) = s2:=⟨_,rfl⟩
 obtain ⟨s3,hs3⟩ : ∃ s3 : Int,(framesC fs : Int) = s3:=⟨_,rfl⟩
 rw [htr] at HT HRUN
 rw [hsN,hs1,hs2,hs3] at HRUN HAB hoa ⊢
 clear hR hsv hsc hN hV hT hb0 hA hO hw hck hn0 hok hl10 hrr hevs c0 c1 hF hRd hne8 hnt htr hsN hs1 hs2 hs3 p0 p2 p3 p4 p5
 go_enter Tryz.func31,Tryz.ntmps31
 go_wp2_with fail
 refine HRUN.out.mono ?_
 rintro e w2 ⟨ra,rc,rfl,hT2,hb2⟩
 obtain ⟨p0,p1,p2,p3,p4,p5⟩:=HAB.out w2 hb2
 have HT2:=hide hT2
 have HB2:=hide hb2
 have hz2 : w.heap.size + 2 ≤ w2.heap.size:=by have:=hb2.size;omega
 have hz3 : w.heap.size < w2.heap.size:=by omega
 clear hT2 hb2 o4 o5 o6 p0 p2 p3 p4 p5 hW0 hoa hob
 go_wp2_with fail
 obtain ⟨os,hos⟩ : ∃ os,Obj.cells #[Value.int .i64 sN,.int .i64 s1,.int .i64 s2,.int .i64 s3] 67 = os:=⟨_,rfl⟩
 rw [hos]
 have hbs : Below W0.heap.size W0 (w2.alloc os):=HB2.out.alloc HB2.out.size os
 have HSB : Hid (∀ W : World,Below (w2.alloc os).heap.size (w2.alloc os) W → W.cell? ⟨w2.heap.size,0,none⟩ = some (.int .i64 sN) ∧ W.cell? ⟨w2.heap.size,1,none⟩ = some (.int .i64 s1) ∧ W.cell? ⟨w2.heap.size,2,none⟩ = some (.int .i64 s2) ∧ W.cell? ⟨w2.heap.size,3,none⟩ = some (.int .i64 s3)):=fun W h=>by
  have hh:=(h.block w2.heap.size (by simp)).trans (heap_new w2 os)
  subst hos
  exact ⟨cell_of_row _ _ 0 _ _ (0,0) hh,cell_of_row _ _ 1 _ _ (0,0) hh,cell_of_row _ _ 2 _ _ (0,0) hh,cell_of_row _ _ 3 _ _ (0,0) hh⟩
 have HR1:=hide (HT.out.below (HB0.out.trans (hbs.mono HB0.out.size)) (fun x _=>by simp [Ev.vals]))
 have HR2:=hide (HT2.out.below ((Below.refl _ w2).alloc (Nat.le_refl _) os) (fun x _=>by simp [Ev.vals]))
 clear p1 hos
 refine (sameEvents_any tr (fun _=>True) (fun _=>True) _ _ _ HR1.out HR2.out).mono ?_
 rintro e w4 ⟨rfl,hb4⟩
 have HB4:=hide (hbs.trans (hb4.mono (by simp;omega)))
 have HW4:=hide (HB0.out.trans (HB4.out.mono HB0.out.size))
 have HS4:=hide hb4
 have hz4 : w2.heap.size < w4.heap.size:=by have:=hb4.size;simp at this;omega
 clear HR1 HR2 hb4 hbs
 obtain ⟨p0,-,-,-,-,-⟩:=HAB.out w4 HB4.out
 obtain ⟨o4,o5,-⟩:=HOB.out w4 HB4.out
 obtain ⟨r0,r1,r2,r3⟩:=HRF.out w4 HW4.out
 have R2:=hide r2
 have R3:=hide r3
 have R0:=hide r0
 have hrb4 : rb < w4.heap.size:=by omega
 have hz41 : w.heap.size < w4.heap.size:=by omega
 have hz42 : w.heap.size + 1 < w4.heap.size:=by omega
 have hnm : nr ≤ maxLen:=by unfold maxLen;omega
 have hval:=(fun W ve h1 h2=>values_ref reds evs (fun _=>True) (.slice va nr vc) ve W hr4 HEL.out h1 h2 HRR.out)
 simp only [hnr] at hval
 have HVAL:=hide hval
 have HV4:=hide (HV.out.below HW4.out)
 clear hval r0 r2 r3
 go_wp2
 go_region_held3 (fun w'=>w'.cell? ⟨w.heap.size,0,none⟩ = some (.slice la nr lc) ∧ w'.cell? ⟨rb,1,none⟩ = some (.slice va nr vc) ∧ w'.cell? ⟨w.heap.size + 1,4,none⟩ = some (.int .u64 seed) ∧ w'.cell? ⟨w.heap.size + 1,5,none⟩ = some (.int .i64 x)) (go_keep)
  ((first
   | (go_at_call 21;refine (HTR.out _ (by exact R0.out) (by exact R2.out)).mono ?_;rintro e w5 ⟨a5,c5,rfl,ho5,hb5'⟩;have hb5 : Below w4.heap.size w4 w5:=⟨hb5'.os,hb5'.tape,hb5'.output,hb5'.size,hb5'.block⟩;have hl5 : w4.heap.size ≤ w5.heap.size:=hb5.size;have y0:=(hb5.cell (p:=⟨w.heap.size,0,none⟩) hz41).trans p0;have y1:=(hb5.cell (p:=⟨rb,1,none⟩) hrb4).trans r1;have y2:=(hb5.cell (p:=⟨w.heap.size + 1,4,none⟩) hz42).trans o4;have y3:=(hb5.cell (p:=⟨w.heap.size + 1,5,none⟩) hz42).trans o5)
   | (go_at_call 24;refine (HVAL.out _ _ (by exact (R3.out.below hb5 (fun x _=>by simp [int64s]))) (by exact (own_rd (S:=fun _=>True) (enc:=Ev.vals) (l:=evs) (e:=89) ho5 evvals_len (fun _ _=>trivial)))).mono ?_;rintro e w6 ⟨LV6,rfl,hG6,hb6'⟩;have hb6 : Below w5.heap.size w5 w6:=⟨hb6'.os,hb6'.tape,hb6'.output,hb6'.size,hb6'.block⟩;have hl6 : w5.heap.size ≤ w6.heap.size:=hb6.size;have t0:=(hb6.cell (p:=⟨w.heap.size,0,none⟩) (Nat.lt_of_lt_of_le hz41 hl5)).trans y0;have t1:=(hb6.cell (p:=⟨rb,1,none⟩) (Nat.lt_of_lt_of_le hrb4 hl5)).trans y1;have t2:=(hb6.cell (p:=⟨w.heap.size + 1,4,none⟩) (Nat.lt_of_lt_of_le hz42 hl5)).trans y2;have t3:=(hb6.cell (p:=⟨w.heap.size + 1,5,none⟩) (Nat.lt_of_lt_of_le hz42 hl5)).trans y3)
   | (go_at_call 23;refine (sameValues_any nr (valsZ reds evs) _ _ _ (by exact ((HV4.out.below hb5).below hb6)) (by exact (hG6.rd hnm))).mono ?_;rintro e w7 ⟨rfl,hb7⟩;have hl7 : w6.heap.size ≤ w7.heap.size:=hb7.size;have v0:=(hb7.cell (p:=⟨w.heap.size,0,none⟩) (Nat.lt_of_lt_of_le (Nat.lt_of_lt_of_le hz41 hl5) hl6)).trans t0;have v1:=(hb7.cell (p:=⟨rb,1,none⟩) (Nat.lt_of_lt_of_le (Nat.lt_of_lt_of_le hrb4 hl5) hl6)).trans t1;have v2:=(hb7.cell (p:=⟨w.heap.size + 1,4,none⟩) (Nat.lt_of_lt_of_le (Nat.lt_of_lt_of_le hz42 hl5) hl6)).trans t2;have v3:=(hb7.cell (p:=⟨w.heap.size + 1,5,none⟩) (Nat.lt_of_lt_of_le (Nat.lt_of_lt_of_le hz42 hl5) hl6)).trans t3)))
 have HB47 : Hid (Below w4.heap.size w4 w7):=hb5.trans ((hb6.trans (hb7.mono hl6)).mono hl5)
 have HB7:=hide (HB4.out.trans (HB47.out.mono HB4.out.size))
 have HW7:=hide (HW4.out.trans (HB47.out.mono HW4.out.size))
 have HS7:=hide (HS4.out.trans (HB47.out.mono HS4.out.size))
 obtain ⟨-,-,g2,g3,g4,g5⟩:=HAB.out w7 HB7.out
 obtain ⟨k0,k1,k2,k3⟩:=HSB.out w7 HS7.out
 clear hb5 hb5' hb6 hb6' hb7 hG6 ho5 y0 y1 y2 y3 t0 t1 t2 t3 v0 v1 v2 v3 p0 o4 o5 r1 HVAL HV4 R0 R2 R3
 go_wp2
 go_ret
 exact ⟨by simp,HW7.out⟩
end Go.Proofs.YtkmakliebhnhbaaGreat
namespace Go.Proofs.YtkmakliebhnhbaaGreat
open Go.RowKit
attribute [local go_sem ↓] Go.wp_at_zero Go.wp_at_succ
def RdS (S : Nat → Prop) (W : World) (v : Value) (script : List (Int × Int)) : Prop :=
 ∃ a n c sv,v = .slice a n c ∧ ((n = 0 ∧ sv = .slice none 0 0) ∨ (0 < n ∧ ∃ b o,a = some ⟨b,o,none⟩ ∧ W.cell? ⟨b,o,none⟩ = some sv)) ∧ RdL S W 2 pickV sv script
theorem RdS.below {S : Nat → Prop} {W W' : World} {v : Value} {l : List (Int × Int)} (h : RdS S W v l) (hb : Below W.heap.size W W') : RdS S W' v l:=by
 obtain ⟨a,n,c,sv,hv,h1,h2⟩:=h
 refine ⟨a,n,c,sv,hv,?_,h2.below hb (fun x _=>List.cons_ne_nil _ _)⟩
 rcases h1 with h1 | ⟨h1,b,o,ha,hc⟩
 ·exact .inl h1
 ·exact .inr ⟨h1,b,o,ha,(hb.cell (p:=⟨b,o,none⟩) (block_lt_of_cell hc)).trans hc⟩
def upto (W : World) (m : Nat) : World:={ W with heap:=W.heap.extract 0 m }
theorem upto_size {W : World} {m : Nat} (h : m ≤ W.heap.size) : (upto W m).heap.size = m:=by simp [upto];omega
theorem upto_get {W : World} {m b : Nat} (h : m ≤ W.heap.size) (hb : b < m) : (upto W m).heap[b]? = W.heap[b]?:=by
 simp [upto,Array.getElem?_extract];intro h2;omega
theorem upto_below {W : World} {m : Nat} (h : m ≤ W.heap.size) : Below (upto W m).heap.size (upto W m) W :=
 ⟨rfl,rfl,rfl,by rw [upto_size h];exact h,fun b hb=>by rw [upto_size h] at hb;exact (upto_get h hb).symm⟩
theorem below_upto {w W : World} {m : Nat} (h : Below w.heap.size w W) (h1 : w.heap.size ≤ m) (h2 : m ≤ W.heap.size) : Below w.heap.size w (upto W m) :=
 ⟨h.os,h.tape,h.output,by rw [upto_size h2];exact h1,fun b hb=>(upto_get h2 (by omega)).trans (h.block b hb)⟩
theorem OwnV.turn {W W' : World} {base n : Nat} {lv : Value} {V : Nat → Val} {LV : Nat → Value} {xs : List Value} (h : OwnV W base lv n V LV xs) (hk : ∀ b,base ≤ b → b < W.heap.size → W'.heap[b]? = W.heap[b]?) : OwnV W' base lv n V LV xs :=
 { h with row:=own_turn h.row (fun b hb hlt=>hk b (h.row.lt b hb).1 hlt),own:=fun r hr=>own_turn (h.own r hr) (fun b hb hlt=>hk b ((h.own r hr).lt b hb).1 hlt) }
end Go.Proofs.YtkmakliebhnhbaaGreat
namespace Go.Proofs.YtkmakliebhnhbaaGreat
open Go.RowKit
attribute [local go_sem ↓] Go.wp_at_zero Go.wp_at_succ
theorem picks_rd {W : World} {base g n : Nat} {l : List (Int × Int)} (h : W.ownsRow base 26 2 (.slice (some ⟨g,0,none⟩) (n + 3) (n + 3)) (n + 3) (flat pickV (mkp l 3))) (hn : l.length = n) (hn2 : n ≤ 2000000) : RdL (fun _=>True) W 2 pickV (.slice (some ⟨g,0,none⟩) n (n + 3)) l:=by
 refine ⟨_,n + 3,by rw [hn],by omega,by unfold maxLen;omega,.inr ⟨g,0,rfl,trivial,fun k x hk j u hu=>?_⟩⟩
 have hk0:=(List.getElem?_eq_some_iff.1 hk).1
 have hj:=(List.getElem?_eq_some_iff.1 hu).1
 rw [pickv_len] at hj
 rw [Nat.zero_add,h.cellAt _ (by omega),flat_get pickv_len (mkp l 3) (k:=k) (x:=x) ?_ hj]
 ·exact hu
 ·unfold mkp
  rw [List.append_assoc,List.getElem?_append_left hk0]
  exact hk
set_option maxRecDepth 100000 in
set_option maxHeartbeats 4000000 in
theorem lawRuns_any (D : Dev) (hRun : RunSaid D) (B Bw : Nat) (S S0 : Nat → Prop) (pv rv nv ev vv p r : Value) (pu ru nu eu vu : List Value) (fs : List (List Ins)) (reds : List Int) (script : List (Int × Int)) (w : World) (kind at_ seed x wk : Int) (vF vR vS : Value)
  (ha : ∃ a n c,vF = .slice a n c) (hb : ∃ a n c,vR = .slice a n c) (hS : RdS S0 w vS script) (hsc : ∀ q ∈ script,i64 q.1 ∧ i64 q.2) (hsl : script.length ≤ 2000000)
  (hnu : nu.length ≤ 100000000) (heu : eu.length ≤ 200000000) (hvu : vu.length ≤ 200000000) (hBk : Bk w B Bw S pv rv nv ev vv pu ru nu eu vu) (hD : D.P S w p fs reds) (hR : RefP S w r fs reds) (hw : FsWf fs) (hck : (check fs reds).1 = 0) :
  Calls Tryz.prog 10 #[.pointer (some ⟨Bw,0,none⟩),p,r,.agg #[.int .i64 kind,.int .i64 at_,vF,vR,.int .u64 seed,.int .i64 x,.int .i64 wk,vS]] w fun e w'=>∃ S2 nv2 ev2 vv2 nu2 eu2 vu2,e = .returned (.bool true) ∧ Bk w' B Bw S2 pv rv nv2 ev2 vv2 pu ru nu2 eu2 vu2 ∧
   Frm (fun k=>k = Bw ∨ nv.ownBlock = some k ∨ ev.ownBlock = some k ∨ vv.ownBlock = some k) w w' ∧ (∀ b,S b → S2 b) ∧ nu2.length ≤ nu.length + 16 ∧ eu2.length ≤ eu.length + 4 ∧ vu2.length ≤ vu.length + 4:=by
 obtain ⟨fa,fn,fc,rfl⟩:=ha
 obtain ⟨qa,qn,qc,rfl⟩:=hb
 obtain ⟨ua,un,uc,sv,rfl,hsv1,hsv⟩:=hS
 obtain ⟨hn0,hn8,hr4,hok,hl10⟩:=check_ok hck hw
 obtain ⟨rb,vf,vr,rfl,hrb,c0,c1,hF,hRd⟩:=id hR
 obtain ⟨sa,scap,hsf,hsc1,hsc2⟩:=hsv.form
 obtain ⟨n,hn⟩ : ∃ n,script.length = n:=⟨_,rfl⟩
 rw [hn] at hsf hsc1 hsl
 subst hsf
 have hnil : sa = none → n = 0:=fun h=>by
  obtain ⟨a3,c3,h1,_,_,h2⟩:=hsv
  rw [hn] at h1
  cases h1
  rcases h2 with ⟨h2,h3⟩ | ⟨b3,o3,h3,_⟩
  ·rw [h2] at hn;exact hn.symm
  ·rw [h] at h3;cases h3
 obtain ⟨ob,hob⟩ : ∃ ob,Obj.cells #[.int .i64 kind,.int .i64 at_,.slice fa fn fc,.slice qa qn qc,.int .u64 seed,.int .i64 x,.int .i64 wk,.slice ua un uc] 33 = ob:=⟨_,rfl⟩
 obtain ⟨W0,hW0⟩ : ∃ W0,w.alloc ob = W0:=⟨_,rfl⟩
 have hb0 : Below w.heap.size w W0:=by rw [← hW0];exact (Below.refl _ w).alloc (Nat.le_refl _) _
 have hs0 : W0.heap.size = w.heap.size + 1:=by rw [← hW0];simp
 have hO : W0.heap[w.heap.size]? = some ob:=by rw [← hW0];exact World.alloc_heap_new w _
 have HOB : Hid (∀ W : World,W.heap[w.heap.size]? = W0.heap[w.heap.size]? → W.cell? ⟨w.heap.size,0,none⟩ = some (.int .i64 kind) ∧ W.cell? ⟨w.heap.size,1,none⟩ = some (.int .i64 at_) ∧ W.cell? ⟨w.heap.size,2,none⟩ = some (.slice fa fn fc) ∧ W.cell? ⟨w.heap.size,3,none⟩ = some (.slice qa qn qc) ∧ W.cell? ⟨w.heap.size,4,none⟩ = some (.int .u64 seed) ∧ W.cell? ⟨w.heap.size,5,none⟩ = some (.int .i64 x) ∧ W.cell? ⟨w.heap.size,6,none⟩ = some (.int .i64 wk) ∧ W.cell? ⟨w.heap.size,7,none⟩ = some (.slice ua un uc)):=fun W h=>by
  have hh:=h.trans hO
  subst hob
  exact ⟨cell_of_row _ _ 0 _ _ (0,0) hh,cell_of_row _ _ 1 _ _ (0,0) hh,cell_of_row _ _ 2 _ _ (0,0) hh,cell_of_row _ _ 3 _ _ (0,0) hh,cell_of_row _ _ 4 _ _ (0,0) hh,cell_of_row _ _ 5 _ _ (0,0) hh,cell_of_row _ _ 6 _ _ (0,0) hh,cell_of_row _ _ 7 _ _ (0,0) hh⟩
 obtain ⟨o0,o1,o2,o3,o4,o5,o6,o7⟩:=HOB.out W0 rfl
 have HS0:=hide (hsv.below hb0 (fun x _=>List.cons_ne_nil _ _))
 have HSV:=hide hsv
 have HN:=hide hn
 have HNI:=hide hnil
 have HB0:=hide hb0
 have HBk:=hide hBk
 have HD:=hide hD
 have HR:=hide hR
 have HW:=hide hw
 have HCK:=hide hck
 have HSC:=hide hsc
 have HHO:=hide hO
 have hs1 : (un = 0 ∧ Value.slice sa n scap = .slice none 0 0) ∨ (0 < un ∧ ∃ b o,ua = some ⟨b,o,none⟩ ∧ W0.cell? ⟨b,o,none⟩ = some (.slice sa n scap)):=by
  rcases hsv1 with h | ⟨h,b,o,h1,h2⟩
  ·exact .inl h
  ·exact .inr ⟨h,b,o,h1,(hb0.cell (p:=⟨b,o,none⟩) (block_lt_of_cell h2)).trans h2⟩
 clear hsv hn hnil hb0 hBk hD hR hw hck hsc hO hsv1 c0 c1 hF hRd hok hl10
 go_enter Tryz.func10,Tryz.ntmps10
 go_upto_if 20 with (fail)
 go_cut [9] from 17 (fun v wx=>wx = W0 ∧ v = .slice sa n scap)
 case first =>
  rcases hs1 with ⟨rfl,h2⟩ | ⟨h1,b,o,rfl,h2⟩
  ·cases h2
   go_wp2
   go_meet
   case rel=>exact ⟨rfl,rfl⟩
  ·have h1' : (0 : Int) < (un : Int):=by omega
   go_wp2
   go_meet
   case rel=>exact ⟨rfl,rfl⟩
 case rest =>
  obtain ⟨hwc,rfl⟩:=hcut
  have hwc:=hwc.symm
  subst hwc
  have HPK:=hide (picks_any script S0 _ W0 HS0.out (by have:=HN.out;omega))
  rw [HN.out] at HPK
  clear hs1 hob
  go_wp2_with fail
  refine HPK.out.mono ?_
  rintro e w1 ⟨rfl,ho1,hb1⟩
  have hg1 : W0.heap.size < w1.heap.size:=(ho1.lt _ rfl).2
  obtain ⟨g,hg⟩ : ∃ g,W0.heap.size = g:=⟨_,rfl⟩
  have hgs : g = w.heap.size + 1:=by omega
  rw [hg] at ho1 hg1
  rw [hg]
  have HO1:=hide ho1
  have HB1:=hide hb1
  have HBW1:=hide (HB0.out.trans (hb1.mono (by omega)))
  obtain ⟨p0,p1,p2,p3,p4,p5,p6,p7⟩:=HOB.out w1 (hb1.block _ (by omega))
  have HGS:=hide hgs
  clear ho1 hb1 HPK o0 o1 o2 o3 o4 o5 o6 o7 hg hgs
  have hq:=fun (w : World) (a : Option Addr) (n c : Nat)=>Go.Lib.run_eql_slice_nil (P:=Tryz.prog) w 27 26 a n c 0 0 Tryz.underlying27
  have hn0' : (0 : Int) ≤ (n : Int):=by omega
  have hn3' : (n : Int) ≤ (n : Int) + 3:=by omega
  go_upto_if 32 with (fail)
  go_cut [11] from 17 (fun v wx=>wx = w1 ∧ (∃ a c,v = .slice a n c) ∧ RdL (fun _=>True) w1 2 pickV v script)
  case first =>
   cases sa with
   | none =>
    have h0:=HNI.out rfl
    subst h0
    go_wp2
    go_meet
    case rel=>exact ⟨rfl,⟨none,0,rfl⟩,none,0,by have:=HN.out;rw [this],by have:=HN.out;omega,by unfold maxLen;omega,.inl ⟨List.eq_nil_of_length_eq_zero HN.out,fun _=>rfl⟩⟩
   | some a3 =>
    go_wp2
    go_meet
    case rel=>exact ⟨rfl,⟨_,_,rfl⟩,picks_rd HO1.out HN.out hsl⟩
  case rest =>
   obtain ⟨hwc,⟨ja,jc,rfl⟩,hjn⟩:=hcut
   have hwc:=hwc.symm
   subst hwc
   have hsub : ∀ b,S b → b < w.heap.size:=fun b h=>((HBk.out.st b h).1)
   have HRN:=hide (hRun fs reds S (fun _=>True) p seed x wk script (.slice ja n jc) w1 HW.out HCK.out HSC.out (D.turn HD.out (fun b h1 h2=>⟨h1,HBW1.out.block b h2⟩)) hjn)
   rw [HN.out] at HRN
   clear hjn hq
   go_wp2_with fail
   refine HRN.out.mono ?_
   rintro e w2 ⟨hb2,he1,he2⟩
   have HB2:=hide hb2
   have hz2 : w1.heap.size ≤ w2.heap.size:=hb2.size
   clear hb2 HRN p4 p5 p6 p0 p1 p2 p3 p7
   have HBL : Hid (∀ (o : Obj) (w5 : World),(w2.alloc o).grownBy w5 (some g) → Below w.heap.size w w5 ∧ (∀ b,w1.heap.size ≤ b → b < w2.heap.size → w5.heap[b]? = w2.heap[b]?) ∧ w5.heap[w.heap.size]? = W0.heap[w.heap.size]? ∧ w5.heap[w2.heap.size]? = some o ∧ w2.heap.size + 1 ≤ w5.heap.size):=fun o w5 hg5=>by
    have hgs:=HGS.out
    have hal : ∀ b,b < w2.heap.size → (w2.alloc o).heap[b]? = w2.heap[b]?:=fun b hb=>Below.heap_alloc _ _ _ hb
    have hk : ∀ b,b < w2.heap.size → b ≠ g → w5.heap[b]? = w2.heap[b]?:=fun b hb hne=>(hg5.block b (by simp;omega) (by simp;exact hne)).trans (hal b hb)
    have hsz:=hg5.size
    simp only [World.size_alloc] at hsz
    refine ⟨⟨?_,?_,?_,by omega,fun b hb=>?_⟩,fun b h1 h2=>hk b h2 (by omega),?_,?_,hsz⟩
    ·exact hg5.os.trans (HB2.out.os.trans HBW1.out.os)
    ·exact hg5.tape.trans (HB2.out.tape.trans HBW1.out.tape)
    ·exact hg5.output.trans (HB2.out.output.trans HBW1.out.output)
    ·rw [hk b (by omega) (by omega),HB2.out.block b (by omega),HBW1.out.block b hb]
    ·rw [hk _ (by omega) (by omega),HB2.out.block _ (by omega),HB1.out.block _ (by omega)]
    ·exact (hg5.block _ (by simp) (by simp;omega)).trans (heap_new w2 o)
   have HWP : Hid (∀ o : Obj,Calls Tryz.prog 29 #[.slice (some ⟨g,0,none⟩) (n + 3) (n + 3),.slice sa n scap] (w2.alloc o) fun e w'=>e = .returned (.bool true) ∧ (w2.alloc o).grownBy w' (some g)):=fun o=>by
    have hgs:=HGS.out
    have hba : Below w1.heap.size w1 (w2.alloc o):=HB2.out.alloc hz2 o
    have:=wholePicks_any script S0 (.slice sa n scap) g (n + 3) g (w2.alloc o) (HSV.out.below (HBW1.out.trans (hba.mono (by omega))) (fun x _=>List.cons_ne_nil _ _)) (by have:=HN.out;omega) (by rw [HN.out];exact own_below HO1.out hba)
    rw [HN.out] at this
    exact this
   by_cases hre : runErr wk n = 0
   ·obtain ⟨N,lv,tv,LV,xs,hen,rfl,hO,hT,hlt,hLt⟩:=he2 hre
    obtain ⟨la,lc,rfl⟩:=own_form hO.row
    obtain ⟨ta,tc,rfl⟩:=own_form hT
    obtain ⟨hw1,hw8,hsl4⟩:=runErr_ok hre
    obtain ⟨k,hk⟩ : ∃ k : Nat,(k : Int) = wk:=⟨wk.toNat,by omega⟩
    subst hk
    rw [Int.toNat_natCast] at hen hT hlt ⊢
    simp only [Int.toNat_natCast] at hLt
    clear he1 he2
    obtain ⟨nt,hnt⟩ : ∃ nt,(trAt fs k script seed x N).length = nt:=⟨_,rfl⟩
    obtain ⟨nr,hnr⟩ : ∃ nr,reds.length = nr:=⟨_,rfl⟩
    obtain ⟨hN5,_⟩:=ends_small HW.out HCK.out (by omega) (by omega) (by rw [HN.out];exact hsl4) hen
    have htl:=trAt_len (fs:=fs) (workers:=k) (script:=script) (seed:=seed) (x:=x) N
    have hne8:=trace_len hn8 (check_ok HCK.out HW.out).2.2.2.2 seed x
    rw [hnt] at hT htl hlt ⊢
    simp only [hnt] at hLt
    rw [hnr] at hO hLt hr4 hlt ⊢
    have HTD : Hid (∀ w5,RefP S w5 (.pointer (some ⟨rb,0,none⟩)) fs reds → RdL S0 w5 2 pickV (.slice sa n scap) script → RdV w5 (.slice la nr lc) (valsZ reds (traceZ fs seed x)) nr → RdL (fun _=>True) w5 3 Ev.vals (.slice ta nt tc) (trAt fs k script seed x N) → _):=fun w5 h1 h2 h3 h4 =>
     told_any fs reds N k nr nt seed x kind at_ la lc ta tc (.pointer (some ⟨rb,0,none⟩)) (.slice fa fn fc) (.slice qa qn qc) (.slice ua un uc) S S0 script sa n scap w5 ⟨_,_,_,rfl⟩ ⟨_,_,_,rfl⟩ ⟨_,_,_,rfl⟩ HW.out HCK.out (by omega) (by omega) h1 h2 HSC.out hsl4 hen hnr hnt h3 h4
    obtain ⟨tr,htr⟩ : ∃ tr,trAt fs k script seed x N = tr:=⟨_,rfl⟩
    obtain ⟨sN,hsN⟩ : ∃ sN : Int,((N + 1 : Nat) : Int) = sN:=⟨_,rfl⟩
    obtain ⟨s1,hs1⟩ : ∃ s1 : Int,((stealsAt fs k script seed x N : Nat) : Int) = s1:=⟨_,rfl⟩
    obtain ⟨s2,hs2⟩ : ∃ s2 : Int,((failsAt fs k script seed x N : Nat) : Int) = s2:=⟨_,rfl⟩
    obtain ⟨s3,hs3⟩ : ∃ s3 : Int,(framesC fs : Int) = s3:=⟨_,rfl⟩
    rw [htr] at HTD hT hnt
    rw [hsN,hs1,hs2,hs3] at HTD ⊢
    have HO:=hide hO
    have HT:=hide hT
    have HLT:=hide hlt
    have HLT2:=hide hLt
    have HNT:=hide hnt
    have HNR:=hide hnr
    have HNE:=hide hne8
    obtain ⟨oa,hoa⟩ : ∃ oa,Obj.cells #[.slice la nr lc,.slice ta nt tc,.int .i64 sN,.int .i64 s1,.int .i64 s2,.int .i64 s3] 69 = oa:=⟨_,rfl⟩
    have HOA:=hide hoa
    clear hO hT hlt hLt hnt hnr hne8 hen htr hsN hs1 hs2 hs3 hoa hre
    go_wp2_with fail
    rw [HOA.out]
    refine (HWP.out oa).mono ?_
    rintro e w5 ⟨rfl,hg5⟩
    obtain ⟨b1,b2,b3,b4,b5⟩:=HBL.out oa w5 hg5
    have HW5:=hide b1
    have HO5:=hide (HO.out.turn b2)
    have HT5:=hide (own_turn HT.out (fun b hb hlt=>b2 b (HT.out.lt b hb).1 hlt))
    have HAB : Hid (∀ W : World,W.heap[w2.heap.size]? = some oa → W.cell? ⟨w2.heap.size,0,none⟩ = some (.slice la nr lc) ∧ W.cell? ⟨w2.heap.size,1,none⟩ = some (.slice ta nt tc) ∧ W.cell? ⟨w2.heap.size,2,none⟩ = some (.int .i64 sN) ∧ W.cell? ⟨w2.heap.size,3,none⟩ = some (.int .i64 s1) ∧ W.cell? ⟨w2.heap.size,4,none⟩ = some (.int .i64 s2) ∧ W.cell? ⟨w2.heap.size,5,none⟩ = some (.int .i64 s3)):=fun W h=>by
     rw [← HOA.out] at h
     exact ⟨cell_of_row _ _ 0 _ _ (0,0) h,cell_of_row _ _ 1 _ _ (0,0) h,cell_of_row _ _ 2 _ _ (0,0) h,cell_of_row _ _ 3 _ _ (0,0) h,cell_of_row _ _ 4 _ _ (0,0) h,cell_of_row _ _ 5 _ _ (0,0) h⟩
    have HB4:=hide b4
    obtain ⟨o0,o1,o2,o3,o4,o5,o6,o7⟩:=HOB.out w5 b3
    obtain ⟨a0,a1,a2,a3,a4,a5⟩:=HAB.out w5 b4
    have x1 : ¬ ((k : Int) < 1):=by omega
    have x2 : ¬ ((8 : Int) < (k : Int)):=by omega
    have x3 : ¬ ((4000 : Int) < (n : Int)):=by omega
    have y1 : decide ((k : Int) < 1) = false:=decide_eq_false x1
    have y2 : decide ((8 : Int) < (k : Int)) = false:=decide_eq_false x2
    have y3 : decide ((4000 : Int) < (n : Int)) = false:=decide_eq_false x3
    have HNM:=hide (fun W=>num_any 0 W)
    have HZ5:=hide b5
    clear b1 b2 b3 b4 b5 hg5
    go_wp2_with fail
    refine (HNM.out w5).mono ?_
    rintro e w6 ⟨rfl,hw6⟩
    obtain rfl : w5 = w6:=hw6.symm
    clear hw6
    go_wp2_with fail
    refine (HTD.out w5 (HR.out.turn (fun b h1 h2=>⟨h1,HW5.out.block b h2⟩)) (HSV.out.below HW5.out (fun x _=>List.cons_ne_nil _ _)) HO5.out.rd (by have:=own_rd (S:=fun _=>True) (enc:=Ev.vals) (l:=tr) (W:=w5) (base:=w1.heap.size) (e:=89) (v:=.slice ta nt tc) (by rw [HNT.out,← evCells_flat];exact HT5.out) evvals_len (fun _ _=>trivial);exact this)).mono ?_
    rintro e w7 ⟨rfl,hb7⟩
    have h7 : w7.heap[w2.heap.size]? = some oa:=(hb7.block _ (by have:=HZ5.out;omega)).trans HB4.out
    obtain ⟨u0,u1,u2,u3,u4,u5⟩:=HAB.out w7 h7
    have HW7:=hide (HW5.out.trans (hb7.mono HW5.out.size))
    have hm7 : w1.heap.size ≤ w7.heap.size:=by have:=HZ5.out;have:=hb7.size;omega
    have hX : Below w.heap.size w (upto w7 w1.heap.size):=below_upto HW7.out (by have:=HGS.out;omega) hm7
    have HX:=hide hX
    have hus:=upto_size hm7
    have HKP:=hide (keep_any B Bw nr nt S (.slice la nr lc) (.slice ta nt tc) pv rv nv ev vv pu ru nu eu vu xs (evCells tr) (valsZ reds (traceZ fs seed x)) LV sN s1 s2 s3 (upto w7 w1.heap.size) w7 hr4 (by omega) hnu heu hvu (fun r _=>Nat.le_trans (valsZ_len reds _ r) (by have:=HNE.out;omega)) (HBk.out.below hX) (upto_below hm7) (by rw [hus];exact HO5.out.below hb7) (by rw [hus];exact own_below HT5.out hb7) HLT.out HLT2.out)
    clear hb7 h7 hX hus o0 o1 o2 o3 o4 o5 o6 o7 a0 a1 a2 a3 a4 a5
    go_wp2_with fail
    refine HKP.out.mono ?_
    rintro e w9 ⟨S9,nv9,ev9,vv9,nu9,eu9,vu9,rfl,hB9,hF9,hsub9,hn9,he9,hv9,hf9⟩
    have HRES : Hid (Bk w9 B Bw S9 pv rv nv9 ev9 vv9 pu ru nu9 eu9 vu9 ∧ Frm (fun k=>k = Bw ∨ nv.ownBlock = some k ∨ ev.ownBlock = some k ∨ vv.ownBlock = some k) w w9 ∧ (∀ b,S b → S9 b) ∧ nu9.length ≤ nu.length + 16 ∧ eu9.length ≤ eu.length + 4 ∧ vu9.length ≤ vu.length + 4) :=
     ⟨hB9,(Frm.of_below _ HX.out).trans hF9 (fun _ _ h=>h),hsub9,by omega,by omega,by omega⟩
    clear hB9 hF9 hsub9 hn9 he9 hv9 hf9 HKP u0 u1 u2 u3 u4 u5
    go_wp2
    go_ret
    exact ⟨S9,nv9,ev9,vv9,nu9,eu9,vu9,by simp,HRES.out⟩
   ·have he:=he1 hre
    subst he
    clear he1 he2
    obtain ⟨oa,hoa⟩ : ∃ oa,Obj.cells #[.slice none 0 0,.slice none 0 0,.int .i64 0,.int .i64 0,.int .i64 0,.int .i64 0] 69 = oa:=⟨_,rfl⟩
    have HOA:=hide hoa
    clear hoa
    obtain ⟨er,her⟩ : ∃ er,runErr wk n = er:=⟨_,rfl⟩
    have HER:=hide her
    rw [her] at hre ⊢
    go_wp2_with fail
    rw [HOA.out]
    refine (HWP.out oa).mono ?_
    rintro e w5 ⟨rfl,hg5⟩
    obtain ⟨b1,b2,b3,b4,b5⟩:=HBL.out oa w5 hg5
    have HW5:=hide b1
    have hc5 : w5.cell? ⟨w2.heap.size,0,none⟩ = some (.slice none 0 0) ∧ w5.cell? ⟨w2.heap.size,1,none⟩ = some (.slice none 0 0) ∧ w5.cell? ⟨w2.heap.size,2,none⟩ = some (.int .i64 0) ∧ w5.cell? ⟨w2.heap.size,3,none⟩ = some (.int .i64 0) ∧ w5.cell? ⟨w2.heap.size,4,none⟩ = some (.int .i64 0) ∧ w5.cell? ⟨w2.heap.size,5,none⟩ = some (.int .i64 0):=by
     have h:=b4
     rw [← HOA.out] at h
     exact ⟨cell_of_row _ _ 0 _ _ (0,0) h,cell_of_row _ _ 1 _ _ (0,0) h,cell_of_row _ _ 2 _ _ (0,0) h,cell_of_row _ _ 3 _ _ (0,0) h,cell_of_row _ _ 4 _ _ (0,0) h,cell_of_row _ _ 5 _ _ (0,0) h⟩
    obtain ⟨o0,o1,o2,o3,o4,o5,o6,o7⟩:=HOB.out w5 b3
    obtain ⟨a0,a1,a2,a3,a4,a5⟩:=hc5
    have HNM:=hide (fun W=>num_any er W)
    have HEM:=hide (empty_any w5)
    have HRS : Hid (∀ w9,Below w5.heap.size w5 w9 → Bk w9 B Bw S pv rv nv ev vv pu ru nu eu vu ∧ Frm (fun k=>k = Bw ∨ nv.ownBlock = some k ∨ ev.ownBlock = some k ∨ vv.ownBlock = some k) w w9 ∧ (∀ b,S b → S b) ∧ nu.length ≤ nu.length + 16 ∧ eu.length ≤ eu.length + 4 ∧ vu.length ≤ vu.length + 4):=fun w9 h=>by
     have hb:=HW5.out.trans (h.mono HW5.out.size)
     exact ⟨HBk.out.below hb,Frm.of_below _ hb,fun _ h=>h,by omega,by omega,by omega⟩
    clear b1 b2 b3 b4 b5 hg5
    have hcase : (wk < 1 ∧ er = 5) ∨ (¬ wk < 1 ∧ 8 < wk ∧ er = 5) ∨ (¬ wk < 1 ∧ ¬ 8 < wk ∧ (4000 : Int) < (n : Int) ∧ er = 6):=by
     have h:=HER.out
     unfold runErr at h
     split at h
     ·omega
     ·split at h <;> omega
    rcases hcase with ⟨x1,rfl⟩ | ⟨x1,x2,rfl⟩ | ⟨x1,x2,x3,rfl⟩
    ·go_wp2_with fail
     refine (HNM.out w5).mono ?_
     rintro e w6 ⟨rfl,hw6⟩
     obtain rfl : w5 = w6:=hw6.symm
     clear hw6
     go_wp2_with fail
     refine HEM.out.mono ?_
     rintro e w7 ⟨rfl,hb7⟩
     have HB7:=hide hb7
     clear hb7
     go_wp2
     go_ret
     exact ⟨S,nv,ev,vv,nu,eu,vu,by simp,HRS.out w7 HB7.out⟩
    ·have y1 : decide (wk < 1) = false:=decide_eq_false x1
     go_wp2_with fail
     refine (HNM.out w5).mono ?_
     rintro e w6 ⟨rfl,hw6⟩
     obtain rfl : w5 = w6:=hw6.symm
     clear hw6
     go_wp2_with fail
     refine HEM.out.mono ?_
     rintro e w7 ⟨rfl,hb7⟩
     have HB7:=hide hb7
     clear hb7
     go_wp2
     go_ret
     exact ⟨S,nv,ev,vv,nu,eu,vu,by simp,HRS.out w7 HB7.out⟩
    ·have y1 : decide (wk < 1) = false:=decide_eq_false x1
     have y2 : decide (8 < wk) = false:=decide_eq_false x2
     go_wp2_with fail
     refine (HNM.out w5).mono ?_
     rintro e w6 ⟨rfl,hw6⟩
     obtain rfl : w5 = w6:=hw6.symm
     clear hw6
     go_wp2_with fail
     refine HEM.out.mono ?_
     rintro e w7 ⟨rfl,hb7⟩
     have HB7:=hide hb7
     clear hb7
     go_wp2
     go_ret
     exact ⟨S,nv,ev,vv,nu,eu,vu,by simp,HRS.out w7 HB7.out⟩
end Go.Proofs.YtkmakliebhnhbaaGreat
