import Derived.Deep.DrawnRows
import Derived.Test.YtkmakliebhnhbaaGreatSaid
namespace Go.Proofs.YtkmakliebhnhbaaGreat
open Go.RowKit
attribute [local go_sem ↓] Go.wp_at_zero Go.wp_at_succ
set_option maxRecDepth 100000 in
set_option maxHeartbeats 2000000 in
theorem lawSerial_any (D : Dev) (hSer : SerialSaid D) (B Bw : Nat) (S : Nat → Prop) (pv rv nv ev vv p r : Value) (pu ru nu eu vu : List Value) (fs : List (List Ins)) (reds : List Int) (w : World) (kind at_ seed x wk : Int) (vF vR vS : Value)
  (ha : ∃ a n c,vF = .slice a n c) (hb : ∃ a n c,vR = .slice a n c) (hc : ∃ a n c,vS = .slice a n c) (hsd : u64 seed) (hx : i64 x)
  (hnu : nu.length ≤ 100000000) (heu : eu.length ≤ 200000000) (hvu : vu.length ≤ 200000000) (hBk : Bk w B Bw S pv rv nv ev vv pu ru nu eu vu) (hD : D.P S w p fs reds) (hR : RefP S w r fs reds) (hw : FsWf fs) (hck : (check fs reds).1 = 0) :
  Calls Tryz.prog 8 #[.pointer (some ⟨Bw,0,none⟩),p,r,.agg #[.int .i64 kind,.int .i64 at_,vF,vR,.int .u64 seed,.int .i64 x,.int .i64 wk,vS]] w fun e w'=>∃ S2 nv2 ev2 vv2 nu2 eu2 vu2,e = .returned (.bool true) ∧ Bk w' B Bw S2 pv rv nv2 ev2 vv2 pu ru nu2 eu2 vu2 ∧
   Frm (fun k=>k = Bw ∨ nv.ownBlock = some k ∨ ev.ownBlock = some k ∨ vv.ownBlock = some k) w w' ∧ (∀ b,S b → S2 b) ∧ nu2.length = nu.length + 4 * reds.length ∧ eu2.length = eu.length + 4 ∧ vu2.length = vu.length + 4:=by
 obtain ⟨fa,fn,fc,rfl⟩:=ha
 obtain ⟨qa,qn,qc,rfl⟩:=hb
 obtain ⟨sa,sn,sc,rfl⟩:=hc
 obtain ⟨hn0,hn8,hr4,hok,hl10⟩:=check_ok hck hw
 obtain ⟨rb,vf,vr,rfl,hrb,c0,c1,hF,hRd⟩:=hR
 have hrbl : rb < w.heap.size:=block_lt_of_cell c0
 obtain ⟨o,ho⟩ : ∃ o,Obj.cells #[.int .i64 kind,.int .i64 at_,.slice fa fn fc,.slice qa qn qc,.int .u64 seed,.int .i64 x,.int .i64 wk,.slice sa sn sc] 33 = o:=⟨_,rfl⟩
 have hb1 : Below w.heap.size w (w.alloc o):=(Below.refl _ w).alloc (Nat.le_refl _) o
 have HD1:=hide (hSer fs reds S p seed x (w.alloc o) hw hck hsd hx (D.turn hD (fun b h1 h2=>⟨h1,hb1.block b h2⟩)))
 have HOO:=hide ho
 have hbx : ∀ w2 : World,Below (w.alloc o).heap.size (w.alloc o) w2 → ∀ j,w2.cell? ⟨w.heap.size,j,none⟩ = (w.alloc o).cell? ⟨w.heap.size,j,none⟩:=fun w2 h j=>h.cell (p:=⟨w.heap.size,j,none⟩) (by simp)
 have HBX : Hid (∀ w2 : World,Below (w.alloc o).heap.size (w.alloc o) w2 → w2.cell? ⟨w.heap.size,4,none⟩ = some (.int .u64 seed) ∧ w2.cell? ⟨w.heap.size,5,none⟩ = some (.int .i64 x)):=fun w2 h=>by
  rw [hbx w2 h 4,hbx w2 h 5]
  subst ho
  exact ⟨cell_of_row _ w.heap.size 4 _ _ (0,0) (heap_new w _),cell_of_row _ w.heap.size 5 _ _ (0,0) (heap_new w _)⟩
 clear hbx ho
 go_enter Tryz.func8,Tryz.ntmps8
 go_wp2_with fail
 rw [HOO.out]
 refine HD1.out.mono ?_
 rintro e w2 ⟨lv,tv,LV,xs,rfl,hO,hT,hlt,hLt,hb2⟩
 obtain ⟨la,lc,rfl⟩:=own_form hO.row
 obtain ⟨ta,tc,rfl⟩:=own_form hT
 obtain ⟨nt,hnt⟩ : ∃ nt,(traceZ fs seed x).length = nt:=⟨_,rfl⟩
 obtain ⟨nr,hnr⟩ : ∃ nr,reds.length = nr:=⟨_,rfl⟩
 obtain ⟨oa,hoa⟩ : ∃ oa,Obj.cells #[.slice la nr lc,.slice ta nt tc,.int .i64 0,.int .i64 0,.int .i64 0,.int .i64 (framesC fs)] 69 = oa:=⟨_,rfl⟩
 have hb3 : Below (w.alloc o).heap.size (w.alloc o) (w2.alloc oa):=hb2.alloc hb2.size oa
 have hbw3 : Below w.heap.size w (w2.alloc oa):=hb1.trans (hb3.mono (by simp))
 obtain ⟨hs,hxx⟩:=HBX.out w2 hb2
 obtain ⟨hs3,hxx3⟩:=HBX.out (w2.alloc oa) hb3
 have hsz2 : (w.alloc o).heap.size ≤ w2.heap.size:=hb2.size
 have hwo : (w.alloc o).heap.size = w.heap.size + 1:=by simp
 rw [hwo] at hsz2
 have hne8:=trace_len hn8 hl10 seed x
 have hrr:=ser_r hok fs.length 0 x seed
 have hrd' : RdL (fun _=>True) w 1 int64s vr reds:=hRd.turn (fun b _ _=>⟨trivial,rfl⟩) (fun x _=>by simp [int64s])
 obtain ⟨va,vc,hvr⟩ : ∃ va vc,vr = .slice va nr vc:=by obtain ⟨q1,q2,q3,_⟩:=hRd.form;exact ⟨q1,q2,by rw [q3,hnr]⟩
 subst hvr
 obtain ⟨evs,hevs⟩ : ∃ evs,traceZ fs seed x = evs:=⟨_,rfl⟩
 obtain ⟨fr,hfr⟩ : ∃ fr,framesC fs = fr:=⟨_,rfl⟩
 have hfr301 : fr ≤ 301:=by rw [← hfr];exact cntsC_le _ _ _
 rw [hfr] at hoa
 rw [hevs] at hO hT hnt hne8
 rw [hnt] at hT hne8
 rw [hnr] at hO hLt hr4 hlt
 rw [hevs,hnt] at hlt hLt
 rw [hevs,hnt,hnr,hfr]
 have HAB : Hid (∀ W : World,Below (w2.alloc oa).heap.size (w2.alloc oa) W → W.cell? ⟨w2.heap.size,0,none⟩ = some (.slice la nr lc) ∧ W.cell? ⟨w2.heap.size,1,none⟩ = some (.slice ta nt tc) ∧ W.cell? ⟨w2.heap.size,2,none⟩ = some (.int .i64 0) ∧ W.cell? ⟨w2.heap.size,3,none⟩ = some (.int .i64 0) ∧ W.cell? ⟨w2.heap.size,4,none⟩ = some (.int .i64 0) ∧ W.cell? ⟨w2.heap.size,5,none⟩ = some (.int .i64 fr)):=fun W h=>by
  have hc : ∀ j,W.cell? ⟨w2.heap.size,j,none⟩ = (w2.alloc oa).cell? ⟨w2.heap.size,j,none⟩:=fun j=>h.cell (p:=⟨w2.heap.size,j,none⟩) (by simp)
  rw [hc,hc,hc,hc,hc,hc]
  subst hoa
  have hh:=heap_new w2 (.cells #[.slice la nr lc,.slice ta nt tc,.int .i64 0,.int .i64 0,.int .i64 0,.int .i64 fr] 69)
  exact ⟨cell_of_row _ _ 0 _ _ (0,0) hh,cell_of_row _ _ 1 _ _ (0,0) hh,cell_of_row _ _ 2 _ _ (0,0) hh,cell_of_row _ _ 3 _ _ (0,0) hh,cell_of_row _ _ 4 _ _ (0,0) hh,cell_of_row _ _ 5 _ _ (0,0) hh⟩
 have HRF : Hid (∀ W : World,Below w.heap.size w W → W.cell? ⟨rb,0,none⟩ = some vf ∧ W.cell? ⟨rb,1,none⟩ = some (.slice va nr vc) ∧ RdF S W vf fs ∧ RdL (fun _=>True) W 1 int64s (.slice va nr vc) reds):=fun W h =>
  ⟨(h.cell (p:=⟨rb,0,none⟩) hrbl).trans c0,(h.cell (p:=⟨rb,1,none⟩) hrbl).trans c1,hF.below h,hrd'.below h (fun x _=>by simp [int64s])⟩
 have HW3:=hide hbw3
 have HB3:=hide hb3
 have HB2:=hide hb2
 have HO:=hide hO
 have HT:=hide hT
 have HLT:=hide hlt
 have HLT2:=hide hLt
 have HRR : Hid (∀ e ∈ evs,∃ q : Nat,e.r = q ∧ q < reds.length):=by unfold Hid;rw [← hevs];exact hrr
 have HOK:=hide hok
 have HL10:=hide hl10
 have HEV:=hide hevs
 have HNT:=hide hnt
 have HNR:=hide hnr
 have HOA:=hide hoa
 have HBk:=hide hBk
 have HFR:=hide hfr
 have hlen8 : nt ≤ 100000000:=hne8
 have habl : w.heap.size < w2.heap.size:=by omega
 clear HD1 hRd hrd' hF c0 c1 hD hBk hbw3 hb3 hb2 hO hT hlt hLt hrr hok hl10 hevs hnt hnr hoa hfr hne8 HBX hsz2 hwo hb1
 go_wp2_with fail
 rw [HOA.out]
 obtain ⟨q0,q1,q2,q3⟩:=HRF.out _ HW3.out
 have HTR:=hide (trace_any fs reds.length S rb vf hn0 hn8 HOK.out HL10.out seed x (w2.alloc oa) q0 q2)
 clear q0 q1 q2 q3
 refine HTR.out.mono ?_
 rintro e w4 ⟨a4,c4,rfl,ho4,hb4⟩
 rw [HEV.out,HNT.out] at ho4
 rw [HEV.out,HNT.out]
 have HR1:=hide (own_rd (S:=fun _=>True) (enc:=Ev.vals) (l:=evs) (base:=(w.alloc o).heap.size) (e:=89) (by rw [HNT.out,← evCells_flat];exact own_below (own_below HT.out ((Below.refl _ w2).alloc (Nat.le_refl _) oa)) hb4) evvals_len (fun _ _=>trivial))
 have HR2:=hide (own_rd (S:=fun _=>True) (enc:=Ev.vals) (l:=evs) (base:=(w2.alloc oa).heap.size) (e:=89) (by rw [HNT.out,← evCells_flat];exact ho4) evvals_len (fun _ _=>trivial))
 obtain ⟨p0,p1,p2,p3,p4,p5⟩:=HAB.out w4 hb4
 have HW4:=hide (HW3.out.trans (hb4.mono (by simp;omega)))
 have HB4:=hide hb4
 have hz4 : w2.heap.size < w4.heap.size:=by have:=hb4.size;simp at this;omega
 clear ho4 hb4 HTR hs hxx hs3 hxx3 p2 p3 p4 p5 p0
 go_wp2_with fail
 refine (sameEvents_any evs (fun _=>True) (fun _=>True) _ _ w4 HR1.out HR2.out).mono ?_
 rintro e w5 ⟨rfl,hb5⟩
 have HW5:=hide (HW4.out.trans (hb5.mono HW4.out.size))
 have HB5:=hide (HB4.out.trans (hb5.mono HB4.out.size))
 obtain ⟨p0,p1',p2,p3,p4,p5⟩:=HAB.out w5 HB5.out
 obtain ⟨r0,r1,r2,r3⟩:=HRF.out w5 HW5.out
 have HR3:=hide r3
 have HR4:=hide (HR2.out.below hb5 (fun x _=>by simp [Ev.vals]))
 have hz5 : w2.heap.size < w5.heap.size:=by have:=hb5.size;omega
 have hrb5 : rb < w5.heap.size:=by have:=HW5.out.size;omega
 clear hb5 p1 p1' p2 p3 p4 p5 r0 r2 r3 HR1 HR2
 have HOV5:=hide ((HO.out.below ((Below.refl _ w2).alloc (Nat.le_refl _) oa)).below HB5.out)
 have hval:=(fun W h1 h2=>values_ref reds evs (fun _=>True) (.slice va nr vc) (.slice a4 nt c4) W (by rw [HNR.out];exact hr4) (by rw [HNT.out];exact hlen8) h1 h2 HRR.out)
 simp only [HNR.out] at hval
 have HVAL:=hide hval
 have hnm : nr ≤ maxLen:=by unfold maxLen;omega
 clear hval
 go_wp2
 go_region_held3 (fun w'=>w'.cell? ⟨w2.heap.size,0,none⟩ = some (.slice la nr lc) ∧ w'.cell? ⟨rb,1,none⟩ = some (.slice va nr vc)) (go_keep)
  ((first
   | (go_at_call 24;refine (HVAL.out _ (by exact HR3.out) (by exact HR4.out)).mono ?_;rintro e w6 ⟨LV6,rfl,hG6,hb6'⟩;have hb6 : Below w5.heap.size w5 w6:=⟨hb6'.os,hb6'.tape,hb6'.output,hb6'.size,hb6'.block⟩;have t0:=(hb6.cell (p:=⟨w2.heap.size,0,none⟩) hz5).trans p0;have t1:=(hb6.cell (p:=⟨rb,1,none⟩) hrb5).trans r1;have hz6a : w2.heap.size < w6.heap.size:=Nat.lt_of_lt_of_le hz5 hb6.size;have hz6b : rb < w6.heap.size:=Nat.lt_of_lt_of_le hrb5 hb6.size)
   | (go_at_call 23;refine (sameValues_any nr (valsZ reds evs) _ _ _ (by exact (HOV5.out.below hb6).rd) (by exact (hG6.rd hnm))).mono ?_;rintro e w7 ⟨rfl,hb7⟩;have v0:=(hb7.cell (p:=⟨w2.heap.size,0,none⟩) hz6a).trans t0;have v1:=(hb7.cell (p:=⟨rb,1,none⟩) hz6b).trans t1)))
 have HB67 : Hid (Below w5.heap.size w5 w7):=hb6.trans (hb7.mono hb6.size)
 have HW7:=hide (HW5.out.trans (HB67.out.mono HW5.out.size))
 have HB7:=hide (HB5.out.trans (HB67.out.mono HB5.out.size))
 obtain ⟨f0,f1,f2,f3⟩:=HRF.out w7 HW7.out
 have HFC:=hide (frames_any fs reds.length S rb vf w7 hn0 hn8 HOK.out HL10.out f0 f2)
 clear hb6 hb6' hb7 hG6 t0 t1 v0 v1 p0 r1 hz6a hz6b HVAL HOV5 HR3 HR4 f0 f1 f2 f3 hz4 hz5 hrb5
 go_wp2_with fail
 refine HFC.out.mono ?_
 rintro e w8 ⟨rfl,hb8⟩
 rw [HFR.out]
 have HW8:=hide (HW7.out.trans (hb8.mono HW7.out.size))
 have HB8:=hide (HB7.out.trans (hb8.mono HB7.out.size))
 obtain ⟨p0,p1,p2,p3,p4,p5⟩:=HAB.out w8 HB8.out
 have HBK : Hid (Below (w.alloc o).heap.size (w.alloc o) w8):=HB3.out.trans (HB8.out.mono HB3.out.size)
 have HO8:=hide ((HO.out.below ((Below.refl _ w2).alloc (Nat.le_refl _) oa)).below HB8.out)
 have HT8:=hide (own_below (own_below HT.out ((Below.refl _ w2).alloc (Nat.le_refl _) oa)) HB8.out)
 have HKP:=hide (keep_any B Bw nr nt S (.slice la nr lc) (.slice ta nt tc) pv rv nv ev vv pu ru nu eu vu xs (evCells evs) (valsZ reds evs) LV 0 0 0 fr (w.alloc o) w8 hr4 (by omega) hnu heu hvu (fun r _=>Nat.le_trans (valsZ_len reds evs r) (by have:=HNT.out;omega)) (HBk.out.below ((Below.refl _ w).alloc (Nat.le_refl _) o)) HBK.out HO8.out HT8.out HLT.out HLT2.out)
 have hz8 : w2.heap.size < w8.heap.size:=by have:=HB8.out.size;simp at this;omega
 clear hb8 HFC
 go_wp2_with fail
 refine HKP.out.mono ?_
 rintro e w9 ⟨S9,nv9,ev9,vv9,nu9,eu9,vu9,rfl,hB9,hF9,hsub9,hn9,he9,hv9,hf9⟩
 have hbk : w9.heap[w2.heap.size]? = w8.heap[w2.heap.size]?:=hf9.block _ hz8 (fun h=>by
  rcases h with h | h | h | h | h | h | ⟨r,hr,h⟩
  ·have:=HBk.out.lt;omega
  ·have:=(HBk.out.on.lt _ h).2;omega
  ·have:=(HBk.out.oe.lt _ h).2;omega
  ·have:=(HBk.out.ov.lt _ h).2;omega
  ·have:=(HO.out.row.lt _ h).2;omega
  ·have:=(HT.out.lt _ h).2;omega
  ·have:=((HO.out.own r hr).lt _ h).2;omega)
 have u2:=(World.cell?_of_block (w:=w8) (a:=⟨w2.heap.size,2,none⟩) hbk).trans p2
 have u3:=(World.cell?_of_block (w:=w8) (a:=⟨w2.heap.size,3,none⟩) hbk).trans p3
 have u4:=(World.cell?_of_block (w:=w8) (a:=⟨w2.heap.size,4,none⟩) hbk).trans p4
 have u5:=(World.cell?_of_block (w:=w8) (a:=⟨w2.heap.size,5,none⟩) hbk).trans p5
 have HRES : Hid (Bk w9 B Bw S9 pv rv nv9 ev9 vv9 pu ru nu9 eu9 vu9 ∧ Frm (fun k=>k = Bw ∨ nv.ownBlock = some k ∨ ev.ownBlock = some k ∨ vv.ownBlock = some k) w w9 ∧ (∀ b,S b → S9 b) ∧ nu9.length = nu.length + 4 * reds.length ∧ eu9.length = eu.length + 4 ∧ vu9.length = vu.length + 4) :=
  ⟨hB9,((Frm.refl _ w).alloc o).trans hF9 (fun _ _ h=>h),hsub9,by rw [HNR.out];exact hn9,he9,hv9⟩
 clear hB9 hF9 hsub9 hn9 he9 hv9 hf9 hbk p0 p1 p2 p3 p4 p5 HKP
 go_wp2
 go_ret
 exact ⟨S9,nv9,ev9,vv9,nu9,eu9,vu9,by simp,HRES.out⟩
end Go.Proofs.YtkmakliebhnhbaaGreat
