import Derived.Deep.DrawnRows
import Derived.Test.YtkmakliebhnhbaaGreatLwG
import Derived.Test.YtkmakliebhnhbaaGreatSmAt
namespace Go.Proofs.YtkmakliebhnhbaaGreat
open Go.RowKit
structure OpR where
 kind : Int
 at_ : Int
 fs : List (List Ins)
 reds : List Int
 seed : Int
 x : Int
 wk : Int
 script : List (Int × Int)
def OpR.ok (o : OpR) : Prop:=i64 o.kind ∧ i64 o.at_ ∧ u64 o.seed ∧ i64 o.x ∧ FsWf o.fs ∧ Small o.fs o.reds ∧ (∀ r ∈ o.reds,i64 r) ∧ (∀ q ∈ o.script,i64 q.1 ∧ i64 q.2) ∧ o.script.length ≤ 2000000
def RdOpsR (S : Nat → Prop) (W : World) (v : Value) (l : List OpR) : Prop :=
 ∃ a cap,v = .slice a l.length cap ∧ l.length ≤ cap ∧ cap ≤ maxLen ∧ ∀ k o,l[k]? = some o → ∃ b off vF vR vS,a = some ⟨b,off,none⟩ ∧
  W.cell? ⟨b,off + k * 8,none⟩ = some (.int .i64 o.kind) ∧ W.cell? ⟨b,off + k * 8 + 1,none⟩ = some (.int .i64 o.at_) ∧ W.cell? ⟨b,off + k * 8 + 2,none⟩ = some vF ∧ W.cell? ⟨b,off + k * 8 + 3,none⟩ = some vR ∧
  W.cell? ⟨b,off + k * 8 + 4,none⟩ = some (.int .u64 o.seed) ∧ W.cell? ⟨b,off + k * 8 + 5,none⟩ = some (.int .i64 o.x) ∧ W.cell? ⟨b,off + k * 8 + 6,none⟩ = some (.int .i64 o.wk) ∧ W.cell? ⟨b,off + k * 8 + 7,none⟩ = some vS ∧
  RdS S W vS o.script ∧ RdF S W vF o.fs ∧ RdL S W 1 int64s vR o.reds
theorem RdOpsR.below {S : Nat → Prop} {W W' : World} {v : Value} {l : List OpR} (h : RdOpsR S W v l) (hb : Below W.heap.size W W') : RdOpsR S W' v l:=by
 obtain ⟨a,cap,hv,h1,h2,h⟩:=h
 refine ⟨a,cap,hv,h1,h2,fun k o hk=>?_⟩
 obtain ⟨b,off,vF,vR,vS,ha,c0,c1,c2,c3,c4,c5,c6,c7,hs,hF,hR⟩:=h k o hk
 have hlt : b < W.heap.size:=block_lt_of_cell c0
 have hc : ∀ j,W'.cell? ⟨b,j,none⟩ = W.cell? ⟨b,j,none⟩:=fun j=>hb.cell (p:=⟨b,j,none⟩) hlt
 exact ⟨b,off,vF,vR,vS,ha,(hc _).trans c0,(hc _).trans c1,(hc _).trans c2,(hc _).trans c3,(hc _).trans c4,(hc _).trans c5,(hc _).trans c6,(hc _).trans c7,hs.below hb,hF.below hb,hR.below hb (fun x _=>by simp [int64s])⟩
theorem RdS.slice {S : Nat → Prop} {W : World} {v : Value} {l : List (Int × Int)} (h : RdS S W v l) : ∃ a n c,v = .slice a n c:=by
 obtain ⟨a,n,c,sv,hv,_⟩:=h
 exact ⟨a,n,c,hv⟩
theorem Sm.ran {D : Dev} {w W W' : World} {Bw k : Nat} {S S2 : Nat → Prop} {pv rv nv ev vv nv2 ev2 vv2 : Value} {pu ru nu eu vu nu2 eu2 vu2 : List Value} (h : Sm D w W Bw k S pv rv nv ev vv pu ru nu eu vu)
  (hB : Bk W' w.heap.size Bw S2 pv rv nv2 ev2 vv2 pu ru nu2 eu2 vu2) (hf : Frm (fun q=>q = Bw ∨ nv.ownBlock = some q ∨ ev.ownBlock = some q ∨ vv.ownBlock = some q) W W') (hs : ∀ b,S b → S2 b) (h1 : nu2.length ≤ nu.length + 16) (h2 : eu2.length ≤ eu.length + 4) (h3 : vu2.length ≤ vu.length + 4) :
  Sm D w W' Bw (k + 1) S2 pv rv nv2 ev2 vv2 pu ru nu2 eu2 vu2:=by
 obtain ⟨hb,hS⟩:=h.frmB (hf.mono (fun q _ hq=>by
  rcases hq with hq | hq | hq | hq
  ·exact .inl hq
  ·exact .inr (.inr (.inr (.inl hq)))
  ·exact .inr (.inr (.inr (.inr (.inl hq))))
  ·exact .inr (.inr (.inr (.inr (.inr hq))))))
 refine ⟨hb,hB,h.one,h.same,by have:=h.lp;omega,by have:=h.ln;omega,by have:=h.le;omega,by have:=h.lv;omega,fun i p r hp hr=>?_⟩
 obtain ⟨fs,reds,q1,q2,q3,q4⟩:=h.prog i p r hp hr
 exact ⟨fs,reds,q1,q2,D.turn q3 (fun b hb' hlt=>⟨hs b hb',hS b hb' hlt⟩),q4.turn (fun b hb' hlt=>⟨hs b hb',hS b hb' hlt⟩)⟩
theorem Sm.doRun {D : Dev} (hRun : RunSaid D) {w W : World} {Bw k : Nat} {S S0 : Nat → Prop} {pv rv nv ev vv : Value} {pu ru nu eu vu : List Value} (h : Sm D w W Bw k S pv rv nv ev vv pu ru nu eu vu) (hk : k ≤ 2000000) (i : Nat) (p r : Value) (hp : pu[i]? = some p) (hr : ru[i]? = some r)
  (kind at_ seed x wk : Int) (vF vR vS : Value) (script : List (Int × Int)) (ha : ∃ a n c,vF = .slice a n c) (hb : ∃ a n c,vR = .slice a n c) (hS : RdS S0 W vS script) (hsc : ∀ q ∈ script,i64 q.1 ∧ i64 q.2) (hsl : script.length ≤ 2000000) :
  Calls Tryz.prog 10 #[.pointer (some ⟨Bw,0,none⟩),p,r,.agg #[.int .i64 kind,.int .i64 at_,vF,vR,.int .u64 seed,.int .i64 x,.int .i64 wk,vS]] W fun e W'=>e = .returned (.bool true) ∧
   ∃ S2 nv2 ev2 vv2 nu2 eu2 vu2,Sm D w W' Bw (k + 1) S2 pv rv nv2 ev2 vv2 pu ru nu2 eu2 vu2 ∧ Frm (fun q=>q = Bw ∨ nv.ownBlock = some q ∨ ev.ownBlock = some q ∨ vv.ownBlock = some q) W W':=by
 obtain ⟨fs,reds,h1,h2,h3,h4⟩:=h.prog i p r hp hr
 have l1:=h.ln
 have l2:=h.le
 have l3:=h.lv
 refine (lawRuns_any D hRun w.heap.size Bw S S0 pv rv nv ev vv p r pu ru nu eu vu fs reds script W kind at_ seed x wk vF vR vS ha hb hS hsc hsl (by omega) (by omega) (by omega) h.bk h3 h4 h1 h2).mono ?_
 rintro e W' ⟨S2,nv2,ev2,vv2,nu2,eu2,vu2,rfl,hB,hf,hs,n1,n2,n3⟩
 exact ⟨rfl,S2,nv2,ev2,vv2,nu2,eu2,vu2,h.ran hB hf hs n1 n2 n3,hf⟩
end Go.Proofs.YtkmakliebhnhbaaGreat
namespace Go.Proofs.YtkmakliebhnhbaaGreat
open Go.RowKit
attribute [local go_sem ↓] Go.wp_at_zero Go.wp_at_succ
set_option maxRecDepth 100000 in
set_option maxHeartbeats 2000000 in
theorem plays_run (D : Dev) (hNew : NewSaid D) (hSer : SerialSaid D) (hRun : RunSaid D) (S0 : Nat → Prop) (v : Value) (l : List OpR) (w : World) (hl : RdOpsR S0 w v l) (hok : ∀ o ∈ l,o.ok) (hn : l.length ≤ 1000000) :
  Calls Tryz.prog 6 #[v,.int .i64 3] w fun e w'=>e = .returned (.bool true) ∧ Below w.heap.size w w':=by
 have HL:=hide hl
 obtain ⟨sa,sc,rfl,hsl,hsm,HC⟩:=hl
 obtain ⟨n,hN⟩ : ∃ n,l.length = n:=⟨_,rfl⟩
 rw [hN] at hsl hn HL
 rw [hN]
 clear HC
 obtain ⟨o0,ho0⟩ : ∃ o,Obj.cells #[.slice none 0 0,.slice none 0 0,.slice none 0 0,.slice none 0 0,.slice none 0 0,.slice none 0 0] 42 = o:=⟨_,rfl⟩
 obtain ⟨o1,ho1⟩ : ∃ o,Obj.cells #[Value.int IntKind.i64 3,Value.int IntKind.i64 1,Value.int IntKind.i64 0,Value.int IntKind.i64 1,Value.int IntKind.i64 0,Value.int IntKind.i64 1,Value.int IntKind.i64 0,Value.int IntKind.i64 0,Value.int IntKind.i64 2,Value.int IntKind.i64 0,Value.int IntKind.i64 5,Value.int IntKind.i64 0,Value.int IntKind.i64 0,Value.int IntKind.i64 0,Value.int IntKind.i64 0,Value.int IntKind.i64 1,Value.int IntKind.i64 0,Value.int IntKind.i64 0,Value.int IntKind.i64 3,Value.int IntKind.i64 0] 45 = o:=⟨_,rfl⟩
 obtain ⟨o2,ho2⟩ : ∃ o,Obj.cells #[Value.int IntKind.i64 1,Value.int IntKind.i64 0,Value.int IntKind.i64 0,Value.int IntKind.i64 0,Value.int IntKind.i64 1] 45 = o:=⟨_,rfl⟩
 obtain ⟨o3,ho3⟩ : ∃ o,Obj.cells #[.slice (some ⟨w.heap.size + 1,0,none⟩) 4 4,.slice (some ⟨w.heap.size + 1 + 1,0,none⟩) 1 1] 46 = o:=⟨_,rfl⟩
 obtain ⟨o4,ho4⟩ : ∃ o,Obj.cells #[.int .i64 4] 3 = o:=⟨_,rfl⟩
 obtain ⟨hRF,hRL⟩:=first_rd w o0 o1 o2 o3 o4 ho1.symm ho2.symm ho3.symm ho4.symm
 have hb1 : Below (w.heap.size + 1) (w.alloc o0) (((((w.alloc o0).alloc o1).alloc o2).alloc o3).alloc o4) :=
  ((((Below.refl _ _).alloc (by simp) o1).alloc (by simp) o2).alloc (by simp) o3).alloc (by simp) o4
 have hB:=first_bk w _ (by rw [ho0];exact hb1)
 have hBw : Below w.heap.size w (((((w.alloc o0).alloc o1).alloc o2).alloc o3).alloc o4):=((Below.refl _ w).alloc (Nat.le_refl _) o0).trans (hb1.mono (by omega))
 have HM:=hide (made_any D hNew w.heap.size w.heap.size (fun _=>False) (fun _=>True) _ _ _ _ _ _ _ [] [] [] [] [] exFs [4] _ hRF hRL exFs_wf exFs_small (by simp [i64]) (by simp) (by simp) hB)
 have HBw:=hide hBw
 have HB:=hide hB
 have HO0:=hide ho0
 have HO1:=hide ho1
 have HO2:=hide ho2
 have HO3:=hide ho3
 have HO4:=hide ho4
 clear ho0 ho1 ho2 ho3 ho4 hRF hRL hb1 hB hBw
 go_enter Tryz.func6,Tryz.ntmps6
 go_wp2_with fail
 rw [HO0.out,HO1.out,HO2.out,HO3.out,HO4.out]
 refine HM.out.mono ?_
 rintro e w1 ⟨rfl,⟨h0,_,_⟩ | ⟨_,p1,r1,pv1,rv1,S1,hB1,hP1,hR1,hF1,hs1⟩⟩
 ·exact absurd exFs_ok h0
 have HSM : Hid (Sm D w w1 w.heap.size 1 S1 pv1 rv1 (.slice none 0 0) (.slice none 0 0) (.slice none 0 0) [p1] [r1] [] [] []):=by
  refine ⟨?_,hB1,by simp,rfl,by simp,by simp,by simp,by simp,fun i p r hp hr=>?_⟩
  ·refine HBw.out.trans ⟨hF1.os,hF1.tape,hF1.output,hF1.size,fun b hb=>hF1.block b (by simp at hb ⊢;omega) (fun hh=>?_)⟩
   rcases hh with hh | hh | hh
   ·omega
   ·simp [Value.ownBlock] at hh
   ·simp [Value.ownBlock] at hh
  ·have hi : i = 0:=by have:=(List.getElem?_eq_some_iff.1 hp).1;simpa using this
   subst hi
   simp at hp hr
   subst hp hr
   exact ⟨exFs,[4],exFs_wf,exFs_ok,hP1,hR1⟩
 clear hB1 hP1 hR1 hF1 hs1 HM HB HO0 HO1 HO2 HO3 HO4 HBw
 obtain ⟨pb,pc,rb,rc,rfl,rfl,_,_,hpm,hrm,hpb,hrb,hat⟩:=HSM.out.look
 obtain ⟨p,r,hp,hr,cp,cr⟩:=hat 0 (by simp)
 have c0:=HSM.out.bk.c0
 have c1:=HSM.out.bk.c1
 have HS:=hide (fun (W' : World) (hb : Below w1.heap.size w1 W')=>(HSM.out.step hb).doSerial hSer (by omega) 0 p r hp hr 0 0 0 0 0 (.slice none 0 0) (.slice none 0 0) (.slice none 0 0) ⟨_,_,_,rfl⟩ ⟨_,_,_,rfl⟩ ⟨_,_,_,rfl⟩ (by simp [u64]) (by simp [i64]))
 have HP:=hide hp
 have HR:=hide hr
 clear hat hp hr
 simp only [List.length_singleton] at c0 c1 HS
 go_wp2_with fail
 go_region_held3 (fun w'=>w'.cell? ⟨w.heap.size,0,none⟩ = some (.slice (some ⟨pb,0,none⟩) 1 pc) ∧ w'.cell? ⟨w.heap.size,1,none⟩ = some (.slice (some ⟨rb,0,none⟩) 1 rc) ∧ w'.cell? ⟨pb,0,none⟩ = some p ∧ w'.cell? ⟨rb,0,none⟩ = some r) (go_keep)
  ((first
   | (go_at_call 8;refine (HS.out _ (by exact ⟨rfl,rfl,rfl,Nat.le_refl _,fun _ _=>rfl⟩)).mono ?_;rintro e w2 ⟨rfl,S2,nv2,ev2,vv2,nu2,eu2,vu2,hS2,_⟩;obtain ⟨pb',pc',rb',rc',epv,erv,_,_,_,_,hpb2,hrb2,hat2⟩:=hS2.look;have d0:=hS2.bk.c0;have d1:=hS2.bk.c1;simp at epv erv;obtain ⟨e1,e2⟩:=epv;obtain ⟨e3,e4⟩:=erv;subst e1 e2 e3 e4;obtain ⟨p',r',hp',hr',dp,dr⟩:=hat2 0 (by simp);have e5 : p' = p:=Option.some.inj (hp'.symm.trans HP.out);have e6 : r' = r:=Option.some.inj (hr'.symm.trans HR.out);subst e5 e6)))
 have HS2:=hide hS2
 clear hS2 hat2 hpb2 hrb2 d0 d1 dp dr hp' hr' HP HR HS cp cr c0 c1 hpb hrb hpm hrm HSM
 have HOK:=hide hok
 have HN:=hide hN
 clear hok hN
 unfold maxLen at hsm
 go_wp2
 go_loopw [6,7] (fun ok i wr=>ok = .bool true ∧ ∃ k : Nat,k ≤ n ∧ i = .int .i64 k ∧ ∃ S pv rv nv ev vv pu ru nu eu vu,Sm D w wr w.heap.size (k + 2) S pv rv nv ev vv pu ru nu eu vu) (fun _ i _=>n - (intOf i).toNat)
 case atStart=>exact ⟨rfl,0,Nat.zero_le _,rfl,_,_,_,_,_,_,_,_,_,_,_,HS2.out⟩
 case round =>
  clear HS2
  obtain ⟨rfl,k,hk,rfl,S,pv,rv,nv,ev,vv,pu,ru,nu,eu,vu,hS⟩:=hrel
  by_cases hlt : k < n
  ·obtain ⟨o,ho⟩ : ∃ o,l[k]? = some o:=⟨l[k]'(by have:=HN.out;omega),by simp⟩
   have hoo:=HOK.out o (List.mem_of_getElem? ho)
   obtain ⟨_,_,_,_,_,HC⟩:=HL.out.below hS.below
   obtain ⟨b,off,vF,vR,vS,ha,c0,c1,c2,c3,c4,c5,c6,c7,hSS,hF,hR⟩:=HC k o ho
   clear HC
   obtain ⟨kind,at_,fs,reds,seed,x,wk,script⟩:=o
   subst ha
   obtain ⟨hz1,hz2,hz3,hz4,hz5,hz6,hz7,hz8,hz9⟩:=hoo
   simp only at c0 c1 c2 c3 c4 c5 c6 c7 hF hR hSS hz1 hz2 hz3 hz4 hz5 hz6 hz7 hz8 hz9
   obtain ⟨xa,xn,xc,hvS⟩:=hSS.slice
   subst hvS
   have HSS:=hide hSS
   have HZ8:=hide hz8
   clear hSS hz8
   obtain ⟨fa,fn,fc,hvF⟩ : ∃ fa fn fc,vF = .slice fa fn fc:=by obtain ⟨us,_,hu,_⟩:=hF;obtain ⟨q1,q2,q3,_⟩:=hu.form;exact ⟨_,_,_,q3⟩
   obtain ⟨ra,rn,rc',hvR⟩ : ∃ fa fn fc,vR = .slice fa fn fc:=by obtain ⟨q1,q2,q3,_⟩:=hR.form;exact ⟨_,_,_,q3⟩
   subst hvF hvR
   have HF:=hide hF
   have HR:=hide hR
   have HS:=hide hS
   have HSc:=hide c0
   clear hF hR hS
   obtain ⟨ov,hov⟩ : ∃ ov,Obj.cells #[.int .i64 kind,.int .i64 at_,.slice fa fn fc,.slice ra rn rc',.int .u64 seed,.int .i64 x,.int .i64 wk,.slice xa xn xc] 33 = ov:=⟨_,rfl⟩
   have hbo : Below wr.heap.size wr (wr.alloc ov):=(Below.refl _ _).alloc (Nat.le_refl _) ov
   have HB:=hide hbo
   have HS3:=hide (HS.out.step hbo)
   have HOV:=hide hov
   clear hov hbo
   by_cases hk1 : kind = 1
   ·subst hk1
    have HM:=hide (HS3.out.doMade hNew (by omega) (HF.out.below HB.out) (HR.out.below HB.out (fun x _=>by simp [int64s])) hz5 hz6 hz7)
    go_wp2_with fail
    rw [HOV.out]
    refine HM.out.mono ?_
    rintro e w4 ⟨rfl,S4,pv4,rv4,pu4,ru4,hS4⟩
    have HS4:=hide hS4
    clear hS4 HM
    have HT:=hide (fun (W' : World) (hb : Below w4.heap.size w4 W')=>(HS4.out.step hb).doStill (by omega))
    go_wp2_with fail
    refine (HT.out _ (by exact ⟨rfl,rfl,rfl,Nat.le_refl _,fun _ _=>rfl⟩)).mono ?_
    rintro e w5 ⟨rfl,hS5⟩
    have HS5:=hide hS5
    clear hS5 HT
    go_wp2
    go_roundw
    case rel=>exact ⟨by simp,k + 1,by omega,by go_num,_,_,_,_,_,_,_,_,_,_,_,HS5.out⟩
    case measure=>simp [intOf];omega
   ·by_cases hk2 : kind < 1
    ·have HS4:=hide HS3.out.next
     have HT:=hide (HS4.out.doStill (by omega))
     go_wp2_with fail
     rw [HOV.out]
     refine HT.out.mono ?_
     rintro e w5 ⟨rfl,hS5⟩
     have HS5:=hide hS5
     clear hS5 HT
     go_wp2
     go_roundw
     case rel=>exact ⟨by simp,k + 1,by omega,by go_num,_,_,_,_,_,_,_,_,_,_,_,HS5.out⟩
     case measure=>simp [intOf];omega
    ·by_cases hk3 : 3 < kind
     ·have HS4:=hide HS3.out.next
      have HT:=hide (HS4.out.doStill (by omega))
      go_wp2_with fail
      rw [HOV.out]
      refine HT.out.mono ?_
      rintro e w5 ⟨rfl,hS5⟩
      have HS5:=hide hS5
      clear hS5 HT
      go_wp2
      go_roundw
      case rel=>exact ⟨by simp,k + 1,by omega,by go_num,_,_,_,_,_,_,_,_,_,_,_,HS5.out⟩
      case measure=>simp [intOf];omega
     ·by_cases hk4 : kind = 2
      ·subst hk4
       obtain ⟨pb,pc,rb,rc,rfl,rfl,hpc,hrc,hpm,hrm,hpb,hrb,hat⟩:=HS.out.look
       have hone:=HS.out.one
       have hlp:=HS.out.lp
       have HAT:=hide hat
       obtain ⟨m,hm⟩ : ∃ m,pu.length = m:=⟨_,rfl⟩
       have g0:=HS.out.bk.c0
       have g1:=HS.out.bk.c1
       have hbl:=HS.out.bk.lt
       rw [hm] at hone hlp hpc hrc HAT g0 g1 HS HS3
       have HMm:=hide hm
       clear hat hm
       unfold maxLen at hpm hrm
       have HPK:=hide (fun W=>pick_any at_ m W (by omega) (by omega) hz2.1 hz2.2)
       obtain ⟨wo,hwo⟩ : ∃ wo,wr.alloc ov = wo:=⟨_,rfl⟩
       have hE : ∀ j,j < 8 → wo.cell? ⟨wr.heap.size,j,none⟩ = (#[Value.int .i64 2,.int .i64 at_,.slice fa fn fc,.slice ra rn rc',.int .u64 seed,.int .i64 x,.int .i64 wk,.slice xa xn xc] : Array Value)[j]?:=fun j hj=>by
        rw [← hwo,← HOV.out]
        exact cell_of_row _ wr.heap.size j _ _ (0,0) (heap_new wr _)
       have e0 : wo.cell? ⟨wr.heap.size,0,none⟩ = some (.int .i64 2):=hE 0 (by omega)
       have e1 : wo.cell? ⟨wr.heap.size,1,none⟩ = some (.int .i64 at_):=hE 1 (by omega)
       have e2 : wo.cell? ⟨wr.heap.size,2,none⟩ = some (.slice fa fn fc):=hE 2 (by omega)
       have e3 : wo.cell? ⟨wr.heap.size,3,none⟩ = some (.slice ra rn rc'):=hE 3 (by omega)
       have e4 : wo.cell? ⟨wr.heap.size,4,none⟩ = some (.int .u64 seed):=hE 4 (by omega)
       have e5 : wo.cell? ⟨wr.heap.size,5,none⟩ = some (.int .i64 x):=hE 5 (by omega)
       have e6 : wo.cell? ⟨wr.heap.size,6,none⟩ = some (.int .i64 wk):=hE 6 (by omega)
       have e7 : wo.cell? ⟨wr.heap.size,7,none⟩ = some (.slice xa xn xc):=hE 7 (by omega)
       have hwl : wr.heap.size < wo.heap.size:=by rw [← hwo];simp
       have f0 : wo.cell? ⟨w.heap.size,0,none⟩ = some (.slice (some ⟨pb,0,none⟩) m pc):=by rw [← hwo];exact (HB.out.cell (p:=⟨w.heap.size,0,none⟩) hbl).trans g0
       have f1 : wo.cell? ⟨w.heap.size,1,none⟩ = some (.slice (some ⟨rb,0,none⟩) m rc):=by rw [← hwo];exact (HB.out.cell (p:=⟨w.heap.size,1,none⟩) hbl).trans g1
       have HE:=hide hE
       have HWO:=hide hwo
       go_wp2_with fail
       rw [HOV.out,HWO.out]
       rw [HWO.out] at HS3
       clear hE hwo g0 g1 c0 c1 c2 c3 c4 c5 c6 c7
       go_region_held3 (fun w'=>w'.cell? ⟨w.heap.size,0,none⟩ = some (.slice (some ⟨pb,0,none⟩) m pc) ∧ w'.cell? ⟨wr.heap.size,1,none⟩ = some (.int .i64 at_)) (go_keep)
        ((first
         | (go_at_call 9;refine (HPK.out _).mono ?_;rintro e w4 ⟨q,hq,rfl,rfl⟩)))
       obtain ⟨p,r,hp,hr,gp,gr⟩:=HAT.out q (by omega)
       have fp : wo.cell? ⟨pb,q,none⟩ = some p:=by rw [← HWO.out];exact (HB.out.cell (p:=⟨pb,q,none⟩) hpb).trans gp
       have fr : wo.cell? ⟨rb,q,none⟩ = some r:=by rw [← HWO.out];exact (HB.out.cell (p:=⟨rb,q,none⟩) hrb).trans gr
       have HD:=hide (fun (W' : World) (hb : Below wo.heap.size wo W')=>(HS3.out.step hb).doSerial hSer (by omega) q p r hp hr 2 at_ seed x wk (.slice fa fn fc) (.slice ra rn rc') (.slice xa xn xc) ⟨_,_,_,rfl⟩ ⟨_,_,_,rfl⟩ ⟨_,_,_,rfl⟩ hz3 hz4)
       have HP:=hide hp
       have HR2:=hide hr
       clear hp hr gp gr
       have HAFT : Hid (∀ (W' w5 : World) (S2 : Nat → Prop) (nv2 ev2 vv2 : Value) (nu2 eu2 vu2 : List Value),Below wo.heap.size wo W' → Sm D w w5 w.heap.size (k + 2 + 1) S2 (.slice (some ⟨pb,0,none⟩) m pc) (.slice (some ⟨rb,0,none⟩) m rc) nv2 ev2 vv2 pu ru nu2 eu2 vu2 →
         Frm (fun z=>z = w.heap.size ∨ nv.ownBlock = some z ∨ ev.ownBlock = some z ∨ vv.ownBlock = some z) W' w5 → w5.cell? ⟨w.heap.size,0,none⟩ = some (.slice (some ⟨pb,0,none⟩) m pc) ∧ w5.cell? ⟨w.heap.size,1,none⟩ = some (.slice (some ⟨rb,0,none⟩) m rc) ∧ w5.cell? ⟨pb,q,none⟩ = some p ∧ w5.cell? ⟨rb,q,none⟩ = some r ∧ w5.cell? ⟨wr.heap.size,0,none⟩ = some (.int .i64 2) ∧ w5.cell? ⟨wr.heap.size,1,none⟩ = some (.int .i64 at_) ∧ w5.cell? ⟨wr.heap.size,2,none⟩ = some (.slice fa fn fc) ∧ w5.cell? ⟨wr.heap.size,3,none⟩ = some (.slice ra rn rc') ∧ w5.cell? ⟨wr.heap.size,4,none⟩ = some (.int .u64 seed) ∧ w5.cell? ⟨wr.heap.size,5,none⟩ = some (.int .i64 x) ∧ w5.cell? ⟨wr.heap.size,6,none⟩ = some (.int .i64 wk) ∧ w5.cell? ⟨wr.heap.size,7,none⟩ = some (.slice xa xn xc)):=by
        intro W' w5 S2 nv2 ev2 vv2 nu2 eu2 vu2 hb h hf
        obtain ⟨pb',pc',rb',rc2,epv,erv,_,_,_,_,_,_,hat2⟩:=h.look
        obtain ⟨p',r',hp',hr',dp,dr⟩:=hat2 q (by have:=HMm.out;omega)
        simp only [Value.slice.injEq,Option.some.injEq,Addr.mk.injEq,and_true] at epv erv
        obtain ⟨rfl,_⟩:=epv
        obtain ⟨rfl,_⟩:=erv
        have x1 : p' = p:=Option.some.inj (hp'.symm.trans HP.out)
        have x2 : r' = r:=Option.some.inj (hr'.symm.trans HR2.out)
        subst x1 x2
        have hblk : ∀ j,w5.cell? ⟨wr.heap.size,j,none⟩ = wo.cell? ⟨wr.heap.size,j,none⟩:=fun j=>by
         have h1 : w5.heap[wr.heap.size]? = W'.heap[wr.heap.size]?:=hf.block _ (Nat.lt_of_lt_of_le hwl hb.size) (fun hh=>by
          rcases hh with hh | hh | hh | hh
          ·omega
          ·have:=(HS.out.bk.on.lt _ hh).2;omega
          ·have:=(HS.out.bk.oe.lt _ hh).2;omega
          ·have:=(HS.out.bk.ov.lt _ hh).2;omega)
         exact (World.cell?_of_block (w:=W') (a:=⟨wr.heap.size,j,none⟩) h1).trans (hb.cell (p:=⟨wr.heap.size,j,none⟩) hwl)
        exact ⟨h.bk.c0,h.bk.c1,dp,dr,(hblk 0).trans e0,(hblk 1).trans e1,(hblk 2).trans e2,(hblk 3).trans e3,(hblk 4).trans e4,(hblk 5).trans e5,(hblk 6).trans e6,(hblk 7).trans e7⟩
       go_wp2_with fail
       go_region_held3 (fun w'=>w'.cell? ⟨w.heap.size,0,none⟩ = some (.slice (some ⟨pb,0,none⟩) m pc) ∧ w'.cell? ⟨w.heap.size,1,none⟩ = some (.slice (some ⟨rb,0,none⟩) m rc) ∧ w'.cell? ⟨pb,q,none⟩ = some p ∧ w'.cell? ⟨rb,q,none⟩ = some r ∧ w'.cell? ⟨wr.heap.size,0,none⟩ = some (.int .i64 2) ∧ w'.cell? ⟨wr.heap.size,1,none⟩ = some (.int .i64 at_) ∧ w'.cell? ⟨wr.heap.size,2,none⟩ = some (.slice fa fn fc) ∧ w'.cell? ⟨wr.heap.size,3,none⟩ = some (.slice ra rn rc') ∧ w'.cell? ⟨wr.heap.size,4,none⟩ = some (.int .u64 seed) ∧ w'.cell? ⟨wr.heap.size,5,none⟩ = some (.int .i64 x) ∧ w'.cell? ⟨wr.heap.size,6,none⟩ = some (.int .i64 wk) ∧ w'.cell? ⟨wr.heap.size,7,none⟩ = some (.slice xa xn xc)) (go_keep)
        ((first
         | (go_at_call 8;refine (HD.out _ (by exact ⟨rfl,rfl,rfl,Nat.le_refl _,fun _ _=>rfl⟩)).mono ?_;rintro e w6 ⟨rfl,S6,nv6,ev6,vv6,nu6,eu6,vu6,hS6,hf6⟩;obtain ⟨k0,k1,kp,kr,z0,z1,z2,z3,z4,z5,z6,z7⟩:=HAFT.out _ w6 S6 nv6 ev6 vv6 nu6 eu6 vu6 (by exact ⟨rfl,rfl,rfl,Nat.le_refl _,fun _ _=>rfl⟩) hS6 hf6)))
       have HS6:=hide hS6
       clear hS6 hf6 k0 k1 kp kr z0 z1 z2 z3 z4 z5 z6 z7 HD HAFT e0 e1 e2 e3 e4 e5 e6 e7 f0 f1 fp fr
       have HT:=hide (fun (W' : World) (hb : Below w6.heap.size w6 W')=>(HS6.out.step hb).doStill (by omega))
       go_wp2_with fail
       refine (HT.out _ (by exact ⟨rfl,rfl,rfl,Nat.le_refl _,fun _ _=>rfl⟩)).mono ?_
       rintro e w5 ⟨rfl,hS5⟩
       have HS5:=hide hS5
       clear hS5 HT
       go_wp2
       go_roundw
       case rel=>exact ⟨by simp,k + 1,by omega,by go_num,_,_,_,_,_,_,_,_,_,_,_,HS5.out⟩
       case measure=>simp [intOf];omega
      ·obtain rfl : kind = 3:=by omega
       obtain ⟨pb,pc,rb,rc,rfl,rfl,hpc,hrc,hpm,hrm,hpb,hrb,hat⟩:=HS.out.look
       have hone:=HS.out.one
       have hlp:=HS.out.lp
       have HAT:=hide hat
       obtain ⟨m,hm⟩ : ∃ m,pu.length = m:=⟨_,rfl⟩
       have g0:=HS.out.bk.c0
       have g1:=HS.out.bk.c1
       have hbl:=HS.out.bk.lt
       rw [hm] at hone hlp hpc hrc HAT g0 g1 HS HS3
       have HMm:=hide hm
       clear hat hm
       unfold maxLen at hpm hrm
       have HPK:=hide (fun W=>pick_any at_ m W (by omega) (by omega) hz2.1 hz2.2)
       obtain ⟨wo,hwo⟩ : ∃ wo,wr.alloc ov = wo:=⟨_,rfl⟩
       have hE : ∀ j,j < 8 → wo.cell? ⟨wr.heap.size,j,none⟩ = (#[Value.int .i64 3,.int .i64 at_,.slice fa fn fc,.slice ra rn rc',.int .u64 seed,.int .i64 x,.int .i64 wk,.slice xa xn xc] : Array Value)[j]?:=fun j hj=>by
        rw [← hwo,← HOV.out]
        exact cell_of_row _ wr.heap.size j _ _ (0,0) (heap_new wr _)
       have e0 : wo.cell? ⟨wr.heap.size,0,none⟩ = some (.int .i64 3):=hE 0 (by omega)
       have e1 : wo.cell? ⟨wr.heap.size,1,none⟩ = some (.int .i64 at_):=hE 1 (by omega)
       have e2 : wo.cell? ⟨wr.heap.size,2,none⟩ = some (.slice fa fn fc):=hE 2 (by omega)
       have e3 : wo.cell? ⟨wr.heap.size,3,none⟩ = some (.slice ra rn rc'):=hE 3 (by omega)
       have e4 : wo.cell? ⟨wr.heap.size,4,none⟩ = some (.int .u64 seed):=hE 4 (by omega)
       have e5 : wo.cell? ⟨wr.heap.size,5,none⟩ = some (.int .i64 x):=hE 5 (by omega)
       have e6 : wo.cell? ⟨wr.heap.size,6,none⟩ = some (.int .i64 wk):=hE 6 (by omega)
       have e7 : wo.cell? ⟨wr.heap.size,7,none⟩ = some (.slice xa xn xc):=hE 7 (by omega)
       have hwl : wr.heap.size < wo.heap.size:=by rw [← hwo];simp
       have f0 : wo.cell? ⟨w.heap.size,0,none⟩ = some (.slice (some ⟨pb,0,none⟩) m pc):=by rw [← hwo];exact (HB.out.cell (p:=⟨w.heap.size,0,none⟩) hbl).trans g0
       have f1 : wo.cell? ⟨w.heap.size,1,none⟩ = some (.slice (some ⟨rb,0,none⟩) m rc):=by rw [← hwo];exact (HB.out.cell (p:=⟨w.heap.size,1,none⟩) hbl).trans g1
       have HE:=hide hE
       have HWO:=hide hwo
       go_wp2_with fail
       rw [HOV.out,HWO.out]
       rw [HWO.out] at HS3
       clear hE hwo g0 g1 c0 c1 c2 c3 c4 c5 c6 c7
       go_region_held3 (fun w'=>w'.cell? ⟨w.heap.size,0,none⟩ = some (.slice (some ⟨pb,0,none⟩) m pc) ∧ w'.cell? ⟨wr.heap.size,1,none⟩ = some (.int .i64 at_)) (go_keep)
        ((first
         | (go_at_call 9;refine (HPK.out _).mono ?_;rintro e w4 ⟨q,hq,rfl,rfl⟩)))
       obtain ⟨p,r,hp,hr,gp,gr⟩:=HAT.out q (by omega)
       have fp : wo.cell? ⟨pb,q,none⟩ = some p:=by rw [← HWO.out];exact (HB.out.cell (p:=⟨pb,q,none⟩) hpb).trans gp
       have fr : wo.cell? ⟨rb,q,none⟩ = some r:=by rw [← HWO.out];exact (HB.out.cell (p:=⟨rb,q,none⟩) hrb).trans gr
       have HBW : Hid (Below wr.heap.size wr wo):=by unfold Hid;rw [← HWO.out];exact HB.out
       have HD:=hide (fun (W' : World) (hb : Below wo.heap.size wo W')=>(HS3.out.step hb).doRun hRun (by omega) q p r hp hr 3 at_ seed x wk (.slice fa fn fc) (.slice ra rn rc') (.slice xa xn xc) script ⟨_,_,_,rfl⟩ ⟨_,_,_,rfl⟩ (HSS.out.below ((HBW.out).trans (hb.mono (Nat.le_of_lt hwl)))) HZ8.out hz9)
       have HP:=hide hp
       have HR2:=hide hr
       clear hp hr gp gr
       have HAFT : Hid (∀ (W' w5 : World) (S2 : Nat → Prop) (nv2 ev2 vv2 : Value) (nu2 eu2 vu2 : List Value),Below wo.heap.size wo W' → Sm D w w5 w.heap.size (k + 2 + 1) S2 (.slice (some ⟨pb,0,none⟩) m pc) (.slice (some ⟨rb,0,none⟩) m rc) nv2 ev2 vv2 pu ru nu2 eu2 vu2 →
         Frm (fun z=>z = w.heap.size ∨ nv.ownBlock = some z ∨ ev.ownBlock = some z ∨ vv.ownBlock = some z) W' w5 → w5.cell? ⟨w.heap.size,0,none⟩ = some (.slice (some ⟨pb,0,none⟩) m pc) ∧ w5.cell? ⟨w.heap.size,1,none⟩ = some (.slice (some ⟨rb,0,none⟩) m rc) ∧ w5.cell? ⟨pb,q,none⟩ = some p ∧ w5.cell? ⟨rb,q,none⟩ = some r ∧ w5.cell? ⟨wr.heap.size,0,none⟩ = some (.int .i64 3) ∧ w5.cell? ⟨wr.heap.size,1,none⟩ = some (.int .i64 at_) ∧ w5.cell? ⟨wr.heap.size,2,none⟩ = some (.slice fa fn fc) ∧ w5.cell? ⟨wr.heap.size,3,none⟩ = some (.slice ra rn rc') ∧ w5.cell? ⟨wr.heap.size,4,none⟩ = some (.int .u64 seed) ∧ w5.cell? ⟨wr.heap.size,5,none⟩ = some (.int .i64 x) ∧ w5.cell? ⟨wr.heap.size,6,none⟩ = some (.int .i64 wk) ∧ w5.cell? ⟨wr.heap.size,7,none⟩ = some (.slice xa xn xc)):=by
        intro W' w5 S2 nv2 ev2 vv2 nu2 eu2 vu2 hb h hf
        obtain ⟨pb',pc',rb',rc2,epv,erv,_,_,_,_,_,_,hat2⟩:=h.look
        obtain ⟨p',r',hp',hr',dp,dr⟩:=hat2 q (by have:=HMm.out;omega)
        simp only [Value.slice.injEq,Option.some.injEq,Addr.mk.injEq,and_true] at epv erv
        obtain ⟨rfl,_⟩:=epv
        obtain ⟨rfl,_⟩:=erv
        have x1 : p' = p:=Option.some.inj (hp'.symm.trans HP.out)
        have x2 : r' = r:=Option.some.inj (hr'.symm.trans HR2.out)
        subst x1 x2
        have hblk : ∀ j,w5.cell? ⟨wr.heap.size,j,none⟩ = wo.cell? ⟨wr.heap.size,j,none⟩:=fun j=>by
         have h1 : w5.heap[wr.heap.size]? = W'.heap[wr.heap.size]?:=hf.block _ (Nat.lt_of_lt_of_le hwl hb.size) (fun hh=>by
          rcases hh with hh | hh | hh | hh
          ·omega
          ·have:=(HS.out.bk.on.lt _ hh).2;omega
          ·have:=(HS.out.bk.oe.lt _ hh).2;omega
          ·have:=(HS.out.bk.ov.lt _ hh).2;omega)
         exact (World.cell?_of_block (w:=W') (a:=⟨wr.heap.size,j,none⟩) h1).trans (hb.cell (p:=⟨wr.heap.size,j,none⟩) hwl)
        exact ⟨h.bk.c0,h.bk.c1,dp,dr,(hblk 0).trans e0,(hblk 1).trans e1,(hblk 2).trans e2,(hblk 3).trans e3,(hblk 4).trans e4,(hblk 5).trans e5,(hblk 6).trans e6,(hblk 7).trans e7⟩
       go_wp2_with fail
       go_region_held3 (fun w'=>w'.cell? ⟨w.heap.size,0,none⟩ = some (.slice (some ⟨pb,0,none⟩) m pc) ∧ w'.cell? ⟨w.heap.size,1,none⟩ = some (.slice (some ⟨rb,0,none⟩) m rc) ∧ w'.cell? ⟨pb,q,none⟩ = some p ∧ w'.cell? ⟨rb,q,none⟩ = some r ∧ w'.cell? ⟨wr.heap.size,0,none⟩ = some (.int .i64 3) ∧ w'.cell? ⟨wr.heap.size,1,none⟩ = some (.int .i64 at_) ∧ w'.cell? ⟨wr.heap.size,2,none⟩ = some (.slice fa fn fc) ∧ w'.cell? ⟨wr.heap.size,3,none⟩ = some (.slice ra rn rc') ∧ w'.cell? ⟨wr.heap.size,4,none⟩ = some (.int .u64 seed) ∧ w'.cell? ⟨wr.heap.size,5,none⟩ = some (.int .i64 x) ∧ w'.cell? ⟨wr.heap.size,6,none⟩ = some (.int .i64 wk) ∧ w'.cell? ⟨wr.heap.size,7,none⟩ = some (.slice xa xn xc)) (go_keep)
        ((first
         | (go_at_call 10;refine (HD.out _ (by exact ⟨rfl,rfl,rfl,Nat.le_refl _,fun _ _=>rfl⟩)).mono ?_;rintro e w6 ⟨rfl,S6,nv6,ev6,vv6,nu6,eu6,vu6,hS6,hf6⟩;obtain ⟨k0,k1,kp,kr,z0,z1,z2,z3,z4,z5,z6,z7⟩:=HAFT.out _ w6 S6 nv6 ev6 vv6 nu6 eu6 vu6 (by exact ⟨rfl,rfl,rfl,Nat.le_refl _,fun _ _=>rfl⟩) hS6 hf6)))
       have HS6:=hide hS6
       clear hS6 hf6 k0 k1 kp kr z0 z1 z2 z3 z4 z5 z6 z7 HD HAFT e0 e1 e2 e3 e4 e5 e6 e7 f0 f1 fp fr
       have HT:=hide (fun (W' : World) (hb : Below w6.heap.size w6 W')=>(HS6.out.step hb).doStill (by omega))
       go_wp2_with fail
       refine (HT.out _ (by exact ⟨rfl,rfl,rfl,Nat.le_refl _,fun _ _=>rfl⟩)).mono ?_
       rintro e w5 ⟨rfl,hS5⟩
       have HS5:=hide hS5
       clear hS5 HT
       go_wp2
       go_roundw
       case rel=>exact ⟨by simp,k + 1,by omega,by go_num,_,_,_,_,_,_,_,_,_,_,_,HS5.out⟩
       case measure=>simp [intOf];omega
  ·have HS:=hide hS
   clear hS
   go_wp2
   go_ret
   exact ⟨rfl,HS.out.below⟩
end Go.Proofs.YtkmakliebhnhbaaGreat
