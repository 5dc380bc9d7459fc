import Derived.Deep.QuietTactic
import Derived.BigQuiet
import Derived.Deep.RegionHeld3
import Derived.Test.YtkmakliebhnhbaaGreatRows
import Derived.Test.YtkmakliebhnhbaaGreatSer
namespace Go.Proofs.YtkmakliebhnhbaaGreat
open Go.RowKit
theorem Tryz.infoInt : (Tryz.prog.info? 3).map (fun i=>(i.zero,i.size,i.bytes)) = some (some (.int .i64 0),1,8):=by kernel_rfl
def FsOk (fs : List (List Ins)) (nr : Nat) : Prop:=∀ (f : Nat) (l : List Ins),fs[f]? = some l → ∀ i ∈ l,mayB fs.length nr f i = true ∧ i.wf
theorem fold_addC {C : Nat → Nat} {l : List Ins} {k : Nat} {i : Ins} (hi : l[k]? = some i) : (l.take (k + 1)).foldl (addC C) 1 = addC C ((l.take k).foldl (addC C) 1) i:=by
 rw [take_succ_of hi,List.foldl_append];rfl
section
variable {C : Nat → Nat} {l : List Ins} {k g n f : Nat} {i : Ins} {W : World}
theorem arr_A {c d : Nat} {o : Obj} (hA : Arr W g n (fun x=>if x = f then (l.take k).foldl (addC C) 1 else C x)) (hi : l[k]? = some i) (hc : (l.take k).foldl (addC C) 1 = c) (hb : begins i = true) (hd : C i.f.toNat = d) (h : 300 < (c : Int) + d) :
  Arr (((W.setCell ⟨g,f,none⟩ (.int .i64 (↑c + ↑d))).setCell ⟨g,f,none⟩ (.int .i64 301)).alloc o).drew g n (fun x=>if x = f then (l.take (k + 1)).foldl (addC C) 1 else C x):=by
 refine Arr.drew (Arr.alloc (Arr.set (C:=fun x=>if x = f then c + d else C x) (Arr.set hA (by simp) (by intro x hx;simp [hx])) ?_ (by intro x hx;simp [hx])) o)
 rw [if_pos rfl,fold_addC hi,addC,hb,hc,hd,capN,if_pos rfl,if_pos (by omega)]
 rfl
theorem arr_B {c d : Nat} {o : Obj} (hA : Arr W g n (fun x=>if x = f then (l.take k).foldl (addC C) 1 else C x)) (hi : l[k]? = some i) (hc : (l.take k).foldl (addC C) 1 = c) (hb : begins i = true) (hd : C i.f.toNat = d) (h : (c : Int) + d ≤ 300) :
  Arr ((W.setCell ⟨g,f,none⟩ (.int .i64 (↑c + ↑d))).alloc o).drew g n (fun x=>if x = f then (l.take (k + 1)).foldl (addC C) 1 else C x):=by
 refine Arr.drew (Arr.alloc (Arr.set hA ?_ (by intro x hx;simp [hx])) o)
 rw [if_pos rfl,fold_addC hi,addC,hb,hc,hd,capN,if_pos rfl,if_neg (by omega)]
 omega
theorem arr_C {c : Nat} {o : Obj} (hA : Arr W g n (fun x=>if x = f then (l.take k).foldl (addC C) 1 else C x)) (hi : l[k]? = some i) (hc : (l.take k).foldl (addC C) 1 = c) (hb : begins i = false) (h : 300 < (c : Int)) :
  Arr ((W.setCell ⟨g,f,none⟩ (.int .i64 301)).alloc o) g n (fun x=>if x = f then (l.take (k + 1)).foldl (addC C) 1 else C x):=by
 refine Arr.alloc (Arr.set hA ?_ (by intro x hx;simp [hx])) o
 rw [if_pos rfl,fold_addC hi,addC,hb,hc]
 simp only [Bool.false_eq_true,if_false]
 unfold capN
 rw [if_pos (by omega)]
 rfl
theorem cntsC_step {fs : List (List Ins)} {n f : Nat} {l : List Ins} {W : World} {g : Nat} (hn : fs.length = n) (hf : f < n) (hl : fs[f]? = some l) (hA : Arr W g n (fun x=>if x = f then (l.take l.length).foldl (addC (cntsC fs (n - 1 - f))) 1 else cntsC fs (n - 1 - f) x)) :
  Arr W g n (cntsC fs (n - 1 - f + 1)):=by
 refine hA.ext fun x=>?_
 show (if x = fs.length - 1 - (n - 1 - f) then _ else _) = _
 rw [hn,show n - 1 - (n - 1 - f) = f by omega,hl,List.take_length]
 rfl
theorem arr_D {c : Nat} {o : Obj} (hA : Arr W g n (fun x=>if x = f then (l.take k).foldl (addC C) 1 else C x)) (hi : l[k]? = some i) (hc : (l.take k).foldl (addC C) 1 = c) (hb : begins i = false) (h : (c : Int) ≤ 300) :
  Arr (W.alloc o) g n (fun x=>if x = f then (l.take (k + 1)).foldl (addC C) 1 else C x):=by
 refine Arr.alloc (hA.ext ?_) o
 intro x
 by_cases e : x = f
 ·simp only [e,if_true]
  rw [fold_addC hi,addC,hb,hc]
  simp only [Bool.false_eq_true,if_false]
  unfold capN
  rw [if_neg (by omega)]
 ·simp [e]
end
set_option maxHeartbeats 1000000 in
theorem frames_any (fs : List (List Ins)) (nr : Nat) (S : Nat → Prop) (pb : Nat) (v : Value) (w : World) (hn : 0 < fs.length) (hn8 : fs.length ≤ 8) (hok : FsOk fs nr)
  (hl : ∀ l ∈ fs,l.length ≤ 10) (hp : w.cell? ⟨pb,0,none⟩ = some v) (hF : RdF S w v fs) :
  Calls Tryz.prog 25 #[.pointer (some ⟨pb,0,none⟩)] w fun e w'=>e = .returned (.int .i64 (framesC fs)) ∧ Below w.heap.size w w':=by
 obtain ⟨us,hul,hu,hfs⟩:=hF
 obtain ⟨a,cap,rfl,hc,hm⟩:=hu.form
 obtain ⟨u0,h0⟩ : ∃ u,us[0]? = some u:=⟨us[0]'(by omega),by simp⟩
 obtain ⟨b,off,rfl,_,_⟩:=hu.at h0
 have hpb:=block_lt_of_cell hp
 simp only at hpb
 obtain ⟨i0,hi,hz0,hz1,hz2⟩:=info_parts Tryz.infoInt
 obtain ⟨n,hN⟩ : ∃ n,fs.length = n:=⟨_,rfl⟩
 rw [hul] at hc hp
 rw [hN] at hn hn8 hc hp
 have HN : Hid (fs.length = n):=hN
 have HU : Hid (us.length = n):=hul.trans hN
 clear hN hul h0 hpb
 unfold maxLen at hm
 have hpb:=block_lt_of_cell hp
 simp only at hpb
 go_enter Tryz.func25,Tryz.ntmps25
 go_wp2_with (first
  | (at_make;go_loud (refine wpList_make_full _ rfl _ _ 30 rfl w.heap.size 3 i0 (.int .i64 0) 1 Tryz.underlying30 hi hz0 hz1 _ _ _ _ n rfl rfl rfl rfl (by rw [hz2];omega) (by unfold maxLen;omega) (Nat.le_refl _) ?_)))
 intro w1 hown hgrow
 obtain ⟨g,hg⟩ : ∃ g,g = w.heap.size:=⟨_,rfl⟩
 have hB1 : Below w.heap.size w w1:=(Below.refl _ w).grown hgrow (Nat.le_refl _) (by simp)
 have hA1 : Arr w1 g n (cntsC fs 0):=by
  intro x hx
  subst hg
  refine ⟨?_,hown.frozenAt x⟩
  rw [hown.cellAt x (by omega),toList_madeCells_one]
  simp [hx,cntsC]
 rw [← hg]
 have HG : Hid (g = w.heap.size):=hg
 clear hown hgrow hg
 go_wp2
 go_loopw [5] (fun i wr=>((∃ f : Nat,f < n ∧ i = .int .i64 f ∧ Arr wr g n (cntsC fs (n - 1 - f))) ∨ (i = .int .i64 (-1) ∧ Arr wr g n (cntsC fs n))) ∧ Below w.heap.size w wr)
  (fun i _=>(intOf i + 1).toNat)
 case atStart=>exact ⟨.inl ⟨n - 1,by omega,by go_num,by simpa using hA1⟩,hB1⟩
 case round =>
  obtain ⟨⟨f,hf,rfl,hA⟩ | ⟨rfl,hA⟩,hB⟩:=hrel
  ·obtain ⟨wo,rfl⟩ : ∃ wo : World,wo = wr:=⟨_,rfl⟩
   have hfi : (f : Int) < n:=by omega
   have hf0 : (0 : Int) ≤ f:=by omega
   obtain ⟨hc1,hc2⟩:=hA f hf
   have hgs:=block_lt_of_cell hc1
   simp only at hgs
   have hlt : w.heap.size ≤ wo.heap.size:=hB.size
   have hp1 : wo.cell? ⟨pb,0,none⟩ = some (.slice (some ⟨b,off,none⟩) n cap):=(hB.cell (p:=⟨pb,0,none⟩) hpb).trans hp
   obtain ⟨l,hlf⟩ : ∃ l,fs[f]? = some l:=⟨fs[f]'(by have:=HN.out;omega),by simp⟩
   obtain ⟨u,huf⟩ : ∃ u,us[f]? = some u:=⟨us[f]'(by have:=HU.out;omega),by simp⟩
   have hx:=hfs f u l huf hlf
   obtain ⟨a2,cap2,rfl,hc2',hm2⟩:=hx.form
   obtain ⟨_,_,e1,_,hcu⟩:=hu.at huf
   cases e1
   have hcu0:=hcu 0 _ rfl
   have hl10 : l.length ≤ 10:=hl l (List.mem_of_getElem? hlf)
   have hokl:=hok f l hlf
   obtain ⟨L,hL⟩ : ∃ L,l.length = L:=⟨_,rfl⟩
   rw [hL] at hx hc2' hcu0 hl10
   have HL : Hid (l.length = L):=hL
   obtain ⟨C,hC⟩ : ∃ C,cntsC fs (n - 1 - f) = C:=⟨_,rfl⟩
   rw [hC] at hc1 hA
   have HC : Hid (cntsC fs (n - 1 - f) = C):=hC
   have hCle : ∀ x,C x ≤ 301:=fun x=>by rw [← hC];exact cntsC_le _ _ _
   have HX:=hide hx
   have HLF:=hide hlf
   have HCle:=hide hCle
   have HO:=hide hokl
   have HA : Hid (Arr wo g n C):=hA
   have HB:=hide hB
   have hbb:=block_lt_of_cell hcu0
   simp only [Nat.mul_one,Nat.add_zero] at hbb hcu0
   have HCU:=hide hcu0
   clear hA hB hA1 hB1 hfs hok hl hu hz0 hz1 hz2 hi hL hC hx hCle hokl hcu hlf huf hcu0
   go_wp2
   go_loopw [6] (fun i wq=>(∃ k : Nat,k ≤ L ∧ i = .int .i64 k ∧ Arr wq g n (fun x=>if x = f then (l.take k).foldl (addC C) 1 else C x)) ∧ Below w.heap.size w wq)
    (fun i _=>L - (intOf i).toNat)
   case atStart =>
    exact ⟨⟨0,Nat.zero_le _,rfl,HA.out.set (by simp) (by intro x hx;simp [hx])⟩,HB.out.setCell (p:=⟨g,f,none⟩) (by have:=HG.out;simp;omega) _⟩
   case round =>
    obtain ⟨⟨k,hk,rfl,hAk⟩,hBk⟩:=hrel
    have hpk : wr.cell? ⟨pb,0,none⟩ = some (.slice (some ⟨b,off,none⟩) n cap):=(hBk.cell (p:=⟨pb,0,none⟩) hpb).trans hp
    have huk : wr.cell? ⟨b,off + f,none⟩ = some (.slice a2 L cap2):=(hBk.cell (p:=⟨b,off + f,none⟩) hbb).trans HCU.out
    by_cases hkL : k < L
    ·obtain ⟨i,hi⟩ : ∃ i,l[k]? = some i:=⟨l[k]'(by have:=HL.out;omega),by simp⟩
     obtain ⟨b2,o2,rfl,_,hce⟩:=HX.out.at hi
     have e0:=hce 0 _ rfl
     have e1:=hce 1 _ rfl
     have e2:=hce 2 _ rfl
     have e3:=hce 3 _ rfl
     have e4:=hce 4 _ rfl
     have hb2:=block_lt_of_cell e0
     simp only [Nat.add_zero] at hb2 e0
     have q0:=(hBk.cell (p:=⟨b2,o2 + k * 5,none⟩) hb2).trans e0
     have q1:=(hBk.cell (p:=⟨b2,o2 + k * 5 + 1,none⟩) hb2).trans e1
     have q2:=(hBk.cell (p:=⟨b2,o2 + k * 5 + 2,none⟩) hb2).trans e2
     have q3:=(hBk.cell (p:=⟨b2,o2 + k * 5 + 3,none⟩) hb2).trans e3
     have q4:=(hBk.cell (p:=⟨b2,o2 + k * 5 + 4,none⟩) hb2).trans e4
     obtain ⟨hm1,hwf⟩:=HO.out i (List.mem_of_getElem? hi)
     have hkLi : (k : Int) < L:=by omega
     have HI : Hid (l[k]? = some i):=hi
     have HBk : Hid (Below w.heap.size w wr):=hBk
     have HAk : Hid (Arr wr g n (fun x=>if x = f then (l.take k).foldl (addC C) 1 else C x)):=hAk
     obtain ⟨hg1,hg2⟩:=hAk f hf
     simp only [if_true] at hg1
     have hgs2:=block_lt_of_cell hg1
     simp only at hgs2
     have hsz:=hBk.size
     clear e0 e1 e2 e3 e4 hce hi hAk hBk hc1 hc2 hgs hp1 hlt hp hb2
     obtain ⟨op,F,R,K,LL⟩:=i
     simp only at q0 q1 q2 q3 q4
     by_cases hop3 : op = 3
     ·subst hop3
      obtain ⟨m,hmF,hmf,hmn⟩:=mayB_begins hm1 rfl
      simp only at hmF
      subst hmF
      have hmi : (m : Int) < n:=by have:=HN.out;omega
      obtain ⟨hr1,hr2⟩:=HAk.out m (by have:=HN.out;omega)
      have hne : ¬ m = f:=by omega
      simp only [hne,if_false] at hr1
      have hCm:=HCle.out m
      have hcc:=foldl_addC_le C (l.take k) 1 (by omega)
      obtain ⟨c,hcE⟩ : ∃ c,(l.take k).foldl (addC C) 1 = c:=⟨_,rfl⟩
      rw [hcE] at hg1 hcc
      have HcE:=hide hcE
      clear hcE hm1
      obtain ⟨d,hdE⟩ : ∃ d,C m = d:=⟨_,rfl⟩
      rw [hdE] at hr1 hCm
      have HdE:=hide hdE
      clear hdE
      go_wp2
      go_region
      go_wp2
      ·go_roundw
       case rel=>exact ⟨⟨k + 1,by omega,by go_num,arr_A HAk.out HI.out HcE.out rfl HdE.out (by omega)⟩,(((HBk.out.setCell (p:=⟨g,f,none⟩) (by have:=HG.out;simp;omega) _).setCell (p:=⟨g,f,none⟩) (by have:=HG.out;simp;omega) _).alloc (by simpa using hsz) _).drew⟩
       case measure=>simp [intOf];omega
      ·go_roundw
       case rel=>exact ⟨⟨k + 1,by omega,by go_num,arr_B HAk.out HI.out HcE.out rfl HdE.out (by omega)⟩,((HBk.out.setCell (p:=⟨g,f,none⟩) (by have:=HG.out;simp;omega) _).alloc (by simpa using hsz) _).drew⟩
       case measure=>simp [intOf];omega
     by_cases hop4 : op = 4
     ·subst hop4
      obtain ⟨m,hmF,hmf,hmn⟩:=mayB_begins hm1 rfl
      simp only at hmF
      subst hmF
      have hmi : (m : Int) < n:=by have:=HN.out;omega
      obtain ⟨hr1,hr2⟩:=HAk.out m (by have:=HN.out;omega)
      have hne : ¬ m = f:=by omega
      simp only [hne,if_false] at hr1
      have hCm:=HCle.out m
      have hcc:=foldl_addC_le C (l.take k) 1 (by omega)
      obtain ⟨c,hcE⟩ : ∃ c,(l.take k).foldl (addC C) 1 = c:=⟨_,rfl⟩
      rw [hcE] at hg1 hcc
      have HcE:=hide hcE
      clear hcE hm1
      obtain ⟨d,hdE⟩ : ∃ d,C m = d:=⟨_,rfl⟩
      rw [hdE] at hr1 hCm
      have HdE:=hide hdE
      clear hdE
      go_wp2
      go_region
      go_wp2
      ·go_roundw
       case rel=>exact ⟨⟨k + 1,by omega,by go_num,arr_A HAk.out HI.out HcE.out rfl HdE.out (by omega)⟩,(((HBk.out.setCell (p:=⟨g,f,none⟩) (by have:=HG.out;simp;omega) _).setCell (p:=⟨g,f,none⟩) (by have:=HG.out;simp;omega) _).alloc (by simpa using hsz) _).drew⟩
       case measure=>simp [intOf];omega
      ·go_roundw
       case rel=>exact ⟨⟨k + 1,by omega,by go_num,arr_B HAk.out HI.out HcE.out rfl HdE.out (by omega)⟩,((HBk.out.setCell (p:=⟨g,f,none⟩) (by have:=HG.out;simp;omega) _).alloc (by simpa using hsz) _).drew⟩
       case measure=>simp [intOf];omega
     ·have ho3 : (op == 3) = false:=by simpa using hop3
      have ho4 : (op == 4) = false:=by simpa using hop4
      have HBg : Hid (begins ⟨op,F,R,K,LL⟩ = false):=by unfold Hid begins;simp [ho3,ho4]
      clear hop3 hop4
      have hcc:=foldl_addC_le C (l.take k) 1 (by omega)
      obtain ⟨c,hcE⟩ : ∃ c,(l.take k).foldl (addC C) 1 = c:=⟨_,rfl⟩
      rw [hcE] at hg1 hcc
      have HcE:=hide hcE
      clear hcE hm1
      go_wp2
      ·go_roundw
       case rel=>exact ⟨⟨k + 1,by omega,by go_num,arr_C HAk.out HI.out HcE.out HBg.out (by omega)⟩,(HBk.out.setCell (p:=⟨g,f,none⟩) (by have:=HG.out;simp;omega) _).alloc (by simpa using hsz) _⟩
       case measure=>simp [intOf];omega
      ·go_roundw
       case rel=>exact ⟨⟨k + 1,by omega,by go_num,arr_D HAk.out HI.out HcE.out HBg.out (by omega)⟩,HBk.out.alloc (by simpa using hsz) _⟩
       case measure=>simp [intOf];omega
    ·have : k = L:=by omega
     subst this
     have HAk:=hide hAk
     have HBk:=hide hBk
     go_wp2
     go_roundw
     case rel =>
      have hA2:=cntsC_step HN.out hf HLF.out (by rw [HC.out,HL.out];exact HAk.out)
      refine ⟨?_,HBk.out⟩
      cases f with
      | zero=>exact .inr ⟨by simp,by rw [show n - 1 - 0 + 1 = n by omega] at hA2;exact hA2⟩
      | succ f=>exact .inl ⟨f,by omega,by go_num,by rw [show n - 1 - f = n - 1 - (f + 1) + 1 by omega];exact hA2⟩
     case measure=>simp [intOf]
  ·obtain ⟨hc1,hc2⟩:=hA 0 (by omega)
   have hn0 : (0 : Int) < n:=by omega
   clear hA1 hB1 hfs hok hl hu hz0 hz1 hz2 hi
   go_wp2
   go_ret
   exact ⟨by rw [framesC,HN.out];rfl,hB⟩
end Go.Proofs.YtkmakliebhnhbaaGreat
