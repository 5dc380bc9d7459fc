import Derived.Test.YtkmakliebhnhbaaGreatMadeA
namespace Go.Proofs.YtkmakliebhnhbaaGreat
open Go.RowKit
set_option maxRecDepth 100000 in
set_option maxHeartbeats 4000000 in
theorem made_any (D : Dev) (hNew : NewSaid D) (B Bw : Nat) (S S0 : Nat → Prop) (pv rv nv ev vv vF vR : Value) (pu ru nu eu vu : List Value) (fs : List (List Ins)) (reds : List Int) (w : World)
    (hF : RdF S0 w vF fs) (hR : RdL S0 w 1 int64s vR reds) (hw : FsWf fs) (hsm : Small fs reds) (hri : ∀ r ∈ reds,i64 r) (hpu : pu.length ≤ 100000000) (hru : ru.length ≤ 100000000) (hBk : Bk w B Bw S pv rv nv ev vv pu ru nu eu vu) :
    Calls Tryz.prog 7 #[.pointer (some ⟨Bw,0,none⟩),vF,vR] w fun e w'=>e = .returned (.bool true) ∧
      (((check fs reds).1 ≠ 0 ∧ Bk w' B Bw S pv rv nv ev vv pu ru nu eu vu ∧ Below w.heap.size w w') ∨
       ((check fs reds).1 = 0 ∧ ∃ p r pv2 rv2 S2,Bk w' B Bw S2 pv2 rv2 nv ev vv (pu ++ [p]) (ru ++ [r]) nu eu vu ∧ D.P S2 w' p fs reds ∧ RefP S2 w' r fs reds ∧ Frm (fun k=>k = Bw ∨ pv.ownBlock = some k ∨ rv.ownBlock = some k) w w' ∧ ∀ b,S b → S2 b)):=by
  obtain ⟨hn1,hn2,hn3⟩:=hsm
  have HF:=hide hF
  have HR:=hide hR
  obtain ⟨us,hul,hu,hfs⟩:=hF
  obtain ⟨fa,fcap,rfl,hfc,hfm⟩:=hu.form
  obtain ⟨ra,rcap,rfl,hrc,hrm⟩:=hR.form
  obtain ⟨ii,hii,hz0,hz1,hz2⟩:=info_parts Tryz.infoLIns
  obtain ⟨n,hN⟩ : ∃ n,fs.length = n:=⟨_,rfl⟩
  obtain ⟨nr,hNR⟩ : ∃ nr,reds.length = nr:=⟨_,rfl⟩
  rw [hul,hN] at hfc
  rw [hNR] at hrc hn2
  rw [hN] at hn1
  rw [hul,hN] at HF
  rw [hNR] at HR
  rw [hul,hN,hNR]
  have HU : Hid (us.length = n):=hul.trans hN
  have Hu:=hide hu
  rw [HU.out] at Hu
  have Hfs:=hide hfs
  have HN:=hide hN
  have HNR:=hide hNR
  have HW:=hide hw
  have Hn3:=hide hn3
  have Hri:=hide hri
  have HBk:=hide hBk
  have hlw:=hBk.lt
  unfold maxLen at hfm hrm
  clear hul hu hfs hN hNR hw hn3 hri hBk hR
  go_enter Tryz.func7,Tryz.ntmps7
  go_wp2_with (at_make;refine wpList_make_full _ rfl _ _ 29 rfl w.heap.size 46 ii _ 1 Tryz.underlying29 hii hz0 hz1 _ _ _ _ n rfl rfl rfl rfl (by rw [hz2];omega) (by unfold maxLen;omega) (Nat.le_refl _) ?_)
  intro w1 hown1 hgrow1
  obtain ⟨gm,hgm⟩ : ∃ gm,gm = w.heap.size:=⟨_,rfl⟩
  have HB1:=hide ((Below.refl _ w).grown hgrow1 (Nat.le_refl _) (by simp))
  have HOM:=hide hown1
  have hs1 : w.heap.size ≤ w1.heap.size:=hgrow1.size
  rw [← hgm]
  have HGM:=hide hgm
  clear hown1 hgrow1 hgm
  go_wp2_with (at_make;refine wpList_make_full _ rfl _ _ 29 rfl w.heap.size 46 ii _ 1 Tryz.underlying29 hii hz0 hz1 _ _ _ _ (n + 3) rfl rfl (by simp) (by simp) (by rw [hz2];omega) (by unfold maxLen;omega) (by omega) ?_)
  intro w2 hown2 hgrow2
  obtain ⟨go,hgo⟩ : ∃ go,go = w1.heap.size:=⟨_,rfl⟩
  rw [← hgo] at hown2 ⊢
  have HL0 : Hid (Lent w w2 gm go n fs 0 (madeCells #[.slice none 0 0] n).toList (madeCells #[.slice none 0 0] (n + 3)).toList (fun _=>0)):=by
    have hgml : gm < w1.heap.size:=by have h1:=(HOM.out.lt w.heap.size rfl).2;have:=HGM.out;omega
    refine ⟨HB1.out.grown hgrow2 HB1.out.size (by simp),?_,?_,by omega,fun j l hj=>by omega,fun j _ hj=>?_,fun j hj=>by omega⟩
    · have:=HOM.out;rw [← HGM.out] at this;rw [← HGM.out];exact this.kept hgrow2 (.inr (by simp [Value.ownBlock]))
    · exact hown2
    · rw [toList_madeCells_one,List.getElem?_replicate,if_pos hj]
  clear hown2 hgrow2 hgo HOM HB1 hii hz0 hz1 hz2
  go_wp2
  go_loopw [9] (fun i wr=>∃ (k : Nat) (ms os : List Value) (G : Nat → Nat),k ≤ n ∧ i = .int .i64 k ∧ Lent w wr gm go n fs k ms os G) (fun i _=>n - (intOf i).toNat)
  case atStart=>exact ⟨0,_,_,_,Nat.zero_le _,rfl,HL0.out⟩
  case round =>
    obtain ⟨k,ms,os,G,hk,rfl,hL⟩:=hrel
    have HL:=hide hL
    by_cases hlt : k < n
    · obtain ⟨l,hlf⟩ : ∃ l,fs[k]? = some l:=⟨fs[k]'(by have:=HN.out;omega),by simp⟩
      obtain ⟨u,huf⟩ : ∃ u,us[k]? = some u:=⟨us[k]'(by have:=HU.out;omega),by simp⟩
      have hx:=Hfs.out k u l huf hlf
      obtain ⟨a2,cap2,rfl,hc2,hm2⟩:=hx.form
      obtain ⟨b,off,rfl,_,hcu⟩:=Hu.out.at huf
      have e0:=hcu 0 _ rfl
      simp only [Nat.mul_one,Nat.add_zero] at e0
      have hbl:=block_lt_of_cell e0
      simp only at hbl
      have q0:=(hL.below.cell (p:=⟨b,off + k,none⟩) hbl).trans e0
      have hL10:=Hn3.out l (List.mem_of_getElem? hlf)
      have HC:=hide (code_any l S0 _ wr (hx.below hL.below (fun x _=>by simp [Ins.vals])) hL10)
      have hki : (k : Int) < n:=by omega
      have hnone : a2 = none → l = [] ∧ cap2 = 0:=fun h=>by
        obtain ⟨a3,c3,h1,_,_,h2⟩:=hx
        cases h1
        rcases h2 with ⟨h2,h3⟩ | ⟨b3,o3,h3,_⟩
        · exact ⟨h2,h3 h⟩
        · rw [h] at h3;cases h3
      obtain ⟨ℓ,hℓ⟩ : ∃ ℓ,l.length = ℓ:=⟨_,rfl⟩
      rw [hℓ] at q0 HC hc2 hL10
      obtain ⟨m1,m2⟩:=len_om hL
      have HE0:=hide e0
      have HLF:=hide hlf
      have HLL:=hide hℓ
      have HNO:=hide hnone
      have hsz:=hL.below.size
      have hgm1:=(hL.om.lt gm rfl).2
      have hgo1:=(hL.oo.lt go rfl).2
      clear hL hx hcu e0 hlf huf hnone hℓ
      unfold maxLen at hm2
      go_wp2_with fail
      refine HC.out.mono ?_
      rintro e w3 ⟨rfl,ho3,hb3⟩
      have hL:=HL.out
      have q1:=(hb3.cell (p:=⟨b,off + k,none⟩) (by simp only;omega)).trans q0
      obtain ⟨x1,hx1⟩ : ∃ x,ms[k]? = some x:=⟨ms[k]'(by omega),by simp⟩
      have c1:=((own_below hL.om hb3).cellAt k (by omega)).trans hx1
      have f1:=(own_below hL.om hb3).frozenAt k
      have c2:=((own_below hL.oo hb3).cellAt k (by omega)).trans (hL.rest k (Nat.le_refl _) (by omega))
      have f2:=(own_below hL.oo hb3).frozenAt k
      have hne:=hL.ne
      have HO3:=hide ho3
      have HB3:=hide hb3
      have hsz3:=hb3.size
      have hb1 : ¬ b = gm:=by have:=HGM.out;omega
      have hb2 : ¬ gm = b:=by have:=HGM.out;omega
      have hb4 : ¬ go = b:=by have:=(hL.oo.lt go rfl).1;omega
      have hne' : ¬ go = gm:=fun e=>hne e.symm
      have hki3 : (k : Int) < (n : Int) + 3:=by omega
      have hl0 : (0 : Int) ≤ (ℓ : Int):=by omega
      have hl3 : (ℓ : Int) ≤ (ℓ : Int) + 3:=by omega
      have hb5 : ¬ b = go:=fun e=>hb4 e.symm
      clear ho3 hb3 hL hx1 q0 HC
      go_wp2
      go_region
      have hq:=fun (w : World) (a : Option Addr) (n c : Nat)=>Go.Lib.run_eql_slice_nil (P:=Tryz.prog) w 46 45 a n c 0 0 Tryz.underlying46
      cases a2 with
      | none =>
        obtain ⟨hl1,hc1⟩:=HNO.out rfl
        go_wp2
        go_roundw
        case rel =>
          rw [setCell_twice]
          have hn:=HL.out.next hlt HLF.out wr.heap.size rfl HB3.out (by rw [HLL.out];exact HO3.out) (.slice none 0 0) (.inr ⟨hl1,rfl⟩) 1
          rw [HLL.out] at hn
          exact ⟨k + 1,_,_,_,by omega,by go_num,hn⟩
        case measure=>simp [intOf];omega
      | some a3 =>
        go_wp2
        go_roundw
        case rel =>
          have hn:=HL.out.next hlt HLF.out wr.heap.size rfl HB3.out (by rw [HLL.out];exact HO3.out) (.slice (some ⟨wr.heap.size,0,none⟩) ℓ (ℓ + 3)) (.inl (by rw [HLL.out])) 1
          rw [HLL.out] at hn
          exact ⟨k + 1,_,_,_,by omega,by go_num,hn⟩
        case measure=>simp [intOf];omega
    · obtain rfl : n = k:=by omega
      have hrd:=hL.rd HN.out Hn3.out hn1
      have HRD:=hide hrd
      have hnil : fa = none → n = 0:=fun e=>by
        obtain ⟨a3,c3,h1,_,_,h2⟩:=Hu.out
        cases h1
        rcases h2 with ⟨h2,_⟩ | ⟨b3,o3,h3,_⟩
        · simp [h2]
        · rw [e] at h3;cases h3
      have HNI:=hide hnil
      clear hL hrd hnil
      have hq:=fun (w : World) (a : Option Addr) (n c : Nat)=>Go.Lib.run_eql_slice_nil (P:=Tryz.prog) w 29 46 a n c 0 0 Tryz.underlying29
      have hn0 : (0 : Int) ≤ (n : Int):=by omega
      have hn3 : (n : Int) ≤ (n : Int) + 3:=by omega
      go_upto_if 70 with (fail)
      go_cut [10] from 23 (fun v wx=>wx = wr ∧ (∃ a c,v = .slice a n c) ∧ RdF (fun b=>w.heap.size ≤ b) wr v fs)
      case first =>
        cases fa with
        | none =>
          have h0:=HNI.out rfl
          subst h0
          go_wp2
          go_meet
          case rel=>exact ⟨rfl,⟨none,0,rfl⟩,[],by have:=HN.out;simp;omega,⟨none,0,rfl,by simp,by unfold maxLen;omega,.inl ⟨rfl,fun _=>rfl⟩⟩,fun k u x hk=>by simp at hk⟩
        | some a3 =>
          go_wp2
          go_meet
          case rel=>exact ⟨rfl,⟨_,_,rfl⟩,HRD.out⟩
      case rest =>
        obtain ⟨rfl,⟨ia,ic,rfl⟩,hin⟩:=hcut
        have HIN:=hide hin
        clear hin hq HRD
        have HCN:=hide (numbers_any reds S0 _ wc (HR.out.below HL.out.below (fun x _=>by simp [int64s])) (by have:=HNR.out;omega))
        rw [HNR.out] at HCN
        go_wp2_with fail
        refine HCN.out.mono ?_
        rintro e w3 ⟨rfl,ho3,hb3⟩
        have HL3:=hide (HL.out.below' hb3)
        have HIN3:=hide (HIN.out.below hb3)
        have HO3:=hide ho3
        have HRD3:=hide (nums_rd (own_base ho3 HL.out.below.size) HNR.out hn2)
        have hgl : wc.heap.size < w3.heap.size:=(ho3.lt _ rfl).2
        have hal : w.heap.size ≤ wc.heap.size:=HL.out.below.size
        obtain ⟨ga,hga⟩ : ∃ ga,wc.heap.size = ga:=⟨_,rfl⟩
        rw [hga] at HO3 HRD3 hgl hal
        rw [hga]
        have hfar : Hid (ga ≠ gm ∧ ga ≠ go ∧ ∀ j,j < n → HidG G j ≠ ga):=by
          refine ⟨?_,?_,fun j hj=>?_⟩
          · have:=(HL.out.om.lt gm rfl).2;omega
          · have:=(HL.out.oo.lt go rfl).2;omega
          · have:=(HL.out.far j hj).2.2.1;unfold HidG;omega
        have hnil : ra = none → nr = 0:=fun e=>by
          obtain ⟨a3,c3,h1,_,_,h2⟩:=HR.out
          cases h1
          rcases h2 with ⟨h2,_⟩ | ⟨b3,o3,h3,_⟩
          · simp [h2]
          · rw [e] at h3;cases h3
        have HNI2:=hide hnil
        clear ho3 hb3 HL HIN HCN hga hnil
        have hq:=fun (w : World) (a : Option Addr) (n c : Nat)=>Go.Lib.run_eql_slice_nil (P:=Tryz.prog) w 30 3 a n c 0 0 Tryz.underlying30
        have hn0 : (0 : Int) ≤ (nr : Int):=by omega
        have hn3 : (nr : Int) ≤ (nr : Int) + 3:=by omega
        go_upto_if 78 with (fail)
        go_cut [12] from 23 (fun v wx=>wx = w3 ∧ (∃ a c,v = .slice a nr c) ∧ RdL (fun b=>w.heap.size ≤ b) w3 1 int64s v reds)
        case first =>
          cases ra with
          | none =>
            have h0:=HNI2.out rfl
            subst h0
            go_wp2
            go_meet
            case rel=>exact ⟨rfl,⟨none,0,rfl⟩,none,0,by have:=HNR.out;rw [this],by have:=HNR.out;omega,by unfold maxLen;omega,.inl ⟨List.eq_nil_of_length_eq_zero HNR.out,fun _=>rfl⟩⟩
          | some a3 =>
            go_wp2
            go_meet
            case rel=>exact ⟨rfl,⟨_,_,rfl⟩,HRD3.out⟩
        case rest =>
          obtain ⟨rfl,⟨ja,jc,rfl⟩,hjn⟩:=hcut
          have HJN:=hide hjn
          have HLT : Hid (go < wc.heap.size ∧ ga < wc.heap.size ∧ ∀ j,j < n → G j < wc.heap.size):=⟨(HL3.out.oo.lt go rfl).2,hgl,fun j hj=>(HL3.out.far j hj).2.2.1⟩
          clear hjn hq HRD3
          have HNEW:=hide (hNew fs reds (fun b=>w.heap.size ≤ b) _ _ wc HW.out ⟨by rw [HN.out];exact hn1,by rw [HNR.out];exact hn2,Hn3.out⟩ Hri.out HIN3.out HJN.out)
          obtain ⟨e1,he1⟩ : ∃ e1,(check fs reds).1 = e1:=⟨_,rfl⟩
          obtain ⟨e2,he2⟩ : ∃ e2,(check fs reds).2 = e2:=⟨_,rfl⟩
          rw [he1,he2] at HNEW
          have HE1:=hide he1
          have HE2:=hide he2
          clear he1 he2
          obtain ⟨i2,hi2,hy0,hy1,hy2⟩:=info_parts Tryz.infoInt2
          go_wp2_with fail
          refine HNEW.out.mono ?_
          rintro e w4 ⟨p,rfl,hb4,hp1,hp2⟩
          have HP1:=hide hp1
          have HP2:=hide hp2
          have HB4:=hide hb4
          have HL4:=hide (HL3.out.below' hb4)
          have HO4:=hide (own_below HO3.out hb4)
          have hs4 : wc.heap.size ≤ w4.heap.size:=hb4.size
          have HW4:=hide (HL4.out.below)
          have HSR:=hide (fun o=>rd_src (HR.out.below (HL4.out.below.alloc HL4.out.below.size o) (fun x _=>by simp [int64s])) int64s_len (by omega))
          have HSR2 : Hid (∀ o,AppSrc (w4.alloc o) 1 (.slice ra nr rcap) nr (flat int64s reds)):=fun o=>by have:=HSR.out o;rw [HNR.out] at this;exact this
          clear hp1 hp2 hb4 HNEW HL3 HO3 HIN3 HJN HSR
          go_wp2_with (at_builtin;refine wpList_app2 _ rfl _ _ 30 rfl w4.heap.size 3 i2 _ 1 8 Tryz.underlying30 hi2 hy0 hy1 hy2 rfl (by decide) (.slice (some ⟨w4.heap.size,0,none⟩) 0 0) 0 [] rfl (World.ownsRow_made w4 #[] 0 (Nat.le_refl _) (by unfold maxLen;omega) rfl) _ nr (flat int64s reds) rfl (HSR2.out _) (flat_int64s_one _) ?h63 ?hbytes ?hbase ?_)
          case h63=>unfold maxLen;omega
          case hbytes=>omega
          case hbase=>simp
          intro a5 c5 w5 ho5 hg5 _ hlie5 _
          have hs5 : w4.heap.size < w5.heap.size:=by have:=hg5.size;simp at this;omega
          have hb5 : Below w4.heap.size w4 w5:=((Below.refl _ w4).alloc (Nat.le_refl _) _).grown hg5 (by simp) (fun q hq=>by simp [Value.ownBlock] at hq;omega)
          have HR0 : Hid (∀ o,RefL w4 (w5.alloc (.cells #[.slice none 0 0,.slice a5 nr c5] o)) w5.heap.size w4.heap.size fs reds 0 (.slice none 0 0) [] (.slice a5 nr c5)):=fun o=>by
            have hh:=heap_new w5 (.cells #[.slice none 0 0,.slice a5 nr c5] o)
            refine ⟨hb5.alloc (by omega) _,cell_of_row _ _ 0 _ _ (0,0) hh,cell_of_row _ _ 1 _ _ (0,0) hh,frozen_of_row _ _ 0 _ _ hh,by omega,World.ownsRow_nil _ _ _ _,by simp [Value.ownBlock],fun j u l hj=>by simp at hj,?_⟩
            refine own_rd (base:=w4.heap.size) (e:=3) (by rw [HNR.out];exact ho5.alloc _) int64s_len (fun b hb=>?_)
            have:=ho5.lt b hb
            exact ⟨this.1,by omega,by simp [Value.ownBlock]⟩
          have HB5:=hide hb5
          clear ho5 hg5 hlie5 hb5 hi2 hy0 hy1 hy2 HSR2
          go_wp2
          go_loopw [17] (fun i wr=>∃ (k : Nat) (fv : Value) (us2 : List Value),k ≤ n ∧ i = .int .i64 k ∧ us2.length = k ∧ RefL w4 wr w5.heap.size w4.heap.size fs reds k fv us2 (.slice a5 nr c5)) (fun i _=>n - (intOf i).toNat)
          case atStart=>exact ⟨0,_,_,Nat.zero_le _,rfl,rfl,HR0.out _⟩
          case round =>
            obtain ⟨k,fv,us2,hk,rfl,hul2,hRL⟩:=hrel
            have HRL:=hide hRL
            obtain ⟨va,vc,rfl⟩:=own_form hRL.own
            obtain ⟨rb,hrb⟩ : ∃ rb,w5.heap.size = rb:=⟨_,rfl⟩
            rw [hrb] at HRL hRL ⊢
            have hbw : Below w.heap.size w wr:=HW4.out.trans (hRL.below.mono HW4.out.size)
            by_cases hlt : k < n
            · obtain ⟨l,hlf⟩ : ∃ l,fs[k]? = some l:=⟨fs[k]'(by have:=HN.out;omega),by simp⟩
              obtain ⟨u,huf⟩ : ∃ u,us[k]? = some u:=⟨us[k]'(by have:=HU.out;omega),by simp⟩
              have hx:=Hfs.out k u l huf hlf
              obtain ⟨x2,cap2,rfl,hc2,hm2⟩:=hx.form
              obtain ⟨b,off,rfl,_,hcu⟩:=Hu.out.at huf
              have e0:=hcu 0 _ rfl
              simp only [Nat.mul_one,Nat.add_zero] at e0
              have hbl:=block_lt_of_cell e0
              simp only at hbl
              have q0:=(hbw.cell (p:=⟨b,off + k,none⟩) hbl).trans e0
              have hL10:=Hn3.out l (List.mem_of_getElem? hlf)
              have HSR : Hid (∀ o,AppSrc (wr.alloc o) 5 (.slice x2 l.length cap2) l.length (flat Ins.vals l)):=fun o=>rd_src (hx.below (hbw.alloc hbw.size o) (fun x _=>List.cons_ne_nil _ _)) insvals_len (by omega)
              have c0:=hRL.c0
              have f0:=hRL.fz
              obtain ⟨i6,hi6,hy0,hy1,hy2⟩:=info_parts Tryz.infoIns2
              obtain ⟨ii,hii,hz0,hz1,hz2⟩:=info_parts Tryz.infoLIns
              have hki : (k : Int) < n:=by omega
              have hrl : rb < wr.heap.size:=block_lt_of_cell c0
              have hbr : b < wr.heap.size:=Nat.lt_of_lt_of_le hbl hbw.size
              have hNs : w4.heap.size ≤ wr.heap.size:=hRL.below.size
              have hbs : ¬ b = rb:=by have:=hRL.rbN;have:=HW4.out.size;omega
              obtain ⟨ℓ,hℓ⟩ : ∃ ℓ,l.length = ℓ:=⟨_,rfl⟩
              rw [hℓ] at q0 HSR hL10
              have HLF:=hide hlf
              have HLL:=hide hℓ
              have HU2:=hide hul2
              have hfvb : ∀ q,(Value.slice va k vc).ownBlock = some q → q < wr.heap.size:=fun q hq=>(hRL.own.lt q hq).2
              have HFV:=hide hfvb
              have HFB:=hide hRL.fb
              have HOWN:=hide hRL.own
              have hnew1:=World.new_ne wr ⟨rb,0,none⟩ c0
              have hnew2:=World.new_ne wr ⟨b,off + k,none⟩ q0
              clear hRL hx hcu e0 hlf huf hℓ hbw hul2 hfvb
              unfold maxLen at hm2
              go_wp2
              go_region_law
                ((first
                  | (refine step_app2 _ (by rfl) _ _ 46 (by rfl) w4.heap.size 45 i6 _ 5 40 Tryz.underlying46 hi6 hy0 hy1 hy2 (by rfl) (by decide) (.slice (some ⟨wr.heap.size,0,none⟩) 0 0) 0 [] (by rfl) (by exact World.ownsRow_made wr #[] 0 hNs (by unfold maxLen;omega) rfl) (.slice x2 ℓ cap2) ℓ (flat Ins.vals l) (by rfl) (by exact HSR.out _) (flat_ins_one _) (by unfold maxLen;omega) (by omega) (by simp;omega) ?_
                     intro a7 c7 w7 ho7 hg7 _ hl7 _
                     have hg7' : (wr.alloc (.cells #[] 45)).grownBy w7 (some wr.heap.size):=⟨hg7.os,hg7.tape,hg7.output,hg7.size,hg7.block⟩
                     have o7 : ∀ q,q < wr.heap.size → w7.heap[q]? = wr.heap[q]?:=fun q hq=>(hg7'.block q (by simp;omega) (by simp;omega)).trans (Below.heap_alloc _ _ _ hq)
                     have k0 : w7.cell? ⟨rb,0,none⟩ = some (.slice va k vc):=(World.cell?_of_block (w:=wr) (a:=⟨rb,0,none⟩) (o7 rb hrl)).trans c0
                     have k1 : w7.cell? ⟨b,off + k,none⟩ = some (.slice x2 ℓ cap2):=(World.cell?_of_block (w:=wr) (a:=⟨b,off + k,none⟩) (o7 b hbr)).trans q0
                     have kf : w7.frozen? ⟨rb,0,none⟩ = false:=(World.frozen?_of_block (w:=wr) (a:=⟨rb,0,none⟩) (o7 rb hrl)).trans f0
                     have hs7 : wr.heap.size < w7.heap.size:=by have:=hg7'.size;simp at this;omega
                     have hrl7 : rb < w7.heap.size:=by omega
                     have hbr7 : b < w7.heap.size:=by omega
                     have HOW7:=hide (own_turn HOWN.out (fun q hq hlt=>o7 q hlt))
                     have HO7:=hide ho7
                     have HG7:=hide hg7'
                     have HL7:=hide hl7
                     clear ho7 hg7 hg7' hl7 o7)
                  | (refine step_app2 _ (by rfl) _ _ 29 (by rfl) w4.heap.size 46 ii _ 1 24 Tryz.underlying29 hii hz0 hz1 hz2 (by rfl) (by decide) (.slice va k vc) k us2 (by rfl) (by exact HOW7.out.alloc _) (.slice (some ⟨w7.heap.size,0,none⟩) 1 1) 1 [.slice a7 ℓ c7] (by rfl) (by exact srcA w7 #[.slice a7 ℓ c7] 46 _ 0 _ rfl rfl 1 1 rfl) (by simp [Value.oneCell']) (by unfold maxLen;omega) (by omega) (by simp;omega) ?_
                     intro a8 c8 w8 ho8 hg8 _ hl8 _
                     have hg8' : (w7.alloc (.cells #[.slice a7 ℓ c7] 46)).grownBy w8 (Value.slice va k vc).ownBlock:=⟨hg8.os,hg8.tape,hg8.output,hg8.size,hg8.block⟩
                     have o8 : ∀ q,q < w7.heap.size → (Value.slice va k vc).ownBlock ≠ some q → w8.heap[q]? = w7.heap[q]?:=fun q hq hne=>(hg8'.block q (by simp;omega) (fun e=>hne e.symm)).trans (Below.heap_alloc _ _ _ hq)
                     have s0 : w8.cell? ⟨rb,0,none⟩ = some (.slice va k vc):=(World.cell?_of_block (w:=w7) (a:=⟨rb,0,none⟩) (o8 rb (by omega) HFB.out)).trans k0
                     have s1 : w8.frozen? ⟨rb,0,none⟩ = false:=(World.frozen?_of_block (w:=w7) (a:=⟨rb,0,none⟩) (o8 rb (by omega) HFB.out)).trans kf
                     have s2 : w8.cell? ⟨b,off + k,none⟩ = some (.slice x2 ℓ cap2):=(World.cell?_of_block (w:=w7) (a:=⟨b,off + k,none⟩) (o8 b (by omega) (fun e=>by have:=(HOWN.out.lt b e).1;have:=HW4.out.size;omega))).trans k1
                     have HO8:=hide ho8
                     have HG8:=hide hg8'
                     have HL8:=hide hl8
                     clear ho8 hg8 hg8' hl8 o8)))
              all_goals (clear k0 k1 kf s2 q0 hnew1 hnew2 hi6 hy0 hy1 hy2 hii hz0 hz1 hz2)
              all_goals go_wp2
              all_goals
                go_roundw
                case rel =>
                  have hn:=HRL.out.next HU2.out HLF.out hNs (.slice (some ⟨wr.heap.size,0,none⟩) 0 0) rfl HG7.out (by simpa using HO7.out) (by rw [HLL.out]) (by simpa using HL7.out) rfl HG8.out (by simpa using HO8.out) (w7.heap.size + 1) (by simpa using HL8.out) rfl
                  exact ⟨k + 1,_,_,by omega,by go_num,by simp [HU2.out],hn⟩
                case measure=>simp [intOf];omega
            · obtain rfl : n = k:=by omega
              obtain ⟨wq,hwq⟩ : ∃ wq,wq = wr:=⟨_,rfl⟩
              have HREF:=hide (hRL.done HN.out hul2)
              rw [← hwq] at HREF
              have HBQ : Hid (Below w4.heap.size w4 wq):=by unfold Hid;rw [hwq];exact hRL.below
              have HWQ:=hide hwq
              clear hwq
              have HBR:=hide hRL.below
              have hrl : rb < wr.heap.size:=block_lt_of_cell hRL.c0
              have hs4r : w4.heap.size ≤ wr.heap.size:=hRL.below.size
              have HLr:=hide (HL4.out.below' (Below.mono hRL.below (Nat.le_refl _)))
              have HOr:=hide (own_below HO4.out (Below.mono hRL.below (Nat.le_refl _)))
              clear hRL hul2 HRL hbw hlt HL4 HO4 HR0
              obtain ⟨rb',vf',vr',hv',_,d0,d1,hF',hR'⟩:=HREF.out
              cases hv'
              rw [HWQ.out] at d0 d1 hF' hR'
              have HCK:=hide (check_any fs reds _ rb vf' vr' wr HW.out d0 d1 hF' hR')
              rw [HE1.out,HE2.out] at HCK
              clear d0 d1 hF' hR'
              go_wp2_with fail
              refine HCK.out.mono ?_
              rintro e w6 ⟨rfl,hb6⟩
              have HB6 : Hid (Below wq.heap.size wq w6):=by unfold Hid;rw [HWQ.out];exact hb6
              have HL6:=hide (HLr.out.below' hb6)
              have HO6:=hide (own_below HOr.out hb6)
              have HW6:=hide HL6.out.below
              rw [← HNR.out] at HO6
              have HWN:=hide (wholeNumbers_any reds S0 (.slice ra nr rcap) ga _ _ w6 (HR.out.below HW6.out (fun x _=>by simp [int64s])) (by have:=HNR.out;omega) HO6.out)
              rw [HNR.out] at HWN
              have hs6 : wr.heap.size ≤ w6.heap.size:=hb6.size
              clear hb6 HCK HLr HOr HO6
              go_wp2_with fail
              refine HWN.out.mono ?_
              rintro e w7 ⟨rfl,hg7⟩
              have HF7:=hide (Frm.of_grown hg7)
              have HL7:=hide (HL6.out.frm HF7.out (fun b hb=>by
                injection hb with hb
                subst hb
                exact ⟨hal,hfar.out.1,hfar.out.2.1,fun j hj=>hfar.out.2.2 j hj⟩))
              have hs7 : w6.heap.size ≤ w7.heap.size:=hg7.size
              have HST:=hide (Back.start HL7.out)
              obtain ⟨lm1,lm2⟩:=len_om HL7.out
              clear hg7 HWN HL6
              go_wp2
              go_loopw [20,21] (fun ok i wx=>ok = .bool true ∧ ∃ (k : Nat) (os2 : List Value),k ≤ n + 3 ∧ i = .int .i64 k ∧ Back w w7 wx gm go n fs ms os G k os2) (fun _ i _=>n + 3 - (intOf i).toNat)
              case atStart=>exact ⟨by simp,0,os,Nat.zero_le _,rfl,HST.out⟩
              case round =>
                obtain ⟨rfl,k,os2,hk,rfl,hBK⟩:=hrel
                have HBK:=hide hBK
                by_cases hend : k < n + 3
                · obtain ⟨x0,hx0⟩ : ∃ x,os2[k]? = some x:=⟨os2[k]'(by have:=hBK.oo.1;omega),by simp⟩
                  have g0:=(hBK.oo.cellAt k (by omega)).trans hx0
                  have gf:=hBK.oo.frozenAt k
                  have hxo : os[k]? = some x0:=(hBK.same k (Nat.le_refl _)).symm.trans hx0
                  have hbw : Below w.heap.size w wr:=by
                    refine HL7.out.below.trans ⟨hBK.frm.os,hBK.frm.tape,hBK.frm.output,hBK.frm.size,fun q hq=>hBK.frm.block q (Nat.lt_of_lt_of_le hq HL7.out.below.size) (fun h=>?_)⟩
                    rcases h with h | ⟨j,hj,h⟩
                    · have:=(HL7.out.oo.lt go rfl).1;omega
                    · obtain ⟨l',hl'⟩ : ∃ l',fs[j]? = some l':=⟨fs[j]'(by have:=HN.out;omega),by simp⟩
                      have:=(((HL7.out.row j l' hj hl').2.1).lt (G j) rfl).1
                      omega
                  have hke : (k : Int) < (n : Int) + 3:=by omega
                  have hgl : go < wr.heap.size:=(hBK.oo.lt go rfl).2
                  by_cases hlt : k < n
                  · obtain ⟨l,hlf⟩ : ∃ l,fs[k]? = some l:=⟨fs[k]'(by have:=HN.out;omega),by simp⟩
                    obtain ⟨u,huf⟩ : ∃ u,us[k]? = some u:=⟨us[k]'(by have:=HU.out;omega),by simp⟩
                    have hx:=Hfs.out k u l huf hlf
                    obtain ⟨x2,cap2,rfl,hc2,hm2⟩:=hx.form
                    obtain ⟨b,off,rfl,_,hcu⟩:=Hu.out.at huf
                    have e0:=hcu 0 _ rfl
                    simp only [Nat.mul_one,Nat.add_zero] at e0
                    have hbl:=block_lt_of_cell e0
                    simp only at hbl
                    have q0:=(hbw.cell (p:=⟨b,off + k,none⟩) hbl).trans e0
                    have hL10:=Hn3.out l (List.mem_of_getElem? hlf)
                    obtain ⟨r1,r2,r3⟩:=HL7.out.row k l hlt hlf
                    have hrow:=hBK.row k l (Nat.le_refl _) hlt hlf
                    have m0:=(hBK.om.cellAt k (by omega)).trans r1
                    have hGk:=hrow.lt (G k) rfl
                    obtain ⟨f1,f2,_,_⟩:=HL7.out.far k hlt
                    obtain ⟨oa,oc,ho0⟩ : ∃ oa oc,x0 = .slice oa l.length oc:=by
                      rcases r3 with r3 | ⟨rfl,r3⟩
                      · rw [hxo] at r3;cases r3;exact ⟨_,_,rfl⟩
                      · rw [hxo] at r3;cases r3;exact ⟨none,0,rfl⟩
                    subst ho0
                    have hgml : gm < wr.heap.size:=(hBK.om.lt gm rfl).2
                    have hbr : b < wr.heap.size:=Nat.lt_of_lt_of_le hbl hbw.size
                    obtain ⟨gk,hgk⟩ : ∃ gk,G k = gk:=⟨_,rfl⟩
                    rw [hgk] at m0 hrow hGk f1 f2
                    have HWC:=hide (fun W h1 h2=>wholeCode_any l S0 (.slice x2 l.length cap2) gk (l.length + 3) w.heap.size W h1 hL10 h2)
                    have HRW:=hide hrow
                    have HRX:=hide (hx.below hbw (fun x _=>List.cons_ne_nil _ _))
                    obtain ⟨ℓ,hℓ⟩ : ∃ ℓ,l.length = ℓ:=⟨_,rfl⟩
                    rw [hℓ] at q0 HWC HRW HRX hL10 m0 g0
                    have hki : (k : Int) < n:=by omega
                    have hkn : ¬ (n : Int) ≤ k:=by omega
                    have hbg : ¬ b = gk:=by omega
                    have HGK:=hide hgk
                    clear hx hcu e0 huf hrow r1 r2 r3 hBK hx0 hxo hbw
                    unfold maxLen at hm2
                    have tl : ((ℓ : Int) == ℓ) = true:=by simp
                    go_wp2
                    go_region_held3 (fun w'=>w'.cell? ⟨gm,k,none⟩ = some (.slice (some ⟨gk,0,none⟩) (ℓ + 3) (ℓ + 3)) ∧ w'.cell? ⟨b,off + k,none⟩ = some (.slice x2 ℓ cap2)) (go_keep)
                      ((go_at_call 18
                        refine (HWC.out _ (by exact HRX.out) (by exact HRW.out)).mono ?_
                        rintro e w8 ⟨rfl,hg8'⟩
                        have hg8 : wr.grownBy w8 (some gk):=⟨hg8'.os,hg8'.tape,hg8'.output,hg8'.size,hg8'.block⟩
                        have o8 : ∀ q,q < wr.heap.size → q ≠ gk → w8.heap[q]? = wr.heap[q]?:=fun q hq hne=>hg8.block q hq (by simpa using hne)
                        have s0:=(World.cell?_of_block (w:=wr) (a:=⟨gm,k,none⟩) (o8 gm hgml (fun e=>f1 e.symm))).trans m0
                        have s1:=(World.cell?_of_block (w:=wr) (a:=⟨b,off + k,none⟩) (o8 b hbr hbg)).trans q0
                        have s2:=(World.cell?_of_block (w:=wr) (a:=⟨go,k,none⟩) (o8 go hgl (fun e=>f2 e.symm))).trans g0
                        have s3:=(World.frozen?_of_block (w:=wr) (a:=⟨go,k,none⟩) (o8 go hgl (fun e=>f2 e.symm))).trans gf
                        have HG8:=hide hg8
                        clear hg8 hg8' o8))
                    go_wp2
                    go_quiet (fail)
                    go_wp2
                    go_roundw
                    case rel =>
                      exact ⟨by simp,k + 1,_,by omega,by go_num,Back.next HL7.out HBK.out hend (fun q=>some gk = some q) (Frm.drewN (Frm.of_grown HG8.out) _) (fun q hq=>⟨hlt,by injection hq with hq;rw [HGK.out,hq]⟩)⟩
                    case measure=>simp [intOf];omega
                  · have hx1:=HL7.out.rest k (by omega) hend
                    rw [hxo] at hx1
                    cases hx1
                    have hki : ¬ (k : Int) < n:=by omega
                    have hkn : (n : Int) ≤ k:=by omega
                    clear hBK hx0 hxo hbw
                    go_wp2
                    go_roundw
                    case rel =>
                      exact ⟨by simp,k + 1,_,by omega,by go_num,Back.next HL7.out HBK.out hend (fun _=>False) (Frm.refl _ _) (fun q hq=>hq.elim)⟩
                    case measure=>simp [intOf];omega
                · obtain ⟨w9,hw9⟩ : ∃ w9,w9 = wr:=⟨_,rfl⟩
                  obtain rfl : k = n + 3:=by omega
                  have HF9:=hide hBK.frm
                  have hbw : Below w.heap.size w wr:=by
                    refine HL7.out.below.trans ⟨hBK.frm.os,hBK.frm.tape,hBK.frm.output,hBK.frm.size,fun q hq=>hBK.frm.block q (Nat.lt_of_lt_of_le hq HL7.out.below.size) (fun h=>?_)⟩
                    rcases h with h | ⟨j,hj,h⟩
                    · have:=(HL7.out.oo.lt go rfl).1;omega
                    · obtain ⟨l',hl'⟩ : ∃ l',fs[j]? = some l':=⟨fs[j]'(by have:=HN.out;omega),by simp⟩
                      have:=(((HL7.out.row j l' hj hl').2.1).lt (G j) rfl).1
                      omega
                  have HBW:=hide hbw
                  have t1 : (e1 != e1) = false:=by simp
                  have t2 : (e2 != e2) = false:=by simp
                  have hke : ¬ ((n : Int) + 3 < (n : Int) + 3):=by omega
                  clear hBK HBK hbw hw9 hend HST
                  by_cases hz : e1 = 0
                  · subst hz
                    obtain ⟨⟨pb,rfl⟩,hDP⟩:=HP1.out rfl
                    have HDP:=hide hDP
                    have hB0:=HBk.out.below HBW.out
                    have HBm:=hide (hB0.more (T:=fun b=>w.heap.size ≤ b ∧ b < wr.heap.size) (fun b hb=>⟨hb.2,by omega,fun e=>by have:=(HBk.out.op.lt b e).2;omega,fun e=>by have:=(HBk.out.or.lt b e).2;omega,fun e=>by have:=(HBk.out.on.lt b e).2;omega,fun e=>by have:=(HBk.out.oe.lt b e).2;omega,fun e=>by have:=(HBk.out.ov.lt b e).2;omega⟩))
                    obtain ⟨pa,pc,hpv⟩:=own_form hB0.op
                    obtain ⟨rra,rrc,hrv⟩:=own_form hB0.or
                    have c0:=hB0.c0
                    have c1:=hB0.c1
                    have fz0:=hB0.fz 0
                    have fz1:=hB0.fz 1
                    have hBl:=hB0.lt
                    have HOP:=hide hB0.op
                    have HOR:=hide hB0.or
                    have HBP:=hide hB0.bp
                    have HBR2:=hide hB0.br
                    have HPRC:=hide hB0.pr
                    rw [hpv] at c0 HOP HBP HPRC
                    rw [hrv] at c1 HOR HBR2 HPRC
                    obtain ⟨np,hnp⟩ : ∃ np,pu.length = np:=⟨_,rfl⟩
                    obtain ⟨nq,hnq⟩ : ∃ nq,ru.length = nq:=⟨_,rfl⟩
                    rw [hnp] at c0 HOP HBP HPRC hpv hpu
                    rw [hnq] at c1 HOR HBR2 HPRC hrv hru
                    have HNP:=hide hnp
                    have HNQ:=hide hnq
                    have HPV:=hide hpv
                    have HRV:=hide hrv
                    obtain ⟨ip,hip,hx0,hx1,hx2⟩:=info_parts Tryz.infoPP
                    obtain ⟨ir,hir,hv0,hv1,hv2⟩:=info_parts Tryz.infoPR
                    have hbs : B ≤ wr.heap.size:=Nat.le_trans hB0.bw (Nat.le_of_lt hB0.lt)
                    clear hDP hB0 hpv hrv hnp hnq
                    go_wp2_with (first
                      | (go_at_call 19;refine (num_any _ _).mono ?_;rintro e w9 ⟨rfl,hw9'⟩;obtain rfl:=hw9'.symm)
                      | (at_builtin;refine wpList_app2 _ rfl _ _ 35 rfl B 48 ip _ 1 8 Tryz.underlying35 hip hx0 hx1 hx2 rfl (by decide) _ np _ rfl (HOP.out.alloc _) (.slice (some ⟨wr.heap.size,0,none⟩) 1 1) 1 [.pointer (some ⟨pb,0,none⟩)] rfl (srcA _ _ _ _ 0 _ rfl rfl 1 1 rfl) ?h1 ?h63 ?hbytes ?hbase ?_))
                    case h1=>simp [Value.oneCell']
                    case h63=>unfold maxLen;omega
                    case hbytes=>omega
                    case hbase=>simp;omega
                    intro a1 k1 x1 ho1 hg1 _ hl1 _
                    have o1 : ∀ q,q < wr.heap.size → (Value.slice pa np pc).ownBlock ≠ some q → x1.heap[q]? = wr.heap[q]?:=fun q hq hne=>(hg1.block q (by simp;omega) (fun e=>hne e.symm)).trans (Below.heap_alloc _ _ _ hq)
                    have s0:=(World.cell?_of_block (w:=wr) (a:=⟨Bw,0,none⟩) (o1 Bw hBl HBP.out)).trans c0
                    have s1:=(World.cell?_of_block (w:=wr) (a:=⟨Bw,1,none⟩) (o1 Bw hBl HBP.out)).trans c1
                    have s2:=(World.frozen?_of_block (w:=wr) (a:=⟨Bw,0,none⟩) (o1 Bw hBl HBP.out)).trans fz0
                    have s3:=(World.frozen?_of_block (w:=wr) (a:=⟨Bw,1,none⟩) (o1 Bw hBl HBP.out)).trans fz1
                    have hs1x : wr.heap.size + 1 ≤ x1.heap.size:=by have:=hg1.size;simpa using this
                    have hxl : Bw < x1.heap.size:=by omega
                    have HOR1:=hide (own_set_other (g:=Bw) (j:=0) (own_turn HOR.out (fun b hb hlt=>o1 b hlt (fun e=>HPRC.out b e hb))) HBR2.out (.slice a1 (np + 1) k1))
                    have HO1:=hide ho1
                    have HG1:=hide hg1
                    have HL1:=hide hl1
                    clear ho1 hg1 hl1 o1 c0 c1 fz0 fz1 hip hx0 hx1 hx2
                    go_wp2_with (at_builtin;refine wpList_app2 _ rfl _ _ 36 rfl B 49 ir _ 1 8 Tryz.underlying36 hir hv0 hv1 hv2 rfl (by decide) _ nq _ rfl (HOR1.out.alloc _) (.slice (some ⟨x1.heap.size,0,none⟩) 1 1) 1 [.pointer (some ⟨rb,0,none⟩)] rfl (srcA _ _ _ _ 0 _ (by simp [World.setCell]) rfl 1 1 rfl) ?h1 ?h63 ?hbytes ?hbase ?_)
                    case h1=>simp [Value.oneCell']
                    case h63=>unfold maxLen;omega
                    case hbytes=>omega
                    case hbase=>simp;omega
                    intro a2 k2 x2 ho2 hg2 _ hl2 _
                    have o2 : x2.heap[Bw]? = (x1.setCell ⟨Bw,0,none⟩ (.slice a1 (np + 1) k1)).heap[Bw]?:=(hg2.block Bw (by simp [World.setCell];omega) (fun e=>HBR2.out e.symm)).trans (Below.heap_alloc _ _ _ (by simpa [World.setCell] using hxl))
                    have v1 : x2.cell? ⟨Bw,1,none⟩ = some (.slice rra nq rrc):=by rw [World.cell?_of_block (w:=x1.setCell ⟨Bw,0,none⟩ (.slice a1 (np + 1) k1)) (a:=⟨Bw,1,none⟩) o2,World.cell?_setCell_other _ _ _ _ (by simp)];exact s1
                    have v2 : x2.frozen? ⟨Bw,1,none⟩ = false:=by rw [World.frozen?_of_block (w:=x1.setCell ⟨Bw,0,none⟩ (.slice a1 (np + 1) k1)) (a:=⟨Bw,1,none⟩) o2,World.frozen?_setCell];exact s3
                    have HFIN : Hid (∃ p r pv2 rv2 S2,Bk (x2.setCell ⟨Bw,1,none⟩ (.slice a2 (nq + 1) k2)) B Bw S2 pv2 rv2 nv ev vv (pu ++ [p]) (ru ++ [r]) nu eu vu ∧ D.P S2 (x2.setCell ⟨Bw,1,none⟩ (.slice a2 (nq + 1) k2)) p fs reds ∧ RefP S2 (x2.setCell ⟨Bw,1,none⟩ (.slice a2 (nq + 1) k2)) r fs reds ∧ Frm (fun k=>k = Bw ∨ pv.ownBlock = some k ∨ rv.ownBlock = some k) w (x2.setCell ⟨Bw,1,none⟩ (.slice a2 (nq + 1) k2)) ∧ ∀ b,S b → S2 b):=by
                      have hk:=HBm.out.prog (p:=.pointer (some ⟨pb,0,none⟩)) (r:=.pointer (some ⟨rb,0,none⟩)) (w1:=x1) (w2:=x2) (a1:=a1) (c1:=k1) (a2:=a2) (c2:=k2) (H1:=wr.heap.size + 1) (H2:=x1.heap.size + 1)
                        (by rw [HPV.out];exact HG1.out) (by rw [HNP.out];exact HO1.out) (by rw [HPV.out,HNP.out];exact HL1.out) rfl (by rw [HRV.out,HNP.out];exact hg2) (by rw [HNQ.out];exact ho2) (by rw [HRV.out,HNQ.out];exact hl2) rfl
                      rw [HNP.out,HNQ.out] at hk
                      obtain ⟨hk1,hk2⟩:=hk
                      have hz9 : wq.heap.size ≤ wr.heap.size:=Nat.le_trans (Nat.le_trans HB6.out.size HF7.out.size) HF9.out.size
                      have hmove : ∀ b,wc.heap.size ≤ b → b < wq.heap.size → (x2.setCell ⟨Bw,1,none⟩ (.slice a2 (nq + 1) k2)).heap[b]? = wq.heap[b]?:=fun b h1 h2=>by
                        have hwb : w.heap.size ≤ b:=by omega
                        rw [hk2.block b (by omega) (fun h=>by
                          rcases h with h | h | h
                          · omega
                          · have:=(HBk.out.op.lt b h).2;omega
                          · have:=(HBk.out.or.lt b h).2;omega)]
                        rw [HF9.out.block b (Nat.lt_of_lt_of_le (Nat.lt_of_lt_of_le h2 HB6.out.size) HF7.out.size) (fun h=>by
                          rcases h with h | ⟨j,hj,h⟩
                          · have:=HLT.out.1;omega
                          · have:=HLT.out.2.2 j hj;omega)]
                        rw [HF7.out.block b (Nat.lt_of_lt_of_le h2 HB6.out.size) (fun h=>by injection h with h;have:=HLT.out.2.1;omega),HB6.out.block b h2]
                      refine ⟨_,_,_,_,_,hk1,?_,?_,?_,fun b hb=>.inl hb⟩
                      · refine D.turn HDP.out (fun b hb hlt=>⟨.inr ⟨by omega,by have:=HBQ.out.size;omega⟩,?_⟩)
                        rw [hmove b hb.1 (by have:=HBQ.out.size;omega),HBQ.out.block b hb.2]
                      · refine HREF.out.turn (fun b hb hlt=>⟨.inr ⟨by omega,by omega⟩,hmove b (by omega) hlt⟩)
                      · exact (Frm.of_below _ HBW.out).trans hk2 (fun _ _ h=>h)
                    clear ho2 hg2 hl2 o2
                    go_wp2
                    go_ret
                    exact ⟨by simp,.inr ⟨HE1.out,HFIN.out⟩⟩
                  · have hp:=HP2.out hz
                    subst hp
                    have t0 : (e1 != 0) = true:=by simpa using hz
                    have HZ:=hide hz
                    clear hz
                    go_wp2_with (go_at_call 19;refine (num_any _ _).mono ?_;rintro e w9 ⟨rfl,rfl⟩)
                    go_ret
                    exact ⟨by simp,.inl ⟨by rw [HE1.out];exact HZ.out,HBk.out.below HBW.out,HBW.out⟩⟩
end Go.Proofs.YtkmakliebhnhbaaGreat
