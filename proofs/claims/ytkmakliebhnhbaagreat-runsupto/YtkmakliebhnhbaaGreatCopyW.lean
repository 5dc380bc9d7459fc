import Derived.Deep.RegionLaw
import Derived.Test.YtkmakliebhnhbaaGreatCopyA
namespace Go.Proofs.YtkmakliebhnhbaaGreat
open Go.RowKit Go.Shelf
set_option maxHeartbeats 4000000 in
theorem copy_calls (fs : List (List Ins)) (reds : List Int) (S : Nat → Prop) (vf vr : Value) (w : World) (hn : 0 < fs.length) (hn8 : fs.length ≤ 8) (hok : FsOk fs reds.length) (hl10 : ∀ l ∈ fs,l.length ≤ 10) (hr4 : reds.length ≤ 4) (hF : RdF S w vf fs) (hR : RdL S w 1 int64s vr reds) :
    Calls Tryz.prog 35 #[vf,vr] w fun e w'=>∃ cb,e = .returned (.pointer (some ⟨cb,0,none⟩)) ∧ CodeP (fun b=>w.heap.size ≤ b ∧ b < w'.heap.size) w' cb fs reds ∧ Below w.heap.size w w':=by
  have HF:=hide hF
  have HR:=hide hR
  obtain ⟨us,hul,hu,hfs⟩:=hF
  obtain ⟨a,cap,rfl,hc,hm⟩:=hu.form
  obtain ⟨ra,rcap,rfl,hrc,hrm⟩:=hR.form
  unfold maxLen at hm hrm
  obtain ⟨n,hN⟩ : ∃ n,fs.length = n:=⟨_,rfl⟩
  rw [hul,hN] at hc HF ⊢
  obtain ⟨nr,hNR⟩ : ∃ nr,reds.length = nr:=⟨_,rfl⟩
  rw [hNR] at hrc HR hr4 ⊢
  rw [hN] at hn hn8
  have HN:=hide hN
  have HNR:=hide hNR
  have HU : Hid (us.length = n):=hul.trans hN
  have Hfs:=hide hfs
  have Hu:=hide hu
  have Hok:=hide hok
  have Hl10:=hide hl10
  have HSR : Hid (AppSrc w 1 (.slice ra nr rcap) nr (flat int64s reds)):=by have:=rd_src HR.out int64s_len (by omega);rw [HNR.out] at this;exact this
  clear hN hul hNR hfs hu hR hok hl10
  obtain ⟨i2,hi2,hy0,hy1,hy2⟩:=info_parts Tryz.infoInt2
  have HM : Hid (∀ w1,Below w.heap.size w w1 → Calls Tryz.prog 47 #[.slice a n cap] w1 fun e w'=>∃ g,e = .returned (.slice (some ⟨g,0,none⟩) n n) ∧ w1.heap.size ≤ g ∧ g < w'.heap.size ∧ SArr w' g n (fun x=>toZ (sizeF fs n x)) ∧ Below w1.heap.size w1 w'):=fun w1 hb1=>by
    have:=measure_calls fs reds.length S (.slice a n cap) w1 (by rw [HN.out];exact hn) (by rw [HN.out];exact hn8) Hok.out Hl10.out (HF.out.below hb1)
    rw [HN.out] at this
    exact this
  go_enter Tryz.func35,Tryz.ntmps35
  go_wp2_with (at_builtin;refine wpList_app2 _ rfl _ _ 30 rfl w.heap.size 3 i2 _ 1 8 Tryz.underlying30 hi2 hy0 hy1 hy2 rfl (by decide) (.slice none 0 0) 0 [] rfl (World.ownsRow_nil _ _ _ _) _ nr (flat int64s reds) rfl HSR.out (flat_int64s_one _) ?h63 ?hbytes ?hbase ?_)
  case h63=>unfold maxLen;omega
  case hbytes=>omega
  case hbase=>exact Nat.le_refl _
  intro a5 c5 w5 ho5 hg5 _ hlie5 _
  have hb5 : Below w.heap.size w w5:=(Below.refl _ w).grown hg5 (Nat.le_refl _) (fun q hq=>by simp [Value.ownBlock] at hq)
  have HO5:=hide ho5
  have HB5:=hide hb5
  clear ho5 hg5 hlie5 hb5 hi2 hy0 hy1 hy2 HSR
  go_wp2_with (go_at_call 47;refine (HM.out _ HB5.out).mono ?_;rintro e w6 ⟨g,rfl,hg6,hgl6,hs6,hb6⟩)
  have hs5 : w.heap.size ≤ w5.heap.size:=HB5.out.size
  have hss6 : w5.heap.size ≤ w6.heap.size:=hb6.size
  have HR0 : Hid (∀ o,CodeL w (w6.alloc (.cells #[.slice none 0 0,.slice a5 nr c5,.slice (some ⟨g,0,none⟩) n n] o)) w6.heap.size w.heap.size fs reds 0 (.slice none 0 0) [] (.slice a5 nr c5) g):=fun o=>by
    have hh:=heap_new w6 (.cells #[.slice none 0 0,.slice a5 nr c5,.slice (some ⟨g,0,none⟩) n n] o)
    have hb6' : Below w.heap.size w w6:=HB5.out.trans (hb6.mono hs5)
    refine ⟨hb6'.alloc (by omega) _,cell_of_row _ _ 0 _ _ (0,0) hh,cell_of_row _ _ 1 _ _ (0,0) hh,by rw [HN.out];exact cell_of_row _ _ 2 _ _ (0,0) hh,frozen_of_row _ _ 0 _ _ hh,by omega,World.ownsRow_nil _ _ _ _,by simp [Value.ownBlock],fun j u l hj=>by simp at hj,?_,⟨by omega,by omega,by simp [Value.ownBlock]⟩,by simp;omega,?_⟩
    · have ho6:=own_below HO5.out hb6
      refine own_rd (base:=w.heap.size) (e:=3) (by rw [HNR.out];exact ho6.alloc _) int64s_len (fun b hb=>?_)
      have:=ho6.lt b hb
      exact ⟨this.1,by omega,by simp [Value.ownBlock]⟩
    · rw [HN.out];exact hs6.below hn ((Below.refl _ w6).alloc (Nat.le_refl _) _)
  clear hg6 hgl6 hs6 hb6 HM
  go_wp2
  obtain ⟨rb,hrb⟩ : ∃ rb,w6.heap.size = rb:=⟨_,rfl⟩
  rw [hrb] at HR0 ⊢
  go_loopw [16] (fun i wr=>∃ (k : Nat) (fv : Value) (us2 : List Value),k ≤ n ∧ i = .int .i64 k ∧ us2.length = k ∧ CodeL w wr rb w.heap.size fs reds k fv us2 (.slice a5 nr c5) g) (fun i _=>n - (intOf i).toNat)
  case atStart=>exact ⟨0,_,_,Nat.zero_le _,rfl,rfl,HR0.out _⟩
  case round =>
    obtain ⟨k,fv,us2,hk,rfl,hul2,hRL⟩:=hrel
    have HRL:=hide hRL
    obtain ⟨va,vc,rfl⟩:=own_form hRL.own
    have hbw : Below w.heap.size w wr:=hRL.below
    by_cases hlt : k < n
    · obtain ⟨l,hlf⟩ : ∃ l,fs[k]? = some l:=⟨fs[k]'(by have:=HN.out;omega),by simp⟩
      obtain ⟨u,huf⟩ : ∃ u,us[k]? = some u:=⟨us[k]'(by have:=HU.out;omega),by simp⟩
      have hx:=Hfs.out k u l huf hlf
      obtain ⟨x2,cap2,rfl,hc2,hm2⟩:=hx.form
      obtain ⟨b,off,rfl,_,hcu⟩:=Hu.out.at huf
      have e0:=hcu 0 _ rfl
      simp only [Nat.mul_one,Nat.add_zero] at e0
      have hbl:=block_lt_of_cell e0
      simp only at hbl
      have q0:=(hbw.cell (p:=⟨b,off + k,none⟩) hbl).trans e0
      have hL10:=Hl10.out l (List.mem_of_getElem? hlf)
      have HSR : Hid (AppSrc wr 5 (.slice x2 l.length cap2) l.length (flat Ins.vals l)):=rd_src (hx.below hbw (fun x _=>List.cons_ne_nil _ _)) insvals_len (by omega)
      have c0:=hRL.c0
      have f0:=hRL.fz
      obtain ⟨i6,hi6,hy0,hy1,hy2⟩:=info_parts Tryz.infoIns2
      obtain ⟨ii,hii,hz0,hz1,hz2⟩:=info_parts Tryz.infoLIns
      have hki : (k : Int) < n:=by omega
      have hrl : rb < wr.heap.size:=block_lt_of_cell c0
      have hbr : b < wr.heap.size:=Nat.lt_of_lt_of_le hbl hbw.size
      have hNs : w.heap.size ≤ wr.heap.size:=hRL.below.size
      have hbs : ¬ b = rb:=by have:=hRL.rbN;omega
      obtain ⟨ℓ,hℓ⟩ : ∃ ℓ,l.length = ℓ:=⟨_,rfl⟩
      rw [hℓ] at q0 HSR hL10
      have HLF:=hide hlf
      have HLL:=hide hℓ
      have HU2:=hide hul2
      have HFB:=hide hRL.fb
      have HOWN:=hide hRL.own
      clear hRL hx hcu e0 hlf huf hℓ hbw hul2
      unfold maxLen at hm2
      go_wp2
      go_region_law
        ((first
          | (refine step_app2 _ (by rfl) _ _ 46 (by rfl) w.heap.size 45 i6 _ 5 40 Tryz.underlying46 hi6 hy0 hy1 hy2 (by rfl) (by decide) (.slice none 0 0) 0 [] (by rfl) (by exact World.ownsRow_nil _ _ _ _) (.slice x2 ℓ cap2) ℓ (flat Ins.vals l) (by rfl) (by exact HSR.out) (flat_ins_one _) (by unfold maxLen;omega) (by omega) (by simp;omega) ?_
             intro a7 c7 w7 ho7 hg7 _ hl7 _
             have hg7' : wr.grownBy w7 none:=⟨hg7.os,hg7.tape,hg7.output,hg7.size,hg7.block⟩
             have o7 : ∀ q,q < wr.heap.size → w7.heap[q]? = wr.heap[q]?:=fun q hq=>hg7'.block q hq (by simp)
             have k0 : w7.cell? ⟨rb,0,none⟩ = some (.slice va k vc):=(World.cell?_of_block (w:=wr) (a:=⟨rb,0,none⟩) (o7 rb hrl)).trans c0
             have kf : w7.frozen? ⟨rb,0,none⟩ = false:=(World.frozen?_of_block (w:=wr) (a:=⟨rb,0,none⟩) (o7 rb hrl)).trans f0
             have hs7 : wr.heap.size ≤ w7.heap.size:=hg7'.size
             have hrl7 : rb < w7.heap.size:=by omega
             have HOW7:=hide (own_turn HOWN.out (fun q hq hlt=>o7 q hlt))
             have HO7:=hide ho7
             have HG7:=hide hg7'
             have HL7:=hide hl7
             clear ho7 hg7 hg7' hl7 o7)
          | (refine step_app2 _ (by rfl) _ _ 29 (by rfl) w.heap.size 46 ii _ 1 24 Tryz.underlying29 hii hz0 hz1 hz2 (by rfl) (by decide) (.slice va k vc) k us2 (by rfl) (by exact HOW7.out.alloc _) (.slice (some ⟨w7.heap.size,0,none⟩) 1 1) 1 [.slice a7 ℓ c7] (by rfl) (by exact srcA w7 #[.slice a7 ℓ c7] 46 _ 0 _ rfl rfl 1 1 rfl) (by simp [Value.oneCell']) (by unfold maxLen;omega) (by omega) (by simp;omega) ?_
             intro a8 c8 w8 ho8 hg8 _ hl8 _
             have hg8' : (w7.alloc (.cells #[.slice a7 ℓ c7] 46)).grownBy w8 (Value.slice va k vc).ownBlock:=⟨hg8.os,hg8.tape,hg8.output,hg8.size,hg8.block⟩
             have o8 : ∀ q,q < w7.heap.size → (Value.slice va k vc).ownBlock ≠ some q → w8.heap[q]? = w7.heap[q]?:=fun q hq hne=>(hg8'.block q (by simp;omega) (fun e=>hne e.symm)).trans (Below.heap_alloc _ _ _ hq)
             have s0 : w8.cell? ⟨rb,0,none⟩ = some (.slice va k vc):=(World.cell?_of_block (w:=w7) (a:=⟨rb,0,none⟩) (o8 rb (by omega) HFB.out)).trans k0
             have s1 : w8.frozen? ⟨rb,0,none⟩ = false:=(World.frozen?_of_block (w:=w7) (a:=⟨rb,0,none⟩) (o8 rb (by omega) HFB.out)).trans kf
             have HO8:=hide ho8
             have HG8:=hide hg8'
             have HL8:=hide hl8
             clear ho8 hg8 hg8' hl8 o8)))
      all_goals (clear k0 kf q0 hi6 hy0 hy1 hy2 hii hz0 hz1 hz2)
      all_goals go_wp2
      all_goals
        go_roundw
        case rel =>
          have hn:=HRL.out.next HU2.out HLF.out hNs HG7.out (by simpa using HO7.out) (by rw [HLL.out]) (by simpa [Value.ownBlock] using HL7.out) HG8.out (by simpa using HO8.out) (w7.heap.size + 1) (by simpa using HL8.out) rfl
          exact ⟨k + 1,_,_,by omega,by go_num,by simp [HU2.out],hn⟩
        case measure=>simp [intOf];omega
    · obtain rfl : n = k:=by omega
      have HD:=hide (hRL.done HN.out hul2 (by rw [HN.out];exact hn))
      have HBW:=hide hbw
      clear hRL hbw HRL
      go_wp2
      go_ret
      exact ⟨_,rfl,HD.out,HBW.out⟩
def devP (S : Nat → Prop) (W : World) (p : Value) (fs : List (List Ins)) (reds : List Int) : Prop:=∃ pb cb,p = .pointer (some ⟨pb,0,none⟩) ∧ S pb ∧ W.cell? ⟨pb,0,none⟩ = some (.pointer (some ⟨cb,0,none⟩)) ∧ CodeP S W cb fs reds
def dev : Dev where
  P:=devP
  turn:=fun {S S' W W' p fs reds} h hS=>by
    obtain ⟨pb,cb,hp,s1,c0,hc⟩:=h
    obtain ⟨t1,t2⟩:=hS pb s1 (block_lt_of_cell c0)
    exact ⟨pb,cb,hp,t1,(World.cell?_of_block (w:=W) (a:=⟨pb,0,none⟩) t2).trans c0,hc.turn hS⟩
set_option maxHeartbeats 2000000 in
theorem new_said : NewSaid dev:=by
  intro fs reds S vf vr w hw hsm hr64 hF hR
  have HF:=hide hF
  have HR:=hide hR
  have Hw:=hide hw
  obtain ⟨us,hul,hu,hfs⟩:=hF
  obtain ⟨a,cap,rfl,hc,hm⟩:=hu.form
  obtain ⟨ra,rcap,rfl,hrc,hrm⟩:=hR.form
  clear hw hsm hr64 hfs hu hR hul
  have HCK:=hide (codeCheck_calls fs reds S _ _ w Hw.out HF.out HR.out)
  obtain ⟨c1,h1⟩ : ∃ c,(check fs reds).1 = c:=⟨_,rfl⟩
  obtain ⟨c2,h2⟩ : ∃ c,(check fs reds).2 = c:=⟨_,rfl⟩
  have HH1:=hide h1
  have HH2:=hide h2
  rw [h1,h2] at HCK
  rw [h1,h2]
  clear h1 h2
  by_cases h0 : c1 = 0
  · obtain ⟨k1,k2,k3,k4,k5⟩:=check_ok (HH1.out.trans h0) Hw.out
    have HC2 : Hid (c2 = 0):=by
      have h1:=HH1.out
      have h2:=HH2.out
      unfold Hid
      rw [h0] at h1
      by_cases g1 : fs.length < 1 ∨ 8 < fs.length
      · rw [check_1 g1] at h1;cases h1
      · cases hb : (badRed reds).2 with
        | true=>rw [check_red g1 hb] at h1;cases h1
        | false=>cases hf : (badFun fs reds.length).2 with
          | true=>rw [check_fun g1 hb hf] at h1;cases h1
          | false=>rw [check_last g1 hb hf] at h1 h2;split at h1 <;> simp_all
    subst h0
    have HCP : Hid (∀ w1,Below w.heap.size w w1 → Calls Tryz.prog 35 #[.slice a us.length cap,.slice ra reds.length rcap] w1 fun e w'=>∃ cb,e = .returned (.pointer (some ⟨cb,0,none⟩)) ∧ CodeP (fun b=>w.heap.size ≤ b ∧ b < w'.heap.size) w' cb fs reds ∧ Below w.heap.size w w'):=fun w1 hb1 =>
      (copy_calls fs reds S _ _ w1 k1 k2 k4 k5 k3 (HF.out.below hb1) (HR.out.below hb1 (fun x _=>by simp [int64s]))).mono (fun e w' ⟨cb,he,hcp,hb⟩=>⟨cb,he,hcp.turn (fun b hb' _=>⟨⟨Nat.le_trans hb1.size hb'.1,hb'.2⟩,rfl⟩),hb1.trans (hb.mono hb1.size)⟩)
    clear k1 k2 k3 k4 k5
    go_enter Tryz.func15,Tryz.ntmps15
    go_wp2_with (first
      | (go_at_call 34;refine HCK.out.mono ?_;rintro e w1 ⟨rfl,hb1⟩)
      | (go_at_call 35;refine (HCP.out _ hb1).mono ?_;rintro e w2 ⟨cb,rfl,hcp,hb2⟩))
    go_ret3
    rw [HC2.out]
    refine ⟨_,rfl,hb2.alloc hb2.size _,fun _=>⟨⟨_,rfl⟩,_,cb,rfl,⟨hb2.size,by simp⟩,?_,?_⟩,fun h=>absurd rfl h⟩
    · exact cell_of_row _ _ 0 _ _ (0,0) (heap_new w2 _)
    · exact hcp.turn (fun b hb hlt=>⟨⟨hb.1,by simp;omega⟩,Below.heap_alloc _ _ _ hlt⟩)
  · have hne : (c1 == 0) = false:=by simpa using h0
    have H0:=hide h0
    clear h0
    go_enter Tryz.func15,Tryz.ntmps15
    go_wp2_with (go_at_call 34;refine HCK.out.mono ?_;rintro e w1 ⟨rfl,hb1⟩)
    go_ret3
    exact ⟨_,rfl,hb1,fun h=>absurd h H0.out,fun _=>rfl⟩
end Go.Proofs.YtkmakliebhnhbaaGreat
