import Derived.Deep.RegionHeld3
import Derived.Deep.DrawnRows
import Derived.Deep.QuietTactic
import Derived.BigQuiet
import Derived.Test.YtkmakliebhnhbaaGreatRows
import Derived.Test.YtkmakliebhnhbaaGreatVals
import Derived.Test.YtkmakliebhnhbaaGreatLawW
import Derived.Test.YtkmakliebhnhbaaGreatKeep
import Derived.Test.YtkmakliebhnhbaaGreatSerRef
namespace Go.Proofs.YtkmakliebhnhbaaGreat
open Go.RowKit
theorem Tryz.infoVal : (Tryz.prog.info? 91).map (fun i=>(i.zero,i.size,i.bytes)) = some (some (.agg #[.int .i64 0,.bool false,.slice none 0 0]),3,40):=by kernel_rfl
theorem Tryz.infoInt64 : (Tryz.prog.info? 2).map (fun i=>(i.zero,i.size,i.bytes)) = some (some (.int .i64 0),1,8):=by kernel_rfl
set_option maxRecDepth 100000 in
set_option maxHeartbeats 1000000 in
theorem values_ref (reds : List Int) (evs : List Ev) (S : Nat → Prop) (vr ve : Value) (w : World) (hnr : reds.length ≤ 4) (hne : evs.length ≤ 100000000)
  (hR : RdL S w 1 int64s vr reds) (hE : RdL S w 3 Ev.vals ve evs) (hr : ∀ e ∈ evs,∃ r : Nat,e.r = r ∧ r < reds.length) :
  Calls Tryz.prog 24 #[vr,ve] w fun e w'=>∃ LV,e = .returned (.slice (some ⟨w.heap.size,0,none⟩) reds.length reds.length) ∧
   Gath w' w.heap.size w.heap.size reds.length 2 (valsZ reds evs) LV ∧ Below w.heap.size w w':=by
 have HR:=hide hR
 have HE:=hide hE
 obtain ⟨ra,rcap,rfl,hrc,hrm⟩:=hR.form
 obtain ⟨ea,ecap,rfl,hec,hem⟩:=hE.form
 obtain ⟨iv,hiv,hv0,hv1,hv2⟩:=info_parts Tryz.infoVal
 obtain ⟨il,hil,hl0,hl1,hl2⟩:=info_parts Tryz.infoInt64
 obtain ⟨nr,hNR⟩ : ∃ nr,reds.length = nr:=⟨_,rfl⟩
 obtain ⟨ne,hNE⟩ : ∃ ne,evs.length = ne:=⟨_,rfl⟩
 have HRR:=hide hr
 have HNR:=hide hNR
 have HNE:=hide hNE
 rw [hNR] at hrc hnr ⊢
 rw [hNE] at hec hne
 rw [hNR] at HR
 rw [hNE] at HE
 rw [hNE]
 unfold maxLen at hrm hem
 clear hR hE hNR hNE hr
 go_enter Tryz.func24,Tryz.ntmps24
 go_wp2_with (at_make;refine wpList_make_full _ rfl _ _ 64 rfl w.heap.size 91 iv _ 3 Tryz.underlying64 hiv hv0 hv1 _ _ _ _ nr rfl rfl rfl rfl (by rw [hv2];omega) (by unfold maxLen;omega) (Nat.le_refl _) ?_)
 intro w1 hown hgrow
 obtain ⟨g,hg⟩ : ∃ g,g = w.heap.size:=⟨_,rfl⟩
 have hB1:=hide ((Below.refl _ w).grown hgrow (Nat.le_refl _) (by simp))
 have hG1 : Hid (Gath w1 w.heap.size g nr 2 (valsZ reds []) (fun _=>.slice none 0 0)):=by
  subst hg
  obtain ⟨hl3,hh⟩:=hown
  have hlt : w.heap.size < w1.heap.size:=by
   rcases hh with ⟨hv,_⟩ | ⟨g,c,cur,hv,_,hgg,_⟩
   ·cases hv
   ·cases hv;exact (Array.getElem?_eq_some_iff.1 hgg).1
  have hcell : ∀ j,j < nr * 3 → w1.cell? ⟨w.heap.size,j,none⟩ = (madeCells (Value.agg #[.int .i64 0,.bool false,.slice none 0 0]).cells (nr * 3)).toList[j]?:=fun j hj=>World.ownsRow.cellAt ⟨hl3,hh⟩ j hj
  have hval : ∀ r j (u : Value),r < nr → j < 3 → [Value.int .i64 0,.bool false,.slice none 0 0][j]? = some u → w1.cell? ⟨w.heap.size,r * 3 + j,none⟩ = some u:=by
   intro r j u hr hj hu
   rw [hcell _ (by omega)]
   simp only [madeCells,Value.cells]
   have hmod : (r * 3 + j) % 3 = j:=by omega
   have : r * 3 + j < nr * 3:=by omega
   simp [this,hmod]
   match j,hj,hu with
   | 0,_,hu=>simpa using hu
   | 1,_,hu=>simpa using hu
   | 2,_,hu=>simpa using hu
  refine ⟨hlt,fun r hr=>hval r 0 _ hr (by omega) rfl,fun r hr=>hval r 1 _ hr (by omega) rfl,fun r hr=>hval r 2 _ hr (by omega) rfl,fun j=>World.ownsRow.frozenAt ⟨hl3,hh⟩ j,fun r hr=>World.ownsRow_nil _ _ _ _,fun r hr=>by simp [Value.ownBlock],fun r s b _ _ _ hb=>by simp [Value.ownBlock] at hb⟩
 rw [← hg]
 have HG:=hide hg
 clear hown hgrow hg hiv hv0 hv1 hv2
 go_wp2
 go_loopw [6] (fun i wr=>(∃ k : Nat,k ≤ ne ∧ i = .int .i64 k ∧ ∃ LV,Gath wr w.heap.size g nr 2 (valsZ reds (evs.take k)) LV) ∧ Below w.heap.size w wr)
  (fun i _=>ne - (intOf i).toNat)
 case atStart=>exact ⟨⟨0,Nat.zero_le _,rfl,_,by simpa using hG1.out⟩,hB1.out⟩
 case round =>
  obtain ⟨⟨k,hk,rfl,LV,hGk⟩,hBk⟩:=hrel
  have HGk:=hide hGk
  have HBk:=hide hBk
  have hsz:=hBk.size
  by_cases hlt : k < ne
  ·have hlti : (k : Int) < ne:=by omega
   obtain ⟨e,he⟩ : ∃ e,evs[k]? = some e:=⟨evs[k]'(by have:=HNE.out;omega),by simp⟩
   obtain ⟨b,off,rfl,_,hce⟩:=HE.out.at he
   have e1:=hce 1 _ rfl
   have e2:=hce 2 _ rfl
   have hbe:=block_lt_of_cell e1
   simp only at hbe
   have q1:=(hBk.cell (p:=⟨b,off + k * 3 + 1,none⟩) hbe).trans e1
   have q2:=(hBk.cell (p:=⟨b,off + k * 3 + 2,none⟩) hbe).trans e2
   obtain ⟨r,hrE,hrn⟩:=HRR.out e (List.mem_of_getElem? he)
   rw [hrE] at q1
   have hrn' : r < nr:=by have:=HNR.out;omega
   have hri : (r : Int) < nr:=by omega
   obtain ⟨kd,hkd⟩ : ∃ kd,reds[r]? = some kd:=⟨reds[r]'hrn,by simp⟩
   obtain ⟨b2,o2,rfl,_,hce2⟩:=HR.out.at hkd
   have e3:=hce2 0 _ rfl
   have hbr:=block_lt_of_cell e3
   simp only [Nat.mul_one,Nat.add_zero] at hbr e3
   have q3:=(hBk.cell (p:=⟨b2,o2 + r,none⟩) hbr).trans e3
   have hbe' : b < wr.heap.size:=Nat.lt_of_lt_of_le hbe hsz
   have hbr' : b2 < wr.heap.size:=Nat.lt_of_lt_of_le hbr hsz
   have HVT:=hide (valsZ_take (reds:=reds) he)
   have hlen:=valsZ_len reds (evs.take k) r
   rw [List.length_take] at hlen
   obtain ⟨V,hV⟩ : ∃ V,valsZ reds (evs.take k) = V:=⟨_,rfl⟩
   rw [hV] at HVT HGk hGk hlen
   have g0:=hGk.n r hrn'
   have g1:=hGk.is r hrn'
   have g2:=hGk.l r hrn'
   have f0:=hGk.fz (r * 3)
   have f1:=hGk.fz (r * 3 + 1)
   have f2:=hGk.fz (r * 3 + 2)
   have hglt:=hGk.lt
   have HOWN:=hide (hGk.own r hrn')
   obtain ⟨ln,lcap,hLV⟩:=own_form HOWN.out
   rw [hLV] at g2
   have HLV:=hide hLV
   have HHE:=hide he
   have HKD:=hide hkd
   have HrE:=hide hrE
   obtain ⟨ll,hll⟩ : ∃ ll,(V r).l = ll:=⟨_,rfl⟩
   rw [hll] at g2 hlen
   have HLL:=hide hll
   obtain ⟨vn,hvn⟩ : ∃ vn,(V r).n = vn:=⟨_,rfl⟩
   obtain ⟨vi,hvi⟩ : ∃ vi,(V r).is = vi:=⟨_,rfl⟩
   rw [hvn] at g0
   rw [hvi] at g1
   have HVN:=hide hvn
   have HVI:=hide hvi
   have hlen' : ll.length ≤ 100000000:=by omega
   obtain ⟨x,hx⟩ : ∃ x,e.n = x:=⟨_,rfl⟩
   rw [hx] at q2
   have HXX:=hide hx
   clear hce e1 e2 he hGk hBk hce2 e3 hkd hV hLV hrE hrn hbe hbr hll hvn hvi hlen hx
   have HPZ : Hid (∀ s,s ≠ r → putZ reds V e s = V s):=by
    intro s hs
    unfold putZ
    rw [if_neg (by rw [HrE.out];simpa using hs)]
   have HPR : Hid (putZ reds V e r = giveZ kd x (V r)):=by
    unfold Hid putZ
    rw [if_pos (by rw [HrE.out];simp),HKD.out,HXX.out];rfl
   have hgb:=HG.out
   have HBg : Hid (w.heap.size ≤ g):=by unfold Hid;omega
   clear hgb
   by_cases k1 : kd = 1
   ·subst k1
    have HZ : Hid (giveZ 1 x (V r) = ⟨wrap64 (vn + x),true,(V r).l⟩):=by
     unfold Hid;simp [giveZ,HVN.out, *]
    go_wp2
    go_roundw
    case rel =>
     refine ⟨⟨k + 1,by omega,by go_num,_,by rw [HVT.out];exact HGk.out.putSame hrn' _ HPZ.out (by rw [HLV.out,HLL.out]) (by rw [HPR.out,HZ.out]) (by rw [HPR.out,HZ.out]) (by rw [HPR.out,HZ.out])⟩,?_⟩
     exact (((HBk.out.setCell (p:=⟨g,_,none⟩) HBg.out _).setCell (p:=⟨g,_,none⟩) HBg.out _).setCell (p:=⟨g,_,none⟩) HBg.out _).alloc (by simpa [World.setCell] using hsz) _
    case measure=>simp [intOf];omega
   by_cases k2 : kd = 2
   ·subst k2
    cases vi with
    | false =>
     have HZ : Hid (giveZ 2 x (V r) = ⟨x,true,(V r).l⟩):=by
      unfold Hid;simp [giveZ,HVN.out,HVI.out, *]
     go_wp2
     go_roundw
     case rel =>
      refine ⟨⟨k + 1,by omega,by go_num,_,by rw [HVT.out];exact HGk.out.putSame hrn' _ HPZ.out (by rw [HLV.out,HLL.out]) (by rw [HPR.out,HZ.out]) (by rw [HPR.out,HZ.out]) (by rw [HPR.out,HZ.out])⟩,?_⟩
      exact (((HBk.out.setCell (p:=⟨g,_,none⟩) HBg.out _).setCell (p:=⟨g,_,none⟩) HBg.out _).setCell (p:=⟨g,_,none⟩) HBg.out _).alloc (by simpa [World.setCell] using hsz) _
     case measure=>simp [intOf];omega
    | true =>
     by_cases hx : vn < x
     ·have HZ : Hid (giveZ 2 x (V r) = ⟨x,true,(V r).l⟩):=by
       unfold Hid;simp [giveZ,HVN.out,HVI.out, *]
      go_wp2
      go_roundw
      case rel =>
       refine ⟨⟨k + 1,by omega,by go_num,_,by rw [HVT.out];exact HGk.out.putSame hrn' _ HPZ.out (by rw [HLV.out,HLL.out]) (by rw [HPR.out,HZ.out]) (by rw [HPR.out,HZ.out]) (by rw [HPR.out,HZ.out])⟩,?_⟩
       exact (((HBk.out.setCell (p:=⟨g,_,none⟩) HBg.out _).setCell (p:=⟨g,_,none⟩) HBg.out _).setCell (p:=⟨g,_,none⟩) HBg.out _).alloc (by simpa [World.setCell] using hsz) _
      case measure=>simp [intOf];omega
     ·have HZ : Hid (giveZ 2 x (V r) = ⟨vn,true,(V r).l⟩):=by
       unfold Hid;simp [giveZ,HVN.out,HVI.out, *]
      go_wp2
      go_roundw
      case rel =>
       refine ⟨⟨k + 1,by omega,by go_num,_,by rw [HVT.out];exact HGk.out.putSame hrn' _ HPZ.out (by rw [HLV.out,HLL.out]) (by rw [HPR.out,HZ.out]) (by rw [HPR.out,HZ.out]) (by rw [HPR.out,HZ.out])⟩,?_⟩
       exact (((HBk.out.setCell (p:=⟨g,_,none⟩) HBg.out _).setCell (p:=⟨g,_,none⟩) HBg.out _).setCell (p:=⟨g,_,none⟩) HBg.out _).alloc (by simpa [World.setCell] using hsz) _
      case measure=>simp [intOf];omega
   by_cases k3 : kd = 3
   ·subst k3
    cases vi with
    | false =>
     have HZ : Hid (giveZ 3 x (V r) = ⟨x,true,(V r).l⟩):=by
      unfold Hid;simp [giveZ,HVN.out,HVI.out, *]
     go_wp2
     go_roundw
     case rel =>
      refine ⟨⟨k + 1,by omega,by go_num,_,by rw [HVT.out];exact HGk.out.putSame hrn' _ HPZ.out (by rw [HLV.out,HLL.out]) (by rw [HPR.out,HZ.out]) (by rw [HPR.out,HZ.out]) (by rw [HPR.out,HZ.out])⟩,?_⟩
      exact (((HBk.out.setCell (p:=⟨g,_,none⟩) HBg.out _).setCell (p:=⟨g,_,none⟩) HBg.out _).setCell (p:=⟨g,_,none⟩) HBg.out _).alloc (by simpa [World.setCell] using hsz) _
     case measure=>simp [intOf];omega
    | true =>
     by_cases hx : x < vn
     ·have HZ : Hid (giveZ 3 x (V r) = ⟨x,true,(V r).l⟩):=by
       unfold Hid;simp [giveZ,HVN.out,HVI.out, *]
      go_wp2
      go_roundw
      case rel =>
       refine ⟨⟨k + 1,by omega,by go_num,_,by rw [HVT.out];exact HGk.out.putSame hrn' _ HPZ.out (by rw [HLV.out,HLL.out]) (by rw [HPR.out,HZ.out]) (by rw [HPR.out,HZ.out]) (by rw [HPR.out,HZ.out])⟩,?_⟩
       exact (((HBk.out.setCell (p:=⟨g,_,none⟩) HBg.out _).setCell (p:=⟨g,_,none⟩) HBg.out _).setCell (p:=⟨g,_,none⟩) HBg.out _).alloc (by simpa [World.setCell] using hsz) _
      case measure=>simp [intOf];omega
     ·have HZ : Hid (giveZ 3 x (V r) = ⟨vn,true,(V r).l⟩):=by
       unfold Hid;simp [giveZ,HVN.out,HVI.out, *]
      go_wp2
      go_roundw
      case rel =>
       refine ⟨⟨k + 1,by omega,by go_num,_,by rw [HVT.out];exact HGk.out.putSame hrn' _ HPZ.out (by rw [HLV.out,HLL.out]) (by rw [HPR.out,HZ.out]) (by rw [HPR.out,HZ.out]) (by rw [HPR.out,HZ.out])⟩,?_⟩
       exact (((HBk.out.setCell (p:=⟨g,_,none⟩) HBg.out _).setCell (p:=⟨g,_,none⟩) HBg.out _).setCell (p:=⟨g,_,none⟩) HBg.out _).alloc (by simpa [World.setCell] using hsz) _
      case measure=>simp [intOf];omega
   by_cases k4 : kd = 4
   ·subst k4
    have HZ : Hid (giveZ 4 x (V r) = ⟨vn,true,ll ++ [x]⟩):=by
     unfold Hid;simp [giveZ,HVN.out,HLL.out]
    have HOW2 : Hid (wr.ownsRow w.heap.size 2 1 (.slice ln ll.length lcap) ll.length (ints ll)):=by
     unfold Hid;rw [← HLL.out,← HLV.out];exact HOWN.out
    go_wp2_with (at_builtin;refine wpList_app _ rfl _ _ 87 rfl w.heap.size 2 il _ 1 8 Tryz.underlying87 hil hl0 hl1 hl2 rfl (by decide) _ _ _ rfl ((HOW2.out.alloc _).alloc _) (.slice (some ⟨wr.heap.size + 1,0,none⟩) 1 1) 1 [_] rfl (cells1 _ _ _ _ (by simp)) ?h1 ?h63 ?hbytes ?hbase ?_)
    case h1=>simp [Value.oneCell']
    case h63=>unfold maxLen;omega
    case hbytes=>omega
    case hbase=>simp;omega
    intro a' cap' w2 ho hg _ hlie
    have hrow : ∀ k,(Value.slice ln ll.length lcap).ownBlock = some k → k < wr.heap.size:=fun k hk=>(HOW2.out.lt k hk).2
    have hvb : some wr.heap.size ≠ (Value.slice ln ll.length lcap).ownBlock:=by intro e;have:=hrow _ e.symm;omega
    have hgo : some g ≠ (Value.slice ln ll.length lcap).ownBlock:=by rw [← HLL.out,← HLV.out];exact fun e=>HGk.out.off r hrn' e.symm
    have v0 : w2.cell? ⟨wr.heap.size,0,none⟩ = some (.int .i64 vn):=by rw [hg.cell_far ⟨wr.heap.size,0,none⟩ (by simp;omega) hvb];simp [go_sem]
    have v1 : w2.cell? ⟨wr.heap.size,1,none⟩ = some (.bool vi):=by rw [hg.cell_far ⟨wr.heap.size,1,none⟩ (by simp;omega) hvb];simp [go_sem]
    have v2 : w2.cell? ⟨wr.heap.size,2,none⟩ = some (.slice ln ll.length lcap):=by rw [hg.cell_far ⟨wr.heap.size,2,none⟩ (by simp;omega) hvb];simp [go_sem]
    have vf : ∀ j,w2.frozen? ⟨wr.heap.size,j,none⟩ = false:=by intro j;rw [hg.frozen_far ⟨wr.heap.size,j,none⟩ (by simp;omega) hvb];simp [go_sem]
    have vf1:=vf 1
    have vf2:=vf 2
    have hgc : ∀ j,w2.cell? ⟨g,j,none⟩ = wr.cell? ⟨g,j,none⟩:=by intro j;rw [hg.cell_far ⟨g,j,none⟩ (by simp;omega) hgo];simp [go_sem,hglt]
    have hgf : ∀ j,w2.frozen? ⟨g,j,none⟩ = false:=by intro j;rw [hg.frozen_far ⟨g,j,none⟩ (by simp;omega) hgo];simp [go_sem,hglt];exact HGk.out.fz j
    have u0:=(hgc (r * 3)).trans g0
    have u1:=(hgc (r * 3 + 1)).trans g1
    have u2:=(hgc (r * 3 + 2)).trans g2
    have uf0:=hgf (r * 3)
    have uf1:=hgf (r * 3 + 1)
    have uf2:=hgf (r * 3 + 2)
    have hs2 : wr.heap.size + 2 ≤ w2.heap.size:=by have:=hg.size;simp at this;omega
    have HO2:=hide ho
    have HG2:=hide hg
    have HLIE:=hide hlie
    have HGO:=hide hgo
    have hgv : ¬ g = wr.heap.size:=by omega
    have hgv' : ¬ wr.heap.size = g:=by omega
    clear ho hg hlie vf hgc hgf g0 g1 g2 f0 f1 f2 q1 q2 q3 hvb hgo hrow
    go_wp2
    go_roundw
    case rel =>
     refine ⟨⟨k + 1,by omega,by go_num,_,by rw [HVT.out];exact HGk.out.putApp hrn' rfl rfl HPZ.out (by rw [HPR.out,HZ.out]) (by rw [HPR.out,HZ.out]) (by rw [HLV.out,HLL.out];exact HG2.out) (by rw [HPR.out,HZ.out];simpa [ints] using HO2.out) (by rw [HLV.out,HLL.out];exact HLIE.out)⟩,?_⟩
     have hB2 : Below w.heap.size w w2:=((HBk.out.alloc hsz _).alloc (by simp;omega) _).grown HG2.out (by simp;omega) (fun q hq=>(HOW2.out.lt q hq).1)
     exact ((((hB2.setCell (p:=⟨wr.heap.size,_,none⟩) hsz _).setCell (p:=⟨wr.heap.size,_,none⟩) hsz _).setCell (p:=⟨g,_,none⟩) HBg.out _).setCell (p:=⟨g,_,none⟩) HBg.out _).setCell (p:=⟨g,_,none⟩) HBg.out _
    case measure=>simp [intOf];omega
   ·have HZ : Hid (giveZ kd x (V r) = ⟨x,true,(V r).l⟩):=by
     unfold Hid;simp [giveZ,k1,k2,k3,k4]
    have p1 : (kd == 1) = false:=by simpa using k1
    have p2 : (kd == 2) = false:=by simpa using k2
    have p3 : (kd == 3) = false:=by simpa using k3
    have p4 : (kd == 4) = false:=by simpa using k4
    clear k1 k2 k3 k4
    go_wp2
    go_roundw
    case rel =>
     refine ⟨⟨k + 1,by omega,by go_num,_,by rw [HVT.out];exact HGk.out.putSame hrn' _ HPZ.out (by rw [HLV.out,HLL.out]) (by rw [HPR.out,HZ.out]) (by rw [HPR.out,HZ.out]) (by rw [HPR.out,HZ.out])⟩,?_⟩
     exact (((HBk.out.setCell (p:=⟨g,_,none⟩) HBg.out _).setCell (p:=⟨g,_,none⟩) HBg.out _).setCell (p:=⟨g,_,none⟩) HBg.out _).alloc (by simpa [World.setCell] using hsz) _
    case measure=>simp [intOf];omega
  ·obtain rfl : ne = k:=by omega
   have e1 : evs.take ne = evs:=by rw [← HNE.out,List.take_length]
   rw [e1] at HGk
   clear e1 hGk hBk
   go_wp2
   go_ret
   refine ⟨LV,by rw [HG.out];rfl,by rw [← HG.out];rw [HG.out] at HGk ⊢;exact HGk.out,HBk.out⟩
end Go.Proofs.YtkmakliebhnhbaaGreat
namespace Go.Proofs.YtkmakliebhnhbaaGreat
open Go.RowKit
set_option maxRecDepth 100000 in
set_option maxHeartbeats 1000000 in
theorem sameEvents_any (evs : List Ev) (S S' : Nat → Prop) (va vb : Value) (w : World) (hA : RdL S w 3 Ev.vals va evs) (hB : RdL S' w 3 Ev.vals vb evs) :
  Calls Tryz.prog 22 #[va,vb] w fun e w'=>e = .returned (.bool true) ∧ Below w.heap.size w w':=by
 have HA:=hide hA
 have HB:=hide hB
 obtain ⟨a,ca,rfl,hca,hma⟩:=hA.form
 obtain ⟨b,cb,rfl,hcb,hmb⟩:=hB.form
 obtain ⟨n,hN⟩ : ∃ n,evs.length = n:=⟨_,rfl⟩
 have HN:=hide hN
 rw [hN] at HA HB hca hcb ⊢
 unfold maxLen at hma hmb
 clear hA hB hN
 go_enter Tryz.func22,Tryz.ntmps22
 go_wp2
 go_loopw [5] (fun i wr=>(∃ k : Nat,k ≤ n ∧ i = .int .i64 k) ∧ Below w.heap.size w wr) (fun i _=>n - (intOf i).toNat)
 case atStart=>exact ⟨⟨0,Nat.zero_le _,rfl⟩,Below.refl _ _⟩
 case round =>
  obtain ⟨⟨k,hk,rfl⟩,hBk⟩:=hrel
  have HBk:=hide hBk
  by_cases hlt : k < n
  ·obtain ⟨e,he⟩ : ∃ e,evs[k]? = some e:=⟨evs[k]'(by have:=HN.out;omega),by simp⟩
   obtain ⟨b1,o1,rfl,_,h1⟩:=HA.out.at he
   obtain ⟨b2,o2,rfl,_,h2⟩:=HB.out.at he
   have c0:=h1 0 _ rfl
   have c1:=h1 1 _ rfl
   have c2:=h1 2 _ rfl
   have d0:=h2 0 _ rfl
   have d1:=h2 1 _ rfl
   have d2:=h2 2 _ rfl
   have l1:=block_lt_of_cell c0
   have l2:=block_lt_of_cell d0
   simp only [Nat.add_zero] at l1 l2 c0 d0
   have p0:=(hBk.cell (p:=⟨b1,o1 + k * 3,none⟩) l1).trans c0
   have p1:=(hBk.cell (p:=⟨b1,o1 + k * 3 + 1,none⟩) l1).trans c1
   have p2:=(hBk.cell (p:=⟨b1,o1 + k * 3 + 2,none⟩) l1).trans c2
   have q0:=(hBk.cell (p:=⟨b2,o2 + k * 3,none⟩) l2).trans d0
   have q1:=(hBk.cell (p:=⟨b2,o2 + k * 3 + 1,none⟩) l2).trans d1
   have q2:=(hBk.cell (p:=⟨b2,o2 + k * 3 + 2,none⟩) l2).trans d2
   have hki : (k : Int) < n:=by omega
   clear c0 c1 c2 d0 d1 d2 h1 h2 he hBk
   obtain ⟨x0,x1,x2⟩:=e
   simp only at p0 p1 p2 q0 q1 q2
   go_wp2
   go_quiet (fail)
   go_wp2
   go_roundw
   case rel=>exact ⟨⟨k + 1,by omega,by go_num⟩,below_drewN HBk.out _⟩
   case measure=>simp [intOf];omega
  ·clear hBk
   go_wp2
   go_ret
   exact ⟨rfl,HBk.out⟩
def RdV (W : World) (v : Value) (V : Nat → Val) (n : Nat) : Prop :=
 ∃ a cap,v = .slice a n cap ∧ n ≤ cap ∧ cap ≤ maxLen ∧ ∀ r,r < n → ∃ b off lv,a = some ⟨b,off,none⟩ ∧ W.cell? ⟨b,off + r * 3,none⟩ = some (.int .i64 (V r).n) ∧ W.cell? ⟨b,off + r * 3 + 1,none⟩ = some (.bool (V r).is) ∧
  W.cell? ⟨b,off + r * 3 + 2,none⟩ = some lv ∧ RdL (fun _=>True) W 1 int64s lv (V r).l
theorem ints_flat (l : List Int) : ints l = flat int64s l:=by
 induction l with
 | nil=>rfl
 | cons x t ih=>simp only [ints,flat,List.map_cons,List.flatMap_cons] at *;rw [ih];rfl
theorem Gath.rd {W : World} {base g nr : Nat} {tL : TypeId} {V : Nat → Val} {LV : Nat → Value} (h : Gath W base g nr tL V LV) (hn : nr ≤ maxLen) : RdV W (.slice (some ⟨g,0,none⟩) nr nr) V nr :=
 ⟨_,_,rfl,Nat.le_refl _,hn,fun r hr=>⟨g,0,LV r,rfl,by simpa using h.n r hr,by simpa using h.is r hr,by simpa using h.l r hr,own_rd (by rw [← ints_flat];exact h.own r hr) int64s_len (fun _ _=>trivial)⟩⟩
theorem RdV.below {W W' : World} {v : Value} {V : Nat → Val} {n : Nat} (h : RdV W v V n) (hb : Below W.heap.size W W') : RdV W' v V n:=by
 obtain ⟨a,cap,hv,h1,h2,h⟩:=h
 refine ⟨a,cap,hv,h1,h2,fun r hr=>?_⟩
 obtain ⟨b,off,lv,ha,c0,c1,c2,hl⟩:=h r hr
 have hlt : b < W.heap.size:=block_lt_of_cell c0
 have hc : ∀ j,W'.cell? ⟨b,j,none⟩ = W.cell? ⟨b,j,none⟩:=fun j=>hb.cell (p:=⟨b,j,none⟩) hlt
 exact ⟨b,off,lv,ha,(hc _).trans c0,(hc _).trans c1,(hc _).trans c2,hl.below hb (fun x _=>by simp [int64s])⟩
set_option maxRecDepth 100000 in
set_option maxHeartbeats 3000000 in
theorem sameValues_any (n : Nat) (V : Nat → Val) (va vb : Value) (w : World) (hA : RdV w va V n) (hB : RdV w vb V n) :
  Calls Tryz.prog 23 #[va,vb] w fun e w'=>e = .returned (.bool true) ∧ Below w.heap.size w w':=by
 obtain ⟨a,ca,rfl,hca,hma,hA⟩:=hA
 obtain ⟨b,cb,rfl,hcb,hmb,hB⟩:=hB
 unfold maxLen at hma hmb
 have HA:=hide hA
 have HB:=hide hB
 clear hA hB
 go_enter Tryz.func23,Tryz.ntmps23
 go_wp2
 go_loopw [5] (fun i wr=>(∃ k : Nat,k ≤ n ∧ i = .int .i64 k) ∧ Below w.heap.size w wr) (fun i _=>n - (intOf i).toNat)
 case atStart=>exact ⟨⟨0,Nat.zero_le _,rfl⟩,Below.refl _ _⟩
 case round =>
  obtain ⟨wo,rfl⟩ : ∃ wo : World,wo = wr:=⟨_,rfl⟩
  obtain ⟨⟨k,hk,rfl⟩,hBk⟩:=hrel
  have HBk:=hide hBk
  by_cases hlt : k < n
  ·obtain ⟨b1,o1,l1,rfl,c0,c1,c2,hl1⟩:=HA.out k hlt
   obtain ⟨b2,o2,l2,rfl,d0,d1,d2,hl2⟩:=HB.out k hlt
   have k1:=block_lt_of_cell c0
   have k2:=block_lt_of_cell d0
   simp only at k1 k2
   have HL1:=hide hl1
   have HL2:=hide hl2
   obtain ⟨la,lca,rfl,hlca,hlma⟩:=hl1.form
   obtain ⟨lb,lcb,rfl,hlcb,hlmb⟩:=hl2.form
   unfold maxLen at hlma hlmb
   obtain ⟨L,hL⟩ : ∃ L,(V k).l.length = L:=⟨_,rfl⟩
   rw [hL] at hlca hlcb c2 d2 HL1 HL2
   have HL:=hide hL
   have p0:=(hBk.cell (p:=⟨b1,o1 + k * 3,none⟩) k1).trans c0
   have p1:=(hBk.cell (p:=⟨b1,o1 + k * 3 + 1,none⟩) k1).trans c1
   have p2:=(hBk.cell (p:=⟨b1,o1 + k * 3 + 2,none⟩) k1).trans c2
   have q0:=(hBk.cell (p:=⟨b2,o2 + k * 3,none⟩) k2).trans d0
   have q1:=(hBk.cell (p:=⟨b2,o2 + k * 3 + 1,none⟩) k2).trans d1
   have q2:=(hBk.cell (p:=⟨b2,o2 + k * 3 + 2,none⟩) k2).trans d2
   obtain ⟨vn,hvn⟩ : ∃ vn,(V k).n = vn:=⟨_,rfl⟩
   obtain ⟨vi,hvi⟩ : ∃ vi,(V k).is = vi:=⟨_,rfl⟩
   rw [hvn] at p0 q0
   rw [hvi] at p1 q1
   have hki : (k : Int) < n:=by omega
   have C2:=hide c2
   have D2:=hide d2
   have t0 : (vn != vn) = false:=by simp
   have t1 : (vi != vi) = false:=by simp
   have t2 : ((L : Int) != L) = false:=by simp
   clear c0 c1 c2 d0 d1 d2 hl1 hl2 hBk hvn hvi hL
   go_wp2
   go_quiet (fail)
   go_wp2
   go_loopw [6] (fun i wr=>(∃ j : Nat,j ≤ L ∧ i = .int .i64 j) ∧ Below w.heap.size w wr) (fun i _=>L - (intOf i).toNat)
   case atStart=>exact ⟨⟨0,Nat.zero_le _,rfl⟩,below_drewN HBk.out _⟩
   case round =>
    clear p0 p1 p2 q0 q1 q2
    obtain ⟨⟨j,hj,rfl⟩,hBj⟩:=hrel
    have HBj:=hide hBj
    have p2:=(hBj.cell (p:=⟨b1,o1 + k * 3 + 2,none⟩) k1).trans C2.out
    have q2:=(hBj.cell (p:=⟨b2,o2 + k * 3 + 2,none⟩) k2).trans D2.out
    by_cases hjL : j < L
    ·obtain ⟨x,hx⟩ : ∃ x,(V k).l[j]? = some x:=⟨(V k).l[j]'(by have:=HL.out;omega),by simp⟩
     obtain ⟨e1,f1,rfl,_,h1⟩:=HL1.out.at hx
     obtain ⟨e2,f2,rfl,_,h2⟩:=HL2.out.at hx
     have c0:=h1 0 _ rfl
     have d0:=h2 0 _ rfl
     have m1:=block_lt_of_cell c0
     have m2:=block_lt_of_cell d0
     simp only [Nat.mul_one,Nat.add_zero] at m1 m2 c0 d0
     have r0:=(hBj.cell (p:=⟨e1,f1 + j,none⟩) m1).trans c0
     have r1:=(hBj.cell (p:=⟨e2,f2 + j,none⟩) m2).trans d0
     have hji : (j : Int) < L:=by omega
     have tx : (x != x) = false:=by simp
     clear c0 d0 h1 h2 hx hBj
     go_wp2
     go_quiet (fail)
     go_wp2
     go_roundw
     case rel=>exact ⟨⟨j + 1,by omega,by go_num⟩,below_drewN HBj.out _⟩
     case measure=>simp [intOf];omega
    ·clear hBj
     go_wp2
     go_roundw
     case rel=>exact ⟨⟨k + 1,by omega,by go_num⟩,HBj.out⟩
     case measure=>simp [intOf];omega
  ·clear hBk
   go_wp2
   go_ret
   exact ⟨rfl,HBk.out⟩
end Go.Proofs.YtkmakliebhnhbaaGreat
namespace Go.Proofs.YtkmakliebhnhbaaGreat
open Go.RowKit
structure Dev where
 P : (Nat → Prop) → World → Value → List (List Ins) → List Int → Prop
 turn : ∀ {S S' : Nat → Prop} {W W' : World} {p : Value} {fs : List (List Ins)} {reds : List Int},P S W p fs reds → (∀ b,S b → b < W.heap.size → S' b ∧ W'.heap[b]? = W.heap[b]?) → P S' W' p fs reds
def FsWf (fs : List (List Ins)) : Prop:=∀ l ∈ fs,∀ i ∈ l,i.wf
def Small (fs : List (List Ins)) (reds : List Int) : Prop:=fs.length ≤ 2000000 ∧ reds.length ≤ 2000000 ∧ ∀ l ∈ fs,l.length ≤ 2000000
def NewSaid (D : Dev) : Prop:=∀ (fs : List (List Ins)) (reds : List Int) (S : Nat → Prop) (vf vr : Value) (w : World),FsWf fs → Small fs reds → (∀ r ∈ reds,i64 r) → RdF S w vf fs → RdL S w 1 int64s vr reds →
 Calls Tryz.prog 15 #[vf,vr] w fun e w'=>∃ p,e = .returned (.tuple #[p,.int .i64 (check fs reds).1,.int .i64 (check fs reds).2]) ∧ Below w.heap.size w w' ∧
  ((check fs reds).1 = 0 → (∃ b,p = .pointer (some ⟨b,0,none⟩)) ∧ D.P (fun b=>w.heap.size ≤ b ∧ b < w'.heap.size) w' p fs reds) ∧ ((check fs reds).1 ≠ 0 → p = .pointer none)
def SerialSaid (D : Dev) : Prop:=∀ (fs : List (List Ins)) (reds : List Int) (S : Nat → Prop) (p : Value) (seed x : Int) (w : World),FsWf fs → (check fs reds).1 = 0 → u64 seed → i64 x → D.P S w p fs reds →
 Calls Tryz.prog 20 #[p,.int .u64 seed,.int .i64 x] w fun e w'=>∃ lv tv LV xs,e = .returned (.agg #[lv,tv,.int .i64 0,.int .i64 0,.int .i64 0,.int .i64 (framesC fs)]) ∧
  OwnV w' w.heap.size lv reds.length (valsZ reds (traceZ fs seed x)) LV xs ∧ w'.ownsRow w.heap.size 89 3 tv (traceZ fs seed x).length (evCells (traceZ fs seed x)) ∧ Clear lv tv ∧ (∀ r,r < reds.length → Clear (LV r) tv) ∧ Below w.heap.size w w'
def RefP (S : Nat → Prop) (W : World) (v : Value) (fs : List (List Ins)) (reds : List Int) : Prop:=∃ rb vf vr,v = .pointer (some ⟨rb,0,none⟩) ∧ S rb ∧ W.cell? ⟨rb,0,none⟩ = some vf ∧ W.cell? ⟨rb,1,none⟩ = some vr ∧ RdF S W vf fs ∧ RdL S W 1 int64s vr reds
theorem RefP.turn {S S' : Nat → Prop} {W W' : World} {v : Value} {fs : List (List Ins)} {reds : List Int} (h : RefP S W v fs reds) (hS : ∀ b,S b → b < W.heap.size → S' b ∧ W'.heap[b]? = W.heap[b]?) : RefP S' W' v fs reds:=by
 obtain ⟨rb,vf,vr,hv,hrb,c0,c1,h1,h2⟩:=h
 have hl : rb < W.heap.size:=block_lt_of_cell c0
 obtain ⟨s1,s2⟩:=hS rb hrb hl
 exact ⟨rb,vf,vr,hv,s1,(World.cell?_of_block (w:=W) (a:=⟨rb,0,none⟩) s2).trans c0,(World.cell?_of_block (w:=W) (a:=⟨rb,1,none⟩) s2).trans c1,h1.turn hS,h2.turn hS (fun x _=>by simp [int64s])⟩
theorem check_ok {fs : List (List Ins)} {reds : List Int} (h : (check fs reds).1 = 0) (hw : FsWf fs) : 0 < fs.length ∧ fs.length ≤ 8 ∧ reds.length ≤ 4 ∧ FsOk fs reds.length ∧ (∀ l ∈ fs,l.length ≤ 10):=by
 by_cases h1 : fs.length < 1 ∨ 8 < fs.length
 ·rw [check_1 h1] at h;cases h
 by_cases h2 : 4 < reds.length
 ·rw [check_2 h1 h2] at h;cases h
 cases h3 : firstBad (badR reds) reds.length with
 | some r=>rw [check_3 h1 h2 h3] at h;cases h
 | none =>
  cases h4 : firstBad (badF fs reds.length) fs.length with
  | some f=>rw [check_4 h1 h2 h3 h4] at h;cases h
  | none =>
   have hb : ∀ f,f < fs.length → badF fs reds.length f = false:=fun f hf=>by
    have:=List.find?_eq_none.1 h4 f (List.mem_range.2 hf)
    simpa using this
   obtain ⟨k1,k2⟩:=FsOk_of hb hw
   exact ⟨by omega,by omega,by omega,k1,k2⟩
theorem oneZ_r {sub : Nat → Int → Int → List Ev} {n nr : Nat} {f : Nat} {x h r : Int} {i : Ins} (hm : mayB n nr f i = true) (hs : ∀ g y k,∀ e ∈ sub g y k,∃ q : Nat,e.r = q ∧ q < nr) : ∀ e ∈ oneZ sub x h r i,∃ q : Nat,e.r = q ∧ q < nr:=by
 intro e he
 unfold oneZ at he
 unfold mayB at hm
 split at he
 ·rename_i h1
  rw [if_pos h1] at hm
  simp only [Bool.and_eq_true,decide_eq_true_eq] at hm
  rw [List.mem_singleton] at he
  subst he
  exact ⟨i.r.toNat,by simp only;omega,by omega⟩
 ·rename_i h1
  rw [if_neg h1] at hm
  split at he
  ·rename_i h2
   rw [if_pos h2] at hm
   simp only [Bool.and_eq_true,decide_eq_true_eq] at hm
   rw [List.mem_singleton] at he
   subst he
   exact ⟨i.r.toNat,by simp only;omega,by omega⟩
  ·split at he
   ·exact hs _ _ _ e he
   ·cases he
theorem serL_r {sub : Nat → Int → Int → List Ev} {n nr f : Nat} {x h : Int} (hs : ∀ g y k,∀ e ∈ sub g y k,∃ q : Nat,e.r = q ∧ q < nr) : ∀ (l : List Ins) (r : Int),(∀ i ∈ l,mayB n nr f i = true) → ∀ e ∈ serL sub x h r l,∃ q : Nat,e.r = q ∧ q < nr
 | [],_,_,e,he=>by cases he
 | i :: t,r,hl,e,he=>by
  simp only [serL,List.mem_append] at he
  rcases he with he | he
  ·exact oneZ_r (hl i (List.mem_cons_self ..)) hs e he
  ·exact serL_r hs t _ (fun j hj=>hl j (List.mem_cons_of_mem _ hj)) e he
theorem ser_r {fs : List (List Ins)} {nr : Nat} (hok : FsOk fs nr) : ∀ d f x h,∀ e ∈ ser fs d f x h,∃ q : Nat,e.r = q ∧ q < nr
 | 0,_,_,_,e,he=>by simp [ser] at he
 | d + 1,f,x,h,e,he=>by
  simp only [ser] at he
  cases hf : fs[f]? with
  | none=>rw [hf] at he;simp [serL] at he
  | some l =>
   rw [hf] at he
   exact serL_r (n:=fs.length) (f:=f) (ser_r hok d) l 0 (fun i hi=>(hok f l hf i hi).1) e he
theorem trace_len {fs : List (List Ins)} (hn : fs.length ≤ 8) (hl : ∀ l ∈ fs,l.length ≤ 10) (seed x : Int) : (traceZ fs seed x).length ≤ 100000000:=by
 have h1:=ser_len hl fs.length 0 x seed
 have h2 : 10 ^ fs.length ≤ 10 ^ 8:=Nat.pow_le_pow_right (by omega) hn
 unfold traceZ
 omega
theorem evCells_flat (l : List Ev) : evCells l = flat Ev.vals l:=rfl
theorem evvals_len (e : Ev) : e.vals.length = 3:=rfl
theorem OwnV.rd {W : World} {base n : Nat} {lv : Value} {V : Nat → Val} {LV : Nat → Value} {xs : List Value} (h : OwnV W base lv n V LV xs) : RdV W lv V n:=by
 rcases h.row.2 with ⟨hv,h0⟩ | ⟨g,cap,cur,hv,hb,hg,hn,hm,hc,ht⟩
 ·subst h0;exact ⟨none,0,hv,by omega,by unfold maxLen;omega,fun r hr=>by omega⟩
 ·subst hv
  refine ⟨_,cap,rfl,hn,hm,fun r hr=>⟨g,0,LV r,rfl,?_,?_,?_,own_rd (by rw [← ints_flat];exact h.own r hr) int64s_len (fun _ _=>trivial)⟩⟩
  ·rw [Nat.zero_add,World.ownsRow.cellAt h.row _ (by omega)];exact h.n0 r hr
  ·rw [Nat.zero_add,World.ownsRow.cellAt h.row _ (by omega)];exact h.n1 r hr
  ·rw [Nat.zero_add,World.ownsRow.cellAt h.row _ (by omega)];exact h.n2 r hr
end Go.Proofs.YtkmakliebhnhbaaGreat
