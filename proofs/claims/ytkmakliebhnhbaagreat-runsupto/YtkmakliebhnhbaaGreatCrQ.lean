import Derived.Test.YtkmakliebhnhbaaGreatCrP
namespace Go.Proofs.YtkmakliebhnhbaaGreat
open Go.RowKit Go.Shelf
theorem crw_below {n : Nat} {r : Option Nat} {w w' : World} (h : Below n w w') (hn : w.heap.size ≤ n) : w.grownBy w' r:=⟨h.os,h.tape,h.output,h.size,fun k hk _=>h.block k (by omega)⟩
theorem crw_trans {r : Option Nat} {A B C : World} (h : A.grownBy B r) (k : B.grownBy C r) : A.grownBy C r:=⟨k.os.trans h.os,k.tape.trans h.tape,k.output.trans h.output,Nat.le_trans h.size k.size,fun i hi hr=>(k.block i (Nat.lt_of_lt_of_le hi h.size) hr).trans (h.block i hi hr)⟩
theorem crw_both {r : Option Nat} {w w' : World} (h : w.grownBy w' r) (p : Addr) (v : Value) : (w.setCell p v).grownBy (w'.setCell p v) r:=by
  refine ⟨h.os,h.tape,h.output,by have:=h.size;simpa [World.setCell] using this,fun b hb hr=>?_⟩
  have e:=h.block b (by simpa [World.setCell] using hb) hr
  unfold World.setCell
  simp only [Array.getElem?_modify,e]
theorem crw_set {r : Option Nat} {w w' : World} (h : w.grownBy w' r) {b : Nat} (hb : w.heap.size ≤ b) (j : Nat) (v : Value) : w.grownBy (w'.setCell ⟨b,j,none⟩ v) r :=
  ⟨h.os,h.tape,h.output,by have:=h.size;simpa [World.setCell] using this,fun k hk hr=>(Below.heap_setCell _ _ _ _ (show k ≠ b by omega)).trans (h.block k hk hr)⟩
set_option maxRecDepth 4000 in
set_option maxHeartbeats 4000000 in
theorem wdo_spawn (wb o B ib off n cap cb : Nat) (t : Tk) (pv : Value) (i : Ins) (me : Int) (w : World) (hop : i.op = 3) (hb : TkB w B t pv (.slice (some ⟨ib,off,none⟩) (n + 1) cap)) (hnum : w.cell? ⟨wb,o,none⟩ = some (.int .i64 me)) (hh : w.cell? ⟨wb,o + 1,none⟩ = some (.pointer (some ⟨B,0,none⟩)))
    (hi : ∀ (j : Nat) (u : Value),(Ins.vals i)[j]? = some u → w.cell? ⟨ib,off + j,none⟩ = some u) (hne : B ≠ wb) (_hiB : ib ≠ B) (hnc : n + 1 ≤ cap) (hcap : cap ≤ 9223372036854775807) (hpl : t.pl ≤ 10000000000000) {fs : List (List Ins)} {reds : List Int} {n₀ : Nat} {l : List Ins} (m : Nat) (hm : i.f = m) (hl : fs[m]? = some l) (hl10 : l.length ≤ 2000000) (hC : CodeP (Lt n₀) w cb fs reds) (hnB : n₀ ≤ B) (hnW : n₀ ≤ wb) (hg : gift fs m ≤ 100000000) (h0 : 0 ≤ t.r) (h1 : t.r ≤ 1000) (hwt : ∃ cs,w.heap[wb]? = some (.cells cs 183 (0,0))) (sv : Value) (us : List Value) (hst : w.cell? ⟨wb,o + 2,none⟩ = some sv) (hsr : StkR w n₀ sv us) (hus : us.length ≤ 1000000) :
    Calls Tryz.prog 108 #[.pointer (some ⟨wb,o,none⟩),.pointer (some ⟨cb,0,none⟩)] w fun e w'=>∃ Q av' sv',e = .returned (stepV 0) ∧ w.heap.size ≤ Q ∧ TkB w' Q ⟨m,numZ i t.x,stepZ t.h t.r,0,l,t.pl,0,false,0,.spawn⟩ (.pointer (some ⟨B,0,none⟩)) av' ∧ RdL (InsAt w') w' 5 Ins.vals av' l ∧ StkR w' n₀ sv' (us ++ [.pointer (some ⟨B,0,none⟩)]) ∧ (blkOf sv' = blkOf sv ∨ ∃ b,blkOf sv' = some b ∧ w.heap.size ≤ b) ∧
      (((((w.setCell ⟨B,6,none⟩ (tailV ib off n cap)).setCell ⟨wb,o + 2,none⟩ sv').setCell ⟨B,3,none⟩ (.int .u64 (t.r + 1))).setCell ⟨B,7,none⟩ (.int .i64 ((t.pl + gift fs m : Nat) : Int))).setCell ⟨wb,o + 1,none⟩ (.pointer (some ⟨Q,0,none⟩))).grownBy w' (blkOf sv):=by
  obtain ⟨op,F,R,K,L⟩:=i
  dsimp only at hop
  subst hop
  have i0:=hi 0 _ rfl
  have i1:=hi 1 _ rfl
  have i2:=hi 2 _ rfl
  have i3:=hi 3 _ rfl
  have i4:=hi 4 _ rfl
  dsimp only at i0 i1 i2 i3 i4
  rw [Nat.add_zero] at i0
  have c6:=hb.c6
  have f6:=hb.fz 6
  have hlt:=hb.lt
  have hwlt:=block_lt_of_cell hh
  have hilt:=block_lt_of_cell i0
  simp only at hwlt hilt
  dsimp only at hm
  subst hm
  have HC:=hide hC
  have HL:=hide hl
  have hn₀w : n₀ ≤ w.heap.size:=by omega
  have HST:=hide hst
  have HSR:=hide hsr
  obtain ⟨wcs,hwcs⟩:=hwt
  have sv1 : blkOf sv ≠ some wb:=fun e=>by
    rcases hsr with ⟨e1,_⟩ | ⟨sb,so,cp,cs,e1,e2,_⟩
    · rw [e1] at e;cases e
    · rw [e1] at e
      have e : sb = wb:=by simpa [blkOf] using e
      rw [e,hwcs] at e2;cases e2
  have sv2 : blkOf sv ≠ some B:=fun e=>by
    rcases hsr with ⟨e1,_⟩ | ⟨sb,so,cp,cs,e1,e2,_⟩
    · rw [e1] at e;cases e
    · rw [e1] at e
      have e : sb = B:=by simpa [blkOf] using e
      rw [e,show w.heap[B]? = _ from hb] at e2;cases e2
  have sv3 : ∀ b,blkOf sv = some b → b < w.heap.size ∧ n₀ ≤ b:=fun b e=>by
    rcases hsr with ⟨e1,_⟩ | ⟨sb,so,cp,cs,e1,e2,e3,_⟩
    · rw [e1] at e;cases e
    · rw [e1] at e;cases e;exact ⟨(Array.getElem?_eq_some_iff.1 e2).1,e3⟩
  have svf : ∃ sa sc,sv = .slice sa us.length sc:=by
    rcases hsr with ⟨e1,e2⟩ | ⟨sb,so,cp,cs,e1,_⟩
    · exact ⟨none,0,by rw [e1,e2];rfl⟩
    · exact ⟨_,_,e1⟩
  clear hC hl hst hsr
  have hn1 : (1 : Int) ≤ (n : Int) + 1:=by omega
  have hn2 : (0 : Int) < (n : Int) + 1:=by omega
  have hn3 : (n : Int) + 1 ≤ cap:=by omega
  have hn4 : (cap : Int) ≤ 9223372036854775807:=by omega
  have HB:=hide hb
  have HNUM:=hide hnum
  clear hb hi hnum
  go_enter Tryz.func108,Tryz.ntmps108
  go_wp2
  rename_i K0 hK0
  obtain ⟨W0,hW0⟩ : ∃ W0,w.alloc (.cells #[.int .i64 0,.int .i64 0,.int .i64 0,.int .i64 0,.int .i64 0] 140) = W0:=⟨_,rfl⟩
  have hb0 : Below w.heap.size w W0:=by rw [← hW0];exact (Below.refl _ w).alloc (Nat.le_refl _) _
  have hs0 : W0.heap.size = w.heap.size + 1:=by rw [← hW0];simp
  have br : W0.heap[w.heap.size]? = some (.cells #[.int .i64 0,.int .i64 0,.int .i64 0,.int .i64 0,.int .i64 0] 140 (0,0)):=by rw [← hW0];exact World.alloc_heap_new w _
  replace i0:=(hb0.cell (p:=⟨ib,off,none⟩) hilt).trans i0
  replace i1:=(hb0.cell (p:=⟨ib,off + 1,none⟩) hilt).trans i1
  replace i2:=(hb0.cell (p:=⟨ib,off + 2,none⟩) hilt).trans i2
  replace i3:=(hb0.cell (p:=⟨ib,off + 3,none⟩) hilt).trans i3
  replace i4:=(hb0.cell (p:=⟨ib,off + 4,none⟩) hilt).trans i4
  replace c6:=(hb0.cell (p:=⟨B,6,none⟩) hlt).trans c6
  replace hh:=(hb0.cell (p:=⟨wb,o + 1,none⟩) hwlt).trans hh
  rw [hW0]
  have m0:=World.new_ne W0 _ i0
  have m1:=World.new_ne W0 _ i1
  have m2:=World.new_ne W0 _ i2
  have m3:=World.new_ne W0 _ i3
  have m4:=World.new_ne W0 _ i4
  have m6:=World.new_ne W0 _ c6
  have m7:=World.new_ne W0 _ hh
  clear hW0
  go_region_held3 (fun w'=>w'.cell? ⟨wb,o + 1,none⟩ = some (.pointer (some ⟨B,0,none⟩)) ∧ w'.cell? ⟨B,6,none⟩ = some (.slice (some ⟨ib,off,none⟩) (n + 1) cap) ∧ w'.cell? ⟨ib,off,none⟩ = some (.int .i64 3) ∧ w'.cell? ⟨ib,off + 1,none⟩ = some (.int .i64 (m : Int)) ∧ w'.cell? ⟨ib,off + 2,none⟩ = some (.int .i64 R) ∧ w'.cell? ⟨ib,off + 3,none⟩ = some (.int .i64 K) ∧ w'.cell? ⟨ib,off + 4,none⟩ = some (.int .i64 L)) (go_keep)
    ((fail))
  obtain ⟨W1,hW1⟩ : ∃ W1,(W0.alloc (.cells #[.int .i64 3,.int .i64 (m : Int),.int .i64 R,.int .i64 K,.int .i64 L] 45)).drew = W1:=⟨_,rfl⟩
  have hb1 : Below W0.heap.size W0 W1:=by rw [← hW1];exact ((Below.refl _ W0).alloc (Nat.le_refl _) _).drew
  have hs1 : W1.heap.size = w.heap.size + 2:=by rw [← hW1];simp [hs0]
  have bi : Box5 W1 (w.heap.size + 1) ⟨3,m,R,K,L⟩:=by rw [← hW1,← hs0];exact Box5.new W0 ⟨3,m,R,K,L⟩
  have hbw : Below w.heap.size w W1:=hb0.trans (hb1.mono (by omega))
  have tb : TkB W1 B t pv (.slice (some ⟨ib,off,none⟩) (n + 1) cap):=HB.out.bel hbw hlt
  have br1 : W1.heap[w.heap.size]? = some (.cells #[.int .i64 0,.int .i64 0,.int .i64 0,.int .i64 0,.int .i64 0] 140 (0,0)):=(hb1.block _ (by omega)).trans br
  rw [hW1]
  have hn5 : W1.cell? ⟨wb,o,none⟩ = some (.int .i64 me):=(hbw.cell (p:=⟨wb,o,none⟩) hwlt).trans HNUM.out
  have hh1 : W1.cell? ⟨wb,o + 1,none⟩ = some (.pointer (some ⟨B,0,none⟩)):=(hb1.cell (p:=⟨wb,o + 1,none⟩) (by simp;omega)).trans hh
  clear hW1 i0 i1 i2 i3 i4 c6 hh m0 m1 m2 m3 m4 m6 m7 f6 br hb1 hb0 hs0
  have g0:=bi.c0
  have g1:=bi.c1
  have g2:=bi.c2
  have g3:=bi.c3
  have g4:=bi.c4
  have c6:=tb.c6
  have f6:=tb.fz 6
  dsimp only at g0 g1 g2 g3 g4
  have HBW:=hide hbw
  have HTB:=hide tb
  have HBR:=hide br1
  have HBI:=hide bi
  have HN5:=hide hn5
  have HH1:=hide hh1
  have l1 : w.heap.size < W1.heap.size:=by omega
  have l2 : w.heap.size + 1 < W1.heap.size:=by omega
  have n1 : B ≠ w.heap.size + 1:=by omega
  have n2 : w.heap.size + 1 ≠ B:=by omega
  clear hbw tb br1 bi hn5 hh1
  refine hK0 _ _ ?_
  clear hK0
  obtain ⟨W2,hW2⟩ : ∃ W2,W1.setCell ⟨B,6,none⟩ (tailV ib off n cap) = W2:=⟨_,rfl⟩
  have tb2 : TkB W2 B { t with rem:=[] } pv (tailV ib off n cap):=by rw [← hW2];exact HTB.out.set6 _ []
  have hk2 : ∀ b,b ≠ B → W2.heap[b]? = W1.heap[b]?:=fun b hb=>by rw [← hW2];exact Below.heap_setCell _ _ _ _ hb
  have bw2 : Below w.heap.size (w.setCell ⟨B,6,none⟩ (tailV ib off n cap)) W2:=by rw [← hW2];exact below_both HBW.out _ _
  have hs2 : W2.heap.size = w.heap.size + 2:=by rw [← hW2];simp [World.setCell,hs1]
  have hbi : W2.heap[w.heap.size + 1]? = W1.heap[w.heap.size + 1]?:=hk2 _ n2
  have e0:=(World.cell?_of_block (w:=W1) (a:=⟨w.heap.size + 1,0,none⟩) hbi).trans g0
  have e1:=(World.cell?_of_block (w:=W1) (a:=⟨w.heap.size + 1,1,none⟩) hbi).trans g1
  have e2:=(World.cell?_of_block (w:=W1) (a:=⟨w.heap.size + 1,2,none⟩) hbi).trans g2
  have e3:=(World.cell?_of_block (w:=W1) (a:=⟨w.heap.size + 1,3,none⟩) hbi).trans g3
  have e4:=(World.cell?_of_block (w:=W1) (a:=⟨w.heap.size + 1,4,none⟩) hbi).trans g4
  have HTB2:=hide tb2
  have HK2:=hide hk2
  have HBW2:=hide bw2
  have HS2:=hide hs2
  have HW2 : Hid (∀ v,v = tailV ib off n cap → W1.setCell ⟨B,6,none⟩ v = W2):=fun v hv=>by rw [hv];exact hW2
  clear tb2 hk2 bw2 hs2 hbi hW2
  have hs2':=HS2.out
  have hne':=Ne.symm hne
  have hw1 : W1.heap[wb]? = some (.cells wcs 183 (0,0)):=(HBW.out.block wb hwlt).trans hwcs
  have ht1 : W1.cell? ⟨wb,o + 2,none⟩ = some sv:=(HBW.out.cell (p:=⟨wb,o + 2,none⟩) hwlt).trans HST.out
  have hC2 : CodeP (Lt n₀) W2 cb fs reds:=HC.out.turn (fun b hb hlt=>⟨hb,by
    have hbn : b < n₀:=hb
    exact (HK2.out b (by omega)).trans (HBW.out.block b (by omega))⟩)
  have hS2 : StkR W2 n₀ sv us:=by
    rcases HSR.out with q | ⟨sb,so,cp,cs,q1,q2,q3⟩
    · exact .inl q
    · have hsl:=(Array.getElem?_eq_some_iff.1 q2).1
      exact .inr ⟨sb,so,cp,cs,q1,((HK2.out sb (fun e=>sv2 (by rw [q1,e];rfl))).trans (HBW.out.block sb hsl)).trans q2,q3⟩
  obtain ⟨z,hz⟩ : ∃ z,numZ ⟨3,m,R,K,L⟩ t.x = z:=⟨_,rfl⟩
  have HZ:=hide hz
  have HPB : Hid (∀ w3,(W2.alloc (.cells #[.pointer (some ⟨B,0,none⟩)] 133)).grownBy w3 (blkOf sv) → ∀ b,b < W2.heap.size → blkOf sv ≠ some b → w3.heap[b]? = W2.heap[b]?):=fun w3 hgr b hb hne=>(hgr.block b (by simp;omega) (fun e=>hne e.symm)).trans (Below.heap_alloc _ _ _ hb)
  have sv4 : blkOf sv ≠ some w.heap.size:=fun e=>by have:=(sv3 _ e).1;omega
  have sv5 : blkOf sv ≠ some (w.heap.size + 1):=fun e=>by have:=(sv3 _ e).1;omega
  have HBE : Hid (∀ w3 sv',(W2.alloc (.cells #[.pointer (some ⟨B,0,none⟩)] 133)).grownBy w3 (blkOf sv) → Calls Tryz.prog 126 #[.pointer (some ⟨B,0,none⟩),.pointer (some ⟨cb,0,none⟩),.agg #[.int .i64 3,.int .i64 (m : Int),.int .i64 R,.int .i64 K,.int .i64 L],.int .i64 2] (w3.setCell ⟨wb,o + 2,none⟩ sv') fun e w'=>∃ Q av',e = .returned (.pointer (some ⟨Q,0,none⟩)) ∧ w3.heap.size ≤ Q ∧ TkB w' Q ⟨m,z,stepZ t.h t.r,0,l,t.pl,0,false,0,.spawn⟩ (.pointer (some ⟨B,0,none⟩)) av' ∧ RdL (InsAt w') w' 5 Ins.vals av' l ∧
      Below w3.heap.size (((w3.setCell ⟨wb,o + 2,none⟩ sv').setCell ⟨B,3,none⟩ (.int .u64 (t.r + 1))).setCell ⟨B,7,none⟩ (.int .i64 ((t.pl + gift fs m : Nat) : Int))) w'):=fun w3 sv' hgr=>by
    have hs3 : W2.heap.size + 1 ≤ w3.heap.size:=by have:=hgr.size;simpa using this
    have htb3 : TkB (w3.setCell ⟨wb,o + 2,none⟩ sv') B { t with rem:=[] } pv _:=((Below.heap_setCell _ _ _ _ hne).trans (HPB.out w3 hgr B (by omega) sv2)).trans HTB2.out
    have:=tbegin_calls ⟨3,m,R,K,L⟩ m rfl HL.out hl10 .spawn B { t with rem:=[] } pv _ (w3.setCell ⟨wb,o + 2,none⟩ sv') htb3 (hC2.turn (S':=Lt n₀) (fun b hb hlt=>⟨hb,by
      have hbn : b < n₀:=hb
      have hwn : b ≠ wb:=fun e=>by
        omega
      exact (Below.heap_setCell _ _ _ _ hwn).trans (HPB.out w3 hgr b (by omega) (fun e=>by have:=(sv3 _ e).2;omega))⟩)) (by simp [World.setCell];omega) hnB h0 h1 hpl hg
    rw [← hz]
    simp only [show (w3.setCell ⟨wb,o + 2,none⟩ sv').heap.size = w3.heap.size by simp [World.setCell]] at this
    exact this
  obtain ⟨itk,hitk,hy0,hy1,hy2⟩:=info_parts Tryz.infoTk
  have hbr : W2.heap[w.heap.size]? = some (.cells #[.int .i64 0,.int .i64 0,.int .i64 0,.int .i64 0,.int .i64 0] 140 (0,0)):=(HK2.out _ (by omega)).trans HBR.out
  have HR2:=hide hbr
  have HW1:=hide hw1
  have HS2S:=hide hS2
  have HI2 : Hid (W2.heap[w.heap.size + 1]? = W1.heap[w.heap.size + 1]?):=HK2.out _ n2
  have HWB2 : Hid (W2.heap[wb]? = W1.heap[wb]?):=HK2.out _ hne'
  clear hbr hw1 hz hC2 hwcs hS2
  have n8 : w.heap.size ≠ w.heap.size + 1:=by omega
  have n9 : w.heap.size + 1 ≠ w.heap.size:=by omega
  have n10 : wb ≠ w.heap.size:=by omega
  have n11 : w.heap.size ≠ wb:=by omega
  have n12 : wb ≠ w.heap.size + 1:=by omega
  have n13 : w.heap.size + 1 ≠ wb:=by omega
  have FIN : Hid (∀ w4 : World,w4.heap[w.heap.size]? = some (.cells #[.int .i64 0,.int .i64 0,.int .i64 0,.int .i64 0,.int .i64 0] 140 (0,0)) → ∀ j v,((#[.int .i64 0,.int .i64 0,.int .i64 0,.int .i64 0,.int .i64 0] : Array Value))[j]? = some v → w4.cell? ⟨w.heap.size,j,none⟩ = some v ∧ w4.frozen? ⟨w.heap.size,j,none⟩ = false):=fun w4 h4 j v hv=>⟨by simp only [World.cell?,h4];exact hv,by simp [World.frozen?,h4]⟩
  have HSRC : Hid ((W2.alloc (.cells #[.pointer (some ⟨B,0,none⟩)] 133)).cell? ⟨w.heap.size + 2,0,none⟩ = some (.pointer (some ⟨B,0,none⟩))):=by
    unfold Hid
    rw [show w.heap.size + 2 = W2.heap.size by omega]
    exact (Boxed.new W2 _ _).cell
  have STKA : Hid (StkR (W2.alloc (.cells #[.pointer (some ⟨B,0,none⟩)] 133)) n₀ sv us):=by
    rcases HS2S.out with q | ⟨sb,so,cp,cs,q1,q2,q3⟩
    · exact .inl q
    · exact .inr ⟨sb,so,cp,cs,q1,(Below.heap_alloc _ _ _ (Array.getElem?_eq_some_iff.1 q2).1).trans q2,q3⟩
  obtain ⟨sa,sc,hsv⟩:=svf
  obtain ⟨nu,hnu⟩ : ∃ nu,us.length = nu:=⟨_,rfl⟩
  rw [hnu] at hsv hus
  have HNU:=hide hnu
  clear hnu
  subst hsv
  by_cases hc1 : cap = 1
  case' pos =>
    have hn0 : n = 0:=by omega
    subst hn0 hc1
    go_wp2_with (first
      | (at_builtin
         rw [HW2.out (.slice (some ⟨ib,off,none⟩) 0 0) rfl]
         refine wpList_push _ rfl _ _ 181 rfl itk _ 8 Tryz.underlying181 hitk hy0 hy1 hy2 rfl n₀ (.slice sa nu sc) us rfl (STKA.out) (.pointer (some ⟨B,0,none⟩)) rfl ⟨w.heap.size + 2,0,none⟩ 1 (by rfl) HSRC.out (by have:=HNU.out;omega) (by omega) (by simp;omega) ?_
         intro a' cap' w3 hst3 hgr hbl
         rw [HNU.out] at hst3 hbl ⊢
         have hw3 : w3.heap[wb]? = W1.heap[wb]?:=(HPB.out w3 hgr wb (by omega) sv1).trans HWB2.out
         have hc3 : w3.cell? ⟨wb,o + 2,none⟩ = some (.slice sa nu sc):=(World.cell?_of_block (w:=W1) (a:=⟨wb,o + 2,none⟩) hw3).trans ht1
         have hf3 : w3.frozen? ⟨wb,o + 2,none⟩ = false:=by simp only [World.frozen?,hw3,HW1.out];simp
         have hi3 : w3.heap[w.heap.size + 1]? = W1.heap[w.heap.size + 1]?:=(HPB.out w3 hgr _ (by omega) sv5).trans HI2.out
         have r0:=(World.cell?_of_block (w:=W1) (a:=⟨w.heap.size + 1,0,none⟩) hi3).trans g0
         have r1:=(World.cell?_of_block (w:=W1) (a:=⟨w.heap.size + 1,1,none⟩) hi3).trans g1
         have r2:=(World.cell?_of_block (w:=W1) (a:=⟨w.heap.size + 1,2,none⟩) hi3).trans g2
         have r3:=(World.cell?_of_block (w:=W1) (a:=⟨w.heap.size + 1,3,none⟩) hi3).trans g3
         have r4:=(World.cell?_of_block (w:=W1) (a:=⟨w.heap.size + 1,4,none⟩) hi3).trans g4
         have HST3:=hide hst3
         have HW3 : Hid (w3.heap[wb]? = some (.cells wcs 183 (0,0))):=hw3.trans HW1.out
         have HGR:=hide hgr
         have HBL:=hide hbl
         clear hst3 hgr hbl hw3 hi3 g0 g1 g2 g3 g4 e0 e1 e2 e3 e4 c6 f6 ht1)
      | (go_at_call 126
         refine (HBE.out w3 _ HGR.out).mono ?_
         rintro e w4 ⟨Q,av',rfl,hQ,tq,hrq,hb4⟩
         have hs3 : w.heap.size + 3 ≤ w3.heap.size:=by have:=HGR.out.size;simp at this;omega
         have hr5 : w4.heap[w.heap.size]? = _:=((hb4.block _ (by omega)).trans ((Below.heap_setCell _ _ _ _ (show w.heap.size ≠ B by omega)).trans ((Below.heap_setCell _ _ _ _ (show w.heap.size ≠ B by omega)).trans (Below.heap_setCell _ _ _ _ n11)))).trans ((HPB.out w3 HGR.out _ (by omega) sv4).trans HR2.out)
         have hw5 : w4.heap[wb]? = _:=(hb4.block wb (by omega)).trans ((Below.heap_setCell _ _ _ _ hne').trans ((Below.heap_setCell _ _ _ _ hne').trans (heap_set w3 wb (o + 2) (.slice a' (nu + 1) cap') wcs _ HW3.out)))
         have hh5 : w4.cell? ⟨wb,o + 1,none⟩ = some (.pointer (some ⟨B,0,none⟩)):=by
           have q:=HH1.out
           simp only [World.cell?,HW1.out] at q
           simp only [World.cell?,hw5]
           rw [Array.getElem?_setIfInBounds_ne (by omega)]
           exact q
         have hf5 : w4.frozen? ⟨wb,o + 1,none⟩ = false:=by simp only [World.frozen?,hw5];simp
         obtain ⟨s0,f0⟩:=FIN.out w4 hr5 0 _ rfl
         obtain ⟨s1,f1⟩:=FIN.out w4 hr5 1 _ rfl
         obtain ⟨s2,f2⟩:=FIN.out w4 hr5 2 _ rfl
         obtain ⟨s3,f3⟩:=FIN.out w4 hr5 3 _ rfl
         obtain ⟨s4,f4⟩:=FIN.out w4 hr5 4 _ rfl
         have HR5:=hide hr5
         have HTQ:=hide tq
         have HRQ:=hide hrq
         have HB4:=hide hb4
         clear hr5 hw5 tq hrq hb4 r0 r1 r2 r3 r4 hc3 hf3))
  case' neg =>
    go_wp2_with (first
      | (at_builtin
         rw [HW2.out (.slice (some ⟨ib,off + 5,none⟩) n (cap - 1)) (by unfold tailV;rw [if_neg hc1])]
         refine wpList_push _ rfl _ _ 181 rfl itk _ 8 Tryz.underlying181 hitk hy0 hy1 hy2 rfl n₀ (.slice sa nu sc) us rfl (STKA.out) (.pointer (some ⟨B,0,none⟩)) rfl ⟨w.heap.size + 2,0,none⟩ 1 (by rfl) HSRC.out (by have:=HNU.out;omega) (by omega) (by simp;omega) ?_
         intro a' cap' w3 hst3 hgr hbl
         rw [HNU.out] at hst3 hbl ⊢
         have hw3 : w3.heap[wb]? = W1.heap[wb]?:=(HPB.out w3 hgr wb (by omega) sv1).trans HWB2.out
         have hc3 : w3.cell? ⟨wb,o + 2,none⟩ = some (.slice sa nu sc):=(World.cell?_of_block (w:=W1) (a:=⟨wb,o + 2,none⟩) hw3).trans ht1
         have hf3 : w3.frozen? ⟨wb,o + 2,none⟩ = false:=by simp only [World.frozen?,hw3,HW1.out];simp
         have hi3 : w3.heap[w.heap.size + 1]? = W1.heap[w.heap.size + 1]?:=(HPB.out w3 hgr _ (by omega) sv5).trans HI2.out
         have r0:=(World.cell?_of_block (w:=W1) (a:=⟨w.heap.size + 1,0,none⟩) hi3).trans g0
         have r1:=(World.cell?_of_block (w:=W1) (a:=⟨w.heap.size + 1,1,none⟩) hi3).trans g1
         have r2:=(World.cell?_of_block (w:=W1) (a:=⟨w.heap.size + 1,2,none⟩) hi3).trans g2
         have r3:=(World.cell?_of_block (w:=W1) (a:=⟨w.heap.size + 1,3,none⟩) hi3).trans g3
         have r4:=(World.cell?_of_block (w:=W1) (a:=⟨w.heap.size + 1,4,none⟩) hi3).trans g4
         have HST3:=hide hst3
         have HW3 : Hid (w3.heap[wb]? = some (.cells wcs 183 (0,0))):=hw3.trans HW1.out
         have HGR:=hide hgr
         have HBL:=hide hbl
         clear hst3 hgr hbl hw3 hi3 g0 g1 g2 g3 g4 e0 e1 e2 e3 e4 c6 f6 ht1)
      | (go_at_call 126
         refine (HBE.out w3 _ HGR.out).mono ?_
         rintro e w4 ⟨Q,av',rfl,hQ,tq,hrq,hb4⟩
         have hs3 : w.heap.size + 3 ≤ w3.heap.size:=by have:=HGR.out.size;simp at this;omega
         have hr5 : w4.heap[w.heap.size]? = _:=((hb4.block _ (by omega)).trans ((Below.heap_setCell _ _ _ _ (show w.heap.size ≠ B by omega)).trans ((Below.heap_setCell _ _ _ _ (show w.heap.size ≠ B by omega)).trans (Below.heap_setCell _ _ _ _ n11)))).trans ((HPB.out w3 HGR.out _ (by omega) sv4).trans HR2.out)
         have hw5 : w4.heap[wb]? = _:=(hb4.block wb (by omega)).trans ((Below.heap_setCell _ _ _ _ hne').trans ((Below.heap_setCell _ _ _ _ hne').trans (heap_set w3 wb (o + 2) (.slice a' (nu + 1) cap') wcs _ HW3.out)))
         have hh5 : w4.cell? ⟨wb,o + 1,none⟩ = some (.pointer (some ⟨B,0,none⟩)):=by
           have q:=HH1.out
           simp only [World.cell?,HW1.out] at q
           simp only [World.cell?,hw5]
           rw [Array.getElem?_setIfInBounds_ne (by omega)]
           exact q
         have hf5 : w4.frozen? ⟨wb,o + 1,none⟩ = false:=by simp only [World.frozen?,hw5];simp
         obtain ⟨s0,f0⟩:=FIN.out w4 hr5 0 _ rfl
         obtain ⟨s1,f1⟩:=FIN.out w4 hr5 1 _ rfl
         obtain ⟨s2,f2⟩:=FIN.out w4 hr5 2 _ rfl
         obtain ⟨s3,f3⟩:=FIN.out w4 hr5 3 _ rfl
         obtain ⟨s4,f4⟩:=FIN.out w4 hr5 4 _ rfl
         have HR5:=hide hr5
         have HTQ:=hide tq
         have HRQ:=hide hrq
         have HB4:=hide hb4
         clear hr5 hw5 tq hrq hb4 r0 r1 r2 r3 r4 hc3 hf3))
  all_goals
    have hQs : w.heap.size + 2 ≤ Q:=by omega
    have nQ1 : Q ≠ wb:=by omega
    have nQ2 : Q ≠ w.heap.size:=by omega
    have hr6 : (w4.setCell ⟨wb,o + 1,none⟩ (.pointer (some ⟨Q,0,none⟩))).heap[w.heap.size]? = _:=(Below.heap_setCell _ _ _ _ n11).trans HR5.out
    have h5:=heap_set _ w.heap.size 4 (.int .i64 0) _ _ (heap_set _ w.heap.size 3 (.int .i64 0) _ _ (heap_set _ w.heap.size 2 (.int .i64 0) _ _ (heap_set _ w.heap.size 1 (.int .i64 0) _ _ (heap_set _ w.heap.size 0 (.int .i64 0) _ _ hr6))))
    have hg3 : (w.setCell ⟨B,6,none⟩ (tailV ib off _ _)).grownBy w3 (blkOf (.slice sa nu sc)):=crw_trans (crw_below (r:=blkOf (.slice sa nu sc)) (HBW2.out.alloc (o:=.cells #[.pointer (some ⟨B,0,none⟩)] 133) (by omega)) (by simp [World.setCell])) HGR.out
    have hg4:=crw_trans (crw_both (crw_both (crw_both hg3 ⟨wb,o + 2,none⟩ (.slice a' (nu + 1) cap')) ⟨B,3,none⟩ (.int .u64 (t.r + 1))) ⟨B,7,none⟩ (.int .i64 ((t.pl + gift fs m : Nat) : Int))) (crw_below (r:=blkOf (.slice sa nu sc)) HB4.out (by simp [World.setCell]))
    have hg5:=crw_both hg4 ⟨wb,o + 1,none⟩ (.pointer (some ⟨Q,0,none⟩))
    have hg6:=crw_set (crw_set (crw_set (crw_set (crw_set hg5 (b:=w.heap.size) (by simp [World.setCell]) 0 (.int .i64 0)) (b:=w.heap.size) (by simp [World.setCell]) 1 (.int .i64 0)) (b:=w.heap.size) (by simp [World.setCell]) 2 (.int .i64 0)) (b:=w.heap.size) (by simp [World.setCell]) 3 (.int .i64 0)) (b:=w.heap.size) (by simp [World.setCell]) 4 (.int .i64 0)
    have hot : ∀ b,b ≠ wb → b ≠ w.heap.size → ((((((w4.setCell ⟨wb,o + 1,none⟩ (.pointer (some ⟨Q,0,none⟩))).setCell ⟨w.heap.size,0,none⟩ (.int .i64 0)).setCell ⟨w.heap.size,1,none⟩ (.int .i64 0)).setCell ⟨w.heap.size,2,none⟩ (.int .i64 0)).setCell ⟨w.heap.size,3,none⟩ (.int .i64 0)).setCell ⟨w.heap.size,4,none⟩ (.int .i64 0)).heap[b]? = w4.heap[b]?:=fun b q1 q2=>by
      rw [Below.heap_setCell _ _ _ _ q2,Below.heap_setCell _ _ _ _ q2,Below.heap_setCell _ _ _ _ q2,Below.heap_setCell _ _ _ _ q2,Below.heap_setCell _ _ _ _ q2,Below.heap_setCell _ _ _ _ q1]
    generalize ((((((w4.setCell ⟨wb,o + 1,none⟩ (.pointer (some ⟨Q,0,none⟩))).setCell ⟨w.heap.size,0,none⟩ (.int .i64 0)).setCell ⟨w.heap.size,1,none⟩ (.int .i64 0)).setCell ⟨w.heap.size,2,none⟩ (.int .i64 0)).setCell ⟨w.heap.size,3,none⟩ (.int .i64 0)).setCell ⟨w.heap.size,4,none⟩ (.int .i64 0)) = W6 at h5 hg6 hot ⊢
    have y0 : W6.cell? ⟨w.heap.size,0,none⟩ = some (.int .i64 0):=by simp [World.cell?,h5]
    have y1 : W6.cell? ⟨w.heap.size,1,none⟩ = some (.int .i64 0):=by simp [World.cell?,h5]
    have y2 : W6.cell? ⟨w.heap.size,2,none⟩ = some (.int .i64 0):=by simp [World.cell?,h5]
    have y3 : W6.cell? ⟨w.heap.size,3,none⟩ = some (.int .i64 0):=by simp [World.cell?,h5]
    have y4 : W6.cell? ⟨w.heap.size,4,none⟩ = some (.int .i64 0):=by simp [World.cell?,h5]
    have AF4 : ∀ b,b ≠ B → b ≠ wb → b < w3.heap.size → w4.heap[b]? = w3.heap[b]?:=fun b q1 q2 q3=>(HB4.out.block b q3).trans ((Below.heap_setCell _ _ _ _ q1).trans ((Below.heap_setCell _ _ _ _ q1).trans (Below.heap_setCell _ _ _ _ q2)))
    refine bodyPost_ret (v:=stepV 0) (by simp only [results,Tryz.f108,go_sem,stepV];simp [go_sem,y0,y1,y2,y3,y4]) rfl ⟨Q,av',_,rfl,by omega,by rw [HZ.out];exact (hot Q nQ1 nQ2).trans HTQ.out,?_,?_,?_,hg6⟩
    · refine HRQ.out.turn (fun b hb hlt=>?_) (fun x _=>List.cons_ne_nil _ _)
      obtain ⟨ob,ho1,ho2⟩:=hb
      have q1 : b ≠ wb:=fun e=>by
        subst e
        rw [(HB4.out.block b (by omega)).trans ((Below.heap_setCell _ _ _ _ hne').trans ((Below.heap_setCell _ _ _ _ hne').trans (heap_set w3 b (o + 2) (.slice a' (nu + 1) cap') wcs _ HW3.out)))] at ho1
        cases ho1
        exact absurd (show (183 : Nat) = 45 from ho2) (by decide)
      have q2 : b ≠ w.heap.size:=fun e=>by
        subst e
        rw [HR5.out] at ho1
        cases ho1
        exact absurd (show (140 : Nat) = 45 from ho2) (by decide)
      exact ⟨⟨ob,(hot b q1 q2).trans ho1,ho2⟩,hot b q1 q2⟩
    · rcases HST3.out with ⟨q1,q2⟩ | ⟨sb,so,cp,cs,q1,q2,q3⟩
      · cases q1
      · refine .inr ⟨sb,so,cp,cs,q1,?_,q3⟩
        have hsl:=(Array.getElem?_eq_some_iff.1 q2).1
        have x1 : sb ≠ wb:=fun e=>by
          rw [e,HW3.out] at q2;cases q2
        have x2 : sb ≠ B:=fun e=>by
          rw [e,(HPB.out w3 HGR.out B (by omega) sv2).trans HTB2.out] at q2;cases q2
        have x3 : sb ≠ w.heap.size:=fun e=>by
          rw [e,(HPB.out w3 HGR.out _ (by omega) sv4).trans HR2.out] at q2;cases q2
        exact (hot sb x1 x3).trans ((AF4 sb x2 x1 hsl).trans q2)
    · rcases HBL.out with e | e
      · exact .inl e
      · exact .inr ⟨_,e,by simp;omega⟩
end Go.Proofs.YtkmakliebhnhbaaGreat
