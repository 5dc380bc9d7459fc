import Derived.Test.YtkmakliebhnhbaaGreatCrL
namespace Go.Proofs.YtkmakliebhnhbaaGreat
open Go.RowKit Go.Shelf
def tailV (ib off n cap : Nat) : Value:=.slice (some ⟨ib,if cap = 1 then off else off + 5,none⟩) n (cap - 1)
set_option maxRecDepth 4000 in
set_option maxHeartbeats 4000000 in
theorem wdo_put (wb o B ib off n cap cb : Nat) (t : Tk) (pv : Value) (i : Ins) (me : Int) (w : World) (hop : i.op = 1) (hb : TkB w B t pv (.slice (some ⟨ib,off,none⟩) (n + 1) cap)) (hnum : w.cell? ⟨wb,o,none⟩ = some (.int .i64 me)) (hh : w.cell? ⟨wb,o + 1,none⟩ = some (.pointer (some ⟨B,0,none⟩)))
    (hi : ∀ (j : Nat) (u : Value),(Ins.vals i)[j]? = some u → w.cell? ⟨ib,off + j,none⟩ = some u) (hne : B ≠ wb) (_hiB : ib ≠ B) (hnc : n + 1 ≤ cap) (hcap : cap ≤ 9223372036854775807) (hpl : t.pl ≤ 10000000000000) :
    Calls Tryz.prog 108 #[.pointer (some ⟨wb,o,none⟩),.pointer (some ⟨cb,0,none⟩)] w fun e w'=>e = .returned (.agg #[.int .i64 1,.int .i64 me,.int .i64 i.r,.int .i64 (numZ i t.x),.int .i64 (t.pl : Int)]) ∧
      Below w.heap.size ((w.setCell ⟨B,6,none⟩ (tailV ib off n cap)).setCell ⟨B,7,none⟩ (.int .i64 ((t.pl + 1 : Nat) : Int))) w':=by
  obtain ⟨op,F,R,K,L⟩:=i
  dsimp only at hop
  subst hop
  have i0:=hi 0 _ rfl
  have i1:=hi 1 _ rfl
  have i2:=hi 2 _ rfl
  have i3:=hi 3 _ rfl
  have i4:=hi 4 _ rfl
  dsimp only at i0 i1 i2 i3 i4
  rw [Nat.add_zero] at i0
  have c6:=hb.c6
  have f6:=hb.fz 6
  have hlt:=hb.lt
  have hwlt:=block_lt_of_cell hh
  have hilt:=block_lt_of_cell i0
  simp only at hwlt hilt
  obtain ⟨z,hz⟩ : ∃ z,numZ ⟨1,F,R,K,L⟩ t.x = z:=⟨_,rfl⟩
  rw [hz]
  have HZ:=hide hz
  have hn1 : (1 : Int) ≤ (n : Int) + 1:=by omega
  have hn2 : (0 : Int) < (n : Int) + 1:=by omega
  have hn3 : (n : Int) + 1 ≤ cap:=by omega
  have hn4 : (cap : Int) ≤ 9223372036854775807:=by omega
  have HB:=hide hb
  have HNUM:=hide hnum
  clear hb hi hz hnum
  go_enter Tryz.func108,Tryz.ntmps108
  go_wp2
  rename_i K0 hK0
  obtain ⟨W0,hW0⟩ : ∃ W0,w.alloc (.cells #[.int .i64 0,.int .i64 0,.int .i64 0,.int .i64 0,.int .i64 0] 140) = W0:=⟨_,rfl⟩
  have hb0 : Below w.heap.size w W0:=by rw [← hW0];exact (Below.refl _ w).alloc (Nat.le_refl _) _
  have hs0 : W0.heap.size = w.heap.size + 1:=by rw [← hW0];simp
  have br : W0.heap[w.heap.size]? = some (.cells #[.int .i64 0,.int .i64 0,.int .i64 0,.int .i64 0,.int .i64 0] 140 (0,0)):=by rw [← hW0];exact World.alloc_heap_new w _
  replace i0:=(hb0.cell (p:=⟨ib,off,none⟩) hilt).trans i0
  replace i1:=(hb0.cell (p:=⟨ib,off + 1,none⟩) hilt).trans i1
  replace i2:=(hb0.cell (p:=⟨ib,off + 2,none⟩) hilt).trans i2
  replace i3:=(hb0.cell (p:=⟨ib,off + 3,none⟩) hilt).trans i3
  replace i4:=(hb0.cell (p:=⟨ib,off + 4,none⟩) hilt).trans i4
  replace c6:=(hb0.cell (p:=⟨B,6,none⟩) hlt).trans c6
  replace hh:=(hb0.cell (p:=⟨wb,o + 1,none⟩) hwlt).trans hh
  rw [hW0]
  have m0:=World.new_ne W0 _ i0
  have m1:=World.new_ne W0 _ i1
  have m2:=World.new_ne W0 _ i2
  have m3:=World.new_ne W0 _ i3
  have m4:=World.new_ne W0 _ i4
  have m6:=World.new_ne W0 _ c6
  have m7:=World.new_ne W0 _ hh
  clear hW0
  go_region_held3 (fun w'=>w'.cell? ⟨wb,o + 1,none⟩ = some (.pointer (some ⟨B,0,none⟩)) ∧ w'.cell? ⟨B,6,none⟩ = some (.slice (some ⟨ib,off,none⟩) (n + 1) cap) ∧ w'.cell? ⟨ib,off,none⟩ = some (.int .i64 1) ∧ w'.cell? ⟨ib,off + 1,none⟩ = some (.int .i64 F) ∧ w'.cell? ⟨ib,off + 2,none⟩ = some (.int .i64 R) ∧ w'.cell? ⟨ib,off + 3,none⟩ = some (.int .i64 K) ∧ w'.cell? ⟨ib,off + 4,none⟩ = some (.int .i64 L)) (go_keep)
    ((fail))
  obtain ⟨W1,hW1⟩ : ∃ W1,(W0.alloc (.cells #[.int .i64 1,.int .i64 F,.int .i64 R,.int .i64 K,.int .i64 L] 45)).drew = W1:=⟨_,rfl⟩
  have hb1 : Below W0.heap.size W0 W1:=by rw [← hW1];exact ((Below.refl _ W0).alloc (Nat.le_refl _) _).drew
  have hs1 : W1.heap.size = w.heap.size + 2:=by rw [← hW1];simp [hs0]
  have bi : Box5 W1 (w.heap.size + 1) ⟨1,F,R,K,L⟩:=by rw [← hW1,← hs0];exact Box5.new W0 ⟨1,F,R,K,L⟩
  have hbw : Below w.heap.size w W1:=hb0.trans (hb1.mono (by omega))
  have tb : TkB W1 B t pv (.slice (some ⟨ib,off,none⟩) (n + 1) cap):=HB.out.bel hbw hlt
  have br1 : W1.heap[w.heap.size]? = some (.cells #[.int .i64 0,.int .i64 0,.int .i64 0,.int .i64 0,.int .i64 0] 140 (0,0)):=(hb1.block _ (by omega)).trans br
  rw [hW1]
  have hn5 : W1.cell? ⟨wb,o,none⟩ = some (.int .i64 me):=(hbw.cell (p:=⟨wb,o,none⟩) hwlt).trans HNUM.out
  have hh1 : W1.cell? ⟨wb,o + 1,none⟩ = some (.pointer (some ⟨B,0,none⟩)):=(hb1.cell (p:=⟨wb,o + 1,none⟩) (by simp;omega)).trans hh
  clear hW1 i0 i1 i2 i3 i4 c6 hh m0 m1 m2 m3 m4 m6 m7 f6 br hb1 hb0 hs0
  have g0:=bi.c0
  have g1:=bi.c1
  have g2:=bi.c2
  have g3:=bi.c3
  have g4:=bi.c4
  have c6:=tb.c6
  have f6:=tb.fz 6
  dsimp only at g0 g1 g2 g3 g4
  have HBW:=hide hbw
  have HTB:=hide tb
  have HBR:=hide br1
  have HBI:=hide bi
  have HN5:=hide hn5
  have HH1:=hide hh1
  have l1 : w.heap.size < W1.heap.size:=by omega
  have l2 : w.heap.size + 1 < W1.heap.size:=by omega
  have n1 : B ≠ w.heap.size + 1:=by omega
  have n2 : w.heap.size + 1 ≠ B:=by omega
  clear hbw tb br1 bi hn5 hh1
  refine hK0 _ _ ?_
  clear hK0
  obtain ⟨W2,hW2⟩ : ∃ W2,W1.setCell ⟨B,6,none⟩ (tailV ib off n cap) = W2:=⟨_,rfl⟩
  have tb2 : TkB W2 B { t with rem:=[] } pv (tailV ib off n cap):=by rw [← hW2];exact HTB.out.set6 _ []
  have hk2 : ∀ b,b ≠ B → W2.heap[b]? = W1.heap[b]?:=fun b hb=>by rw [← hW2];exact Below.heap_setCell _ _ _ _ hb
  have bw2 : Below w.heap.size (w.setCell ⟨B,6,none⟩ (tailV ib off n cap)) W2:=by rw [← hW2];exact below_both HBW.out _ _
  have hs2 : W2.heap.size = w.heap.size + 2:=by rw [← hW2];simp [World.setCell,hs1]
  have hbi : W2.heap[w.heap.size + 1]? = W1.heap[w.heap.size + 1]?:=hk2 _ n2
  have e0:=(World.cell?_of_block (w:=W1) (a:=⟨w.heap.size + 1,0,none⟩) hbi).trans g0
  have e1:=(World.cell?_of_block (w:=W1) (a:=⟨w.heap.size + 1,1,none⟩) hbi).trans g1
  have e2:=(World.cell?_of_block (w:=W1) (a:=⟨w.heap.size + 1,2,none⟩) hbi).trans g2
  have e3:=(World.cell?_of_block (w:=W1) (a:=⟨w.heap.size + 1,3,none⟩) hbi).trans g3
  have e4:=(World.cell?_of_block (w:=W1) (a:=⟨w.heap.size + 1,4,none⟩) hbi).trans g4
  have HTB2:=hide tb2
  have HK2:=hide hk2
  have HBW2:=hide bw2
  have HS2:=hide hs2
  have HW2 : Hid (∀ v,v = tailV ib off n cap → W1.setCell ⟨B,6,none⟩ v = W2):=fun v hv=>by rw [hv];exact hW2
  clear tb2 hk2 bw2 hs2 hbi hW2
  by_cases hc1 : cap = 1
  case' pos =>
    have hn0 : n = 0:=by omega
    subst hn0 hc1
    go_wp2
    rw [HW2.out (.slice (some ⟨ib,off,none⟩) 0 0) rfl]
  case' neg =>
    go_wp2
    rw [HW2.out (.slice (some ⟨ib,off + 5,none⟩) n (cap - 1)) (by unfold tailV;rw [if_neg hc1])]
  all_goals
    rename_i K1 hK1
    have HNB : Hid (Calls Tryz.prog 120 #[.pointer (some ⟨B,0,none⟩),.agg #[.int .i64 1,.int .i64 F,.int .i64 R,.int .i64 K,.int .i64 L]] W2.drew fun e w'=>e = .returned (.int .i64 z) ∧ Below W2.heap.size W2.drew w'):=by
      have:=number_at ⟨1,F,R,K,L⟩ B t.x W2.drew HTB2.out.c1
      rw [HZ.out] at this
      exact this
    have hs2:=HS2.out
    have HGV : Hid (∀ w3,Below W2.heap.size W2.drew w3 → Calls Tryz.prog 125 #[.pointer (some ⟨wb,o,none⟩),.int .i64 R,.int .i64 z] w3 fun e w'=>e = .returned (.agg #[.int .i64 1,.int .i64 me,.int .i64 R,.int .i64 z,.int .i64 (t.pl : Int)]) ∧ Below w3.heap.size (w3.setCell ⟨B,7,none⟩ (.int .i64 ((t.pl + 1 : Nat) : Int))) w'):=fun w3 hb3=>by
      have hwb : w3.heap[wb]? = W1.heap[wb]?:=(hb3.block wb (by omega)).trans (HK2.out wb (Ne.symm hne))
      exact wgive_calls B wb o { t with rem:=[] } pv _ me R z w3 (HTB2.out.bel (W:=W2.drew) hb3 (by omega)) ((World.cell?_of_block (w:=W1) (a:=⟨wb,o,none⟩) hwb).trans HN5.out) ((World.cell?_of_block (w:=W1) (a:=⟨wb,o + 1,none⟩) hwb).trans HH1.out) hne hpl
    have hbr : W2.heap[w.heap.size]? = some (.cells #[.int .i64 0,.int .i64 0,.int .i64 0,.int .i64 0,.int .i64 0] 140 (0,0)):=(HK2.out _ (by omega)).trans HBR.out
    have HR2:=hide hbr
    have l3 : w.heap.size < W2.heap.size:=by omega
    have l4 : w.heap.size + 1 < W2.heap.size:=by omega
    clear hbr hs2 g0 g1 g2 g3 g4 c6 f6
    go_region_held3 (fun w'=>w'.cell? ⟨w.heap.size + 1,0,none⟩ = some (.int .i64 1) ∧ w'.cell? ⟨w.heap.size + 1,1,none⟩ = some (.int .i64 F) ∧ w'.cell? ⟨w.heap.size + 1,2,none⟩ = some (.int .i64 R) ∧ w'.cell? ⟨w.heap.size + 1,3,none⟩ = some (.int .i64 K) ∧ w'.cell? ⟨w.heap.size + 1,4,none⟩ = some (.int .i64 L)) (go_keep)
      ((first
        | (go_at_call 120;refine HNB.out.mono ?_;rintro e w3 ⟨rfl,hb3⟩
           have hs3 : W2.heap.size ≤ w3.heap.size:=hb3.size
           have hkb : w3.heap[w.heap.size + 1]? = W2.heap[w.heap.size + 1]?:=hb3.block _ l4
           have hkp : ∀ j,w3.cell? ⟨w.heap.size + 1,j,none⟩ = W2.cell? ⟨w.heap.size + 1,j,none⟩:=fun j=>World.cell?_of_block (w:=W2) (a:=⟨w.heap.size + 1,j,none⟩) hkb)
        | (go_at_call 125;refine (HGV.out w3 hb3).mono ?_;rintro e w4 ⟨rfl,hb4⟩
           have hs4 : w3.heap.size ≤ w4.heap.size:=by have:=hb4.size;simpa [World.setCell] using this
           have hkb4 : w4.heap[w.heap.size + 1]? = W2.heap[w.heap.size + 1]?:=((hb4.block _ (by omega)).trans (Below.heap_setCell _ _ _ _ n2)).trans hkb
           have hkp4 : ∀ j,w4.cell? ⟨w.heap.size + 1,j,none⟩ = W2.cell? ⟨w.heap.size + 1,j,none⟩:=fun j=>World.cell?_of_block (w:=W2) (a:=⟨w.heap.size + 1,j,none⟩) hkb4
           have hr4 : w4.heap[w.heap.size]? = some (.cells #[.int .i64 0,.int .i64 0,.int .i64 0,.int .i64 0,.int .i64 0] 140 (0,0)):=((hb4.block _ (by omega)).trans (Below.heap_setCell _ _ _ _ (show w.heap.size ≠ B by omega))).trans ((hb3.block _ l3).trans HR2.out)
           have s0 : w4.cell? ⟨w.heap.size,0,none⟩ = some (.int .i64 0):=by simp [World.cell?,hr4]
           have s1 : w4.cell? ⟨w.heap.size,1,none⟩ = some (.int .i64 0):=by simp [World.cell?,hr4]
           have s2 : w4.cell? ⟨w.heap.size,2,none⟩ = some (.int .i64 0):=by simp [World.cell?,hr4]
           have s3 : w4.cell? ⟨w.heap.size,3,none⟩ = some (.int .i64 0):=by simp [World.cell?,hr4]
           have s4 : w4.cell? ⟨w.heap.size,4,none⟩ = some (.int .i64 0):=by simp [World.cell?,hr4]
           have fs : ∀ j,w4.frozen? ⟨w.heap.size,j,none⟩ = false:=fun j=>by simp [World.frozen?,hr4]
           have f0:=fs 0
           have f1:=fs 1
           have f2:=fs 2
           have f3:=fs 3
           have f4:=fs 4
           have n8 : w.heap.size ≠ w.heap.size + 1:=by omega
           have n9 : w.heap.size + 1 ≠ w.heap.size:=by omega)))
  all_goals
    refine hK1 _ _ ?_
    clear hK1
    have h5:=heap_set _ w.heap.size 4 (.int .i64 (t.pl : Int)) _ _ (heap_set _ w.heap.size 3 (.int .i64 z) _ _ (heap_set _ w.heap.size 2 (.int .i64 R) _ _ (heap_set _ w.heap.size 1 (.int .i64 me) _ _ (heap_set w4 w.heap.size 0 (.int .i64 1) _ _ hr4))))
    have hb5 : Below w.heap.size ((w.setCell ⟨B,6,none⟩ (tailV ib off _ _)).setCell ⟨B,7,none⟩ (.int .i64 ((t.pl + 1 : Nat) : Int))) w4:=(below_both (HBW2.out.trans (((Below.refl W2.heap.size W2).drew.trans hb3).mono (by have:=HS2.out;simp;omega))) ⟨B,7,none⟩ (.int .i64 ((t.pl + 1 : Nat) : Int))).trans (hb4.mono (by have:=HS2.out;simp;omega))
    have hb6:=((((hb5.setCell (p:=⟨w.heap.size,0,none⟩) (Nat.le_refl _) (.int .i64 1)).setCell (p:=⟨w.heap.size,1,none⟩) (Nat.le_refl _) (.int .i64 me)).setCell (p:=⟨w.heap.size,2,none⟩) (Nat.le_refl _) (.int .i64 R)).setCell (p:=⟨w.heap.size,3,none⟩) (Nat.le_refl _) (.int .i64 z)).setCell (p:=⟨w.heap.size,4,none⟩) (Nat.le_refl _) (.int .i64 (t.pl : Int))
    generalize (((((w4.setCell ⟨w.heap.size,0,none⟩ (.int .i64 1)).setCell ⟨w.heap.size,1,none⟩ (.int .i64 me)).setCell ⟨w.heap.size,2,none⟩ (.int .i64 R)).setCell ⟨w.heap.size,3,none⟩ (.int .i64 z)).setCell ⟨w.heap.size,4,none⟩ (.int .i64 (t.pl : Int))) = W6 at h5 hb6 ⊢
    have y0 : W6.cell? ⟨w.heap.size,0,none⟩ = some (.int .i64 1):=by simp [World.cell?,h5]
    have y1 : W6.cell? ⟨w.heap.size,1,none⟩ = some (.int .i64 me):=by simp [World.cell?,h5]
    have y2 : W6.cell? ⟨w.heap.size,2,none⟩ = some (.int .i64 R):=by simp [World.cell?,h5]
    have y3 : W6.cell? ⟨w.heap.size,3,none⟩ = some (.int .i64 z):=by simp [World.cell?,h5]
    have y4 : W6.cell? ⟨w.heap.size,4,none⟩ = some (.int .i64 (t.pl : Int)):=by simp [World.cell?,h5]
    clear s0 s1 s2 s3 s4 f0 f1 f2 f3 f4 fs h5 hb5 hkp hkp4 hr4
    go_wp2
    refine bodyPost_ret (v:=.agg #[.int .i64 1,.int .i64 me,.int .i64 R,.int .i64 z,.int .i64 (t.pl : Int)]) (by simp only [results,Tryz.f108,go_sem];simp [go_sem,y0,y1,y2,y3,y4]) rfl ⟨rfl,hb6⟩
end Go.Proofs.YtkmakliebhnhbaaGreat
namespace Go.Proofs.YtkmakliebhnhbaaGreat
open Go.RowKit Go.Shelf
set_option maxRecDepth 4000 in
set_option maxHeartbeats 4000000 in
theorem wdo_draw (wb o B ib off n cap cb : Nat) (t : Tk) (pv : Value) (i : Ins) (me : Int) (w : World) (hop : i.op = 2) (hb : TkB w B t pv (.slice (some ⟨ib,off,none⟩) (n + 1) cap)) (hnum : w.cell? ⟨wb,o,none⟩ = some (.int .i64 me)) (hh : w.cell? ⟨wb,o + 1,none⟩ = some (.pointer (some ⟨B,0,none⟩)))
    (hi : ∀ (j : Nat) (u : Value),(Ins.vals i)[j]? = some u → w.cell? ⟨ib,off + j,none⟩ = some u) (hne : B ≠ wb) (_hiB : ib ≠ B) (hnc : n + 1 ≤ cap) (hcap : cap ≤ 9223372036854775807) (hpl : t.pl ≤ 10000000000000) (h0 : 0 ≤ t.r) (h1 : t.r ≤ 1000) (hk0 : 0 < i.k) (hk1 : i.k < 9223372036854775808) :
    Calls Tryz.prog 108 #[.pointer (some ⟨wb,o,none⟩),.pointer (some ⟨cb,0,none⟩)] w fun e w'=>e = .returned (.agg #[.int .i64 1,.int .i64 me,.int .i64 i.r,.int .i64 (drawnZ t.h t.r i.k),.int .i64 (t.pl : Int)]) ∧
      Below w.heap.size (((w.setCell ⟨B,6,none⟩ (tailV ib off n cap)).setCell ⟨B,3,none⟩ (.int .u64 (t.r + 1))).setCell ⟨B,7,none⟩ (.int .i64 ((t.pl + 1 : Nat) : Int))) w':=by
  obtain ⟨op,F,R,K,L⟩:=i
  dsimp only at hop
  subst hop
  have i0:=hi 0 _ rfl
  have i1:=hi 1 _ rfl
  have i2:=hi 2 _ rfl
  have i3:=hi 3 _ rfl
  have i4:=hi 4 _ rfl
  dsimp only at i0 i1 i2 i3 i4
  rw [Nat.add_zero] at i0
  have c6:=hb.c6
  have f6:=hb.fz 6
  have hlt:=hb.lt
  have hwlt:=block_lt_of_cell hh
  have hilt:=block_lt_of_cell i0
  simp only at hwlt hilt
  dsimp only at hk0 hk1 ⊢
  obtain ⟨z,hz⟩ : ∃ z,drawnZ t.h t.r K = z:=⟨_,rfl⟩
  rw [hz]
  have HZ:=hide hz
  have hn1 : (1 : Int) ≤ (n : Int) + 1:=by omega
  have hn2 : (0 : Int) < (n : Int) + 1:=by omega
  have hn3 : (n : Int) + 1 ≤ cap:=by omega
  have hn4 : (cap : Int) ≤ 9223372036854775807:=by omega
  have HB:=hide hb
  have HNUM:=hide hnum
  clear hb hi hz hnum
  go_enter Tryz.func108,Tryz.ntmps108
  go_wp2
  rename_i K0 hK0
  obtain ⟨W0,hW0⟩ : ∃ W0,w.alloc (.cells #[.int .i64 0,.int .i64 0,.int .i64 0,.int .i64 0,.int .i64 0] 140) = W0:=⟨_,rfl⟩
  have hb0 : Below w.heap.size w W0:=by rw [← hW0];exact (Below.refl _ w).alloc (Nat.le_refl _) _
  have hs0 : W0.heap.size = w.heap.size + 1:=by rw [← hW0];simp
  have br : W0.heap[w.heap.size]? = some (.cells #[.int .i64 0,.int .i64 0,.int .i64 0,.int .i64 0,.int .i64 0] 140 (0,0)):=by rw [← hW0];exact World.alloc_heap_new w _
  replace i0:=(hb0.cell (p:=⟨ib,off,none⟩) hilt).trans i0
  replace i1:=(hb0.cell (p:=⟨ib,off + 1,none⟩) hilt).trans i1
  replace i2:=(hb0.cell (p:=⟨ib,off + 2,none⟩) hilt).trans i2
  replace i3:=(hb0.cell (p:=⟨ib,off + 3,none⟩) hilt).trans i3
  replace i4:=(hb0.cell (p:=⟨ib,off + 4,none⟩) hilt).trans i4
  replace c6:=(hb0.cell (p:=⟨B,6,none⟩) hlt).trans c6
  replace hh:=(hb0.cell (p:=⟨wb,o + 1,none⟩) hwlt).trans hh
  rw [hW0]
  have m0:=World.new_ne W0 _ i0
  have m1:=World.new_ne W0 _ i1
  have m2:=World.new_ne W0 _ i2
  have m3:=World.new_ne W0 _ i3
  have m4:=World.new_ne W0 _ i4
  have m6:=World.new_ne W0 _ c6
  have m7:=World.new_ne W0 _ hh
  clear hW0
  go_region_held3 (fun w'=>w'.cell? ⟨wb,o + 1,none⟩ = some (.pointer (some ⟨B,0,none⟩)) ∧ w'.cell? ⟨B,6,none⟩ = some (.slice (some ⟨ib,off,none⟩) (n + 1) cap) ∧ w'.cell? ⟨ib,off,none⟩ = some (.int .i64 2) ∧ w'.cell? ⟨ib,off + 1,none⟩ = some (.int .i64 F) ∧ w'.cell? ⟨ib,off + 2,none⟩ = some (.int .i64 R) ∧ w'.cell? ⟨ib,off + 3,none⟩ = some (.int .i64 K) ∧ w'.cell? ⟨ib,off + 4,none⟩ = some (.int .i64 L)) (go_keep)
    ((fail))
  obtain ⟨W1,hW1⟩ : ∃ W1,(W0.alloc (.cells #[.int .i64 2,.int .i64 F,.int .i64 R,.int .i64 K,.int .i64 L] 45)).drew = W1:=⟨_,rfl⟩
  have hb1 : Below W0.heap.size W0 W1:=by rw [← hW1];exact ((Below.refl _ W0).alloc (Nat.le_refl _) _).drew
  have hs1 : W1.heap.size = w.heap.size + 2:=by rw [← hW1];simp [hs0]
  have bi : Box5 W1 (w.heap.size + 1) ⟨2,F,R,K,L⟩:=by rw [← hW1,← hs0];exact Box5.new W0 ⟨2,F,R,K,L⟩
  have hbw : Below w.heap.size w W1:=hb0.trans (hb1.mono (by omega))
  have tb : TkB W1 B t pv (.slice (some ⟨ib,off,none⟩) (n + 1) cap):=HB.out.bel hbw hlt
  have br1 : W1.heap[w.heap.size]? = some (.cells #[.int .i64 0,.int .i64 0,.int .i64 0,.int .i64 0,.int .i64 0] 140 (0,0)):=(hb1.block _ (by omega)).trans br
  rw [hW1]
  have hn5 : W1.cell? ⟨wb,o,none⟩ = some (.int .i64 me):=(hbw.cell (p:=⟨wb,o,none⟩) hwlt).trans HNUM.out
  have hh1 : W1.cell? ⟨wb,o + 1,none⟩ = some (.pointer (some ⟨B,0,none⟩)):=(hb1.cell (p:=⟨wb,o + 1,none⟩) (by simp;omega)).trans hh
  clear hW1 i0 i1 i2 i3 i4 c6 hh m0 m1 m2 m3 m4 m6 m7 f6 br hb1 hb0 hs0
  have g0:=bi.c0
  have g1:=bi.c1
  have g2:=bi.c2
  have g3:=bi.c3
  have g4:=bi.c4
  have c6:=tb.c6
  have f6:=tb.fz 6
  dsimp only at g0 g1 g2 g3 g4
  have HBW:=hide hbw
  have HTB:=hide tb
  have HBR:=hide br1
  have HBI:=hide bi
  have HN5:=hide hn5
  have HH1:=hide hh1
  have l1 : w.heap.size < W1.heap.size:=by omega
  have l2 : w.heap.size + 1 < W1.heap.size:=by omega
  have n1 : B ≠ w.heap.size + 1:=by omega
  have n2 : w.heap.size + 1 ≠ B:=by omega
  clear hbw tb br1 bi hn5 hh1
  refine hK0 _ _ ?_
  clear hK0
  obtain ⟨W2,hW2⟩ : ∃ W2,W1.setCell ⟨B,6,none⟩ (tailV ib off n cap) = W2:=⟨_,rfl⟩
  have tb2 : TkB W2 B { t with rem:=[] } pv (tailV ib off n cap):=by rw [← hW2];exact HTB.out.set6 _ []
  have hk2 : ∀ b,b ≠ B → W2.heap[b]? = W1.heap[b]?:=fun b hb=>by rw [← hW2];exact Below.heap_setCell _ _ _ _ hb
  have bw2 : Below w.heap.size (w.setCell ⟨B,6,none⟩ (tailV ib off n cap)) W2:=by rw [← hW2];exact below_both HBW.out _ _
  have hs2 : W2.heap.size = w.heap.size + 2:=by rw [← hW2];simp [World.setCell,hs1]
  have hbi : W2.heap[w.heap.size + 1]? = W1.heap[w.heap.size + 1]?:=hk2 _ n2
  have e0:=(World.cell?_of_block (w:=W1) (a:=⟨w.heap.size + 1,0,none⟩) hbi).trans g0
  have e1:=(World.cell?_of_block (w:=W1) (a:=⟨w.heap.size + 1,1,none⟩) hbi).trans g1
  have e2:=(World.cell?_of_block (w:=W1) (a:=⟨w.heap.size + 1,2,none⟩) hbi).trans g2
  have e3:=(World.cell?_of_block (w:=W1) (a:=⟨w.heap.size + 1,3,none⟩) hbi).trans g3
  have e4:=(World.cell?_of_block (w:=W1) (a:=⟨w.heap.size + 1,4,none⟩) hbi).trans g4
  have HTB2:=hide tb2
  have HK2:=hide hk2
  have HBW2:=hide bw2
  have HS2:=hide hs2
  have HW2 : Hid (∀ v,v = tailV ib off n cap → W1.setCell ⟨B,6,none⟩ v = W2):=fun v hv=>by rw [hv];exact hW2
  clear tb2 hk2 bw2 hs2 hbi hW2
  by_cases hc1 : cap = 1
  case' pos =>
    have hn0 : n = 0:=by omega
    subst hn0 hc1
    go_wp2
    rw [HW2.out (.slice (some ⟨ib,off,none⟩) 0 0) rfl]
  case' neg =>
    go_wp2
    rw [HW2.out (.slice (some ⟨ib,off + 5,none⟩) n (cap - 1)) (by unfold tailV;rw [if_neg hc1])]
  all_goals
    rename_i K1 hK1
    have HNB : Hid (Calls Tryz.prog 121 #[.pointer (some ⟨B,0,none⟩),.int .i64 K] W2.drew fun e w'=>e = .returned (.int .i64 z) ∧ ∃ n,w' = (W2.drew.drewN n).setCell ⟨B,3,none⟩ (.int .u64 (t.r + 1))):=by
      have:=draw_at K B t.h t.r W2.drew HTB2.out.c2 HTB2.out.c3 (HTB2.out.fz 3) h0 h1 hk0 hk1
      rw [HZ.out] at this
      exact this
    have hs2:=HS2.out
    have HGV : Hid (∀ nn w3,w3 = (W2.drew.drewN nn).setCell ⟨B,3,none⟩ (.int .u64 (t.r + 1)) → Calls Tryz.prog 125 #[.pointer (some ⟨wb,o,none⟩),.int .i64 R,.int .i64 z] w3 fun e w'=>e = .returned (.agg #[.int .i64 1,.int .i64 me,.int .i64 R,.int .i64 z,.int .i64 (t.pl : Int)]) ∧ Below w3.heap.size (w3.setCell ⟨B,7,none⟩ (.int .i64 ((t.pl + 1 : Nat) : Int))) w'):=fun nn w3 hb3=>by
      have hwb : w3.heap[wb]? = W1.heap[wb]?:=by rw [hb3];exact (Below.heap_setCell _ _ _ _ (Ne.symm hne)).trans (HK2.out wb (Ne.symm hne))
      have htb3:=TkB.set3 (W:=W2.drew.drewN nn) HTB2.out (t.r + 1)
      rw [← hb3] at htb3
      exact wgive_calls B wb o { t with rem:=[],r:=t.r + 1 } pv _ me R z w3 htb3 ((World.cell?_of_block (w:=W1) (a:=⟨wb,o,none⟩) hwb).trans HN5.out) ((World.cell?_of_block (w:=W1) (a:=⟨wb,o + 1,none⟩) hwb).trans HH1.out) hne hpl
    have hbr : W2.heap[w.heap.size]? = some (.cells #[.int .i64 0,.int .i64 0,.int .i64 0,.int .i64 0,.int .i64 0] 140 (0,0)):=(HK2.out _ (by omega)).trans HBR.out
    have HR2:=hide hbr
    have l3 : w.heap.size < W2.heap.size:=by omega
    have l4 : w.heap.size + 1 < W2.heap.size:=by omega
    clear hbr hs2 g0 g1 g2 g3 g4 c6 f6
    go_region_held3 (fun w'=>w'.cell? ⟨w.heap.size + 1,0,none⟩ = some (.int .i64 2) ∧ w'.cell? ⟨w.heap.size + 1,1,none⟩ = some (.int .i64 F) ∧ w'.cell? ⟨w.heap.size + 1,2,none⟩ = some (.int .i64 R) ∧ w'.cell? ⟨w.heap.size + 1,3,none⟩ = some (.int .i64 K) ∧ w'.cell? ⟨w.heap.size + 1,4,none⟩ = some (.int .i64 L)) (go_keep)
      ((first
        | (go_at_call 121;refine HNB.out.mono ?_;rintro e w3 ⟨rfl,nn,hb3⟩
           have hs3 : W2.heap.size = w3.heap.size:=by rw [hb3];simp [World.setCell]
           have hkb : w3.heap[w.heap.size + 1]? = W2.heap[w.heap.size + 1]?:=by rw [hb3];exact Below.heap_setCell _ _ _ _ n2
           have HB3:=hide hb3
           clear hb3
           have hkp : ∀ j,w3.cell? ⟨w.heap.size + 1,j,none⟩ = W2.cell? ⟨w.heap.size + 1,j,none⟩:=fun j=>World.cell?_of_block (w:=W2) (a:=⟨w.heap.size + 1,j,none⟩) hkb)
        | (go_at_call 125;refine (HGV.out nn w3 HB3.out).mono ?_;rintro e w4 ⟨rfl,hb4⟩
           have hs4 : w3.heap.size ≤ w4.heap.size:=by have:=hb4.size;simpa [World.setCell] using this
           have hkb4 : w4.heap[w.heap.size + 1]? = W2.heap[w.heap.size + 1]?:=((hb4.block _ (by omega)).trans (Below.heap_setCell _ _ _ _ n2)).trans hkb
           have hkp4 : ∀ j,w4.cell? ⟨w.heap.size + 1,j,none⟩ = W2.cell? ⟨w.heap.size + 1,j,none⟩:=fun j=>World.cell?_of_block (w:=W2) (a:=⟨w.heap.size + 1,j,none⟩) hkb4
           have hr4 : w4.heap[w.heap.size]? = some (.cells #[.int .i64 0,.int .i64 0,.int .i64 0,.int .i64 0,.int .i64 0] 140 (0,0)):=((hb4.block _ (by omega)).trans (Below.heap_setCell _ _ _ _ (show w.heap.size ≠ B by omega))).trans ((show w3.heap[w.heap.size]? = W2.heap[w.heap.size]? by rw [HB3.out];exact Below.heap_setCell _ _ _ _ (show w.heap.size ≠ B by omega)).trans HR2.out)
           have s0 : w4.cell? ⟨w.heap.size,0,none⟩ = some (.int .i64 0):=by simp [World.cell?,hr4]
           have s1 : w4.cell? ⟨w.heap.size,1,none⟩ = some (.int .i64 0):=by simp [World.cell?,hr4]
           have s2 : w4.cell? ⟨w.heap.size,2,none⟩ = some (.int .i64 0):=by simp [World.cell?,hr4]
           have s3 : w4.cell? ⟨w.heap.size,3,none⟩ = some (.int .i64 0):=by simp [World.cell?,hr4]
           have s4 : w4.cell? ⟨w.heap.size,4,none⟩ = some (.int .i64 0):=by simp [World.cell?,hr4]
           have fs : ∀ j,w4.frozen? ⟨w.heap.size,j,none⟩ = false:=fun j=>by simp [World.frozen?,hr4]
           have f0:=fs 0
           have f1:=fs 1
           have f2:=fs 2
           have f3:=fs 3
           have f4:=fs 4
           have n8 : w.heap.size ≠ w.heap.size + 1:=by omega
           have n9 : w.heap.size + 1 ≠ w.heap.size:=by omega)))
  all_goals
    refine hK1 _ _ ?_
    clear hK1
    have h5:=heap_set _ w.heap.size 4 (.int .i64 (t.pl : Int)) _ _ (heap_set _ w.heap.size 3 (.int .i64 z) _ _ (heap_set _ w.heap.size 2 (.int .i64 R) _ _ (heap_set _ w.heap.size 1 (.int .i64 me) _ _ (heap_set w4 w.heap.size 0 (.int .i64 1) _ _ hr4))))
    have hb5 : Below w.heap.size (((w.setCell ⟨B,6,none⟩ (tailV ib off _ _)).setCell ⟨B,3,none⟩ (.int .u64 (t.r + 1))).setCell ⟨B,7,none⟩ (.int .i64 ((t.pl + 1 : Nat) : Int))) w4:=(below_both (by rw [HB3.out];exact below_both (below_drewN HBW2.out.drew nn) ⟨B,3,none⟩ (.int .u64 (t.r + 1))) ⟨B,7,none⟩ (.int .i64 ((t.pl + 1 : Nat) : Int))).trans (hb4.mono (by have:=HS2.out;omega))
    have hb6:=((((hb5.setCell (p:=⟨w.heap.size,0,none⟩) (Nat.le_refl _) (.int .i64 1)).setCell (p:=⟨w.heap.size,1,none⟩) (Nat.le_refl _) (.int .i64 me)).setCell (p:=⟨w.heap.size,2,none⟩) (Nat.le_refl _) (.int .i64 R)).setCell (p:=⟨w.heap.size,3,none⟩) (Nat.le_refl _) (.int .i64 z)).setCell (p:=⟨w.heap.size,4,none⟩) (Nat.le_refl _) (.int .i64 (t.pl : Int))
    generalize (((((w4.setCell ⟨w.heap.size,0,none⟩ (.int .i64 1)).setCell ⟨w.heap.size,1,none⟩ (.int .i64 me)).setCell ⟨w.heap.size,2,none⟩ (.int .i64 R)).setCell ⟨w.heap.size,3,none⟩ (.int .i64 z)).setCell ⟨w.heap.size,4,none⟩ (.int .i64 (t.pl : Int))) = W6 at h5 hb6 ⊢
    have y0 : W6.cell? ⟨w.heap.size,0,none⟩ = some (.int .i64 1):=by simp [World.cell?,h5]
    have y1 : W6.cell? ⟨w.heap.size,1,none⟩ = some (.int .i64 me):=by simp [World.cell?,h5]
    have y2 : W6.cell? ⟨w.heap.size,2,none⟩ = some (.int .i64 R):=by simp [World.cell?,h5]
    have y3 : W6.cell? ⟨w.heap.size,3,none⟩ = some (.int .i64 z):=by simp [World.cell?,h5]
    have y4 : W6.cell? ⟨w.heap.size,4,none⟩ = some (.int .i64 (t.pl : Int)):=by simp [World.cell?,h5]
    clear s0 s1 s2 s3 s4 f0 f1 f2 f3 f4 fs h5 hb5 hkp hkp4 hr4
    go_wp2
    refine bodyPost_ret (v:=.agg #[.int .i64 1,.int .i64 me,.int .i64 R,.int .i64 z,.int .i64 (t.pl : Int)]) (by simp only [results,Tryz.f108,go_sem];simp [go_sem,y0,y1,y2,y3,y4]) rfl ⟨rfl,hb6⟩
end Go.Proofs.YtkmakliebhnhbaaGreat
