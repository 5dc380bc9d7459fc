import Derived.Test.YtkmakliebhnhbaaGreatCrN
namespace Go.Proofs.YtkmakliebhnhbaaGreat
open Go.RowKit Go.Shelf
set_option maxRecDepth 4000 in
set_option maxHeartbeats 4000000 in
theorem wdo_sync (wb o B ib off n cap cb : Nat) (t : Tk) (pv : Value) (i : Ins) (me : Int) (w : World) (hop : i.op = 5) (hb : TkB w B t pv (.slice (some ⟨ib,off,none⟩) (n + 1) cap)) (hnum : w.cell? ⟨wb,o,none⟩ = some (.int .i64 me)) (hh : w.cell? ⟨wb,o + 1,none⟩ = some (.pointer (some ⟨B,0,none⟩)))
    (hi : ∀ (j : Nat) (u : Value),(Ins.vals i)[j]? = some u → w.cell? ⟨ib,off + j,none⟩ = some u) (_hne : B ≠ wb) (_hiB : ib ≠ B) (hnc : n + 1 ≤ cap) (hcap : cap ≤ 9223372036854775807) (_hpl : t.pl ≤ 10000000000000) (h0 : 0 ≤ t.r) (h1 : t.r ≤ 1000) :
    Calls Tryz.prog 108 #[.pointer (some ⟨wb,o,none⟩),.pointer (some ⟨cb,0,none⟩)] w fun e w'=>e = .returned (stepV 0) ∧
      Below w.heap.size ((w.setCell ⟨B,6,none⟩ (tailV ib off n cap)).setCell ⟨B,3,none⟩ (.int .u64 (t.r + 1))) w':=by
  obtain ⟨op,F,R,K,L⟩:=i
  dsimp only at hop
  subst hop
  have i0:=hi 0 _ rfl
  have i1:=hi 1 _ rfl
  have i2:=hi 2 _ rfl
  have i3:=hi 3 _ rfl
  have i4:=hi 4 _ rfl
  dsimp only at i0 i1 i2 i3 i4
  rw [Nat.add_zero] at i0
  have c6:=hb.c6
  have f6:=hb.fz 6
  have hlt:=hb.lt
  have hwlt:=block_lt_of_cell hh
  have hilt:=block_lt_of_cell i0
  simp only at hwlt hilt
  have hn1 : (1 : Int) ≤ (n : Int) + 1:=by omega
  have hn2 : (0 : Int) < (n : Int) + 1:=by omega
  have hn3 : (n : Int) + 1 ≤ cap:=by omega
  have hn4 : (cap : Int) ≤ 9223372036854775807:=by omega
  have HB:=hide hb
  have HNUM:=hide hnum
  clear hb hi hnum
  go_enter Tryz.func108,Tryz.ntmps108
  go_wp2
  rename_i K0 hK0
  obtain ⟨W0,hW0⟩ : ∃ W0,w.alloc (.cells #[.int .i64 0,.int .i64 0,.int .i64 0,.int .i64 0,.int .i64 0] 140) = W0:=⟨_,rfl⟩
  have hb0 : Below w.heap.size w W0:=by rw [← hW0];exact (Below.refl _ w).alloc (Nat.le_refl _) _
  have hs0 : W0.heap.size = w.heap.size + 1:=by rw [← hW0];simp
  have br : W0.heap[w.heap.size]? = some (.cells #[.int .i64 0,.int .i64 0,.int .i64 0,.int .i64 0,.int .i64 0] 140 (0,0)):=by rw [← hW0];exact World.alloc_heap_new w _
  replace i0:=(hb0.cell (p:=⟨ib,off,none⟩) hilt).trans i0
  replace i1:=(hb0.cell (p:=⟨ib,off + 1,none⟩) hilt).trans i1
  replace i2:=(hb0.cell (p:=⟨ib,off + 2,none⟩) hilt).trans i2
  replace i3:=(hb0.cell (p:=⟨ib,off + 3,none⟩) hilt).trans i3
  replace i4:=(hb0.cell (p:=⟨ib,off + 4,none⟩) hilt).trans i4
  replace c6:=(hb0.cell (p:=⟨B,6,none⟩) hlt).trans c6
  replace hh:=(hb0.cell (p:=⟨wb,o + 1,none⟩) hwlt).trans hh
  rw [hW0]
  have m0:=World.new_ne W0 _ i0
  have m1:=World.new_ne W0 _ i1
  have m2:=World.new_ne W0 _ i2
  have m3:=World.new_ne W0 _ i3
  have m4:=World.new_ne W0 _ i4
  have m6:=World.new_ne W0 _ c6
  have m7:=World.new_ne W0 _ hh
  clear hW0
  go_region_held3 (fun w'=>w'.cell? ⟨wb,o + 1,none⟩ = some (.pointer (some ⟨B,0,none⟩)) ∧ w'.cell? ⟨B,6,none⟩ = some (.slice (some ⟨ib,off,none⟩) (n + 1) cap) ∧ w'.cell? ⟨ib,off,none⟩ = some (.int .i64 5) ∧ w'.cell? ⟨ib,off + 1,none⟩ = some (.int .i64 F) ∧ w'.cell? ⟨ib,off + 2,none⟩ = some (.int .i64 R) ∧ w'.cell? ⟨ib,off + 3,none⟩ = some (.int .i64 K) ∧ w'.cell? ⟨ib,off + 4,none⟩ = some (.int .i64 L)) (go_keep)
    ((fail))
  obtain ⟨W1,hW1⟩ : ∃ W1,(W0.alloc (.cells #[.int .i64 5,.int .i64 F,.int .i64 R,.int .i64 K,.int .i64 L] 45)).drew = W1:=⟨_,rfl⟩
  have hb1 : Below W0.heap.size W0 W1:=by rw [← hW1];exact ((Below.refl _ W0).alloc (Nat.le_refl _) _).drew
  have hs1 : W1.heap.size = w.heap.size + 2:=by rw [← hW1];simp [hs0]
  have bi : Box5 W1 (w.heap.size + 1) ⟨5,F,R,K,L⟩:=by rw [← hW1,← hs0];exact Box5.new W0 ⟨5,F,R,K,L⟩
  have hbw : Below w.heap.size w W1:=hb0.trans (hb1.mono (by omega))
  have tb : TkB W1 B t pv (.slice (some ⟨ib,off,none⟩) (n + 1) cap):=HB.out.bel hbw hlt
  have br1 : W1.heap[w.heap.size]? = some (.cells #[.int .i64 0,.int .i64 0,.int .i64 0,.int .i64 0,.int .i64 0] 140 (0,0)):=(hb1.block _ (by omega)).trans br
  rw [hW1]
  have hn5 : W1.cell? ⟨wb,o,none⟩ = some (.int .i64 me):=(hbw.cell (p:=⟨wb,o,none⟩) hwlt).trans HNUM.out
  have hh1 : W1.cell? ⟨wb,o + 1,none⟩ = some (.pointer (some ⟨B,0,none⟩)):=(hb1.cell (p:=⟨wb,o + 1,none⟩) (by simp;omega)).trans hh
  clear hW1 i0 i1 i2 i3 i4 c6 hh m0 m1 m2 m3 m4 m6 m7 f6 br hb1 hb0 hs0
  have g0:=bi.c0
  have g1:=bi.c1
  have g2:=bi.c2
  have g3:=bi.c3
  have g4:=bi.c4
  have c6:=tb.c6
  have f6:=tb.fz 6
  dsimp only at g0 g1 g2 g3 g4
  have HBW:=hide hbw
  have HTB:=hide tb
  have HBR:=hide br1
  have HBI:=hide bi
  have HN5:=hide hn5
  have HH1:=hide hh1
  have l1 : w.heap.size < W1.heap.size:=by omega
  have l2 : w.heap.size + 1 < W1.heap.size:=by omega
  have n1 : B ≠ w.heap.size + 1:=by omega
  have n2 : w.heap.size + 1 ≠ B:=by omega
  clear hbw tb br1 bi hn5 hh1
  refine hK0 _ _ ?_
  clear hK0
  obtain ⟨W2,hW2⟩ : ∃ W2,W1.setCell ⟨B,6,none⟩ (tailV ib off n cap) = W2:=⟨_,rfl⟩
  have tb2 : TkB W2 B { t with rem:=[] } pv (tailV ib off n cap):=by rw [← hW2];exact HTB.out.set6 _ []
  have hk2 : ∀ b,b ≠ B → W2.heap[b]? = W1.heap[b]?:=fun b hb=>by rw [← hW2];exact Below.heap_setCell _ _ _ _ hb
  have bw2 : Below w.heap.size (w.setCell ⟨B,6,none⟩ (tailV ib off n cap)) W2:=by rw [← hW2];exact below_both HBW.out _ _
  have hs2 : W2.heap.size = w.heap.size + 2:=by rw [← hW2];simp [World.setCell,hs1]
  have hbi : W2.heap[w.heap.size + 1]? = W1.heap[w.heap.size + 1]?:=hk2 _ n2
  have e0:=(World.cell?_of_block (w:=W1) (a:=⟨w.heap.size + 1,0,none⟩) hbi).trans g0
  have e1:=(World.cell?_of_block (w:=W1) (a:=⟨w.heap.size + 1,1,none⟩) hbi).trans g1
  have e2:=(World.cell?_of_block (w:=W1) (a:=⟨w.heap.size + 1,2,none⟩) hbi).trans g2
  have e3:=(World.cell?_of_block (w:=W1) (a:=⟨w.heap.size + 1,3,none⟩) hbi).trans g3
  have e4:=(World.cell?_of_block (w:=W1) (a:=⟨w.heap.size + 1,4,none⟩) hbi).trans g4
  have HTB2:=hide tb2
  have HK2:=hide hk2
  have HBW2:=hide bw2
  have HS2:=hide hs2
  have HW2 : Hid (∀ v,v = tailV ib off n cap → W1.setCell ⟨B,6,none⟩ v = W2):=fun v hv=>by rw [hv];exact hW2
  clear tb2 hk2 bw2 hs2 hbi hW2
  have HSY : Hid (Calls Tryz.prog 123 #[.pointer (some ⟨B,0,none⟩)] W2 fun e w'=>(∃ v,e = .returned v) ∧ w' = W2.setCell ⟨B,3,none⟩ (.int .u64 (t.r + 1))):=sync_at B t.r W2 HTB2.out.c3 (HTB2.out.fz 3) h0 h1
  have hbr : W2.heap[w.heap.size]? = some (.cells #[.int .i64 0,.int .i64 0,.int .i64 0,.int .i64 0,.int .i64 0] 140 (0,0)):=(HK2.out _ (by omega)).trans HBR.out
  have hb3 : Below w.heap.size ((w.setCell ⟨B,6,none⟩ (tailV ib off n cap)).setCell ⟨B,3,none⟩ (.int .u64 (t.r + 1))) (W2.setCell ⟨B,3,none⟩ (.int .u64 (t.r + 1))):=below_both HBW2.out _ _
  have hr4 : (W2.setCell ⟨B,3,none⟩ (.int .u64 (t.r + 1))).heap[w.heap.size]? = some (.cells #[.int .i64 0,.int .i64 0,.int .i64 0,.int .i64 0,.int .i64 0] 140 (0,0)):=(Below.heap_setCell _ _ _ _ (show w.heap.size ≠ B by omega)).trans hbr
  have HB3:=hide hb3
  have HR4:=hide hr4
  clear hb3 hr4 hbr
  have n8 : w.heap.size ≠ w.heap.size + 1:=by omega
  have n9 : w.heap.size + 1 ≠ w.heap.size:=by omega
  have FIN : Hid (∀ w4 : World,w4.heap[w.heap.size]? = some (.cells #[.int .i64 0,.int .i64 0,.int .i64 0,.int .i64 0,.int .i64 0] 140 (0,0)) → ∀ j v,((#[.int .i64 0,.int .i64 0,.int .i64 0,.int .i64 0,.int .i64 0] : Array Value))[j]? = some v → w4.cell? ⟨w.heap.size,j,none⟩ = some v ∧ w4.frozen? ⟨w.heap.size,j,none⟩ = false):=fun w4 h4 j v hv=>⟨by simp only [World.cell?,h4];exact hv,by simp [World.frozen?,h4]⟩
  by_cases hc1 : cap = 1
  case' pos =>
    have hn0 : n = 0:=by omega
    subst hn0 hc1
    go_wp2_with (go_at_call 123
                 rw [HW2.out (.slice (some ⟨ib,off,none⟩) 0 0) rfl]
                 refine HSY.out.mono ?_
                 rintro e w4 ⟨⟨v,rfl⟩,hw4⟩
                 have hr5:=HR4.out
                 rw [← hw4] at hr5
                 have HW4:=hide hw4
                 clear hw4
                 obtain ⟨s0,f0⟩:=FIN.out w4 hr5 0 _ rfl
                 obtain ⟨s1,f1⟩:=FIN.out w4 hr5 1 _ rfl
                 obtain ⟨s2,f2⟩:=FIN.out w4 hr5 2 _ rfl
                 obtain ⟨s3,f3⟩:=FIN.out w4 hr5 3 _ rfl
                 obtain ⟨s4,f4⟩:=FIN.out w4 hr5 4 _ rfl
                 clear g0 g1 g2 g3 g4 e0 e1 e2 e3 e4 c6 f6)
  case' neg =>
    go_wp2_with (go_at_call 123
                 rw [HW2.out (.slice (some ⟨ib,off + 5,none⟩) n (cap - 1)) (by unfold tailV;rw [if_neg hc1])]
                 refine HSY.out.mono ?_
                 rintro e w4 ⟨⟨v,rfl⟩,hw4⟩
                 have hr5:=HR4.out
                 rw [← hw4] at hr5
                 have HW4:=hide hw4
                 clear hw4
                 obtain ⟨s0,f0⟩:=FIN.out w4 hr5 0 _ rfl
                 obtain ⟨s1,f1⟩:=FIN.out w4 hr5 1 _ rfl
                 obtain ⟨s2,f2⟩:=FIN.out w4 hr5 2 _ rfl
                 obtain ⟨s3,f3⟩:=FIN.out w4 hr5 3 _ rfl
                 obtain ⟨s4,f4⟩:=FIN.out w4 hr5 4 _ rfl
                 clear g0 g1 g2 g3 g4 e0 e1 e2 e3 e4 c6 f6)
  all_goals
    have h5:=heap_set _ w.heap.size 4 (.int .i64 0) _ _ (heap_set _ w.heap.size 3 (.int .i64 0) _ _ (heap_set _ w.heap.size 2 (.int .i64 0) _ _ (heap_set _ w.heap.size 1 (.int .i64 0) _ _ (heap_set w4 w.heap.size 0 (.int .i64 0) _ _ hr5))))
    have hb5:=HB3.out
    rw [← HW4.out] at hb5
    have hb6:=((((hb5.setCell (p:=⟨w.heap.size,0,none⟩) (Nat.le_refl _) (.int .i64 0)).setCell (p:=⟨w.heap.size,1,none⟩) (Nat.le_refl _) (.int .i64 0)).setCell (p:=⟨w.heap.size,2,none⟩) (Nat.le_refl _) (.int .i64 0)).setCell (p:=⟨w.heap.size,3,none⟩) (Nat.le_refl _) (.int .i64 0)).setCell (p:=⟨w.heap.size,4,none⟩) (Nat.le_refl _) (.int .i64 0)
    generalize (((((w4.setCell ⟨w.heap.size,0,none⟩ (.int .i64 0)).setCell ⟨w.heap.size,1,none⟩ (.int .i64 0)).setCell ⟨w.heap.size,2,none⟩ (.int .i64 0)).setCell ⟨w.heap.size,3,none⟩ (.int .i64 0)).setCell ⟨w.heap.size,4,none⟩ (.int .i64 0)) = W6 at h5 hb6 ⊢
    have y0 : W6.cell? ⟨w.heap.size,0,none⟩ = some (.int .i64 0):=by simp [World.cell?,h5]
    have y1 : W6.cell? ⟨w.heap.size,1,none⟩ = some (.int .i64 0):=by simp [World.cell?,h5]
    have y2 : W6.cell? ⟨w.heap.size,2,none⟩ = some (.int .i64 0):=by simp [World.cell?,h5]
    have y3 : W6.cell? ⟨w.heap.size,3,none⟩ = some (.int .i64 0):=by simp [World.cell?,h5]
    have y4 : W6.cell? ⟨w.heap.size,4,none⟩ = some (.int .i64 0):=by simp [World.cell?,h5]
    refine bodyPost_ret (v:=stepV 0) (by simp only [results,Tryz.f108,go_sem,stepV];simp [go_sem,y0,y1,y2,y3,y4]) rfl ⟨rfl,hb6⟩
end Go.Proofs.YtkmakliebhnhbaaGreat
namespace Go.Proofs.YtkmakliebhnhbaaGreat
open Go.RowKit Go.Shelf
set_option maxRecDepth 4000 in
set_option maxHeartbeats 4000000 in
theorem wdo_call (wb o B ib off n cap cb : Nat) (t : Tk) (pv : Value) (i : Ins) (me : Int) (w : World) (hop : i.op = 4) (hb : TkB w B t pv (.slice (some ⟨ib,off,none⟩) (n + 1) cap)) (hnum : w.cell? ⟨wb,o,none⟩ = some (.int .i64 me)) (hh : w.cell? ⟨wb,o + 1,none⟩ = some (.pointer (some ⟨B,0,none⟩)))
    (hi : ∀ (j : Nat) (u : Value),(Ins.vals i)[j]? = some u → w.cell? ⟨ib,off + j,none⟩ = some u) (hne : B ≠ wb) (_hiB : ib ≠ B) (hnc : n + 1 ≤ cap) (hcap : cap ≤ 9223372036854775807) (hpl : t.pl ≤ 10000000000000) {fs : List (List Ins)} {reds : List Int} {n₀ : Nat} {l : List Ins} (m : Nat) (hm : i.f = m) (hl : fs[m]? = some l) (hl10 : l.length ≤ 2000000) (hC : CodeP (Lt n₀) w cb fs reds) (hnB : n₀ ≤ B) (hg : gift fs m ≤ 100000000) (h0 : 0 ≤ t.r) (h1 : t.r ≤ 1000) (hwt : ∃ cs,w.heap[wb]? = some (.cells cs 183 (0,0))) :
    Calls Tryz.prog 108 #[.pointer (some ⟨wb,o,none⟩),.pointer (some ⟨cb,0,none⟩)] w fun e w'=>∃ Q av',e = .returned (stepV 0) ∧ w.heap.size ≤ Q ∧ TkB w' Q ⟨m,numZ i t.x,stepZ t.h t.r,0,l,t.pl,0,false,0,.call⟩ (.pointer (some ⟨B,0,none⟩)) av' ∧ RdL (InsAt w') w' 5 Ins.vals av' l ∧
      Below w.heap.size ((((w.setCell ⟨B,6,none⟩ (tailV ib off n cap)).setCell ⟨B,3,none⟩ (.int .u64 (t.r + 1))).setCell ⟨B,7,none⟩ (.int .i64 ((t.pl + gift fs m : Nat) : Int))).setCell ⟨wb,o + 1,none⟩ (.pointer (some ⟨Q,0,none⟩))) w':=by
  obtain ⟨op,F,R,K,L⟩:=i
  dsimp only at hop
  subst hop
  have i0:=hi 0 _ rfl
  have i1:=hi 1 _ rfl
  have i2:=hi 2 _ rfl
  have i3:=hi 3 _ rfl
  have i4:=hi 4 _ rfl
  dsimp only at i0 i1 i2 i3 i4
  rw [Nat.add_zero] at i0
  have c6:=hb.c6
  have f6:=hb.fz 6
  have hlt:=hb.lt
  have hwlt:=block_lt_of_cell hh
  have hilt:=block_lt_of_cell i0
  simp only at hwlt hilt
  dsimp only at hm
  subst hm
  have HC:=hide hC
  have HL:=hide hl
  have HWT:=hide hwt
  have hn₀w : n₀ ≤ w.heap.size:=by omega
  clear hC hl hwt
  have hn1 : (1 : Int) ≤ (n : Int) + 1:=by omega
  have hn2 : (0 : Int) < (n : Int) + 1:=by omega
  have hn3 : (n : Int) + 1 ≤ cap:=by omega
  have hn4 : (cap : Int) ≤ 9223372036854775807:=by omega
  have HB:=hide hb
  have HNUM:=hide hnum
  clear hb hi hnum
  go_enter Tryz.func108,Tryz.ntmps108
  go_wp2
  rename_i K0 hK0
  obtain ⟨W0,hW0⟩ : ∃ W0,w.alloc (.cells #[.int .i64 0,.int .i64 0,.int .i64 0,.int .i64 0,.int .i64 0] 140) = W0:=⟨_,rfl⟩
  have hb0 : Below w.heap.size w W0:=by rw [← hW0];exact (Below.refl _ w).alloc (Nat.le_refl _) _
  have hs0 : W0.heap.size = w.heap.size + 1:=by rw [← hW0];simp
  have br : W0.heap[w.heap.size]? = some (.cells #[.int .i64 0,.int .i64 0,.int .i64 0,.int .i64 0,.int .i64 0] 140 (0,0)):=by rw [← hW0];exact World.alloc_heap_new w _
  replace i0:=(hb0.cell (p:=⟨ib,off,none⟩) hilt).trans i0
  replace i1:=(hb0.cell (p:=⟨ib,off + 1,none⟩) hilt).trans i1
  replace i2:=(hb0.cell (p:=⟨ib,off + 2,none⟩) hilt).trans i2
  replace i3:=(hb0.cell (p:=⟨ib,off + 3,none⟩) hilt).trans i3
  replace i4:=(hb0.cell (p:=⟨ib,off + 4,none⟩) hilt).trans i4
  replace c6:=(hb0.cell (p:=⟨B,6,none⟩) hlt).trans c6
  replace hh:=(hb0.cell (p:=⟨wb,o + 1,none⟩) hwlt).trans hh
  rw [hW0]
  have m0:=World.new_ne W0 _ i0
  have m1:=World.new_ne W0 _ i1
  have m2:=World.new_ne W0 _ i2
  have m3:=World.new_ne W0 _ i3
  have m4:=World.new_ne W0 _ i4
  have m6:=World.new_ne W0 _ c6
  have m7:=World.new_ne W0 _ hh
  clear hW0
  go_region_held3 (fun w'=>w'.cell? ⟨wb,o + 1,none⟩ = some (.pointer (some ⟨B,0,none⟩)) ∧ w'.cell? ⟨B,6,none⟩ = some (.slice (some ⟨ib,off,none⟩) (n + 1) cap) ∧ w'.cell? ⟨ib,off,none⟩ = some (.int .i64 4) ∧ w'.cell? ⟨ib,off + 1,none⟩ = some (.int .i64 (m : Int)) ∧ w'.cell? ⟨ib,off + 2,none⟩ = some (.int .i64 R) ∧ w'.cell? ⟨ib,off + 3,none⟩ = some (.int .i64 K) ∧ w'.cell? ⟨ib,off + 4,none⟩ = some (.int .i64 L)) (go_keep)
    ((fail))
  obtain ⟨W1,hW1⟩ : ∃ W1,(W0.alloc (.cells #[.int .i64 4,.int .i64 (m : Int),.int .i64 R,.int .i64 K,.int .i64 L] 45)).drew = W1:=⟨_,rfl⟩
  have hb1 : Below W0.heap.size W0 W1:=by rw [← hW1];exact ((Below.refl _ W0).alloc (Nat.le_refl _) _).drew
  have hs1 : W1.heap.size = w.heap.size + 2:=by rw [← hW1];simp [hs0]
  have bi : Box5 W1 (w.heap.size + 1) ⟨4,m,R,K,L⟩:=by rw [← hW1,← hs0];exact Box5.new W0 ⟨4,m,R,K,L⟩
  have hbw : Below w.heap.size w W1:=hb0.trans (hb1.mono (by omega))
  have tb : TkB W1 B t pv (.slice (some ⟨ib,off,none⟩) (n + 1) cap):=HB.out.bel hbw hlt
  have br1 : W1.heap[w.heap.size]? = some (.cells #[.int .i64 0,.int .i64 0,.int .i64 0,.int .i64 0,.int .i64 0] 140 (0,0)):=(hb1.block _ (by omega)).trans br
  rw [hW1]
  have hn5 : W1.cell? ⟨wb,o,none⟩ = some (.int .i64 me):=(hbw.cell (p:=⟨wb,o,none⟩) hwlt).trans HNUM.out
  have hh1 : W1.cell? ⟨wb,o + 1,none⟩ = some (.pointer (some ⟨B,0,none⟩)):=(hb1.cell (p:=⟨wb,o + 1,none⟩) (by simp;omega)).trans hh
  clear hW1 i0 i1 i2 i3 i4 c6 hh m0 m1 m2 m3 m4 m6 m7 f6 br hb1 hb0 hs0
  have g0:=bi.c0
  have g1:=bi.c1
  have g2:=bi.c2
  have g3:=bi.c3
  have g4:=bi.c4
  have c6:=tb.c6
  have f6:=tb.fz 6
  dsimp only at g0 g1 g2 g3 g4
  have HBW:=hide hbw
  have HTB:=hide tb
  have HBR:=hide br1
  have HBI:=hide bi
  have HN5:=hide hn5
  have HH1:=hide hh1
  have l1 : w.heap.size < W1.heap.size:=by omega
  have l2 : w.heap.size + 1 < W1.heap.size:=by omega
  have n1 : B ≠ w.heap.size + 1:=by omega
  have n2 : w.heap.size + 1 ≠ B:=by omega
  clear hbw tb br1 bi hn5 hh1
  refine hK0 _ _ ?_
  clear hK0
  obtain ⟨W2,hW2⟩ : ∃ W2,W1.setCell ⟨B,6,none⟩ (tailV ib off n cap) = W2:=⟨_,rfl⟩
  have tb2 : TkB W2 B { t with rem:=[] } pv (tailV ib off n cap):=by rw [← hW2];exact HTB.out.set6 _ []
  have hk2 : ∀ b,b ≠ B → W2.heap[b]? = W1.heap[b]?:=fun b hb=>by rw [← hW2];exact Below.heap_setCell _ _ _ _ hb
  have bw2 : Below w.heap.size (w.setCell ⟨B,6,none⟩ (tailV ib off n cap)) W2:=by rw [← hW2];exact below_both HBW.out _ _
  have hs2 : W2.heap.size = w.heap.size + 2:=by rw [← hW2];simp [World.setCell,hs1]
  have hbi : W2.heap[w.heap.size + 1]? = W1.heap[w.heap.size + 1]?:=hk2 _ n2
  have e0:=(World.cell?_of_block (w:=W1) (a:=⟨w.heap.size + 1,0,none⟩) hbi).trans g0
  have e1:=(World.cell?_of_block (w:=W1) (a:=⟨w.heap.size + 1,1,none⟩) hbi).trans g1
  have e2:=(World.cell?_of_block (w:=W1) (a:=⟨w.heap.size + 1,2,none⟩) hbi).trans g2
  have e3:=(World.cell?_of_block (w:=W1) (a:=⟨w.heap.size + 1,3,none⟩) hbi).trans g3
  have e4:=(World.cell?_of_block (w:=W1) (a:=⟨w.heap.size + 1,4,none⟩) hbi).trans g4
  have HTB2:=hide tb2
  have HK2:=hide hk2
  have HBW2:=hide bw2
  have HS2:=hide hs2
  have HW2 : Hid (∀ v,v = tailV ib off n cap → W1.setCell ⟨B,6,none⟩ v = W2):=fun v hv=>by rw [hv];exact hW2
  clear tb2 hk2 bw2 hs2 hbi hW2
  have hs2':=HS2.out
  have hne':=Ne.symm hne
  obtain ⟨wcs,hwcs⟩:=HWT.out
  have hw1 : W1.heap[wb]? = some (.cells wcs 183 (0,0)):=(HBW.out.block wb hwlt).trans hwcs
  have hC2 : CodeP (Lt n₀) W2 cb fs reds:=HC.out.turn (fun b hb hlt=>⟨hb,by
    have hbn : b < n₀:=hb
    exact (HK2.out b (by omega)).trans (HBW.out.block b (by omega))⟩)
  obtain ⟨z,hz⟩ : ∃ z,numZ ⟨4,m,R,K,L⟩ t.x = z:=⟨_,rfl⟩
  have HZ:=hide hz
  have HBE : Hid (Calls Tryz.prog 126 #[.pointer (some ⟨B,0,none⟩),.pointer (some ⟨cb,0,none⟩),.agg #[.int .i64 4,.int .i64 (m : Int),.int .i64 R,.int .i64 K,.int .i64 L],.int .i64 1] W2 fun e w'=>∃ Q av',e = .returned (.pointer (some ⟨Q,0,none⟩)) ∧ W2.heap.size ≤ Q ∧ TkB w' Q ⟨m,z,stepZ t.h t.r,0,l,t.pl,0,false,0,.call⟩ (.pointer (some ⟨B,0,none⟩)) av' ∧ RdL (InsAt w') w' 5 Ins.vals av' l ∧
      Below W2.heap.size ((W2.setCell ⟨B,3,none⟩ (.int .u64 (t.r + 1))).setCell ⟨B,7,none⟩ (.int .i64 ((t.pl + gift fs m : Nat) : Int))) w'):=by
    have:=tbegin_calls ⟨4,m,R,K,L⟩ m rfl HL.out hl10 .call B { t with rem:=[] } pv _ W2 HTB2.out hC2 (by omega) hnB h0 h1 hpl hg
    rw [← hz]
    exact this
  have hbr : W2.heap[w.heap.size]? = some (.cells #[.int .i64 0,.int .i64 0,.int .i64 0,.int .i64 0,.int .i64 0] 140 (0,0)):=(HK2.out _ (by omega)).trans HBR.out
  have HR2:=hide hbr
  have HW1:=hide hw1
  clear hbr hw1 hz hC2 hwcs
  have n8 : w.heap.size ≠ w.heap.size + 1:=by omega
  have n9 : w.heap.size + 1 ≠ w.heap.size:=by omega
  have n10 : wb ≠ w.heap.size:=by omega
  have n11 : w.heap.size ≠ wb:=by omega
  have FIN : Hid (∀ w4 : World,w4.heap[w.heap.size]? = some (.cells #[.int .i64 0,.int .i64 0,.int .i64 0,.int .i64 0,.int .i64 0] 140 (0,0)) → ∀ j v,((#[.int .i64 0,.int .i64 0,.int .i64 0,.int .i64 0,.int .i64 0] : Array Value))[j]? = some v → w4.cell? ⟨w.heap.size,j,none⟩ = some v ∧ w4.frozen? ⟨w.heap.size,j,none⟩ = false):=fun w4 h4 j v hv=>⟨by simp only [World.cell?,h4];exact hv,by simp [World.frozen?,h4]⟩
  have AFT : Hid (∀ w4 : World,Below W2.heap.size ((W2.setCell ⟨B,3,none⟩ (.int .u64 (t.r + 1))).setCell ⟨B,7,none⟩ (.int .i64 ((t.pl + gift fs m : Nat) : Int))) w4 → ∀ b,b ≠ B → b < W2.heap.size → w4.heap[b]? = W1.heap[b]?):=fun w4 h4 b hb hl=>((h4.block b hl).trans ((Below.heap_setCell _ _ _ _ hb).trans (Below.heap_setCell _ _ _ _ hb))).trans (HK2.out b hb)
  by_cases hc1 : cap = 1
  case' pos =>
    have hn0 : n = 0:=by omega
    subst hn0 hc1
    go_wp2_with (go_at_call 126
                 rw [HW2.out (.slice (some ⟨ib,off,none⟩) 0 0) rfl]
                 refine HBE.out.mono ?_
                 rintro e w4 ⟨Q,av',rfl,hQ,tq,hrq,hb4⟩
                 have hr5 : w4.heap[w.heap.size]? = _:=((hb4.block _ (by omega)).trans ((Below.heap_setCell _ _ _ _ (show w.heap.size ≠ B by omega)).trans (Below.heap_setCell _ _ _ _ (show w.heap.size ≠ B by omega)))).trans HR2.out
                 have hw5 : w4.heap[wb]? = W1.heap[wb]?:=AFT.out w4 hb4 wb hne' (by omega)
                 have hh5 : w4.cell? ⟨wb,o + 1,none⟩ = some (.pointer (some ⟨B,0,none⟩)):=(World.cell?_of_block (w:=W1) (a:=⟨wb,o + 1,none⟩) hw5).trans HH1.out
                 have hf5 : w4.frozen? ⟨wb,o + 1,none⟩ = false:=by simp only [World.frozen?,hw5,HW1.out];simp
                 obtain ⟨s0,f0⟩:=FIN.out w4 hr5 0 _ rfl
                 obtain ⟨s1,f1⟩:=FIN.out w4 hr5 1 _ rfl
                 obtain ⟨s2,f2⟩:=FIN.out w4 hr5 2 _ rfl
                 obtain ⟨s3,f3⟩:=FIN.out w4 hr5 3 _ rfl
                 obtain ⟨s4,f4⟩:=FIN.out w4 hr5 4 _ rfl
                 have HR5:=hide hr5
                 have HTQ:=hide tq
                 have HRQ:=hide hrq
                 have HB4:=hide hb4
                 clear g0 g1 g2 g3 g4 e0 e1 e2 e3 e4 c6 f6 hr5 hw5 tq hrq hb4)
  case' neg =>
    go_wp2_with (go_at_call 126
                 rw [HW2.out (.slice (some ⟨ib,off + 5,none⟩) n (cap - 1)) (by unfold tailV;rw [if_neg hc1])]
                 refine HBE.out.mono ?_
                 rintro e w4 ⟨Q,av',rfl,hQ,tq,hrq,hb4⟩
                 have hr5 : w4.heap[w.heap.size]? = _:=((hb4.block _ (by omega)).trans ((Below.heap_setCell _ _ _ _ (show w.heap.size ≠ B by omega)).trans (Below.heap_setCell _ _ _ _ (show w.heap.size ≠ B by omega)))).trans HR2.out
                 have hw5 : w4.heap[wb]? = W1.heap[wb]?:=AFT.out w4 hb4 wb hne' (by omega)
                 have hh5 : w4.cell? ⟨wb,o + 1,none⟩ = some (.pointer (some ⟨B,0,none⟩)):=(World.cell?_of_block (w:=W1) (a:=⟨wb,o + 1,none⟩) hw5).trans HH1.out
                 have hf5 : w4.frozen? ⟨wb,o + 1,none⟩ = false:=by simp only [World.frozen?,hw5,HW1.out];simp
                 obtain ⟨s0,f0⟩:=FIN.out w4 hr5 0 _ rfl
                 obtain ⟨s1,f1⟩:=FIN.out w4 hr5 1 _ rfl
                 obtain ⟨s2,f2⟩:=FIN.out w4 hr5 2 _ rfl
                 obtain ⟨s3,f3⟩:=FIN.out w4 hr5 3 _ rfl
                 obtain ⟨s4,f4⟩:=FIN.out w4 hr5 4 _ rfl
                 have HR5:=hide hr5
                 have HTQ:=hide tq
                 have HRQ:=hide hrq
                 have HB4:=hide hb4
                 clear g0 g1 g2 g3 g4 e0 e1 e2 e3 e4 c6 f6 hr5 hw5 tq hrq hb4)
  all_goals
    have hQs : w.heap.size + 2 ≤ Q:=by omega
    have nQ1 : Q ≠ wb:=by omega
    have nQ2 : Q ≠ w.heap.size:=by omega
    have hr6 : (w4.setCell ⟨wb,o + 1,none⟩ (.pointer (some ⟨Q,0,none⟩))).heap[w.heap.size]? = _:=(Below.heap_setCell _ _ _ _ n11).trans HR5.out
    have h5:=heap_set _ w.heap.size 4 (.int .i64 0) _ _ (heap_set _ w.heap.size 3 (.int .i64 0) _ _ (heap_set _ w.heap.size 2 (.int .i64 0) _ _ (heap_set _ w.heap.size 1 (.int .i64 0) _ _ (heap_set _ w.heap.size 0 (.int .i64 0) _ _ hr6))))
    have hb5 : Below w.heap.size ((((w.setCell ⟨B,6,none⟩ (tailV ib off _ _)).setCell ⟨B,3,none⟩ (.int .u64 (t.r + 1))).setCell ⟨B,7,none⟩ (.int .i64 ((t.pl + gift fs m : Nat) : Int))).setCell ⟨wb,o + 1,none⟩ (.pointer (some ⟨Q,0,none⟩))) (w4.setCell ⟨wb,o + 1,none⟩ (.pointer (some ⟨Q,0,none⟩))):=below_both ((below_both (below_both HBW2.out _ _) _ _).trans (HB4.out.mono (by omega))) _ _
    have hb6:=((((hb5.setCell (p:=⟨w.heap.size,0,none⟩) (Nat.le_refl _) (.int .i64 0)).setCell (p:=⟨w.heap.size,1,none⟩) (Nat.le_refl _) (.int .i64 0)).setCell (p:=⟨w.heap.size,2,none⟩) (Nat.le_refl _) (.int .i64 0)).setCell (p:=⟨w.heap.size,3,none⟩) (Nat.le_refl _) (.int .i64 0)).setCell (p:=⟨w.heap.size,4,none⟩) (Nat.le_refl _) (.int .i64 0)
    have hot : ∀ b,b ≠ wb → b ≠ w.heap.size → ((((((w4.setCell ⟨wb,o + 1,none⟩ (.pointer (some ⟨Q,0,none⟩))).setCell ⟨w.heap.size,0,none⟩ (.int .i64 0)).setCell ⟨w.heap.size,1,none⟩ (.int .i64 0)).setCell ⟨w.heap.size,2,none⟩ (.int .i64 0)).setCell ⟨w.heap.size,3,none⟩ (.int .i64 0)).setCell ⟨w.heap.size,4,none⟩ (.int .i64 0)).heap[b]? = w4.heap[b]?:=fun b q1 q2=>by
      rw [Below.heap_setCell _ _ _ _ q2,Below.heap_setCell _ _ _ _ q2,Below.heap_setCell _ _ _ _ q2,Below.heap_setCell _ _ _ _ q2,Below.heap_setCell _ _ _ _ q2,Below.heap_setCell _ _ _ _ q1]
    generalize ((((((w4.setCell ⟨wb,o + 1,none⟩ (.pointer (some ⟨Q,0,none⟩))).setCell ⟨w.heap.size,0,none⟩ (.int .i64 0)).setCell ⟨w.heap.size,1,none⟩ (.int .i64 0)).setCell ⟨w.heap.size,2,none⟩ (.int .i64 0)).setCell ⟨w.heap.size,3,none⟩ (.int .i64 0)).setCell ⟨w.heap.size,4,none⟩ (.int .i64 0)) = W6 at h5 hb6 hot ⊢
    have y0 : W6.cell? ⟨w.heap.size,0,none⟩ = some (.int .i64 0):=by simp [World.cell?,h5]
    have y1 : W6.cell? ⟨w.heap.size,1,none⟩ = some (.int .i64 0):=by simp [World.cell?,h5]
    have y2 : W6.cell? ⟨w.heap.size,2,none⟩ = some (.int .i64 0):=by simp [World.cell?,h5]
    have y3 : W6.cell? ⟨w.heap.size,3,none⟩ = some (.int .i64 0):=by simp [World.cell?,h5]
    have y4 : W6.cell? ⟨w.heap.size,4,none⟩ = some (.int .i64 0):=by simp [World.cell?,h5]
    refine bodyPost_ret (v:=stepV 0) (by simp only [results,Tryz.f108,go_sem,stepV];simp [go_sem,y0,y1,y2,y3,y4]) rfl ⟨Q,av',rfl,by omega,by rw [HZ.out];exact (hot Q nQ1 nQ2).trans HTQ.out,?_,hb6⟩
    refine HRQ.out.turn (fun b hb hlt=>?_) (fun x _=>List.cons_ne_nil _ _)
    obtain ⟨ob,ho1,ho2⟩:=hb
    have q1 : b ≠ wb:=fun e=>by
      subst e
      rw [AFT.out w4 HB4.out b hne' (by omega),HW1.out] at ho1
      cases ho1
      exact absurd (show (183 : Nat) = 45 from ho2) (by decide)
    have q2 : b ≠ w.heap.size:=fun e=>by
      subst e
      rw [HR5.out] at ho1
      cases ho1
      exact absurd (show (140 : Nat) = 45 from ho2) (by decide)
    exact ⟨⟨ob,(hot b q1 q2).trans ho1,ho2⟩,hot b q1 q2⟩
end Go.Proofs.YtkmakliebhnhbaaGreat
