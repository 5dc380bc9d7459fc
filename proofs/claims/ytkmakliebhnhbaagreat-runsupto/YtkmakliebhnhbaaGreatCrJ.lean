import Derived.Test.YtkmakliebhnhbaaGreatCrH
namespace Go.Proofs.YtkmakliebhnhbaaGreat
open Go.RowKit Go.Shelf
set_option maxHeartbeats 2000000 in
theorem newTask_calls {fs : List (List Ins)} {reds : List Int} {cb f n₀ : Nat} {l : List Ins} (x h : Int) (w : World) (hC : CodeP (Lt n₀) w cb fs reds) (hn : n₀ ≤ w.heap.size) (hl : fs[f]? = some l) (hl10 : l.length ≤ 2000000) :
    Calls Tryz.prog 59 #[.pointer (some ⟨cb,0,none⟩),.agg #[.int .i64 (f : Int),.int .i64 x,.int .u64 h,.int .u64 0]] w fun e w'=>∃ B av,e = .returned (.pointer (some ⟨B,0,none⟩)) ∧ w.heap.size ≤ B ∧ TkB w' B ⟨f,x,h,0,l,0,0,false,0,.root⟩ (.pointer none) av ∧ RdL (InsAt w') w' 5 Ins.vals av l ∧ Below w.heap.size w w':=by
  have HC:=hide hC
  have HL:=hide hl
  clear hC hl
  go_enter Tryz.func59,Tryz.ntmps59
  go_wp2
  obtain ⟨W0,hW0⟩ : ∃ W0,w.alloc (.cells #[.int .i64 (f : Int),.int .i64 x,.int .u64 h,.int .u64 0] 121) = W0:=⟨_,rfl⟩
  obtain ⟨Bf,hBf⟩ : ∃ Bf,w.heap.size = Bf:=⟨_,rfl⟩
  have hb0 : Below w.heap.size w W0:=by rw [← hW0];exact (Below.refl _ w).alloc (Nat.le_refl _) _
  have bf : FrB W0 Bf f x h 0:=by rw [← hW0,← hBf];exact World.alloc_heap_new w _
  have hsz : W0.heap.size = Bf + 1:=by rw [← hW0,← hBf];simp
  have hC0 : CodeP (Lt n₀) W0 cb fs reds:=HC.out.turn (fun b hb hlt=>⟨hb,hb0.block b hlt⟩)
  rw [hW0,hBf]
  have HB0:=hide hb0
  have HBF:=hide hBf
  have HSZ:=hide hsz
  have c0:=bf.c0
  have c1:=bf.c1
  have c2:=bf.c2
  have c3:=bf.c3
  have lF : Bf < W0.heap.size:=bf.lt
  have HBD : Hid (Calls Tryz.prog 76 #[.pointer (some ⟨cb,0,none⟩),.int .i64 (f : Int)] W0.drew fun e W'=>∃ a cap,e = .returned (.func (.func 119) #[] #[.pointer (some ⟨W0.heap.size,0,none⟩)]) ∧ W' = W0.drew.alloc (.cells #[.slice a l.length cap] 46) ∧ RdL (Lt n₀) W0.drew 5 Ins.vals (.slice a l.length cap) l):=body_calls W0.drew (hC0.turn (fun b hb hlt=>⟨hb,rfl⟩)) HL.out
  have HCO : Hid (∀ a cap,RdL (Lt n₀) W0.drew 5 Ins.vals (.slice a l.length cap) l → Calls Tryz.prog 75 #[.func (.func 119) #[] #[.pointer (some ⟨W0.heap.size,0,none⟩)]] (W0.drew.alloc (.cells #[.slice a l.length cap] 46)) fun e w'=>∃ v,e = .returned v ∧ w'.ownsRow (W0.heap.size + 1) 45 5 v l.length (flat Ins.vals l) ∧ Below (W0.heap.size + 1) (W0.drew.alloc (.cells #[.slice a l.length cap] 46)) w'):=fun a cap hr=>by
    have:=collect_calls l W0.heap.size n₀ (.slice a l.length cap) (W0.drew.alloc (.cells #[.slice a l.length cap] 46)) hl10 (by simp) (by simp;omega) (Boxed.new W0.drew _ _).cell (hr.turn (fun b hb hlt=>⟨hb,Below.heap_alloc _ _ _ hlt⟩) (fun x _=>List.cons_ne_nil _ _))
    simp only [World.size_alloc] at this
    exact this
  clear hW0 hb0 hBf hsz hC0 bf
  go_region_held3 (fun w'=>w'.cell? ⟨Bf,0,none⟩ = some (.int .i64 (f : Int)) ∧ w'.cell? ⟨Bf,1,none⟩ = some (.int .i64 x) ∧ w'.cell? ⟨Bf,2,none⟩ = some (.int .u64 h) ∧ w'.cell? ⟨Bf,3,none⟩ = some (.int .u64 0)) (go_keep)
    ((first
      | (go_at_call 76;refine HBD.out.mono ?_;rintro e w3 ⟨a1,cap1,rfl,rfl,hrl⟩)
      | (go_at_call 75;refine (HCO.out a1 cap1 hrl).mono ?_;rintro e w3 ⟨v,rfl,hown,hb3⟩
         have hkp : ∀ j,w3.cell? ⟨Bf,j,none⟩ = _:=fun j=>hb3.cell (p:=⟨Bf,j,none⟩) (by simp;omega)
         obtain ⟨va,vc,rfl⟩:=own_form hown)))
  all_goals go_wp2
  all_goals go_ret
  all_goals
    have hsz:=HSZ.out
    have hbf:=HBF.out
    have hs3 : Bf + 2 ≤ w3.heap.size:=by have:=hb3.size;simp at this;omega
    have hb4 : Below W0.heap.size W0 (w3.alloc (.cells #[.int .i64 (f : Int),.int .i64 x,.int .u64 h,.int .u64 0,.int .i64 0,.pointer none,.slice va l.length vc,.int .i64 0,.int .i64 0,.bool false] 178)) :=
      (((((Below.refl W0.heap.size W0).drew.alloc (show W0.heap.size ≤ W0.heap.size from Nat.le_refl _) _).trans (hb3.mono (by omega))).alloc (by omega) _))
    refine ⟨w3.heap.size,_,rfl,by omega,World.alloc_heap_new w3 _,own_rd (hown.alloc _) insvals_len (fun b hb=>?_),HB0.out.trans (hb4.mono (by omega))⟩
    rcases (hown.alloc (.cells #[.int .i64 (f : Int),.int .i64 x,.int .u64 h,.int .u64 0,.int .i64 0,.pointer none,.slice va l.length vc,.int .i64 0,.int .i64 0,.bool false] 178)).2 with ⟨h0,_⟩ | ⟨g,cap,cur,h0,_,hg,_⟩
    · rw [h0] at hb;cases hb
    · rw [h0] at hb;injection hb with hb;subst hb;exact ⟨_,hg,rfl⟩
end Go.Proofs.YtkmakliebhnhbaaGreat
namespace Go.Proofs.YtkmakliebhnhbaaGreat
open Go.RowKit Go.Shelf
theorem below_both {n : Nat} {w w' : World} (h : Below n w w') (p : Addr) (v : Value) : Below n (w.setCell p v) (w'.setCell p v):=by
  refine ⟨h.os,h.tape,h.output,by have:=h.size;simpa [World.setCell] using this,fun b hb=>?_⟩
  have e:=h.block b hb
  unfold World.setCell
  simp only [Array.getElem?_modify,e]
set_option maxHeartbeats 1000000 in
theorem begin_at (i : Ins) (m : Nat) (hm : i.f = m) (B : Nat) (x h r : Int) (w : World) (c1 : w.cell? ⟨B,1,none⟩ = some (.int .i64 x)) (c2 : w.cell? ⟨B,2,none⟩ = some (.int .u64 h)) (c3 : w.cell? ⟨B,3,none⟩ = some (.int .u64 r)) (f3 : w.frozen? ⟨B,3,none⟩ = false) (h0 : 0 ≤ r) (h1 : r ≤ 1000) : Calls Tryz.prog 122 #[.pointer (some ⟨B,0,none⟩),i.agg] w fun e w'=>e = .returned (.agg #[.int .i64 (m : Int),.int .i64 (numZ i x),.int .u64 (stepZ h r),.int .u64 0]) ∧ Below w.heap.size (w.setCell ⟨B,3,none⟩ (.int .u64 (r + 1))) w':=by
  have hlt:=block_lt_of_cell c1
  simp only at hlt
  obtain ⟨op,F,R,K,L⟩:=i
  dsimp only at hm
  subst hm
  have HNU : Hid (∀ w1 : World,w1.heap[B]? = w.heap[B]? → Calls Tryz.prog 120 #[.pointer (some ⟨B,0,none⟩),.agg #[.int .i64 op,.int .i64 (m : Int),.int .i64 R,.int .i64 K,.int .i64 L]] w1 fun e w'=>e = .returned (.int .i64 (numZ ⟨op,m,R,K,L⟩ x)) ∧ Below w1.heap.size w1 w' ∧ w'.cell? ⟨B,2,none⟩ = some (.int .u64 h) ∧ w'.cell? ⟨B,3,none⟩ = some (.int .u64 r) ∧ w'.frozen? ⟨B,3,none⟩ = false):=fun w1 q=>by
    have q1:=(World.cell?_of_block (w:=w) (a:=⟨B,1,none⟩) q).trans c1
    refine (number_at ⟨op,m,R,K,L⟩ B x w1 q1).mono (fun e w' ⟨he,hb⟩=>?_)
    have q' : w'.heap[B]? = w.heap[B]?:=(hb.block B (block_lt_of_cell q1)).trans q
    exact ⟨he,hb,(World.cell?_of_block (w:=w) (a:=⟨B,2,none⟩) q').trans c2,(World.cell?_of_block (w:=w) (a:=⟨B,3,none⟩) q').trans c3,by rw [← f3];unfold World.frozen?;rw [q']⟩
  obtain ⟨z,hz⟩ : ∃ z,numZ ⟨op,m,R,K,L⟩ x = z:=⟨_,rfl⟩
  rw [hz] at HNU ⊢
  clear hz
  dsimp only [Ins.agg]
  go_enter Tryz.func122,Tryz.ntmps122
  go_wp2
  obtain ⟨Bi,hBi⟩ : ∃ Bi,w.heap.size = Bi:=⟨_,rfl⟩
  obtain ⟨W0,hW0⟩ : ∃ W0,(w.alloc (.cells #[.int .i64 op,.int .i64 (m : Int),.int .i64 R,.int .i64 K,.int .i64 L] 45)).alloc (.cells #[.int .i64 0,.int .i64 0,.int .u64 0,.int .u64 0] 121) = W0:=⟨_,rfl⟩
  have hb0 : Below w.heap.size w W0:=by rw [← hW0];exact ((Below.refl _ w).alloc (Nat.le_refl _) _).alloc (by simp) _
  have bi : Box5 W0 Bi ⟨op,m,R,K,L⟩:=by
    rw [← hW0,← hBi];exact (Below.heap_alloc _ _ _ (by simp)).trans (Box5.new w ⟨op,m,R,K,L⟩)
  have br : FrB W0 (Bi + 1) 0 0 0 0:=by
    have:=World.alloc_heap_new (w.alloc (.cells #[.int .i64 op,.int .i64 (m : Int),.int .i64 R,.int .i64 K,.int .i64 L] 45)) (.cells #[.int .i64 0,.int .i64 0,.int .u64 0,.int .u64 0] 121)
    rw [World.size_alloc,hW0,hBi] at this
    exact this
  have bb : W0.heap[B]? = w.heap[B]?:=hb0.block B hlt
  have hsz : W0.heap.size = Bi + 2:=by rw [← hW0,← hBi];simp
  rw [hW0,hBi]
  rw [hBi] at hlt
  have HB0:=hide hb0
  have HBi:=hide hBi
  have HC2:=hide c2
  have HC3:=hide c3
  have HF3:=hide f3
  clear hW0 hb0 c1 c2 c3 f3 hBi
  have d0:=bi.c0
  have d1:=bi.c1
  have d2:=bi.c2
  have d3:=bi.c3
  have d4:=bi.c4
  dsimp only at d0 d1 d2 d3 d4
  have e2:=(World.cell?_of_block (w:=w) (a:=⟨B,2,none⟩) bb).trans HC2.out
  have e3:=(World.cell?_of_block (w:=w) (a:=⟨B,3,none⟩) bb).trans HC3.out
  have ef : W0.frozen? ⟨B,3,none⟩ = false:=by rw [← HF3.out];unfold World.frozen?;rw [bb]
  have r0:=br.c0
  have r1:=br.c1
  have r2:=br.c2
  have r3:=br.c3
  have rf0:=br.fz 0
  have rf1:=br.fz 1
  have rf2:=br.fz 2
  have rf3:=br.fz 3
  have n0:=World.new_ne W0 ⟨Bi,0,none⟩ d0
  have n1:=World.new_ne W0 ⟨Bi,1,none⟩ d1
  have n2:=World.new_ne W0 ⟨Bi,2,none⟩ d2
  have n3:=World.new_ne W0 ⟨Bi,3,none⟩ d3
  have n4:=World.new_ne W0 ⟨Bi,4,none⟩ d4
  have n5:=World.new_ne W0 ⟨B,2,none⟩ e2
  have n6:=World.new_ne W0 ⟨B,3,none⟩ e3
  have lB : B < W0.heap.size:=block_lt_of_cell e2
  have lI : Bi < W0.heap.size:=bi.lt
  have lR : Bi + 1 < W0.heap.size:=br.lt
  have HSZ:=hide hsz
  have HBB:=hide bb
  have HBR:=hide br
  have HFA : Hid (∀ o,(W0.drew.alloc o).heap[B]? = w.heap[B]?):=fun o=>(Below.heap_alloc _ _ _ lB).trans bb
  clear hsz bb br bi
  go_region_held3 (fun w'=>w'.cell? ⟨Bi,0,none⟩ = some (.int .i64 op) ∧ w'.cell? ⟨Bi,1,none⟩ = some (.int .i64 (m : Int)) ∧ w'.cell? ⟨Bi,2,none⟩ = some (.int .i64 R) ∧ w'.cell? ⟨Bi,3,none⟩ = some (.int .i64 K) ∧ w'.cell? ⟨Bi,4,none⟩ = some (.int .i64 L) ∧ w'.cell? ⟨B,2,none⟩ = some (.int .u64 h) ∧ w'.cell? ⟨B,3,none⟩ = some (.int .u64 r)) (go_keep)
    ((first
      | (go_at_call 130;refine (mix_calls h r _ h0 h1).mono ?_;rintro e w3 ⟨rfl,rfl⟩)
      | (go_at_call 120;refine (HNU.out (W0.drew.alloc (.cells #[.int .i64 0,.int .i64 0,.int .u64 0,.int .u64 0] 121)) (HFA.out _)).mono ?_;rintro e w3 ⟨rfl,hb3,k2,k3,kf⟩
         have hs3 : W0.heap.size ≤ w3.heap.size:=by have:=hb3.size;simp at this;omega
         have lB3 : B < w3.heap.size:=by omega
         have lI3 : Bi < w3.heap.size:=by omega
         have lR3 : Bi + 1 < w3.heap.size:=by omega
         have hkp : ∀ j,w3.cell? ⟨Bi,j,none⟩ = _:=fun j=>hb3.cell (p:=⟨Bi,j,none⟩) (by simp;omega)
         have hkr : ∀ j,w3.cell? ⟨Bi + 1,j,none⟩ = _:=fun j=>hb3.cell (p:=⟨Bi + 1,j,none⟩) (by simp;omega)
         have hkf : ∀ j,w3.frozen? ⟨Bi + 1,j,none⟩ = _:=fun j=>hb3.frozen (p:=⟨Bi + 1,j,none⟩) (by simp;omega)
         have HO : Hid (∀ b,b < W0.heap.size → w3.heap[b]? = W0.heap[b]?):=fun b hb=>(hb3.block b (by simp;omega)).trans (Below.heap_alloc _ _ _ hb)
         have HR3 : Hid (Below W0.heap.size W0 w3):=((Below.refl _ W0).drew.alloc (Nat.le_refl _) _).trans (hb3.mono (by simp))
         have l5 : W0.heap.size < w3.heap.size:=by have:=hb3.size;simp at this;omega
         have hk5 : ∀ j,w3.cell? ⟨W0.heap.size,j,none⟩ = _:=fun j=>hb3.cell (p:=⟨W0.heap.size,j,none⟩) (by simp)
         have hk5f : ∀ j,w3.frozen? ⟨W0.heap.size,j,none⟩ = _:=fun j=>hb3.frozen (p:=⟨W0.heap.size,j,none⟩) (by simp))
      | (go_at_call 120;refine (HNU.out W0.drew HBB.out).mono ?_;rintro e w3 ⟨rfl,hb3,k2,k3,kf⟩
         have hs3 : W0.heap.size ≤ w3.heap.size:=by have:=hb3.size;simp at this;omega
         have lB3 : B < w3.heap.size:=by omega
         have lI3 : Bi < w3.heap.size:=by omega
         have lR3 : Bi + 1 < w3.heap.size:=by omega
         have hkp : ∀ j,w3.cell? ⟨Bi,j,none⟩ = _:=fun j=>hb3.cell (p:=⟨Bi,j,none⟩) (by simp;omega)
         have hkr : ∀ j,w3.cell? ⟨Bi + 1,j,none⟩ = _:=fun j=>hb3.cell (p:=⟨Bi + 1,j,none⟩) (by simp;omega)
         have hkf : ∀ j,w3.frozen? ⟨Bi + 1,j,none⟩ = _:=fun j=>hb3.frozen (p:=⟨Bi + 1,j,none⟩) (by simp;omega)
         have HO : Hid (∀ b,b < W0.heap.size → w3.heap[b]? = W0.heap[b]?):=fun b hb=>hb3.block b hb
         have HR3 : Hid (Below W0.heap.size W0 w3):=(Below.refl _ W0).drew.trans hb3)))
  all_goals go_wp2
  · have hwi:=HBi.out
    have hwb:=HB0.out
    have hsz:=HSZ.out
    have q5 : W0.heap.size ≠ B:=by omega
    have q6 : B ≠ W0.heap.size:=by omega
    have q7 : W0.heap.size ≠ Bi + 1:=by omega
    have q8 : Bi + 1 ≠ W0.heap.size:=by omega
    have q9 : B ≠ Bi + 1:=by omega
    have q10 : Bi + 1 ≠ B:=by omega
    have br3 : FrB w3 (Bi + 1) 0 0 0 0:=(HO.out (Bi + 1) lR).trans HBR.out
    have kB : Below w.heap.size w w3:=hwb.trans (HR3.out.mono (by omega))
    have kO : ∀ b,b < w.heap.size → w3.heap[b]? = w.heap[b]?:=fun b hb=>(HO.out b (by omega)).trans (hwb.block b hb)
    have hr:=(((((br3.at B 3 (.int .u64 (r + 1)) q10).s0 m).s1 z).s2 (stepZ h r)).set 0).al (.cells #[.int .i64 (m : Int),.int .i64 z,.int .u64 (stepZ h r),.int .u64 0] 121)
    have hc0:=hr.c0
    have hc1:=hr.c1
    have hc2:=hr.c2
    have hc3:=hr.c3
    refine bodyPost_ret (v:=.agg #[.int .i64 (m : Int),.int .i64 z,.int .u64 (stepZ h r),.int .u64 0]) (by simp only [results,Tryz.f122,go_sem];simp [go_sem,hc0,hc1,hc2,hc3];done) rfl ⟨rfl,((((((below_both kB ⟨B,3,none⟩ (.int .u64 (r + 1))).setCell (p:=⟨Bi + 1,0,none⟩) (by simp;omega) _).setCell (p:=⟨Bi + 1,1,none⟩) (by simp;omega) _).setCell (p:=⟨Bi + 1,2,none⟩) (by simp;omega) _).setCell (p:=⟨Bi + 1,3,none⟩) (by simp;omega) _).alloc (by simp [World.setCell];omega) _)⟩
  · have hwi:=HBi.out
    have hwb:=HB0.out
    have hsz:=HSZ.out
    have q5 : W0.heap.size ≠ B:=by omega
    have q6 : B ≠ W0.heap.size:=by omega
    have q7 : W0.heap.size ≠ Bi + 1:=by omega
    have q8 : Bi + 1 ≠ W0.heap.size:=by omega
    have q9 : B ≠ Bi + 1:=by omega
    have q10 : Bi + 1 ≠ B:=by omega
    have br3 : FrB w3 (Bi + 1) 0 0 0 0:=(HO.out (Bi + 1) lR).trans HBR.out
    have kB : Below w.heap.size w w3:=hwb.trans (HR3.out.mono (by omega))
    have kO : ∀ b,b < w.heap.size → w3.heap[b]? = w.heap[b]?:=fun b hb=>(HO.out b (by omega)).trans (hwb.block b hb)
    have hr:=(((((br3.at B 3 (.int .u64 (r + 1)) q10).s0 m).s1 z).s2 (stepZ h r)).set 0).al (.cells #[.int .i64 (m : Int),.int .i64 z,.int .u64 (stepZ h r),.int .u64 0] 121)
    have hc0:=hr.c0
    have hc1:=hr.c1
    have hc2:=hr.c2
    have hc3:=hr.c3
    refine bodyPost_ret (v:=.agg #[.int .i64 (m : Int),.int .i64 z,.int .u64 (stepZ h r),.int .u64 0]) (by simp only [results,Tryz.f122,go_sem];simp [go_sem,hc0,hc1,hc2,hc3];done) rfl ⟨rfl,((((((below_both kB ⟨B,3,none⟩ (.int .u64 (r + 1))).setCell (p:=⟨Bi + 1,0,none⟩) (by simp;omega) _).setCell (p:=⟨Bi + 1,1,none⟩) (by simp;omega) _).setCell (p:=⟨Bi + 1,2,none⟩) (by simp;omega) _).setCell (p:=⟨Bi + 1,3,none⟩) (by simp;omega) _).alloc (by simp [World.setCell];omega) _)⟩
  · have hwi:=HBi.out
    have hwb:=HB0.out
    have hsz:=HSZ.out
    have q5 : W0.heap.size ≠ B:=by omega
    have q6 : B ≠ W0.heap.size:=by omega
    have q7 : W0.heap.size ≠ Bi + 1:=by omega
    have q8 : Bi + 1 ≠ W0.heap.size:=by omega
    have q9 : B ≠ Bi + 1:=by omega
    have q10 : Bi + 1 ≠ B:=by omega
    have br3 : FrB w3 (Bi + 1) 0 0 0 0:=(HO.out (Bi + 1) lR).trans HBR.out
    have kB : Below w.heap.size w w3:=hwb.trans (HR3.out.mono (by omega))
    have kO : ∀ b,b < w.heap.size → w3.heap[b]? = w.heap[b]?:=fun b hb=>(HO.out b (by omega)).trans (hwb.block b hb)
    have hr:=(((((((((br3.at W0.heap.size 0 (.int .i64 (m : Int)) q8).at W0.heap.size 1 (.int .i64 z) q8).at W0.heap.size 2 (.int .u64 (stepZ h r)) q8).at W0.heap.size 3 (.int .u64 0) q8).at B 3 (.int .u64 (r + 1)) q10).s0 m).s1 z).s2 (stepZ h r)).set 0)
    have hc0:=hr.c0
    have hc1:=hr.c1
    have hc2:=hr.c2
    have hc3:=hr.c3
    refine bodyPost_ret (v:=.agg #[.int .i64 (m : Int),.int .i64 z,.int .u64 (stepZ h r),.int .u64 0]) (by simp only [results,Tryz.f122,go_sem];simp [go_sem,hc0,hc1,hc2,hc3];done) rfl ⟨rfl,(((((below_both ((((kB.setCell (p:=⟨W0.heap.size,0,none⟩) (by simp;omega) _).setCell (p:=⟨W0.heap.size,1,none⟩) (by simp;omega) _).setCell (p:=⟨W0.heap.size,2,none⟩) (by simp;omega) _).setCell (p:=⟨W0.heap.size,3,none⟩) (by simp;omega) _) ⟨B,3,none⟩ (.int .u64 (r + 1))).setCell (p:=⟨Bi + 1,0,none⟩) (by simp;omega) _).setCell (p:=⟨Bi + 1,1,none⟩) (by simp;omega) _).setCell (p:=⟨Bi + 1,2,none⟩) (by simp;omega) _).setCell (p:=⟨Bi + 1,3,none⟩) (by simp;omega) _)⟩
end Go.Proofs.YtkmakliebhnhbaaGreat
