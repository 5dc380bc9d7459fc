import Derived.Test.YtkmakliebhnhbaaGreatLwI
import Derived.Test.YtkmakliebhnhbaaGreatRowC
namespace Go.Proofs.YtkmakliebhnhbaaGreat
open Go.RowKit
attribute [local go_sem ↓] Go.wp_at_zero Go.wp_at_succ
def exPicks : List (Int × Int):=[(0,0),(1,0),(1,0),(1,0),(0,0),(0,0),(1,0),(1,0)]
def exOps : List OpR:=[⟨3,0,[],[],0,0,2,exPicks⟩]
theorem exOps_ok : ∀ o ∈ exOps,o.ok:=by
 intro o ho
 simp only [exOps,List.mem_cons,List.not_mem_nil,or_false] at ho
 subst ho
 refine ⟨by simp [i64],by simp [i64],by simp [u64],by simp [i64],fun l hl=>by simp at hl,⟨by simp,by simp,by simp⟩,by simp,?_,by simp [exPicks]⟩
 intro q hq
 simp only [exPicks,List.mem_cons,List.not_mem_nil,or_false] at hq
 rcases hq with rfl | rfl | rfl | rfl | rfl | rfl | rfl | rfl <;> simp [i64]
theorem pick_at (l : List (Int × Int)) : ∀ k x,l[k]? = some x → ∀ j u,(pickV x)[j]? = some u → ((flat pickV l).toArray)[k * 2 + j]? = some u:=by
 intro k x hk j u hu
 have hj:=(List.getElem?_eq_some_iff.1 hu).1
 rw [pickv_len] at hj
 rw [List.getElem?_toArray,flat_get pickv_len l hk hj]
 exact hu
theorem exOps_rd (w : World) (o1 o2 o3 : Obj) (h1 : o1 = .cells (flat pickV exPicks).toArray 26) (h2 : o2 = .cells #[.slice (some ⟨w.heap.size,0,none⟩) 8 8] 27)
  (h3 : o3 = .cells #[.int .i64 3,.int .i64 0,.slice none 0 0,.slice none 0 0,.int .u64 0,.int .i64 0,.int .i64 2,.slice (some ⟨w.heap.size + 1,0,none⟩) 1 1] 33) :
  RdOpsR (fun _=>True) (((w.alloc o1).alloc o2).alloc o3) (.slice (some ⟨w.heap.size + 1 + 1,0,none⟩) 1 1) exOps:=by
 have e3 : (((w.alloc o1).alloc o2).alloc o3).heap[w.heap.size + 1 + 1]? = some o3:=by
  have:=heap_new ((w.alloc o1).alloc o2) o3
  simpa using this
 have e2 : (((w.alloc o1).alloc o2).alloc o3).heap[w.heap.size + 1]? = some o2:=by
  rw [((Below.refl _ _).alloc (Nat.le_refl _) o3).block _ (by simp)]
  have:=heap_new (w.alloc o1) o2
  simpa using this
 have e1 : (((w.alloc o1).alloc o2).alloc o3).heap[w.heap.size]? = some o1:=by
  rw [((Below.refl _ _).alloc (Nat.le_refl _) o3).block _ (by simp;omega),((Below.refl _ _).alloc (Nat.le_refl _) o2).block _ (by simp)]
  exact heap_new w o1
 obtain ⟨W,hW⟩ : ∃ W,(((w.alloc o1).alloc o2).alloc o3) = W:=⟨_,rfl⟩
 rw [hW] at e1 e2 e3 ⊢
 clear hW
 subst h1 h2 h3
 have hnil : ∀ {α : Type} (s : Nat) (enc : α → List Value),RdL (fun _=>True) W s enc (.slice none 0 0) []:=fun s enc=>⟨none,0,rfl,by simp,by unfold maxLen;omega,.inl ⟨rfl,fun _=>rfl⟩⟩
 refine ⟨_,1,rfl,by simp [exOps],by unfold maxLen;omega,fun k o hk=>?_⟩
 have hk0 : k = 0:=by have:=(List.getElem?_eq_some_iff.1 hk).1;simpa [exOps] using this
 subst hk0
 simp [exOps] at hk
 subst hk
 refine ⟨_,0,.slice none 0 0,.slice none 0 0,.slice (some ⟨w.heap.size + 1,0,none⟩) 1 1,rfl,cell_of_row _ _ 0 _ _ (0,0) e3,cell_of_row _ _ 1 _ _ (0,0) e3,cell_of_row _ _ 2 _ _ (0,0) e3,cell_of_row _ _ 3 _ _ (0,0) e3,cell_of_row _ _ 4 _ _ (0,0) e3,cell_of_row _ _ 5 _ _ (0,0) e3,cell_of_row _ _ 6 _ _ (0,0) e3,cell_of_row _ _ 7 _ _ (0,0) e3,?_,⟨[],rfl,hnil 1 _,fun k u x hu=>by simp at hu⟩,hnil 1 _⟩
 exact ⟨_,1,1,.slice (some ⟨w.heap.size,0,none⟩) 8 8,rfl,.inr ⟨by omega,_,0,rfl,cell_of_row _ _ 0 _ _ (0,0) e2⟩,rd_at W _ _ _ _ 8 rfl (by omega) e1 (pick_at _)⟩
set_option maxRecDepth 100000 in
set_option maxHeartbeats 2000000 in
theorem runs_any (D : Dev) (hNew : NewSaid D) (hSer : SerialSaid D) (hRun : RunSaid D) (S0 : Nat → Prop) (v : Value) (l : List OpR) (w : World) (hl : RdOpsR S0 w v l) (hok : ∀ o ∈ l,o.ok) (hn : l.length ≤ 1000000) :
  Calls Tryz.prog 4 #[v] w fun e w'=>e = .returned (.bool true) ∧ Below w.heap.size w w':=by
 obtain ⟨o1,ho1⟩ : ∃ o,Obj.cells #[Value.int .i64 0,.int .i64 0,.int .i64 1,.int .i64 0,.int .i64 1,.int .i64 0,.int .i64 1,.int .i64 0,.int .i64 0,.int .i64 0,.int .i64 0,.int .i64 0,.int .i64 1,.int .i64 0,.int .i64 1,.int .i64 0] 26 = o:=⟨_,rfl⟩
 obtain ⟨o2,ho2⟩ : ∃ o,Obj.cells #[.slice (some ⟨w.heap.size,0,none⟩) 8 8] 27 = o:=⟨_,rfl⟩
 obtain ⟨o3,ho3⟩ : ∃ o,Obj.cells #[.int .i64 3,.int .i64 0,.slice none 0 0,.slice none 0 0,.int .u64 0,.int .i64 0,.int .i64 2,.slice (some ⟨w.heap.size + 1,0,none⟩) 1 1] 33 = o:=⟨_,rfl⟩
 have hR:=exOps_rd w o1 o2 o3 ho1.symm ho2.symm ho3.symm
 have hB : Below w.heap.size w (((w.alloc o1).alloc o2).alloc o3):=(((Below.refl _ w).alloc (Nat.le_refl _) o1).alloc (by simp) o2).alloc (by simp;omega) o3
 have HP:=hide (plays_run D hNew hSer hRun _ _ exOps _ hR exOps_ok (by simp [exOps]))
 have HB:=hide hB
 have HP2:=hide (fun (W : World) (hb : Below w.heap.size w W)=>plays_run D hNew hSer hRun S0 v l W (hl.below hb) hok hn)
 have HO1:=hide ho1
 have HO2:=hide ho2
 have HO3:=hide ho3
 obtain ⟨sa,sc,rfl,_⟩:=hl
 clear ho1 ho2 ho3 hR hB
 go_enter Tryz.func4,Tryz.ntmps4
 go_wp2_with fail
 rw [HO1.out,HO2.out,HO3.out]
 refine HP.out.mono ?_
 rintro e w1 ⟨rfl,hb1⟩
 have hb : Below w.heap.size w w1:=HB.out.trans (hb1.mono HB.out.size)
 have HW1:=hide hb
 clear hb hb1 HP HO1 HO2 HO3
 go_wp2_with fail
 refine (HP2.out w1 HW1.out).mono ?_
 rintro e w2 ⟨rfl,hb2⟩
 have HW2:=hide (HW1.out.trans (hb2.mono HW1.out.size))
 clear hb2 HP2
 go_wp2
 go_ret
 exact ⟨by simp,HW2.out⟩
end Go.Proofs.YtkmakliebhnhbaaGreat
namespace Go.Proofs.YtkmakliebhnhbaaGreat
open Go.RowKit Go.Deep Go.WideShapes
theorem cells_pick : Tryz.prog.cellsOf 26 = 2:=by kernel_rfl
theorem cells_picks : Tryz.prog.cellsOf 27 = 1:=by kernel_rfl
section
variable {H : Type} {en : TypeId × Value → H} {w : World} {base : Nat} {spare : Nat → Bool} {held : Bool}
set_option maxRecDepth 100000 in
theorem dec_pick : ∀ n cs' (y : DataW H × List MemPlace),cs'.length = 2 → DataW.trod en Tryz.prog w base spare held n 26 cs' = some y → ∃ a : Int × Int,cs' = pickV a ∧ (fun (a : Int × Int) (_ : DataW H)=>i64 a.1 ∧ i64 a.2) a y.1:=by
 intro n cs' y hl h
 obtain ⟨xs,m,_,_,_,hx,hf⟩:=DataW.trod_struct Tryz.underlying26 h
 match xs,hx,cs',hl with
 | [y0,y1],_,[v0,v1],_ =>
  have g0:=hf 0 _ rfl
  have g1:=hf 1 _ rfl
  simp [cells_int] at g0 g1
  obtain ⟨a0,e0,_,w0⟩:=DataW.trod_int Tryz.underlying3 g0
  obtain ⟨a1,e1,_,w1⟩:=DataW.trod_int Tryz.underlying3 g1
  cases e0
  cases e1
  exact ⟨⟨a0,a1⟩,rfl,wf_i64 w0,wf_i64 w1⟩
theorem dec_picks : ∀ n cs' (y : DataW H × List MemPlace),cs'.length = 1 → DataW.trod en Tryz.prog w base spare held n 27 cs' = some y →
  ∃ a,cs' = one a ∧ (fun (a : Value) (d : DataW H)=>∃ l,RdL (fun _=>True) w 2 pickV a l ∧ (∀ q ∈ l,i64 q.1 ∧ i64 q.2) ∧ l.length ≤ Rows.uptoBulk d) a y.1:=by
 intro n cs' y _ h
 obtain ⟨v,l,hv,hl,hh⟩:=open_rd (good:=fun (a : Int × Int) (_ : DataW H)=>i64 a.1 ∧ i64 a.2) (enc:=pickV) Tryz.underlying27 cells_pick (by omega) dec_pick h
 refine ⟨v,hv,l,hl,?_,?_⟩
 ·rcases hh with ⟨_,rfl⟩ | ⟨ds,sp,_,_,hk⟩
  ·simp
  ·intro r hr
   obtain ⟨k,hk'⟩:=List.getElem?_of_mem hr
   obtain ⟨d,_,hg⟩:=hk k r hk'
   exact hg
 ·rcases hh with ⟨_,rfl⟩ | ⟨ds,sp,e,hlen,hk⟩
  ·simp
  ·have:=bulk_len 1 ds (fun d _=>bulk_one d)
   rw [e]
   simp only [Rows.uptoBulk]
   omega
theorem open_first (n : Nat) (cs : List Value) (y : DataW H × List MemPlace) (h : DataW.trod en Tryz.prog w base spare held n 28 cs = some y) :
  ∃ v l,cs = [v] ∧ RdS (fun _=>True) w v l ∧ (∀ q ∈ l,i64 q.1 ∧ i64 q.2) ∧ l.length ≤ Rows.uptoBulk y.1:=by
 obtain ⟨v,us,hv,hl,hh⟩:=open_rd (good:=fun (a : Value) (d : DataW H)=>∃ l,RdL (fun _=>True) w 2 pickV a l ∧ (∀ q ∈ l,i64 q.1 ∧ i64 q.2) ∧ l.length ≤ Rows.uptoBulk d) (enc:=one) Tryz.underlying28 cells_picks (by omega) dec_picks h
 obtain ⟨a,cap,rfl,h1,h2,h3⟩:=hl
 cases us with
 | nil=>exact ⟨_,[],hv,⟨a,0,cap,.slice none 0 0,rfl,.inl ⟨rfl,rfl⟩,none,0,rfl,by simp,by unfold maxLen;omega,.inl ⟨rfl,fun _=>rfl⟩⟩,by simp,by simp⟩
 | cons u r =>
  rcases h3 with ⟨h3,_⟩ | ⟨b,off,ha,_,hc⟩
  ·cases h3
  rcases hh with ⟨_,hh⟩ | ⟨ds,sp,e,hlen,hk⟩
  ·cases hh
  obtain ⟨d,hd,l,q1,q2,q3⟩:=hk 0 u rfl
  have hbd:=bulk_at ds 0 d hd
  refine ⟨_,l,hv,⟨a,r.length + 1,cap,u,rfl,.inr ⟨by omega,b,off,ha,?_⟩,q1⟩,q2,by rw [e];simp only [Rows.uptoBulk];omega⟩
  exact hc 0 u rfl 0 u rfl
def GoodOpR (w : World) (a : List Value) (d : DataW H) (o : OpR) : Prop:=8 ≤ Rows.uptoBulk d ∧ ∃ vF vR vS,a = [.int .i64 o.kind,.int .i64 o.at_,vF,vR,.int .u64 o.seed,.int .i64 o.x,.int .i64 o.wk,vS] ∧ RdS (fun _=>True) w vS o.script ∧ RdF (fun _=>True) w vF o.fs ∧ RdL (fun _=>True) w 1 int64s vR o.reds ∧
 i64 o.kind ∧ i64 o.at_ ∧ u64 o.seed ∧ i64 o.x ∧ FsWf o.fs ∧ (∀ r ∈ o.reds,i64 r) ∧ o.fs.length ≤ Rows.uptoBulk d ∧ o.reds.length ≤ Rows.uptoBulk d ∧ (∀ l ∈ o.fs,l.length ≤ Rows.uptoBulk d) ∧ (∀ q ∈ o.script,i64 q.1 ∧ i64 q.2) ∧ o.script.length ≤ Rows.uptoBulk d
set_option maxRecDepth 100000 in
theorem dec_opR : ∀ n cs' (y : DataW H × List MemPlace),cs'.length = 8 → DataW.trod en Tryz.prog w base spare held n 33 cs' = some y → ∃ a,cs' = id a ∧ (fun (a : List Value) (d : DataW H)=>∃ o,GoodOpR w a d o) a y.1:=by
 intro n cs' y hl h
 obtain ⟨xs,m,_,hy,_,hx,hf⟩:=DataW.trod_struct Tryz.underlying33 h
 match xs,hx,cs',hl with
 | [y0,y1,y2,y3,y4,y5,y6,y7],_,[v0,v1,v2,v3,v4,v5,v6,v7],_ =>
  have g0:=hf 0 _ rfl
  have g1:=hf 1 _ rfl
  have g2:=hf 2 _ rfl
  have g3:=hf 3 _ rfl
  have g4:=hf 4 _ rfl
  have g5:=hf 5 _ rfl
  have g6:=hf 6 _ rfl
  have g7:=hf 7 _ rfl
  simp [cells_int,cells_int64,cells_uint64,cells_llins,cells_lint,cells_lpick] at g0 g1 g2 g3 g4 g5 g6 g7
  obtain ⟨a0,e0,_,w0⟩:=DataW.trod_int Tryz.underlying3 g0
  obtain ⟨a1,e1,_,w1⟩:=DataW.trod_int Tryz.underlying3 g1
  obtain ⟨vF,fs,e2,hF,hw,hf1,hf2⟩:=open_funcs _ _ _ g2
  obtain ⟨vR,rs,e3,hR,hri,hr1⟩:=open_ints _ _ _ g3
  obtain ⟨a4,e4,_,w4⟩:=DataW.trod_int Tryz.underlying31 g4
  obtain ⟨a5,e5,_,w5⟩:=DataW.trod_int Tryz.underlying2 g5
  obtain ⟨a6,e6,_,w6⟩:=DataW.trod_int Tryz.underlying3 g6
  obtain ⟨vS,sl,e7,hS,hsi,hs1⟩:=open_first _ _ _ g7
  cases e0
  cases e1
  cases e2
  cases e3
  cases e4
  cases e5
  cases e6
  cases e7
  have b0:=bulk_one y0.1
  have b1:=bulk_one y1.1
  have b2:=bulk_one y2.1
  have b3:=bulk_one y3.1
  have b4:=bulk_one y4.1
  have b5:=bulk_one y5.1
  have b6:=bulk_one y6.1
  have b7:=bulk_one y7.1
  have hb : Rows.uptoBulk y.1 = Rows.uptoBulk y0.1 + (Rows.uptoBulk y1.1 + (Rows.uptoBulk y2.1 + (Rows.uptoBulk y3.1 + (Rows.uptoBulk y4.1 + (Rows.uptoBulk y5.1 + (Rows.uptoBulk y6.1 + (Rows.uptoBulk y7.1 + 0))))))) + 1:=by
   rw [hy];simp only [List.map_cons,List.map_nil,Rows.uptoBulk,Rows.uptoBulkAll]
  refine ⟨_,rfl,⟨a0,a1,fs,rs,a4,a5,a6,sl⟩,by omega,_,_,_,rfl,hS,hF,hR,wf_i64 w0,wf_i64 w1,wf_u64 w4,wf_i64 w5,hw,hri,by simp only;omega,by simp only;omega,fun l hl=>?_,hsi,by simp only;omega⟩
  have:=hf2 l hl
  omega
theorem open_opsR (n : Nat) (cs : List Value) (y : DataW H × List MemPlace) (h : DataW.trod en Tryz.prog w base spare held n 22 cs = some y) (hb : Rows.uptoBulk y.1 ≤ 1048576) :
  ∃ v l,cs = [v] ∧ RdOpsR (fun _=>True) w v l ∧ (∀ o ∈ l,o.ok) ∧ l.length ≤ 1000000:=by
 obtain ⟨v,us,hv,hl,hh⟩:=open_rd (good:=fun (a : List Value) (d : DataW H)=>∃ o,GoodOpR w a d o) (enc:=id) Tryz.underlying22 cells_op (by omega) dec_opR h
 obtain ⟨a,cap,rfl,h1,h2,h3⟩:=hl
 rcases hh with ⟨_,rfl⟩ | ⟨ds,sp,e,hlen,hk⟩
 ·exact ⟨_,[],hv,⟨a,cap,rfl,by simp,h2,fun k o hk=>by simp at hk⟩,by simp,by simp⟩
 rw [e] at hb
 simp only [Rows.uptoBulk] at hb
 haveI : Inhabited OpR:=⟨⟨0,0,[],[],0,0,0,[]⟩⟩
 have each : ∀ k,k < us.length → ∃ o : OpR,∃ d,ds[k]? = some d ∧ ∀ u,us[k]? = some u → GoodOpR w u d o:=by
  intro k hk'
  obtain ⟨d,hd,o,ho⟩:=hk k us[k] (List.getElem?_eq_getElem hk')
  refine ⟨o,d,hd,fun u hu=>?_⟩
  rw [List.getElem?_eq_getElem hk'] at hu
  cases hu
  exact ho
 have h8 : 8 * ds.length ≤ Rows.uptoBulkAll ds:=bulk_len 8 ds (fun d hd=>by
  obtain ⟨k,hk'⟩:=List.getElem?_of_mem hd
  have hk2 : k < us.length:=by have:=(List.getElem?_eq_some_iff.1 hk').1;omega
  obtain ⟨o,d',hd',ho⟩:=each k hk2
  rw [hk'] at hd'
  cases hd'
  exact (ho _ (List.getElem?_eq_getElem hk2)).1)
 obtain ⟨f,hf⟩:=choose_lt each
 refine ⟨_,(List.range us.length).map f,hv,⟨a,cap,by simp,by simpa using h1,h2,fun k o hko=>?_⟩,fun o ho=>?_,by simp;omega⟩
 ·have hk2 : k < us.length:=by have:=(List.getElem?_eq_some_iff.1 hko).1;simpa using this
  rw [List.getElem?_map,List.getElem?_range hk2] at hko
  simp at hko
  subst hko
  obtain ⟨d,hd,ho⟩:=hf k hk2
  obtain ⟨_,vF,vR,vS,hu,hS,hF,hR,_⟩:=ho _ (List.getElem?_eq_getElem hk2)
  rcases h3 with ⟨h3,_⟩ | ⟨b,off,ha,_,hc⟩
  ·subst h3;simp at hk2
  have hcell : ∀ j u,(us[k])[j]? = some u → w.cell? ⟨b,off + k * 8 + j,none⟩ = some u:=fun j u hj=>hc k us[k] (List.getElem?_eq_getElem hk2) j u hj
  rw [hu] at hcell
  exact ⟨b,off,vF,vR,vS,ha,hcell 0 _ rfl,hcell 1 _ rfl,hcell 2 _ rfl,hcell 3 _ rfl,hcell 4 _ rfl,hcell 5 _ rfl,hcell 6 _ rfl,hcell 7 _ rfl,hS,hF,hR⟩
 ·obtain ⟨k,hk',rfl⟩:=List.mem_map.1 ho
  have hk2:=List.mem_range.1 hk'
  obtain ⟨d,hd,ho⟩:=hf k hk2
  obtain ⟨_,vF,vR,vS,_,_,_,_,q1,q2,q3,q4,q5,q6,q7,q8,q9,q10,q11⟩:=ho _ (List.getElem?_eq_getElem hk2)
  have hbd:=bulk_at ds k d hd
  exact ⟨q1,q2,q3,q4,q5,⟨by omega,by omega,fun l hl=>by have:=q9 l hl;omega⟩,q6,q10,by omega⟩
end
end Go.Proofs.YtkmakliebhnhbaaGreat
