import Derived.Test.YtkmakliebhnhbaaGreatWlkA
import Derived.Test.YtkmakliebhnhbaaGreatCopyA
import Derived.Test.YtkmakliebhnhbaaGreatMsr
namespace Go.Proofs.YtkmakliebhnhbaaGreat
open Go.RowKit Go.Shelf
attribute [local go_sem] Oper.semAt_some
structure WalkI (fs : List (List Ins)) (n₀ l d f : Nat) (x h : Int) (J : List Ev → World → Prop) (cb fb : Nat) (pre : List Ev) (W : World) {p : Ins → Prop} (ip : List { i : Ins // p i }) (V : World) : Prop where
 jj : J (pre ++ serL (ser fs d) x h 0 (ip.map (fun y=>y.1))) V
 fr : FrB V fb f x h (rankL 0 (ip.map (fun y=>y.1)))
 b3 : Boxed V W.heap.size 94 (.pointer (some ⟨cb,0,none⟩))
 b4 : Boxed V (W.heap.size + 1) 169 (.pointer (some ⟨fb,0,none⟩))
 b5 : Boxed V (W.heap.size + 1 + 1) 167 (.func (.yield l) #[] #[])
 b6 : Boxed V (W.heap.size + 1 + 1 + 1) 4 (.bool false)
 ki : KI n₀ l (fun k=>k = fb) W V
theorem WalkI.own {fs : List (List Ins)} {reds : List Int} {n₀ l B1 fb0 N d f : Nat} {x h : Int} {J : List Ev → World → Prop} {cb fb : Nat} {pre : List Ev} {W : World} {p : Ins → Prop} {B : Nat} (L : Loopy fs reds n₀ l B1 fb0 cb N J) (hB : B1 ≤ B) (hW : W.heap.size ≤ B) (hn : n₀ ≤ W.heap.size) : OwnFrom B (WalkI (p:=p) fs n₀ l d f x h J cb fb pre W):=fun s X Y row hs hg hr=>by
 have hc : ∀ r,row = some r → ∃ o : Obj,X.heap[r]? = some o ∧ o.isCells = false:=fun r e=>(hr r e).2
 have hne : ∀ (k : Nat) (o : Obj),X.heap[k]? = some o → k < B ∨ o.isCells = true → Y.heap[k]? = some o:=fun k o hk ho=>(hg.block k (Array.getElem?_eq_some_iff.1 hk).1 (fun e=>by
  obtain ⟨h1,o',ho',hcc⟩:=hr k e.symm
  rcases ho with ho | ho
  ·omega
  ·rw [hk] at ho';cases ho';rw [ho] at hcc;cases hcc)).trans hk
 have hnB:=L.nB
 have hlB:=L.lB
 refine ⟨L.abide _ _ _ hs.jj ⟨hg.os,hg.tape,hg.output,hg.size,fun k o hk ho=>hne k o hk ?_⟩,hne _ _ hs.fr (.inr rfl),hne _ _ hs.b3 (.inr rfl),hne _ _ hs.b4 (.inr rfl),hne _ _ hs.b5 (.inr rfl),hne _ _ hs.b6 (.inr rfl),?_,fun k o hk h1 h2 h3=>hne k o (hs.ki.keep k o hk h1 h2 h3) (.inl (Nat.lt_of_lt_of_le (Array.getElem?_eq_some_iff.1 hk).1 hW))⟩
 ·rcases ho with ho | ho
  ·exact .inl (by omega)
  ·cases o <;> first | exact .inr rfl | exact ho.elim
 ·exact hs.ki.below.grown hg (Nat.le_trans hn hs.ki.below.size) (fun k e=>by have:=(hr k e).1;omega)
set_option maxRecDepth 100000 in
set_option maxHeartbeats 4000000 in
theorem walk_step {fs : List (List Ins)} {reds : List Int} {n₀ l B1 fb0 cb N d : Nat} {J : List Ev → World → Prop} (L : Loopy fs reds n₀ l B1 fb0 cb N J) (_hd : d ≤ 8) (HD : DoSaid fs reds n₀ l B1 fb0 cb N d J) (hf0B : fb0 < B1) : WalkSaid fs reds n₀ l B1 fb0 cb N (d + 1) J:=by
 intro f x h pre W fb hfl hfd hb hf hW hC hJ hN
 obtain ⟨m,hm1⟩ : ∃ m : Nat,9 ≤ m:=⟨9,Nat.le_refl _⟩
 refine (callsIn_wide (n:=m)).1 ?_
 have hmix : Tryz.prog.follows .mixedOrders = true:=by kernel_rfl
 obtain ⟨e1,e2⟩:=L.ne hf
 have hlB:=L.lB
 have hnB:=L.nB
 obtain ⟨ll,hll⟩ : ∃ ll,fs[f]? = some ll:=⟨_,List.getElem?_eq_getElem hfl⟩
 have hl10:=L.l10 ll (List.mem_of_getElem? hll)
 have hser : ser fs (d + 1) f x h = serL (ser fs d) x h 0 ll:=by rw [ser,hll];rfl
 have hsub:=ser_len L.l10 d
 rw [hser]
 have HL:=hide hll
 have HB:=hide hb
 have HC:=hide hC
 have HJ:=hide hJ
 have hfbl:=hb.lt
 clear hser hll hb hC hJ
 refine callsIn_of_wp_marks Tryz.func71 rfl trivial ?_ rfl
 simp only [Tryz.ntmps71,List.size_toArray,List.length_cons,List.length_nil,Nat.reduceAdd,Nat.reduceSub,Array.replicate_succ,Array.replicate_zero,List.push_toArray,List.append_toArray,List.nil_append,List.cons_append]
 gi_wp2
 obtain ⟨Wa,hWa⟩ : ∃ Wa,(((W.alloc (.cells #[.pointer (some ⟨cb,0,none⟩)] 94)).alloc (.cells #[.pointer (some ⟨fb,0,none⟩)] 169)).alloc (.cells #[.func (.yield l) #[] #[]] 167)).alloc (.cells #[.bool false] 4) = Wa:=⟨_,rfl⟩
 have hsa : Wa.heap.size = W.heap.size + 4:=by rw [← hWa];simp
 have hba : Below W.heap.size W Wa:=by rw [← hWa];exact ((((Below.refl _ W).alloc (Nat.le_refl _) _).alloc (by simp) _).alloc (by simp;omega) _).alloc (by simp;omega) _
 have b3 : Boxed Wa W.heap.size 94 (.pointer (some ⟨cb,0,none⟩)):=by rw [← hWa];exact (((Boxed.new W _ _).alloc _).alloc _).alloc _
 have b4 : Boxed Wa (W.heap.size + 1) 169 (.pointer (some ⟨fb,0,none⟩)):=by
  have:=Boxed.new (W.alloc (.cells #[.pointer (some ⟨cb,0,none⟩)] 94)) 169 (.pointer (some ⟨fb,0,none⟩))
  rw [World.size_alloc] at this
  rw [← hWa];exact (this.alloc _).alloc _
 have b5 : Boxed Wa (W.heap.size + 1 + 1) 167 (.func (.yield l) #[] #[]):=by
  have:=Boxed.new ((W.alloc (.cells #[.pointer (some ⟨cb,0,none⟩)] 94)).alloc (.cells #[.pointer (some ⟨fb,0,none⟩)] 169)) 167 (.func (.yield l) #[] #[])
  rw [World.size_alloc,World.size_alloc] at this
  rw [← hWa];exact this.alloc _
 have b6 : Boxed Wa (W.heap.size + 1 + 1 + 1) 4 (.bool false):=by
  have:=Boxed.new (((W.alloc (.cells #[.pointer (some ⟨cb,0,none⟩)] 94)).alloc (.cells #[.pointer (some ⟨fb,0,none⟩)] 169)).alloc (.cells #[.func (.yield l) #[] #[]] 167)) 4 (.bool false)
  rw [World.size_alloc,World.size_alloc,World.size_alloc,hWa] at this
  exact this
 have qa : FrB Wa fb f x h 0:=(hba.block fb hfbl).trans HB.out
 rw [hWa]
 clear hWa
 have c3:=b3.cell
 have c4:=b4.cell
 have cf:=qa.c0
 have HBD : Hid (∀ nq : Nat,Calls Tryz.prog 76 #[.pointer (some ⟨cb,0,none⟩),.int .i64 (f : Int)] (Wa.drewN nq) fun e W'=>∃ a cap,e = .returned (.func (.func 119) #[] #[.pointer (some ⟨W.heap.size + 1 + 1 + 1 + 1,0,none⟩)]) ∧ W' = (Wa.drewN nq).alloc (.cells #[.slice a ll.length cap] 46) ∧ RdL (Lt n₀) (Wa.drewN nq) 5 Ins.vals (.slice a ll.length cap) ll):=fun nq=>by
  have hC' : CodeP (Lt n₀) (Wa.drewN nq) cb fs reds:=HC.out.turn (fun b hb hlt=>⟨hb,hba.block b hlt⟩)
  have:=body_calls (Wa.drewN nq) hC' HL.out
  rw [show (Wa.drewN nq).heap.size = W.heap.size + 1 + 1 + 1 + 1 from hsa] at this
  exact this
 have HBA:=hide hba
 have HQA:=hide qa
 have HSA:=hide hsa
 clear hba qa hsa
 refine region_split (F:=FW) (C:=fun w'=>∃ n,w' = Wa.drewN n) (ro:=none) (k:=5) (r:=1) hmix rfl (by kernel_rfl) (by kernel_rfl) ⟨1,rfl⟩ ?_
 simp only [List.take_succ_cons,List.take_zero]
 repeat (gi_big_quiet_step (fail))
 refine wpQuietIn_nil ?_
 intro _ hw'
 obtain ⟨nq,hw''⟩:=hw'
 subst hw''
 refine wpAnyIn_ready (rs:=[5]) (by kernel_rfl) (by simp) ?_
 refine AllReadyIn.cons rfl (fun K hK=>?_) AllReadyIn.nil
 go_simp
 refine ⟨trivial,room_none _,?_⟩
 refine CallsIn.mono ((callsIn_wide (n:=m - 1)).2 (HBD.out nq)) ?_
 rintro e w2 ⟨a1,cap1,rfl,rfl,hrl⟩
 refine hK _ _ ?_
 clear hK K
 refine wpAnyIn_done (by kernel_rfl) ?_ _
 gi_wp2
 obtain ⟨W0,hW0⟩ : ∃ W0,(Wa.drewN nq).alloc (.cells #[.slice a1 ll.length cap1] 46) = W0:=⟨_,rfl⟩
 have hb0 : Below Wa.heap.size Wa W0:=by rw [← hW0];exact (below_drewN (Below.refl _ Wa) nq).alloc (Nat.le_refl _) _
 have hsz : W0.heap.size = W.heap.size + 5:=by rw [← hW0];have:=HSA.out;simp;omega
 have bl : Boxed W0 (W.heap.size + 1 + 1 + 1 + 1) 46 (.slice a1 ll.length cap1):=by
  have:=Boxed.new (Wa.drewN nq) 46 (.slice a1 ll.length cap1)
  rw [hW0,show (Wa.drewN nq).heap.size = W.heap.size + 1 + 1 + 1 + 1 from HSA.out] at this
  exact this
 have hbW : Below W.heap.size W W0:=HBA.out.trans (hb0.mono HBA.out.size)
 have hrd : RdL (Lt n₀) W0 5 Ins.vals (.slice a1 ll.length cap1) ll:=hrl.turn (fun b hb hlt=>⟨hb,hb0.block b hlt⟩) (fun x _=>List.cons_ne_nil _ _)
 rw [hW0]
 clear hW0
 have sa:=HSA.out
 have X3:=boxed_below b3 hb0 b3.lt
 have X4:=boxed_below b4 hb0 b4.lt
 have X5:=boxed_below b5 hb0 b5.lt
 have X6:=boxed_below b6 hb0 b6.lt
 have Q0 : FrB W0 fb f x h 0:=(hb0.block fb HQA.out.lt).trans HQA.out
 have hok:=L.ok f ll HL.out
 obtain ⟨zs,hzs⟩:=insV_of (p:=fun i=>mayB fs.length reds.length f i = true ∧ i.wf) ll hok
 have hzl : zs.length = ll.length:=by have:=congrArg List.length hzs;rw [List.length_map] at this;exact this
 clear hrl b3 b4 b5 b6 c3 c4 cf HBD
 refine wpIn_rangeFunc_ownH rfl (by omega) (gf:=119) (lb:=#[.pointer (some ⟨W.heap.size + 1 + 1 + 1 + 1,0,none⟩)]) rfl trivial (enters_of Tryz.func119 (by kernel_rfl) rfl)
  (values_stops (α:={ i : Ins // mayB fs.length reds.length f i = true ∧ i.wf }) (fun x=>x.1) (m - 1) (W.heap.size + 1 + 1 + 1 + 1) n₀ _ zs (by omega) W0 (by omega) (by omega) bl.cell (by rw [hzs];exact hrd)) belowK_t (belowK_b (by omega)) (Below.refl _ _) (fun _=>rfl)
  (WalkI fs n₀ l d f x h J cb fb pre W)
  (fun _ _ _=>False)
  (WalkI.own L (by omega) (by omega) (by omega))
  (fun _ _ _ _ _ hs _ _=>hs)
  ⟨by simp only [List.map_nil,serL,List.append_nil];exact L.abide _ _ _ HJ.out (KC.of_below hbW),Q0,X3,X4,X5,X6,KI.of_below hbW (by omega)⟩
  (fun i a' V=>∃ Bi,W.heap.size ≤ Bi ∧ Box5 V Bi i.1 ∧ a' = { tmps:=#[.pointer (some ⟨cb,0,none⟩),.pointer (some ⟨fb,0,none⟩),.func (.yield l) #[] #[],.pointer (some ⟨W.heap.size,0,none⟩),.pointer (some ⟨W.heap.size + 1,0,none⟩),.pointer (some ⟨W.heap.size + 1 + 1,0,none⟩),.pointer (some ⟨W.heap.size + 1 + 1 + 1,0,none⟩),.pointer (some ⟨Bi,0,none⟩),.pointer (some ⟨cb,0,none⟩),.pointer (some ⟨fb,0,none⟩),.pointer (some ⟨fb,0,none⟩),.pointer (some ⟨fb,0,none⟩),.int .i64 (f : Int),.func (.func 119) #[] #[.pointer (some ⟨W.heap.size + 1 + 1 + 1 + 1,0,none⟩)],i.1.agg,undef,undef,undef,undef,undef,undef],defers:=[] })
  (fun i a' s X Y row hs hg hr=>by
   obtain ⟨Bi,h1,h2,h3⟩:=hs
   exact ⟨Bi,h1,box5_own (β:=Unit) Bi i.1 () X Y row h2 hg (fun r e=>(hr r e).2),h3⟩) ?assign ?body ?done ?stop
 case assign =>
  rintro l2 ip i V K hi hK
  have hV : Below V.heap.size V (V.alloc (.cells #[.int .i64 i.1.op,.int .i64 i.1.f,.int .i64 i.1.r,.int .i64 i.1.k,.int .i64 i.1.l] 45)):=(Below.refl _ V).alloc (Nat.le_refl _) _
  have hs3:=hi.b6.lt
  have hs4:=hi.ki.below.size
  dsimp only [Ins.agg]
  gi_wp2
  refine hK _ _ ((KeepsOthers.alloc _ _).from _) (hV.mono (by omega)) ⟨L.abide _ _ _ hi.jj (KC.of_below hV),hi.fr.al _,hi.b3.alloc _,hi.b4.alloc _,hi.b5.alloc _,hi.b6.alloc _,hi.ki.trans (KI.of_below hV (by omega))⟩ ⟨V.heap.size,by omega,Box5.new V i.1,rfl⟩
 case body =>
  rintro l2 ip i a2 V hl2 ⟨r2,hr2⟩ hi ⟨Bi,hBi,bI,rfl⟩ hlt2
  have g0:=bI.c0
  have g1:=bI.c1
  have g2:=bI.c2
  have g3:=bI.c3
  have g4:=bI.c4
  have c3:=hi.b3.cell
  have c4:=hi.b4.cell
  have c5:=hi.b5.cell
  have hs4:=hi.ki.below.size
  have hrk:=rankL_bd (ip.map (fun y=>y.1)) 0 (by omega)
  rw [List.length_map] at hrk
  have hsl:=serL_len (B:=10 ^ d) (Nat.one_le_pow _ _ (by omega)) hsub x h (ip.map (fun y=>y.1)) 0
  rw [List.length_map] at hsl
  have hmul : (ip.length + 1) * 10 ^ d ≤ 10 * 10 ^ d:=Nat.mul_le_mul_right _ (by omega)
  have hpow : 10 ^ (d + 1) = 10 * 10 ^ d:=by rw [Nat.pow_succ,Nat.mul_comm]
  rw [Nat.add_mul,Nat.one_mul] at hmul
  have HDO:=hide (HD f i.1 x h _ _ V fb i.2.1 i.2.2 (by omega) hrk.1 (by omega) hi.fr hf (by omega) (hi.ki.code HC.out) hi.jj (by rw [List.length_append];omega))
  have HI:=hide hi
  clear hi hrk hsl hmul hpow
  dsimp only [Ins.agg] at HDO ⊢
  gi_wp2_with (refine ⟨trivial,room_none _,?_⟩;gi_at_call 98;refine (CallsIn.inRound l2 (callsIn_wide.2 HDO.out)).mono ?_;rintro e V2 ⟨rfl,k1,k2,k3⟩)
  have hi:=HI.out
  refine ⟨⟨k3.below.size,fun k o hk hko hc=>k3.keep k o hko (by omega) (fun e=>?_) ?_⟩,k3.below,?_,?_,k3.boxed hi.b3 (by omega) (by omega) ⟨by decide,by decide⟩,k3.boxed hi.b4 (by omega) (by omega) ⟨by decide,by decide⟩,k3.boxed hi.b5 (by omega) (by omega) ⟨by decide,by decide⟩,k3.boxed hi.b6 (by omega) (by omega) ⟨by decide,by decide⟩,hi.ki.trans k3⟩
  ·have e : k = fb:=e
   subst e
   rw [show V.heap[k]? = _ from hi.fr] at hko;cases hko;cases hc
  ·cases o <;> first | exact trivial | cases hc
  ·rw [List.map_append,List.map_singleton,serL_snoc,← List.append_assoc];exact k1
  ·rw [List.map_append,List.map_singleton,rankL_snoc];exact k2
 case done =>
  rintro D ys V hD rfl hi hK
  have c6:=hi.b6.cell
  have f6:=hi.b6.frozen
  have HI:=hide hi
  clear hi
  gi_wp2
  have hi:=HI.out
  have hK2:=(KeepsOthers.setCell V ⟨W.heap.size + 1 + 1 + 1,0,none⟩ (.bool true)).same D _ hK rfl
  refine ⟨by simp,.inl ⟨_,_,rfl,run_takeDeferred hK2,?_⟩⟩
  have hs4:=hi.ki.below.size
  have b7 : Boxed (V.setCell ⟨W.heap.size + 1 + 1 + 1,0,none⟩ (.bool true)) (W.heap.size + 1 + 1 + 1) 4 (.bool true):=hi.b6.set _
  have hDne : D ≠ W.heap.size + 1 + 1 + 1:=fun e=>by
   rw [e,show V.heap[W.heap.size + 1 + 1 + 1]? = _ from hi.b6] at hK;cases hK
  have b8 : Boxed ((V.setCell ⟨W.heap.size + 1 + 1 + 1,0,none⟩ (.bool true)).putObj D (.deferred none)) (W.heap.size + 1 + 1 + 1) 4 (.bool true):=(World.putObj_heap_other (by omega)).trans b7
  have hc6:=b8.cell
  have kcs : KC B1 fb0 V (V.setCell ⟨W.heap.size + 1 + 1 + 1,0,none⟩ (.bool true)):=⟨rfl,rfl,rfl,by simp [World.setCell],fun k o hk ho=>by
   refine (Below.heap_setCell _ _ _ _ (fun e=>?_)).trans hk
   have e : k = W.heap.size + 1 + 1 + 1:=e
   subst e
   rcases ho with ho | ho
   ·omega
   ·rw [show V.heap[W.heap.size + 1 + 1 + 1]? = _ from hi.b6] at hk;cases hk;exact absurd (show (4 : Nat) = 89 from ho) (by decide)⟩
  refine ⟨.bool true,by simp [results,Tryz.f71,go_sem,hc6],rfl,?_,?_⟩
  ·have h1:=hi.jj
   rw [hzs] at h1
   exact L.abide _ _ _ h1 (kcs.trans (KC.put (by omega) (by omega) hK2 rfl))
  ·refine ⟨hi.ki.below.trans ?_,fun k o hk h1 h2 h3=>?_⟩
   ·exact ((Below.refl n₀ V).setCell (p:=⟨W.heap.size + 1 + 1 + 1,0,none⟩) (by simp;omega) _).trans (belowK_b (w:=W) (by omega) _ D _ _ (by omega) hK2 rfl rfl)
   ·have hkl:=(Array.getElem?_eq_some_iff.1 hk).1
    rw [World.putObj_heap_other (by omega),Below.heap_setCell _ _ _ _ (show k ≠ W.heap.size + 1 + 1 + 1 by omega)]
    exact hi.ki.keep k o hk h1 h2 h3
 case stop =>
  rintro D c ip V _ _ h _
  exact h.elim
theorem walk_said {fs : List (List Ins)} {reds : List Int} {n₀ l B1 fb0 cb N : Nat} {J : List Ev → World → Prop} (L : Loopy fs reds n₀ l B1 fb0 cb N J) (hf0B : fb0 < B1) : ∀ d,d ≤ 9 → WalkSaid fs reds n₀ l B1 fb0 cb N d J
 | 0,_=>fun f x h pre W fb hfl hfd=>by omega
 | d + 1,hd=>walk_step L (by omega) (do_said L (walk_said L hf0B d (by omega))) hf0B
end Go.Proofs.YtkmakliebhnhbaaGreat
