import Derived.Test.YtkmakliebhnhbaaGreatCrG
import Derived.Test.YtkmakliebhnhbaaGreatValW
import Derived.Test.YtkmakliebhnhbaaGreatCopyA
import Derived.Test.YtkmakliebhnhbaaGreatKeep
namespace Go.Proofs.YtkmakliebhnhbaaGreat
open Go.RowKit Go.Shelf
attribute [local go_sem] Oper.semAt_some
structure AppI (w : World) (pre : List Ins) (W : World) : Prop where
 out : ∃ v,Boxed W w.heap.size 46 v ∧ W.ownsRow w.heap.size 45 5 v pre.length (flat Ins.vals pre) ∧ v.ownBlock ≠ some w.heap.size
 bel : Below w.heap.size w W
theorem AppI.own {w : World} {B : Nat} (hB : w.heap.size ≤ B) : OwnFrom B (AppI w):=fun s X Y row hs hg hr=>by
 obtain ⟨⟨v,h1,h2,h3⟩,h6⟩:=hs
 have hc : ∀ r,row = some r → ∃ o : Obj,X.heap[r]? = some o ∧ o.isCells = false:=fun r e=>(hr r e).2
 exact ⟨⟨v,boxed_own (β:=Unit) _ _ (fun _=>_) () X Y row h1 hg hc,own_keep h2 hg hc,h3⟩,ownFrom_below (β:=Unit) (Nat.le_refl _) hB () X Y row h6 hg hr⟩
set_option maxRecDepth 100000 in
set_option maxHeartbeats 4000000 in
theorem appendSeq_calls (zs : List Ins) (Bs n₀ : Nat) (sv : Value) (w : World) (hlen : zs.length ≤ 2000000) (hBs : Bs < w.heap.size) (hn₀ : n₀ ≤ w.heap.size) (hc : w.cell? ⟨Bs,0,none⟩ = some sv) (hI : RdL (Lt n₀) w 5 Ins.vals sv zs) :
  Calls Tryz.prog 100 #[.slice none 0 0,.func (.func 119) #[] #[.pointer (some ⟨Bs,0,none⟩)]] w fun e w'=>∃ v,e = .returned v ∧ w'.ownsRow w.heap.size 45 5 v zs.length (flat Ins.vals zs) ∧ Below w.heap.size w w':=by
 obtain ⟨m,hm1⟩ : ∃ m : Nat,9 ≤ m:=⟨9,Nat.le_refl _⟩
 refine (callsIn_wide (n:=m)).1 ?_
 have HR:=hide hI
 clear hI
 refine callsIn_of_wp_marks Tryz.func100 rfl trivial ?_ rfl
 simp only [Tryz.ntmps100,List.size_toArray,List.length_cons,List.length_nil,Nat.reduceAdd,Nat.reduceSub,Array.replicate_succ,Array.replicate_zero,List.push_toArray,List.append_toArray,List.nil_append,List.cons_append]
 gi_wp2
 obtain ⟨W0,hW0⟩ : ∃ W0,w.alloc (.cells #[.slice none 0 0] 46) = W0:=⟨_,rfl⟩
 have hsz : W0.heap.size = w.heap.size + 1:=by rw [← hW0];simp
 have hb0 : Below w.heap.size w W0:=by rw [← hW0];exact (Below.refl _ w).alloc (Nat.le_refl _) _
 have bo : Boxed W0 w.heap.size 46 (.slice none 0 0):=by rw [← hW0];exact Boxed.new w _ _
 rw [hW0]
 clear hW0
 refine wpIn_rangeFunc_ownH rfl (by omega) (gf:=119) (lb:=#[.pointer (some ⟨Bs,0,none⟩)]) rfl trivial (enters_of Tryz.func119 (by kernel_rfl) rfl)
  (values_stops (α:=Ins) (fun x=>x) (m - 1) Bs n₀ sv zs hlen W0 (by omega) (by omega) ((hb0.cell (p:=⟨Bs,0,none⟩) hBs).trans hc) (by rw [List.map_id'];exact HR.out.turn (fun b hb hlt=>⟨hb,hb0.block b hlt⟩) (fun x _=>List.cons_ne_nil _ _))) belowK_t (belowK_b (by omega)) (Below.refl _ _) (fun _=>rfl)
  (AppI w)
  (fun _ _ _=>False)
  (AppI.own (by omega))
  (fun _ _ _ _ _ hs _ _=>hs)
  ⟨⟨_,bo,World.ownsRow_nil _ _ _ _,by simp [Value.ownBlock]⟩,hb0⟩
  (fun x a' W=>∃ Bi,w.heap.size < Bi ∧ Box5 W Bi x ∧ a' = { tmps:=#[.slice none 0 0,.func (.func 119) #[] #[.pointer (some ⟨Bs,0,none⟩)],.pointer (some ⟨w.heap.size,0,none⟩),undef,.slice none 0 0,.pointer (some ⟨Bi,0,none⟩),.func (.func 119) #[] #[.pointer (some ⟨Bs,0,none⟩)],x.agg,undef,undef,undef,undef,undef],defers:=[] })
  (fun x a' s X Y row hs hg hr=>by
   obtain ⟨Bi,h1,h2,h3⟩:=hs
   exact ⟨Bi,h1,box5_own (β:=Unit) Bi x () X Y row h2 hg (fun r e=>(hr r e).2),h3⟩) ?assign ?body ?done ?stop
 case assign =>
  rintro l pre x W K ⟨⟨v,bv,hO,hvo⟩,hbW⟩ hK
  have hsW:=bv.lt
  have hV : Below W.heap.size W (W.alloc (.cells #[.int .i64 x.op,.int .i64 x.f,.int .i64 x.r,.int .i64 x.k,.int .i64 x.l] 45)):=(Below.refl _ W).alloc (Nat.le_refl _) _
  dsimp only [Ins.agg]
  gi_wp2
  exact hK _ _ (keepsFrom_below hV) (hV.mono (by omega)) ⟨⟨v,bv.alloc _,hO.alloc _,hvo⟩,hbW.trans (hV.mono hbW.size)⟩ ⟨W.heap.size,hsW,Box5.new W x,rfl⟩
 case body =>
  rintro l pre x a' W hl ⟨r,hr⟩ ⟨⟨v,bv,hO,hvo⟩,hbW⟩ ⟨Bi,hBi,bI,rfl⟩ hlt
  obtain ⟨va,vc,rfl⟩:=own_form hO
  have hsW:=hbW.size
  have sO:=bv.lt
  have bc:=bv.cell
  have bf:=bv.frozen
  have g0:=bI.c0
  have g1:=bI.c1
  have g2:=bI.c2
  have g3:=bI.c3
  have g4:=bI.c4
  have sI:=bI.lt
  obtain ⟨op,F,R,Kk,L⟩:=x
  dsimp only at g0 g1 g2 g3 g4
  obtain ⟨np,hnp⟩ : ∃ np,pre.length = np:=⟨_,rfl⟩
  rw [hnp] at hO bv hvo hlt bc
  have HNP:=hide hnp
  have HO:=hide hO
  have Hvo:=hide hvo
  have HbW:=hide hbW
  have HBI:=hide bI
  obtain ⟨iv,hiv,hv0,hv1,hv2⟩:=info_parts Tryz.infoIns2
  clear hO hvo hbW bI hnp
  dsimp only [Ins.agg]
  gi_wp2_with (gi_at_builtin;refine wpListIn_app2 _ rfl _ _ 46 rfl w.heap.size 45 iv _ 5 40 Tryz.underlying46 hiv hv0 hv1 hv2 rfl (by decide) _ _ _ rfl (HO.out.alloc _) (.slice (some ⟨W.heap.size,0,none⟩) 1 1) 1 [.int .i64 op,.int .i64 F,.int .i64 R,.int .i64 Kk,.int .i64 L] rfl (srcA W #[.int .i64 op,.int .i64 F,.int .i64 R,.int .i64 Kk,.int .i64 L] 45 _ 0 _ rfl rfl 5 1 rfl) (by simp [Value.oneCell']) ?h63 ?hbytes ?hbase ?_)
  case h63=>unfold maxLen;omega
  case hbytes=>omega
  case hbase=>simp;omega
  intro a' cap' w2 ho hg _ hlie _
  have k2 : ∀ k,k < W.heap.size → (Value.slice va np vc).ownBlock ≠ some k → w2.heap[k]? = W.heap[k]?:=fun k hk hne=>(hg.block k (by simp;omega) (fun e=>hne e.symm)).trans (Below.heap_alloc _ _ _ hk)
  have bo2 : Boxed w2 w.heap.size 46 (.slice va np vc):=(k2 _ sO Hvo.out).trans bv
  have e1:=bo2.cell
  have e2:=bo2.frozen
  have HOO:=hide ho
  have HGG:=hide hg
  have HK2:=hide k2
  have HLIE:=hide hlie
  have HBO2:=hide bo2
  clear ho hg k2 hlie hiv hv0 hv1 hv2
  gi_wp2
  have hnew : (Value.slice a' (np + 1) cap').ownBlock ≠ some w.heap.size:=by
   rcases HLIE.out with e | e
   ·rw [e];exact Hvo.out
   ·rw [e];intro h;injection h with h;omega
  have hkeep : ∀ (q : Nat) (o : Obj),W.heap[q]? = some o → o.isCells = false → (w2.setCell ⟨w.heap.size,0,none⟩ (.slice a' (np + 1) cap')).heap[q]? = some o:=fun q o hq ho=>by
   have hql:=(Array.getElem?_eq_some_iff.1 hq).1
   have h1 : q ≠ w.heap.size:=fun e=>by subst e;rw [show W.heap[w.heap.size]? = _ from bv] at hq;cases hq;cases ho
   have h2 : (Value.slice va np vc).ownBlock ≠ some q:=fun e=>by
    rcases HO.out.2 with ⟨h0,_⟩ | ⟨g,cap,cur,h0,_,hg,_⟩
    ·rw [h0] at e;cases e
    ·rw [h0] at e;injection e with e;subst e;rw [hg] at hq;cases hq;cases ho
   rw [Below.heap_setCell _ _ _ _ h1,HK2.out q hql h2,hq]
  have hbn : Below w.heap.size W (w2.setCell ⟨w.heap.size,0,none⟩ (.slice a' (np + 1) cap')):=by
   refine Below.setCell (p:=⟨w.heap.size,0,none⟩) ?_ (Nat.le_refl _) _
   exact ((Below.refl _ W).alloc (by omega) _).grown HGG.out (by simp;omega) (fun q hq=>(HO.out.lt q hq).1)
  refine ⟨⟨by have:=hbn.size;omega,fun q o _ hq ho=>hkeep q o hq ho⟩,hbn.mono hn₀,⟨⟨_,HBO2.out.set _,?_,hnew⟩,HbW.out.trans hbn⟩⟩
  rw [List.length_append,HNP.out,flat_append]
  exact own_turn HOO.out (fun b hb _=>Below.heap_setCell _ _ _ _ (fun e=>hnew (by rw [hb];exact congrArg some e)))
 case done =>
  rintro D ps W hD rfl ⟨⟨v,bv,hO,hvo⟩,hbW⟩ hK
  have hZ:=bv.cell
  obtain ⟨va,vc,rfl⟩:=own_form hO
  have HO:=hide hO
  have HBW:=hide hbW
  clear hO hbW
  gi_wp2
  refine ⟨by simp,.inl ⟨_,_,rfl,run_takeDeferred hK,?_⟩⟩
  exact ⟨_,results_tmp rfl _ _ _,_,rfl,own_keep HO.out (grownBy_putObj' W D (.deferred none)) (fun r e=>by cases e;exact ⟨_,hK,rfl⟩),HBW.out.trans (belowK_b (w:=w) (Nat.le_refl _) _ D _ _ (by omega) hK rfl rfl)⟩
 case stop =>
  rintro D c pre W _ _ h _
  exact h.elim
set_option maxHeartbeats 1000000 in
theorem collect_calls (zs : List Ins) (Bs n₀ : Nat) (sv : Value) (w : World) (hlen : zs.length ≤ 2000000) (hBs : Bs < w.heap.size) (hn₀ : n₀ ≤ w.heap.size) (hc : w.cell? ⟨Bs,0,none⟩ = some sv) (hI : RdL (Lt n₀) w 5 Ins.vals sv zs) :
  Calls Tryz.prog 75 #[.func (.func 119) #[] #[.pointer (some ⟨Bs,0,none⟩)]] w fun e w'=>∃ v,e = .returned v ∧ w'.ownsRow w.heap.size 45 5 v zs.length (flat Ins.vals zs) ∧ Below w.heap.size w w':=by
 have H:=hide (appendSeq_calls zs Bs n₀ sv w hlen hBs hn₀ hc hI)
 clear hI
 go_enter Tryz.func75,Tryz.ntmps75
 go_wp2_with (go_at_call 100;refine H.out.mono ?_;rintro e w' ⟨v,rfl,h1,h2⟩)
 go_ret
 exact ⟨v,rfl,h1,h2⟩
set_option maxHeartbeats 1000000 in
theorem gifts_calls {S : Nat → Prop} {fs : List (List Ins)} {reds : List Int} {cb f : Nat} (W : World) (hC : CodeP S W cb fs reds) (hf : f < fs.length) :
  Calls Tryz.prog 58 #[.pointer (some ⟨cb,0,none⟩),.int .i64 (f : Int)] W fun e W'=>e = .returned (.int .i64 (gift fs f : Nat)) ∧ W' = W:=by
 obtain ⟨vf,vk,g,s1,c0,c1,c2,s2,h0,hF,hK,hA⟩:=hC
 have h1:=(hA f hf).2
 simp only [toZ] at h1
 have HQ : Hid ((sizeF fs fs.length f).2 = gift fs f):=rfl
 rw [HQ.out] at h1
 obtain ⟨n,hn⟩ : ∃ n,fs.length = n:=⟨_,rfl⟩
 rw [hn] at c2 h0 hf
 obtain ⟨q,hq⟩ : ∃ q,gift fs f = q:=⟨_,rfl⟩
 rw [hq] at h1 ⊢
 clear hF hK hA hn hq HQ c0 c1
 have hni : (f : Int) < n:=by omega
 go_enter Tryz.func58,Tryz.ntmps58
 go_wp2
 go_ret
 exact ⟨rfl,rfl⟩
end Go.Proofs.YtkmakliebhnhbaaGreat
