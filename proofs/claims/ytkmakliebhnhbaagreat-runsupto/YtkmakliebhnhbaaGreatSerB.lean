import Derived.Test.YtkmakliebhnhbaaGreatSerA
import Derived.Test.YtkmakliebhnhbaaGreatCopyW
namespace Go.Proofs.YtkmakliebhnhbaaGreat
open Go.RowKit Go.Shelf
attribute [local go_sem] Oper.semAt_some
theorem ownV_turn {W W' : World} {base n : Nat} {lv : Value} {V : Nat → Val} {LV : Nat → Value} {xs : List Value} (h : OwnV W base lv n V LV xs) (hk : ∀ b,base ≤ b → b < W.heap.size → W'.heap[b]? = W.heap[b]?) : OwnV W' base lv n V LV xs :=
  ⟨own_turn h.row (fun b hb hlt=>hk b (h.row.lt b hb).1 hlt),h.n0,h.n1,h.n2,fun r hr=>own_turn (h.own r hr) (fun b hb hlt=>hk b ((h.own r hr).lt b hb).1 hlt),h.off,h.apart⟩
set_option maxRecDepth 100000 in
set_option maxHeartbeats 8000000 in
theorem serialRun_calls (fs : List (List Ins)) (reds : List Int) (cb : Nat) (seed x : Int) (w : World) (hn0 : 0 < fs.length) (hn8 : fs.length ≤ 8) (hok : FsOk fs reds.length) (hl10 : ∀ l ∈ fs,l.length ≤ 10) (hr4 : reds.length ≤ 4) (hkd : ∀ k ∈ reds,1 ≤ k ∧ k ≤ 5) (hC : CodeP (Lt w.heap.size) w cb fs reds) :
    Calls Tryz.prog 37 #[.pointer (some ⟨cb,0,none⟩),.int .u64 seed,.int .i64 x] w fun e w'=>∃ lv tv LV xs,e = .returned (.agg #[lv,tv,.int .i64 0,.int .i64 0,.int .i64 0,.int .i64 (framesF fs)]) ∧
      OwnV w' w.heap.size lv reds.length (valsZ reds (traceZ fs seed x)) LV xs ∧ w'.ownsRow w.heap.size 89 3 tv (traceZ fs seed x).length (evCells (traceZ fs seed x)) ∧ Clear lv tv ∧ (∀ r,r < reds.length → Clear (LV r) tv) ∧ Below w.heap.size w w':=by
  obtain ⟨m,hm1⟩ : ∃ m : Nat,9 ≤ m:=⟨9,Nat.le_refl _⟩
  refine (callsIn_wide (n:=m)).1 ?_
  have hmix : Tryz.prog.follows .mixedOrders = true:=by kernel_rfl
  have HC:=hide hC
  have Hok:=hide hok
  have Hl10:=hide hl10
  have Hkd:=hide hkd
  clear hC hok hl10 hkd
  refine callsIn_of_wp_marks Tryz.func37 rfl trivial ?_ rfl
  simp only [Tryz.ntmps37,List.size_toArray,List.length_cons,List.length_nil,Nat.reduceAdd,Nat.reduceSub,Array.replicate_succ,Array.replicate_zero,List.push_toArray,List.append_toArray,List.nil_append,List.cons_append]
  gi_wp2_with (first
    | (refine ⟨trivial,room_none _,?_⟩;gi_at_call 49;refine (callsIn_wide.2 (root_calls seed x _)).mono ?_;rintro e wr ⟨rfl,hbr⟩)
    | (refine ⟨trivial,room_none _,?_⟩;gi_at_call 48;refine (callsIn_wide.2 (events_calls cb x seed _)).mono ?_;rintro e w' ⟨rfl,rfl⟩))
  obtain ⟨w1,hw1⟩ : ∃ w1,(wr.alloc (.cells #[.pointer (some ⟨cb,0,none⟩)] 94)).alloc (.cells #[.int .i64 0,.int .i64 x,.int .u64 seed,.int .u64 0] 121) = w1:=⟨_,rfl⟩
  have hbz : Below w.heap.size w wr:=(((Below.refl _ w).alloc (Nat.le_refl _) _).alloc (by simp) _).trans (hbr.mono (by simp;omega))
  have hsr : w.heap.size + 2 ≤ wr.heap.size:=by have:=hbr.size;simpa using this
  have o0 : OutB wr w.heap.size (.slice none 0 0) (.slice none 0 0) 0:=(hbr.block _ (by simp;omega)).trans ((Below.heap_alloc _ _ _ (by simp)).trans (World.alloc_heap_new w _))
  have o1 : OutB wr (w.heap.size + 1) (.slice none 0 0) (.slice none 0 0) 0:=(hbr.block _ (by simp)).trans (by
    have:=World.alloc_heap_new (w.alloc (.cells #[.slice none 0 0,.slice none 0 0,.int .i64 0,.int .i64 0,.int .i64 0,.int .i64 0] 69)) (.cells #[.slice none 0 0,.slice none 0 0,.int .i64 0,.int .i64 0,.int .i64 0,.int .i64 0] 69)
    rw [World.size_alloc] at this
    exact this)
  have hb1 : Below wr.heap.size wr w1:=by rw [← hw1];exact ((Below.refl _ wr).alloc (Nat.le_refl _) _).alloc (by simp) _
  have hs1 : w1.heap.size = wr.heap.size + 2:=by rw [← hw1];simp
  have bc : Boxed w1 wr.heap.size 94 (.pointer (some ⟨cb,0,none⟩)):=by rw [← hw1];exact (Boxed.new wr _ _).alloc _
  have fb : FrB w1 (wr.heap.size + 1) 0 x seed 0:=by
    have:=World.alloc_heap_new (wr.alloc (.cells #[.pointer (some ⟨cb,0,none⟩)] 94)) (.cells #[.int .i64 0,.int .i64 x,.int .u64 seed,.int .u64 0] 121)
    rw [World.size_alloc,hw1] at this
    exact this
  have hbw : Below w.heap.size w w1:=hbz.trans (hb1.mono (by omega))
  have hI0 : SerI w w.heap.size [] w1:=⟨⟨_,(hb1.block _ o1.lt).trans o1,World.ownsRow_nil _ _ _ _⟩,(hb1.block _ o0.lt).trans o0,hbw⟩
  rw [hw1]
  clear hw1 hbr hbz o0 o1 hb1
  refine range_keep (α:=Ev) rfl (by omega) (gf:=70) (lb:=#[.pointer (some ⟨wr.heap.size,0,none⟩),.pointer (some ⟨wr.heap.size + 1,0,none⟩)]) rfl trivial (enters_of Tryz.func70 (by kernel_rfl) rfl)
    (encs:=fun y=>#[.agg #[.int .i64 y.w,.int .i64 y.r,.int .i64 y.n]]) (fun _=>rfl) (KI w.heap.size (w1.heap.size + 1) (fun _=>False)) (fun h k=>h.trans k)
    (fun W o' hl=>⟨(Below.refl _ W).grown (grownBy_putObj' W _ o') (by omega) (fun k e=>by cases e;omega),fun k o hk h1 _ _=>(World.putObj_heap_other (by omega)).trans hk⟩)
    (SerI w w.heap.size) (fun _ _ _=>False)
    (fun pre W o o' hi ho hc=>hi.put ho hc (by omega))
    (fun _ _ _ _ _ h _ _=>h)
    (fun o o'=>(hI0.al o).al o')
    (S:=fun ys=>ys = traceZ fs seed x) (ok:=fun pre _=>pre.length < 100000000)
    ?seq
    (fun y a' W=>∃ Be,W.heap[Be]? = some (.cells #[.int .i64 y.w,.int .i64 y.r,.int .i64 y.n] 89 (0,0)) ∧ a' = { tmps:=#[.pointer (some ⟨cb,0,none⟩),.int .u64 seed,.int .i64 x,undef,undef,undef,.pointer (some ⟨w.heap.size,0,none⟩),.pointer (some ⟨w.heap.size + 1,0,none⟩),.pointer (some ⟨Be,0,none⟩),.pointer (some ⟨cb,0,none⟩),.int .u64 seed,.int .i64 x,.agg #[.int .i64 0,.int .i64 x,.int .u64 seed,.int .u64 0],.func (.func 70) #[] #[.pointer (some ⟨wr.heap.size,0,none⟩),.pointer (some ⟨wr.heap.size + 1,0,none⟩)],.agg #[.int .i64 y.w,.int .i64 y.r,.int .i64 y.n],undef,undef,undef,undef,undef,undef,undef,undef,undef,undef,undef,undef,undef,undef,undef,undef,undef],defers:=[] })
    (fun y a' W o' hs hl hr=>by
      obtain ⟨Be,h2,h3⟩:=hs
      obtain ⟨r,hr⟩:=hr
      exact ⟨Be,(World.putObj_heap_other (fun e=>by rw [← e,h2] at hr;cases hr)).trans h2,h3⟩) ?assign ?body ?done ?stop
  case seq =>
    intro Rd Jx W1 hbl hsz hRd hJx hY hR1 hR2 hi0 hrd0
    have L : Loopy fs reds w.heap.size (w1.heap.size + 1) W1.heap.size (wr.heap.size + 1) cb 100000000 (fun pre W=>SerI w w.heap.size pre W ∧ Rd W):=by
      refine ⟨fun pre W W' hj hc=>⟨hj.1.kc hc (by omega) (Nat.le_refl _) ⟨by omega,by omega,by omega⟩,?_⟩,fun mm pre y W hj hlt=>?_,by omega,by omega,by omega,by omega,Hok.out,Hl10.out⟩
      · obtain ⟨⟨r,h1⟩,h2⟩:=hR1 W hj.2
        exact hRd W W' hj.2 ((hc.keep _ _ h1 (.inl (by omega))).trans h1.symm) ((hc.keep _ _ h2 (.inl (by omega))).trans h2.symm)
      · refine YieldAt.any mm (YieldAt.mono (hY pre y W hj.1 hj.2 hlt) (fun e W' h=>?_))
        rcases h with ⟨h1,h2,h3,h4⟩ | ⟨_,h2⟩
        · exact ⟨h1,⟨h2,h3⟩,h4⟩
        · obtain ⟨⟨c,hf⟩,_⟩:=hR2 _ _ h2
          exact hf.elim
    have hC1 : CodeP (Lt w.heap.size) W1 cb fs reds:=HC.out.turn (fun b hb hlt=>⟨hb,(hbl.block b (by omega)).trans (hbw.block b hlt)⟩)
    have:=walkAll_calls L (by omega) hn0 hn8 wr.heap.size x seed W1 ((hbl.cell (p:=⟨wr.heap.size,0,none⟩) (by simp;omega)).trans bc.cell) ((hbl.block _ (by omega)).trans fb) (Nat.le_refl _) hC1 ⟨hi0,hrd0⟩
    exact (callsIn_wide.2 this).mono (fun e W' ⟨h1,h2,h3⟩=>⟨h1,.inl ⟨_,rfl,h2,h3⟩⟩)
  case assign =>
    rintro pre y W K hi ⟨r,hr⟩ hK
    have hl:=(Array.getElem?_eq_some_iff.1 hr).1
    have hV : ∀ o,Below W.heap.size W (W.alloc o):=fun o=>(Below.refl _ W).alloc (Nat.le_refl _) _
    gi_wp2
    exact hK _ _ ⟨Below.heap_alloc _ _ _ hl,Below.heap_alloc _ _ _ (by omega)⟩ (KI.of_below (hV _) (by omega)) (hi.al _) ⟨W.heap.size,World.alloc_heap_new W _,rfl⟩
  case body =>
    rintro pre y a' W ⟨r,hr⟩ hD hi ⟨Be,hBe,rfl⟩ hlt
    obtain ⟨tv,t1,t2⟩:=hi.out
    obtain ⟨ta,tc,rfl⟩:=own_form t2
    have g0 : W.cell? ⟨Be,0,none⟩ = some (.int .i64 y.w):=by simp [World.cell?,hBe]
    have g1 : W.cell? ⟨Be,1,none⟩ = some (.int .i64 y.r):=by simp [World.cell?,hBe]
    have g2 : W.cell? ⟨Be,2,none⟩ = some (.int .i64 y.n):=by simp [World.cell?,hBe]
    have c1:=t1.c1
    have sO:=t1.lt
    obtain ⟨iv,hiv,hv0,hv1,hv2⟩:=info_parts Tryz.infoEvP
    obtain ⟨np,hnp⟩ : ∃ np,pre.length = np:=⟨_,rfl⟩
    rw [hnp] at c1 t1 t2 hlt
    have HNP:=hide hnp
    have HT:=hide t2
    have HO:=hide t1
    have HI:=hide hi
    have hsW:=hi.bel.size
    have HR:=hide hr
    have HDD:=hide hD
    clear t1 t2 hnp hi hr hD
    gi_wp2_with (gi_at_builtin;refine wpListIn_app2 _ rfl _ _ 65 rfl w.heap.size 89 iv _ 3 24 Tryz.underlying65 hiv hv0 hv1 hv2 rfl (by decide) _ _ _ rfl (HT.out.alloc _) (.slice (some ⟨W.heap.size,0,none⟩) 1 1) 1 [.int .i64 y.w,.int .i64 y.r,.int .i64 y.n] rfl (cells3 W _ _ _ _ _ rfl) (by simp [Value.oneCell']) ?h63 ?hbytes ?hbase ?_)
    case h63=>unfold maxLen;omega
    case hbytes=>omega
    case hbase=>simp;omega
    intro a2 cap2 w2 ho hg _ hlie _
    have k2 : ∀ k,k < W.heap.size → (Value.slice ta np tc).ownBlock ≠ some k → w2.heap[k]? = W.heap[k]?:=fun k hk hne=>(hg.block k (by simp;omega) (fun e=>hne e.symm)).trans (Below.heap_alloc _ _ _ hk)
    have hrow : ∀ (k : Nat) (o : Obj),W.heap[k]? = some o → ¬ isEv o → (Value.slice ta np tc).ownBlock ≠ some k:=fun k o hk ho e=>by
      rcases HT.out.2 with ⟨h0,_⟩ | ⟨g,cap,cur,h0,_,hg,_⟩
      · rw [h0] at e;cases e
      · rw [h0] at e;injection e with e;subst e;rw [hk] at hg;cases hg;exact ho rfl
    have hkeep : ∀ (k : Nat) (o : Obj),W.heap[k]? = some o → ¬ isEv o → w2.heap[k]? = some o:=fun k o hk ho=>(k2 k (Array.getElem?_eq_some_iff.1 hk).1 (hrow k o hk ho)).trans hk
    have hEO : ¬ isEv (.cells #[.slice none 0 0,.slice ta np tc,.int .i64 0,.int .i64 0,.int .i64 0,.int .i64 0] 69 (0,0)):=fun h=>absurd (show (69 : Nat) = 89 from h) (by decide)
    have o2 : OutB w2 (w.heap.size + 1) (.slice none 0 0) (.slice ta np tc) 0:=hkeep _ _ HO.out hEO
    have e1:=o2.c1
    have e2:=o2.fz 1
    have HOO:=hide ho
    have HGG:=hide hg
    have HKP:=hide hkeep
    have HO2:=hide o2
    clear ho hg k2 hrow hkeep hEO o2 hlie hiv hv0 hv1 hv2
    gi_wp2
    have hi:=HI.out
    have hs2 : W.heap.size + 1 ≤ w2.heap.size:=by have:=HGG.out.size;simpa using this
    have hbn : Below w.heap.size W (w2.setCell ⟨w.heap.size + 1,1,none⟩ (.slice a2 (np + 1) cap2)):=by
      refine Below.setCell (p:=⟨w.heap.size + 1,1,none⟩) ?_ (by simp) _
      exact ((Below.refl _ W).alloc hsW _).grown HGG.out (by simp;omega) (fun q hq=>(HT.out.lt q hq).1)
    have kk : ∀ (k : Nat) (o : Obj),W.heap[k]? = some o → ¬ isEv o → k ≠ w.heap.size + 1 → (w2.setCell ⟨w.heap.size + 1,1,none⟩ (.slice a2 (np + 1) cap2)).heap[k]? = some o:=fun k o hk ho hne=>(Below.heap_setCell _ _ _ _ hne).trans (HKP.out k o hk ho)
    have hl0:=(Array.getElem?_eq_some_iff.1 HR.out).1
    refine ⟨⟨(kk _ _ HR.out (fun h=>h) (by omega)).trans HR.out.symm,(kk _ _ HDD.out (fun h=>h) (by omega)).trans HDD.out.symm⟩,⟨hbn,fun k o hk h1 _ h3=>kk k o hk (fun h=>?_) (fun e=>?_)⟩,⟨⟨_,HO2.out.s1 _,?_⟩,kk _ _ hi.res (fun h=>absurd (show (69 : Nat) = 89 from h) (by decide)) (by omega),hi.bel.trans hbn⟩⟩
    · cases o <;> first | exact h | exact absurd h h3.1
    · subst e
      rw [show W.heap[w.heap.size + 1]? = _ from HO.out] at hk
      cases hk
      exact h3.2 rfl
    · have h4:=HOO.out
      rw [List.length_append,HNP.out,evCells_append]
      refine own_turn h4 (fun b hb _=>Below.heap_setCell _ _ _ _ (fun e=>?_))
      subst e
      rcases h4.2 with ⟨h0,_⟩ | ⟨g,cap,cur,h0,_,hg,_⟩
      · rw [h0] at hb;cases hb
      · rw [h0] at hb;injection hb with hb;subst hb
        rw [show w2.heap[w.heap.size + 1]? = _ from HO2.out] at hg;cases hg
  case done =>
    rintro ys W rfl hi hD ⟨r,hr⟩
    obtain ⟨tv,t1,t2⟩:=hi.out
    have hnn : ∀ e ∈ traceZ fs seed x,∃ q : Nat,e.r = q:=fun e he=>by
      obtain ⟨q,hq,_⟩:=ser_r Hok.out _ _ _ _ e he
      exact ⟨q,hq⟩
    have htl:=trace_len hn8 Hl10.out seed x
    obtain ⟨evs,hevs⟩ : ∃ evs,traceZ fs seed x = evs:=⟨_,rfl⟩
    rw [hevs] at t2 hnn htl
    have HEV:=hide hevs
    clear hevs
    obtain ⟨ta,tc,rfl⟩:=own_form t2
    have hsW:=hi.bel.size
    have hCW : CodeP (Lt w.heap.size) W cb fs reds:=HC.out.turn (fun b hb hlt=>⟨hb,hi.bel.block b hlt⟩)
    have HKN : Hid (Calls Tryz.prog 51 #[.pointer (some ⟨cb,0,none⟩)] W.drew fun e W2=>e = .returned (.func (.func 99) #[] #[.pointer (some ⟨W.heap.size,0,none⟩)]) ∧ Below W.heap.size W W2 ∧
        Calls Tryz.prog 50 #[.func (.func 99) #[] #[.pointer (some ⟨W.heap.size,0,none⟩)],.slice ta evs.length tc] W2 fun e W3=>∃ lv LV xs,e = .returned lv ∧ OwnV W3 W.heap.size lv reds.length (valsZ reds evs) LV xs ∧ Below W.heap.size W W3):=by
      refine (kinds_calls W.drew (S:=Lt w.heap.size) (fs:=fs) (reds:=reds) (cb:=cb) hCW).mono (fun e W2 ⟨ka,kc,he,hw2,hrd⟩=>?_)
      have hb2 : Below W.heap.size W W2:=by rw [hw2];exact (Below.refl _ W).drew.alloc (Nat.le_refl _) _
      have hs2 : W2.heap.size = W.heap.size + 1:=by rw [hw2];simp
      have hbx : Boxed W2 W.heap.size 30 (.slice ka reds.length kc):=by rw [hw2];exact Boxed.new W.drew _ _
      refine ⟨he,hb2,?_⟩
      refine (gather_calls reds evs W.heap.size (.slice ka reds.length kc) (.slice ta evs.length tc) W2 Hkd.out hr4 htl (by omega) hbx.cell (hrd.turn (fun b hb hlt=>⟨by have : b < w.heap.size:=hb;show b < W2.heap.size;omega,hb2.block b hlt⟩) (fun x _=>by simp [int64s])) ?_ hnn).mono (fun e W3 ⟨lv,LV,xs,h1,h2,h3⟩=>⟨lv,LV,xs,h1,h2.base (by omega),hb2.trans (h3.mono (by omega))⟩)
      refine own_rd (base:=w.heap.size) (e:=89) (by rw [← evCells_flat];exact own_below t2 hb2) evvals_len (fun b hb=>?_)
      have:=(t2.lt b hb).2
      show b < W2.heap.size
      omega
    have c1:=t1.c1
    have sO:=t1.lt
    have HI:=hide hi
    have HT1:=hide t1
    have HT2:=hide t2
    have HDD:=hide hD
    have HR:=hide hr
    have HCW:=hide hCW
    clear hi t1 t2 hD hr hnn hCW
    obtain ⟨ne,hne⟩ : ∃ ne,evs.length = ne:=⟨_,rfl⟩
    rw [hne] at c1 HKN HT1 HT2 htl
    have HNE:=hide hne
    clear hne
    gi_wp2
    refine wpIn_mono (Q:=NoPanic _) ?_ NoPanic.imp
    gi_region_with_o (first
      | (refine ⟨trivial,room_none _,?_⟩
         gi_at_call 51
         refine (callsIn_wide.2 HKN.out).mono ?_
         rintro e W2 ⟨rfl,hb2,hgv⟩
         have k1 : W2.cell? ⟨w.heap.size + 1,1,none⟩ = some (.slice ta ne tc):=(hb2.cell (p:=⟨w.heap.size + 1,1,none⟩) sO).trans c1
         clear hb2)
      | (refine ⟨trivial,room_none _,?_⟩
         gi_at_call 50
         refine (callsIn_wide.2 hgv).mono ?_
         rintro e W3 ⟨lv,LV,xs,rfl,hOV,hb3⟩
         obtain ⟨va,vc,rfl⟩:=own_form hOV.row
         have q1 : OutB W3 (w.heap.size + 1) (.slice none 0 0) (.slice ta ne tc) 0:=(hb3.block _ sO).trans HT1.out
         have q0:=q1.c0
         have qf:=q1.fz 0))
    all_goals refine NoPanic.normal ?_
    all_goals
      have hsz3:=hb3.size
      have q2 : OutB (W3.setCell ⟨w.heap.size + 1,0,none⟩ (.slice va reds.length vc)) (w.heap.size + 1) (.slice va reds.length vc) (.slice ta ne tc) 0:=q1.s0 _
      have r2 : OutB (W3.setCell ⟨w.heap.size + 1,0,none⟩ (.slice va reds.length vc)) w.heap.size (.slice none 0 0) (.slice none 0 0) 0:=(Below.heap_setCell _ _ _ _ (show w.heap.size ≠ w.heap.size + 1 by omega)).trans ((hb3.block _ HI.out.res.lt).trans HI.out.res)
      obtain ⟨W4,hW4⟩ : ∃ W4,W3.setCell ⟨w.heap.size + 1,0,none⟩ (.slice va reds.length vc) = W4:=⟨_,rfl⟩
      have hk4 : ∀ k,k ≠ w.heap.size + 1 → W4.heap[k]? = W3.heap[k]?:=fun k hk=>by rw [← hW4];exact Below.heap_setCell _ _ _ _ hk
      have hs4 : W4.heap.size = W3.heap.size:=by rw [← hW4];simp [World.setCell]
      have hb4 : Below w.heap.size w W4:=by rw [← hW4];exact (HI.out.bel.trans (hb3.mono hsW)).setCell (p:=⟨w.heap.size + 1,0,none⟩) (by simp) _
      rw [hW4] at q2 r2 ⊢
      have HFR:=hide (cframes_calls W4 (HC.out.turn (S':=Lt w.heap.size) (fun b hb hlt=>⟨hb,hb4.block b hlt⟩)))
      have a0:=q2.c0
      have a1:=q2.c1
      have a2:=q2.c2
      have a3:=q2.c3
      have a4:=q2.c4
      have a5:=q2.c5
      have af:=q2.fz 5
      have sa:=q2.lt
      have z0:=r2.c0
      have z1:=r2.c1
      have z2:=r2.c2
      have z3:=r2.c3
      have z4:=r2.c4
      have z5:=r2.c5
      have zf0:=r2.fz 0
      have zf1:=r2.fz 1
      have zf2:=r2.fz 2
      have zf3:=r2.fz 3
      have zf4:=r2.fz 4
      have zf5:=r2.fz 5
      have sz:=r2.lt
      have HQ2:=hide q2
      have HR2:=hide r2
      have HOV:=hide hOV
      have HK4:=hide hk4
      have HS4:=hide hs4
      have HB4:=hide hb4
      have HB3:=hide hb3
      obtain ⟨ff,hff⟩ : ∃ ff,framesF fs = ff:=⟨_,rfl⟩
      rw [hff] at HFR
      have HFF:=hide hff
      clear q1 q0 qf q2 r2 hOV hk4 hs4 hb4 hb3 hW4 hff
      gi_wp2_with (refine ⟨trivial,room_none _,?_⟩;gi_at_call 52;refine (callsIn_wide.2 HFR.out).mono ?_;rintro e w5 ⟨rfl,rfl⟩)
    all_goals
      have hi:=HI.out
      have hlW:=(Array.getElem?_eq_some_iff.1 HDD.out).1
      have hHne : ∀ (b : Nat),b ≠ w.heap.size → b ≠ w.heap.size + 1 → ((((((((w5.setCell ⟨w.heap.size + 1,5,none⟩ (.int .i64 (ff : Int))).setCell ⟨w.heap.size,0,none⟩ (.slice va reds.length vc)).setCell ⟨w.heap.size,1,none⟩ (.slice ta ne tc)).setCell ⟨w.heap.size,2,none⟩ (.int .i64 0)).setCell ⟨w.heap.size,3,none⟩ (.int .i64 0)).setCell ⟨w.heap.size,4,none⟩ (.int .i64 0)).setCell ⟨w.heap.size,5,none⟩ (.int .i64 (ff : Int)))).heap[b]? = W3.heap[b]?:=fun b h1 h2=>by
        rw [Below.heap_setCell _ _ _ _ h1,Below.heap_setCell _ _ _ _ h1,Below.heap_setCell _ _ _ _ h1,Below.heap_setCell _ _ _ _ h1,Below.heap_setCell _ _ _ _ h1,Below.heap_setCell _ _ _ _ h1,Below.heap_setCell _ _ _ _ h2]
        exact HK4.out b h2
      have hres : OutB ((((((((w5.setCell ⟨w.heap.size + 1,5,none⟩ (.int .i64 (ff : Int))).setCell ⟨w.heap.size,0,none⟩ (.slice va reds.length vc)).setCell ⟨w.heap.size,1,none⟩ (.slice ta ne tc)).setCell ⟨w.heap.size,2,none⟩ (.int .i64 0)).setCell ⟨w.heap.size,3,none⟩ (.int .i64 0)).setCell ⟨w.heap.size,4,none⟩ (.int .i64 0)).setCell ⟨w.heap.size,5,none⟩ (.int .i64 (ff : Int)))) w.heap.size (.slice va reds.length vc) (.slice ta ne tc) (ff : Int) :=
        heap_set _ w.heap.size 5 _ _ _ (heap_set _ w.heap.size 4 _ _ _ (heap_set _ w.heap.size 3 _ _ _ (heap_set _ w.heap.size 2 _ _ _ (heap_set _ w.heap.size 1 _ _ _ (heap_set _ w.heap.size 0 _ _ _ ((Below.heap_setCell _ _ _ _ (show w.heap.size ≠ w.heap.size + 1 by omega)).trans HR2.out))))))
      have hbel : Below w.heap.size w ((((((((w5.setCell ⟨w.heap.size + 1,5,none⟩ (.int .i64 (ff : Int))).setCell ⟨w.heap.size,0,none⟩ (.slice va reds.length vc)).setCell ⟨w.heap.size,1,none⟩ (.slice ta ne tc)).setCell ⟨w.heap.size,2,none⟩ (.int .i64 0)).setCell ⟨w.heap.size,3,none⟩ (.int .i64 0)).setCell ⟨w.heap.size,4,none⟩ (.int .i64 0)).setCell ⟨w.heap.size,5,none⟩ (.int .i64 (ff : Int)))) :=
        (((((((HB4.out.setCell (p:=⟨w.heap.size + 1,5,none⟩) (by simp) _).setCell (p:=⟨w.heap.size,0,none⟩) (Nat.le_refl _) _).setCell (p:=⟨w.heap.size,1,none⟩) (Nat.le_refl _) _).setCell (p:=⟨w.heap.size,2,none⟩) (Nat.le_refl _) _).setCell (p:=⟨w.heap.size,3,none⟩) (Nat.le_refl _) _).setCell (p:=⟨w.heap.size,4,none⟩) (Nat.le_refl _) _).setCell (p:=⟨w.heap.size,5,none⟩) (Nat.le_refl _) _)
      generalize ((((((((w5.setCell ⟨w.heap.size + 1,5,none⟩ (.int .i64 (ff : Int))).setCell ⟨w.heap.size,0,none⟩ (.slice va reds.length vc)).setCell ⟨w.heap.size,1,none⟩ (.slice ta ne tc)).setCell ⟨w.heap.size,2,none⟩ (.int .i64 0)).setCell ⟨w.heap.size,3,none⟩ (.int .i64 0)).setCell ⟨w.heap.size,4,none⟩ (.int .i64 0)).setCell ⟨w.heap.size,5,none⟩ (.int .i64 (ff : Int)))) = WF at hHne hres hbel ⊢
      have hD3 : WF.heap[wr.heap.size + 2]? = some (.deferred (some [])):=by
        rw [hHne _ (by omega) (by omega),HB3.out.block _ (by omega),← hs1]
        exact HDD.out
      refine ⟨by simp,.inl ⟨_,_,rfl,run_takeDeferred hD3,?_⟩⟩
      have hput : ∀ (k : Nat) (o : Obj),WF.heap[k]? = some o → o.isCells = true → (WF.putObj (wr.heap.size + 2) (.deferred none)).heap[k]? = some o:=fun k o hk ho=>(World.putObj_heap_other (fun e=>by subst e;rw [hD3] at hk;cases hk;cases ho)).trans hk
      have hresD : OutB (WF.putObj (wr.heap.size + 2) (.deferred none)) w.heap.size (.slice va reds.length vc) (.slice ta ne tc) (ff : Int):=hput _ _ hres rfl
      have y0:=hresD.c0
      have y1:=hresD.c1
      have y2:=hresD.c2
      have y3:=hresD.c3
      have y4:=hresD.c4
      have y5:=hresD.c5
      have hlv : ∀ b,(Value.slice va reds.length vc).ownBlock = some b → W.heap.size ≤ b:=fun b hb=>(HOV.out.row.lt b hb).1
      have hLV : ∀ r b,r < reds.length → (LV r).ownBlock = some b → W.heap.size ≤ b:=fun r b hr hb=>((HOV.out.own r hr).lt b hb).1
      have htv : ∀ b,(Value.slice ta ne tc).ownBlock = some b → b < W.heap.size:=fun b hb=>(HT2.out.lt b hb).2
      refine ⟨.agg #[.slice va reds.length vc,.slice ta ne tc,.int .i64 0,.int .i64 0,.int .i64 0,.int .i64 (ff : Int)],by simp only [results,Tryz.f37,go_sem];simp [go_sem,y0,y1,y2,y3,y4,y5],_,_,LV,xs,by rw [HFF.out],?_,?_,fun b hb e=>by have:=hlv b hb;have:=htv b e;omega,fun r hr b hb e=>by have:=hLV r b hr hb;have:=htv b e;omega,hbel.trans (belowK_b (w:=w) (Nat.le_refl _) WF (wr.heap.size + 2) _ _ (by omega) hD3 rfl rfl)⟩
      · rw [HEV.out]
        refine (ownV_turn HOV.out (fun b hb hlt=>?_)).base (by omega)
        rw [World.putObj_heap_other (by omega),hHne b (by omega) (by omega)]
      · rw [HEV.out,HNE.out]
        refine own_isEv HT2.out (fun k o hk ho=>?_)
        have hkl:=(Array.getElem?_eq_some_iff.1 hk).1
        have hc : o.isCells = true:=by cases o <;> first | rfl | exact ho.elim
        refine hput k o ?_ hc
        rw [hHne k (fun e=>?_) (fun e=>?_),HB3.out.block k hkl,hk]
        · subst e;rw [show W.heap[w.heap.size]? = _ from hi.res] at hk;cases hk;exact absurd (show (69 : Nat) = 89 from ho) (by decide)
        · subst e;rw [show W.heap[w.heap.size + 1]? = _ from HT1.out] at hk;cases hk;exact absurd (show (69 : Nat) = 89 from ho) (by decide)
  case stop =>
    rintro c pre W h _
    exact h.elim
theorem kinds_ok {fs : List (List Ins)} {reds : List Int} (h : (check fs reds).1 = 0) : ∀ k ∈ reds,1 ≤ k ∧ k ≤ 5:=by
  intro k hk
  obtain ⟨j,hj⟩:=List.getElem?_of_mem hk
  by_cases h1 : fs.length < 1 ∨ 8 < fs.length
  · rw [check_1 h1] at h;cases h
  by_cases h2 : 4 < reds.length
  · rw [check_2 h1 h2] at h;cases h
  cases h3 : firstBad (badR reds) reds.length with
  | some r=>rw [check_3 h1 h2 h3] at h;cases h
  | none =>
    have:=List.find?_eq_none.1 h3 j (List.mem_range.2 (List.getElem?_eq_some_iff.1 hj).1)
    unfold badR at this
    rw [hj] at this
    simpa using this
theorem frames_ok {fs : List (List Ins)} {reds : List Int} (h : (check fs reds).1 = 0) : framesF fs = framesC fs:=by
  refine framesF_eq (fun h300=>?_)
  by_cases g1 : fs.length < 1 ∨ 8 < fs.length
  · rw [check_1 g1] at h;cases h
  · cases hb : (badRed reds).2 with
    | true=>rw [check_red g1 hb] at h;cases h
    | false=>cases hf : (badFun fs reds.length).2 with
      | true=>rw [check_fun g1 hb hf] at h;cases h
      | false=>rw [check_last g1 hb hf,if_pos h300] at h;cases h
set_option maxHeartbeats 2000000 in
theorem serial_said : SerialSaid dev:=by
  intro fs reds S p seed x w hw hck hsd hx hP
  obtain ⟨pb,cb,rfl,s1,c0,hC⟩:=hP
  obtain ⟨k1,k2,k3,k4,k5⟩:=check_ok hck hw
  have hsp:=block_lt_of_cell c0
  simp only at hsp
  have HRUN : Hid (∀ o,Calls Tryz.prog 37 #[.pointer (some ⟨cb,0,none⟩),.int .u64 seed,.int .i64 x] (w.alloc o) fun e w'=>∃ lv tv LV xs,e = .returned (.agg #[lv,tv,.int .i64 0,.int .i64 0,.int .i64 0,.int .i64 (framesC fs)]) ∧
      OwnV w' (w.heap.size + 1) lv reds.length (valsZ reds (traceZ fs seed x)) LV xs ∧ w'.ownsRow (w.heap.size + 1) 89 3 tv (traceZ fs seed x).length (evCells (traceZ fs seed x)) ∧ Clear lv tv ∧ (∀ r,r < reds.length → Clear (LV r) tv) ∧ Below (w.heap.size + 1) (w.alloc o) w'):=fun o=>by
    have hC' : CodeP (Lt (w.alloc o).heap.size) (w.alloc o) cb fs reds:=hC.turn (fun b hb hlt=>⟨by show b < (w.alloc o).heap.size;simp;omega,Below.heap_alloc _ _ _ hlt⟩)
    have:=serialRun_calls fs reds cb seed x (w.alloc o) k1 k2 k4 k5 k3 (kinds_ok hck) hC'
    rw [frames_ok hck,World.size_alloc] at this
    exact this
  clear hC k1 k2 k3 k4 k5 hw hck hsd hx
  go_enter Tryz.func20,Tryz.ntmps20
  go_wp2_with (go_at_call 37;refine (HRUN.out _).mono ?_;rintro e w3 ⟨lv,tv,LV,xs,rfl,h1,h2,h3,h4,h5⟩
               obtain ⟨va,vc,rfl⟩:=own_form h1.row
               obtain ⟨ta,tc,rfl⟩:=own_form h2
               have q : OutB w3 w.heap.size (.slice none 0 0) (.slice none 0 0) 0:=(h5.block _ (by omega)).trans (World.alloc_heap_new w _)
               have z0:=q.c0
               have z1:=q.c1
               have z2:=q.c2
               have z3:=q.c3
               have z4:=q.c4
               have z5:=q.c5
               have zf0:=q.fz 0
               have zf1:=q.fz 1
               have zf2:=q.fz 2
               have zf3:=q.fz 3
               have zf4:=q.fz 4
               have zf5:=q.fz 5
               have HQ:=hide q
               have HH1:=hide h1
               have HH2:=hide h2
               have HH3:=hide h3
               have HH4:=hide h4
               have HH5:=hide h5
               clear q h1 h2 h3 h4 h5)
  have hs3 : w.heap.size + 1 ≤ w3.heap.size:=by have:=HH5.out.size;simpa using this
  obtain ⟨ff,hff⟩ : ∃ ff : Int,(framesC fs : Int) = ff:=⟨_,rfl⟩
  rw [hff]
  have hres : OutB (((((((w3.setCell ⟨w.heap.size,0,none⟩ (.slice va reds.length vc)).setCell ⟨w.heap.size,1,none⟩ (.slice ta (traceZ fs seed x).length tc)).setCell ⟨w.heap.size,2,none⟩ (.int .i64 0)).setCell ⟨w.heap.size,3,none⟩ (.int .i64 0)).setCell ⟨w.heap.size,4,none⟩ (.int .i64 0)).setCell ⟨w.heap.size,5,none⟩ (.int .i64 ff))) w.heap.size (.slice va reds.length vc) (.slice ta (traceZ fs seed x).length tc) ff :=
    heap_set _ w.heap.size 5 _ _ _ (heap_set _ w.heap.size 4 _ _ _ (heap_set _ w.heap.size 3 _ _ _ (heap_set _ w.heap.size 2 _ _ _ (heap_set _ w.heap.size 1 _ _ _ (heap_set _ w.heap.size 0 _ _ _ HQ.out)))))
  have hne : ∀ b,b ≠ w.heap.size → (((((((w3.setCell ⟨w.heap.size,0,none⟩ (.slice va reds.length vc)).setCell ⟨w.heap.size,1,none⟩ (.slice ta (traceZ fs seed x).length tc)).setCell ⟨w.heap.size,2,none⟩ (.int .i64 0)).setCell ⟨w.heap.size,3,none⟩ (.int .i64 0)).setCell ⟨w.heap.size,4,none⟩ (.int .i64 0)).setCell ⟨w.heap.size,5,none⟩ (.int .i64 ff))).heap[b]? = w3.heap[b]?:=fun b h1=>by
    rw [Below.heap_setCell _ _ _ _ h1,Below.heap_setCell _ _ _ _ h1,Below.heap_setCell _ _ _ _ h1,Below.heap_setCell _ _ _ _ h1,Below.heap_setCell _ _ _ _ h1,Below.heap_setCell _ _ _ _ h1]
  have hbel : Below w.heap.size w (((((((w3.setCell ⟨w.heap.size,0,none⟩ (.slice va reds.length vc)).setCell ⟨w.heap.size,1,none⟩ (.slice ta (traceZ fs seed x).length tc)).setCell ⟨w.heap.size,2,none⟩ (.int .i64 0)).setCell ⟨w.heap.size,3,none⟩ (.int .i64 0)).setCell ⟨w.heap.size,4,none⟩ (.int .i64 0)).setCell ⟨w.heap.size,5,none⟩ (.int .i64 ff))) :=
    ((((((((Below.refl _ w).alloc (Nat.le_refl _) _).trans (HH5.out.mono (by omega))).setCell (p:=⟨w.heap.size,0,none⟩) (Nat.le_refl _) _).setCell (p:=⟨w.heap.size,1,none⟩) (Nat.le_refl _) _).setCell (p:=⟨w.heap.size,2,none⟩) (Nat.le_refl _) _).setCell (p:=⟨w.heap.size,3,none⟩) (Nat.le_refl _) _).setCell (p:=⟨w.heap.size,4,none⟩) (Nat.le_refl _) _).setCell (p:=⟨w.heap.size,5,none⟩) (Nat.le_refl _) _
  generalize (((((((w3.setCell ⟨w.heap.size,0,none⟩ (.slice va reds.length vc)).setCell ⟨w.heap.size,1,none⟩ (.slice ta (traceZ fs seed x).length tc)).setCell ⟨w.heap.size,2,none⟩ (.int .i64 0)).setCell ⟨w.heap.size,3,none⟩ (.int .i64 0)).setCell ⟨w.heap.size,4,none⟩ (.int .i64 0)).setCell ⟨w.heap.size,5,none⟩ (.int .i64 ff))) = WF at hres hne hbel ⊢
  have y0:=hres.c0
  have y1:=hres.c1
  have y2:=hres.c2
  have y3:=hres.c3
  have y4:=hres.c4
  have y5:=hres.c5
  refine bodyPost_ret (v:=.agg #[.slice va reds.length vc,.slice ta (traceZ fs seed x).length tc,.int .i64 0,.int .i64 0,.int .i64 0,.int .i64 ff]) (by simp only [results,Tryz.f20,go_sem];simp [go_sem,y0,y1,y2,y3,y4,y5]) rfl ⟨_,_,LV,xs,rfl,?_,?_,HH3.out,HH4.out,hbel⟩
  · exact (ownV_turn HH1.out (fun b hb _=>hne b (by omega))).base (by omega)
  · exact own_base (own_turn HH2.out (fun b hb _=>hne b (by have:=(HH2.out.lt b hb).1;omega))) (by omega)
end Go.Proofs.YtkmakliebhnhbaaGreat
