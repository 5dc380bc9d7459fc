import Derived.Test.YtkmakliebhnhbaaGreatCrT
namespace Go.Proofs.YtkmakliebhnhbaaGreat
open Go.RowKit Go.Shelf
section
variable {W : World} {n₀ wb workers : Nat} {s : St} {adr : Nat → Nat} {stk : Nat → Value} {fs : List (List Ins)} {nr K : Nat}
set_option maxHeartbeats 4000000 in
theorem crew_do {reds : List Int} {cb : Nat} (h : Crew W n₀ wb workers s adr stk) (L : Lean1 fs nr s K) (hK : K ≤ 50000) (hC : CodeP (Lt n₀) W cb fs reds) (hg : ∀ f,gift fs f ≤ 100000000) (hl10 : ∀ l ∈ fs,l.length ≤ 10) {w v a : Nat} {i : Ins} {rest : List Ins} (hw : w < workers) (hn : (s.w w).hand = some a) (hwt : waits (s.t a) = false) (hr : (s.t a).rem = i :: rest) :
    Calls Tryz.prog 108 #[.pointer (some ⟨wb,3 * w,none⟩),.pointer (some ⟨cb,0,none⟩)] W fun e W'=>e = .returned (rsV w (stepM fs s w v).2) ∧ ∃ adr' stk',Crew W' n₀ wb workers (stepM fs s w v).1 adr' stk' ∧ Kept n₀ W W':=by
  obtain ⟨cw0,cw1,cw2⟩:=h.wcell hw
  have hwlt : wb < W.heap.size:=block_lt_of_cell cw0
  have hlo:=h.lo
  have ha:=L.hand w a hn
  obtain ⟨⟨av,ta,ra⟩,la⟩:=h.tks a ha
  rw [hn] at cw1
  have hwf : ¬ (waits (s.t a) = true):=by rw [hwt];exact Bool.false_ne_true
  obtain ⟨k1,k2,k3,k4⟩:=L.ok _ (St.t_mem ha)
  obtain ⟨hmay,hwf2⟩:=k2 i (by rw [hr];exact List.mem_cons_self ..)
  have hpl : (s.t a).pl ≤ 10000000000000:=by have:=L.pl a ha;omega
  have hr1 : (s.t a).r ≤ 1000:=by omega
  rw [hr] at ra
  have hra:=ra
  obtain ⟨aa,cap,rfl,hc1,hc2,hcc⟩:=ra
  rcases hcc with ⟨e,_⟩ | ⟨ib,off,rfl,hib,hcells⟩
  · cases e
  have htl:=hra.tail
  simp only [List.length_cons] at ta hc1
  unfold maxLen at hc2
  have hcell : ∀ (j : Nat) (u : Value),(Ins.vals i)[j]? = some u → W.cell? ⟨ib,off + j,none⟩ = some u:=fun j u hu=>by
    have:=hcells 0 i rfl j u hu
    rw [Nat.zero_mul,Nat.add_zero] at this
    exact this
  have hiB : ib ≠ adr a:=fun e=>by
    subst e
    obtain ⟨o,ho,hi⟩:=hib
    obtain ⟨o',ho',hm⟩:=h.tmut ha
    rw [ho] at ho';cases ho'
    exact isIns_mut hi hm
  have hmB:=h.tmut ha
  have hneB:=h.ne_task ha
  have tl6 : RdL (InsAt (W.setCell ⟨adr a,6,none⟩ (tailV ib off rest.length cap))) (W.setCell ⟨adr a,6,none⟩ (tailV ib off rest.length cap)) 5 Ins.vals (tailV ib off rest.length cap) rest:=rd_set htl hmB
  have tb6:=ta.set6 (tailV ib off rest.length cap) rest
  have K6 : Kept n₀ W (W.setCell ⟨adr a,6,none⟩ (tailV ib off rest.length cap)):=(Kept.refl n₀ W).sett la hmB
  by_cases o1 : i.op = 1
  · have hs : stepM fs s w v = (s.putT a { s.t a with rem:=rest,pl:=(s.t a).pl + 1 },.gave i.r (numZ i (s.t a).x) (s.t a).pl):=by
      unfold stepM
      rw [hn]
      simp only
      rw [if_neg hwf,hr]
      simp only
      rw [if_pos o1]
    rw [hs]
    refine (wdo_put wb (3 * w) (adr a) ib off rest.length cap cb (s.t a) _ i (w : Int) W o1 ta cw0 cw1 hcell hneB hiB hc1 (by omega) hpl).mono (fun e W' ⟨he,hb⟩=>⟨he,adr,stk,?_,?_⟩)
    · have h1:=h.setTask (W':=(W.setCell ⟨adr a,6,none⟩ (tailV ib off rest.length cap)).setCell ⟨adr a,7,none⟩ (.int .i64 (((s.t a).pl + 1 : Nat) : Int))) ha { s.t a with rem:=rest,pl:=(s.t a).pl + 1 } ⟨_,tb6.set7 _,rd_set tl6 (set_mut hmB)⟩ (fun b hb _=>(Below.heap_setCell _ _ _ _ hb).trans (Below.heap_setCell _ _ _ _ hb))
      exact h1.below (hb.mono (by simp [World.setCell]))
    · exact Kept.bel (K6.sett la hmB) hb (Nat.le_refl _) (by omega)
  by_cases o2 : i.op = 2
  · have hs : stepM fs s w v = (s.putT a { s.t a with rem:=rest,pl:=(s.t a).pl + 1,r:=(s.t a).r + 1 },.gave i.r (drawnZ (s.t a).h (s.t a).r i.k) (s.t a).pl):=by
      unfold stepM
      rw [hn]
      simp only
      rw [if_neg hwf,hr]
      simp only
      rw [if_neg o1,if_pos o2]
    rw [hs]
    unfold mayB at hmay
    rw [if_neg o1,if_pos o2] at hmay
    simp only [Bool.and_eq_true,decide_eq_true_eq] at hmay
    have hk:=hwf2.2.2.2.1
    unfold i64 at hk
    refine (wdo_draw wb (3 * w) (adr a) ib off rest.length cap cb (s.t a) _ i (w : Int) W o2 ta cw0 cw1 hcell hneB hiB hc1 (by omega) hpl k4 hr1 (by omega) (by omega)).mono (fun e W' ⟨he,hb⟩=>⟨he,adr,stk,?_,?_⟩)
    · have h1:=h.setTask (W':=((W.setCell ⟨adr a,6,none⟩ (tailV ib off rest.length cap)).setCell ⟨adr a,3,none⟩ (.int .u64 ((s.t a).r + 1))).setCell ⟨adr a,7,none⟩ (.int .i64 (((s.t a).pl + 1 : Nat) : Int))) ha { s.t a with rem:=rest,pl:=(s.t a).pl + 1,r:=(s.t a).r + 1 } ⟨_,(tb6.set3 _).set7 _,rd_set (rd_set tl6 (set_mut hmB)) (set_mut (set_mut hmB))⟩ (fun b hb _=>(Below.heap_setCell _ _ _ _ hb).trans ((Below.heap_setCell _ _ _ _ hb).trans (Below.heap_setCell _ _ _ _ hb)))
      exact h1.below (hb.mono (by simp [World.setCell]))
    · exact Kept.bel ((K6.sett la hmB).sett la hmB) hb (Nat.le_refl _) (by omega)
  obtain ⟨wcs,hwcs,hwr⟩:=h.row
  by_cases o34 : i.op = 3 ∨ i.op = 4
  · obtain ⟨m,hm,hfm,hmn⟩:=mayB_begins hmay (by unfold begins;simpa using o34)
    obtain ⟨l,hl⟩ : ∃ l,fs[m]? = some l:=⟨_,List.getElem?_eq_getElem hmn⟩
    have hll:=hl10 l (List.mem_of_getElem? hl)
    have hmt : i.f.toNat = m:=by omega
    have hgm:=hg m
    have hkid : ∀ o,kid fs (s.t a) a o i = ⟨m,numZ i (s.t a).x,stepZ (s.t a).h (s.t a).r,0,l,(s.t a).pl,0,false,a,o⟩:=fun o=>by unfold kid;rw [hmt,hl];rfl
    have t2par : (s.t a).org ≠ .root → (s.t a).par < s.ts.length:=L.par a ha
    rcases o34 with o3 | o4
    · have hs : stepM fs s w v = (({ (s.putT a { s.t a with rem:=rest,r:=(s.t a).r + 1,pl:=(s.t a).pl + gift fs m }).stk w ((s.w w).stack ++ [a]) with ts:=(s.ts.set a { s.t a with rem:=rest,r:=(s.t a).r + 1,pl:=(s.t a).pl + gift fs m }) ++ [kid fs (s.t a) a .spawn i] } : St).hand w (some s.ts.length),.went):=by
        unfold stepM
        rw [hn]
        simp only
        rw [if_neg hwf,hr]
        simp only
        rw [if_neg o1,if_neg o2,if_pos o3,hmt]
      rw [hs]
      have hdeep:=L.deep w
      refine (wdo_spawn wb (3 * w) (adr a) ib off rest.length cap cb (s.t a) _ i (w : Int) W o3 ta cw0 cw1 hcell hneB hiB hc1 (by omega) hpl m hm hl (by omega) hC la hlo hgm k4 hr1 ⟨wcs,hwcs⟩ (stk w) ((s.w w).stack.map (tptr adr)) cw2 (h.stks w hw).raw (by rw [List.length_map];omega)).mono ?_
      rintro e W' ⟨Q,av',sv',he,hQ,tq,rq,hst,hbk,hgr⟩
      have sv1 : blkOf (stk w) ≠ some wb:=fun g=>(h.ne_stk hw g).1 rfl
      have sv2 : blkOf (stk w) ≠ some (adr a):=fun g=>(h.ne_stk hw g).2 a ha rfl
      have hB' : W'.heap[adr a]? = _:=(hgr.block (adr a) (by simp [World.setCell];exact ta.lt) (fun g=>sv2 g.symm))
      have hW':=hgr.block wb (by simp [World.setCell];exact hwlt) (fun g=>sv1 g.symm)
      have hoth : ∀ b,b < W.heap.size → b ≠ wb → b ≠ adr a → blkOf (stk w) ≠ some b → W'.heap[b]? = W.heap[b]?:=fun b q1 q2 q3 q4=>by
        rw [hgr.block b (by simp [World.setCell];exact q1) (fun g=>q4 g.symm),Below.heap_setCell _ _ _ _ q2,Below.heap_setCell _ _ _ _ q3,Below.heap_setCell _ _ _ _ q3,Below.heap_setCell _ _ _ _ q2,Below.heap_setCell _ _ _ _ q3]
      have hins : ∀ (b : Nat) (o : Obj),W.heap[b]? = some o → isIns o → W'.heap[b]? = some o:=fun b o hb ho=>by
        refine (hoth b (Array.getElem?_eq_some_iff.1 hb).1 (fun e=>?_) (fun e=>?_) (fun e=>?_)).trans hb
        · subst e;obtain ⟨o',q1,q2⟩:=h.wmut;rw [hb] at q1;cases q1;exact isIns_mut ho q2
        · subst e;obtain ⟨o',q1,q2⟩:=hmB;rw [hb] at q1;cases q1;exact isIns_mut ho q2
        · obtain ⟨_,cs',q⟩:=(h.stks w hw).blk e;rw [hb] at q;cases q;exact isIns_mut ho (.inr (.inr rfl))
      refine ⟨he,_,_,h.pushed hw ha { s.t a with rem:=rest,r:=(s.t a).r + 1,pl:=(s.t a).pl + gift fs m } (kid fs (s.t a) a .spawn i) sv' ((s.w w).stack ++ [a]) ?_ hoth ?_ ?_ hbk hQ ?_ (by omega) L.hand L.stack (fun q hq=>?_) L.par t2par (fun _=>ha),?_⟩
      · refine ⟨(wcs.setIfInBounds (3 * w + 2) sv').setIfInBounds (3 * w + 1) (.pointer (some ⟨Q,0,none⟩)),?_,fun k hk=>?_⟩
        · rw [hW']
          exact heap_set _ wb (3 * w + 1) _ _ _ ((Below.heap_setCell _ _ _ _ (Ne.symm hneB)).trans ((Below.heap_setCell _ _ _ _ (Ne.symm hneB)).trans (heap_set _ wb (3 * w + 2) _ _ _ ((Below.heap_setCell _ _ _ _ (Ne.symm hneB)).trans hwcs))))
        · obtain ⟨x,y,z⟩:=hwr k hk
          by_cases e : k = w
          · subst e
            simp only [if_pos]
            exact ⟨set3 _ _ _ _ _ (set3 _ _ _ _ _ x (by omega)) (by omega),set3s _ _ _ _ (set3 _ _ _ _ _ y (by omega)),set3 _ _ _ _ _ (set3s _ _ _ _ z) (by omega)⟩
          · simp only [if_neg e]
            exact ⟨set3 _ _ _ _ _ (set3 _ _ _ _ _ x (by omega)) (by omega),set3 _ _ _ _ _ (set3 _ _ _ _ _ y (by omega)) (by omega),set3 _ _ _ _ _ (set3 _ _ _ _ _ z (by omega)) (by omega)⟩
      · have tb:=(((ta.set6 (tailV ib off rest.length cap) rest).other wb (3 * w + 2) sv' hneB).set3 ((s.t a).r + 1)).set7 ((s.t a).pl + gift fs m)
        exact ⟨_,hB'.trans ((tb.other wb (3 * w + 1) (.pointer (some ⟨Q,0,none⟩)) hneB)),htl.turn (fun b hb _=>by obtain ⟨o,ho,hi⟩:=hb;exact ⟨⟨o,hins b o ho hi,hi⟩,(hins b o ho hi).trans ho.symm⟩) (fun x _=>List.cons_ne_nil _ _)⟩
      · refine StkR.cook ?_
        rw [List.map_append]
        exact hst
      · rw [hkid]
        exact ⟨av',tq,rq⟩
      · rcases List.mem_append.1 hq with hq | hq
        · exact L.stack w q hq
        · rw [List.mem_singleton] at hq;rw [hq];exact ha
      · refine ⟨⟨hgr.os,hgr.tape,hgr.output,by have:=hgr.size;simpa [World.setCell] using this,fun b hb=>?_⟩,fun b o hb ho=>?_⟩
        · exact hoth b (by omega) (by omega) (by omega) (fun g=>by have:=((h.stks w hw).blk g).1;omega)
        · refine (hoth b (Array.getElem?_eq_some_iff.1 hb).1 (fun e=>?_) (fun e=>?_) (fun e=>?_)).trans hb
          · subst e;obtain ⟨o',q1,q2⟩:=h.wmut;rw [hb] at q1;cases q1;exact ho q2
          · subst e;obtain ⟨o',q1,q2⟩:=hmB;rw [hb] at q1;cases q1;exact ho q2
          · obtain ⟨_,cs',q⟩:=(h.stks w hw).blk e;rw [hb] at q;cases q;exact ho (.inr (.inr rfl))
    · have hs : stepM fs s w v = (({ (s.putT a { s.t a with rem:=rest,r:=(s.t a).r + 1,pl:=(s.t a).pl + gift fs m }).stk w (s.w w).stack with ts:=(s.ts.set a { s.t a with rem:=rest,r:=(s.t a).r + 1,pl:=(s.t a).pl + gift fs m }) ++ [kid fs (s.t a) a .call i] } : St).hand w (some s.ts.length),.went):=by
        have hself : (s.putT a { s.t a with rem:=rest,r:=(s.t a).r + 1,pl:=(s.t a).pl + gift fs m }).stk w (s.w w).stack = s.putT a { s.t a with rem:=rest,r:=(s.t a).r + 1,pl:=(s.t a).pl + gift fs m }:=St.stk_self (s.putT a { s.t a with rem:=rest,r:=(s.t a).r + 1,pl:=(s.t a).pl + gift fs m }) (by show w < s.ws.length;rw [h.len];exact hw)
        rw [hself]
        unfold stepM
        rw [hn]
        simp only
        rw [if_neg hwf,hr]
        simp only
        rw [if_neg o1,if_neg o2,if_neg (by omega),if_pos o4,hmt]
      rw [hs]
      refine (wdo_call wb (3 * w) (adr a) ib off rest.length cap cb (s.t a) _ i (w : Int) W o4 ta cw0 cw1 hcell hneB hiB hc1 (by omega) hpl m hm hl (by omega) hC la hgm k4 hr1 ⟨wcs,hwcs⟩).mono ?_
      rintro e W' ⟨Q,av',he,hQ,tq,rq,hb⟩
      have hB' : W'.heap[adr a]? = _:=hb.block (adr a) ta.lt
      have hW':=hb.block wb hwlt
      have hoth : ∀ b,b < W.heap.size → b ≠ wb → b ≠ adr a → W'.heap[b]? = W.heap[b]?:=fun b q1 q2 q3=>by
        rw [hb.block b q1,Below.heap_setCell _ _ _ _ q2,Below.heap_setCell _ _ _ _ q3,Below.heap_setCell _ _ _ _ q3,Below.heap_setCell _ _ _ _ q3]
      have hins : ∀ (b : Nat) (o : Obj),W.heap[b]? = some o → isIns o → W'.heap[b]? = some o:=fun b o hx ho=>by
        refine (hoth b (Array.getElem?_eq_some_iff.1 hx).1 (fun e=>?_) (fun e=>?_)).trans hx
        · obtain ⟨o',q1,q2⟩:=h.wmut;rw [← e,hx] at q1;cases q1;exact isIns_mut ho q2
        · obtain ⟨o',q1,q2⟩:=hmB;rw [← e,hx] at q1;cases q1;exact isIns_mut ho q2
      refine ⟨he,_,_,h.pushed hw ha { s.t a with rem:=rest,r:=(s.t a).r + 1,pl:=(s.t a).pl + gift fs m } (kid fs (s.t a) a .call i) (stk w) (s.w w).stack ?_ (fun b q1 q2 q3 _=>hoth b q1 q2 q3) ?_ ?_ (.inl rfl) hQ ?_ (by omega) L.hand L.stack (L.stack w) L.par t2par (fun _=>ha),?_⟩
      · refine ⟨wcs.setIfInBounds (3 * w + 1) (.pointer (some ⟨Q,0,none⟩)),?_,fun k hk=>?_⟩
        · rw [hW']
          exact heap_set _ wb (3 * w + 1) _ _ _ ((Below.heap_setCell _ _ _ _ (Ne.symm hneB)).trans ((Below.heap_setCell _ _ _ _ (Ne.symm hneB)).trans ((Below.heap_setCell _ _ _ _ (Ne.symm hneB)).trans hwcs)))
        · obtain ⟨x,y,z⟩:=hwr k hk
          by_cases e : k = w
          · subst e
            simp only [if_pos]
            exact ⟨set3 _ _ _ _ _ x (by omega),set3s _ _ _ _ y,set3 _ _ _ _ _ z (by omega)⟩
          · simp only [if_neg e]
            exact ⟨set3 _ _ _ _ _ x (by omega),set3 _ _ _ _ _ y (by omega),set3 _ _ _ _ _ z (by omega)⟩
      · have tb:=((ta.set6 (tailV ib off rest.length cap) rest).set3 ((s.t a).r + 1)).set7 ((s.t a).pl + gift fs m)
        exact ⟨_,hB'.trans ((tb.other wb (3 * w + 1) (.pointer (some ⟨Q,0,none⟩)) hneB)),htl.turn (fun b hb _=>by obtain ⟨o,ho,hi⟩:=hb;exact ⟨⟨o,hins b o ho hi,hi⟩,(hins b o ho hi).trans ho.symm⟩) (fun x _=>List.cons_ne_nil _ _)⟩
      · refine (h.stks w hw).keep (fun b hb hlt=>hoth b hlt (h.ne_stk hw hb).1 (Ne.symm ((h.ne_stk hw hb).2 a ha)))
      · rw [hkid]
        exact ⟨av',tq,rq⟩
      · exact Kept.bel (((K6.sett la hmB).sett la hmB).sett hlo h.wmut) hb (Nat.le_refl _) (by omega)
  · have o5 : i.op = 5:=by
      unfold mayB at hmay
      rw [if_neg o1,if_neg o2,if_neg o34] at hmay
      split at hmay
      · assumption
      · cases hmay
    have hs : stepM fs s w v = (s.putT a { s.t a with rem:=rest,r:=(s.t a).r + 1 },.went):=by
      unfold stepM
      rw [hn]
      simp only
      rw [if_neg hwf,hr]
      simp only
      rw [if_neg o1,if_neg o2,if_neg (by omega),if_neg (by omega)]
    rw [hs]
    refine (wdo_sync wb (3 * w) (adr a) ib off rest.length cap cb (s.t a) _ i (w : Int) W o5 ta cw0 cw1 hcell hneB hiB hc1 (by omega) hpl k4 hr1).mono (fun e W' ⟨he,hb⟩=>⟨he,adr,stk,?_,?_⟩)
    · have h1:=h.setTask (W':=(W.setCell ⟨adr a,6,none⟩ (tailV ib off rest.length cap)).setCell ⟨adr a,3,none⟩ (.int .u64 ((s.t a).r + 1))) ha { s.t a with rem:=rest,r:=(s.t a).r + 1 } ⟨_,tb6.set3 _,rd_set tl6 (set_mut hmB)⟩ (fun b hb _=>(Below.heap_setCell _ _ _ _ hb).trans (Below.heap_setCell _ _ _ _ hb))
      exact h1.below (hb.mono (by simp [World.setCell]))
    · exact Kept.bel (K6.sett la hmB) hb (Nat.le_refl _) (by omega)
end
end Go.Proofs.YtkmakliebhnhbaaGreat
namespace Go.Proofs.YtkmakliebhnhbaaGreat
open Go.RowKit Go.Shelf
section
variable {W : World} {n₀ wb workers : Nat} {s : St} {adr : Nat → Nat} {stk : Nat → Value} {fs : List (List Ins)} {nr K : Nat}
theorem step_not_mut (cs : Array Value) : ¬ isMut (.cells cs 140 (0,0)):=fun h=>by
  unfold isMut at h
  simp only at h
  rcases h with h | h | h <;> exact absurd h (by decide)
def Sub (n₀ wb workers : Nat) (s' : St) (W : World) (v : Value) (e : Ending) (W' : World) : Prop:=e = .returned v ∧ ∃ adr' stk',Crew W' n₀ wb workers s' adr' stk' ∧ Kept n₀ W W'
theorem Sub.fin {s' : St} {W w3 : World} {v : Value} {e : Ending} (hn : n₀ ≤ W.heap.size) (o0 : Array Value) (h : Sub n₀ wb workers s' (W.alloc (.cells o0 140)) v e w3) : w3.heap[W.heap.size]? = some (.cells o0 140 (0,0)) ∧ ∀ W6 : World,(∀ b,b ≠ W.heap.size → W6.heap[b]? = w3.heap[b]?) → W6.os = w3.os → W6.tape = w3.tape → W6.output = w3.output → w3.heap.size ≤ W6.heap.size → ∃ adr' stk',Crew W6 n₀ wb workers s' adr' stk' ∧ Kept n₀ W W6:=by
  obtain ⟨_,adr',stk',hc,hk⟩:=h
  have hr : w3.heap[W.heap.size]? = some (.cells o0 140 (0,0)):=hk.keep _ _ (World.alloc_heap_new W _) (step_not_mut _)
  refine ⟨hr,fun W6 hot h1 h2 h3 h4=>⟨adr',stk',hc.keep (fun b o hb ho=>(hot b (fun e=>?_)).trans hb),⟨⟨h1.trans hk.below.os,h2.trans hk.below.tape,h3.trans hk.below.output,Nat.le_trans (by have:=hk.below.size;simp at this;omega) h4,fun b hb=>?_⟩,fun b o hb ho=>?_⟩⟩⟩
  · subst e
    rw [hr] at hb
    cases hb
    rcases ho with ho | ho
    · exact step_not_mut _ ho
    · exact absurd (show (140 : Nat) = 45 from ho) (by decide)
  · rw [hot b (by omega),hk.below.block b hb,Below.heap_alloc _ _ _ (by omega)]
  · have hbl:=(Array.getElem?_eq_some_iff.1 hb).1
    exact (hot b (by omega)).trans (hk.keep b o ((Below.heap_alloc _ _ _ hbl).trans hb) ho)
set_option maxRecDepth 4000 in
set_option maxHeartbeats 4000000 in
theorem crew_step {reds : List Int} {cb : Nat} (h : Crew W n₀ wb workers s adr stk) (L : Lean1 fs nr s K) (hK : K ≤ 50000) (hC : CodeP (Lt n₀) W cb fs reds) (hg : ∀ f,gift fs f ≤ 100000000) (hl10 : ∀ l ∈ fs,l.length ≤ 10) {w v : Nat} (hw : w < workers) (hv : v < workers) :
    Calls Tryz.prog 79 #[.pointer (some ⟨wb,3 * w,none⟩),.pointer (some ⟨cb,0,none⟩),.pointer (some ⟨wb,3 * v,none⟩)] W fun e W'=>e = .returned (rsV w (stepM fs s w v).2) ∧ ∃ adr' stk',Crew W' n₀ wb workers (stepM fs s w v).1 adr' stk' ∧ Kept n₀ W W':=by
  obtain ⟨cw0,cw1,cw2⟩:=h.wcell hw
  have hwlt : wb < W.heap.size:=block_lt_of_cell cw0
  have hlo:=h.lo
  have hnW : n₀ ≤ W.heap.size:=by omega
  obtain ⟨W0,hW0⟩ : ∃ W0,W.alloc (.cells #[.int .i64 0,.int .i64 0,.int .i64 0,.int .i64 0,.int .i64 0] 140) = W0:=⟨_,rfl⟩
  have hb0 : Below W.heap.size W W0:=by rw [← hW0];exact (Below.refl _ W).alloc (Nat.le_refl _) _
  have h0 : Crew W0 n₀ wb workers s adr stk:=h.below hb0
  have hC0 : CodeP (Lt n₀) W0 cb fs reds:=hC.turn (fun b hb hlt=>⟨hb,hb0.block b hlt⟩)
  have hh0:=(h0.wcell hw).2.1
  obtain ⟨c0,hc0⟩ : ∃ c,(stepM fs s w v).2.k = c:=⟨_,rfl⟩
  obtain ⟨c1,hc1⟩ : ∃ c,(stepM fs s w v).2.w w = c:=⟨_,rfl⟩
  obtain ⟨c2,hc2⟩ : ∃ c,(stepM fs s w v).2.r = c:=⟨_,rfl⟩
  obtain ⟨c3,hc3⟩ : ∃ c,(stepM fs s w v).2.n = c:=⟨_,rfl⟩
  obtain ⟨c4,hc4⟩ : ∃ c,(stepM fs s w v).2.p = c:=⟨_,rfl⟩
  have hrs : rsV w (stepM fs s w v).2 = .agg #[.int .i64 c0,.int .i64 c1,.int .i64 c2,.int .i64 c3,.int .i64 c4]:=by unfold rsV;rw [hc0,hc1,hc2,hc3,hc4]
  have HFIN : Hid (∀ e w3,Sub n₀ wb workers (stepM fs s w v).1 W0 (.agg #[.int .i64 c0,.int .i64 c1,.int .i64 c2,.int .i64 c3,.int .i64 c4]) e w3 → w3.heap[W.heap.size]? = some (.cells #[.int .i64 0,.int .i64 0,.int .i64 0,.int .i64 0,.int .i64 0] 140 (0,0)) ∧ ∀ W6 : World,(∀ b,b ≠ W.heap.size → W6.heap[b]? = w3.heap[b]?) → W6.os = w3.os → W6.tape = w3.tape → W6.output = w3.output → w3.heap.size ≤ W6.heap.size → ∃ adr' stk',Crew W6 n₀ wb workers (stepM fs s w v).1 adr' stk' ∧ Kept n₀ W W6):=fun e w3 hs=>by
    rw [← hW0] at hs
    exact hs.fin hnW _
  have HC4 : Hid (∀ w4 : World,w4.heap[W.heap.size]? = some (.cells #[.int .i64 0,.int .i64 0,.int .i64 0,.int .i64 0,.int .i64 0] 140 (0,0)) → ∀ j u,((#[.int .i64 0,.int .i64 0,.int .i64 0,.int .i64 0,.int .i64 0] : Array Value))[j]? = some u → w4.cell? ⟨W.heap.size,j,none⟩ = some u ∧ w4.frozen? ⟨W.heap.size,j,none⟩ = false):=fun w4 h4 j u hu=>⟨by simp only [World.cell?,h4];exact hu,by simp [World.frozen?,h4]⟩
  rw [hrs]
  obtain ⟨sN,hsN⟩ : ∃ sN,(stepM fs s w v).1 = sN:=⟨_,rfl⟩
  rw [hsN] at HFIN ⊢
  cases hn : (s.w w).hand with
  | none =>
    rw [hn] at cw1
    have HS : Hid (Calls Tryz.prog 103 #[.pointer (some ⟨wb,3 * w,none⟩),.pointer (some ⟨wb,3 * v,none⟩)] W0 (Sub n₀ wb workers sN W0 (.agg #[.int .i64 c0,.int .i64 c1,.int .i64 c2,.int .i64 c3,.int .i64 c4]))):=by
      have:=crew_steal h0 L (by omega) hw hv hn
      rw [hrs,hsN] at this
      exact this
    simp only [ptrO] at cw1
    have HW0:=hide hW0
    clear hW0 h h0 hC hC0 hb0 L hg hl10 hrs hsN hc0 hc1 hc2 hc3 hc4 cw0 cw2 hh0
    go_enter Tryz.func79,Tryz.ntmps79
    go_wp2_with (go_at_call 103
                 rw [HW0.out]
                 refine HS.out.mono ?_
                 intro e w3 hsub
                 have hfin:=HFIN.out e w3 hsub
                 obtain ⟨rfl,_⟩:=hsub
                 obtain ⟨hr3,hfin⟩:=hfin
                 obtain ⟨s0,f0⟩:=HC4.out w3 hr3 0 _ rfl
                 obtain ⟨s1,f1⟩:=HC4.out w3 hr3 1 _ rfl
                 obtain ⟨s2,f2⟩:=HC4.out w3 hr3 2 _ rfl
                 obtain ⟨s3,f3⟩:=HC4.out w3 hr3 3 _ rfl
                 obtain ⟨s4,f4⟩:=HC4.out w3 hr3 4 _ rfl
                 have HR3:=hide hr3
                 have HF:=hide hfin
                 clear hr3 hfin)
    have h5:=heap_set _ W.heap.size 4 (.int .i64 c4) _ _ (heap_set _ W.heap.size 3 (.int .i64 c3) _ _ (heap_set _ W.heap.size 2 (.int .i64 c2) _ _ (heap_set _ W.heap.size 1 (.int .i64 c1) _ _ (heap_set _ W.heap.size 0 (.int .i64 c0) _ _ HR3.out))))
    have hot : ∀ b,b ≠ W.heap.size → (((((w3.setCell ⟨W.heap.size,0,none⟩ (.int .i64 c0)).setCell ⟨W.heap.size,1,none⟩ (.int .i64 c1)).setCell ⟨W.heap.size,2,none⟩ (.int .i64 c2)).setCell ⟨W.heap.size,3,none⟩ (.int .i64 c3)).setCell ⟨W.heap.size,4,none⟩ (.int .i64 c4)).heap[b]? = w3.heap[b]?:=fun b q2=>by
      rw [Below.heap_setCell _ _ _ _ q2,Below.heap_setCell _ _ _ _ q2,Below.heap_setCell _ _ _ _ q2,Below.heap_setCell _ _ _ _ q2,Below.heap_setCell _ _ _ _ q2]
    have hend:=HF.out (((((w3.setCell ⟨W.heap.size,0,none⟩ (.int .i64 c0)).setCell ⟨W.heap.size,1,none⟩ (.int .i64 c1)).setCell ⟨W.heap.size,2,none⟩ (.int .i64 c2)).setCell ⟨W.heap.size,3,none⟩ (.int .i64 c3)).setCell ⟨W.heap.size,4,none⟩ (.int .i64 c4)) hot rfl rfl rfl (by simp [World.setCell])
    generalize (((((w3.setCell ⟨W.heap.size,0,none⟩ (.int .i64 c0)).setCell ⟨W.heap.size,1,none⟩ (.int .i64 c1)).setCell ⟨W.heap.size,2,none⟩ (.int .i64 c2)).setCell ⟨W.heap.size,3,none⟩ (.int .i64 c3)).setCell ⟨W.heap.size,4,none⟩ (.int .i64 c4)) = W6 at h5 hend ⊢
    have y0 : W6.cell? ⟨W.heap.size,0,none⟩ = some (.int .i64 c0):=by simp [World.cell?,h5]
    have y1 : W6.cell? ⟨W.heap.size,1,none⟩ = some (.int .i64 c1):=by simp [World.cell?,h5]
    have y2 : W6.cell? ⟨W.heap.size,2,none⟩ = some (.int .i64 c2):=by simp [World.cell?,h5]
    have y3 : W6.cell? ⟨W.heap.size,3,none⟩ = some (.int .i64 c3):=by simp [World.cell?,h5]
    have y4 : W6.cell? ⟨W.heap.size,4,none⟩ = some (.int .i64 c4):=by simp [World.cell?,h5]
    refine bodyPost_ret (v:=.agg #[.int .i64 c0,.int .i64 c1,.int .i64 c2,.int .i64 c3,.int .i64 c4]) (by simp only [results,Tryz.f79,go_sem];simp [go_sem,y0,y1,y2,y3,y4]) rfl ⟨rfl,hend⟩
  | some a =>
    rw [hn] at cw1
    simp only [ptrO] at cw1
    have ha:=L.hand w a hn
    obtain ⟨⟨av,ta,ra⟩,la⟩:=h0.tks a ha
    have HMW:=hide (mustWait_calls _ (adr a) (s.t a) _ av W0 ta ra)
    have HW0:=hide hW0
    cases hwt : waits (s.t a) with
    | true =>
      rw [hwt] at HMW
      have HS : Hid (Calls Tryz.prog 105 #[.pointer (some ⟨wb,3 * w,none⟩)] W0 (Sub n₀ wb workers sN W0 (.agg #[.int .i64 c0,.int .i64 c1,.int .i64 c2,.int .i64 c3,.int .i64 c4]))):=by
        have:=crew_aside (v:=v) h0 L hw hn hwt
        rw [hrs,hsN] at this
        exact this
      clear hW0 h h0 hC hC0 hb0 L hg hl10 hrs hsN hc0 hc1 hc2 hc3 hc4 cw0 cw2 hh0
      clear ta ra
      go_enter Tryz.func79,Tryz.ntmps79
      go_wp2_with (first
              | (go_at_call 104
                 rw [HW0.out]
                 refine HMW.out.mono ?_
                 rintro e w' ⟨rfl,rfl⟩
                 rw [← HW0.out])
              | (go_at_call 105
                 rw [HW0.out]
                 refine HS.out.mono ?_
                 intro e w3 hsub
                 have hfin:=HFIN.out e w3 hsub
                 obtain ⟨rfl,_⟩:=hsub
                 obtain ⟨hr3,hfin⟩:=hfin
                 obtain ⟨s0,f0⟩:=HC4.out w3 hr3 0 _ rfl
                 obtain ⟨s1,f1⟩:=HC4.out w3 hr3 1 _ rfl
                 obtain ⟨s2,f2⟩:=HC4.out w3 hr3 2 _ rfl
                 obtain ⟨s3,f3⟩:=HC4.out w3 hr3 3 _ rfl
                 obtain ⟨s4,f4⟩:=HC4.out w3 hr3 4 _ rfl
                 have HR3:=hide hr3
                 have HF:=hide hfin
                 clear hr3 hfin))
      have h5:=heap_set _ W.heap.size 4 (.int .i64 c4) _ _ (heap_set _ W.heap.size 3 (.int .i64 c3) _ _ (heap_set _ W.heap.size 2 (.int .i64 c2) _ _ (heap_set _ W.heap.size 1 (.int .i64 c1) _ _ (heap_set _ W.heap.size 0 (.int .i64 c0) _ _ HR3.out))))
      have hot : ∀ b,b ≠ W.heap.size → (((((w3.setCell ⟨W.heap.size,0,none⟩ (.int .i64 c0)).setCell ⟨W.heap.size,1,none⟩ (.int .i64 c1)).setCell ⟨W.heap.size,2,none⟩ (.int .i64 c2)).setCell ⟨W.heap.size,3,none⟩ (.int .i64 c3)).setCell ⟨W.heap.size,4,none⟩ (.int .i64 c4)).heap[b]? = w3.heap[b]?:=fun b q2=>by
        rw [Below.heap_setCell _ _ _ _ q2,Below.heap_setCell _ _ _ _ q2,Below.heap_setCell _ _ _ _ q2,Below.heap_setCell _ _ _ _ q2,Below.heap_setCell _ _ _ _ q2]
      have hend:=HF.out (((((w3.setCell ⟨W.heap.size,0,none⟩ (.int .i64 c0)).setCell ⟨W.heap.size,1,none⟩ (.int .i64 c1)).setCell ⟨W.heap.size,2,none⟩ (.int .i64 c2)).setCell ⟨W.heap.size,3,none⟩ (.int .i64 c3)).setCell ⟨W.heap.size,4,none⟩ (.int .i64 c4)) hot rfl rfl rfl (by simp [World.setCell])
      generalize (((((w3.setCell ⟨W.heap.size,0,none⟩ (.int .i64 c0)).setCell ⟨W.heap.size,1,none⟩ (.int .i64 c1)).setCell ⟨W.heap.size,2,none⟩ (.int .i64 c2)).setCell ⟨W.heap.size,3,none⟩ (.int .i64 c3)).setCell ⟨W.heap.size,4,none⟩ (.int .i64 c4)) = W6 at h5 hend ⊢
      have y0 : W6.cell? ⟨W.heap.size,0,none⟩ = some (.int .i64 c0):=by simp [World.cell?,h5]
      have y1 : W6.cell? ⟨W.heap.size,1,none⟩ = some (.int .i64 c1):=by simp [World.cell?,h5]
      have y2 : W6.cell? ⟨W.heap.size,2,none⟩ = some (.int .i64 c2):=by simp [World.cell?,h5]
      have y3 : W6.cell? ⟨W.heap.size,3,none⟩ = some (.int .i64 c3):=by simp [World.cell?,h5]
      have y4 : W6.cell? ⟨W.heap.size,4,none⟩ = some (.int .i64 c4):=by simp [World.cell?,h5]
      refine bodyPost_ret (v:=.agg #[.int .i64 c0,.int .i64 c1,.int .i64 c2,.int .i64 c3,.int .i64 c4]) (by simp only [results,Tryz.f79,go_sem];simp [go_sem,y0,y1,y2,y3,y4]) rfl ⟨rfl,hend⟩
    | false =>
      rw [hwt] at HMW
      obtain ⟨aa,acap,hav,hca,_⟩:=ra.form
      subst hav
      have HAE:=hide (atEnd_calls (adr a) (s.t a) _ aa (s.t a).rem.length acap W0 ta)
      cases hrem : (s.t a).rem with
      | nil =>
        rw [hrem] at HAE
        simp only [List.length_nil,decide_true] at HAE
        have HS : Hid (Calls Tryz.prog 107 #[.pointer (some ⟨wb,3 * w,none⟩)] W0 (Sub n₀ wb workers sN W0 (.agg #[.int .i64 c0,.int .i64 c1,.int .i64 c2,.int .i64 c3,.int .i64 c4]))):=by
          have:=crew_end (v:=v) h0 L (by omega) hw hn hwt hrem
          rw [hrs,hsN] at this
          exact this
        clear hW0 h h0 hC hC0 hb0 L hg hl10 hrs hsN hc0 hc1 hc2 hc3 hc4 cw0 cw2 hh0
        clear ta ra hca
        go_enter Tryz.func79,Tryz.ntmps79
        go_wp2_with (first
              | (go_at_call 104
                 rw [HW0.out]
                 refine HMW.out.mono ?_
                 rintro e w' ⟨rfl,rfl⟩
                 rw [← HW0.out])
              | (go_at_call 106
                 rw [HW0.out]
                 refine HAE.out.mono ?_
                 rintro e w' ⟨rfl,rfl⟩
                 rw [← HW0.out])
              | (go_at_call 107
                 rw [HW0.out]
                 refine HS.out.mono ?_
                 intro e w3 hsub
                 have hfin:=HFIN.out e w3 hsub
                 obtain ⟨rfl,_⟩:=hsub
                 obtain ⟨hr3,hfin⟩:=hfin
                 obtain ⟨s0,f0⟩:=HC4.out w3 hr3 0 _ rfl
                 obtain ⟨s1,f1⟩:=HC4.out w3 hr3 1 _ rfl
                 obtain ⟨s2,f2⟩:=HC4.out w3 hr3 2 _ rfl
                 obtain ⟨s3,f3⟩:=HC4.out w3 hr3 3 _ rfl
                 obtain ⟨s4,f4⟩:=HC4.out w3 hr3 4 _ rfl
                 have HR3:=hide hr3
                 have HF:=hide hfin
                 clear hr3 hfin))
        have h5:=heap_set _ W.heap.size 4 (.int .i64 c4) _ _ (heap_set _ W.heap.size 3 (.int .i64 c3) _ _ (heap_set _ W.heap.size 2 (.int .i64 c2) _ _ (heap_set _ W.heap.size 1 (.int .i64 c1) _ _ (heap_set _ W.heap.size 0 (.int .i64 c0) _ _ HR3.out))))
        have hot : ∀ b,b ≠ W.heap.size → (((((w3.setCell ⟨W.heap.size,0,none⟩ (.int .i64 c0)).setCell ⟨W.heap.size,1,none⟩ (.int .i64 c1)).setCell ⟨W.heap.size,2,none⟩ (.int .i64 c2)).setCell ⟨W.heap.size,3,none⟩ (.int .i64 c3)).setCell ⟨W.heap.size,4,none⟩ (.int .i64 c4)).heap[b]? = w3.heap[b]?:=fun b q2=>by
          rw [Below.heap_setCell _ _ _ _ q2,Below.heap_setCell _ _ _ _ q2,Below.heap_setCell _ _ _ _ q2,Below.heap_setCell _ _ _ _ q2,Below.heap_setCell _ _ _ _ q2]
        have hend:=HF.out (((((w3.setCell ⟨W.heap.size,0,none⟩ (.int .i64 c0)).setCell ⟨W.heap.size,1,none⟩ (.int .i64 c1)).setCell ⟨W.heap.size,2,none⟩ (.int .i64 c2)).setCell ⟨W.heap.size,3,none⟩ (.int .i64 c3)).setCell ⟨W.heap.size,4,none⟩ (.int .i64 c4)) hot rfl rfl rfl (by simp [World.setCell])
        generalize (((((w3.setCell ⟨W.heap.size,0,none⟩ (.int .i64 c0)).setCell ⟨W.heap.size,1,none⟩ (.int .i64 c1)).setCell ⟨W.heap.size,2,none⟩ (.int .i64 c2)).setCell ⟨W.heap.size,3,none⟩ (.int .i64 c3)).setCell ⟨W.heap.size,4,none⟩ (.int .i64 c4)) = W6 at h5 hend ⊢
        have y0 : W6.cell? ⟨W.heap.size,0,none⟩ = some (.int .i64 c0):=by simp [World.cell?,h5]
        have y1 : W6.cell? ⟨W.heap.size,1,none⟩ = some (.int .i64 c1):=by simp [World.cell?,h5]
        have y2 : W6.cell? ⟨W.heap.size,2,none⟩ = some (.int .i64 c2):=by simp [World.cell?,h5]
        have y3 : W6.cell? ⟨W.heap.size,3,none⟩ = some (.int .i64 c3):=by simp [World.cell?,h5]
        have y4 : W6.cell? ⟨W.heap.size,4,none⟩ = some (.int .i64 c4):=by simp [World.cell?,h5]
        refine bodyPost_ret (v:=.agg #[.int .i64 c0,.int .i64 c1,.int .i64 c2,.int .i64 c3,.int .i64 c4]) (by simp only [results,Tryz.f79,go_sem];simp [go_sem,y0,y1,y2,y3,y4]) rfl ⟨rfl,hend⟩
      | cons i rest =>
        rw [hrem] at HAE
        simp only [List.length_cons,Nat.add_one_ne_zero,decide_false] at HAE
        have HS : Hid (Calls Tryz.prog 108 #[.pointer (some ⟨wb,3 * w,none⟩),.pointer (some ⟨cb,0,none⟩)] W0 (Sub n₀ wb workers sN W0 (.agg #[.int .i64 c0,.int .i64 c1,.int .i64 c2,.int .i64 c3,.int .i64 c4]))):=by
          have:=crew_do (v:=v) h0 L hK hC0 hg hl10 hw hn hwt hrem
          rw [hrs,hsN] at this
          exact this
        clear hW0 h h0 hC hC0 hb0 L hg hl10 hrs hsN hc0 hc1 hc2 hc3 hc4 cw0 cw2 hh0
        clear ta ra hca
        go_enter Tryz.func79,Tryz.ntmps79
        go_wp2_with (first
              | (go_at_call 104
                 rw [HW0.out]
                 refine HMW.out.mono ?_
                 rintro e w' ⟨rfl,rfl⟩
                 rw [← HW0.out])
              | (go_at_call 106
                 rw [HW0.out]
                 refine HAE.out.mono ?_
                 rintro e w' ⟨rfl,rfl⟩
                 rw [← HW0.out])
              | (go_at_call 108
                 rw [HW0.out]
                 refine HS.out.mono ?_
                 intro e w3 hsub
                 have hfin:=HFIN.out e w3 hsub
                 obtain ⟨rfl,_⟩:=hsub
                 obtain ⟨hr3,hfin⟩:=hfin
                 obtain ⟨s0,f0⟩:=HC4.out w3 hr3 0 _ rfl
                 obtain ⟨s1,f1⟩:=HC4.out w3 hr3 1 _ rfl
                 obtain ⟨s2,f2⟩:=HC4.out w3 hr3 2 _ rfl
                 obtain ⟨s3,f3⟩:=HC4.out w3 hr3 3 _ rfl
                 obtain ⟨s4,f4⟩:=HC4.out w3 hr3 4 _ rfl
                 have HR3:=hide hr3
                 have HF:=hide hfin
                 clear hr3 hfin))
        have h5:=heap_set _ W.heap.size 4 (.int .i64 c4) _ _ (heap_set _ W.heap.size 3 (.int .i64 c3) _ _ (heap_set _ W.heap.size 2 (.int .i64 c2) _ _ (heap_set _ W.heap.size 1 (.int .i64 c1) _ _ (heap_set _ W.heap.size 0 (.int .i64 c0) _ _ HR3.out))))
        have hot : ∀ b,b ≠ W.heap.size → (((((w3.setCell ⟨W.heap.size,0,none⟩ (.int .i64 c0)).setCell ⟨W.heap.size,1,none⟩ (.int .i64 c1)).setCell ⟨W.heap.size,2,none⟩ (.int .i64 c2)).setCell ⟨W.heap.size,3,none⟩ (.int .i64 c3)).setCell ⟨W.heap.size,4,none⟩ (.int .i64 c4)).heap[b]? = w3.heap[b]?:=fun b q2=>by
          rw [Below.heap_setCell _ _ _ _ q2,Below.heap_setCell _ _ _ _ q2,Below.heap_setCell _ _ _ _ q2,Below.heap_setCell _ _ _ _ q2,Below.heap_setCell _ _ _ _ q2]
        have hend:=HF.out (((((w3.setCell ⟨W.heap.size,0,none⟩ (.int .i64 c0)).setCell ⟨W.heap.size,1,none⟩ (.int .i64 c1)).setCell ⟨W.heap.size,2,none⟩ (.int .i64 c2)).setCell ⟨W.heap.size,3,none⟩ (.int .i64 c3)).setCell ⟨W.heap.size,4,none⟩ (.int .i64 c4)) hot rfl rfl rfl (by simp [World.setCell])
        generalize (((((w3.setCell ⟨W.heap.size,0,none⟩ (.int .i64 c0)).setCell ⟨W.heap.size,1,none⟩ (.int .i64 c1)).setCell ⟨W.heap.size,2,none⟩ (.int .i64 c2)).setCell ⟨W.heap.size,3,none⟩ (.int .i64 c3)).setCell ⟨W.heap.size,4,none⟩ (.int .i64 c4)) = W6 at h5 hend ⊢
        have y0 : W6.cell? ⟨W.heap.size,0,none⟩ = some (.int .i64 c0):=by simp [World.cell?,h5]
        have y1 : W6.cell? ⟨W.heap.size,1,none⟩ = some (.int .i64 c1):=by simp [World.cell?,h5]
        have y2 : W6.cell? ⟨W.heap.size,2,none⟩ = some (.int .i64 c2):=by simp [World.cell?,h5]
        have y3 : W6.cell? ⟨W.heap.size,3,none⟩ = some (.int .i64 c3):=by simp [World.cell?,h5]
        have y4 : W6.cell? ⟨W.heap.size,4,none⟩ = some (.int .i64 c4):=by simp [World.cell?,h5]
        refine bodyPost_ret (v:=.agg #[.int .i64 c0,.int .i64 c1,.int .i64 c2,.int .i64 c3,.int .i64 c4]) (by simp only [results,Tryz.f79,go_sem];simp [go_sem,y0,y1,y2,y3,y4]) rfl ⟨rfl,hend⟩
end
end Go.Proofs.YtkmakliebhnhbaaGreat
