import Derived.Test.YtkmakliebhnhbaaGreatCrQ
import Derived.Test.YtkmakliebhnhbaaGreatMachU
namespace Go.Proofs.YtkmakliebhnhbaaGreat
open Go.RowKit Go.Shelf
def Rs.k : Rs → Int
 | .went=>0
 | .gave ..=>1
 | .stole=>2
 | .failed=>3
 | .done=>4
def Rs.w (w : Nat) : Rs → Int
 | .gave ..=>(w : Int)
 | _=>0
def Rs.r : Rs → Int
 | .gave r _ _=>r
 | _=>0
def Rs.n : Rs → Int
 | .gave _ n _=>n
 | _=>0
def Rs.p : Rs → Int
 | .gave _ _ p=>(p : Int)
 | _=>0
def rsV (w : Nat) (r : Rs) : Value:=.agg #[.int .i64 r.k,.int .i64 (r.w w),.int .i64 r.r,.int .i64 r.n,.int .i64 r.p]
theorem St.stk_hand (s : St) (i : Nat) (l : List Nat) (o : Option Nat) : (s.stk i l).hand i o = (s.hand i o).stk i l:=by
 unfold St.stk St.hand St.putW St.w
 simp only [List.getElem?_set,List.set_set]
 by_cases h : i < s.ws.length
 ·simp [h]
 ·rw [List.set_eq_of_length_le (by omega),List.set_eq_of_length_le (by omega)]
section
variable {W : World} {n₀ wb workers : Nat} {s : St} {adr : Nat → Nat} {stk : Nat → Value}
theorem Crew.tmut (h : Crew W n₀ wb workers s adr stk) {i : Nat} (hi : i < s.ts.length) : ∃ o,W.heap[adr i]? = some o ∧ isMut o:=by
 obtain ⟨⟨av,q,_⟩,_⟩:=h.tks i hi
 exact ⟨_,q,.inl rfl⟩
theorem Crew.wmut (h : Crew W n₀ wb workers s adr stk) : ∃ o,W.heap[wb]? = some o ∧ isMut o:=by
 obtain ⟨cs,q,_⟩:=h.row
 exact ⟨_,q,.inr (.inl rfl)⟩
theorem Kept.sett {X : World} {n₀ b j : Nat} {W : World} {v : Value} (k : Kept n₀ W X) (hn : n₀ ≤ b) (h : ∃ o,W.heap[b]? = some o ∧ isMut o) : Kept n₀ W (X.setCell ⟨b,j,none⟩ v) :=
 ⟨k.below.setCell (p:=⟨b,j,none⟩) hn _,fun i o hi ho=>(Below.heap_setCell _ _ _ _ (fun e=>by
  have e : i = b:=e
  subst e
  obtain ⟨o',ho',hm⟩:=h
  rw [hi] at ho';cases ho';exact ho hm)).trans (k.keep i o hi ho)⟩
theorem Kept.bel {X Y : World} {n₀ n : Nat} {W : World} (k : Kept n₀ W X) (h : Below n X Y) (hn : W.heap.size ≤ n) (hn0 : n₀ ≤ n) : Kept n₀ W Y :=
 ⟨k.below.trans (h.mono hn0),fun i o hi ho=>(h.block i (Nat.lt_of_lt_of_le (Array.getElem?_eq_some_iff.1 hi).1 hn)).trans (k.keep i o hi ho)⟩
theorem rd_set {X : World} {B j : Nat} {v av : Value} {l : List Ins} (h : RdL (InsAt X) X 5 Ins.vals av l) (hm : ∃ o,X.heap[B]? = some o ∧ isMut o) : RdL (InsAt (X.setCell ⟨B,j,none⟩ v)) (X.setCell ⟨B,j,none⟩ v) 5 Ins.vals av l:=by
 refine h.turn (fun b hb _=>?_) (fun x _=>List.cons_ne_nil _ _)
 obtain ⟨o,ho,hi⟩:=hb
 have hne : b ≠ B:=fun e=>by
  subst e
  obtain ⟨o',ho',hm'⟩:=hm
  rw [ho] at ho';cases ho'
  cases o <;> first | (exact hi.elim) | skip
  unfold isIns at hi
  unfold isMut at hm'
  simp only at hi hm'
  subst hi
  rcases hm' with hm' | hm' | hm' <;> exact absurd hm' (by decide)
 exact ⟨⟨o,(Below.heap_setCell _ _ _ _ hne).trans ho,hi⟩,Below.heap_setCell _ _ _ _ hne⟩
theorem set_mut {X : World} {B b j : Nat} {v : Value} (hm : ∃ o,X.heap[b]? = some o ∧ isMut o) : ∃ o,(X.setCell ⟨B,j,none⟩ v).heap[b]? = some o ∧ isMut o:=by
 obtain ⟨o,ho,hm⟩:=hm
 by_cases e : b = B
 ·subst e
  cases o <;> first | exact hm.elim | skip
  exact ⟨_,heap_set' _ _ _ _ _ _ _ ho,hm⟩
 ·exact ⟨o,(Below.heap_setCell _ _ _ _ e).trans ho,hm⟩
variable {fs : List (List Ins)} {nr K : Nat}
theorem StkV.emp {v : Value} (h : StkV W n₀ adr v []) : ∃ a cap,v = .slice a 0 cap:=by
 rcases h with ⟨h,_⟩ | ⟨sb,so,cap,cs,h,_⟩
 ·exact ⟨_,_,h⟩
 ·exact ⟨_,_,h⟩
theorem crew_steal (h : Crew W n₀ wb workers s adr stk) (L : Lean1 fs nr s K) (hK : K ≤ 1000000) {w v : Nat} (hw : w < workers) (hv : v < workers) (hn : (s.w w).hand = none) :
  Calls Tryz.prog 103 #[.pointer (some ⟨wb,3 * w,none⟩),.pointer (some ⟨wb,3 * v,none⟩)] W fun e W'=>e = .returned (rsV w (stepM fs s w v).2) ∧ ∃ adr' stk',Crew W' n₀ wb workers (stepM fs s w v).1 adr' stk' ∧ Kept n₀ W W':=by
 obtain ⟨cw0,cw1,cw2⟩:=h.wcell hw
 obtain ⟨cv0,cv1,cv2⟩:=h.wcell hv
 have hwlt : wb < W.heap.size:=block_lt_of_cell cw0
 have hlo:=h.lo
 have hst:=h.stks v hv
 unfold stepM
 rw [hn]
 simp only
 cases hs : (s.w v).stack with
 | nil =>
  rw [hs] at hst
  obtain ⟨a,cap,ea⟩:=hst.emp
  refine (steal_fail wb (3 * w) (3 * v) cap a W (by rw [cv2,ea])).mono (fun e W' ⟨he,hb⟩=>⟨he,adr,stk,h.below hb,Kept.of_below hb (by omega)⟩)
 | cons q rest =>
  rw [hs] at hst
  have hq : q < s.ts.length:=L.stack v q (by rw [hs];exact List.mem_cons_self ..)
  obtain ⟨⟨av,tq,rq⟩,lq⟩:=h.tks q hq
  rcases hst with ⟨_,hst⟩ | ⟨sb,so,cap,cs,e1,e2,e3,e4,e5,e6,e7⟩
  ·cases hst
  ·simp only [List.length_cons] at e1 e4
   have hsw : sb ≠ wb:=(h.ne_stk hv (by rw [e1];rfl)).1
   have hcell : W.cell? ⟨sb,so,none⟩ = some (.pointer (some ⟨adr q,0,none⟩)):=by
    simp only [World.cell?,e2]
    exact e7 0 q rfl
   have ho1 : (s.t q).out ≤ K:=L.out q hq
   have ho0:=L.pos q hq
   unfold maxLen at e5
   refine (steal_ok (adr q) wb (3 * w) (3 * v) sb so rest.length cap (s.t q) (parV adr (s.t q)) av _ W tq cw1 (h.wfz _) (h.wfz _) (by rw [cv2,e1]) hcell (h.ne_task hq) hsw (by omega) e4 (by omega) ho0 (by omega)).mono (fun e W' ⟨he,hb⟩=>⟨he,adr,(fun k=>if k = v then .slice (some ⟨sb,if cap = 1 then so else so + 1,none⟩) rest.length (cap - 1) else stk k),?_,?_⟩)
   ·have h1:=h.setHand hw (some q)
    have hne : ∀ i,i < s.ts.length → adr i ≠ wb:=fun i hi=>h.ne_task hi
    have hv1 : StkV (W.setCell ⟨wb,3 * w + 1,none⟩ (ptrO adr (some q))) n₀ adr (.slice (some ⟨sb,if cap = 1 then so else so + 1,none⟩) rest.length (cap - 1)) rest:=by
     refine .inr ⟨sb,if cap = 1 then so else so + 1,cap - 1,cs,rfl,(Below.heap_setCell _ _ _ _ hsw).trans e2,e3,by omega,by unfold maxLen;omega,?_,fun i q' hq'=>?_⟩
     ·split <;> omega
     ·have hil:=(List.getElem?_eq_some_iff.1 hq').1
      rw [if_neg (by omega),show so + 1 + i = so + (i + 1) by omega]
      exact e7 (i + 1) q' (by simpa using hq')
    have h2:=h1.setStk hv _ rest hv1 (fun k hk hne b hb=>by
     have e : b = sb:=by simpa [blkOf] using hb.symm
     rw [e]
     exact h.apart v k hv hk (Ne.symm hne) sb (by rw [e1];rfl))
    have hq2 : q < ((s.hand w (some q)).stk v rest).ts.length:=hq
    have htq : ((s.hand w (some q)).stk v rest).t q = s.t q:=rfl
    have h3:=h2.setTask (W':=((W.setCell ⟨wb,3 * w + 1,none⟩ (ptrO adr (some q))).setCell ⟨wb,3 * v + 2,none⟩ (.slice (some ⟨sb,if cap = 1 then so else so + 1,none⟩) rest.length (cap - 1))).setCell ⟨adr q,8,none⟩ (.int .i64 ((s.t q).out + 1))) hq2 { s.t q with out:=(s.t q).out + 1 } ?_ (fun b hb _=>Below.heap_setCell _ _ _ _ hb)
    ·exact h3.below (hb.mono (by simp [World.setCell]))
    ·have tq2:=(tq.other wb (3 * w + 1) (ptrO adr (some q)) (h.ne_task hq)).other wb (3 * v + 2) (.slice (some ⟨sb,if cap = 1 then so else so + 1,none⟩) rest.length (cap - 1)) (h.ne_task hq)
     exact ⟨av,tq2.set8 _,rd_set (rd_set (rd_set rq h.wmut) (set_mut h.wmut)) (set_mut (set_mut (h.tmut hq)))⟩
   ·refine Kept.bel ?_ hb (Nat.le_refl _) (by omega)
    exact (((Kept.refl n₀ W).sett hlo h.wmut).sett hlo h.wmut).sett lq (h.tmut hq)
theorem crew_aside (h : Crew W n₀ wb workers s adr stk) (L : Lean1 fs nr s K) {w v a : Nat} (hw : w < workers) (hn : (s.w w).hand = some a) (hwt : waits (s.t a) = true) :
  Calls Tryz.prog 105 #[.pointer (some ⟨wb,3 * w,none⟩)] W fun e W'=>e = .returned (rsV w (stepM fs s w v).2) ∧ ∃ adr' stk',Crew W' n₀ wb workers (stepM fs s w v).1 adr' stk' ∧ Kept n₀ W W':=by
 obtain ⟨cw0,cw1,cw2⟩:=h.wcell hw
 have hwlt : wb < W.heap.size:=block_lt_of_cell cw0
 have hlo:=h.lo
 have ha:=L.hand w a hn
 obtain ⟨⟨av,ta,ra⟩,la⟩:=h.tks a ha
 rw [hn] at cw1
 have hst : stepM fs s w v = ((s.putT a { s.t a with asd:=true }).hand w none,.went):=by
  unfold stepM
  rw [hn]
  simp only
  rw [if_pos hwt]
 rw [hst]
 refine (setAside_calls (adr a) wb (3 * w) (s.t a) (parV adr (s.t a)) av W ta cw1 (h.wfz _) (h.ne_task ha)).mono (fun e W' ⟨he,hb⟩=>⟨he,adr,stk,?_,?_⟩)
 ·have h1:=h.setTask (W':=W.setCell ⟨adr a,9,none⟩ (.bool true)) ha { s.t a with asd:=true } ⟨av,ta.set9 true,rd_set ra (h.tmut ha)⟩ (fun b hb _=>Below.heap_setCell _ _ _ _ hb)
  exact (h1.setHand hw none).below (hb.mono (by simp [World.setCell]))
 ·refine Kept.bel ?_ hb (Nat.le_refl _) (by omega)
  exact ((Kept.refl n₀ W).sett la (h.tmut ha)).sett hlo h.wmut
end
end Go.Proofs.YtkmakliebhnhbaaGreat
namespace Go.Proofs.YtkmakliebhnhbaaGreat
open Go.RowKit Go.Shelf
section
variable {W : World} {n₀ wb workers : Nat} {s : St} {adr : Nat → Nat} {stk : Nat → Value} {fs : List (List Ins)} {nr K : Nat}
theorem crew_end (h : Crew W n₀ wb workers s adr stk) (L : Lean1 fs nr s K) (hK : K ≤ 1000000) {w v a : Nat} (hw : w < workers) (hn : (s.w w).hand = some a) (hwt : waits (s.t a) = false) (hr : (s.t a).rem = []) :
  Calls Tryz.prog 107 #[.pointer (some ⟨wb,3 * w,none⟩)] W fun e W'=>e = .returned (rsV w (stepM fs s w v).2) ∧ ∃ adr' stk',Crew W' n₀ wb workers (stepM fs s w v).1 adr' stk' ∧ Kept n₀ W W':=by
 obtain ⟨cw0,cw1,cw2⟩:=h.wcell hw
 have hwlt : wb < W.heap.size:=block_lt_of_cell cw0
 have hlo:=h.lo
 have ha:=L.hand w a hn
 obtain ⟨⟨av,ta,ra⟩,la⟩:=h.tks a ha
 rw [hn] at cw1
 have hst:=h.stks w hw
 have hwf : ¬ (waits (s.t a) = true):=by rw [hwt];exact Bool.false_ne_true
 cases hor : (s.t a).org with
 | root =>
  have hs : stepM fs s w v = (s.hand w none,.done):=by
   unfold stepM
   rw [hn]
   simp only
   rw [if_neg hwf,hr,hor]
  rw [hs]
  refine (end_root (adr a) wb (3 * w) (s.t a) _ av W ta hor cw1 (h.wfz _)).mono (fun e W' ⟨he,hb⟩=>⟨he,adr,stk,(h.setHand hw none).below (hb.mono (by simp [World.setCell])),Kept.bel ((Kept.refl n₀ W).sett hlo h.wmut) hb (Nat.le_refl _) (by omega)⟩)
 | call =>
  have hs : stepM fs s w v = (s.hand w (some (s.t a).par),.went):=by
   unfold stepM
   rw [hn]
   simp only
   rw [if_neg hwf,hr,hor]
  rw [hs]
  have hpv : parV adr (s.t a) = .pointer (some ⟨adr (s.t a).par,0,none⟩):=by unfold parV;rw [hor]
  rw [hpv] at ta
  refine (end_call (adr a) (adr (s.t a).par) wb (3 * w) (s.t a) av W ta hor cw1 (h.wfz _)).mono (fun e W' ⟨he,hb⟩=>⟨he,adr,stk,(h.setHand hw (some (s.t a).par)).below (hb.mono (by simp [World.setCell])),Kept.bel ((Kept.refl n₀ W).sett hlo h.wmut) hb (Nat.le_refl _) (by omega)⟩)
 | spawn =>
  have hpv : parV adr (s.t a) = .pointer (some ⟨adr (s.t a).par,0,none⟩):=by unfold parV;rw [hor]
  rw [hpv] at ta
  cases hlast : (s.w w).stack.getLast? with
  | some q =>
   have hs : stepM fs s w v = ((s.hand w (some q)).stk w (s.w w).stack.dropLast,.went):=by
    unfold stepM
    rw [hn]
    simp only
    rw [if_neg hwf,hr,hor]
    simp only
    rw [hlast]
   rw [hs]
   have hne : (s.w w).stack ≠ []:=fun e=>by rw [e] at hlast;cases hlast
   have hlen : 0 < (s.w w).stack.length:=List.length_pos_iff.2 hne
   have hat : (s.w w).stack[(s.w w).stack.length - 1]? = some q:=by rw [← List.getLast?_eq_getElem?];exact hlast
   rcases hst with ⟨_,e⟩ | ⟨sb,so,cap,cs,e1,e2,e3,e4,e5,e6,e7⟩
   ·exact absurd e hne
   ·have hsw : sb ≠ wb:=(h.ne_stk hw (by rw [e1];rfl)).1
    obtain ⟨n,hN⟩ : ∃ n,(s.w w).stack.length = n + 1:=⟨(s.w w).stack.length - 1,by omega⟩
    rw [hN] at e1 e4
    have hcell : W.cell? ⟨sb,so + n,none⟩ = some (.pointer (some ⟨adr q,0,none⟩)):=by
     simp only [World.cell?,e2]
     exact e7 n q (by rw [hN] at hat;exact hat)
    unfold maxLen at e5
    refine (end_pop (adr a) (adr (s.t a).par) (adr q) wb (3 * w) sb so n cap (s.t a) av W ta hor cw1 (h.wfz _) (h.wfz _) (by rw [cw2,e1]) hcell e4 (by omega)).mono (fun e W' ⟨he,hb⟩=>⟨he,adr,(fun k=>if k = w then .slice (some ⟨sb,so,none⟩) n cap else stk k),?_,?_⟩)
    ·have hdl : (s.w w).stack.dropLast.length = n:=by rw [List.length_dropLast];omega
     have hv1 : StkV W n₀ adr (.slice (some ⟨sb,so,none⟩) n cap) (s.w w).stack.dropLast:=by
      refine .inr ⟨sb,so,cap,cs,by rw [hdl],e2,e3,by omega,by unfold maxLen;omega,e6,fun i q' hq'=>?_⟩
      have hil:=(List.getElem?_eq_some_iff.1 hq').1
      rw [List.getElem?_dropLast,if_pos (by omega)] at hq'
      exact e7 i q' hq'
     have h1:=h.setStk hw _ _ hv1 (fun k hk hne b hb=>by
      have e : b = sb:=by simpa [blkOf] using hb.symm
      rw [e]
      exact h.apart w k hw hk (Ne.symm hne) sb (by rw [e1];rfl))
     have h2:=h1.setHand hw (some q)
     rw [St.stk_hand] at h2
     exact h2.below (hb.mono (by simp [World.setCell]))
    ·exact Kept.bel (((Kept.refl n₀ W).sett hlo h.wmut).sett hlo h.wmut) hb (Nat.le_refl _) (by omega)
  | none =>
   have hse : (s.w w).stack = []:=List.getLast?_eq_none_iff.1 hlast
   have hp:=L.par a ha (by rw [hor];simp)
   have hj:=L.join w a hn hor hse
   have hou:=L.out _ hp
   obtain ⟨⟨pav,tp,rp⟩,lp⟩:=h.tks _ hp
   rw [hse] at hst
   obtain ⟨sa,sc,es⟩:=hst.emp
   by_cases hc : (s.t (s.t a).par).out - 1 = 0 ∧ (s.t (s.t a).par).asd = true
   ·have hs : stepM fs s w v = ((s.putT (s.t a).par { s.t (s.t a).par with out:=(s.t (s.t a).par).out - 1,asd:=false }).hand w (some (s.t a).par),.went):=by
     unfold stepM
     rw [hn]
     simp only
     rw [if_neg hwf,hr,hor]
     simp only
     rw [hlast]
     simp only
     rw [if_pos hc]
    rw [hs]
    refine (end_wake (adr a) (adr (s.t a).par) wb (3 * w) sc sa (s.t a) (s.t (s.t a).par) av _ pav W ta tp hor cw1 (h.wfz _) (h.ne_task hp) (by rw [cw2,es]) (by omega) hc.2).mono (fun e W' ⟨he,hb⟩=>⟨he,adr,stk,?_,?_⟩)
    ·have h1:=h.setTask (W':=(W.setCell ⟨adr (s.t a).par,8,none⟩ (.int .i64 0)).setCell ⟨adr (s.t a).par,9,none⟩ (.bool false)) hp { s.t (s.t a).par with out:=(s.t (s.t a).par).out - 1,asd:=false } ⟨pav,by rw [hc.1];exact (tp.set8 0).set9 false,rd_set (rd_set rp (h.tmut hp)) (set_mut (h.tmut hp))⟩ (fun b hb _=>(Below.heap_setCell _ _ _ _ hb).trans (Below.heap_setCell _ _ _ _ hb))
     exact (h1.setHand hw (some (s.t a).par)).below (hb.mono (by simp [World.setCell]))
    ·exact Kept.bel ((((Kept.refl n₀ W).sett lp (h.tmut hp)).sett lp (h.tmut hp)).sett hlo h.wmut) hb (Nat.le_refl _) (by omega)
   ·have hs : stepM fs s w v = ((s.putT (s.t a).par { s.t (s.t a).par with out:=(s.t (s.t a).par).out - 1 }).hand w none,.went):=by
     unfold stepM
     rw [hn]
     simp only
     rw [if_neg hwf,hr,hor]
     simp only
     rw [hlast]
     simp only
     rw [if_neg hc]
    rw [hs]
    refine (end_join (adr a) (adr (s.t a).par) wb (3 * w) sc sa (s.t a) (s.t (s.t a).par) av _ pav W ta tp hor cw1 (h.wfz _) (h.ne_task hp) (by rw [cw2,es]) hj (by omega) hc).mono (fun e W' ⟨he,hb⟩=>⟨he,adr,stk,?_,?_⟩)
    ·have h1:=h.setTask (W':=W.setCell ⟨adr (s.t a).par,8,none⟩ (.int .i64 ((s.t (s.t a).par).out - 1))) hp { s.t (s.t a).par with out:=(s.t (s.t a).par).out - 1 } ⟨pav,tp.set8 _,rd_set rp (h.tmut hp)⟩ (fun b hb _=>Below.heap_setCell _ _ _ _ hb)
     exact (h1.setHand hw none).below (hb.mono (by simp [World.setCell]))
    ·exact Kept.bel (((Kept.refl n₀ W).sett lp (h.tmut hp)).sett hlo h.wmut) hb (Nat.le_refl _) (by omega)
end
end Go.Proofs.YtkmakliebhnhbaaGreat
namespace Go.Proofs.YtkmakliebhnhbaaGreat
open Go.RowKit Go.Shelf
section
variable {W : World} {n₀ wb workers : Nat} {s : St} {adr : Nat → Nat} {stk : Nat → Value} {fs : List (List Ins)} {nr K : Nat}
theorem isIns_mut {o : Obj} (hi : isIns o) (hm : isMut o) : False:=by
 cases o <;> first | (exact hi.elim) | skip
 unfold isIns at hi
 unfold isMut at hm
 simp only at hi hm
 subst hi
 rcases hm with hm | hm | hm <;> exact absurd hm (by decide)
theorem Crew.pushed {W' : World} (h : Crew W n₀ wb workers s adr stk) {w a Q : Nat} (hw : w < workers) (ha : a < s.ts.length) (t2 kd : Tk) (sv' : Value) (l' : List Nat)
  (hrow : ∃ cs',W'.heap[wb]? = some (.cells cs' 183 (0,0)) ∧ ∀ k,k < workers → cs'[3 * k]? = some (.int .i64 (k : Int)) ∧ cs'[3 * k + 1]? = some (if k = w then .pointer (some ⟨Q,0,none⟩) else ptrO adr (s.w k).hand) ∧ cs'[3 * k + 2]? = some (if k = w then sv' else stk k))
  (hoth : ∀ b,b < W.heap.size → b ≠ wb → b ≠ adr a → blkOf (stk w) ≠ some b → W'.heap[b]? = W.heap[b]?)
  (hB : TkAt W' adr (adr a) t2) (hst : StkV W' n₀ adr sv' l') (hbk : blkOf sv' = blkOf (stk w) ∨ ∃ b,blkOf sv' = some b ∧ W.heap.size ≤ b) (hQ : W.heap.size ≤ Q) (hk : TkAt W' adr Q kd) (hnW : n₀ ≤ W.heap.size)
  (hh : ∀ k a,(s.w k).hand = some a → a < s.ts.length) (hs : ∀ k,∀ q ∈ (s.w k).stack,q < s.ts.length) (hl : ∀ q ∈ l',q < s.ts.length) (hp : ∀ i,i < s.ts.length → (s.t i).org ≠ .root → (s.t i).par < s.ts.length) (hp2 : t2.org ≠ .root → t2.par < s.ts.length) (hpk : kd.org ≠ .root → kd.par < s.ts.length) :
  Crew W' n₀ wb workers (({ (s.putT a t2).stk w l' with ts:=(s.ts.set a t2) ++ [kd] } : St).hand w (some s.ts.length)) (fun i=>if i = s.ts.length then Q else adr i) (fun k=>if k = w then sv' else stk k):=by
 have same : ∀ i,i < s.ts.length → (if i = s.ts.length then Q else adr i) = adr i:=fun i hi=>if_neg (by omega)
 have hwl : w < s.ws.length:=by rw [h.len];exact hw
 have hW : ∀ k,(({ (s.putT a t2).stk w l' with ts:=(s.ts.set a t2) ++ [kd] } : St).hand w (some s.ts.length)).w k = if k = w then ⟨some s.ts.length,l'⟩ else s.w k:=fun k=>by
  have h1 : w < ({ (s.putT a t2).stk w l' with ts:=(s.ts.set a t2) ++ [kd] } : St).ws.length:=by simp [St.stk,St.putW,St.putT];exact hwl
  rw [St.w_hand _ _ h1 k]
  have h2 : ∀ k,({ (s.putT a t2).stk w l' with ts:=(s.ts.set a t2) ++ [kd] } : St).w k = ((s.putT a t2).stk w l').w k:=fun _=>rfl
  rw [h2,h2,St.w_stk (s.putT a t2) l' hwl,St.w_stk (s.putT a t2) l' hwl]
  by_cases e : k = w
  ·simp [e]
  ·simp [e];rfl
 have hT : ∀ i,(({ (s.putT a t2).stk w l' with ts:=(s.ts.set a t2) ++ [kd] } : St).hand w (some s.ts.length)).t i = if i = s.ts.length then kd else if i = a then t2 else s.t i:=fun i=>by
  show (((s.ts.set a t2) ++ [kd])[i]?.getD tk0) = _
  by_cases e : i = s.ts.length
  ·rw [if_pos e,e,List.getElem?_append_right (by simp)];simp
  ·rw [if_neg e]
   by_cases e1 : i < s.ts.length
   ·rw [List.getElem?_append_left (by simpa using e1),List.getElem?_set]
    by_cases e2 : a = i
    ·subst e2;simp [ha]
    ·simp [e2,Ne.symm e2,St.t]
   ·rw [List.getElem?_append_right (by simp;omega)]
    have : ([kd] : List Tk)[i - (s.ts.set a t2).length]? = none:=by rw [List.getElem?_eq_none];simp;omega
    rw [this,if_neg (by omega)]
    unfold St.t
    rw [List.getElem?_eq_none (by omega)]
 have hTl : (({ (s.putT a t2).stk w l' with ts:=(s.ts.set a t2) ++ [kd] } : St).hand w (some s.ts.length)).ts.length = s.ts.length + 1:=by
  show ((s.ts.set a t2) ++ [kd]).length = _
  simp
 have lt : ∀ {b : Nat} {o : Obj},W.heap[b]? = some o → b < W.heap.size:=fun e=>(Array.getElem?_eq_some_iff.1 e).1
 have insk : ∀ (b : Nat) (o : Obj),W.heap[b]? = some o → isIns o → W'.heap[b]? = some o:=fun b o hb ho=>by
  refine (hoth b (lt hb) (fun e=>?_) (fun e=>?_) (fun e=>?_)).trans hb
  ·subst e;obtain ⟨o',q1,q2⟩:=h.wmut;rw [hb] at q1;cases q1;exact isIns_mut ho q2
  ·subst e;obtain ⟨o',q1,q2⟩:=h.tmut ha;rw [hb] at q1;cases q1;exact isIns_mut ho q2
  ·obtain ⟨_,cs',q⟩:=(h.stks w hw).blk e;rw [hb] at q;cases q;exact isIns_mut ho (.inr (.inr rfl))
 have sameS : ∀ {v : Value} {l : List Nat},StkV W' n₀ adr v l → (∀ q ∈ l,q < s.ts.length) → StkV W' n₀ (fun i=>if i = s.ts.length then Q else adr i) v l:=fun {v l} hv hq=>by
  rcases hv with q | ⟨sb,so,cap,cs',q1,q2,q3,q4,q5,q6,q7⟩
  ·exact .inl q
  ·refine .inr ⟨sb,so,cap,cs',q1,q2,q3,q4,q5,q6,fun i q hq'=>?_⟩
   show cs'[so + i]? = some (Value.pointer (some ⟨if q = s.ts.length then Q else adr q,0,none⟩))
   rw [same q (hq q (List.mem_of_getElem? hq'))]
   exact q7 i q hq'
 have hblt : ∀ k b,k < workers → blkOf (stk k) = some b → b < W.heap.size:=fun k b hk hb=>by
  obtain ⟨_,cs',q⟩:=(h.stks k hk).blk hb;exact lt q
 have halt : ∀ i,i < s.ts.length → adr i < W.heap.size:=fun i hi=>by
  obtain ⟨⟨av,q,_⟩,_⟩:=h.tks i hi;exact lt q
 refine ⟨by simp [St.hand,St.putW,St.stk,St.putT,h.len],?_,h.lo,fun i hi=>?_,fun i j hi hj e=>?_,fun k hk=>?_,fun k k' hk hk' hne b hb=>?_⟩
 ·obtain ⟨cs',r1,r2⟩:=hrow
  refine ⟨cs',r1,fun k hk=>?_⟩
  obtain ⟨x,y,z⟩:=r2 k hk
  refine ⟨x,?_,z⟩
  rw [hW k,y]
  by_cases e : k = w
  ·simp [e,ptrO]
  ·rw [if_neg e,if_neg e]
   cases hhd : (s.w k).hand with
   | none=>rfl
   | some q=>simp only [ptrO];rw [same q (hh k q hhd)]
 ·rw [hTl] at hi
  rw [hT i]
  by_cases e : i = s.ts.length
  ·subst e
   simp only [if_pos]
   exact ⟨hk.ext (fun g=>same _ (hpk g)),by omega⟩
  ·have hi' : i < s.ts.length:=by omega
   simp only [if_neg e]
   by_cases e2 : i = a
   ·subst e2
    simp only [if_pos]
    exact ⟨hB.ext (fun g=>same _ (hp2 g)),(h.tks i hi').2⟩
   ·simp only [if_neg e2]
    refine ⟨TkAt.ext (((h.tks i hi').1).keep (hoth _ (halt i hi') (h.ne_task hi') (fun g=>e2 (h.inj i a hi' ha g)) (fun g=>(h.ne_stk hw g).2 i hi' rfl)) insk) (fun g=>same _ (hp i hi' g)),(h.tks i hi').2⟩
 ·rw [hTl] at hi hj
  by_cases e1 : i = s.ts.length
  ·by_cases e2 : j = s.ts.length
   ·omega
   ·simp only [if_pos e1,if_neg e2] at e
    have:=halt j (by omega)
    omega
  ·by_cases e2 : j = s.ts.length
   ·simp only [if_neg e1,if_pos e2] at e
    have:=halt i (by omega)
    omega
   ·simp only [if_neg e1,if_neg e2] at e
    exact h.inj i j (by omega) (by omega) e
 ·rw [hW k]
  by_cases e : k = w
  ·subst e
   simp only [if_pos]
   exact sameS hst hl
  ·simp only [if_neg e]
   refine sameS ((h.stks k hk).keep (fun b hb hlt=>hoth b hlt (h.ne_stk hk hb).1 (Ne.symm ((h.ne_stk hk hb).2 a ha)) (fun g=>h.apart k w hk hw e b hb g))) (hs k)
 ·by_cases e : k = w
  ·subst e
   simp only [if_pos,if_neg (Ne.symm hne)] at hb ⊢
   rcases hbk with q | ⟨b',q1,q2⟩
   ·rw [q] at hb
    exact h.apart k k' hk hk' hne b hb
   ·intro g
    rw [hb] at q1
    injection q1 with q1
    have:=hblt k' b hk' g
    omega
  ·simp only [if_neg e] at hb
   by_cases e' : k' = w
   ·subst e'
    simp only [if_pos]
    intro g
    rcases hbk with q | ⟨b',q1,q2⟩
    ·rw [q] at g
     exact h.apart k k' hk hk' hne b hb g
    ·rw [g] at q1
     injection q1 with q1
     have:=hblt k b hk hb
     omega
   ·simp only [if_neg e']
    exact h.apart k k' hk hk' hne b hb
theorem St.stk_self (s : St) {w : Nat} (hw : w < s.ws.length) : s.stk w (s.w w).stack = s:=by
 unfold St.stk St.putW
 have : ({ hand:=(s.w w).hand,stack:=(s.w w).stack } : Wk) = s.w w:=rfl
 rw [this]
 have : s.ws.set w (s.w w) = s.ws:=by
  apply List.ext_getElem?
  intro i
  rw [List.getElem?_set]
  by_cases e : w = i
  ·subst e
   simp [hw,St.w]
  ·simp [e]
 rw [this]
end
end Go.Proofs.YtkmakliebhnhbaaGreat
