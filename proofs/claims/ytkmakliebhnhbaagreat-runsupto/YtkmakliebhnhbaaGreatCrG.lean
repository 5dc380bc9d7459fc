import Derived.ArgAppend
import Derived.Test.YtkmakliebhnhbaaGreatCrF
import Derived.Test.YtkmakliebhnhbaaGreatVals
namespace Go.Proofs.YtkmakliebhnhbaaGreat
open Go.RowKit Go.Shelf
theorem RdL.tail {S : Nat → Prop} {W : World} {b off n cap : Nat} {i : Ins} {rest : List Ins} (h : RdL S W 5 Ins.vals (.slice (some ⟨b,off,none⟩) n cap) (i :: rest)) : RdL S W 5 Ins.vals (.slice (some ⟨b,if cap = 1 then off else off + 5,none⟩) rest.length (cap - 1)) rest:=by
 obtain ⟨a',cap',e,h1,h2,h3⟩:=h
 injection e with e1 e2 e3
 subst e1 e3
 simp only [List.length_cons] at h1
 refine ⟨_,_,rfl,by omega,by omega,?_⟩
 rcases h3 with ⟨g,_⟩ | ⟨b',off',e4,hS,hc⟩
 ·cases g
 ·injection e4 with e4
  injection e4 with e5 e6
  subst e5 e6
  by_cases hc1 : cap = 1
  ·exact .inl ⟨List.eq_nil_of_length_eq_zero (by omega),fun g=>by cases g⟩
  ·refine .inr ⟨b,off + 5,by rw [if_neg hc1],hS,fun k x hk j u hu=>?_⟩
   have:=hc (k + 1) x (by simpa using hk) j u hu
   rw [show off + 5 + k * 5 + j = off + (k + 1) * 5 + j by omega]
   exact this
def isMut : Obj → Prop
 | .cells _ t _=>t = 178 ∨ t = 183 ∨ t = 133
 | _=>False
def isIns : Obj → Prop
 | .cells _ t _=>t = 45
 | _=>False
def InsAt (W : World) (b : Nat) : Prop:=∃ o,W.heap[b]? = some o ∧ isIns o
def ptrO (adr : Nat → Nat) : Option Nat → Value
 | none=>.pointer none
 | some a=>.pointer (some ⟨adr a,0,none⟩)
def parV (adr : Nat → Nat) (t : Tk) : Value:=match t.org with
 | .root=>.pointer none
 | _=>.pointer (some ⟨adr t.par,0,none⟩)
def TkAt (W : World) (adr : Nat → Nat) (B : Nat) (t : Tk) : Prop:=∃ av,TkB W B t (parV adr t) av ∧ RdL (InsAt W) W 5 Ins.vals av t.rem
def blkOf : Value → Option Nat
 | .slice (some a) _ _=>some a.block
 | _=>none
def StkV (W : World) (n₀ : Nat) (adr : Nat → Nat) (v : Value) (l : List Nat) : Prop :=
 (v = .slice none 0 0 ∧ l = []) ∨ ∃ sb so cap cs,v = .slice (some ⟨sb,so,none⟩) l.length cap ∧ W.heap[sb]? = some (.cells cs 133 (0,0)) ∧ n₀ ≤ sb ∧ l.length ≤ cap ∧ cap ≤ maxLen ∧ so + cap ≤ cs.size ∧ ∀ (i q : Nat),l[i]? = some q → cs[so + i]? = some (.pointer (some ⟨adr q,0,none⟩))
structure Crew (W : World) (n₀ wb workers : Nat) (s : St) (adr : Nat → Nat) (stk : Nat → Value) : Prop where
 len : s.ws.length = workers
 row : ∃ cs,W.heap[wb]? = some (.cells cs 183 (0,0)) ∧ ∀ k,k < workers → cs[3 * k]? = some (.int .i64 (k : Int)) ∧ cs[3 * k + 1]? = some (ptrO adr (s.w k).hand) ∧ cs[3 * k + 2]? = some (stk k)
 lo : n₀ ≤ wb
 tks : ∀ i,i < s.ts.length → TkAt W adr (adr i) (s.t i) ∧ n₀ ≤ adr i
 inj : ∀ i j,i < s.ts.length → j < s.ts.length → adr i = adr j → i = j
 stks : ∀ k,k < workers → StkV W n₀ adr (stk k) (s.w k).stack
 apart : ∀ k k',k < workers → k' < workers → k ≠ k' → ∀ b,blkOf (stk k) = some b → blkOf (stk k') ≠ some b
theorem TkAt.keep {W W' : World} {adr : Nat → Nat} {B : Nat} {t : Tk} (h : TkAt W adr B t) (hB : W'.heap[B]? = W.heap[B]?) (hk : ∀ (b : Nat) (o : Obj),W.heap[b]? = some o → isIns o → W'.heap[b]? = some o) : TkAt W' adr B t:=by
 obtain ⟨av,h1,h2⟩:=h
 refine ⟨av,hB.trans h1,h2.turn (fun b hb _=>?_) (fun x _=>List.cons_ne_nil _ _)⟩
 obtain ⟨o,ho,hi⟩:=hb
 exact ⟨⟨o,hk b o ho hi,hi⟩,(hk b o ho hi).trans ho.symm⟩
theorem StkV.keep {W W' : World} {n₀ : Nat} {adr : Nat → Nat} {v : Value} {l : List Nat} (h : StkV W n₀ adr v l) (hk : ∀ b,blkOf v = some b → b < W.heap.size → W'.heap[b]? = W.heap[b]?) : StkV W' n₀ adr v l:=by
 rcases h with h | ⟨sb,so,cap,cs,rfl,h2,h3⟩
 ·exact .inl h
 ·exact .inr ⟨sb,so,cap,cs,rfl,(hk sb rfl (Array.getElem?_eq_some_iff.1 h2).1).trans h2,h3⟩
theorem StkV.blk {W : World} {n₀ : Nat} {adr : Nat → Nat} {v : Value} {l : List Nat} (h : StkV W n₀ adr v l) {b : Nat} (hb : blkOf v = some b) : n₀ ≤ b ∧ ∃ cs,W.heap[b]? = some (.cells cs 133 (0,0)):=by
 rcases h with ⟨rfl,_⟩ | ⟨sb,so,cap,cs,rfl,h2,h3,_⟩
 ·cases hb
 ·cases hb
  exact ⟨h3,cs,h2⟩
theorem Crew.keep {W W' : World} {n₀ wb workers : Nat} {s : St} {adr : Nat → Nat} {stk : Nat → Value} (h : Crew W n₀ wb workers s adr stk) (hk : ∀ (b : Nat) (o : Obj),W.heap[b]? = some o → isMut o ∨ isIns o → W'.heap[b]? = some o) : Crew W' n₀ wb workers s adr stk:=by
 obtain ⟨cs,r1,r2⟩:=h.row
 refine ⟨h.len,⟨cs,hk _ _ r1 (.inl (.inr (.inl rfl))),r2⟩,h.lo,fun i hi=>⟨?_,(h.tks i hi).2⟩,h.inj,fun k hkk=>(h.stks k hkk).keep (fun b hb hlt=>?_),h.apart⟩
 ·have q:=(h.tks i hi).1
  obtain ⟨av,q1,q2⟩:=q
  exact TkAt.keep ⟨av,q1,q2⟩ ((hk _ _ q1 (.inl (.inl rfl))).trans (show W.heap[adr i]? = _ from q1).symm) (fun b o hb ho=>hk b o hb (.inr ho))
 ·obtain ⟨_,cs',hc⟩:=(h.stks k hkk).blk hb
  exact (hk _ _ hc (.inl (.inr (.inr rfl)))).trans hc.symm
theorem Crew.below {W W' : World} {n₀ wb workers : Nat} {s : St} {adr : Nat → Nat} {stk : Nat → Value} (h : Crew W n₀ wb workers s adr stk) (hb : Below W.heap.size W W') : Crew W' n₀ wb workers s adr stk :=
 h.keep (fun b _ ho _=>(hb.block b (Array.getElem?_eq_some_iff.1 ho).1).trans ho)
structure Kept (n₀ : Nat) (W W' : World) : Prop where
 below : Below n₀ W W'
 keep : ∀ (k : Nat) (o : Obj),W.heap[k]? = some o → ¬ isMut o → W'.heap[k]? = some o
theorem Kept.refl (n₀ : Nat) (W : World) : Kept n₀ W W:=⟨Below.refl _ _,fun _ _ h _=>h⟩
theorem Kept.of_below {n₀ : Nat} {W W' : World} (h : Below W.heap.size W W') (hn : n₀ ≤ W.heap.size) : Kept n₀ W W':=⟨h.mono hn,fun i _ hi _=>(h.block i (Array.getElem?_eq_some_iff.1 hi).1).trans hi⟩
theorem heap_set' (W : World) (B j : Nat) (v : Value) (c : Array Value) (t : TypeId) (fr : Nat × Nat) (hq : W.heap[B]? = some (.cells c t fr)) : (W.setCell ⟨B,j,none⟩ v).heap[B]? = some (.cells (c.setIfInBounds j v) t fr):=by
 unfold World.setCell
 simp only [Array.getElem?_modify]
 rw [if_pos trivial,hq]
 rfl
theorem set3 (cs : Array Value) (i j : Nat) (v u : Value) (h : cs[j]? = some u) (hij : i ≠ j) : (cs.setIfInBounds i v)[j]? = some u:=by
 rw [Array.getElem?_setIfInBounds_ne hij];exact h
theorem set3s (cs : Array Value) (i : Nat) (v u : Value) (h : cs[i]? = some u) : (cs.setIfInBounds i v)[i]? = some v:=by
 obtain ⟨hl,_⟩:=Array.getElem?_eq_some_iff.1 h
 rw [Array.getElem?_setIfInBounds_self,if_pos hl]
section
variable {W : World} {n₀ wb workers : Nat} {s : St} {adr : Nat → Nat} {stk : Nat → Value}
theorem Crew.ne_task (h : Crew W n₀ wb workers s adr stk) {i : Nat} (hi : i < s.ts.length) : adr i ≠ wb:=fun e=>by
 obtain ⟨cs,r1,_⟩:=h.row
 obtain ⟨⟨av,q1,_⟩,_⟩:=h.tks i hi
 have q1 : W.heap[adr i]? = _:=q1
 rw [e,r1] at q1
 cases q1
theorem Crew.ne_stk (h : Crew W n₀ wb workers s adr stk) {k b : Nat} (hk : k < workers) (hb : blkOf (stk k) = some b) : b ≠ wb ∧ ∀ i,i < s.ts.length → adr i ≠ b:=by
 obtain ⟨_,cs',hc⟩:=(h.stks k hk).blk hb
 refine ⟨fun e=>?_,fun i hi e=>?_⟩
 ·obtain ⟨cs,r1,_⟩:=h.row
  rw [e,r1] at hc
  cases hc
 ·obtain ⟨⟨av,q1,_⟩,_⟩:=h.tks i hi
  have q1 : W.heap[adr i]? = _:=q1
  rw [e,hc] at q1
  cases q1
theorem Crew.wcell (h : Crew W n₀ wb workers s adr stk) {k : Nat} (hk : k < workers) : W.cell? ⟨wb,3 * k,none⟩ = some (.int .i64 (k : Int)) ∧ W.cell? ⟨wb,3 * k + 1,none⟩ = some (ptrO adr (s.w k).hand) ∧ W.cell? ⟨wb,3 * k + 2,none⟩ = some (stk k):=by
 obtain ⟨cs,r1,r2⟩:=h.row
 obtain ⟨a,b,c⟩:=r2 k hk
 exact ⟨by simp [World.cell?,r1,a],by simp [World.cell?,r1,b],by simp [World.cell?,r1,c]⟩
theorem Crew.wfz (h : Crew W n₀ wb workers s adr stk) (j : Nat) : W.frozen? ⟨wb,j,none⟩ = false:=by
 obtain ⟨cs,r1,_⟩:=h.row
 simp [World.frozen?,r1]
theorem Crew.setHand (h : Crew W n₀ wb workers s adr stk) {w : Nat} (hw : w < workers) (o : Option Nat) : Crew (W.setCell ⟨wb,3 * w + 1,none⟩ (ptrO adr o)) n₀ wb workers (s.hand w o) adr stk:=by
 obtain ⟨cs,r1,r2⟩:=h.row
 have hwl : w < s.ws.length:=by rw [h.len];exact hw
 have hoth : ∀ b,b ≠ wb → (W.setCell ⟨wb,3 * w + 1,none⟩ (ptrO adr o)).heap[b]? = W.heap[b]?:=fun b hb=>Below.heap_setCell _ _ _ _ hb
 refine ⟨by simp [St.hand,St.putW,h.len],⟨_,heap_set' _ _ _ _ _ _ _ r1,fun k hk=>?_⟩,h.lo,fun i hi=>⟨((h.tks i hi).1).keep (hoth _ (h.ne_task hi)) (fun b o hb ho=>(hoth b (fun e=>?_)).trans hb),(h.tks i hi).2⟩,h.inj,fun k hk=>?_,h.apart⟩
 ·obtain ⟨a,b,c⟩:=r2 k hk
  rw [St.w_hand s o hwl k]
  by_cases e : k = w
  ·subst e
   rw [if_pos rfl]
   exact ⟨set3 _ _ _ _ _ a (by omega),set3s _ _ _ _ b,set3 _ _ _ _ _ c (by omega)⟩
  ·rw [if_neg e]
   exact ⟨set3 _ _ _ _ _ a (by omega),set3 _ _ _ _ _ b (by omega),set3 _ _ _ _ _ c (by omega)⟩
 ·subst e
  rw [r1] at hb
  cases hb
  exact absurd (show (183 : Nat) = 45 from ho) (by decide)
 ·rw [show ((s.hand w o).w k).stack = (s.w k).stack by rw [St.w_hand s o hwl k];split <;> simp_all]
  exact (h.stks k hk).keep (fun b hb _=>hoth b (h.ne_stk hk hb).1)
theorem Crew.setStk (h : Crew W n₀ wb workers s adr stk) {w : Nat} (hw : w < workers) (v : Value) (l : List Nat) (hv : StkV W n₀ adr v l) (hap : ∀ k,k < workers → k ≠ w → ∀ b,blkOf v = some b → blkOf (stk k) ≠ some b) : Crew (W.setCell ⟨wb,3 * w + 2,none⟩ v) n₀ wb workers (s.stk w l) adr (fun k=>if k = w then v else stk k):=by
 obtain ⟨cs,r1,r2⟩:=h.row
 have hwl : w < s.ws.length:=by rw [h.len];exact hw
 have hoth : ∀ b,b ≠ wb → (W.setCell ⟨wb,3 * w + 2,none⟩ v).heap[b]? = W.heap[b]?:=fun b hb=>Below.heap_setCell _ _ _ _ hb
 refine ⟨by simp [St.stk,St.putW,h.len],⟨_,heap_set' _ _ _ _ _ _ _ r1,fun k hk=>?_⟩,h.lo,fun i hi=>⟨((h.tks i hi).1).keep (hoth _ (h.ne_task hi)) (fun b o hb ho=>(hoth b (fun e=>?_)).trans hb),(h.tks i hi).2⟩,h.inj,fun k hk=>?_,fun k k' hk hk' hne b hb=>?_⟩
 ·obtain ⟨a,b,c⟩:=r2 k hk
  rw [St.w_stk s l hwl k]
  by_cases e : k = w
  ·subst e
   simp only [if_pos]
   exact ⟨set3 _ _ _ _ _ a (by omega),set3 _ _ _ _ _ b (by omega),set3s _ _ _ _ c⟩
  ·simp only [if_neg e]
   exact ⟨set3 _ _ _ _ _ a (by omega),set3 _ _ _ _ _ b (by omega),set3 _ _ _ _ _ c (by omega)⟩
 ·subst e
  rw [r1] at hb
  cases hb
  exact absurd (show (183 : Nat) = 45 from ho) (by decide)
 ·rw [St.w_stk s l hwl k]
  by_cases e : k = w
  ·subst e
   simp only [if_pos]
   refine hv.keep (fun b hb _=>hoth b (fun e=>?_))
   obtain ⟨_,cs',hc⟩:=hv.blk hb
   rw [e,r1] at hc
   cases hc
  ·simp only [if_neg e]
   exact (h.stks k hk).keep (fun b hb _=>hoth b (h.ne_stk hk hb).1)
 ·by_cases e : k = w
  ·subst e
   simp only [if_pos,if_neg (Ne.symm hne)] at hb ⊢
   exact hap k' hk' (Ne.symm hne) b hb
  ·simp only [if_neg e] at hb
   by_cases e' : k' = w
   ·subst e'
    simp only [if_pos]
    exact fun g=>hap k hk e b g hb
   ·simp only [if_neg e']
    exact h.apart k k' hk hk' hne b hb
theorem Crew.setTask {W' : World} (h : Crew W n₀ wb workers s adr stk) {a : Nat} (ha : a < s.ts.length) (t : Tk) (ht : TkAt W' adr (adr a) t) (hoth : ∀ b,b ≠ adr a → b < W.heap.size → W'.heap[b]? = W.heap[b]?) : Crew W' n₀ wb workers (s.putT a t) adr stk:=by
 obtain ⟨cs,r1,r2⟩:=h.row
 have lt : ∀ {b : Nat} {o : Obj},W.heap[b]? = some o → b < W.heap.size:=fun e=>(Array.getElem?_eq_some_iff.1 e).1
 refine ⟨h.len,⟨cs,(hoth wb (Ne.symm (h.ne_task ha)) (lt r1)).trans r1,r2⟩,h.lo,fun i hi=>?_,fun i j hi hj=>h.inj i j (by simpa [St.putT] using hi) (by simpa [St.putT] using hj),fun k hk=>(h.stks k hk).keep (fun b hb hlt=>hoth b (Ne.symm ((h.ne_stk hk hb).2 a ha)) hlt),h.apart⟩
 have hi' : i < s.ts.length:=by simpa [St.putT] using hi
 refine ⟨?_,(h.tks i hi').2⟩
 rw [St.t_putT s t ha i]
 by_cases e : i = a
 ·subst e;rw [if_pos rfl];exact ht
 ·rw [if_neg e]
  obtain ⟨⟨av,q1,q2⟩,_⟩:=h.tks i hi'
  obtain ⟨⟨av',p1,_⟩,_⟩:=h.tks a ha
  refine TkAt.keep ⟨av,q1,q2⟩ (hoth _ (fun g=>e (h.inj i a hi' ha g)) (lt q1)) (fun b o hb ho=>(hoth b (fun g=>?_) (lt hb)).trans hb)
  subst g
  rw [show W.heap[adr a]? = _ from p1] at hb
  cases hb
  exact absurd (show (178 : Nat) = 45 from ho) (by decide)
theorem TkAt.ext {W : World} {adr adr' : Nat → Nat} {B : Nat} {t : Tk} (h : TkAt W adr B t) (he : t.org ≠ .root → adr' t.par = adr t.par) : TkAt W adr' B t:=by
 obtain ⟨av,h1,h2⟩:=h
 have : parV adr' t = parV adr t:=by
  unfold parV
  cases ho : t.org with
  | root=>rfl
  | call=>simp only;rw [he (by rw [ho];simp)]
  | spawn=>simp only;rw [he (by rw [ho];simp)]
 exact ⟨av,by rw [this];exact h1,h2⟩
end
end Go.Proofs.YtkmakliebhnhbaaGreat
