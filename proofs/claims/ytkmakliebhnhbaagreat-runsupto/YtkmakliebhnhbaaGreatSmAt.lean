import Derived.Test.YtkmakliebhnhbaaGreatMade
import Derived.Test.YtkmakliebhnhbaaGreatLawSer
import Derived.Test.YtkmakliebhnhbaaGreatMadeA
namespace Go.Proofs.YtkmakliebhnhbaaGreat
open Go.RowKit
structure OpZ where
 kind : Int
 at_ : Int
 fs : List (List Ins)
 reds : List Int
 seed : Int
 x : Int
 wk : Int
def OpZ.ok (o : OpZ) : Prop:=i64 o.kind ∧ i64 o.at_ ∧ u64 o.seed ∧ i64 o.x ∧ FsWf o.fs ∧ Small o.fs o.reds ∧ ∀ r ∈ o.reds,i64 r
def RdOps (S : Nat → Prop) (W : World) (v : Value) (l : List OpZ) : Prop :=
 ∃ a cap,v = .slice a l.length cap ∧ l.length ≤ cap ∧ cap ≤ maxLen ∧ ∀ k o,l[k]? = some o → ∃ b off vF vR vS,a = some ⟨b,off,none⟩ ∧
  W.cell? ⟨b,off + k * 8,none⟩ = some (.int .i64 o.kind) ∧ W.cell? ⟨b,off + k * 8 + 1,none⟩ = some (.int .i64 o.at_) ∧ W.cell? ⟨b,off + k * 8 + 2,none⟩ = some vF ∧ W.cell? ⟨b,off + k * 8 + 3,none⟩ = some vR ∧
  W.cell? ⟨b,off + k * 8 + 4,none⟩ = some (.int .u64 o.seed) ∧ W.cell? ⟨b,off + k * 8 + 5,none⟩ = some (.int .i64 o.x) ∧ W.cell? ⟨b,off + k * 8 + 6,none⟩ = some (.int .i64 o.wk) ∧ W.cell? ⟨b,off + k * 8 + 7,none⟩ = some vS ∧
  (∃ sa sn sc,vS = .slice sa sn sc) ∧ RdF S W vF o.fs ∧ RdL S W 1 int64s vR o.reds
structure Sm (D : Dev) (w W : World) (Bw k : Nat) (S : Nat → Prop) (pv rv nv ev vv : Value) (pu ru nu eu vu : List Value) : Prop where
 below : Below w.heap.size w W
 bk : Bk W w.heap.size Bw S pv rv nv ev vv pu ru nu eu vu
 one : 0 < pu.length
 same : pu.length = ru.length
 lp : pu.length ≤ k + 1
 ln : nu.length ≤ 16 * (k + 1)
 le : eu.length ≤ 4 * (k + 1)
 lv : vu.length ≤ 4 * (k + 1)
 prog : ∀ (i : Nat) (p r : Value),pu[i]? = some p → ru[i]? = some r → ∃ fs reds,FsWf fs ∧ (check fs reds).1 = 0 ∧ D.P S W p fs reds ∧ RefP S W r fs reds
theorem Sm.step {D : Dev} {w W W' : World} {Bw k : Nat} {S : Nat → Prop} {pv rv nv ev vv : Value} {pu ru nu eu vu : List Value} (h : Sm D w W Bw k S pv rv nv ev vv pu ru nu eu vu) (hb : Below W.heap.size W W') : Sm D w W' Bw k S pv rv nv ev vv pu ru nu eu vu :=
 { h with
  below:=h.below.trans (hb.mono h.below.size)
  bk:=h.bk.below hb
  prog:=fun i p r hp hr=>by
   obtain ⟨fs,reds,h1,h2,h3,h4⟩:=h.prog i p r hp hr
   exact ⟨fs,reds,h1,h2,D.turn h3 (fun b hb' hlt=>⟨hb',hb.block b hlt⟩),h4.turn (fun b hb' hlt=>⟨hb',hb.block b hlt⟩)⟩ }
theorem Sm.next {D : Dev} {w W : World} {Bw k : Nat} {S : Nat → Prop} {pv rv nv ev vv : Value} {pu ru nu eu vu : List Value} (h : Sm D w W Bw k S pv rv nv ev vv pu ru nu eu vu) : Sm D w W Bw (k + 1) S pv rv nv ev vv pu ru nu eu vu :=
 { h with lp:=by have:=h.lp;omega,ln:=by have:=h.ln;omega,le:=by have:=h.le;omega,lv:=by have:=h.lv;omega }
theorem Sm.frmB {D : Dev} {w W W' : World} {Bw k : Nat} {S : Nat → Prop} {pv rv nv ev vv : Value} {pu ru nu eu vu : List Value} (h : Sm D w W Bw k S pv rv nv ev vv pu ru nu eu vu) (hf : Frm (fun q=>q = Bw ∨ pv.ownBlock = some q ∨ rv.ownBlock = some q ∨ nv.ownBlock = some q ∨ ev.ownBlock = some q ∨ vv.ownBlock = some q) W W') :
  Below w.heap.size w W' ∧ ∀ b,S b → b < W.heap.size → W'.heap[b]? = W.heap[b]?:=by
 refine ⟨h.below.trans ⟨hf.os,hf.tape,hf.output,hf.size,fun b hb=>hf.block b (Nat.lt_of_lt_of_le hb h.below.size) (fun hh=>?_)⟩,fun b hb hlt=>hf.block b hlt (fun hh=>?_)⟩
 ·rcases hh with hh | hh | hh | hh | hh | hh
  ·have:=h.bk.bw;omega
  ·have:=(h.bk.op.lt b hh).1;omega
  ·have:=(h.bk.or.lt b hh).1;omega
  ·have:=(h.bk.on.lt b hh).1;omega
  ·have:=(h.bk.oe.lt b hh).1;omega
  ·have:=(h.bk.ov.lt b hh).1;omega
 ·obtain ⟨q0,q1,qp,qr,qn,qe,qv⟩:=h.bk.st b hb
  rcases hh with hh | hh | hh | hh | hh | hh
  ·exact q1 hh
  ·exact qp hh
  ·exact qr hh
  ·exact qn hh
  ·exact qe hh
  ·exact qv hh
theorem Sm.serial {D : Dev} {w W W' : World} {Bw k n : Nat} {S S2 : Nat → Prop} {pv rv nv ev vv nv2 ev2 vv2 : Value} {pu ru nu eu vu nu2 eu2 vu2 : List Value} (h : Sm D w W Bw k S pv rv nv ev vv pu ru nu eu vu)
  (hB : Bk W' w.heap.size Bw S2 pv rv nv2 ev2 vv2 pu ru nu2 eu2 vu2) (hf : Frm (fun q=>q = Bw ∨ nv.ownBlock = some q ∨ ev.ownBlock = some q ∨ vv.ownBlock = some q) W W') (hs : ∀ b,S b → S2 b) (hn : n ≤ 4) (h1 : nu2.length = nu.length + 4 * n) (h2 : eu2.length = eu.length + 4) (h3 : vu2.length = vu.length + 4) :
  Sm D w W' Bw (k + 1) S2 pv rv nv2 ev2 vv2 pu ru nu2 eu2 vu2:=by
 obtain ⟨hb,hS⟩:=h.frmB (hf.mono (fun q _ hq=>by
  rcases hq with hq | hq | hq | hq
  ·exact .inl hq
  ·exact .inr (.inr (.inr (.inl hq)))
  ·exact .inr (.inr (.inr (.inr (.inl hq))))
  ·exact .inr (.inr (.inr (.inr (.inr hq))))))
 refine ⟨hb,hB,h.one,h.same,by have:=h.lp;omega,by have:=h.ln;omega,by have:=h.le;omega,by have:=h.lv;omega,fun i p r hp hr=>?_⟩
 obtain ⟨fs,reds,q1,q2,q3,q4⟩:=h.prog i p r hp hr
 exact ⟨fs,reds,q1,q2,D.turn q3 (fun b hb' hlt=>⟨hs b hb',hS b hb' hlt⟩),q4.turn (fun b hb' hlt=>⟨hs b hb',hS b hb' hlt⟩)⟩
theorem Sm.made {D : Dev} {w W W' : World} {Bw k : Nat} {S S2 : Nat → Prop} {pv rv nv ev vv pv2 rv2 p r : Value} {pu ru nu eu vu : List Value} {fs : List (List Ins)} {reds : List Int} (h : Sm D w W Bw k S pv rv nv ev vv pu ru nu eu vu)
  (hB : Bk W' w.heap.size Bw S2 pv2 rv2 nv ev vv (pu ++ [p]) (ru ++ [r]) nu eu vu) (hf : Frm (fun q=>q = Bw ∨ pv.ownBlock = some q ∨ rv.ownBlock = some q) W W') (hs : ∀ b,S b → S2 b) (hw : FsWf fs) (hc : (check fs reds).1 = 0) (hD : D.P S2 W' p fs reds) (hR : RefP S2 W' r fs reds) :
  Sm D w W' Bw (k + 1) S2 pv2 rv2 nv ev vv (pu ++ [p]) (ru ++ [r]) nu eu vu:=by
 obtain ⟨hb,hS⟩:=h.frmB (hf.mono (fun q _ hq=>by
  rcases hq with hq | hq | hq
  ·exact .inl hq
  ·exact .inr (.inl hq)
  ·exact .inr (.inr (.inl hq))))
 have hl:=h.same
 refine ⟨hb,hB,by simp,by simp [hl],by have:=h.lp;simp;omega,by have:=h.ln;omega,by have:=h.le;omega,by have:=h.lv;omega,fun i p' r' hp hr=>?_⟩
 by_cases hi : i < pu.length
 ·rw [List.getElem?_append_left hi] at hp
  rw [List.getElem?_append_left (by omega)] at hr
  obtain ⟨fs',reds',q1,q2,q3,q4⟩:=h.prog i p' r' hp hr
  exact ⟨fs',reds',q1,q2,D.turn q3 (fun b hb' hlt=>⟨hs b hb',hS b hb' hlt⟩),q4.turn (fun b hb' hlt=>⟨hs b hb',hS b hb' hlt⟩)⟩
 ·have hi2:=(List.getElem?_eq_some_iff.1 hp).1
  simp at hi2
  obtain rfl : i = pu.length:=by omega
  rw [List.getElem?_append_right (by omega)] at hp
  rw [List.getElem?_append_right (by omega)] at hr
  simp at hp
  rw [hl] at hr
  simp at hr
  subst hp
  subst hr
  exact ⟨fs,reds,hw,hc,hD,hR⟩
end Go.Proofs.YtkmakliebhnhbaaGreat
namespace Go.Proofs.YtkmakliebhnhbaaGreat
open Go.RowKit
def exFs : List (List Ins):=[[⟨3,1,0,1,0⟩,⟨1,0,0,2,0⟩,⟨5,0,0,0,0⟩,⟨1,0,0,3,0⟩],[⟨1,0,0,0,1⟩]]
theorem exFs_wf : FsWf exFs:=by
 intro l hl i hi
 simp only [exFs,List.mem_cons,List.not_mem_nil,or_false] at hl
 rcases hl with rfl | rfl
 ·simp only [List.mem_cons,List.not_mem_nil,or_false] at hi
  rcases hi with rfl | rfl | rfl | rfl <;> simp [Ins.wf,i64]
 ·simp only [List.mem_cons,List.not_mem_nil,or_false] at hi
  subst hi
  simp [Ins.wf,i64]
theorem exFs_small : Small exFs [4]:=by
 refine ⟨by simp [exFs],by simp,fun l hl=>?_⟩
 simp only [exFs,List.mem_cons,List.not_mem_nil,or_false] at hl
 rcases hl with rfl | rfl <;> simp
theorem exFs_ok : (check exFs [4]).1 = 0:=by decide
theorem first_bk (w : World) (W : World) (hb : Below (w.heap.size + 1) (w.alloc (.cells #[.slice none 0 0,.slice none 0 0,.slice none 0 0,.slice none 0 0,.slice none 0 0,.slice none 0 0] 42)) W) :
  Bk W w.heap.size w.heap.size (fun _=>False) (.slice none 0 0) (.slice none 0 0) (.slice none 0 0) (.slice none 0 0) (.slice none 0 0) [] [] [] [] []:=by
 have hh : W.heap[w.heap.size]? = some (.cells #[.slice none 0 0,.slice none 0 0,.slice none 0 0,.slice none 0 0,.slice none 0 0,.slice none 0 0] 42):=(hb.block w.heap.size (by omega)).trans (heap_new w _)
 have hs : w.heap.size + 1 ≤ W.heap.size:=by have:=hb.size;simpa using this
 have hcl : Clear (.slice none 0 0) (.slice none 0 0):=by simp [Clear,Value.ownBlock]
 have hcc : ∀ j,j < 6 → W.cell? ⟨w.heap.size,j,none⟩ = some (.slice none 0 0):=fun j hj=>by
  have : j = 0 ∨ j = 1 ∨ j = 2 ∨ j = 3 ∨ j = 4 ∨ j = 5:=by omega
  rcases this with rfl | rfl | rfl | rfl | rfl | rfl
  ·exact cell_of_row W w.heap.size 0 _ _ (0,0) hh
  ·exact cell_of_row W w.heap.size 1 _ _ (0,0) hh
  ·exact cell_of_row W w.heap.size 2 _ _ (0,0) hh
  ·exact cell_of_row W w.heap.size 3 _ _ (0,0) hh
  ·exact cell_of_row W w.heap.size 4 _ _ (0,0) hh
  ·exact cell_of_row W w.heap.size 5 _ _ (0,0) hh
 exact ⟨Nat.le_refl _,by omega,hcc 0 (by omega),hcc 1 (by omega),hcc 2 (by omega),hcc 3 (by omega),hcc 4 (by omega),hcc 5 (by omega),fun j=>by simp [World.frozen?,hh],
  World.ownsRow_nil _ _ _ _,World.ownsRow_nil _ _ _ _,World.ownsRow_nil _ _ _ _,World.ownsRow_nil _ _ _ _,World.ownsRow_nil _ _ _ _,by simp [Value.ownBlock],by simp [Value.ownBlock],by simp [Value.ownBlock],by simp [Value.ownBlock],by simp [Value.ownBlock],
  hcl,hcl,hcl,hcl,hcl,hcl,hcl,hcl,hcl,hcl,fun _ h=>h.elim,rfl,rfl,rfl,fun i u h=>by simp at h,fun i u h=>by simp at h,fun i u h=>by simp at h⟩
theorem rd_at {α : Type} {enc : α → List Value} {size : Nat} (W : World) (g : Nat) (l : List α) (xs : Array Value) (t : TypeId) (n : Nat) (hn : l.length = n) (hn2 : n ≤ 100) (hW : W.heap[g]? = some (.cells xs t)) (hx : ∀ (k : Nat) (x : α),l[k]? = some x → ∀ (j : Nat) (u : Value),(enc x)[j]? = some u → xs[k * size + j]? = some u) :
  RdL (fun _=>True) W size enc (.slice (some ⟨g,0,none⟩) n n) l:=by
 refine ⟨_,n,by rw [hn],by omega,by unfold maxLen;omega,.inr ⟨g,0,rfl,trivial,fun k x hk j u hu=>?_⟩⟩
 rw [Nat.zero_add]
 have:=hx k x hk j u hu
 simp [World.cell?,hW,this]
theorem ins_at (l : List Ins) : ∀ (k : Nat) (x : Ins),l[k]? = some x → ∀ (j : Nat) (u : Value),x.vals[j]? = some u → (flat Ins.vals l).toArray[k * 5 + j]? = some u:=by
 induction l with
 | nil=>intro k x h;simp at h
 | cons a t ih =>
  intro k x hk j u hu
  have hj : j < 5:=(List.getElem?_eq_some_iff.1 hu).1
  cases k with
  | zero =>
   simp at hk
   subst hk
   simp only [flat,List.flatMap_cons,List.getElem?_toArray]
   rw [Nat.zero_mul,Nat.zero_add,List.getElem?_append_left (by simpa [Ins.vals] using hj)]
   exact hu
  | succ k =>
   simp at hk
   have:=ih k x hk j u hu
   simp only [flat,List.flatMap_cons,List.getElem?_toArray] at this ⊢
   rw [List.getElem?_append_right (by simp [Ins.vals];omega)]
   rw [← this]
   congr 1
   simp [Ins.vals]
   omega
theorem first_rd (w : World) (o0 o1 o2 o3 o4 : Obj) (h1 : o1 = .cells (flat Ins.vals [⟨3,1,0,1,0⟩,⟨1,0,0,2,0⟩,⟨5,0,0,0,0⟩,⟨1,0,0,3,0⟩]).toArray 45) (h2 : o2 = .cells (flat Ins.vals [⟨1,0,0,0,1⟩]).toArray 45)
  (h3 : o3 = .cells #[.slice (some ⟨w.heap.size + 1,0,none⟩) 4 4,.slice (some ⟨w.heap.size + 1 + 1,0,none⟩) 1 1] 46) (h4 : o4 = .cells #[.int .i64 4] 3) :
  RdF (fun _=>True) (((((w.alloc o0).alloc o1).alloc o2).alloc o3).alloc o4) (.slice (some ⟨w.heap.size + 1 + 1 + 1,0,none⟩) 2 2) exFs ∧ RdL (fun _=>True) (((((w.alloc o0).alloc o1).alloc o2).alloc o3).alloc o4) 1 int64s (.slice (some ⟨w.heap.size + 1 + 1 + 1 + 1,0,none⟩) 1 1) [4]:=by
 have e4 : (((((w.alloc o0).alloc o1).alloc o2).alloc o3).alloc o4).heap[w.heap.size + 1 + 1 + 1 + 1]? = some o4:=by
  have:=heap_new ((((w.alloc o0).alloc o1).alloc o2).alloc o3) o4
  simpa using this
 have e3 : (((((w.alloc o0).alloc o1).alloc o2).alloc o3).alloc o4).heap[w.heap.size + 1 + 1 + 1]? = some o3:=by
  rw [((Below.refl _ _).alloc (Nat.le_refl _) o4).block _ (by simp)]
  have:=heap_new (((w.alloc o0).alloc o1).alloc o2) o3
  simpa using this
 have e2 : (((((w.alloc o0).alloc o1).alloc o2).alloc o3).alloc o4).heap[w.heap.size + 1 + 1]? = some o2:=by
  rw [((Below.refl _ _).alloc (Nat.le_refl _) o4).block _ (by simp),((Below.refl _ _).alloc (Nat.le_refl _) o3).block _ (by simp)]
  have:=heap_new ((w.alloc o0).alloc o1) o2
  simpa using this
 have e1 : (((((w.alloc o0).alloc o1).alloc o2).alloc o3).alloc o4).heap[w.heap.size + 1]? = some o1:=by
  rw [((Below.refl _ _).alloc (Nat.le_refl _) o4).block _ (by simp),((Below.refl _ _).alloc (Nat.le_refl _) o3).block _ (by simp),((Below.refl _ _).alloc (Nat.le_refl _) o2).block _ (by simp)]
  have:=heap_new (w.alloc o0) o1
  simpa using this
 obtain ⟨W,hW⟩ : ∃ W,(((((w.alloc o0).alloc o1).alloc o2).alloc o3).alloc o4) = W:=⟨_,rfl⟩
 rw [hW] at e1 e2 e3 e4 ⊢
 clear hW
 subst h1 h2 h3 h4
 refine ⟨⟨[.slice (some ⟨w.heap.size + 1,0,none⟩) 4 4,.slice (some ⟨w.heap.size + 1 + 1,0,none⟩) 1 1],rfl,rd_at W _ _ _ _ 2 rfl (by omega) e3 (fun k x hk j u hu=>?_),fun k u x hu hx=>?_⟩,rd_at W _ _ _ _ 1 rfl (by omega) e4 (fun k x hk j u hu=>?_)⟩
 ·have hj : j = 0:=by have:=(List.getElem?_eq_some_iff.1 hu).1;simp [one] at this;exact this
  subst hj
  simp [one] at hu
  subst hu
  rw [Nat.mul_one,Nat.add_zero,← hk]
  simp
 ·have hk:=(List.getElem?_eq_some_iff.1 hu).1
  have hk : k = 0 ∨ k = 1:=by simp at hk;omega
  rcases hk with rfl | rfl
  ·simp at hu
   simp [exFs] at hx
   subst hu hx
   exact rd_at W _ _ _ _ 4 rfl (by omega) e1 (ins_at _)
  ·simp at hu
   simp [exFs] at hx
   subst hu hx
   exact rd_at W _ _ _ _ 1 rfl (by omega) e2 (ins_at _)
 ·have hk0:=(List.getElem?_eq_some_iff.1 hk).1
  have hj:=(List.getElem?_eq_some_iff.1 hu).1
  simp [int64s] at hk0 hj
  subst hk0 hj
  simp at hk
  subst hk
  simpa [int64s] using hu
end Go.Proofs.YtkmakliebhnhbaaGreat
namespace Go.Proofs.YtkmakliebhnhbaaGreat
open Go.RowKit
theorem Sm.look {D : Dev} {w W : World} {Bw k : Nat} {S : Nat → Prop} {pv rv nv ev vv : Value} {pu ru nu eu vu : List Value} (h : Sm D w W Bw k S pv rv nv ev vv pu ru nu eu vu) :
  ∃ pb pc rb rc,pv = .slice (some ⟨pb,0,none⟩) pu.length pc ∧ rv = .slice (some ⟨rb,0,none⟩) pu.length rc ∧ pu.length ≤ pc ∧ pu.length ≤ rc ∧ pc ≤ maxLen ∧ rc ≤ maxLen ∧ pb < W.heap.size ∧ rb < W.heap.size ∧
   ∀ i,i < pu.length → ∃ p r,pu[i]? = some p ∧ ru[i]? = some r ∧ W.cell? ⟨pb,i,none⟩ = some p ∧ W.cell? ⟨rb,i,none⟩ = some r:=by
 have h1:=h.one
 have h2:=h.same
 rcases h.bk.op.2 with ⟨hv,h0⟩ | ⟨g,cap,cur,hv,hb,hg,hn,hm,hc,ht⟩
 ·omega
 rcases h.bk.or.2 with ⟨hv',h0⟩ | ⟨g',cap',cur',hv',hb',hg',hn',hm',hc',ht'⟩
 ·omega
 refine ⟨g,cap,g',cap',hv,by rw [h2];exact hv',hn,by omega,hm,hm',(h.bk.op.lt g (by rw [hv];rfl)).2,(h.bk.or.lt g' (by rw [hv'];rfl)).2,fun i hi=>⟨pu[i],ru[i]'(by omega),List.getElem?_eq_getElem hi,List.getElem?_eq_getElem (by omega),?_,?_⟩⟩
 ·have:=h.bk.op
  rw [hv] at this
  rw [World.ownsRow.cellAt this _ (by omega)]
  exact List.getElem?_eq_getElem hi
 ·have:=h.bk.or
  rw [hv'] at this
  rw [World.ownsRow.cellAt this _ (by omega)]
  exact List.getElem?_eq_getElem (by omega)
theorem Sm.doSerial {D : Dev} (hSer : SerialSaid D) {w W : World} {Bw k : Nat} {S : Nat → Prop} {pv rv nv ev vv : Value} {pu ru nu eu vu : List Value} (h : Sm D w W Bw k S pv rv nv ev vv pu ru nu eu vu) (hk : k ≤ 2000000) (i : Nat) (p r : Value) (hp : pu[i]? = some p) (hr : ru[i]? = some r)
  (kind at_ seed x wk : Int) (vF vR vS : Value) (ha : ∃ a n c,vF = .slice a n c) (hb : ∃ a n c,vR = .slice a n c) (hc : ∃ a n c,vS = .slice a n c) (hsd : u64 seed) (hx : i64 x) :
  Calls Tryz.prog 8 #[.pointer (some ⟨Bw,0,none⟩),p,r,.agg #[.int .i64 kind,.int .i64 at_,vF,vR,.int .u64 seed,.int .i64 x,.int .i64 wk,vS]] W fun e W'=>e = .returned (.bool true) ∧
   ∃ S2 nv2 ev2 vv2 nu2 eu2 vu2,Sm D w W' Bw (k + 1) S2 pv rv nv2 ev2 vv2 pu ru nu2 eu2 vu2 ∧ Frm (fun q=>q = Bw ∨ nv.ownBlock = some q ∨ ev.ownBlock = some q ∨ vv.ownBlock = some q) W W':=by
 obtain ⟨fs,reds,h1,h2,h3,h4⟩:=h.prog i p r hp hr
 obtain ⟨_,_,hr4,_,_⟩:=check_ok h2 h1
 have l1:=h.ln
 have l2:=h.le
 have l3:=h.lv
 refine (lawSerial_any D hSer w.heap.size Bw S pv rv nv ev vv p r pu ru nu eu vu fs reds W kind at_ seed x wk vF vR vS ha hb hc hsd hx (by omega) (by omega) (by omega) h.bk h3 h4 h1 h2).mono ?_
 rintro e W' ⟨S2,nv2,ev2,vv2,nu2,eu2,vu2,rfl,hB,hf,hs,n1,n2,n3⟩
 exact ⟨rfl,S2,nv2,ev2,vv2,nu2,eu2,vu2,h.serial hB hf hs hr4 n1 n2 n3,hf⟩
theorem Sm.doMade {D : Dev} (hNew : NewSaid D) {w W : World} {Bw k : Nat} {S S0 : Nat → Prop} {pv rv nv ev vv vF vR : Value} {pu ru nu eu vu : List Value} {fs : List (List Ins)} {reds : List Int} (h : Sm D w W Bw k S pv rv nv ev vv pu ru nu eu vu) (hk : k ≤ 2000000)
  (hF : RdF S0 W vF fs) (hR : RdL S0 W 1 int64s vR reds) (hw : FsWf fs) (hsm : Small fs reds) (hri : ∀ r ∈ reds,i64 r) :
  Calls Tryz.prog 7 #[.pointer (some ⟨Bw,0,none⟩),vF,vR] W fun e W'=>e = .returned (.bool true) ∧
   ∃ S2 pv2 rv2 pu2 ru2,Sm D w W' Bw (k + 1) S2 pv2 rv2 nv ev vv pu2 ru2 nu eu vu:=by
 have l1:=h.lp
 have l2:=h.same
 refine (made_any D hNew w.heap.size Bw S S0 pv rv nv ev vv vF vR pu ru nu eu vu fs reds W hF hR hw hsm hri (by omega) (by omega) h.bk).mono ?_
 rintro e W' ⟨rfl,⟨_,_,hb⟩ | ⟨hc,p,r,pv2,rv2,S2,hB,hP,hR,hf,hs⟩⟩
 ·exact ⟨rfl,S,pv,rv,pu,ru,(h.step hb).next⟩
 ·exact ⟨rfl,S2,pv2,rv2,_,_,h.made hB hf hs hw hc hP hR⟩
theorem Sm.doStill {D : Dev} {w W : World} {Bw k : Nat} {S : Nat → Prop} {pv rv nv ev vv : Value} {pu ru nu eu vu : List Value} (h : Sm D w W Bw k S pv rv nv ev vv pu ru nu eu vu) (hk : k ≤ 2000000) :
  Calls Tryz.prog 12 #[.pointer (some ⟨Bw,0,none⟩)] W fun e W'=>e = .returned (.bool true) ∧ Sm D w W' Bw k S pv rv nv ev vv pu ru nu eu vu:=by
 have l1:=h.ln
 have l2:=h.le
 have l3:=h.lv
 refine (still_any w.heap.size Bw S pv rv nv ev vv pu ru nu eu vu W (by omega) (by omega) (by omega) h.bk).mono ?_
 rintro e W' ⟨rfl,hb⟩
 exact ⟨rfl,h.step hb⟩
end Go.Proofs.YtkmakliebhnhbaaGreat
