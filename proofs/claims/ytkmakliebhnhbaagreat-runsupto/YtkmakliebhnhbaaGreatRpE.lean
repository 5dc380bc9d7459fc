import Derived.Deep.QuietTactic
import Derived.BigQuiet
import Derived.Deep.RegionHeld3
import Derived.Test.YtkmakliebhnhbaaGreatLawW
import Derived.Test.YtkmakliebhnhbaaGreatVals
import Derived.Test.YtkmakliebhnhbaaGreatMachU
import Derived.Test.YtkmakliebhnhbaaGreatMsr
import Derived.Test.YtkmakliebhnhbaaGreatKeep
import Derived.Test.YtkmakliebhnhbaaGreatMadeA
import Derived.Test.YtkmakliebhnhbaaGreatItV
namespace Go.Proofs.YtkmakliebhnhbaaGreat
open Go.RowKit
def bodyOf (fs : List (List Ins)) (t : Tk) : List Ins:=fs[t.f]?.getD []
def nextOf (fs : List (List Ins)) (t : Tk) : Nat:=(bodyOf fs t).length - t.rem.length
def fromZ (t : Tk) : Int:=match t.org with
 | .root=>-1
 | _=>(t.par : Int)
def calledB (t : Tk) : Bool:=match t.org with
 | .call=>true
 | _=>false
def frV (fs : List (List Ins)) (t : Tk) : List Value:=[.int .i64 t.f,.int .i64 t.x,.int .i64 (nextOf fs t),.int .i64 t.r,.int .u64 t.h,.int .i64 (fromZ t),.bool (calledB t),.int .i64 t.out,.bool t.asd]
theorem frV_len (fs : List (List Ins)) (t : Tk) : (frV fs t).length = 9:=rfl
def Suf (fs : List (List Ins)) (t : Tk) : Prop:=∃ n,n ≤ (bodyOf fs t).length ∧ t.rem = (bodyOf fs t).drop n
theorem Suf.next {fs : List (List Ins)} {t : Tk} (h : Suf fs t) : t.rem = (bodyOf fs t).drop (nextOf fs t) ∧ nextOf fs t ≤ (bodyOf fs t).length:=by
 obtain ⟨n,hn,h⟩:=h
 have e : nextOf fs t = n:=by
  unfold nextOf
  rw [h,List.length_drop]
  omega
 rw [e]
 exact ⟨h,hn⟩
def handZ (k : Wk) : Int:=match k.hand with
 | none=>-1
 | some a=>(a : Int)
def handV (k : Wk) : Value:=.int .i64 (handZ k)
def stkZ (l : List Nat) : List Int:=l.map Int.ofNat
theorem flat_set {α : Type} {enc : α → List Value} {size : Nat} (hs : ∀ x,(enc x).length = size) : ∀ {l : List α} {i : Nat} {a b : α} {j : Nat} {u : Value},l[i]? = some a → j < size → enc b = (enc a).set j u → (flat enc l).set (i * size + j) u = flat enc (l.set i b)
 | x :: t,0,a,b,j,u,h,hj,hb=>by
  have e : flat enc (x :: t) = enc x ++ flat enc t:=rfl
  have e2 : flat enc ((x :: t).set 0 b) = enc b ++ flat enc t:=rfl
  simp at h
  subst h
  rw [e,e2,Nat.zero_mul,Nat.zero_add,List.set_append_left _ _ (by rw [hs];exact hj),hb]
 | x :: t,i + 1,a,b,j,u,h,hj,hb=>by
  have e : flat enc (x :: t) = enc x ++ flat enc t:=rfl
  have e2 : flat enc ((x :: t).set (i + 1) b) = enc x ++ flat enc (t.set i b):=rfl
  rw [e,e2,List.set_append_right _ _ (by rw [hs,Nat.add_mul];omega),hs,show (i + 1) * size + j - size = i * size + j by rw [Nat.add_mul];omega,flat_set hs (by simpa using h) hj hb]
 | [],_,_,_,_,_,h,_,_=>by simp at h
theorem own_two {W : World} {b1 b2 s1 s2 n1 n2 : Nat} {e1 e2 : TypeId} {v1 v2 : Value} {x1 x2 : List Value} (h1 : W.ownsRow b1 e1 s1 v1 n1 x1) (h2 : W.ownsRow b2 e2 s2 v2 n2 x2) (he : e1 ≠ e2) : v1.ownBlock = none ∨ v1.ownBlock ≠ v2.ownBlock:=by
 rcases h1.2 with ⟨rfl,_⟩ | ⟨g,c,cur,rfl,_,hg,_⟩
 ·exact .inl rfl
 ·refine .inr fun h=>?_
  rcases h2.2 with ⟨rfl,_⟩ | ⟨g2,c2,cur2,rfl,_,hg2,_⟩
  ·simp [Value.ownBlock] at h
  ·obtain rfl : g = g2:=by simpa [Value.ownBlock] using h
   rw [hg] at hg2
   cases hg2
   exact he rfl
theorem own_set {W : World} {base : Nat} {e : TypeId} {size : Nat} {u : Value} {n : Nat} {xs : List Value} (h : W.ownsRow base e size u n xs) {b : Nat} (hne : u.ownBlock ≠ some b) (i : Nat) (v : Value) : (W.setCell ⟨b,i,none⟩ v).ownsRow base e size u n xs :=
 own_turn h (fun q hq _=>Below.heap_setCell _ _ _ _ (fun he=>hne (by rw [hq,he])))
theorem blk_set {W : World} {c b : Nat} {x : Option Obj} (h : W.heap[c]? = x) (hne : c ≠ b) (i : Nat) (v : Value) : (W.setCell ⟨b,i,none⟩ v).heap[c]? = x:=(Below.heap_setCell _ _ _ _ hne).trans h
theorem blk_put {W : World} {b : Nat} {cs : Array Value} {t : TypeId} (h : W.heap[b]? = some (.cells cs t (0,0))) (i : Nat) (v : Value) : (W.setCell ⟨b,i,none⟩ v).heap[b]? = some (.cells (cs.setIfInBounds i v) t (0,0)):=by
 simp only [World.setCell,Array.getElem?_modify,h]
 simp
theorem own_type {W : World} {base : Nat} {e t : TypeId} {size : Nat} {u : Value} {n c : Nat} {xs : List Value} {cs : Array Value} (h : W.ownsRow base e size u n xs) (hc : W.heap[c]? = some (.cells cs t (0,0))) (hne : e ≠ t) : u.ownBlock ≠ some c:=by
 rcases h.2 with ⟨rfl,_⟩ | ⟨g,cap,cur,rfl,_,hg,_⟩
 ·simp [Value.ownBlock]
 ·intro he
  obtain rfl : g = c:=by simpa [Value.ownBlock] using he
  rw [hc] at hg
  cases hg
  exact hne rfl
theorem blk_ne {W : World} {a b : Nat} {ca cb : Array Value} {t u : TypeId} (ha : W.heap[a]? = some (.cells ca t (0,0))) (hb : W.heap[b]? = some (.cells cb u (0,0))) (hne : t ≠ u) : a ≠ b:=by
 rintro rfl
 rw [ha] at hb
 cases hb
 exact hne rfl
structure PlayM (fs : List (List Ins)) (w0 W : World) (B rb yb g gH gS k cap : Nat) (s : St) (tv : Value) (us : List Value) (tr : List Ev) (n0 n1 n2 : Nat) (done : Bool) : Prop where
 bel : Below B w0 W
 yB : B ≤ yb
 hB : B ≤ gH
 sB : B ≤ gS
 blk : W.heap[yb]? = some (.cells #[.pointer (some ⟨rb,0,none⟩),.slice (some ⟨g,0,none⟩) s.ts.length cap,.slice (some ⟨gH,0,none⟩) k k,.slice (some ⟨gS,0,none⟩) k k,tv,.int .i64 (n0 : Int),.int .i64 (n1 : Int),.int .i64 (n2 : Int),.int .i64 0,.bool done] 147 (0,0))
 fr : W.ownsRow B 143 9 (.slice (some ⟨g,0,none⟩) s.ts.length cap) s.ts.length (flat (frV fs) s.ts)
 hd : W.heap[gH]? = some (.cells (s.ws.map handV).toArray 3 (0,0))
 st : W.heap[gS]? = some (.cells us.toArray 30 (0,0))
 ul : us.length = k
 wl : s.ws.length = k
 row : ∀ (w : Nat) (u : Value),us[w]? = some u → W.ownsRow B 3 1 u (s.w w).stack.length (flat int64s (stkZ (s.w w).stack))
 ap : ∀ (i j : Nat) (u v : Value) (b : Nat),us[i]? = some u → us[j]? = some v → i ≠ j → u.ownBlock = some b → v.ownBlock ≠ some b
 ah : ∀ (i : Nat) (u : Value),us[i]? = some u → u.ownBlock ≠ some gH
 trc : W.ownsRow B 89 3 tv tr.length (evCells tr)
 suf : ∀ t ∈ s.ts,Suf fs t
section
variable {fs : List (List Ins)} {w0 W : World} {B rb yb g gH gS k cap : Nat} {s : St} {tv : Value} {us : List Value} {tr : List Ev} {n0 n1 n2 : Nat} {done : Bool}
theorem PlayM.gB (h : PlayM fs w0 W B rb yb g gH gS k cap s tv us tr n0 n1 n2 done) : B ≤ g:=(h.fr.lt g rfl).1
theorem PlayM.ne_yH (h : PlayM fs w0 W B rb yb g gH gS k cap s tv us tr n0 n1 n2 done) : yb ≠ gH:=blk_ne h.blk h.hd (by decide)
theorem PlayM.ne_yS (h : PlayM fs w0 W B rb yb g gH gS k cap s tv us tr n0 n1 n2 done) : yb ≠ gS:=blk_ne h.blk h.st (by decide)
theorem PlayM.ne_HS (h : PlayM fs w0 W B rb yb g gH gS k cap s tv us tr n0 n1 n2 done) : gH ≠ gS:=blk_ne h.hd h.st (by decide)
theorem PlayM.fr_y (h : PlayM fs w0 W B rb yb g gH gS k cap s tv us tr n0 n1 n2 done) : g ≠ yb:=fun e=>own_type h.fr h.blk (by decide) (by rw [← e];rfl)
theorem PlayM.fr_H (h : PlayM fs w0 W B rb yb g gH gS k cap s tv us tr n0 n1 n2 done) : g ≠ gH:=fun e=>own_type h.fr h.hd (by decide) (by rw [← e];rfl)
theorem PlayM.fr_S (h : PlayM fs w0 W B rb yb g gH gS k cap s tv us tr n0 n1 n2 done) : g ≠ gS:=fun e=>own_type h.fr h.st (by decide) (by rw [← e];rfl)
theorem PlayM.t_y (h : PlayM fs w0 W B rb yb g gH gS k cap s tv us tr n0 n1 n2 done) : tv.ownBlock ≠ some yb:=own_type h.trc h.blk (by decide)
theorem PlayM.t_H (h : PlayM fs w0 W B rb yb g gH gS k cap s tv us tr n0 n1 n2 done) : tv.ownBlock ≠ some gH:=own_type h.trc h.hd (by decide)
theorem PlayM.t_S (h : PlayM fs w0 W B rb yb g gH gS k cap s tv us tr n0 n1 n2 done) : tv.ownBlock ≠ some gS:=own_type h.trc h.st (by decide)
theorem PlayM.t_g (h : PlayM fs w0 W B rb yb g gH gS k cap s tv us tr n0 n1 n2 done) : tv.ownBlock ≠ some g:=by
 rcases own_two h.trc h.fr (by decide) with e | e
 ·rw [e];simp
 ·exact e
theorem PlayM.u_y (h : PlayM fs w0 W B rb yb g gH gS k cap s tv us tr n0 n1 n2 done) {i : Nat} {u : Value} (hu : us[i]? = some u) : u.ownBlock ≠ some yb:=own_type (h.row i u hu) h.blk (by decide)
theorem PlayM.u_S (h : PlayM fs w0 W B rb yb g gH gS k cap s tv us tr n0 n1 n2 done) {i : Nat} {u : Value} (hu : us[i]? = some u) : u.ownBlock ≠ some gS:=own_type (h.row i u hu) h.st (by decide)
theorem PlayM.u_g (h : PlayM fs w0 W B rb yb g gH gS k cap s tv us tr n0 n1 n2 done) {i : Nat} {u : Value} (hu : us[i]? = some u) : u.ownBlock ≠ some g:=by
 rcases own_two (h.row i u hu) h.fr (by decide) with e | e
 ·rw [e];simp
 ·exact e
theorem PlayM.u_t (h : PlayM fs w0 W B rb yb g gH gS k cap s tv us tr n0 n1 n2 done) {i : Nat} {u : Value} (hu : us[i]? = some u) : u.ownBlock = none ∨ u.ownBlock ≠ tv.ownBlock:=own_two (h.row i u hu) h.trc (by decide)
theorem PlayM.below {W' : World} (h : PlayM fs w0 W B rb yb g gH gS k cap s tv us tr n0 n1 n2 done) (hb : Below W.heap.size W W') : PlayM fs w0 W' B rb yb g gH gS k cap s tv us tr n0 n1 n2 done:=by
 have lt : ∀ {c : Nat} {o : Obj},W.heap[c]? = some o → W'.heap[c]? = some o:=fun hc=>(hb.block _ (Array.getElem?_eq_some_iff.1 hc).1).trans hc
 have hBs : B ≤ W.heap.size:=by have:=(Array.getElem?_eq_some_iff.1 h.blk).1;have:=h.yB;omega
 exact ⟨h.bel.trans (hb.mono hBs),h.yB,h.hB,h.sB,lt h.blk,own_below h.fr hb,lt h.hd,lt h.st,h.ul,h.wl,fun w u hu=>own_below (h.row w u hu) hb,h.ap,h.ah,own_below h.trc hb,h.suf⟩
theorem PlayM.setHand (h : PlayM fs w0 W B rb yb g gH gS k cap s tv us tr n0 n1 n2 done) {w : Nat} (hw : w < k) (o : Option Nat) {z : Int} (hz : z = handZ ⟨o,(s.w w).stack⟩) : PlayM fs w0 (W.setCell ⟨gH,w,none⟩ (.int .i64 z)) B rb yb g gH gS k cap (s.hand w o) tv us tr n0 n1 n2 done:=by
 have hwl : w < s.ws.length:=by rw [h.wl];exact hw
 have hst : ∀ j,((s.hand w o).w j).stack = (s.w j).stack:=fun j=>hand_stack s w o j
 refine ⟨h.bel.setCell (p:=⟨gH,w,none⟩) h.hB _,h.yB,h.hB,h.sB,blk_set h.blk h.ne_yH _ _,own_set h.fr (by simp [Value.ownBlock];exact h.fr_H) _ _,?_,blk_set h.st h.ne_HS.symm _ _,h.ul,by rw [St.hand_wlen];exact h.wl,fun j u hu=>?_,h.ap,h.ah,own_set h.trc h.t_H _ _,h.suf⟩
 ·have:=blk_put h.hd w (.int .i64 z)
  rw [this]
  congr 2
  rw [hz]
  unfold St.hand St.putW
  simp [List.map_set,handV]
 ·rw [hst j]
  exact own_set (h.row j u hu) (h.ah j u hu) _ _
theorem PlayM.setFrame (h : PlayM fs w0 W B rb yb g gH gS k cap s tv us tr n0 n1 n2 done) {i : Nat} (hi : i < s.ts.length) {t' : Tk} {j : Nat} {v : Value} (hj : j < 9) (ht : frV fs t' = (frV fs (s.t i)).set j v) (hs : Suf fs t') : PlayM fs w0 (W.setCell ⟨g,i * 9 + j,none⟩ v) B rb yb g gH gS k cap (s.putT i t') tv us tr n0 n1 n2 done:=by
 have hlen : (s.putT i t').ts.length = s.ts.length:=St.putT_len s i t'
 have hti : s.ts[i]? = some (s.t i):=by rw [St.t_eq hi];exact List.getElem?_eq_getElem hi
 refine ⟨h.bel.setCell (p:=⟨g,i * 9 + j,none⟩) h.gB _,h.yB,h.hB,h.sB,by rw [hlen];exact blk_set h.blk h.fr_y.symm _ _,?_,blk_set h.hd h.fr_H.symm _ _,blk_set h.st h.fr_S.symm _ _,h.ul,h.wl,fun j u hu=>own_set (h.row j u hu) (h.u_g hu) _ _,h.ap,h.ah,own_set h.trc h.t_g _ _,fun t htm=>?_⟩
 ·rw [hlen]
  have:=(h.fr.stored (i * 9 + j) v).1
  rw [flat_set (frV_len fs) hti hj ht] at this
  exact this
 ·rcases List.mem_or_eq_of_mem_set (show t ∈ s.ts.set i t' from htm) with h1 | h1
  ·exact h.suf t h1
  ·rw [h1];exact hs
theorem PlayM.setStk (h : PlayM fs w0 W B rb yb g gH gS k cap s tv us tr n0 n1 n2 done) {w : Nat} (hw : w < k) {u' : Value} {l : List Nat} (hr : W.ownsRow B 3 1 u' l.length (flat int64s (stkZ l))) (ha : ∀ (j : Nat) (v : Value) (b : Nat),j ≠ w → us[j]? = some v → v.ownBlock = some b → u'.ownBlock ≠ some b) (hh : u'.ownBlock ≠ some gH) :
  PlayM fs w0 (W.setCell ⟨gS,w,none⟩ u') B rb yb g gH gS k cap (s.stk w l) tv (us.set w u') tr n0 n1 n2 done:=by
 have hwl : w < s.ws.length:=by rw [h.wl];exact hw
 have hwu : w < us.length:=by rw [h.ul];exact hw
 have huS : u'.ownBlock ≠ some gS:=own_type hr h.st (by decide)
 have get : ∀ (j : Nat) (v : Value),(us.set w u')[j]? = some v → (j = w ∧ v = u') ∨ (j ≠ w ∧ us[j]? = some v):=fun j v hj=>by
  by_cases e : j = w
  ·subst e
   rw [List.getElem?_set_self hwu] at hj
   exact .inl ⟨rfl,by cases hj;rfl⟩
  ·rw [List.getElem?_set_ne (fun e'=>e e'.symm)] at hj
   exact .inr ⟨e,hj⟩
 refine ⟨h.bel.setCell (p:=⟨gS,w,none⟩) h.sB _,h.yB,h.hB,h.sB,blk_set h.blk h.ne_yS _ _,own_set h.fr (by simp [Value.ownBlock];exact h.fr_S) _ _,?_,?_,by rw [List.length_set];exact h.ul,by rw [St.stk_wlen];exact h.wl,fun j v hj=>?_,fun i j u v b hi hj hij hb=>?_,fun i u hi=>?_,own_set h.trc h.t_S _ _,h.suf⟩
 ·have e : (s.stk w l).ws.map handV = s.ws.map handV:=by
   unfold St.stk St.putW
   rw [List.map_set]
   have : handV { s.w w with stack:=l } = (s.ws.map handV)[w]'(by simpa using hwl):=by
    rw [List.getElem_map,← St.w_eq hwl]
    rfl
   rw [this,List.set_getElem_self]
  rw [e]
  exact blk_set h.hd h.ne_HS _ _
 ·have:=blk_put h.st w u'
  rw [this]
  congr 2
  simp
 ·rw [St.w_stk s l hwl j]
  rcases get j v hj with ⟨rfl,rfl⟩ | ⟨e,hj⟩
  ·rw [if_pos rfl]
   exact own_set hr huS _ _
  ·rw [if_neg e]
   exact own_set (h.row j v hj) (h.u_S hj) _ _
 ·rcases get i u hi with ⟨e1,e1'⟩ | ⟨e1,hi2⟩
  ·rcases get j v hj with ⟨e2,_⟩ | ⟨e2,hj2⟩
   ·exact absurd (e1.trans e2.symm) hij
   ·intro hv
    exact ha j v b e2 hj2 hv (by rw [← e1'];exact hb)
  ·rcases get j v hj with ⟨e2,e2'⟩ | ⟨e2,hj2⟩
   ·rw [e2']
    exact ha i u b e1 hi2 hb
   ·exact h.ap i j u v b hi2 hj2 hij hb
 ·rcases get i u hi with ⟨_,e1'⟩ | ⟨e1,hi2⟩
  ·rw [e1']
   exact hh
  ·exact h.ah i u hi2
theorem PlayM.setOwn (h : PlayM fs w0 W B rb yb g gH gS k cap s tv us tr n0 n1 n2 done) {i : Nat} {v : Value} {m0 m1 m2 : Nat} {d' : Bool}
  (hc : (#[.pointer (some ⟨rb,0,none⟩),.slice (some ⟨g,0,none⟩) s.ts.length cap,.slice (some ⟨gH,0,none⟩) k k,.slice (some ⟨gS,0,none⟩) k k,tv,.int .i64 (n0 : Int),.int .i64 (n1 : Int),.int .i64 (n2 : Int),.int .i64 0,.bool done] : Array Value).setIfInBounds i v = #[.pointer (some ⟨rb,0,none⟩),.slice (some ⟨g,0,none⟩) s.ts.length cap,.slice (some ⟨gH,0,none⟩) k k,.slice (some ⟨gS,0,none⟩) k k,tv,.int .i64 (m0 : Int),.int .i64 (m1 : Int),.int .i64 (m2 : Int),.int .i64 0,.bool d']) :
  PlayM fs w0 (W.setCell ⟨yb,i,none⟩ v) B rb yb g gH gS k cap s tv us tr m0 m1 m2 d' :=
 ⟨h.bel.setCell (p:=⟨yb,i,none⟩) h.yB _,h.yB,h.hB,h.sB,by rw [blk_put h.blk,hc],own_set h.fr (by simp [Value.ownBlock];exact h.fr_y) _ _,blk_set h.hd h.ne_yH.symm _ _,blk_set h.st h.ne_yS.symm _ _,h.ul,h.wl,fun j u hu=>own_set (h.row j u hu) (h.u_y hu) _ _,h.ap,h.ah,own_set h.trc h.t_y _ _,h.suf⟩
theorem grown_blk {W W' : World} {r : Option Nat} {o : Obj} (hg : (W.alloc o).grownBy W' r) {c : Nat} {x : Obj} (hc : W.heap[c]? = some x) (hr : r ≠ some c) : W'.heap[c]? = some x:=by
 have hl:=(Array.getElem?_eq_some_iff.1 hc).1
 rw [hg.block c (by simp;omega) (fun e=>hr e.symm),Below.heap_alloc _ _ _ hl]
 exact hc
theorem grown_own {W W' : World} {r : Option Nat} {o : Obj} (hg : (W.alloc o).grownBy W' r) {base : Nat} {e : TypeId} {size : Nat} {u : Value} {n : Nat} {xs : List Value} (h : W.ownsRow base e size u n xs) (hr : ∀ b,u.ownBlock = some b → r ≠ some b) : W'.ownsRow base e size u n xs :=
 own_turn h (fun b hb hlt=>by rw [hg.block b (by simp;omega) (fun e=>hr b hb e.symm),Below.heap_alloc _ _ _ hlt])
theorem PlayM.newFrame (h : PlayM fs w0 W B rb yb g gH gS k cap s tv us tr n0 n1 n2 done) {W2 : World} {o : Obj} {g' cap' : Nat} {t' : Tk} (hg : (W.alloc o).grownBy W2 (some g)) (ho : W2.ownsRow B 143 9 (.slice (some ⟨g',0,none⟩) (s.ts.length + 1) cap') (s.ts.length + 1) (flat (frV fs) s.ts ++ frV fs t')) (hs : Suf fs t') :
  PlayM fs w0 (W2.setCell ⟨yb,1,none⟩ (.slice (some ⟨g',0,none⟩) (s.ts.length + 1) cap')) B rb yb g' gH gS k cap' { s with ts:=s.ts ++ [t'] } tv us tr n0 n1 n2 done:=by
 have hBs : B ≤ W.heap.size:=by have:=(Array.getElem?_eq_some_iff.1 h.blk).1;have:=h.yB;omega
 have b2 : Below B w0 W2:=(h.bel.alloc hBs o).grown hg (by simp;omega) (fun q hq=>by cases hq;exact h.gB)
 have y2:=grown_blk hg h.blk (by simp;exact h.fr_y)
 have hfy : (Value.slice (some ⟨g',0,none⟩) (s.ts.length + 1) cap').ownBlock ≠ some yb:=own_type ho y2 (by decide)
 have hlen : ({ s with ts:=s.ts ++ [t'] } : St).ts.length = s.ts.length + 1:=by simp
 refine ⟨b2.setCell (p:=⟨yb,1,none⟩) h.yB _,h.yB,h.hB,h.sB,?_,?_,blk_set (grown_blk hg h.hd (by simp;exact h.fr_H)) h.ne_yH.symm _ _,blk_set (grown_blk hg h.st (by simp;exact h.fr_S)) h.ne_yS.symm _ _,h.ul,h.wl,fun j u hu=>own_set (grown_own hg (h.row j u hu) (fun b hb e=>h.u_g hu (by rw [hb,e]))) (h.u_y hu) _ _,h.ap,h.ah,own_set (grown_own hg h.trc (fun b hb e=>h.t_g (by rw [hb,e]))) h.t_y _ _,fun t ht=>?_⟩
 ·rw [blk_put y2,hlen]
  rfl
 ·rw [hlen]
  have e : flat (frV fs) ({ s with ts:=s.ts ++ [t'] } : St).ts = flat (frV fs) s.ts ++ frV fs t':=by
   show flat (frV fs) (s.ts ++ [t']) = _
   rw [flat_append]
   simp [flat]
  rw [e]
  exact own_set ho hfy _ _
 ·rcases List.mem_append.1 (show t ∈ s.ts ++ [t'] from ht) with ht | ht
  ·exact h.suf t ht
  ·rw [List.mem_singleton.1 ht];exact hs
theorem PlayM.newEvent (h : PlayM fs w0 W B rb yb g gH gS k cap s tv us tr n0 n1 n2 done) {W2 : World} {o : Obj} {tv' : Value} {e : Ev} (hg : (W.alloc o).grownBy W2 tv.ownBlock) (ho : W2.ownsRow B 89 3 tv' (tr.length + 1) (evCells tr ++ e.vals)) :
  PlayM fs w0 (W2.setCell ⟨yb,4,none⟩ tv') B rb yb g gH gS k cap s tv' us (tr ++ [e]) n0 n1 n2 done:=by
 have hBs : B ≤ W.heap.size:=by have:=(Array.getElem?_eq_some_iff.1 h.blk).1;have:=h.yB;omega
 have b2 : Below B w0 W2:=(h.bel.alloc hBs o).grown hg (by simp;omega) (fun q hq=>(h.trc.lt q hq).1)
 have y2:=grown_blk hg h.blk h.t_y
 have hty : tv'.ownBlock ≠ some yb:=own_type ho y2 (by decide)
 have hgt : ∀ b,(Value.slice (some ⟨g,0,none⟩) s.ts.length cap).ownBlock = some b → tv.ownBlock ≠ some b:=fun b hb=>by
  simp [Value.ownBlock] at hb
  rw [← hb]
  exact h.t_g
 refine ⟨b2.setCell (p:=⟨yb,4,none⟩) h.yB _,h.yB,h.hB,h.sB,?_,own_set (grown_own hg h.fr hgt) (by simp [Value.ownBlock];exact h.fr_y) _ _,blk_set (grown_blk hg h.hd h.t_H) h.ne_yH.symm _ _,blk_set (grown_blk hg h.st h.t_S) h.ne_yS.symm _ _,h.ul,h.wl,fun j u hu=>own_set (grown_own hg (h.row j u hu) (fun b hb e=>?_)) (h.u_y hu) _ _,h.ap,h.ah,?_,h.suf⟩
 ·rw [blk_put y2]
  rfl
 ·rcases h.u_t hu with e1 | e1
  ·rw [hb] at e1;cases e1
  ·exact e1 (by rw [hb,e])
 ·rw [List.length_append,evCells_append]
  have : evCells [e] = e.vals:=by simp [evCells]
  rw [this]
  exact own_set ho hty _ _
end
end Go.Proofs.YtkmakliebhnhbaaGreat
namespace Go.Proofs.YtkmakliebhnhbaaGreat
open Go.RowKit Go.Shelf
theorem blk_cell {W : World} {b i : Nat} {cs : Array Value} {t : TypeId} {v : Value} (h : W.heap[b]? = some (.cells cs t (0,0))) (hi : cs[i]? = some v) : W.cell? ⟨b,i,none⟩ = some v:=by
 unfold World.cell?
 simp only [h]
 exact hi
theorem blk_frz {W : World} {b : Nat} {cs : Array Value} {t : TypeId} (h : W.heap[b]? = some (.cells cs t (0,0))) (i : Nat) : W.frozen? ⟨b,i,none⟩ = false:=by
 unfold World.frozen?
 simp [h]
section
variable {fs : List (List Ins)} {w0 W : World} {B rb yb g gH gS k cap : Nat} {s : St} {tv : Value} {us : List Value} {tr : List Ev} {n0 n1 n2 : Nat} {done : Bool}
theorem PlayM.own (h : PlayM fs w0 W B rb yb g gH gS k cap s tv us tr n0 n1 n2 done) : W.cell? ⟨yb,0,none⟩ = some (.pointer (some ⟨rb,0,none⟩)) ∧ W.cell? ⟨yb,1,none⟩ = some (.slice (some ⟨g,0,none⟩) s.ts.length cap) ∧ W.cell? ⟨yb,2,none⟩ = some (.slice (some ⟨gH,0,none⟩) k k) ∧ W.cell? ⟨yb,3,none⟩ = some (.slice (some ⟨gS,0,none⟩) k k) ∧ W.cell? ⟨yb,4,none⟩ = some tv ∧
  W.cell? ⟨yb,5,none⟩ = some (.int .i64 (n0 : Int)) ∧ W.cell? ⟨yb,6,none⟩ = some (.int .i64 (n1 : Int)) ∧ W.cell? ⟨yb,7,none⟩ = some (.int .i64 (n2 : Int)) ∧ W.cell? ⟨yb,9,none⟩ = some (.bool done) :=
 ⟨blk_cell h.blk rfl,blk_cell h.blk rfl,blk_cell h.blk rfl,blk_cell h.blk rfl,blk_cell h.blk rfl,blk_cell h.blk rfl,blk_cell h.blk rfl,blk_cell h.blk rfl,blk_cell h.blk rfl⟩
theorem PlayM.ofz (h : PlayM fs w0 W B rb yb g gH gS k cap s tv us tr n0 n1 n2 done) (i : Nat) : W.frozen? ⟨yb,i,none⟩ = false:=blk_frz h.blk i
theorem PlayM.frc (h : PlayM fs w0 W B rb yb g gH gS k cap s tv us tr n0 n1 n2 done) {i : Nat} (hi : i < s.ts.length) {j : Nat} {v : Value} (hj : (frV fs (s.t i))[j]? = some v) : W.cell? ⟨g,i * 9 + j,none⟩ = some v:=by
 have hj9 : j < 9:=by have:=(List.getElem?_eq_some_iff.1 hj).1;rw [frV_len] at this;exact this
 have hti : s.ts[i]? = some (s.t i):=by rw [St.t_eq hi];exact List.getElem?_eq_getElem hi
 have hlt : i * 9 + j < s.ts.length * 9:=by
  have:=Nat.mul_le_mul_right 9 (show i + 1 ≤ s.ts.length by omega)
  omega
 rw [h.fr.cellAt _ hlt,flat_get (frV_len fs) s.ts hti hj9]
 exact hj
theorem PlayM.frz (h : PlayM fs w0 W B rb yb g gH gS k cap s tv us tr n0 n1 n2 done) (j : Nat) : W.frozen? ⟨g,j,none⟩ = false:=h.fr.frozenAt j
theorem PlayM.hdc (h : PlayM fs w0 W B rb yb g gH gS k cap s tv us tr n0 n1 n2 done) {w : Nat} (hw : w < k) : W.cell? ⟨gH,w,none⟩ = some (.int .i64 (handZ (s.w w))):=by
 have hwl : w < s.ws.length:=by rw [h.wl];exact hw
 refine blk_cell h.hd ?_
 rw [St.w_eq hwl]
 simp [hwl,handV]
theorem PlayM.hdz (h : PlayM fs w0 W B rb yb g gH gS k cap s tv us tr n0 n1 n2 done) (w : Nat) : W.frozen? ⟨gH,w,none⟩ = false:=blk_frz h.hd w
theorem PlayM.stc (h : PlayM fs w0 W B rb yb g gH gS k cap s tv us tr n0 n1 n2 done) {w : Nat} (hw : w < k) : ∃ u a c,us[w]? = some u ∧ u = .slice a (s.w w).stack.length c ∧ W.cell? ⟨gS,w,none⟩ = some (.slice a (s.w w).stack.length c) ∧ (s.w w).stack.length ≤ c:=by
 have hwu : w < us.length:=by rw [h.ul];exact hw
 have hu : us[w]? = some us[w]:=List.getElem?_eq_getElem hwu
 obtain ⟨a,c,he⟩:=own_form (h.row w _ hu)
 refine ⟨us[w],a,c,hu,he,?_,?_⟩
 ·rw [← he]
  refine blk_cell h.st ?_
  simp [hwu]
 ·have hr:=h.row w _ hu
  rw [he] at hr
  rcases hr.2 with ⟨h1,h2⟩ | ⟨_,c',_,h1,_,_,h3,_⟩
  ·rw [h2];exact Nat.zero_le _
  ·cases h1;exact h3
theorem PlayM.stz (h : PlayM fs w0 W B rb yb g gH gS k cap s tv us tr n0 n1 n2 done) (w : Nat) : W.frozen? ⟨gS,w,none⟩ = false:=blk_frz h.st w
theorem PlayM.skc (h : PlayM fs w0 W B rb yb g gH gS k cap s tv us tr n0 n1 n2 done) {w : Nat} {a : Option Addr} {c i q : Nat} (hu : us[w]? = some (.slice a (s.w w).stack.length c)) (hq : (s.w w).stack[i]? = some q) : ∃ b,a = some ⟨b,0,none⟩ ∧ W.cell? ⟨b,i,none⟩ = some (.int .i64 (q : Int)):=by
 have hr:=h.row w _ hu
 have hi:=(List.getElem?_eq_some_iff.1 hq).1
 rcases hr.2 with ⟨_,h2⟩ | ⟨b,c',cur,h1,_⟩
 ·omega
 ·cases h1
  refine ⟨b,rfl,?_⟩
  rw [hr.cellAt i (by omega)]
  have:=flat_get (enc:=int64s) (size:=1) (fun _=>rfl) (stkZ (s.w w).stack) (k:=i) (j:=0) (x:=(q : Int)) (by unfold stkZ;rw [List.getElem?_map,hq];rfl) (by omega)
  simp only [Nat.mul_one,Nat.add_zero] at this
  rw [this]
  rfl
theorem PlayM.same (h : PlayM fs w0 W B rb yb g gH gS k cap s tv us tr n0 n1 n2 done) {s' : St} (hw : s'.ws = s.ws) (ht : s'.ts.map (frV fs) = s.ts.map (frV fs)) (hs : ∀ t ∈ s'.ts,Suf fs t) : PlayM fs w0 W B rb yb g gH gS k cap s' tv us tr n0 n1 n2 done:=by
 have hl : s'.ts.length = s.ts.length:=by have:=congrArg List.length ht;simpa using this
 have hf : flat (frV fs) s'.ts = flat (frV fs) s.ts:=by
  unfold flat
  rw [List.flatMap_def,List.flatMap_def,ht]
 have hww : ∀ i,s'.w i = s.w i:=fun i=>by unfold St.w;rw [hw]
 exact ⟨h.bel,h.yB,h.hB,h.sB,by rw [hl];exact h.blk,by rw [hl,hf];exact h.fr,by rw [hw];exact h.hd,h.st,h.ul,by rw [hw];exact h.wl,fun w u hu=>by rw [hww];exact h.row w u hu,h.ap,h.ah,h.trc,hs⟩
end
end Go.Proofs.YtkmakliebhnhbaaGreat
namespace Go.Proofs.YtkmakliebhnhbaaGreat
open Go.RowKit Go.Shelf
theorem hand_hand (s : St) (i : Nat) (o o' : Option Nat) : (s.hand i o).hand i o' = s.hand i o':=by
 by_cases hi : i < s.ws.length
 ·have e : (s.hand i o).w i = ⟨o,(s.w i).stack⟩:=by rw [St.w_hand s o hi i,if_pos rfl]
  show ({ s.hand i o with ws:=(s.hand i o).ws.set i { (s.hand i o).w i with hand:=o' } } : St) = _
  rw [e]
  simp [St.hand,St.putW]
 ·have e : ∀ (s : St) o,¬ i < s.ws.length → s.hand i o = s:=fun s o h=>by
   unfold St.hand St.putW
   rw [List.set_eq_of_length_le (by omega)]
  rw [e s o hi]
section
variable {fs : List (List Ins)} {w0 W : World} {B rb yb g gH gS k cap : Nat} {s : St} {tv : Value} {us : List Value} {tr : List Ev} {n0 n1 n2 : Nat}
set_option maxHeartbeats 4000000 in
set_option maxRecDepth 100000 in
theorem ended_root (h : PlayM fs w0 W B rb yb g gH gS k cap s tv us tr n0 n1 n2 false) {w a : Nat} (hw : w < k) (ha : a < s.ts.length) (hd : ∀ j,(s.w j).stack.length ≤ 100000) (ho : (s.t a).org = .root) :
  Calls Tryz.prog 80 #[.pointer (some ⟨yb,0,none⟩),.int .i64 (w : Int),.int .i64 (a : Int)] W fun e w'=>e = .returned (.tuple #[]) ∧ PlayM fs w0 w' B rb yb g gH gS k cap (s.hand w none) tv us tr n0 n1 n2 true:=by
 have h1:=h.setHand hw none (z:=-1) rfl
 have H2:=hide (h1.setOwn (i:=9) (v:=.bool true) (m0:=n0) (m1:=n1) (m2:=n2) (d':=true) rfl)
 obtain ⟨_,c1,c2,c3,_,_,_,_,_⟩:=h.own
 have f5 : W.cell? ⟨g,a * 9 + 5,none⟩ = some (.int .i64 (-1)):=h.frc ha (j:=5) (by simp [frV,fromZ,ho])
 obtain ⟨u,ua,uc,hu,rfl,st,_⟩:=h.stc hw
 have hz:=h.hdz w
 have hc:=h.hdc hw
 obtain ⟨_,_,_,_,_,_,_,_,e9⟩:=h1.own
 have z9:=h1.ofz 9
 have hai : (a : Int) < (s.ts.length : Int):=by omega
 have hwi : (w : Int) < (k : Int):=by omega
 have hdw:=hd w
 obtain ⟨n,hn⟩ : ∃ n,s.ts.length = n:=⟨_,rfl⟩
 obtain ⟨m,hm⟩ : ∃ m,(s.w w).stack.length = m:=⟨_,rfl⟩
 rw [hn] at c1 hai
 rw [hm] at st hdw
 clear h h1 ha hd hu hn hm
 go_enter Tryz.func80,Tryz.ntmps80
 go_wp2
 go_end0
 exact ⟨rfl,H2.out⟩
set_option maxHeartbeats 4000000 in
set_option maxRecDepth 100000 in
theorem ended_call (h : PlayM fs w0 W B rb yb g gH gS k cap s tv us tr n0 n1 n2 false) {w a : Nat} (hw : w < k) (ha : a < s.ts.length) (hd : ∀ j,(s.w j).stack.length ≤ 100000) (ho : (s.t a).org = .call) :
  Calls Tryz.prog 80 #[.pointer (some ⟨yb,0,none⟩),.int .i64 (w : Int),.int .i64 (a : Int)] W fun e w'=>e = .returned (.tuple #[]) ∧ PlayM fs w0 w' B rb yb g gH gS k cap (s.hand w (some (s.t a).par)) tv us tr n0 n1 n2 false:=by
 have h1:=h.setHand hw none (z:=-1) rfl
 have hh2:=h1.setHand hw (some (s.t a).par) (z:=((s.t a).par : Int)) rfl
 rw [hand_hand] at hh2
 have H2:=hide hh2
 obtain ⟨_,c1,c2,c3,_,_,_,_,_⟩:=h.own
 have f5 : W.cell? ⟨g,a * 9 + 5,none⟩ = some (.int .i64 ((s.t a).par : Int)):=h.frc ha (j:=5) (by simp [frV,fromZ,ho])
 obtain ⟨u,ua,uc,hu,rfl,st,_⟩:=h.stc hw
 have hz:=h.hdz w
 have hc:=h.hdc hw
 obtain ⟨_,e1,e2,_,_,_,_,_,_⟩:=h1.own
 have f6:=h1.frc (i:=a) ha (j:=6) (v:=.bool true) (by rw [St.t_hand];simp [frV,calledB,ho])
 have ez:=h1.hdz w
 have ec:=h1.hdc hw
 have hai : (a : Int) < (s.ts.length : Int):=by omega
 have hwi : (w : Int) < (k : Int):=by omega
 have hdw:=hd w
 rw [St.hand_ts] at e1
 obtain ⟨n,hn⟩ : ∃ n,s.ts.length = n:=⟨_,rfl⟩
 obtain ⟨m,hm⟩ : ∃ m,(s.w w).stack.length = m:=⟨_,rfl⟩
 obtain ⟨p,hp⟩ : ∃ p,(s.t a).par = p:=⟨_,rfl⟩
 rw [hn] at c1 e1 hai
 rw [hm] at st hdw
 rw [hp] at f5 H2 ⊢
 have hp0 : ¬ (p : Int) < 0:=by omega
 clear h h1 hh2 ha hd hu hn hm hp
 go_enter Tryz.func80,Tryz.ntmps80
 go_wp2
 go_end0
 exact ⟨rfl,H2.out⟩
theorem own_less {W : World} {base : Nat} {e : TypeId} {a : Option Addr} {n c m : Nat} {l : List Int} (h : W.ownsRow base e 1 (.slice a n c) n (flat int64s l)) (hm : m ≤ n) (h0 : 0 < n) : W.ownsRow base e 1 (.slice a m c) m (flat int64s (l.take m)):=by
 have hl : (flat int64s l).length = l.length * 1:=flat_len (enc:=int64s) (size:=1) (fun _=>rfl) l
 have hln : l.length = n:=by have:=h.1;omega
 refine ⟨by rw [flat_len (enc:=int64s) (size:=1) (fun _=>rfl),List.length_take];omega,?_⟩
 rcases h.2 with ⟨_,h2⟩ | ⟨g,c',cur,h1,hb,hg,hn,hcm,hcs,ht⟩
 ·omega
 ·cases h1
  refine .inr ⟨g,c,cur,rfl,hb,hg,by omega,hcm,hcs,?_⟩
  have : cur.toList.take (m * 1) = (cur.toList.take (n * 1)).take (m * 1):=by rw [List.take_take,Nat.min_eq_left (by omega)]
  rw [this,ht]
  have hf : ∀ (l : List Int) (m : Nat),(flat int64s l).take (m * 1) = flat int64s (l.take m):=fun l m=>by
   induction l generalizing m with
   | nil=>simp [flat]
   | cons x t ih =>
    have e : flat int64s (x :: t) = .int .i64 x :: flat int64s t:=rfl
    cases m with
    | zero=>simp [flat]
    | succ m =>
     rw [e,show (m + 1) * 1 = m * 1 + 1 by omega,List.take_succ_cons,ih m]
     rfl
  exact hf l m
set_option maxHeartbeats 4000000 in
set_option maxRecDepth 100000 in
theorem ended_pop (h : PlayM fs w0 W B rb yb g gH gS k cap s tv us tr n0 n1 n2 false) {w a q : Nat} {l : List Nat} (hw : w < k) (ha : a < s.ts.length) (hd : ∀ j,(s.w j).stack.length ≤ 100000) (ho : (s.t a).org = .spawn) (hq : (s.w w).stack = l ++ [q]) :
  Calls Tryz.prog 80 #[.pointer (some ⟨yb,0,none⟩),.int .i64 (w : Int),.int .i64 (a : Int)] W fun e w'=>e = .returned (.tuple #[]) ∧ ∃ us',PlayM fs w0 w' B rb yb g gH gS k cap ((s.hand w (some q)).stk w l) tv us' tr n0 n1 n2 false:=by
 have hmix : Tryz.prog.follows .mixedOrders = true:=by kernel_rfl
 have hwl : w < s.ws.length:=by rw [h.wl];exact hw
 have h1:=h.setHand hw none (z:=-1) rfl
 have h2:=h1.setHand hw (some q) (z:=(q : Int)) rfl
 rw [hand_hand] at h2
 obtain ⟨_,c1,c2,c3,_,_,_,_,_⟩:=h.own
 have f5 : W.cell? ⟨g,a * 9 + 5,none⟩ = some (.int .i64 ((s.t a).par : Int)):=h.frc ha (j:=5) (by simp [frV,fromZ,ho])
 obtain ⟨u,ua,uc,hu,rfl,st,huc⟩:=h.stc hw
 have hlen : (s.w w).stack.length = l.length + 1:=by rw [hq];simp
 obtain ⟨ub,rfl,_⟩:=h.skc hu (i:=l.length) (q:=q) (by rw [hq];simp)
 obtain ⟨_,e1,e2,e3,_,_,_,_,_⟩:=h1.own
 have f6:=h1.frc (i:=a) ha (j:=6) (v:=.bool false) (by rw [St.t_hand];simp [frV,calledB,ho])
 have hst : ∀ o,((s.hand w o).w w).stack = (s.w w).stack:=fun o=>hand_stack s w o w
 have hu1 : us[w]? = some (.slice (some ⟨ub,0,none⟩) ((s.hand w none).w w).stack.length uc):=by rw [hst];exact hu
 obtain ⟨_,hb',k1⟩:=h1.skc hu1 (i:=l.length) (q:=q) (by rw [hst,hq];simp)
 cases hb'
 obtain ⟨u',ua',uc',hu',he',st1,_⟩:=h1.stc hw
 rw [hu1] at hu'
 cases hu'
 cases he'
 have ez:=h1.hdz w
 have ec:=h1.hdc hw
 have hz:=h.hdz w
 have hc:=h.hdc hw
 have hr2:=h2.row w _ (show us[w]? = some (.slice (some ⟨ub,0,none⟩) (s.w w).stack.length uc) from hu)
 rw [hst,hq,List.length_append,List.length_singleton] at hr2
 have hr3:=own_less hr2 (m:=l.length) (by omega) (by omega)
 have hr3' : ((W.setCell ⟨gH,w,none⟩ (.int .i64 (-1))).setCell ⟨gH,w,none⟩ (.int .i64 (q : Int))).ownsRow B 3 1 (.slice (some ⟨ub,0,none⟩) l.length uc) l.length (flat int64s (stkZ l)):=by
  have e : (stkZ (l ++ [q])).take l.length = stkZ l:=by unfold stkZ;rw [List.map_append,List.take_left' (by simp)]
  rw [e] at hr3
  exact hr3
 have H3:=hide (fun n=>(h2.below (W':=((W.setCell ⟨gH,w,none⟩ (.int .i64 (-1))).setCell ⟨gH,w,none⟩ (.int .i64 (q : Int))).drewN n) (below_drewN (Below.refl _ _) n)).setStk (u':=.slice (some ⟨ub,0,none⟩) l.length uc) (l:=l) hw hr3' (fun j v b hj hv hb=>by
  have:=h.ap j w v _ b hv hu hj hb
  simpa [Value.ownBlock] using this) (by have:=h.ah w _ hu;simpa [Value.ownBlock] using this))
 have st2 : ((W.setCell ⟨gH,w,none⟩ (.int .i64 (-1))).setCell ⟨gH,w,none⟩ (.int .i64 (q : Int))).cell? ⟨gS,w,none⟩ = some (.slice (some ⟨ub,0,none⟩) (s.w w).stack.length uc):=by
  obtain ⟨u'',ua'',uc'',hu'',he'',st'',_⟩:=h2.stc hw
  rw [hu] at hu''
  cases hu''
  rw [hst] at he''
  cases he''
  rw [hst] at st''
  exact st''
 obtain ⟨_,_,_,g3,_,_,_,_,_⟩:=h2.own
 have gz:=h2.stz w
 have hai : (a : Int) < (s.ts.length : Int):=by omega
 have hwi : (w : Int) < (k : Int):=by omega
 have hdw:=hd w
 have hyH : ¬ yb = gH:=h.ne_yH
 have hSH : ¬ gS = gH:=fun e=>h.ne_HS e.symm
 have huH : ¬ ub = gH:=by have:=h.ah w _ hu;simpa [Value.ownBlock] using this
 rw [St.hand_ts] at e1
 rw [hst] at st1
 rw [hlen] at st st1 st2 hdw huc
 obtain ⟨n,hn⟩ : ∃ n,s.ts.length = n:=⟨_,rfl⟩
 obtain ⟨m,hm⟩ : ∃ m,l.length = m:=⟨_,rfl⟩
 obtain ⟨p,hp⟩ : ∃ p,(s.t a).par = p:=⟨_,rfl⟩
 rw [hn] at c1 e1 hai
 rw [hm] at st st1 st2 hdw huc k1 H3
 rw [hp] at f5
 have hp0 : ¬ (p : Int) < 0:=by omega
 have hm0 : (0 : Int) < (m : Int) + 1:=by omega
 have hm1 : ((m : Int) + 1) - 1 = (m : Int):=by omega
 clear h h1 h2 ha hd hu hu1 hr2 hr3 hr3' hn hm hp hlen hst
 go_enter Tryz.func80,Tryz.ntmps80
 go_wp2
 rename_i K0 hK0
 refine (wpIn_wide (n:=9)).1 ?_
 refine region_split (F:=FW) (C:=fun w'=>∃ n,w' = (W.setCell ⟨gH,w,none⟩ (.int .i64 (-1))).drewN n) (ro:=none) (k:=17) (r:=1) hmix rfl (by kernel_rfl) (by kernel_rfl) ⟨1,rfl⟩ ?_
 simp only [List.take_succ_cons,List.take_zero]
 repeat (gi_big_quiet_step (fail))
 refine wpQuietIn_nil ?_
 rintro _ ⟨nq,rfl⟩
 refine wpAnyIn_ready (rs:=[17]) (by kernel_rfl) (by simp) ?_
 refine AllReadyIn.cons rfl (fun KK hKK=>?_) AllReadyIn.nil
 go_simp
 refine hKK _ _ ?_
 clear hKK KK
 refine wpAnyIn_done (by kernel_rfl) ?_ _
 refine hK0 _ _ ?_
 clear hK0 K0
 have st3 : (((W.setCell ⟨gH,w,none⟩ (.int .i64 (-1))).drewN nq).setCell ⟨gH,w,none⟩ (.int .i64 (q : Int))).cell? ⟨gS,w,none⟩ = some (.slice (some ⟨ub,0,none⟩) (m + 1) uc):=st2
 have g33 : (((W.setCell ⟨gH,w,none⟩ (.int .i64 (-1))).drewN nq).setCell ⟨gH,w,none⟩ (.int .i64 (q : Int))).cell? ⟨yb,3,none⟩ = some (.slice (some ⟨gS,0,none⟩) k k):=g3
 have gz3 : (((W.setCell ⟨gH,w,none⟩ (.int .i64 (-1))).drewN nq).setCell ⟨gH,w,none⟩ (.int .i64 (q : Int))).frozen? ⟨gS,w,none⟩ = false:=gz
 have H4 : Hid (∀ n,∃ us',PlayM fs w0 (((((W.setCell ⟨gH,w,none⟩ (.int .i64 (-1))).drewN nq).setCell ⟨gH,w,none⟩ (.int .i64 (q : Int))).drewN n).setCell ⟨gS,w,none⟩ (.slice (some ⟨ub,0,none⟩) m uc)) B rb yb g gH gS k cap ((s.hand w (some q)).stk w l) tv us' tr n0 n1 n2 false):=fun n=>by
  have:=H3.out (nq + n)
  have e : (((((W.setCell ⟨gH,w,none⟩ (.int .i64 (-1))).drewN nq).setCell ⟨gH,w,none⟩ (.int .i64 (q : Int))).drewN n).setCell ⟨gS,w,none⟩ (.slice (some ⟨ub,0,none⟩) m uc)) = ((((W.setCell ⟨gH,w,none⟩ (.int .i64 (-1))).setCell ⟨gH,w,none⟩ (.int .i64 (q : Int))).drewN (nq + n)).setCell ⟨gS,w,none⟩ (.slice (some ⟨ub,0,none⟩) m uc)):=by
   simp only [World.drewN,World.setCell,Nat.add_assoc]
  rw [e]
  exact ⟨_,this⟩
 generalize ((W.setCell ⟨gH,w,none⟩ (.int .i64 (-1))).drewN nq).setCell ⟨gH,w,none⟩ (.int .i64 (q : Int)) = V at st3 g33 gz3 H4 ⊢
 clear st2 g3 gz st1 e1 e2 e3 c1 c2 c3 f5 f6 ez ec hz hc st k1 H3
 refine (wpIn_wide (n:=9)).1 ?_
 refine region_split (F:=FW) (C:=fun w'=>∃ n,w' = V.drewN n) (ro:=none) (k:=16) (r:=1) hmix rfl (by kernel_rfl) (by kernel_rfl) ⟨1,rfl⟩ ?_
 simp only [List.take_succ_cons,List.take_zero]
 repeat (gi_big_quiet_step (fail))
 refine wpQuietIn_nil ?_
 rintro _ ⟨nr,rfl⟩
 refine wpAnyIn_ready (rs:=[16]) (by kernel_rfl) (by simp) ?_
 refine AllReadyIn.cons rfl (fun KK hKK=>?_) AllReadyIn.nil
 go_simp
 refine hKK _ _ ?_
 clear hKK KK
 refine wpAnyIn_done (by kernel_rfl) ?_ _
 go_wp2
 go_end0
 exact ⟨rfl,H4.out _⟩
def joined (s : St) (p : Nat) : Tk:={ s.t p with out:=(s.t p).out - 1 }
set_option maxHeartbeats 4000000 in
set_option maxRecDepth 100000 in
theorem ended_join (h : PlayM fs w0 W B rb yb g gH gS k cap s tv us tr n0 n1 n2 false) {w a p : Nat} (hw : w < k) (ha : a < s.ts.length) (ho : (s.t a).org = .spawn) (hp : (s.t a).par = p) (hpl : p < s.ts.length) (hq : (s.w w).stack = []) (ho1 : 1 ≤ (s.t p).out) (ho2 : (s.t p).out ≤ 100000000) :
  Calls Tryz.prog 80 #[.pointer (some ⟨yb,0,none⟩),.int .i64 (w : Int),.int .i64 (a : Int)] W fun e w'=>e = .returned (.tuple #[]) ∧ PlayM fs w0 w' B rb yb g gH gS k cap (if (joined s p).out = 0 ∧ (joined s p).asd = true then (s.putT p { joined s p with asd:=false }).hand w (some p) else (s.putT p (joined s p)).hand w none) tv us tr n0 n1 n2 false:=by
 obtain ⟨o,hoe⟩ : ∃ o,(s.t p).out = o:=⟨_,rfl⟩
 rw [hoe] at ho1 ho2
 have h1:=h.setHand hw none (z:=-1) rfl
 have hsp:=h.suf (s.t p) (St.t_mem hpl)
 have h2:=h1.setFrame (i:=p) hpl (t':=joined s p) (j:=7) (v:=.int .i64 (o - 1)) (by omega) (by rw [St.t_hand];simp [frV,joined,nextOf,bodyOf,fromZ,calledB,hoe]) hsp
 obtain ⟨_,c1,c2,c3,_,_,_,_,_⟩:=h.own
 have f5 : W.cell? ⟨g,a * 9 + 5,none⟩ = some (.int .i64 (p : Int)):=h.frc ha (j:=5) (by simp [frV,fromZ,ho,hp])
 obtain ⟨u,ua,uc,hu,rfl,st,_⟩:=h.stc hw
 have hz:=h.hdz w
 have hc:=h.hdc hw
 obtain ⟨_,e1,_,_,_,_,_,_,_⟩:=h1.own
 have f6:=h1.frc (i:=a) ha (j:=6) (v:=.bool false) (by rw [St.t_hand];simp [frV,calledB,ho])
 have f7:=h1.frc (i:=p) hpl (j:=7) (v:=.int .i64 o) (by rw [St.t_hand];simp [frV,hoe])
 have z7:=h1.frz (p * 9 + 7)
 obtain ⟨_,k1,k2,_,_,_,_,_,_⟩:=h2.own
 have hpl2 : p < ((s.hand w none).putT p (joined s p)).ts.length:=by rw [St.putT_len];exact hpl
 have htp : ((s.hand w none).putT p (joined s p)).t p = joined s p:=by rw [St.t_putT (s.hand w none) (joined s p) hpl p,if_pos rfl]
 have f77:=h2.frc hpl2 (j:=7) (v:=.int .i64 (o - 1)) (by rw [htp];simp [frV,joined,hoe])
 have f78:=h2.frc hpl2 (j:=8) (v:=.bool (s.t p).asd) (by rw [htp];simp [frV,joined])
 have z8:=h2.frz (p * 9 + 8)
 have hai : (a : Int) < (s.ts.length : Int):=by omega
 have hpi : (p : Int) < (s.ts.length : Int):=by omega
 have hwi : (w : Int) < (k : Int):=by omega
 have hp0 : ¬ (p : Int) < 0:=by omega
 rw [hq] at st
 simp only [List.length_nil] at st
 rw [St.hand_ts] at e1
 rw [St.putT_len,St.hand_ts] at k1
 obtain ⟨n,hn⟩ : ∃ n,s.ts.length = n:=⟨_,rfl⟩
 obtain ⟨d,hd⟩ : ∃ d,(s.t p).asd = d:=⟨_,rfl⟩
 rw [hn] at c1 e1 k1 hai hpi
 rw [hd] at f78
 by_cases hcond : o - 1 = 0 ∧ d = true
 ·have h3:=h2.setFrame (i:=p) hpl2 (t':={ joined s p with asd:=false }) (j:=8) (v:=.bool false) (by omega) (by rw [htp];simp [frV,joined,nextOf,bodyOf,fromZ,calledB]) hsp
  have h4:=h3.setHand hw (some p) (z:=(p : Int)) rfl
  obtain ⟨_,_,m2,_,_,_,_,_,_⟩:=h3.own
  have mz:=h3.hdz w
  have mc:=h3.hdc hw
  have hst : (((s.hand w none).putT p (joined s p)).putT p { joined s p with asd:=false }).hand w (some p) = (s.putT p { joined s p with asd:=false }).hand w (some p):=by
   have e1 : ((s.hand w none).putT p (joined s p)).putT p { joined s p with asd:=false } = (s.putT p { joined s p with asd:=false }).hand w none:=by
    show ({ ts:=(s.ts.set p _).set p _,ws:=_ } : St) = { ts:=s.ts.set p _,ws:=_ }
    rw [List.set_set]
    rfl
   rw [e1,hand_hand]
  rw [hst] at h4
  obtain ⟨hc1,rfl⟩:=hcond
  obtain rfl : o = 1:=by omega
  rw [if_pos ⟨by simp [joined,hoe],by simp [joined,hd]⟩]
  have H4:=hide h4
  clear h h1 h2 h3 h4 hst ha hpl hpl2 htp hu hn hsp hoe hd
  have e11 : (1 : Int) - 1 = 0:=rfl
  rw [e11] at k1 k2 f77 f78 z8 H4 m2 mz mc
  go_enter Tryz.func80,Tryz.ntmps80
  go_wp2
  go_end0
  exact ⟨rfl,H4.out⟩
 ·have hst : (s.hand w none).putT p (joined s p) = (s.putT p (joined s p)).hand w none:=rfl
  rw [hst] at h2
  have H4:=hide h2
  have hif : ¬ ((joined s p).out = 0 ∧ (joined s p).asd = true):=by
   simp only [joined,hoe,hd]
   exact hcond
  rw [if_neg hif]
  have hcase : (¬ o - 1 = 0 ∧ (o - 1 == 0) = false ∧ decide (o - 1 = 0) = false) ∨ (o = 1 ∧ d = false):=by
   by_cases h0 : o - 1 = 0
   ·refine .inr ⟨by omega,?_⟩
    cases d with
    | true=>exact absurd ⟨h0,rfl⟩ hcond
    | false=>rfl
   ·exact .inl ⟨h0,by simpa using h0,by simpa using h0⟩
  clear h h1 h2 hst ha hpl hpl2 htp hu hn hsp hoe hd hif hcond
  rcases hcase with ⟨q1,q2,q3⟩ | ⟨rfl,rfl⟩
  ·go_enter Tryz.func80,Tryz.ntmps80
   go_wp2
   go_end0
   exact ⟨rfl,H4.out⟩
  ·have e11 : (1 : Int) - 1 = 0:=rfl
   rw [e11] at k1 k2 f77 f78 z8 H4
   go_enter Tryz.func80,Tryz.ntmps80
   go_wp2
   go_end0
   exact ⟨rfl,H4.out⟩
end
end Go.Proofs.YtkmakliebhnhbaaGreat
namespace Go.Proofs.YtkmakliebhnhbaaGreat
open Go.RowKit Go.Shelf
section
variable {fs : List (List Ins)} {w0 W : World} {B rb yb g gH gS k cap : Nat} {s : St} {tv : Value} {us : List Value} {tr : List Ev} {n0 n1 n2 : Nat}
set_option maxHeartbeats 4000000 in
set_option maxRecDepth 100000 in
theorem step_fail (h : PlayM fs w0 W B rb yb g gH gS k cap s tv us tr n0 n1 n2 false) {w v : Nat} (hw : w < k) (hv : v < k) (hn0 : n0 ≤ 1000000) (hn2 : n2 ≤ 1000000) (hh : (s.w w).hand = none) (hq : (s.w v).stack = []) :
  Calls Tryz.prog 62 #[.pointer (some ⟨yb,0,none⟩),.int .i64 (w : Int),.int .i64 (v : Int)] W fun e w'=>e = .returned (.tuple #[]) ∧ PlayM fs w0 w' B rb yb g gH gS k cap s tv us tr (n0 + 1) n1 (n2 + 1) false:=by
 have h1:=h.setOwn (i:=5) (v:=.int .i64 ((n0 : Int) + 1)) (m0:=n0 + 1) (m1:=n1) (m2:=n2) (d':=false) rfl
 have h2:=h1.setOwn (i:=7) (v:=.int .i64 ((n2 : Int) + 1)) (m0:=n0 + 1) (m1:=n1) (m2:=n2 + 1) (d':=false) rfl
 have H2:=hide h2
 obtain ⟨_,_,_,_,_,c5,_,_,_⟩:=h.own
 have z5:=h.ofz 5
 obtain ⟨_,_,e2,e3,_,_,_,e7,_⟩:=h1.own
 have z7:=h1.ofz 7
 have hc:=h1.hdc hw
 obtain ⟨u,ua,uc,hu,rfl,st,_⟩:=h1.stc hv
 rw [hq] at st
 have hz : handZ (s.w w) = -1:=by unfold handZ;rw [hh]
 rw [hz] at hc
 simp only [List.length_nil] at st
 have hwi : (w : Int) < (k : Int):=by omega
 have hvi : (v : Int) < (k : Int):=by omega
 clear h h1 h2 hu hz
 go_enter Tryz.func62,Tryz.ntmps62
 go_wp2
 refine bodyPost_ret (results_none rfl _ _ _) rfl ?_
 exact ⟨rfl,H2.out⟩
theorem own_tail {W : World} {base : Nat} {e : TypeId} {b n c q : Nat} {l : List Nat} (h : W.ownsRow base e 1 (.slice (some ⟨b,0,none⟩) n c) n (flat int64s (stkZ (q :: l)))) (hn : n = l.length + 1) (c' : Nat) : AppSrc W 1 (.slice (some ⟨b,1,none⟩) l.length c') l.length (flat int64s (stkZ l)):=by
 have hl : (flat int64s (stkZ l)).length = l.length:=by
  rw [flat_len (enc:=int64s) (size:=1) (fun _=>rfl),Nat.mul_one]
  simp [stkZ]
 refine .inr ⟨_,_,rfl,by rw [hl,Nat.mul_one],fun j u hj=>?_⟩
 have hjl:=(List.getElem?_eq_some_iff.1 hj).1
 rw [hl] at hjl
 have ea : (⟨b,1,none⟩ : Addr).add j = ⟨b,1 + j,none⟩:=by simp [Addr.add]
 rw [ea,h.cellAt _ (by omega)]
 have e : flat int64s (stkZ (q :: l)) = .int .i64 (q : Int) :: flat int64s (stkZ l):=rfl
 rw [e,show 1 + j = j + 1 by omega,List.getElem?_cons_succ]
 exact hj
set_option maxHeartbeats 8000000 in
set_option maxRecDepth 100000 in
theorem step_steal (h : PlayM fs w0 W B rb yb g gH gS k cap s tv us tr n0 n1 n2 false) {w v q : Nat} {l : List Nat} (hw : w < k) (hv : v < k) (hn0 : n0 ≤ 1000000) (hn1 : n1 ≤ 1000000) (hh : (s.w w).hand = none) (hq : (s.w v).stack = q :: l) (hql : q < s.ts.length) (hll : l.length ≤ 1000000) (ho1 : 0 ≤ (s.t q).out) (ho2 : (s.t q).out ≤ 1000000) :
  Calls Tryz.prog 62 #[.pointer (some ⟨yb,0,none⟩),.int .i64 (w : Int),.int .i64 (v : Int)] W fun e w'=>e = .returned (.tuple #[]) ∧ ∃ us',PlayM fs w0 w' B rb yb g gH gS k cap (((s.hand w (some q)).stk v l).putT q { s.t q with out:=(s.t q).out + 1 }) tv us' tr (n0 + 1) (n1 + 1) n2 false:=by
 have hmix : Tryz.prog.follows .mixedOrders = true:=by kernel_rfl
 have h1:=h.setOwn (i:=5) (v:=.int .i64 ((n0 : Int) + 1)) (m0:=n0 + 1) (m1:=n1) (m2:=n2) (d':=false) rfl
 have h2:=h1.setOwn (i:=6) (v:=.int .i64 ((n1 : Int) + 1)) (m0:=n0 + 1) (m1:=n1 + 1) (m2:=n2) (d':=false) rfl
 obtain ⟨_,_,_,_,_,c5,_,_,_⟩:=h.own
 have z5:=h.ofz 5
 obtain ⟨_,_,e2,e3,_,_,e6,_,_⟩:=h1.own
 have z6:=h1.ofz 6
 have hc:=h1.hdc hw
 obtain ⟨u,ua,uc,hu,hue,st,huc⟩:=h1.stc hv
 rw [hq] at st hue huc
 subst hue
 have hu2 : us[v]? = some (.slice ua (s.w v).stack.length uc):=by rw [hq];exact hu
 obtain ⟨ub,rfl,_⟩:=h.skc hu2 (i:=0) (q:=q) (by rw [hq];rfl)
 have hz : handZ (s.w w) = -1:=by unfold handZ;rw [hh]
 rw [hz] at hc
 simp only [List.length_cons] at st huc
 have hwi : (w : Int) < (k : Int):=by omega
 have hvi : (v : Int) < (k : Int):=by omega
 have hl0 : ¬ ((l.length : Int) + 1) = 0:=by omega
 have hl1 : (((l.length : Int) + 1) == 0) = false:=by simpa using hl0
 have HH2:=hide h2
 have HU:=hide hu2
 have HQ:=hide hq
 obtain ⟨m,hm⟩ : ∃ m,l.length = m:=⟨_,rfl⟩
 rw [hm] at st huc hl0 hl1 hll
 have HM:=hide hm
 clear h h1 h2 hu hz hu2 hq hm
 go_enter Tryz.func62,Tryz.ntmps62
 go_wp2
 rename_i K0 hK0
 obtain ⟨V,hV⟩ : ∃ V,(W.setCell ⟨yb,5,none⟩ (.int .i64 ((n0 : Int) + 1))).setCell ⟨yb,6,none⟩ (.int .i64 ((n1 : Int) + 1)) = V:=⟨_,rfl⟩
 rw [hV] at HH2 ⊢
 clear hV c5 z5 e2 e3 e6 z6 hc st
 obtain ⟨_,_,p2,p3,_,_,_,_,_⟩:=HH2.out.own
 have pc:=HH2.out.hdc hw
 have pz:=HH2.out.hdz w
 obtain ⟨u',ua',uc',hu',he',ps,_⟩:=HH2.out.stc hv
 rw [HU.out] at hu'
 cases hu'
 cases he'
 obtain ⟨_,hb',pk⟩:=HH2.out.skc HU.out (i:=0) (q:=q) (by rw [HQ.out];rfl)
 cases hb'
 rw [HQ.out,List.length_cons,HM.out] at ps
 have hm0 : (0 : Int) < (m : Int) + 1:=by omega
 refine (wpIn_wide (n:=9)).1 ?_
 refine region_split (F:=FW) (C:=fun w'=>∃ n,w' = V.drewN n) (ro:=none) (k:=15) (r:=1) hmix rfl (by kernel_rfl) (by kernel_rfl) ⟨1,rfl⟩ ?_
 simp only [List.take_succ_cons,List.take_zero]
 repeat (gi_big_quiet_step (fail))
 refine wpQuietIn_nil ?_
 rintro _ ⟨nq,rfl⟩
 refine wpAnyIn_ready (rs:=[15]) (by kernel_rfl) (by simp) ?_
 refine AllReadyIn.cons rfl (fun KK hKK=>?_) AllReadyIn.nil
 go_simp
 refine hKK _ _ ?_
 clear hKK KK
 refine wpAnyIn_done (by kernel_rfl) ?_ _
 refine hK0 _ _ ?_
 clear hK0 K0
 have h3:=(HH2.out.below (W':=V.drewN nq) (below_drewN (Below.refl _ _) nq)).setHand hw (some q) (z:=(q : Int)) rfl
 have HH3:=hide h3
 generalize (V.drewN nq).setCell ⟨gH,w,none⟩ (.int .i64 (q : Int)) = V3 at h3 HH3 ⊢
 clear p2 p3 pc pz ps pk
 have hstk : ((s.hand w (some q)).w v).stack = q :: l:=by rw [hand_stack];exact HQ.out
 have hu3 : us[v]? = some (.slice (some ⟨ub,0,none⟩) ((s.hand w (some q)).w v).stack.length uc):=by rw [hand_stack];exact HU.out
 obtain ⟨_,_,_,p3,_,_,_,_,_⟩:=h3.own
 obtain ⟨u',ua',uc',hu',he',ps,_⟩:=h3.stc hv
 rw [hu3] at hu'
 cases hu'
 cases he'
 have hrow:=h3.row v _ hu3
 rw [hstk,List.length_cons] at hrow ps
 have HSRC : Hid (∀ off c',(off = 1 ∨ l.length = 0) → AppSrc V3 1 (.slice (some ⟨ub,off,none⟩) l.length c') l.length (flat int64s (stkZ l))):=fun off c' ho=>by
  by_cases h0 : l.length = 0
  ·obtain rfl:=List.eq_nil_of_length_eq_zero h0
   exact .inr ⟨_,_,rfl,rfl,fun j u hj=>by simp [flat,stkZ] at hj⟩
  ·rcases ho with rfl | ho
   ·exact own_tail hrow rfl c'
   ·exact absurd ho h0
 rw [HM.out] at ps HSRC
 have HST:=hide hstk
 have HU3:=hide hu3
 obtain ⟨i2,hi2,hy0,hy1,hy2⟩:=info_parts Tryz.infoInt2
 have hBV : B ≤ V3.heap.size:=by have:=(Array.getElem?_eq_some_iff.1 h3.blk).1;have:=h3.yB;omega
 have hll2 : m ≤ 1000000:=hll
 clear h3 hrow hstk hu3
 have hn1 : ¬ ((m : Int) + 1 = 0):=by omega
 have hn3 : (m : Int) + 1 ≤ uc:=by omega
 have hcase : (uc = 1 ∧ m = 0) ∨ ¬ uc = 1:=by omega
 obtain ⟨of,sc2,HS⟩ : ∃ of sc2,Hid (AppSrc V3 1 (.slice (some ⟨ub,of,none⟩) m sc2) m (flat int64s (stkZ l)) ∧ of = (if uc = 1 then 0 else 1) ∧ sc2 = uc - 1):=by
  rcases hcase with ⟨h1,h2⟩ | h1
  ·exact ⟨0,uc - 1,HSRC.out 0 _ (.inr h2),by rw [if_pos h1],rfl⟩
  ·exact ⟨1,uc - 1,HSRC.out 1 _ (.inl rfl),by rw [if_neg h1],rfl⟩
 rcases hcase with ⟨hc1,hc0⟩ | hc1
 case' inl =>
  subst hc1 hc0
  obtain ⟨hsrc,hof,hsc⟩:=HS.out
  simp only [if_true] at hof
  subst hof hsc
  have HS2:=hide hsrc
  clear hsrc HS HSRC
  go_wp2_with (at_builtin;refine wpList_app2 _ rfl _ _ 30 rfl B 3 i2 _ 1 8 Tryz.underlying30 hi2 hy0 hy1 hy2 rfl (by decide) (.slice none 0 0) 0 [] rfl (World.ownsRow_nil _ _ _ _) _ 0 (flat int64s (stkZ l)) rfl HS2.out (flat_int64s_one _) ?h63 ?hbytes ?hbase ?_)
 case' inr =>
  obtain ⟨hsrc,hof,hsc⟩:=HS.out
  rw [if_neg hc1] at hof
  subst hof hsc
  have HS2:=hide hsrc
  clear hsrc HS HSRC
  go_wp2_with (at_builtin;refine wpList_app2 _ rfl _ _ 30 rfl B 3 i2 _ 1 8 Tryz.underlying30 hi2 hy0 hy1 hy2 rfl (by decide) (.slice none 0 0) 0 [] rfl (World.ownsRow_nil _ _ _ _) _ m (flat int64s (stkZ l)) rfl HS2.out (flat_int64s_one _) ?h63b ?hbytesb ?hbaseb ?_)
 all_goals try (first | exact hBV | omega | (unfold maxLen;omega))
 all_goals
  intro a7 c7 w7 ho7 hg7 _ hl7 _
  have hb7 : Below V3.heap.size V3 w7:=(Below.refl _ V3).grown hg7 (Nat.le_refl _) (fun q hq=>by simp [Value.ownBlock] at hq)
  have h7:=HH3.out.below hb7
  have ho8 : w7.ownsRow B 3 1 (.slice a7 l.length c7) l.length (flat int64s (stkZ l)):=by
   rw [HM.out]
   simpa using ho7
  have hfresh : ∀ b,b < V3.heap.size → (Value.slice a7 l.length c7).ownBlock ≠ some b:=fun b hb e=>by
   have e' : (Value.slice a7 l.length c7).ownBlock = none ∨ (Value.slice a7 l.length c7).ownBlock = some V3.heap.size:=by
    rw [HM.out]
    simpa [Value.ownBlock] using hl7
   rcases e' with e' | e'
   ·rw [e'] at e;cases e
   ·rw [e'] at e;injection e with e;omega
  have h8:=h7.setStk hv ho8 (fun j v' b _ hv' hb=>hfresh b ((HH3.out.row j v' hv').lt b hb).2) (hfresh gH (Array.getElem?_eq_some_iff.1 HH3.out.hd).1)
  rw [HM.out] at h8
  obtain ⟨_,_,_,p33,_,_,_,_,_⟩:=h7.own
  have pz3:=h7.stz v
  obtain ⟨_,_,_,_,_,ps3,_⟩:=h7.stc hv
  have HH8:=hide h8
  clear ho7 hg7 hl7 h7 ho8 hfresh h8 p3 ps
  go_wp2
  rename_i K0 hK0
  obtain ⟨_,k1,k2,_,_,_,_,_,_⟩:=HH8.out.own
  have kc:=HH8.out.hdc hw
  have hhand : handZ (((s.hand w (some q)).stk v l).w w) = (q : Int):=by
   have hwl : w < s.ws.length:=by have:=HH3.out.wl;rw [St.hand_wlen] at this;omega
   have e1 : ((s.hand w (some q)).w w).hand = some q:=by rw [St.w_hand s _ hwl w,if_pos rfl]
   have e2 : (((s.hand w (some q)).stk v l).w w).hand = some q:=by
    have hvl : v < (s.hand w (some q)).ws.length:=by have:=HH3.out.wl;omega
    rw [St.w_stk _ _ hvl w]
    by_cases e : w = v
    ·rw [if_pos e,← e];exact e1
    ·rw [if_neg e];exact e1
   unfold handZ
   rw [e2]
  rw [hhand] at kc
  have htq : ((s.hand w (some q)).stk v l).t q = s.t q:=rfl
  have ko:=HH8.out.frc (i:=q) hql (j:=7) (v:=.int .i64 (s.t q).out) (by rw [htq];simp [frV])
  have kz:=HH8.out.frz (q * 9 + 7)
  have hqi : (q : Int) < (s.ts.length : Int):=by omega
  have hs9 : Suf fs { s.t q with out:=(s.t q).out + 1 }:=HH8.out.suf (s.t q) (St.t_mem hql)
  have hts : ((s.hand w (some q)).stk v l).ts.length = s.ts.length:=rfl
  rw [hts] at k1
  have H9 : Hid (∀ (X : World) (us' : List Value) (n : Nat),PlayM fs w0 X B rb yb g gH gS k cap ((s.hand w (some q)).stk v l) tv us' tr (n0 + 1) (n1 + 1) n2 false → PlayM fs w0 ((X.drewN n).setCell ⟨g,q * 9 + 7,none⟩ (.int .i64 ((s.t q).out + 1))) B rb yb g gH gS k cap (((s.hand w (some q)).stk v l).putT q { s.t q with out:=(s.t q).out + 1 }) tv us' tr (n0 + 1) (n1 + 1) n2 false):=fun X us' n hX=>(hX.below (W':=X.drewN n) (below_drewN (Below.refl _ _) n)).setFrame (i:=q) hql (by omega) (by rw [htq];simp [frV,nextOf,bodyOf,fromZ,calledB]) hs9
  obtain ⟨o,hoe⟩ : ∃ o,(s.t q).out = o:=⟨_,rfl⟩
  obtain ⟨n,hne⟩ : ∃ n,s.ts.length = n:=⟨_,rfl⟩
  rw [hoe] at ko ho1 ho2 H9
  rw [hne] at k1 hqi
  obtain ⟨V5,us5,hV5,h5⟩ : ∃ V5 us5,V5 = _ ∧ PlayM fs w0 V5 B rb yb g gH gS k cap ((s.hand w (some q)).stk v l) tv us5 tr (n0 + 1) (n1 + 1) n2 false:=⟨_,_,rfl,HH8.out⟩
  rw [← hV5] at k1 k2 kc ko kz ⊢
  have H5:=hide h5
  clear hhand htq hs9 hts p33 pz3 ps3 hV5 h5 HH8 HH3 HH2 hb7
  refine (wpIn_wide (n:=9)).1 ?_
  refine region_split (F:=FW) (C:=fun w'=>∃ n,w' = V5.drewN n) (ro:=none) (k:=17) (r:=1) hmix rfl (by kernel_rfl) (by kernel_rfl) ⟨1,rfl⟩ ?_
  simp only [List.take_succ_cons,List.take_zero]
  repeat (gi_big_quiet_step (fail))
  refine wpQuietIn_nil ?_
  rintro _ ⟨nr,rfl⟩
  refine wpAnyIn_ready (rs:=[17]) (by kernel_rfl) (by simp) ?_
  refine AllReadyIn.cons rfl (fun KK hKK=>?_) AllReadyIn.nil
  go_simp
  refine hKK _ _ ?_
  clear hKK KK
  refine wpAnyIn_done (by kernel_rfl) ?_ _
  refine hK0 _ _ ?_
  clear hK0 K0
  go_wp2
  refine bodyPost_ret (results_none rfl _ _ _) rfl ?_
  exact ⟨rfl,_,H9.out _ _ _ H5.out⟩
end
end Go.Proofs.YtkmakliebhnhbaaGreat
namespace Go.Proofs.YtkmakliebhnhbaaGreat
open Go.RowKit Go.Shelf
theorem cell_al {w : World} {a : Addr} {v : Value} (h : w.cell? a = some v) (o : Obj) : (w.alloc o).cell? a = some v:=(World.cell?_of_block (w:=w) (a:=a) (Below.heap_alloc _ _ _ (block_lt_of_cell h))).trans h
theorem ref_fn {S : Nat → Prop} {w0 W : World} {rb B : Nat} {fs : List (List Ins)} {reds : List Int} (h : RefP S w0 (.pointer (some ⟨rb,0,none⟩)) fs reds) (hb : Below B w0 W) (hB : w0.heap.size ≤ B) {f : Nat} {l : List Ins} (hl : fs[f]? = some l) :
  ∃ fa nf fc fb fo x xc,W.cell? ⟨rb,0,none⟩ = some (.slice (some fa) nf fc) ∧ fa = ⟨fb,fo,none⟩ ∧ f < nf ∧ nf ≤ 9223372036854775807 ∧ W.cell? ⟨fb,fo + f,none⟩ = some (.slice x l.length xc) ∧ l.length ≤ 9223372036854775807 ∧ RdL S W 5 Ins.vals (.slice x l.length xc) l:=by
 have h' : RefP S W (.pointer (some ⟨rb,0,none⟩)) fs reds:=h.turn (fun b hb' hlt=>⟨hb',hb.block b (by omega)⟩)
 obtain ⟨_,vf,vr,he,_,c0,_,⟨us,hul,hu,hfs⟩,_⟩:=h'
 cases he
 obtain ⟨a',cap,rfl,hc,hm⟩:=hu.form
 have hfl:=(List.getElem?_eq_some_iff.1 hl).1
 obtain ⟨u,huf⟩ : ∃ u,us[f]? = some u:=⟨us[f]'(by omega),by simp⟩
 have hx:=hfs f u l huf hl
 obtain ⟨x,xc,rfl,hxc,hxm⟩:=hx.form
 obtain ⟨b,off,rfl,_,hcu⟩:=hu.at huf
 have h0:=hcu 0 _ rfl
 simp only [Nat.mul_one,Nat.add_zero] at h0
 unfold maxLen at hm hxm
 exact ⟨_,us.length,cap,b,off,x,xc,c0,rfl,by omega,by omega,h0,by omega,hx⟩
section
variable {fs : List (List Ins)} {w0 W : World} {B rb yb g gH gS k cap : Nat} {s : St} {tv : Value} {us : List Value} {tr : List Ev} {n0 n1 n2 : Nat} {S : Nat → Prop} {reds : List Int}
theorem PlayM.nine (h : PlayM fs w0 W B rb yb g gH gS k cap s tv us tr n0 n1 n2 false) {a : Nat} (ha : a < s.ts.length) {t : Tk} (ht : s.t a = t) : W.cell? ⟨g,a * 9,none⟩ = some (.int .i64 (t.f : Int)) ∧ W.cell? ⟨g,a * 9 + 1,none⟩ = some (.int .i64 t.x) ∧ W.cell? ⟨g,a * 9 + 2,none⟩ = some (.int .i64 (nextOf fs t : Int)) ∧ W.cell? ⟨g,a * 9 + 3,none⟩ = some (.int .i64 t.r) ∧ W.cell? ⟨g,a * 9 + 4,none⟩ = some (.int .u64 t.h) ∧ W.cell? ⟨g,a * 9 + 5,none⟩ = some (.int .i64 (fromZ t)) ∧ W.cell? ⟨g,a * 9 + 6,none⟩ = some (.bool (calledB t)) ∧ W.cell? ⟨g,a * 9 + 7,none⟩ = some (.int .i64 t.out) ∧ W.cell? ⟨g,a * 9 + 8,none⟩ = some (.bool t.asd):=by
 subst ht
 exact ⟨h.frc ha (j:=0) rfl,h.frc ha (j:=1) rfl,h.frc ha (j:=2) rfl,h.frc ha (j:=3) rfl,h.frc ha (j:=4) rfl,h.frc ha (j:=5) rfl,h.frc ha (j:=6) rfl,h.frc ha (j:=7) rfl,h.frc ha (j:=8) rfl⟩
set_option maxHeartbeats 8000000 in
set_option maxRecDepth 100000 in
theorem step_aside (h : PlayM fs w0 W B rb yb g gH gS k cap s tv us tr n0 n1 n2 false) (hR : RefP S w0 (.pointer (some ⟨rb,0,none⟩)) fs reds) (hB : w0.heap.size ≤ B) {w v a : Nat} {t : Tk} (hw : w < k) (hn0 : n0 ≤ 1000000) (hh : (s.w w).hand = some a) (ha : a < s.ts.length) (ht : s.t a = t) (hf : t.f < fs.length) (ho : 0 < t.out)
  (hrem : t.rem = [] ∨ ∃ i r,t.rem = i :: r ∧ i.op = 5) :
  Calls Tryz.prog 62 #[.pointer (some ⟨yb,0,none⟩),.int .i64 (w : Int),.int .i64 (v : Int)] W fun e w'=>e = .returned (.tuple #[]) ∧ PlayM fs w0 w' B rb yb g gH gS k cap ((s.putT a { t with asd:=true }).hand w none) tv us tr (n0 + 1) n1 n2 false:=by
 have h1:=h.setOwn (i:=5) (v:=.int .i64 ((n0 : Int) + 1)) (m0:=n0 + 1) (m1:=n1) (m2:=n2) (d':=false) rfl
 obtain ⟨_,_,_,_,_,c5,_,_,_⟩:=h.own
 have z5:=h.ofz 5
 obtain ⟨e0,e1,e2,_,_,_,_,_,_⟩:=h1.own
 have hc:=h1.hdc hw
 have hz : handZ (s.w w) = (a : Int):=by unfold handZ;rw [hh]
 rw [hz] at hc
 obtain ⟨f0,f1,f2,f3,f4,f5,f6,f7,f8⟩:=h1.nine ha ht
 obtain ⟨l,hl⟩ : ∃ l,fs[t.f]? = some l:=⟨_,List.getElem?_eq_getElem hf⟩
 obtain ⟨hsuf,hnx⟩:=(h.suf t (by rw [← ht];exact St.t_mem ha)).next
 have hbody : bodyOf fs t = l:=by unfold bodyOf;rw [hl];rfl
 rw [hbody] at hsuf hnx
 obtain ⟨_,nf,fc,fb,fo,x,xc,r0,rfl,hfn,hnf,r1,hl64,hX⟩:=ref_fn hR h1.bel hB hl
 have hwi : (w : Int) < (k : Int):=by omega
 have hai : (a : Int) < (s.ts.length : Int):=by omega
 have ha0 : ¬ (a : Int) < 0:=by omega
 have hfi : (t.f : Int) < (nf : Int):=by omega
 have H1:=hide h1
 have HX:=hide hX
 have HT:=hide ht
 have HSUF:=hide hsuf
 have HREM:=hide hrem
 obtain ⟨nx,hnxe⟩ : ∃ nx,nextOf fs t = nx:=⟨_,rfl⟩
 obtain ⟨ll,hll⟩ : ∃ ll,l.length = ll:=⟨_,rfl⟩
 obtain ⟨n,hne⟩ : ∃ n,s.ts.length = n:=⟨_,rfl⟩
 rw [hnxe] at f2 hnx HSUF
 rw [hll] at r1 hl64 hnx HX
 rw [hne] at e1 hai
 have HLL:=hide hll
 clear h h1 hR hX ht hsuf hrem hl hz hbody hnxe hll
 have ha' : a < s.ts.length:=ha
 have HA:=hide ha'
 clear ha ha' hne
 have e0':=cell_al e0
 have r0':=cell_al r0
 have r1':=cell_al r1
 go_enter Tryz.func62,Tryz.ntmps62
 go_wp2
 go_quiet (fail)
 obtain ⟨V,hV⟩ : ∃ V,((W.setCell ⟨yb,5,none⟩ (.int .i64 ((n0 : Int) + 1))).alloc (.cells #[.int .i64 (t.f : Int),.int .i64 t.x,.int .i64 (nx : Int),.int .i64 t.r,.int .u64 t.h,.int .i64 (fromZ t),.bool (calledB t),.int .i64 t.out,.bool t.asd] 143)).drewN nq = V:=⟨_,rfl⟩
 have hsz : (W.setCell ⟨yb,5,none⟩ (.int .i64 ((n0 : Int) + 1))).heap.size = W.heap.size:=by simp [World.setCell]
 have hbx : V.heap[W.heap.size]? = some (.cells #[.int .i64 (t.f : Int),.int .i64 t.x,.int .i64 (nx : Int),.int .i64 t.r,.int .u64 t.h,.int .i64 (fromZ t),.bool (calledB t),.int .i64 t.out,.bool t.asd] 143 (0,0)):=by
  rw [← hV,← hsz]
  exact heap_new (W.setCell ⟨yb,5,none⟩ (.int .i64 ((n0 : Int) + 1))) _
 have hbV : Below (W.setCell ⟨yb,5,none⟩ (.int .i64 ((n0 : Int) + 1))).heap.size (W.setCell ⟨yb,5,none⟩ (.int .i64 ((n0 : Int) + 1))) V:=by
  rw [← hV]
  exact below_drewN ((Below.refl _ _).alloc (Nat.le_refl _) _) nq
 rw [hV]
 have h2:=H1.out.below hbV
 have HX2:=hide (HX.out.below hbV (fun x _=>List.cons_ne_nil _ _))
 have b0:=blk_cell (i:=0) hbx rfl
 have b1:=blk_cell (i:=1) hbx rfl
 have b2:=blk_cell (i:=2) hbx rfl
 have b3:=blk_cell (i:=3) hbx rfl
 have b4:=blk_cell (i:=4) hbx rfl
 have b7:=blk_cell (i:=7) hbx rfl
 obtain ⟨_,g1,g2,_,_,_,_,_,_⟩:=h2.own
 have q8:=(h2.nine HA.out HT.out).2.2.2.2.2.2.2.2
 have qz:=h2.frz (a * 9 + 8)
 have h3:=h2.setFrame (i:=a) HA.out (t':={ t with asd:=true }) (j:=8) (v:=.bool true) (by omega) (by rw [HT.out];simp [frV,nextOf,bodyOf,fromZ,calledB]) (h2.suf t (by rw [← HT.out];exact St.t_mem HA.out))
 obtain ⟨_,_,k2,_,_,_,_,_,_⟩:=h3.own
 have kc:=h3.hdc hw
 have kz:=h3.hdz w
 have H4:=hide (h3.setHand hw none (z:=-1) rfl)
 have hog : (0 : Int) < t.out:=ho
 rcases HREM.out with hr | ⟨i,r,hr,hi5⟩
 ·have hnl : nx = ll:=by
   have:=HSUF.out
   rw [hr] at this
   have h':=congrArg List.length this
   rw [List.length_drop,List.length_nil,HLL.out] at h'
   omega
  subst hnl
  clear h2 h3 hV hbx hbV hsz e0 e1 e2 hc f0 f1 f2 f3 f4 f5 f6 f7 f8 r0 r1 e0' r0' r1' c5 z5 H1 HX HX2
  go_wp2
  refine bodyPost_ret (results_none rfl _ _ _) rfl ?_
  exact ⟨rfl,H4.out⟩
 ·have hli : l[nx]? = some i:=by
   have h':=congrArg (fun z=>z[0]?) HSUF.out
   rw [hr] at h'
   simp at h'
   exact h'.symm
  have hnl : nx < ll:=by have:=(List.getElem?_eq_some_iff.1 hli).1;rw [HLL.out] at this;exact this
  have hni : (nx : Int) < (ll : Int):=by omega
  have hne1 : ((nx : Int) == (ll : Int)) = false:=by simp;omega
  have hne2 : ¬ (nx : Int) = (ll : Int):=by omega
  have hne3 : decide ((nx : Int) = (ll : Int)) = false:=by simp;omega
  obtain ⟨ib,io,rfl,_,i0,_,_,_,_⟩:=HX2.out.ins hli
  rw [hi5] at i0
  clear h2 h3 hV hbx hbV hsz e0 e1 e2 hc f0 f1 f2 f3 f4 f5 f6 f7 f8 r0 r1 e0' r0' r1' c5 z5 H1 HX HX2
  go_wp2
  refine bodyPost_ret (results_none rfl _ _ _) rfl ?_
  exact ⟨rfl,H4.out⟩
set_option maxHeartbeats 8000000 in
set_option maxRecDepth 100000 in
theorem step_over (h : PlayM fs w0 W B rb yb g gH gS k cap s tv us tr n0 n1 n2 false) (hR : RefP S w0 (.pointer (some ⟨rb,0,none⟩)) fs reds) (hB : w0.heap.size ≤ B) {w v a : Nat} {t : Tk} (hw : w < k) (hn0 : n0 ≤ 1000000) (hh : (s.w w).hand = some a) (ha : a < s.ts.length) (ht : s.t a = t) (hf : t.f < fs.length) (ho : t.out = 0) (hrem : t.rem = []) (R : World → Prop)
  (hE : ∀ X,PlayM fs w0 X B rb yb g gH gS k cap s tv us tr (n0 + 1) n1 n2 false → Calls Tryz.prog 80 #[.pointer (some ⟨yb,0,none⟩),.int .i64 (w : Int),.int .i64 (a : Int)] X fun e w'=>e = .returned (.tuple #[]) ∧ R w') :
  Calls Tryz.prog 62 #[.pointer (some ⟨yb,0,none⟩),.int .i64 (w : Int),.int .i64 (v : Int)] W fun e w'=>e = .returned (.tuple #[]) ∧ R w':=by
 have HE:=hide hE
 have HO:=hide ho
 clear hE ho
 have h1:=h.setOwn (i:=5) (v:=.int .i64 ((n0 : Int) + 1)) (m0:=n0 + 1) (m1:=n1) (m2:=n2) (d':=false) rfl
 obtain ⟨_,_,_,_,_,c5,_,_,_⟩:=h.own
 have z5:=h.ofz 5
 obtain ⟨e0,e1,e2,_,_,_,_,_,_⟩:=h1.own
 have hc:=h1.hdc hw
 have hz : handZ (s.w w) = (a : Int):=by unfold handZ;rw [hh]
 rw [hz] at hc
 obtain ⟨f0,f1,f2,f3,f4,f5,f6,f7,f8⟩:=h1.nine ha ht
 obtain ⟨l,hl⟩ : ∃ l,fs[t.f]? = some l:=⟨_,List.getElem?_eq_getElem hf⟩
 obtain ⟨hsuf,hnx⟩:=(h.suf t (by rw [← ht];exact St.t_mem ha)).next
 have hbody : bodyOf fs t = l:=by unfold bodyOf;rw [hl];rfl
 rw [hbody] at hsuf hnx
 obtain ⟨_,nf,fc,fb,fo,x,xc,r0,rfl,hfn,hnf,r1,hl64,hX⟩:=ref_fn hR h1.bel hB hl
 have hwi : (w : Int) < (k : Int):=by omega
 have hai : (a : Int) < (s.ts.length : Int):=by omega
 have ha0 : ¬ (a : Int) < 0:=by omega
 have hfi : (t.f : Int) < (nf : Int):=by omega
 have H1:=hide h1
 have HX:=hide hX
 have HT:=hide ht
 have HSUF:=hide hsuf
 have HREM:=hide hrem
 obtain ⟨nx,hnxe⟩ : ∃ nx,nextOf fs t = nx:=⟨_,rfl⟩
 obtain ⟨ll,hll⟩ : ∃ ll,l.length = ll:=⟨_,rfl⟩
 obtain ⟨n,hne⟩ : ∃ n,s.ts.length = n:=⟨_,rfl⟩
 rw [hnxe] at f2 hnx HSUF
 rw [hll] at r1 hl64 hnx HX
 rw [hne] at e1 hai
 have HLL:=hide hll
 clear h h1 hR hX ht hsuf hrem hl hz hbody hnxe hll
 have ha' : a < s.ts.length:=ha
 have HA:=hide ha'
 clear ha ha' hne
 have e0':=cell_al e0
 have r0':=cell_al r0
 have r1':=cell_al r1
 go_enter Tryz.func62,Tryz.ntmps62
 go_wp2
 go_quiet (fail)
 obtain ⟨V,hV⟩ : ∃ V,((W.setCell ⟨yb,5,none⟩ (.int .i64 ((n0 : Int) + 1))).alloc (.cells #[.int .i64 (t.f : Int),.int .i64 t.x,.int .i64 (nx : Int),.int .i64 t.r,.int .u64 t.h,.int .i64 (fromZ t),.bool (calledB t),.int .i64 t.out,.bool t.asd] 143)).drewN nq = V:=⟨_,rfl⟩
 have hsz : (W.setCell ⟨yb,5,none⟩ (.int .i64 ((n0 : Int) + 1))).heap.size = W.heap.size:=by simp [World.setCell]
 have hbx : V.heap[W.heap.size]? = some (.cells #[.int .i64 (t.f : Int),.int .i64 t.x,.int .i64 (nx : Int),.int .i64 t.r,.int .u64 t.h,.int .i64 (fromZ t),.bool (calledB t),.int .i64 t.out,.bool t.asd] 143 (0,0)):=by
  rw [← hV,← hsz]
  exact heap_new (W.setCell ⟨yb,5,none⟩ (.int .i64 ((n0 : Int) + 1))) _
 have hbV : Below (W.setCell ⟨yb,5,none⟩ (.int .i64 ((n0 : Int) + 1))).heap.size (W.setCell ⟨yb,5,none⟩ (.int .i64 ((n0 : Int) + 1))) V:=by
  rw [← hV]
  exact below_drewN ((Below.refl _ _).alloc (Nat.le_refl _) _) nq
 rw [hV]
 have h2:=H1.out.below hbV
 have HX2:=hide (HX.out.below hbV (fun x _=>List.cons_ne_nil _ _))
 have b0:=blk_cell (i:=0) hbx rfl
 have b1:=blk_cell (i:=1) hbx rfl
 have b2:=blk_cell (i:=2) hbx rfl
 have b3:=blk_cell (i:=3) hbx rfl
 have b4:=blk_cell (i:=4) hbx rfl
 have b7:=blk_cell (i:=7) hbx rfl
 obtain ⟨_,g1,g2,_,_,_,_,_,_⟩:=h2.own
 have hnl : nx = ll:=by
  have:=HSUF.out
  rw [HREM.out] at this
  have h':=congrArg List.length this
  rw [List.length_drop,List.length_nil,HLL.out] at h'
  omega
 subst hnl
 have H2:=hide h2
 rw [HO.out] at b7
 clear h2 hV hbx hbV hsz e0 e1 e2 hc f0 f1 f2 f3 f4 f5 f6 f7 f8 r0 r1 e0' r0' r1' c5 z5 H1 HX HX2
 go_wp2_with (go_at_call 80;refine (HE.out _ H2.out).mono ?_;rintro e w9 ⟨rfl,hR9⟩)
 refine bodyPost_ret (results_none rfl _ _ _) rfl ?_
 exact ⟨rfl,hR9⟩
end
end Go.Proofs.YtkmakliebhnhbaaGreat
