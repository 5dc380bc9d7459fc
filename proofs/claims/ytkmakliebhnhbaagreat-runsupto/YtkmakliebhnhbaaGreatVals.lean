import Derived.Deep.AppendLies
import Derived.Test.YtkmakliebhnhbaaGreatSer
namespace Go.Proofs.YtkmakliebhnhbaaGreat
open Go.RowKit
def AppSrc (w : World) (size : Nat) (xv : Value) (m : Nat) (news : List Value) : Prop :=
 (xv = .slice none 0 0 ∧ m = 0 ∧ news = []) ∨ ∃ ad c,xv = .slice (some ad) m c ∧ news.length = m * size ∧ ∀ j u,news[j]? = some u → w.cell? (ad.add j) = some u
theorem AppSrc.len {w : World} {size : Nat} {xv : Value} {m : Nat} {news : List Value} (h : AppSrc w size xv m news) : news.length = m * size:=by
 rcases h with ⟨_,rfl,rfl⟩ | ⟨_,_,_,h,_⟩
 ·simp
 ·exact h
theorem own_form {w : World} {base : Nat} {e : TypeId} {size : Nat} {v : Value} {n : Nat} {xs : List Value} (h : w.ownsRow base e size v n xs) : ∃ a cap,v = .slice a n cap:=by
 rcases h.2 with ⟨hv,h0⟩ | ⟨g,c,_,hv,_⟩
 ·exact ⟨none,0,by rw [hv,h0]⟩
 ·exact ⟨_,_,hv⟩
theorem own_below {w w' : World} {base : Nat} {e : TypeId} {size : Nat} {v : Value} {n : Nat} {xs : List Value} (h : w.ownsRow base e size v n xs) (hb : Below w.heap.size w w') : w'.ownsRow base e size v n xs:=by
 refine ⟨h.1,?_⟩
 rcases h.2 with hn | ⟨g,cap,cur,rfl,hb',hg,rest⟩
 ·exact .inl hn
 ·exact .inr ⟨g,cap,cur,rfl,hb',(hb.block g (Array.getElem?_eq_some_iff.1 hg).1).trans hg,rest⟩
theorem own_base {w : World} {base base' : Nat} {e : TypeId} {size : Nat} {v : Value} {n : Nat} {xs : List Value} (h : w.ownsRow base e size v n xs) (hb : base' ≤ base) : w.ownsRow base' e size v n xs:=by
 refine ⟨h.1,?_⟩
 rcases h.2 with hn | ⟨g,cap,cur,rfl,hb',rest⟩
 ·exact .inl hn
 ·exact .inr ⟨g,cap,cur,rfl,by omega,rest⟩
theorem own_src {w : World} {base : Nat} {e : TypeId} {size : Nat} {v : Value} {n : Nat} {xs : List Value} (h : w.ownsRow base e size v n xs) : AppSrc w size v n xs:=by
 rcases h.2 with ⟨rfl,rfl⟩ | ⟨g,cap,cur,rfl,hb',rest⟩
 ·exact .inl ⟨rfl,rfl,List.eq_nil_of_length_eq_zero (by simpa using h.1)⟩
 ·exact .inr ⟨_,_,rfl,h.1,h.cells (g:=g) rfl⟩
theorem heap_new (W : World) (o : Obj) : (W.alloc o).heap[W.heap.size]? = some o:=by
 show (W.heap.push o)[W.heap.size]? = _
 rw [Array.getElem?_push,if_pos rfl]
theorem cells1 (W : World) (a : Value) (t : TypeId) (H : Nat) (hH : W.heap.size = H) : AppSrc (W.alloc (.cells #[a] t)) 1 (.slice (some ⟨H,0,none⟩) 1 1) 1 [a] :=
 .inr ⟨_,_,rfl,rfl,by subst hH;exact World.news_of_block (cs:=#[a]) (fr:=(0,0)) (heap_new W _)⟩
theorem cells3 (W : World) (a b c : Value) (t : TypeId) (H : Nat) (hH : W.heap.size = H) : AppSrc (W.alloc (.cells #[a,b,c] t)) 3 (.slice (some ⟨H,0,none⟩) 1 1) 1 [a,b,c] :=
 .inr ⟨_,_,rfl,rfl,by subst hH;exact World.news_of_block (cs:=#[a,b,c]) (fr:=(0,0)) (heap_new W _)⟩
def AppWay (w w' : World) (v : Value) (n : Nat) (a' : Option Addr) (cap' : Nat) : Prop:=(∃ g,v = .slice (some ⟨g,0,none⟩) n cap' ∧ a' = some ⟨g,0,none⟩) ∨ ∀ k,k < w.heap.size → w'.heap[k]? = w.heap[k]?
section
variable {P : Program} (w : World)
theorem ownsRow_setRow_app {w : World} {base : Nat} {e : TypeId} {size g n cap : Nat} {cur : Array Value} {xs news : List Value} (hbg : base ≤ g) (hg : w.heap[g]? = some (.cells cur e (0,0))) (hcm : cap ≤ maxLen) (hcs : cur.size = cap * size)
  (hx : xs.length = n * size) (htake : cur.toList.take (n * size) = xs) (m : Nat) (hl : news.length = m * size) (hroom : n + m ≤ cap) :
  (w.setRow g (cur.toList.take (n * size) ++ news ++ cur.toList.drop (n * size + news.length)).toArray).ownsRow base e size (.slice (some ⟨g,0,none⟩) (n + m) cap) (n + m) (xs ++ news) ∧
  (w.setRow g (cur.toList.take (n * size) ++ news ++ cur.toList.drop (n * size + news.length)).toArray).ownsRow base e size (.slice (some ⟨g,0,none⟩) n cap) n xs:=by
 have hsz : (cur.toList.take (n * size) ++ news ++ cur.toList.drop (n * size + news.length)).toArray.size = cap * size:=by
  have : (n + m) * size ≤ cap * size:=Nat.mul_le_mul_right _ hroom
  rw [Nat.add_mul] at this
  simp only [List.size_toArray,List.length_append,List.length_take,List.length_drop,Array.length_toList]
  omega
 have hg':=setRow_heap w g cur (cur.toList.take (n * size) ++ news ++ cur.toList.drop (n * size + news.length)).toArray e (0,0) hg
 refine ⟨⟨by rw [List.length_append,hx,hl,Nat.add_mul],.inr ⟨g,cap,_,rfl,hbg,hg',hroom,hcm,hsz,?_⟩⟩,⟨hx,.inr ⟨g,cap,_,rfl,hbg,hg',by omega,hcm,hsz,?_⟩⟩⟩
 ·rw [htake]
  have : (xs ++ news).length = (n + m) * size:=by rw [List.length_append,hx,hl,Nat.add_mul]
  rw [← this]
  exact List.take_left
 ·rw [htake,← hx]
  simp only [List.append_assoc]
  exact List.take_left
theorem run_app2 (base : Nat) (t ty e : TypeId) (i : TypeInfo) (z : Value) (size bytes : Nat) (ht : P.underlying t = some (.slice e)) (hi : P.info? e = some i) (hz : i.zero = some z)
  (hsize : i.size = size) (hby : i.bytes = bytes) (hzs : z.cells.size = size) (hsz : 0 < size)
  (v : Value) (n : Nat) (xs : List Value) (hown : w.ownsRow base e size v n xs)
  (xv : Value) (m : Nat) (news : List Value) (hsrc : AppSrc w size xv m news) (h1 : ∀ u ∈ news,u.oneCell' = true)
  (h63 : n + m ≤ maxLen) (hbytes : (n + m) * bytes ≤ 140737488355328) (hbase : base ≤ w.heap.size) :
  ∃ a' cap' w',(Builtin.append_ #[t,t] ty #[v,xv]).run P w = .ok (.slice a' (n + m) cap') w' ∧ w'.ownsRow base e size (.slice a' (n + m) cap') (n + m) (xs ++ news) ∧ w.grownBy w' v.ownBlock ∧ w'.ownsRow base e size v n xs ∧
   ((Value.slice a' (n + m) cap').ownBlock = v.ownBlock ∨ (Value.slice a' (n + m) cap').ownBlock = some w.heap.size) ∧ AppWay w w' v n a' cap':=by
 rcases hsrc with ⟨rfl,rfl,rfl⟩ | ⟨ad,c,rfl,hl,hnews⟩
 ·have hr:=run_append_owned_none (P:=P) w base t ty e i size ht hi v n xs hown
  rcases hown.2 with ⟨rfl,rfl⟩ | ⟨g,cap,cur,rfl,_⟩
  ·exact ⟨none,0,w,hr,by simpa using hown,World.grownBy.refl _ _,hown,.inl rfl,.inr fun _ _=>rfl⟩
  ·exact ⟨some ⟨g,0,none⟩,cap,w,hr,by simpa using hown,World.grownBy.refl _ _,hown,.inl rfl,.inr fun _ _=>rfl⟩
 ·rcases Nat.eq_zero_or_pos m with rfl | hm
  ·
   obtain rfl : news = []:=List.eq_nil_of_length_eq_zero (by simpa using hl)
   obtain ⟨v',w',hr,h2,h3,h4⟩:=run_append_own (P:=P) w base t ty e i z size bytes ht hi hz hsize hby hzs hsz v n xs hown ad 0 c [] hl hnews h1 h63 hbytes hbase
   rcases hown.2 with ⟨rfl,rfl⟩ | ⟨g,cap,cur,rfl,hbg,hg,hnc,hcm,hcs,htake⟩
   ·obtain rfl:=h4.2 ⟨rfl,rfl⟩
    exact ⟨none,0,w',hr,h2,h3,⟨hown.1,.inl ⟨rfl,rfl⟩⟩,.inl rfl,.inr fun k hk=>h3.block k hk (by simp [Value.ownBlock])⟩
   ·subst hsize
    have hr':=run_append_room (P:=P) w t ty e i ht hi g n cap cur hg ad 0 c [] hl hnews h1 (by simpa using hnc) (by rw [hcs];simpa using Nat.mul_le_mul_right _ hnc)
    have hh:=ownsRow_setRow_app (news:=[]) hbg hg hcm hcs hown.1 htake 0 (by simp) (by simpa using hnc)
    exact ⟨_,_,_,hr',hh.1,⟨rfl,rfl,rfl,by simp,fun k _ hk=>setRow_other w g k _ (fun e=>hk (by simp [Value.ownBlock,e]))⟩,hh.2,.inl rfl,.inl ⟨g,rfl,rfl⟩⟩
  ·subst hsize
   subst hby
   have hsmall : n + m ≤ 9223372036854775807:=by simp only [maxLen] at h63;omega
   rcases hown.2 with ⟨rfl,rfl⟩ | ⟨g,cap,cur,rfl,hbg,hg,hnc,hcm,hcs,htake⟩
   ·obtain ⟨g',cap',w',hr,h2,h3,h4,h5⟩:=run_append_lies (P:=P) w t ty base e i z i.size i.bytes ht hi hz rfl rfl hzs hsz _ 0 xs hown ad m c news hl hnews h1 hm h63 hbytes hbase w.heap.size rfl
    refine ⟨_,_,w',hr,h2,h3,⟨hown.1,.inl ⟨rfl,rfl⟩⟩,?_,.inr fun k hk=>h3.block k hk (by simp [Value.ownBlock])⟩
    rcases h4 with h4 | h4
    ·cases h4
    ·exact .inr (by simp [Value.ownBlock,h4])
   ·by_cases hroom : n + m ≤ cap
    ·have hfit : n * i.size + news.length ≤ cur.size:=by rw [hl,hcs,← Nat.add_mul];exact Nat.mul_le_mul_right _ hroom
     have hr:=run_append_room (P:=P) w t ty e i ht hi g n cap cur hg ad m c news hl hnews h1 hroom hfit
     have hh:=ownsRow_setRow_app hbg hg hcm hcs hown.1 htake m hl hroom
     exact ⟨_,_,_,hr,hh.1,⟨rfl,rfl,rfl,by simp,fun k _ hk=>setRow_other w g k _ (fun e=>hk (by simp [Value.ownBlock,e]))⟩,hh.2,.inl rfl,.inl ⟨g,rfl,rfl⟩⟩
    ·have holds : ∀ j u,xs[j]? = some u → w.cell? ((⟨g,0,none⟩ : Addr).add j) = some u:=hown.cells (g:=g) rfl
     have hr:=run_append_grow (P:=P) w t ty e i z ht hi hz ⟨g,0,none⟩ n cap xs hown.1 holds ad m c news hl hnews (by omega) (by omega) (growslice_fits (by omega) hbytes)
     obtain ⟨g',cap',w',hr2,h2,h3,h4,h5⟩:=run_append_lies (P:=P) w t ty base e i z i.size i.bytes ht hi hz rfl rfl hzs hsz _ n xs hown ad m c news hl hnews h1 hm h63 hbytes hbase w.heap.size rfl
     rw [hr] at hr2
     injection hr2 with e1 e2
     injection e1 with e1 _ e3
     obtain rfl : g' = w.heap.size:=by injection e1 with e1;injection e1 with e1;exact e1.symm
     subst e3
     refine ⟨_,_,w',by rw [hr,e2],h2,h3,?_,.inr rfl,.inr fun k hk=>by rw [← e2];exact Below.heap_alloc w.drew _ k hk⟩
     rw [← e2]
     have hgn : w.grownBy (w.drew.alloc (.cells (xs.toArray ++ news.toArray ++ Builtin.zeroCells z.cells (grownCap w (n + m) cap e - (n + m))) e)) none :=
      ⟨rfl,rfl,rfl,by simp,fun k hk _=>Below.heap_alloc w.drew _ k hk⟩
     exact hown.kept hgn (.inr (by simp [Value.ownBlock]))
theorem wpList_app {ops : Array Oper} {rest : List Oper} {o : Oper} {a : Act} {Q : Exit → Act → World → Prop} (hgd : o.guard = none) (s x : Operand) (t : TypeId)
  (ho : o.op = .call { callee:=.builtin .append,args:=#[s,x],argTypes:=#[t,t] })
  (base : Nat) (e : TypeId) (i : TypeInfo) (z : Value) (size bytes : Nat) (ht : P.underlying t = some (.slice e)) (hi : P.info? e = some i) (hz : i.zero = some z)
  (hsize : i.size = size) (hby : i.bytes = bytes) (hzs : z.cells.size = size) (hsz : 0 < size)
  (v : Value) (n : Nat) (xs : List Value) (hs : a.eval s = v) (hown : w.ownsRow base e size v n xs)
  (xv : Value) (m : Nat) (news : List Value) (hx : a.eval x = xv) (hsrc : AppSrc w size xv m news) (h1 : ∀ u ∈ news,u.oneCell' = true)
  (h63 : n + m ≤ maxLen) (hbytes : (n + m) * bytes ≤ 140737488355328) (hbase : base ≤ w.heap.size)
  (h : ∀ a' cap' w',w'.ownsRow base e size (.slice a' (n + m) cap') (n + m) (xs ++ news) → w.grownBy w' v.ownBlock → w'.ownsRow base e size v n xs →
   ((Value.slice a' (n + m) cap').ownBlock = v.ownBlock ∨ (Value.slice a' (n + m) cap').ownBlock = some w.heap.size) → wpList P ops Q rest (a.put o.dst (.slice a' (n + m) cap')) w') : wpList P ops Q (o :: rest) a w:=by
 refine wpList_plain hgd fun K hK=>?_
 obtain ⟨a',cap',w',hr,h2,h3,h4,h5,_⟩:=run_app2 (P:=P) w base t o.type e i z size bytes ht hi hz hsize hby hzs hsz v n xs hown xv m news hsrc h1 h63 hbytes hbase
 unfold Oper.wp execOp
 simp only [ho,resolve,invoke,builtin,Sem.run_bind,Sem.run_pure,Result.andThen_ok,List.map_toArray,List.map_cons,List.map_nil,hs,hx,hr]
 exact hK _ _ (h a' cap' w' h2 h3 h4 h5)
theorem wpList_app2 {ops : Array Oper} {rest : List Oper} {o : Oper} {a : Act} {Q : Exit → Act → World → Prop} (hgd : o.guard = none) (s x : Operand) (t : TypeId)
  (ho : o.op = .call { callee:=.builtin .append,args:=#[s,x],argTypes:=#[t,t] })
  (base : Nat) (e : TypeId) (i : TypeInfo) (z : Value) (size bytes : Nat) (ht : P.underlying t = some (.slice e)) (hi : P.info? e = some i) (hz : i.zero = some z)
  (hsize : i.size = size) (hby : i.bytes = bytes) (hzs : z.cells.size = size) (hsz : 0 < size)
  (v : Value) (n : Nat) (xs : List Value) (hs : a.eval s = v) (hown : w.ownsRow base e size v n xs)
  (xv : Value) (m : Nat) (news : List Value) (hx : a.eval x = xv) (hsrc : AppSrc w size xv m news) (h1 : ∀ u ∈ news,u.oneCell' = true)
  (h63 : n + m ≤ maxLen) (hbytes : (n + m) * bytes ≤ 140737488355328) (hbase : base ≤ w.heap.size)
  (h : ∀ a' cap' w',w'.ownsRow base e size (.slice a' (n + m) cap') (n + m) (xs ++ news) → w.grownBy w' v.ownBlock → w'.ownsRow base e size v n xs →
   ((Value.slice a' (n + m) cap').ownBlock = v.ownBlock ∨ (Value.slice a' (n + m) cap').ownBlock = some w.heap.size) → AppWay w w' v n a' cap' → wpList P ops Q rest (a.put o.dst (.slice a' (n + m) cap')) w') : wpList P ops Q (o :: rest) a w:=by
 refine wpList_plain hgd fun K hK=>?_
 obtain ⟨a',cap',w',hr,h2,h3,h4,h5,h6⟩:=run_app2 (P:=P) w base t o.type e i z size bytes ht hi hz hsize hby hzs hsz v n xs hown xv m news hsrc h1 h63 hbytes hbase
 unfold Oper.wp execOp
 simp only [ho,resolve,invoke,builtin,Sem.run_bind,Sem.run_pure,Result.andThen_ok,List.map_toArray,List.map_cons,List.map_nil,hs,hx,hr]
 exact hK _ _ (h a' cap' w' h2 h3 h4 h5 h6)
theorem step_app2 {ops : Array Oper} {o : Oper} {a : Act} {K : Act → World → Prop} {Q : Exit → Act → World → Prop} {E : Prop} (hgd : o.guard = none) (s x : Operand) (t : TypeId)
  (ho : o.op = .call { callee:=.builtin .append,args:=#[s,x],argTypes:=#[t,t] })
  (base : Nat) (e : TypeId) (i : TypeInfo) (z : Value) (size bytes : Nat) (ht : P.underlying t = some (.slice e)) (hi : P.info? e = some i) (hz : i.zero = some z)
  (hsize : i.size = size) (hby : i.bytes = bytes) (hzs : z.cells.size = size) (hsz : 0 < size)
  (v : Value) (n : Nat) (xs : List Value) (hs : a.eval s = v) (hown : w.ownsRow base e size v n xs)
  (xv : Value) (m : Nat) (news : List Value) (hx : a.eval x = xv) (hsrc : AppSrc w size xv m news) (h1 : ∀ u ∈ news,u.oneCell' = true)
  (h63 : n + m ≤ maxLen) (hbytes : (n + m) * bytes ≤ 140737488355328) (hbase : base ≤ w.heap.size)
  (h : ∀ a' cap' w',w'.ownsRow base e size (.slice a' (n + m) cap') (n + m) (xs ++ news) → w.grownBy w' v.ownBlock → w'.ownsRow base e size v n xs →
   ((Value.slice a' (n + m) cap').ownBlock = v.ownBlock ∨ (Value.slice a' (n + m) cap').ownBlock = some w.heap.size) → AppWay w w' v n a' cap' → K (a.put o.dst (.slice a' (n + m) cap')) w') :
  if Region.wanted o (yielded ops a.tmps) = true then Oper.wp P o a w K Q else E:=by
 have hw : Region.wanted o (yielded ops a.tmps) = true:=by simp [Region.wanted,hgd]
 rw [if_pos hw]
 obtain ⟨a',cap',w',hr,h2,h3,h4,h5,h6⟩:=run_app2 (P:=P) w base t o.type e i z size bytes ht hi hz hsize hby hzs hsz v n xs hown xv m news hsrc h1 h63 hbytes hbase
 unfold Oper.wp execOp
 simp only [ho,resolve,invoke,builtin,Sem.run_bind,Sem.run_pure,Result.andThen_ok,List.map_toArray,List.map_cons,List.map_nil,hs,hx,hr]
 exact h a' cap' w' h2 h3 h4 h5 h6
end
theorem app_own {w w' : World} {base : Nat} {e : TypeId} {size : Nat} (hsz : 0 < size) {v x : Value} {n m j : Nat} {ys zs all : List Value} {a' : Option Addr} {cap' : Nat} (hv : w.ownsRow base e size v n ys) (hx : w.ownsRow base e size x j zs)
  (hv' : w'.ownsRow base e size (.slice a' (n + m) cap') (n + m) all) (hall : all.take (j * size) = zs)
  (hg : w.grownBy w' v.ownBlock) (hway : AppWay w w' v n a' cap') (hj : j ≤ n + m) : w'.ownsRow base e size x j zs:=by
 by_cases hb : x.ownBlock = v.ownBlock ∧ x.ownBlock ≠ none
 ·rcases hway with ⟨g,rfl,rfl⟩ | hway
  ·obtain ⟨hb,_⟩:=hb
   rcases hx.2 with ⟨rfl,rfl⟩ | ⟨gx,cx,cur,rfl,hbx,hgx,hnx,hcmx,hcsx,htx⟩
   ·simp [Value.ownBlock] at hb
   ·obtain rfl : gx = g:=by simpa [Value.ownBlock] using hb
    rcases hv.2 with ⟨h0,_⟩ | ⟨g2,c2,cur2,h0,hb2,hg2,hn2,hcm2,hcs2,ht2⟩
    ·cases h0
    ·cases h0
     rw [hgx] at hg2
     cases hg2
     have hcc : cx = cap':=Nat.eq_of_mul_eq_mul_right hsz (hcsx.symm.trans hcs2)
     subst hcc
     rcases hv'.2 with ⟨h0,_⟩ | ⟨g3,c3,cur3,h0,hb3,hg3,hn3,hcm3,hcs3,ht3⟩
     ·cases h0
     ·cases h0
      refine ⟨hx.1,.inr ⟨gx,cx,cur3,rfl,hb3,hg3,hnx,hcmx,hcs3,?_⟩⟩
      have hle : j * size ≤ (n + m) * size:=Nat.mul_le_mul_right _ hj
      have h1 : cur3.toList.take (j * size) = (cur3.toList.take ((n + m) * size)).take (j * size):=by rw [List.take_take,Nat.min_eq_left hle]
      rw [h1,ht3,hall]
  ·refine ⟨hx.1,?_⟩
   rcases hx.2 with hn | ⟨gx,cx,cur,rfl,hbx,hgx,rest⟩
   ·exact .inl hn
   ·exact .inr ⟨gx,cx,cur,rfl,hbx,(hway gx (Array.getElem?_eq_some_iff.1 hgx).1).trans hgx,rest⟩
 ·refine hx.kept hg ?_
  by_cases h0 : x.ownBlock = none
  ·exact .inl h0
  ·exact .inr (fun h=>hb ⟨h,h0⟩)
end Go.Proofs.YtkmakliebhnhbaaGreat
namespace Go.Proofs.YtkmakliebhnhbaaGreat
open Go.RowKit
structure Val where
 n : Int
 is : Bool
 l : List Int
def ints (l : List Int) : List Value:=l.map (Value.int .i64)
def giveZ (kind n : Int) (v : Val) : Val :=
 if kind = 1 then ⟨wrap64 (v.n + n),true,v.l⟩
 else if kind = 2 then ⟨if v.is = false ∨ v.n < n then n else v.n,true,v.l⟩
 else if kind = 3 then ⟨if v.is = false ∨ n < v.n then n else v.n,true,v.l⟩
 else if kind = 4 then ⟨v.n,true,v.l ++ [n]⟩
 else ⟨n,true,v.l⟩
def val0 : Val:=⟨0,false,[]⟩
def putZ (reds : List Int) (V : Nat → Val) (e : Ev) : Nat → Val:=fun r=>if r = e.r.toNat then giveZ (reds[r]?.getD 0) e.n (V r) else V r
def valsZ (reds : List Int) (evs : List Ev) : Nat → Val:=evs.foldl (putZ reds) (fun _=>val0)
theorem giveZ_len (kind n : Int) (v : Val) : (giveZ kind n v).l.length ≤ v.l.length + 1:=by
 unfold giveZ
 repeat' split
 all_goals simp
theorem valsZ_len (reds : List Int) (evs : List Ev) (r : Nat) : (valsZ reds evs r).l.length ≤ evs.length:=by
 suffices h : ∀ (evs : List Ev) (V : Nat → Val) (m : Nat),(∀ r,(V r).l.length ≤ m) → ∀ r,(evs.foldl (putZ reds) V r).l.length ≤ m + evs.length by
  have:=h evs (fun _=>val0) 0 (fun r=>by simp [val0]) r
  simpa [valsZ] using this
 intro evs
 induction evs with
 | nil=>intro V m h r;simpa using h r
 | cons e t ih =>
  intro V m h r
  have:=ih (putZ reds V e) (m + 1) (fun s=>by
   unfold putZ
   split
   ·have:=giveZ_len (reds[s]?.getD 0) e.n (V s);have:=h s;omega
   ·have:=h s;omega) r
  simp only [List.foldl_cons,List.length_cons]
  omega
theorem valsZ_take {reds : List Int} {evs : List Ev} {k : Nat} {e : Ev} (h : evs[k]? = some e) : valsZ reds (evs.take (k + 1)) = putZ reds (valsZ reds (evs.take k)) e:=by
 rw [take_succ_of h,valsZ,List.foldl_append];rfl
structure Gath (W : World) (base g nr : Nat) (tL : TypeId) (V : Nat → Val) (LV : Nat → Value) : Prop where
 lt : g < W.heap.size
 n : ∀ r,r < nr → W.cell? ⟨g,r * 3,none⟩ = some (.int .i64 (V r).n)
 is : ∀ r,r < nr → W.cell? ⟨g,r * 3 + 1,none⟩ = some (.bool (V r).is)
 l : ∀ r,r < nr → W.cell? ⟨g,r * 3 + 2,none⟩ = some (LV r)
 fz : ∀ j,W.frozen? ⟨g,j,none⟩ = false
 own : ∀ r,r < nr → W.ownsRow base tL 1 (LV r) (V r).l.length (ints (V r).l)
 off : ∀ r,r < nr → (LV r).ownBlock ≠ some g
 apart : ∀ r s b,r < nr → s < nr → r ≠ s → (LV r).ownBlock = some b → (LV s).ownBlock ≠ some b
theorem own_turn {w w' : World} {base : Nat} {e : TypeId} {size : Nat} {v : Value} {n : Nat} {xs : List Value} (h : w.ownsRow base e size v n xs) (hb : ∀ b,v.ownBlock = some b → b < w.heap.size → w'.heap[b]? = w.heap[b]?) : w'.ownsRow base e size v n xs:=by
 refine ⟨h.1,?_⟩
 rcases h.2 with hn | ⟨g,cap,cur,rfl,hb',hg,rest⟩
 ·exact .inl hn
 ·exact .inr ⟨g,cap,cur,rfl,hb',(hb g rfl (Array.getElem?_eq_some_iff.1 hg).1).trans hg,rest⟩
theorem Gath.next {W W' : World} {base g nr : Nat} {tL : TypeId} {V V' : Nat → Val} {LV : Nat → Value} (h : Gath W base g nr tL V LV) {r : Nat} (hr : r < nr) (lv : Value)
  (hkeep : ∀ k,k < W.heap.size → k ≠ g → (LV r).ownBlock ≠ some k → W'.heap[k]? = W.heap[k]?) (hsz : W.heap.size ≤ W'.heap.size)
  (hV : ∀ s,s ≠ r → V' s = V s)
  (c0 : W'.cell? ⟨g,r * 3,none⟩ = some (.int .i64 (V' r).n)) (c1 : W'.cell? ⟨g,r * 3 + 1,none⟩ = some (.bool (V' r).is)) (c2 : W'.cell? ⟨g,r * 3 + 2,none⟩ = some lv)
  (ho : ∀ j,j < r * 3 ∨ r * 3 + 2 < j → W'.cell? ⟨g,j,none⟩ = W.cell? ⟨g,j,none⟩) (hf : ∀ j,W'.frozen? ⟨g,j,none⟩ = false)
  (hown : W'.ownsRow base tL 1 lv (V' r).l.length (ints (V' r).l)) (hlv : lv.ownBlock = (LV r).ownBlock ∨ ∃ b,lv.ownBlock = some b ∧ W.heap.size ≤ b) :
  Gath W' base g nr tL V' (fun s=>if s = r then lv else LV s):=by
 have hlvb : ∀ s b,s < nr → (LV s).ownBlock = some b → b < W.heap.size:=fun s b hs hb=>((h.own s hs).lt b hb).2
 refine ⟨Nat.lt_of_lt_of_le h.lt hsz,?_,?_,?_,hf,?_,?_,?_⟩
 ·intro s hs
  by_cases e : s = r
  ·subst e;exact c0
  ·rw [ho _ (by omega),hV s e];exact h.n s hs
 ·intro s hs
  by_cases e : s = r
  ·subst e;exact c1
  ·rw [ho _ (by omega),hV s e];exact h.is s hs
 ·intro s hs
  by_cases e : s = r
  ·subst e;simpa using c2
  ·rw [ho _ (by omega)];simpa [e] using h.l s hs
 ·intro s hs
  by_cases e : s = r
  ·subst e;simpa using hown
  ·simp only [e,if_false]
   rw [hV s e]
   refine own_turn (h.own s hs) (fun b hb hlt=>hkeep b hlt ?_ ?_)
   ·intro hg;subst hg;exact h.off s hs hb
   ·intro hrb;exact h.apart s r b hs hr e hb hrb
 ·intro s hs
  by_cases e : s = r
  ·subst e
   simp only [if_true]
   rcases hlv with hlv | ⟨b,hb,hle⟩
   ·rw [hlv];exact h.off s hs
   ·rw [hb];intro hh;injection hh with hh;have:=h.lt;omega
  ·simpa [e] using h.off s hs
 ·intro s t b hs ht hne hb
  by_cases e : s = r
  ·subst e
   simp only [if_true] at hb
   have et : ¬ t = s:=fun h'=>hne h'.symm
   simp only [et,if_false]
   rcases hlv with hlv | ⟨b',hb',hle⟩
   ·rw [hlv] at hb;exact h.apart s t b hs ht hne hb
   ·rw [hb'] at hb;injection hb with hb;subst hb
    intro hh;have:=hlvb t b' ht hh;omega
  ·simp only [e,if_false] at hb
   by_cases et : t = r
   ·subst et
    simp only [if_true]
    rcases hlv with hlv | ⟨b',hb',hle⟩
    ·rw [hlv];exact h.apart s t b hs ht hne hb
    ·rw [hb'];intro hh;injection hh with hh;have:=hlvb s b hs hb;omega
   ·simp only [et,if_false];exact h.apart s t b hs ht hne hb
theorem cell3_0 {W : World} {g r : Nat} {a b c : Value} (h : (W.cell? ⟨g,r * 3,none⟩).isSome = true) : (((W.setCell ⟨g,r * 3,none⟩ a).setCell ⟨g,r * 3 + 1,none⟩ b).setCell ⟨g,r * 3 + 2,none⟩ c).cell? ⟨g,r * 3,none⟩ = some a:=by
 rw [World.cell?_setCell_other _ _ _ _ (by simp),World.cell?_setCell_other _ _ _ _ (by simp),World.cell?_setCell_same' _ _ _ h]
theorem cell3_1 {W : World} {g r : Nat} {a b c : Value} (h : (W.cell? ⟨g,r * 3 + 1,none⟩).isSome = true) : (((W.setCell ⟨g,r * 3,none⟩ a).setCell ⟨g,r * 3 + 1,none⟩ b).setCell ⟨g,r * 3 + 2,none⟩ c).cell? ⟨g,r * 3 + 1,none⟩ = some b:=by
 rw [World.cell?_setCell_other _ _ _ _ (by simp),World.cell?_setCell_same' _ _ _ (by rw [World.cell?_setCell_other _ _ _ _ (by simp)];exact h)]
theorem cell3_2 {W : World} {g r : Nat} {a b c : Value} (h : (W.cell? ⟨g,r * 3 + 2,none⟩).isSome = true) : (((W.setCell ⟨g,r * 3,none⟩ a).setCell ⟨g,r * 3 + 1,none⟩ b).setCell ⟨g,r * 3 + 2,none⟩ c).cell? ⟨g,r * 3 + 2,none⟩ = some c:=by
 rw [World.cell?_setCell_same' _ _ _ (by rw [World.cell?_setCell_other _ _ _ _ (by simp),World.cell?_setCell_other _ _ _ _ (by simp)];exact h)]
theorem cell3_o {W : World} {g r j : Nat} {a b c : Value} (h : j < r * 3 ∨ r * 3 + 2 < j) : (((W.setCell ⟨g,r * 3,none⟩ a).setCell ⟨g,r * 3 + 1,none⟩ b).setCell ⟨g,r * 3 + 2,none⟩ c).cell? ⟨g,j,none⟩ = W.cell? ⟨g,j,none⟩:=by
 have h0 : (⟨g,r * 3,none⟩ : Addr) ≠ ⟨g,j,none⟩:=by intro e;injection e;omega
 have h1 : (⟨g,r * 3 + 1,none⟩ : Addr) ≠ ⟨g,j,none⟩:=by intro e;injection e;omega
 have h2 : (⟨g,r * 3 + 2,none⟩ : Addr) ≠ ⟨g,j,none⟩:=by intro e;injection e;omega
 rw [World.cell?_setCell_other _ _ _ _ h2,World.cell?_setCell_other _ _ _ _ h1,World.cell?_setCell_other _ _ _ _ h0]
theorem Gath.put {W W2 : World} {base g nr : Nat} {tL : TypeId} {V V' : Nat → Val} {LV : Nat → Value} (h : Gath W base g nr tL V LV) {r : Nat} (hr : r < nr) (lv : Value) {n : Int} {i : Bool}
  (hkeep : ∀ k,k < W.heap.size → (LV r).ownBlock ≠ some k → W2.heap[k]? = W.heap[k]?) (hsz : W.heap.size ≤ W2.heap.size) (hV : ∀ s,s ≠ r → V' s = V s) (hn : n = (V' r).n) (hi : i = (V' r).is)
  (hown : W2.ownsRow base tL 1 lv (V' r).l.length (ints (V' r).l)) (hlv : lv.ownBlock = (LV r).ownBlock ∨ ∃ b,lv.ownBlock = some b ∧ W.heap.size ≤ b) :
  Gath (((W2.setCell ⟨g,r * 3,none⟩ (.int .i64 n)).setCell ⟨g,r * 3 + 1,none⟩ (.bool i)).setCell ⟨g,r * 3 + 2,none⟩ lv) base g nr tL V' (fun s=>if s = r then lv else LV s):=by
 have hg2 : W2.heap[g]? = W.heap[g]?:=hkeep g h.lt (h.off r hr)
 have hc : ∀ j,W2.cell? ⟨g,j,none⟩ = W.cell? ⟨g,j,none⟩:=fun j=>World.cell?_of_block (w:=W) (a:=⟨g,j,none⟩) hg2
 have hf : ∀ j,W2.frozen? ⟨g,j,none⟩ = W.frozen? ⟨g,j,none⟩:=fun j=>World.frozen?_of_block (w:=W) (a:=⟨g,j,none⟩) hg2
 refine h.next hr lv ?_ (by simpa [World.setCell] using hsz) hV ?_ ?_ ?_ ?_ ?_ ?_ hlv
 ·intro k hk hne hb
  rw [Below.heap_setCell _ _ _ _ hne,Below.heap_setCell _ _ _ _ hne,Below.heap_setCell _ _ _ _ hne]
  exact hkeep k hk hb
 ·rw [cell3_0 (by rw [hc,h.n r hr];rfl),hn]
 ·rw [cell3_1 (by rw [hc,h.is r hr];rfl),hi]
 ·exact cell3_2 (by rw [hc,h.l r hr];rfl)
 ·intro j hj
  rw [cell3_o hj,hc]
 ·intro j
  rw [World.frozen?_setCell,World.frozen?_setCell,World.frozen?_setCell,hf]
  exact h.fz j
 ·refine own_turn hown (fun b hb _=>?_)
  have hne : b ≠ g:=by
   intro e
   subst e
   rcases hlv with hlv | ⟨b',hb',hle⟩
   ·rw [hlv] at hb;exact h.off r hr hb
   ·rw [hb'] at hb;injection hb with hb;have:=h.lt;omega
  rw [Below.heap_setCell _ _ _ _ hne,Below.heap_setCell _ _ _ _ hne,Below.heap_setCell _ _ _ _ hne]
theorem Gath.below {W W' : World} {base g nr : Nat} {tL : TypeId} {V : Nat → Val} {LV : Nat → Value} (h : Gath W base g nr tL V LV) (hb : Below W.heap.size W W') : Gath W' base g nr tL V LV:=by
 have hc : ∀ j,W'.cell? ⟨g,j,none⟩ = W.cell? ⟨g,j,none⟩:=fun j=>hb.cell (p:=⟨g,j,none⟩) h.lt
 exact ⟨Nat.lt_of_lt_of_le h.lt hb.size,fun r hr=>(hc _).trans (h.n r hr),fun r hr=>(hc _).trans (h.is r hr),fun r hr=>(hc _).trans (h.l r hr),
  fun j=>(hb.frozen (p:=⟨g,j,none⟩) h.lt).trans (h.fz j),fun r hr=>own_below (h.own r hr) hb,h.off,h.apart⟩
theorem Gath.alloc {W : World} {base g nr : Nat} {tL : TypeId} {V : Nat → Val} {LV : Nat → Value} (h : Gath W base g nr tL V LV) (o : Obj) : Gath (W.alloc o) base g nr tL V LV:=h.below ((Below.refl _ _).alloc (Nat.le_refl _) _)
theorem Gath.putSame {W : World} {base g nr : Nat} {tL : TypeId} {V V' : Nat → Val} {LV : Nat → Value} (h : Gath W base g nr tL V LV) {r : Nat} (hr : r < nr) {lv : Value} {n : Int} {i : Bool} (o : Obj)
  (hV : ∀ s,s ≠ r → V' s = V s) (hlv : LV r = lv) (hn : n = (V' r).n) (hi : i = (V' r).is) (hl : (V' r).l = (V r).l) :
  Gath ((((W.setCell ⟨g,r * 3,none⟩ (.int .i64 n)).setCell ⟨g,r * 3 + 1,none⟩ (.bool i)).setCell ⟨g,r * 3 + 2,none⟩ lv).alloc o) base g nr tL V' (fun s=>if s = r then lv else LV s):=by
 subst hlv
 exact (h.put hr (LV r) (fun _ _ _=>rfl) (Nat.le_refl _) hV hn hi (by rw [hl];exact h.own r hr) (.inl rfl)).alloc o
theorem Gath.putApp {W w2 : World} {base g nr : Nat} {tL : TypeId} {V V' : Nat → Val} {LV : Nat → Value} (h : Gath W base g nr tL V LV) {r : Nat} (hr : r < nr) {a' : Option Addr} {m cap' : Nat} {n : Int} {i : Bool} {x y : Value} {o1 o2 : Obj} {B j1 j2 H : Nat} (hB : B = W.heap.size) (hH : H = W.heap.size + 1 + 1)
  (hV : ∀ s,s ≠ r → V' s = V s) (hn : n = (V' r).n) (hi : i = (V' r).is) (hg : ((W.alloc o1).alloc o2).grownBy w2 (LV r).ownBlock)
  (hown : w2.ownsRow base tL 1 (.slice a' m cap') (V' r).l.length (ints (V' r).l))
  (hlie : (Value.slice a' m cap').ownBlock = (LV r).ownBlock ∨ (Value.slice a' m cap').ownBlock = some H) :
  Gath (((((w2.setCell ⟨B,j1,none⟩ x).setCell ⟨B,j2,none⟩ y).setCell ⟨g,r * 3,none⟩ (.int .i64 n)).setCell ⟨g,r * 3 + 1,none⟩ (.bool i)).setCell ⟨g,r * 3 + 2,none⟩ (.slice a' m cap')) base g nr tL V' (fun s=>if s = r then .slice a' m cap' else LV s):=by
 subst hB
 have hlvb : ∀ b,(LV r).ownBlock = some b → b < W.heap.size:=fun b hb=>((h.own r hr).lt b hb).2
 refine h.put hr _ ?_ ?_ hV hn hi ?_ ?_
 ·intro k hk hb
  rw [Below.heap_setCell _ _ _ _ (by simp;omega),Below.heap_setCell _ _ _ _ (by simp;omega),hg.block k (by simp;omega) (fun e=>hb e.symm),Below.heap_alloc _ _ _ (by simp;omega),Below.heap_alloc _ _ _ hk]
 ·have:=hg.size
  simp [World.setCell] at this ⊢
  omega
 ·refine own_turn hown (fun b hb _=>?_)
  have hne : b ≠ W.heap.size:=by
   rcases hlie with hl | hl
   ·rw [hl] at hb;have:=hlvb b hb;omega
   ·rw [hl] at hb;injection hb with hb;omega
  rw [Below.heap_setCell _ _ _ _ hne,Below.heap_setCell _ _ _ _ hne]
 ·rcases hlie with hl | hl
  ·exact .inl hl
  ·exact .inr ⟨_,hl,by omega⟩
end Go.Proofs.YtkmakliebhnhbaaGreat
