import Derived.Deep.RegionHeld3
import Derived.Deep.DrawnRows
import Derived.Deep.QuietTactic
import Derived.BigQuiet
import Derived.Test.YtkmakliebhnhbaaGreatVals
import Derived.Test.YtkmakliebhnhbaaGreatRows
namespace Go.Proofs.YtkmakliebhnhbaaGreat
open Go.RowKit
def flat {α : Type} (enc : α → List Value) (l : List α) : List Value:=l.flatMap enc
theorem flat_len {α : Type} {enc : α → List Value} {size : Nat} (hs : ∀ x,(enc x).length = size) (l : List α) : (flat enc l).length = l.length * size:=by
 induction l with
 | nil=>simp [flat]
 | cons x t ih=>simp only [flat,List.flatMap_cons,List.length_append,List.length_cons] at *;rw [ih,hs];rw [Nat.add_mul];omega
theorem flat_get {α : Type} {enc : α → List Value} {size : Nat} (hs : ∀ x,(enc x).length = size) (l : List α) {k j : Nat} {x : α} (hk : l[k]? = some x) (hj : j < size) : (flat enc l)[k * size + j]? = (enc x)[j]?:=by
 induction l generalizing k with
 | nil=>simp at hk
 | cons y t ih =>
  simp only [flat,List.flatMap_cons]
  cases k with
  | zero =>
   simp at hk;subst hk
   rw [List.getElem?_append_left (by rw [hs];omega)];simp
  | succ k =>
   simp at hk
   rw [List.getElem?_append_right (by rw [hs,Nat.add_mul];omega),hs,show (k + 1) * size + j - size = k * size + j by rw [Nat.add_mul];omega]
   exact ih hk
theorem flat_append {α : Type} {enc : α → List Value} (a b : List α) : flat enc (a ++ b) = flat enc a ++ flat enc b:=by simp [flat]
theorem own_rd {α : Type} {enc : α → List Value} {S : Nat → Prop} {W : World} {base : Nat} {e : TypeId} {size : Nat} {v : Value} {l : List α} (h : W.ownsRow base e size v l.length (flat enc l)) (hs : ∀ x,(enc x).length = size)
  (hS : ∀ b,v.ownBlock = some b → S b) : RdL S W size enc v l:=by
 rcases h.2 with ⟨rfl,h0⟩ | ⟨g,cap,cur,rfl,hb,hg,hn,hm,hc,ht⟩
 ·exact ⟨none,0,by rw [h0],by omega,by unfold maxLen;omega,.inl ⟨List.eq_nil_of_length_eq_zero h0,fun _=>rfl⟩⟩
 ·refine ⟨_,cap,rfl,hn,hm,.inr ⟨g,0,rfl,hS g rfl,fun k x hk j u hu=>?_⟩⟩
  have hj : j < size:=by have:=(List.getElem?_eq_some_iff.1 hu).1;rw [hs] at this;exact this
  have hkl:=(List.getElem?_eq_some_iff.1 hk).1
  have hlt : k * size + j < l.length * size:=by
   have : (k + 1) * size ≤ l.length * size:=Nat.mul_le_mul_right _ hkl
   rw [Nat.add_mul] at this;omega
  rw [Nat.zero_add,World.ownsRow.cellAt h _ hlt,flat_get hs l hk hj,hu]
theorem rd_src {α : Type} {enc : α → List Value} {S : Nat → Prop} {W : World} {size : Nat} {v : Value} {l : List α} (h : RdL S W size enc v l) (hs : ∀ x,(enc x).length = size) (hz : 0 < size) :
  AppSrc W size v l.length (flat enc l):=by
 obtain ⟨a,cap,rfl,hc,hm,h⟩:=h
 rcases h with ⟨rfl,hn⟩ | ⟨b,off,rfl,_,h⟩
 ·cases a with
  | none=>obtain rfl:=hn rfl;left;exact ⟨rfl,rfl,rfl⟩
  | some a'=>exact .inr ⟨_,_,rfl,by simp [flat],fun j u hu=>by simp [flat] at hu⟩
 ·refine .inr ⟨_,_,rfl,flat_len hs l,fun j u hu=>?_⟩
  have hjl:=(List.getElem?_eq_some_iff.1 hu).1
  rw [flat_len hs] at hjl
  have hk : j / size < l.length:=(Nat.div_lt_iff_lt_mul hz).2 hjl
  have hm' : j % size < size:=Nat.mod_lt _ hz
  have e : j / size * size + j % size = j:=by rw [Nat.mul_comm];exact Nat.div_add_mod j size
  have hx : l[j / size]? = some l[j / size]:=List.getElem?_eq_getElem hk
  have:=flat_get hs l hx hm'
  rw [e,hu] at this
  have h2:=h (j / size) _ hx (j % size) u this.symm
  rw [Addr.add_lit,← h2]
  congr 2
  omega
section
variable {P : Program} (w : World)
theorem run_copy_sized (dT sT ty elem : TypeId) (size g dLen dCap : Nat) (cur : Array Value) (t : TypeId) (sv : Value) (m : Nat) (news : List Value)
  (hu : P.underlying dT = some (.slice elem)) (hs : (P.info? elem).map (·.size) = some size) (hg : w.heap[g]? = some (.cells cur t (0,0))) (hsrc : AppSrc w size sv m news) (hm : m ≤ dLen)
  (hfit : news.length ≤ cur.size) (h1 : ∀ v ∈ news,v.oneCell' = true) :
  (Builtin.copy_ #[dT,sT] ty #[.slice (some ⟨g,0,none⟩) dLen dCap,sv]).run P w = .ok (goInt m) (w.setRow g (news ++ cur.toList.drop news.length).toArray):=by
 rcases hsrc with ⟨rfl,rfl,rfl⟩ | ⟨ad,c,rfl,hl,hc⟩
 ·rw [run_copy_nil (P:=P) w dT sT ty elem _ dLen dCap hu (by rw [hs];rfl)]
  simp only [List.nil_append,List.length_nil,List.drop_zero,Array.toArray_toList]
  rw [setRow_self w g cur t (0,0) hg]
  rfl
 ·have hl':=run_loadCells_list (P:=P) w ad news hc
  have hst:=run_storeCells_at P g 0 t news 0 cur w hg (by simpa using hfit) h1
  have hmin : Nat.min m dLen = m:=Nat.min_eq_left hm
  have hmin' : min m dLen = m:=Nat.min_eq_left hm
  cases hq : P.info? elem with
  | none=>simp [hq] at hs
  | some i =>
   have hi : i.size = size:=by simpa [hq] using hs
   simp [Builtin.copy_,run_underlying hu,Builtin.lenOf,Builtin.firstCells,sizeOf,typeInfo,hq,hi,hmin',← hl,hl',hst]
theorem wpList_copy {ops : Array Oper} {rest : List Oper} {a : Act} {Q : Exit → Act → World → Prop} (d s : Operand) (dT sT : TypeId) {dst : Option Tmp} {ty : TypeId} {pos : String} {after : Array Edge}
  (elem : TypeId) (size base : Nat) (hu : P.underlying dT = some (.slice elem)) (hsz : (P.info? elem).map (·.size) = some size)
  (g n cap : Nat) (xs : List Value) (hd : a.eval d = .slice (some ⟨g,0,none⟩) n cap) (hown : w.ownsRow base elem size (.slice (some ⟨g,0,none⟩) n cap) n xs)
  (sv : Value) (m : Nat) (news : List Value) (hs : a.eval s = sv) (hsrc : AppSrc w size sv m news) (hm : m ≤ n) (h1 : ∀ v ∈ news,v.oneCell' = true)
  (h : ∀ w',w'.ownsRow base elem size (.slice (some ⟨g,0,none⟩) n cap) n (news ++ xs.drop news.length) → w.grownBy w' (some g) → wpList P ops Q rest (a.put dst (goInt m)) w') :
  wpList P ops Q ({ dst:=dst,op:=.call { callee:=.builtin .copy,args:=#[d,s],argTypes:=#[dT,sT] },type:=ty,pos:=pos,after:=after,guard:=none } :: rest) a w:=by
 refine wpList_plain rfl fun K hK=>?_
 have hl:=hsrc.len
 obtain ⟨hx,hh⟩:=hown
 rcases hh with ⟨hv,_⟩ | ⟨g',cap',cur,hv,hb,hg,hn,hcm,hcs,htake⟩
 ·cases hv
 ·cases hv
  have hle : m * size ≤ n * size:=Nat.mul_le_mul_right _ hm
  have hle2 : n * size ≤ cap * size:=Nat.mul_le_mul_right _ hn
  have hrun:=run_copy_sized (P:=P) w dT sT ty elem size g n cap cur elem sv m news hu hsz hg hsrc hm (by omega) h1
  unfold Oper.wp
  simp [execOp,resolve,invoke,builtin,hd,hs,hrun,Result.andThen]
  refine hK _ _ (h _ ⟨?_,.inr ⟨g,cap,_,rfl,hb,setRow_heap w g cur _ elem (0,0) hg,hn,hcm,?_,?_⟩⟩ ⟨rfl,rfl,rfl,by simp,fun k _ hk=>setRow_other w g k _ (fun e=>hk (by simp [e]))⟩)
  ·simp only [List.length_append,List.length_drop];omega
  ·simp only [List.size_toArray,List.length_append,List.length_drop,Array.length_toList];omega
  ·rw [← htake]
   simp only [List.take_append,List.drop_take]
   rw [List.take_of_length_le (by omega)]
end
end Go.Proofs.YtkmakliebhnhbaaGreat
namespace Go.Proofs.YtkmakliebhnhbaaGreat
open Go.RowKit
theorem Tryz.infoInt' : (Tryz.prog.info? 3).map (fun i=>(i.zero,i.size,i.bytes)) = some (some (.int .i64 0),1,8):=by kernel_rfl
theorem Tryz.infoIns : (Tryz.prog.info? 45).map (fun i=>(i.zero,i.size,i.bytes)) = some (some (.agg #[.int .i64 0,.int .i64 0,.int .i64 0,.int .i64 0,.int .i64 0]),5,40):=by kernel_rfl
theorem Tryz.sizeInt : (Tryz.prog.info? 3).map (·.size) = some 1:=by kernel_rfl
theorem Tryz.sizeIns : (Tryz.prog.info? 45).map (·.size) = some 5:=by kernel_rfl
theorem int64s_len (x : Int) : (int64s x).length = 1:=rfl
theorem insvals_len (x : Ins) : x.vals.length = 5:=rfl
theorem flat_int64s_one (l : List Int) : ∀ u ∈ flat int64s l,u.oneCell' = true:=by
 intro u hu
 obtain ⟨e,_,he⟩:=List.mem_flatMap.1 hu
 simp only [int64s,List.mem_cons,List.not_mem_nil,or_false] at he
 subst he;rfl
theorem flat_ins_one (l : List Ins) : ∀ u ∈ flat Ins.vals l,u.oneCell' = true:=by
 intro u hu
 obtain ⟨e,_,he⟩:=List.mem_flatMap.1 hu
 simp only [Ins.vals,List.mem_cons,List.not_mem_nil,or_false] at he
 rcases he with rfl | rfl | rfl | rfl | rfl <;> rfl
def mk77 (xs : List Int) (k : Nat) : List Int:=xs ++ List.replicate k 77 ++ List.replicate (3 - k) 0
theorem mk77_start (xs : List Int) : flat int64s xs ++ (madeCells #[Value.int .i64 0] (xs.length + 3)).toList.drop (flat int64s xs).length = flat int64s (mk77 xs 0):=by
 rw [toList_madeCells_one,flat_len int64s_len]
 simp [mk77,flat,List.drop_replicate,int64s]
theorem flat1_set (l : List Int) (j : Nat) (z : Int) : (flat int64s l).set j (.int .i64 z) = flat int64s (l.set j z):=by
 have e : ∀ l : List Int,flat int64s l = l.map (Value.int .i64):=fun l=>by induction l with
  | nil=>rfl
  | cons x t ih=>simp only [flat,List.flatMap_cons,List.map_cons] at *;rw [ih];rfl
 rw [e,e,List.map_set]
theorem mk77_step (xs : List Int) (k : Nat) (hk : k < 3) : (mk77 xs k).set (xs.length + k) 77 = mk77 xs (k + 1):=by
 unfold mk77
 rw [List.append_assoc,List.append_assoc,List.set_append_right _ _ (by omega),show xs.length + k - xs.length = k by omega]
 match k,hk with
 | 0,_=>rfl
 | 1,_=>rfl
 | 2,_=>rfl
def i77 : Ins:=⟨77,0,0,0,0⟩
def i00 : Ins:=⟨0,0,0,0,0⟩
def mkc (xs : List Ins) (k : Nat) : List Ins:=xs ++ List.replicate k i77 ++ List.replicate (3 - k) i00
theorem made5 (m : Nat) : (madeCells #[Value.int .i64 0,.int .i64 0,.int .i64 0,.int .i64 0,.int .i64 0] m).toList = List.replicate m (.int .i64 0):=by
 apply List.ext_getElem
 ·simp [madeCells]
 ·intro j h1 h2
  simp only [madeCells,Array.toList_map,List.getElem_map,Array.getElem_toList,Array.getElem_range,List.getElem_replicate]
  have : j % 5 < 5:=Nat.mod_lt _ (by omega)
  match hq : j % 5,this with
  | 0,_=>simp
  | 1,_=>simp
  | 2,_=>simp
  | 3,_=>simp
  | 4,_=>simp
theorem mkc_start (xs : List Ins) : flat Ins.vals xs ++ (madeCells #[Value.int .i64 0,.int .i64 0,.int .i64 0,.int .i64 0,.int .i64 0] ((xs.length + 3) * 5)).toList.drop (flat Ins.vals xs).length = flat Ins.vals (mkc xs 0):=by
 rw [made5,flat_len insvals_len,List.drop_replicate,show (xs.length + 3) * 5 - xs.length * 5 = 15 by omega]
 simp only [mkc,List.replicate_zero,List.append_nil,flat_append]
 rfl
theorem flat5_set : ∀ (l : List Ins) (j : Nat) (x : Ins),j < l.length → ((((((flat Ins.vals l).set (j * 5) (.int .i64 x.op)).set (j * 5 + 1) (.int .i64 x.f)).set (j * 5 + 2) (.int .i64 x.r)).set (j * 5 + 3) (.int .i64 x.k)).set (j * 5 + 4) (.int .i64 x.l)) = flat Ins.vals (l.set j x)
 | [],j,x,h=>by simp at h
 | y :: t,0,x,_=>by simp [flat,Ins.vals]
 | y :: t,j + 1,x,h=>by
  have ih:=flat5_set t j x (by simpa using h)
  have e : ∀ c u (l : List Value),(y.vals ++ l).set ((j + 1) * 5 + c) u = y.vals ++ l.set (j * 5 + c) u:=fun c u l=>by
   rw [List.set_append_right _ _ (by rw [insvals_len];omega),insvals_len,show (j + 1) * 5 + c - 5 = j * 5 + c by omega]
  have e0:=fun u l=>e 0 u l
  simp only [Nat.add_zero] at e0
  show ((((((y.vals ++ flat Ins.vals t).set ((j + 1) * 5) _).set ((j + 1) * 5 + 1) _).set ((j + 1) * 5 + 2) _).set ((j + 1) * 5 + 3) _).set ((j + 1) * 5 + 4) _) = y.vals ++ flat Ins.vals (t.set j x)
  rw [e0,e,e,e,e,ih]
theorem mkc_step (xs : List Ins) (k : Nat) (hk : k < 3) : (mkc xs k).set (xs.length + k) i77 = mkc xs (k + 1):=by
 unfold mkc
 rw [List.append_assoc,List.append_assoc,List.set_append_right _ _ (by omega),show xs.length + k - xs.length = k by omega]
 match k,hk with
 | 0,_=>rfl
 | 1,_=>rfl
 | 2,_=>rfl
theorem mkc_len (xs : List Ins) (k : Nat) (hk : k ≤ 3) : (mkc xs k).length = xs.length + 3:=by simp [mkc];omega
theorem mk77_len (xs : List Int) (k : Nat) (hk : k ≤ 3) : (mk77 xs k).length = xs.length + 3:=by simp [mk77];omega
theorem own_get5 {W : World} {base g n cap : Nat} {e : TypeId} {l : List Ins} (h : W.ownsRow base e 5 (.slice (some ⟨g,0,none⟩) n cap) n (flat Ins.vals l)) (hl : l.length = n) {q : Nat} {x : Ins} (hq : l[q]? = some x) :
  W.cell? ⟨g,q * 5,none⟩ = some (.int .i64 x.op) ∧ W.cell? ⟨g,q * 5 + 1,none⟩ = some (.int .i64 x.f) ∧ W.cell? ⟨g,q * 5 + 2,none⟩ = some (.int .i64 x.r) ∧ W.cell? ⟨g,q * 5 + 3,none⟩ = some (.int .i64 x.k) ∧ W.cell? ⟨g,q * 5 + 4,none⟩ = some (.int .i64 x.l):=by
 have hlt:=(List.getElem?_eq_some_iff.1 hq).1
 have key : ∀ j,j < 5 → W.cell? ⟨g,q * 5 + j,none⟩ = x.vals[j]?:=fun j hj=>by
  rw [h.cellAt _ (by omega),flat_get insvals_len l hq hj]
 exact ⟨by simpa [Ins.vals] using key 0 (by omega),key 1 (by omega),key 2 (by omega),key 3 (by omega),key 4 (by omega)⟩
theorem own_set5 {W : World} {base g n cap : Nat} {e : TypeId} {l : List Ins} (h : W.ownsRow base e 5 (.slice (some ⟨g,0,none⟩) n cap) n (flat Ins.vals l)) {q : Nat} (x : Ins) (hq : q < l.length) :
  (((((W.setCell ⟨g,q * 5,none⟩ (.int .i64 x.op)).setCell ⟨g,q * 5 + 1,none⟩ (.int .i64 x.f)).setCell ⟨g,q * 5 + 2,none⟩ (.int .i64 x.r)).setCell ⟨g,q * 5 + 3,none⟩ (.int .i64 x.k)).setCell ⟨g,q * 5 + 4,none⟩ (.int .i64 x.l)).ownsRow base e 5 (.slice (some ⟨g,0,none⟩) n cap) n (flat Ins.vals (l.set q x)):=by
 rw [← flat5_set l q x hq]
 exact (((((h.stored _ _).1.stored _ _).1.stored _ _).1.stored _ _).1.stored _ _).1
set_option maxRecDepth 100000 in
set_option maxHeartbeats 400000 in
theorem numbers_any (xs : List Int) (S : Nat → Prop) (v : Value) (w : World) (hR : RdL S w 1 int64s v xs) (hn : xs.length ≤ 2000000) :
  Calls Tryz.prog 14 #[v] w fun e w'=>e = .returned (.slice (some ⟨w.heap.size,0,none⟩) (xs.length + 3) (xs.length + 3)) ∧
   w'.ownsRow w.heap.size 3 1 (.slice (some ⟨w.heap.size,0,none⟩) (xs.length + 3) (xs.length + 3)) (xs.length + 3) (flat int64s (mk77 xs 3)) ∧ Below w.heap.size w w':=by
 have HSRC:=hide (rd_src hR int64s_len (by omega))
 obtain ⟨a,cap,rfl,hc,hm⟩:=hR.form
 obtain ⟨i0,hii,hz0,hz1,hz2⟩:=info_parts Tryz.infoInt'
 obtain ⟨n,hN⟩ : ∃ n,xs.length = n:=⟨_,rfl⟩
 have HN:=hide hN
 rw [hN] at hn hc HSRC ⊢
 clear hR hN
 unfold maxLen at hm
 obtain ⟨news,hnews⟩ : ∃ news,flat int64s xs = news:=⟨_,rfl⟩
 rw [hnews] at HSRC
 have HNW:=hide hnews
 have HON : Hid (∀ u ∈ news,u.oneCell' = true):=by unfold Hid;rw [← hnews];exact flat_int64s_one xs
 clear hnews
 go_enter Tryz.func14,Tryz.ntmps14
 go_wp2_with (at_make;refine wpList_make_full _ rfl _ _ 30 rfl w.heap.size 3 i0 _ 1 Tryz.underlying30 hii hz0 hz1 _ _ _ _ (n + 3) rfl rfl (by simp) (by simp) (by rw [hz2];omega) (by unfold maxLen;omega) (Nat.le_refl _) ?_)
 intro w1 hown hgrow
 obtain ⟨g,hg⟩ : ∃ g,g = w.heap.size:=⟨_,rfl⟩
 have HB1:=hide ((Below.refl _ w).grown hgrow (Nat.le_refl _) (by simp))
 have HSRC1 : Hid (AppSrc w1 1 (.slice a n cap) n news):=by
  rcases HSRC.out with h | ⟨ad,c,e,h1,h2⟩
  ·exact .inl h
  ·exact .inr ⟨ad,c,e,h1,fun j u hu=>hgrow.cell (h2 j u hu) (by simp)⟩
 have HOW:=hide hown
 rw [← hg] at HOW ⊢
 have HG:=hide hg
 clear hown hgrow hg HSRC
 go_wp2_with (with_reducible refine wpList_copy _ _ _ 30 30 3 1 g Tryz.underlying30 Tryz.sizeInt g (n + 3) (n + 3) _ ?hd HOW.out (.slice a n cap) n news ?hs HSRC1.out ?hm HON.out ?_)
 case hd=>rfl
 case hs=>rfl
 case hm=>omega
 intro w2 hown hgrow
 have HB2:=hide (HB1.out.grown hgrow HB1.out.size (by intro q hq;injection hq with hq;have:=HG.out;omega))
 have HOW2 : Hid (w2.ownsRow g 3 1 (.slice (some ⟨g,0,none⟩) (n + 3) (n + 3)) (n + 3) (flat int64s (mk77 xs 0))):=by
  unfold Hid;rw [← mk77_start,HN.out,HNW.out];exact hown
 clear hown hgrow HOW HSRC1 HB1 hii hz0 hz1 hz2
 go_wp2
 go_loopw [4] (fun i wr=>(∃ k : Nat,k ≤ 3 ∧ i = .int .i64 (↑n + ↑k) ∧ wr.ownsRow g 3 1 (.slice (some ⟨g,0,none⟩) (n + 3) (n + 3)) (n + 3) (flat int64s (mk77 xs k))) ∧ Below w.heap.size w wr)
  (fun i _=>n + 3 - (intOf i).toNat)
 case atStart=>exact ⟨⟨0,by omega,by simp,HOW2.out⟩,HB2.out⟩
 case round =>
  obtain ⟨⟨k,hk,rfl,hown⟩,hBk⟩:=hrel
  have HOW:=hide hown
  have HBk:=hide hBk
  by_cases hlt : k < 3
  ·have hnk : n + k < n + 3:=by omega
   have c0:=hown.cellAt (n + k) (by omega)
   have f0:=hown.frozenAt (n + k)
   obtain ⟨u,hu⟩ : ∃ u,(flat int64s (mk77 xs k))[n + k]? = some u:=⟨(flat int64s (mk77 xs k))[n + k]'(by rw [hown.1];omega),by simp⟩
   rw [hu] at c0
   have hcast : (n : Int) + k = ((n + k : Nat) : Int):=by omega
   have HC:=hide hcast
   rw [hcast]
   have hi0 : (0 : Int) ≤ ((n + k : Nat) : Int):=by omega
   have hi1 : ((n + k : Nat) : Int) < ((n + 3 : Nat) : Int):=by omega
   obtain ⟨q,hq⟩ : ∃ q,n + k = q:=⟨_,rfl⟩
   rw [hq] at c0 f0 hi0 hi1 ⊢
   have HQ:=hide hq
   have hi2 : (q : Int) < (n : Int) + 3:=by omega
   clear hown hBk hu hcast hq hnk
   go_wp2
   go_roundw
   case rel =>
    refine ⟨⟨k + 1,by omega,by have:=HQ.out;go_num,?_⟩,HBk.out.setCell (p:=⟨g,q,none⟩) (by have:=HG.out;simp;omega) _⟩
    rw [← mk77_step xs k hlt,HN.out,HQ.out,← flat1_set]
    exact (HOW.out.stored q _).1
   case measure=>have:=HQ.out;simp [intOf];omega
  ·obtain rfl : k = 3:=by omega
   clear hown hBk
   go_wp2
   go_ret
   have HB':=HBk.out
   rw [← HG.out] at HB' ⊢
   exact ⟨rfl,HOW.out,HB'⟩
set_option maxRecDepth 100000 in
set_option maxHeartbeats 400000 in
theorem code_any (xs : List Ins) (S : Nat → Prop) (v : Value) (w : World) (hR : RdL S w 5 Ins.vals v xs) (hn : xs.length ≤ 2000000) :
  Calls Tryz.prog 13 #[v] w fun e w'=>e = .returned (.slice (some ⟨w.heap.size,0,none⟩) (xs.length + 3) (xs.length + 3)) ∧
   w'.ownsRow w.heap.size 45 5 (.slice (some ⟨w.heap.size,0,none⟩) (xs.length + 3) (xs.length + 3)) (xs.length + 3) (flat Ins.vals (mkc xs 3)) ∧ Below w.heap.size w w':=by
 have HSRC:=hide (rd_src hR insvals_len (by omega))
 obtain ⟨a,cap,rfl,hc,hm⟩:=hR.form
 obtain ⟨i0,hii,hz0,hz1,hz2⟩:=info_parts Tryz.infoIns
 obtain ⟨n,hN⟩ : ∃ n,xs.length = n:=⟨_,rfl⟩
 have HN:=hide hN
 rw [hN] at hn hc HSRC ⊢
 clear hR hN
 unfold maxLen at hm
 obtain ⟨news,hnews⟩ : ∃ news,flat Ins.vals xs = news:=⟨_,rfl⟩
 rw [hnews] at HSRC
 have HNW:=hide hnews
 have HON : Hid (∀ u ∈ news,u.oneCell' = true):=by unfold Hid;rw [← hnews];exact flat_ins_one xs
 clear hnews
 go_enter Tryz.func13,Tryz.ntmps13
 go_wp2_with (at_make;refine wpList_make_full _ rfl _ _ 46 rfl w.heap.size 45 i0 _ 5 Tryz.underlying46 hii hz0 hz1 _ _ _ _ (n + 3) rfl rfl (by simp) (by simp) (by rw [hz2];omega) (by unfold maxLen;omega) (Nat.le_refl _) ?_)
 intro w1 hown hgrow
 obtain ⟨g,hg⟩ : ∃ g,g = w.heap.size:=⟨_,rfl⟩
 have HB1:=hide ((Below.refl _ w).grown hgrow (Nat.le_refl _) (by simp))
 have HSRC1 : Hid (AppSrc w1 5 (.slice a n cap) n news):=by
  rcases HSRC.out with h | ⟨ad,c,e,h1,h2⟩
  ·exact .inl h
  ·exact .inr ⟨ad,c,e,h1,fun j u hu=>hgrow.cell (h2 j u hu) (by simp)⟩
 have HOW:=hide hown
 rw [← hg] at HOW ⊢
 have HG:=hide hg
 clear hown hgrow hg HSRC
 go_wp2_with (with_reducible refine wpList_copy _ _ _ 46 46 45 5 g Tryz.underlying46 Tryz.sizeIns g (n + 3) (n + 3) _ ?hd HOW.out (.slice a n cap) n news ?hs HSRC1.out ?hm HON.out ?_)
 case hd=>rfl
 case hs=>rfl
 case hm=>omega
 intro w2 hown hgrow
 have HB2:=hide (HB1.out.grown hgrow HB1.out.size (by intro q hq;injection hq with hq;have:=HG.out;omega))
 have HOW2 : Hid (w2.ownsRow g 45 5 (.slice (some ⟨g,0,none⟩) (n + 3) (n + 3)) (n + 3) (flat Ins.vals (mkc xs 0))):=by
  unfold Hid;rw [← mkc_start,HN.out,HNW.out];exact hown
 clear hown hgrow HOW HSRC1 HB1 hii hz0 hz1 hz2
 go_wp2
 go_loopw [4] (fun i wr=>(∃ k : Nat,k ≤ 3 ∧ i = .int .i64 (↑n + ↑k) ∧ wr.ownsRow g 45 5 (.slice (some ⟨g,0,none⟩) (n + 3) (n + 3)) (n + 3) (flat Ins.vals (mkc xs k))) ∧ Below w.heap.size w wr)
  (fun i _=>n + 3 - (intOf i).toNat)
 case atStart=>exact ⟨⟨0,by omega,by simp,HOW2.out⟩,HB2.out⟩
 case round =>
  obtain ⟨⟨k,hk,rfl,hown⟩,hBk⟩:=hrel
  have HOW:=hide hown
  have HBk:=hide hBk
  by_cases hlt : k < 3
  ·have hnk : n + k < n + 3:=by omega
   obtain ⟨u,hu⟩ : ∃ u,(mkc xs k)[n + k]? = some u:=⟨(mkc xs k)[n + k]'(by rw [mkc_len _ _ hk,HN.out];omega),by simp⟩
   obtain ⟨c0,c1,c2,c3,c4⟩:=own_get5 hown (by rw [mkc_len _ _ hk,HN.out]) hu
   have f0:=hown.frozenAt ((n + k) * 5)
   have f1:=hown.frozenAt ((n + k) * 5 + 1)
   have f2:=hown.frozenAt ((n + k) * 5 + 2)
   have f3:=hown.frozenAt ((n + k) * 5 + 3)
   have f4:=hown.frozenAt ((n + k) * 5 + 4)
   have hcast : (n : Int) + k = ((n + k : Nat) : Int):=by omega
   have HC:=hide hcast
   rw [hcast]
   have hi0 : (0 : Int) ≤ ((n + k : Nat) : Int):=by omega
   have hi1 : ((n + k : Nat) : Int) < ((n + 3 : Nat) : Int):=by omega
   obtain ⟨q,hq⟩ : ∃ q,n + k = q:=⟨_,rfl⟩
   rw [hq] at c0 c1 c2 c3 c4 f0 f1 f2 f3 f4 hi0 hi1 ⊢
   have HQ:=hide hq
   have hi2 : (q : Int) < (n : Int) + 3:=by omega
   clear hown hBk hu hcast hq hnk
   go_wp2
   go_roundw
   case rel =>
    have hgb : w.heap.size ≤ g:=by have:=HG.out;omega
    refine ⟨⟨k + 1,by omega,by have:=HQ.out;go_num,?_⟩,((((HBk.out.setCell (p:=⟨g,_,none⟩) hgb _).setCell (p:=⟨g,_,none⟩) hgb _).setCell (p:=⟨g,_,none⟩) hgb _).setCell (p:=⟨g,_,none⟩) hgb _).setCell (p:=⟨g,_,none⟩) hgb _⟩
    rw [← mkc_step xs k hlt,HN.out,HQ.out]
    exact own_set5 HOW.out i77 (by rw [mkc_len _ _ hk,HN.out];have:=HQ.out;omega)
   case measure=>have:=HQ.out;simp [intOf];omega
  ·obtain rfl : k = 3:=by omega
   clear hown hBk
   go_wp2
   go_ret
   have HB':=HBk.out
   rw [← HG.out] at HB' ⊢
   exact ⟨rfl,HOW.out,HB'⟩
end Go.Proofs.YtkmakliebhnhbaaGreat
namespace Go.Proofs.YtkmakliebhnhbaaGreat
open Go.RowKit
theorem grown_trans {a b c : World} {row : Option Nat} (h : a.grownBy b row) (k : b.grownBy c row) : a.grownBy c row :=
 ⟨k.os.trans h.os,k.tape.trans h.tape,k.output.trans h.output,Nat.le_trans h.size k.size,fun i hi hne=>(k.block i (Nat.lt_of_lt_of_le hi h.size) hne).trans (h.block i hi hne)⟩
theorem grown_below {a b : World} (h : Below a.heap.size a b) (row : Option Nat) : a.grownBy b row:=⟨h.os,h.tape,h.output,h.size,fun k hk _=>h.block k hk⟩
theorem grown_drewN {a b : World} {row : Option Nat} (h : a.grownBy b row) (n : Nat) : a.grownBy (b.drewN n) row:=grown_trans h ⟨rfl,rfl,rfl,Nat.le_refl _,fun _ _ _=>rfl⟩
theorem grown_set {a b : World} {g j : Nat} (h : a.grownBy b (some g)) (u : Value) : a.grownBy (b.setCell ⟨g,j,none⟩ u) (some g) :=
 grown_trans h ⟨rfl,rfl,rfl,by simp [World.setCell],fun k _ hk=>Below.heap_setCell _ _ _ _ (fun e=>hk (by simp [e]))⟩
theorem own_drewN {w : World} {base : Nat} {e : TypeId} {size : Nat} {v : Value} {n : Nat} {xs : List Value} (h : w.ownsRow base e size v n xs) (k : Nat) : (w.drewN k).ownsRow base e size v n xs:=h
theorem own_set_other {w : World} {base : Nat} {e : TypeId} {size : Nat} {v : Value} {n : Nat} {xs : List Value} (h : w.ownsRow base e size v n xs) {g j : Nat} (hg : v.ownBlock ≠ some g) (u : Value) : (w.setCell ⟨g,j,none⟩ u).ownsRow base e size v n xs :=
 own_turn h (fun b hb _=>Below.heap_setCell _ _ _ _ (fun e=>hg (by rw [hb,e])))
theorem own_get1 {W : World} {base g n cap : Nat} {e : TypeId} {l : List Int} (h : W.ownsRow base e 1 (.slice (some ⟨g,0,none⟩) n cap) n (flat int64s l)) (hl : l.length = n) {q : Nat} {x : Int} (hq : l[q]? = some x) :
  W.cell? ⟨g,q,none⟩ = some (.int .i64 x):=by
 have hlt:=(List.getElem?_eq_some_iff.1 hq).1
 have:=flat_get int64s_len l hq (j:=0) (by omega)
 rw [h.cellAt _ (by omega)]
 simpa [int64s] using this
set_option maxRecDepth 100000 in
set_option maxHeartbeats 400000 in
theorem wholeNumbers_any (xs : List Int) (S : Nat → Prop) (v : Value) (g cap base : Nat) (w : World) (hR : RdL S w 1 int64s v xs) (hn : xs.length ≤ 2000000)
  (hown : w.ownsRow base 3 1 (.slice (some ⟨g,0,none⟩) (xs.length + 3) cap) (xs.length + 3) (flat int64s (mk77 xs 3))) :
  Calls Tryz.prog 17 #[.slice (some ⟨g,0,none⟩) (xs.length + 3) cap,v] w fun e w'=>e = .returned (.bool true) ∧ w.grownBy w' (some g):=by
 have HC:=hide (numbers_any xs S v w hR hn)
 have HOW:=hide hown
 have hg : g < w.heap.size:=(hown.lt g rfl).2
 have hlen:=mk77_len xs 3 (Nat.le_refl _)
 obtain ⟨n,hN⟩ : ∃ n,xs.length + 3 = n:=⟨_,rfl⟩
 rw [hN] at HC HOW hlen ⊢
 obtain ⟨ys,hys⟩ : ∃ ys,mk77 xs 3 = ys:=⟨_,rfl⟩
 rw [hys] at HC HOW hlen
 have hn' : n ≤ 2000003:=by omega
 have HY:=hide hlen
 clear hN hR hown hys hn hlen
 go_enter Tryz.func17,Tryz.ntmps17
 go_wp2_with fail
 refine HC.out.mono ?_
 rintro e w1 ⟨rfl,ho1,hb1⟩
 have HO1:=hide ho1
 have HB1:=hide hb1
 have hw1 : w.heap.size < w1.heap.size:=(ho1.lt _ rfl).2
 have HW1:=hide hw1
 clear HC ho1 hb1 hw1
 go_wp2
 go_loopw [6,7] (fun ok i wr=>ok = .bool true ∧ (∃ (k : Nat) (zs : List Int),k ≤ n ∧ i = .int .i64 k ∧ zs.length = n ∧ wr.ownsRow base 3 1 (.slice (some ⟨g,0,none⟩) n cap) n (flat int64s zs) ∧ (∀ j,k ≤ j → zs[j]? = ys[j]?)) ∧
   wr.ownsRow w.heap.size 3 1 (.slice (some ⟨w.heap.size,0,none⟩) n n) n (flat int64s ys) ∧ w.grownBy wr (some g))
  (fun _ i _=>n - (intOf i).toNat)
 case atStart=>exact ⟨by simp,⟨0,ys,Nat.zero_le _,rfl,HY.out,own_below HOW.out HB1.out,fun _ _=>rfl⟩,HO1.out,grown_below HB1.out _⟩
 case round =>
  obtain ⟨rfl,⟨k,zs,hk,rfl,hz,hoz,hzy⟩,how,hgr⟩:=hrel
  have HOZ:=hide hoz
  have HOW2:=hide how
  have HGR:=hide hgr
  by_cases hlt : k < n
  ·obtain ⟨y,hy⟩ : ∃ y,ys[k]? = some y:=⟨ys[k]'(by have:=HY.out;omega),by simp⟩
   have c0:=own_get1 hoz hz ((hzy k (Nat.le_refl _)).trans hy)
   have c1:=own_get1 how HY.out hy
   have f0:=hoz.frozenAt k
   have hki : (k : Int) < n:=by omega
   have HZ:=hide hzy
   have HZL:=hide hz
   clear hoz how hgr hzy hy hz
   go_wp2
   go_quiet (fail)
   go_wp2
   go_roundw
   case rel =>
    refine ⟨by simp,⟨k + 1,zs.set k (-99),by omega,by go_num,by simpa using HZL.out,?_,fun j hj=>by rw [List.getElem?_set_ne (by omega)];exact HZ.out j (by omega)⟩,?_,?_⟩
    ·rw [← flat1_set];exact (HOZ.out.stored k _).1
    ·exact own_drewN (own_set_other HOW2.out (by simp [Value.ownBlock];omega) _) _
    ·exact grown_drewN (grown_set HGR.out _) _
   case measure=>simp [intOf];omega
  ·clear hoz how hgr hzy hz
   go_wp2
   go_ret
   exact ⟨rfl,HGR.out⟩
set_option maxRecDepth 100000 in
set_option maxHeartbeats 3000000 in
theorem wholeCode_any (xs : List Ins) (S : Nat → Prop) (v : Value) (g cap base : Nat) (w : World) (hR : RdL S w 5 Ins.vals v xs) (hn : xs.length ≤ 2000000)
  (hown : w.ownsRow base 45 5 (.slice (some ⟨g,0,none⟩) (xs.length + 3) cap) (xs.length + 3) (flat Ins.vals (mkc xs 3))) :
  Calls Tryz.prog 18 #[.slice (some ⟨g,0,none⟩) (xs.length + 3) cap,v] w fun e w'=>e = .returned (.bool true) ∧ w.grownBy w' (some g):=by
 have HC:=hide (code_any xs S v w hR hn)
 have HOW:=hide hown
 have hg : g < w.heap.size:=(hown.lt g rfl).2
 have hlen:=mkc_len xs 3 (Nat.le_refl _)
 obtain ⟨n,hN⟩ : ∃ n,xs.length + 3 = n:=⟨_,rfl⟩
 rw [hN] at HC HOW hlen ⊢
 obtain ⟨ys,hys⟩ : ∃ ys,mkc xs 3 = ys:=⟨_,rfl⟩
 rw [hys] at HC HOW hlen
 have hn' : n ≤ 2000003:=by omega
 have HY:=hide hlen
 clear hN hR hown hys hn hlen
 go_enter Tryz.func18,Tryz.ntmps18
 go_wp2_with fail
 refine HC.out.mono ?_
 rintro e w1 ⟨rfl,ho1,hb1⟩
 have HO1:=hide ho1
 have HB1:=hide hb1
 have hw1 : w.heap.size < w1.heap.size:=(ho1.lt _ rfl).2
 have HW1:=hide hw1
 clear HC ho1 hb1 hw1
 go_wp2
 go_loopw [6,7] (fun ok i wr=>ok = .bool true ∧ (∃ (k : Nat) (zs : List Ins),k ≤ n ∧ i = .int .i64 k ∧ zs.length = n ∧ wr.ownsRow base 45 5 (.slice (some ⟨g,0,none⟩) n cap) n (flat Ins.vals zs) ∧ (∀ j,k ≤ j → zs[j]? = ys[j]?)) ∧
   wr.ownsRow w.heap.size 45 5 (.slice (some ⟨w.heap.size,0,none⟩) n n) n (flat Ins.vals ys) ∧ w.grownBy wr (some g))
  (fun _ i _=>n - (intOf i).toNat)
 case atStart=>exact ⟨by simp,⟨0,ys,Nat.zero_le _,rfl,HY.out,own_below HOW.out HB1.out,fun _ _=>rfl⟩,HO1.out,grown_below HB1.out _⟩
 case round =>
  obtain ⟨rfl,⟨k,zs,hk,rfl,hz,hoz,hzy⟩,how,hgr⟩:=hrel
  have HOZ:=hide hoz
  have HOW2:=hide how
  have HGR:=hide hgr
  by_cases hlt : k < n
  ·obtain ⟨y,hy⟩ : ∃ y,ys[k]? = some y:=⟨ys[k]'(by have:=HY.out;omega),by simp⟩
   obtain ⟨c0,c1,c2,c3,c4⟩:=own_get5 hoz hz ((hzy k (Nat.le_refl _)).trans hy)
   obtain ⟨d0,d1,d2,d3,d4⟩:=own_get5 how HY.out hy
   have f0:=hoz.frozenAt (k * 5)
   have f1:=hoz.frozenAt (k * 5 + 1)
   have f2:=hoz.frozenAt (k * 5 + 2)
   have f3:=hoz.frozenAt (k * 5 + 3)
   have f4:=hoz.frozenAt (k * 5 + 4)
   have hki : (k : Int) < n:=by omega
   have HZ:=hide hzy
   have HZL:=hide hz
   clear hoz how hgr hzy hy hz
   obtain ⟨y0,y1,y2,y3,y4⟩:=y
   simp only at c0 c1 c2 c3 c4 d0 d1 d2 d3 d4
   go_wp2
   go_quiet (fail)
   go_wp2
   go_roundw
   case rel =>
    refine ⟨by simp,⟨k + 1,zs.set k ⟨-99,0,0,0,0⟩,by omega,by go_num,by simpa using HZL.out,?_,fun j hj=>by rw [List.getElem?_set_ne (by omega)];exact HZ.out j (by omega)⟩,?_,?_⟩
    ·exact own_drewN (own_set5 HOZ.out ⟨-99,0,0,0,0⟩ (by have:=HZL.out;omega)) _
    ·have hne : (Value.slice (some ⟨w.heap.size,0,none⟩) n n).ownBlock ≠ some g:=by simp [Value.ownBlock];omega
     exact own_drewN (own_set_other (j:=k * 5 + 4) (own_set_other (j:=k * 5 + 3) (own_set_other (j:=k * 5 + 2) (own_set_other (j:=k * 5 + 1) (own_set_other (j:=k * 5) HOW2.out hne (.int .i64 (-99))) hne (.int .i64 0)) hne (.int .i64 0)) hne (.int .i64 0)) hne (.int .i64 0)) _
    ·exact grown_drewN (grown_set (j:=k * 5 + 4) (grown_set (j:=k * 5 + 3) (grown_set (j:=k * 5 + 2) (grown_set (j:=k * 5 + 1) (grown_set (j:=k * 5) HGR.out (.int .i64 (-99))) (.int .i64 0)) (.int .i64 0)) (.int .i64 0)) (.int .i64 0)) _
   case measure=>simp [intOf];omega
  ·clear hoz how hgr hzy hz
   go_wp2
   go_ret
   exact ⟨rfl,HGR.out⟩
end Go.Proofs.YtkmakliebhnhbaaGreat
