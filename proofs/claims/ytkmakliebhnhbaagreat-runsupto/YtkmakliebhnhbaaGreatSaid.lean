import Derived.Deep.RegionHeld3
import Derived.Deep.DrawnRows
import Derived.Deep.QuietTactic
import Derived.BigQuiet
import Derived.Test.YtkmakliebhnhbaaGreatVals
import Derived.Test.YtkmakliebhnhbaaGreatRows
import Derived.Test.YtkmakliebhnhbaaGreatSer
import Derived.Test.YtkmakliebhnhbaaGreatFrames
namespace Go.Proofs.YtkmakliebhnhbaaGreat
open Go.RowKit
def flat {α : Type} (enc : α → List Value) (l : List α) : List Value:=l.flatMap enc
theorem flat_len {α : Type} {enc : α → List Value} {size : Nat} (hs : ∀ x,(enc x).length = size) (l : List α) : (flat enc l).length = l.length * size:=by
 induction l with
 | nil=>simp [flat]
 | cons x t ih=>simp only [flat,List.flatMap_cons,List.length_append,List.length_cons] at *;rw [ih,hs];rw [Nat.add_mul];omega
theorem flat_get {α : Type} {enc : α → List Value} {size : Nat} (hs : ∀ x,(enc x).length = size) (l : List α) {k j : Nat} {x : α} (hk : l[k]? = some x) (hj : j < size) : (flat enc l)[k * size + j]? = (enc x)[j]?:=by
 induction l generalizing k with
 | nil=>simp at hk
 | cons y t ih =>
  simp only [flat,List.flatMap_cons]
  cases k with
  | zero =>
   simp at hk;subst hk
   rw [List.getElem?_append_left (by rw [hs];omega)];simp
  | succ k =>
   simp at hk
   rw [List.getElem?_append_right (by rw [hs,Nat.add_mul];omega),hs,show (k + 1) * size + j - size = k * size + j by rw [Nat.add_mul];omega]
   exact ih hk
theorem flat_append {α : Type} {enc : α → List Value} (a b : List α) : flat enc (a ++ b) = flat enc a ++ flat enc b:=by simp [flat]
theorem own_rd {α : Type} {enc : α → List Value} {S : Nat → Prop} {W : World} {base : Nat} {e : TypeId} {size : Nat} {v : Value} {l : List α} (h : W.ownsRow base e size v l.length (flat enc l)) (hs : ∀ x,(enc x).length = size)
  (hS : ∀ b,v.ownBlock = some b → S b) : RdL S W size enc v l:=by
 rcases h.2 with ⟨rfl,h0⟩ | ⟨g,cap,cur,rfl,hb,hg,hn,hm,hc,ht⟩
 · exact ⟨none,0,by rw [h0],by omega,by unfold maxLen;omega,.inl ⟨List.eq_nil_of_length_eq_zero h0,fun _=>rfl⟩⟩
 · refine ⟨_,cap,rfl,hn,hm,.inr ⟨g,0,rfl,hS g rfl,fun k x hk j u hu=>?_⟩⟩
  have hj : j < size:=by have:=(List.getElem?_eq_some_iff.1 hu).1;rw [hs] at this;exact this
  have hkl:=(List.getElem?_eq_some_iff.1 hk).1
  have hlt : k * size + j < l.length * size:=by
   have : (k + 1) * size ≤ l.length * size:=Nat.mul_le_mul_right _ hkl
   rw [Nat.add_mul] at this;omega
  rw [Nat.zero_add,World.ownsRow.cellAt h _ hlt,flat_get hs l hk hj,hu]
theorem rd_src {α : Type} {enc : α → List Value} {S : Nat → Prop} {W : World} {size : Nat} {v : Value} {l : List α} (h : RdL S W size enc v l) (hs : ∀ x,(enc x).length = size) (hz : 0 < size) :
  AppSrc W size v l.length (flat enc l):=by
 obtain ⟨a,cap,rfl,hc,hm,h⟩:=h
 rcases h with ⟨rfl,hn⟩ | ⟨b,off,rfl,_,h⟩
 · cases a with
  | none=>obtain rfl:=hn rfl;left;exact ⟨rfl,rfl,rfl⟩
  | some a'=>exact .inr ⟨_,_,rfl,by simp [flat],fun j u hu=>by simp [flat] at hu⟩
 · refine .inr ⟨_,_,rfl,flat_len hs l,fun j u hu=>?_⟩
  have hjl:=(List.getElem?_eq_some_iff.1 hu).1
  rw [flat_len hs] at hjl
  have hk : j / size < l.length:=(Nat.div_lt_iff_lt_mul hz).2 hjl
  have hm' : j % size < size:=Nat.mod_lt _ hz
  have e : j / size * size + j % size = j:=by rw [Nat.mul_comm];exact Nat.div_add_mod j size
  have hx : l[j / size]? = some l[j / size]:=List.getElem?_eq_getElem hk
  have:=flat_get hs l hx hm'
  rw [e,hu] at this
  have h2:=h (j / size) _ hx (j % size) u this.symm
  rw [Addr.add_lit,← h2]
  congr 2
  omega
section
variable {P : Program} (w : World)
theorem run_copy_sized (dT sT ty elem : TypeId) (size g dLen dCap : Nat) (cur : Array Value) (t : TypeId) (sv : Value) (m : Nat) (news : List Value)
  (hu : P.underlying dT = some (.slice elem)) (hs : (P.info? elem).map (·.size) = some size) (hg : w.heap[g]? = some (.cells cur t (0,0))) (hsrc : AppSrc w size sv m news) (hm : m ≤ dLen)
  (hfit : news.length ≤ cur.size) (h1 : ∀ v ∈ news,v.oneCell' = true) :
  (Builtin.copy_ #[dT,sT] ty #[.slice (some ⟨g,0,none⟩) dLen dCap,sv]).run P w = .ok (goInt m) (w.setRow g (news ++ cur.toList.drop news.length).toArray):=by
 rcases hsrc with ⟨rfl,rfl,rfl⟩ | ⟨ad,c,rfl,hl,hc⟩
 · rw [run_copy_nil (P:=P) w dT sT ty elem _ dLen dCap hu (by rw [hs];rfl)]
  simp only [List.nil_append,List.length_nil,List.drop_zero,Array.toArray_toList]
  rw [setRow_self w g cur t (0,0) hg]
  rfl
 · have hl':=run_loadCells_list (P:=P) w ad news hc
  have hst:=run_storeCells_at P g 0 t news 0 cur w hg (by simpa using hfit) h1
  have hmin : Nat.min m dLen = m:=Nat.min_eq_left hm
  have hmin' : min m dLen = m:=Nat.min_eq_left hm
  cases hq : P.info? elem with
  | none=>simp [hq] at hs
  | some i =>
   have hi : i.size = size:=by simpa [hq] using hs
   simp [Builtin.copy_,run_underlying hu,Builtin.lenOf,Builtin.firstCells,sizeOf,typeInfo,hq,hi,hmin',← hl,hl',hst]
theorem wpList_copy {ops : Array Oper} {rest : List Oper} {a : Act} {Q : Exit → Act → World → Prop} (d s : Operand) (dT sT : TypeId) {dst : Option Tmp} {ty : TypeId} {pos : String} {after : Array Edge}
  (elem : TypeId) (size base : Nat) (hu : P.underlying dT = some (.slice elem)) (hsz : (P.info? elem).map (·.size) = some size)
  (g n cap : Nat) (xs : List Value) (hd : a.eval d = .slice (some ⟨g,0,none⟩) n cap) (hown : w.ownsRow base elem size (.slice (some ⟨g,0,none⟩) n cap) n xs)
  (sv : Value) (m : Nat) (news : List Value) (hs : a.eval s = sv) (hsrc : AppSrc w size sv m news) (hm : m ≤ n) (h1 : ∀ v ∈ news,v.oneCell' = true)
  (h : ∀ w',w'.ownsRow base elem size (.slice (some ⟨g,0,none⟩) n cap) n (news ++ xs.drop news.length) → w.grownBy w' (some g) → wpList P ops Q rest (a.put dst (goInt m)) w') :
  wpList P ops Q ({ dst:=dst,op:=.call { callee:=.builtin .copy,args:=#[d,s],argTypes:=#[dT,sT] },type:=ty,pos:=pos,after:=after,guard:=none } :: rest) a w:=by
 refine wpList_plain rfl fun K hK=>?_
 have hl:=hsrc.len
 obtain ⟨hx,hh⟩:=hown
 rcases hh with ⟨hv,_⟩ | ⟨g',cap',cur,hv,hb,hg,hn,hcm,hcs,htake⟩
 · cases hv
 · cases hv
  have hle : m * size ≤ n * size:=Nat.mul_le_mul_right _ hm
  have hle2 : n * size ≤ cap * size:=Nat.mul_le_mul_right _ hn
  have hrun:=run_copy_sized (P:=P) w dT sT ty elem size g n cap cur elem sv m news hu hsz hg hsrc hm (by omega) h1
  unfold Oper.wp
  simp [execOp,resolve,invoke,builtin,hd,hs,hrun,Result.andThen]
  refine hK _ _ (h _ ⟨?_,.inr ⟨g,cap,_,rfl,hb,setRow_heap w g cur _ elem (0,0) hg,hn,hcm,?_,?_⟩⟩ ⟨rfl,rfl,rfl,by simp,fun k _ hk=>setRow_other w g k _ (fun e=>hk (by simp [e]))⟩)
  · simp only [List.length_append,List.length_drop];omega
  · simp only [List.size_toArray,List.length_append,List.length_drop,Array.length_toList];omega
  · rw [← htake]
   simp only [List.take_append,List.drop_take]
   rw [List.take_of_length_le (by omega)]
end
end Go.Proofs.YtkmakliebhnhbaaGreat
namespace Go.Proofs.YtkmakliebhnhbaaGreat
open Go.RowKit
structure Frm (M : Nat → Prop) (W W' : World) : Prop where
 os : W'.os = W.os
 tape : W'.tape = W.tape
 output : W'.output = W.output
 size : W.heap.size ≤ W'.heap.size
 block : ∀ k,k < W.heap.size → ¬ M k → W'.heap[k]? = W.heap[k]?
theorem Frm.refl (M : Nat → Prop) (W : World) : Frm M W W:=⟨rfl,rfl,rfl,Nat.le_refl _,fun _ _ _=>rfl⟩
theorem Frm.trans {M M' : Nat → Prop} {a b c : World} (h : Frm M a b) (k : Frm M' b c) (hM : ∀ i,i < a.heap.size → M' i → M i) : Frm M a c :=
 ⟨k.os.trans h.os,k.tape.trans h.tape,k.output.trans h.output,Nat.le_trans h.size k.size,fun i hi hn=>(k.block i (Nat.lt_of_lt_of_le hi h.size) (fun h'=>hn (hM i hi h'))).trans (h.block i hi hn)⟩
theorem Frm.mono {M M' : Nat → Prop} {a b : World} (h : Frm M a b) (hM : ∀ i,i < a.heap.size → M i → M' i) : Frm M' a b:=⟨h.os,h.tape,h.output,h.size,fun i hi hn=>h.block i hi (fun h'=>hn (hM i hi h'))⟩
theorem Frm.of_grown {a b : World} {row : Option Nat} (h : a.grownBy b row) : Frm (fun k=>row = some k) a b:=⟨h.os,h.tape,h.output,h.size,fun k hk hn=>h.block k hk (fun e=>hn e.symm)⟩
theorem Frm.of_below {a b : World} (M : Nat → Prop) (h : Below a.heap.size a b) : Frm M a b:=⟨h.os,h.tape,h.output,h.size,fun k hk _=>h.block k hk⟩
theorem Frm.alloc {M : Nat → Prop} {a b : World} (h : Frm M a b) (o : Obj) : Frm M a (b.alloc o) :=
 h.trans (M':=fun _=>False) ⟨rfl,rfl,rfl,by simp,fun k hk _=>Below.heap_alloc _ _ _ hk⟩ (fun _ _ h=>h.elim)
theorem Frm.setCell {M : Nat → Prop} {a b : World} (h : Frm M a b) {p : Addr} (hp : M p.block ∨ a.heap.size ≤ p.block) (u : Value) : Frm M a (b.setCell p u) :=
 ⟨h.os,h.tape,h.output,by simpa [World.setCell] using h.size,fun k hk hn=>by
  rw [Below.heap_setCell _ _ _ _ (fun e=>by subst e;rcases hp with hp | hp;exact hn hp;omega)];exact h.block k hk hn⟩
theorem Frm.drewN {M : Nat → Prop} {a b : World} (h : Frm M a b) (n : Nat) : Frm M a (b.drewN n):=⟨h.os,h.tape,h.output,h.size,h.block⟩
structure KS (W0 W : World) (base Bw fi : Nat) (eL eB : TypeId) (size : Nat) (rep : Nat → List Value) (lv nv0 : Value) (ls : List (Value × Nat)) (nv : Value) (us : List Value) : Prop where
 frm : Frm (fun k=>k = Bw ∨ nv0.ownBlock = some k ∨ lv.ownBlock = some k) W0 W
 lt : Bw < W0.heap.size
 oth : ∀ j,j ≠ fi → W.cell? ⟨Bw,j,none⟩ = W0.cell? ⟨Bw,j,none⟩
 fz : ∀ j,W.frozen? ⟨Bw,j,none⟩ = W0.frozen? ⟨Bw,j,none⟩
 fld : W.cell? ⟨Bw,fi,none⟩ = some nv
 book : W.ownsRow base eB 1 nv us.length us
 bw : nv.ownBlock ≠ some Bw
 nvb : nv.ownBlock = nv0.ownBlock ∨ ∃ b,nv.ownBlock = some b ∧ W0.heap.size ≤ b
 lists : ∀ p ∈ ls,W.ownsRow base eL size p.1 p.2 (rep p.2) ∧ (p.1.ownBlock = lv.ownBlock ∨ ∃ b,p.1.ownBlock = some b ∧ W0.heap.size ≤ b) ∧ p.1.ownBlock ≠ some Bw ∧ (∀ b,p.1.ownBlock = some b → nv.ownBlock ≠ some b)
section
variable {W0 W w2 : World} {base Bw fi : Nat} {eL eB : TypeId} {size : Nat} {rep : Nat → List Value} {lv nv0 nv : Value} {ls : List (Value × Nat)} {us : List Value}
theorem KS.addList (h : KS W0 W base Bw fi eL eB size rep lv nv0 ls nv us) (hsz : 0 < size) (hrep : ∀ j m,j ≤ m → (rep m).take (j * size) = rep j) {n m : Nat} (hlv : (lv,n) ∈ ls) (hls : ∀ p ∈ ls,p.2 ≤ n + m) {o : Obj} {a' : Option Addr} {cap' H : Nat} (hH : H = W.heap.size + 1)
  (ho : w2.ownsRow base eL size (.slice a' (n + m) cap') (n + m) (rep (n + m))) (hg : (W.alloc o).grownBy w2 lv.ownBlock) (hlie : (Value.slice a' (n + m) cap').ownBlock = lv.ownBlock ∨ (Value.slice a' (n + m) cap').ownBlock = some H)
  (hway : AppWay (W.alloc o) w2 lv n a' cap') : KS W0 w2 base Bw fi eL eB size rep lv nv0 ((.slice a' (n + m) cap',n + m) :: ls) nv us:=by
 obtain ⟨o1,o2,o3,o4⟩:=h.lists _ hlv
 have hbs : Bw < W.heap.size:=Nat.lt_of_lt_of_le h.lt h.frm.size
 have hB : w2.heap[Bw]? = W.heap[Bw]?:=(hg.block Bw (by simp;omega) (fun e=>o3 e.symm)).trans (Below.heap_alloc _ _ _ hbs)
 have hnv : ∀ b,nv.ownBlock = some b → w2.heap[b]? = W.heap[b]?:=fun b hb=>by
  have hlt:=(h.book.lt b hb).2
  exact (hg.block b (by simp;omega) (fun e=>o4 b e.symm hb)).trans (Below.heap_alloc _ _ _ hlt)
 refine ⟨?_,h.lt,?_,?_,?_,?_,h.bw,h.nvb,?_⟩
 · exact (h.frm.alloc o).trans (Frm.of_grown hg) (fun i _ hi=>.inr (.inr hi))
 · intro j hj
  exact (World.cell?_of_block (w:=W) (a:=⟨Bw,j,none⟩) hB).trans (h.oth j hj)
 · intro j
  exact (World.frozen?_of_block (w:=W) (a:=⟨Bw,j,none⟩) hB).trans (h.fz j)
 · exact (World.cell?_of_block (w:=W) (a:=⟨Bw,fi,none⟩) hB).trans h.fld
 · exact own_turn h.book (fun b hb _=>hnv b hb)
 · intro p hp
  rcases List.mem_cons.1 hp with rfl | hp
  · refine ⟨ho,?_,?_,?_⟩
   · rcases hlie with hl | hl
    · rcases o2 with o2 | ⟨b,hb,hle⟩
     · exact .inl hl
     · exact .inl hl
    · exact .inr ⟨_,hl,by have:=h.frm.size;omega⟩
   · rcases hlie with hl | hl
    · intro e;exact o3 (hl.symm.trans e)
    · intro e;rw [hl] at e;injection e with e;omega
   · intro b hb
    rcases hlie with hl | hl
    · exact o4 b (hl.symm.trans hb)
    · intro e
     have:=(h.book.lt b e).2
     rw [hl] at hb;injection hb with hb;omega
  · obtain ⟨p1,p2,p3,p4⟩:=h.lists p hp
   exact ⟨app_own hsz (o1.alloc o) (p1.alloc o) ho (hrep _ _ (hls p hp)) hg hway (hls p hp),p2,p3,p4⟩
theorem KS.addBook (h : KS W0 W base Bw fi eL eB size rep lv nv0 ls nv us) {o : Obj} {u : Value} {a' : Option Addr} {cap' H q : Nat} (hq : us.length = q) (hH : H = W.heap.size + 1)
  (ho : w2.ownsRow base eB 1 (.slice a' (q + 1) cap') (q + 1) (us ++ [u])) (hg : (W.alloc o).grownBy w2 nv.ownBlock) (hlie : (Value.slice a' (q + 1) cap').ownBlock = nv.ownBlock ∨ (Value.slice a' (q + 1) cap').ownBlock = some H) :
  KS W0 (w2.setCell ⟨Bw,fi,none⟩ (.slice a' (q + 1) cap')) base Bw fi eL eB size rep lv nv0 ls (.slice a' (q + 1) cap') (us ++ [u]):=by
 have hbs : Bw < W.heap.size:=Nat.lt_of_lt_of_le h.lt h.frm.size
 have hB : w2.heap[Bw]? = W.heap[Bw]?:=(hg.block Bw (by simp;omega) (fun e=>h.bw e.symm)).trans (Below.heap_alloc _ _ _ hbs)
 have hbw' : (Value.slice a' (q + 1) cap').ownBlock ≠ some Bw:=by
  rcases hlie with hl | hl
  · rw [hl];exact h.bw
  · rw [hl];intro e;injection e with e;omega
 refine ⟨?_,h.lt,?_,?_,?_,?_,hbw',?_,?_⟩
 · refine Frm.setCell ?_ (.inl (.inl rfl)) _
  refine (h.frm.alloc o).trans (Frm.of_grown hg) (fun i hi hi2=>?_)
  rcases h.nvb with hn | ⟨b,hb,hle⟩
  · exact .inr (.inl (hn.symm.trans hi2))
  · rw [hb] at hi2;injection hi2 with hi2;omega
 · intro j hj
  rw [World.cell?_setCell_other _ _ _ _ (by intro e;injection e with _ e;exact hj e.symm)]
  exact (World.cell?_of_block (w:=W) (a:=⟨Bw,j,none⟩) hB).trans (h.oth j hj)
 · intro j
  rw [World.frozen?_setCell]
  exact (World.frozen?_of_block (w:=W) (a:=⟨Bw,j,none⟩) hB).trans (h.fz j)
 · rw [World.cell?_setCell_same' _ _ _ (by rw [World.cell?_of_block (w:=W) (a:=⟨Bw,fi,none⟩) hB,h.fld];rfl)]
 · have hl : (us ++ [u]).length = q + 1:=by simp [hq]
  rw [hl]
  exact own_turn ho (fun b hb _=>Below.heap_setCell _ _ _ _ (fun e=>hbw' (by rw [hb,e])))
 · rcases hlie with hl | hl
  · rw [hl];exact h.nvb
  · exact .inr ⟨_,hl,by have:=h.frm.size;omega⟩
 · intro p hp
  obtain ⟨p1,p2,p3,p4⟩:=h.lists p hp
  refine ⟨?_,p2,p3,?_⟩
  · refine own_turn p1 (fun b hb hlt=>?_)
   rw [Below.heap_setCell _ _ _ _ (fun e=>p3 (by rw [hb,e])),hg.block b (by simp;omega) (fun e=>p4 b hb e.symm),Below.heap_alloc _ _ _ hlt]
  · intro b hb
   have hlt:=(p1.lt b hb).2
   rcases hlie with hl | hl
   · rw [hl];exact p4 b hb
   · rw [hl];intro e;injection e with e;omega
theorem KS.store (h : KS W0 W base Bw fi eL eB size rep lv nv0 ls nv us) {o : Obj} (hg : (W.alloc o).grownBy w2 nv.ownBlock) : w2.cell? ⟨Bw,fi,none⟩ = some nv ∧ w2.frozen? ⟨Bw,fi,none⟩ = W0.frozen? ⟨Bw,fi,none⟩:=by
 have hbs : Bw < W.heap.size:=Nat.lt_of_lt_of_le h.lt h.frm.size
 have hB : w2.heap[Bw]? = W.heap[Bw]?:=(hg.block Bw (by simp;omega) (fun e=>h.bw e.symm)).trans (Below.heap_alloc _ _ _ hbs)
 exact ⟨(World.cell?_of_block (w:=W) (a:=⟨Bw,fi,none⟩) hB).trans h.fld,(World.frozen?_of_block (w:=W) (a:=⟨Bw,fi,none⟩) hB).trans (h.fz fi)⟩
theorem KS.weaken {w : World} {o : Obj} (h : KS (w.alloc o) W base Bw fi eL eB size rep lv nv0 ls nv us) (hB : Bw < w.heap.size) : KS w W base Bw fi eL eB size rep lv nv0 ls nv us:=by
 have hb : (w.alloc o).heap[Bw]? = w.heap[Bw]?:=Below.heap_alloc _ _ _ hB
 refine ⟨?_,hB,fun j hj=>(h.oth j hj).trans (World.cell?_of_block (w:=w) (a:=⟨Bw,j,none⟩) hb),fun j=>(h.fz j).trans (World.frozen?_of_block (w:=w) (a:=⟨Bw,j,none⟩) hb),h.fld,h.book,h.bw,?_,?_⟩
 · exact (Frm.alloc (Frm.refl _ _) o).trans h.frm (fun _ _ h=>h)
 · rcases h.nvb with h1 | ⟨b,h1,h2⟩
  · exact .inl h1
  · exact .inr ⟨b,h1,by simp at h2;omega⟩
 · intro p hp
  obtain ⟨p1,p2,p3,p4⟩:=h.lists p hp
  refine ⟨p1,?_,p3,p4⟩
  rcases p2 with h1 | ⟨b,h1,h2⟩
  · exact .inl h1
  · exact .inr ⟨b,h1,by simp at h2;omega⟩
end
def repC (cs : List Value) (j : Nat) : List Value:=(List.replicate j cs).flatten
theorem repC_len (cs : List Value) (j : Nat) : (repC cs j).length = j * cs.length:=by
 induction j with
 | zero=>simp [repC]
 | succ j ih=>simp only [repC,List.replicate_succ,List.flatten_cons,List.length_append] at *;rw [ih,Nat.add_mul];omega
theorem repC_add (cs : List Value) (j m : Nat) : repC cs j ++ repC cs m = repC cs (j + m):=by
 simp only [repC,← List.replicate_append_replicate,List.flatten_append]
theorem repC_take {cs : List Value} {size : Nat} (hs : cs.length = size) : ∀ j m,j ≤ m → (repC cs m).take (j * size) = repC cs j:=by
 intro j m h
 obtain ⟨d,rfl⟩:=Nat.le.dest h
 rw [← repC_add,List.take_append_of_le_length (by rw [repC_len,hs];omega),← hs,← repC_len,List.take_length]
theorem repC_one {cs : List Value} (h1 : ∀ u ∈ cs,u.oneCell' = true) (j : Nat) : ∀ u ∈ repC cs j,u.oneCell' = true:=by
 intro u hu
 obtain ⟨l,hl,hu2⟩:=List.mem_flatten.1 hu
 obtain ⟨_,e⟩:=List.mem_replicate.1 hl
 rw [e] at hu2
 exact h1 u hu2
theorem take3_set {zs : List Value} {k n : Nat} {x y z : Value} (hl : zs.length = n * 3) (hk : k < n) (h : zs.take (k * 3) = repC [x,y,z] k) :
  ((((zs.set (k * 3) x).set (k * 3 + 1) y).set (k * 3 + 2) z).take ((k + 1) * 3)) = repC [x,y,z] (k + 1):=by
 rw [← repC_add [x,y,z] k 1,← h,show (k + 1) * 3 = k * 3 + 1 + 1 + 1 by omega]
 rw [List.take_succ_eq_append_getElem (by simp;omega),List.take_succ_eq_append_getElem (by simp;omega),List.take_succ_eq_append_getElem (by simp;omega)]
 simp [List.take_set_of_le,repC]
theorem srcA (W : World) (cs : Array Value) (t : TypeId) (H _n : Nat) (news : List Value) (hH : W.heap.size = H) (hc : cs.toList = news) (size m : Nat) (hl : news.length = m * size) : AppSrc (W.alloc (.cells cs t)) size (.slice (some ⟨H,0,none⟩) m m) m news :=
 .inr ⟨_,_,rfl,hl,by subst hH;subst hc;exact World.news_of_block (cs:=cs) (fr:=(0,0)) (heap_new W _)⟩
def mkZ (m : Nat) : Int:=-1000 - ((m / 4 : Nat) : Int)
end Go.Proofs.YtkmakliebhnhbaaGreat
namespace Go.Proofs.YtkmakliebhnhbaaGreat
open Go.RowKit
theorem Tryz.infoInt' : (Tryz.prog.info? 3).map (fun i=>(i.zero,i.size,i.bytes)) = some (some (.int .i64 0),1,8):=by kernel_rfl
theorem Tryz.infoIns : (Tryz.prog.info? 45).map (fun i=>(i.zero,i.size,i.bytes)) = some (some (.agg #[.int .i64 0,.int .i64 0,.int .i64 0,.int .i64 0,.int .i64 0]),5,40):=by kernel_rfl
theorem Tryz.sizeInt : (Tryz.prog.info? 3).map (·.size) = some 1:=by kernel_rfl
theorem Tryz.sizeIns : (Tryz.prog.info? 45).map (·.size) = some 5:=by kernel_rfl
theorem int64s_len (x : Int) : (int64s x).length = 1:=rfl
theorem insvals_len (x : Ins) : x.vals.length = 5:=rfl
theorem flat_int64s_one (l : List Int) : ∀ u ∈ flat int64s l,u.oneCell' = true:=by
 intro u hu
 obtain ⟨e,_,he⟩:=List.mem_flatMap.1 hu
 simp only [int64s,List.mem_cons,List.not_mem_nil,or_false] at he
 subst he;rfl
theorem flat_ins_one (l : List Ins) : ∀ u ∈ flat Ins.vals l,u.oneCell' = true:=by
 intro u hu
 obtain ⟨e,_,he⟩:=List.mem_flatMap.1 hu
 simp only [Ins.vals,List.mem_cons,List.not_mem_nil,or_false] at he
 rcases he with rfl | rfl | rfl | rfl | rfl <;> rfl
def mk77 (xs : List Int) (k : Nat) : List Int:=xs ++ List.replicate k 77 ++ List.replicate (3 - k) 0
theorem mk77_start (xs : List Int) : flat int64s xs ++ (madeCells #[Value.int .i64 0] (xs.length + 3)).toList.drop (flat int64s xs).length = flat int64s (mk77 xs 0):=by
 rw [toList_madeCells_one,flat_len int64s_len]
 simp [mk77,flat,List.drop_replicate,int64s]
theorem flat1_set (l : List Int) (j : Nat) (z : Int) : (flat int64s l).set j (.int .i64 z) = flat int64s (l.set j z):=by
 have e : ∀ l : List Int,flat int64s l = l.map (Value.int .i64):=fun l=>by induction l with
  | nil=>rfl
  | cons x t ih=>simp only [flat,List.flatMap_cons,List.map_cons] at *;rw [ih];rfl
 rw [e,e,List.map_set]
theorem mk77_step (xs : List Int) (k : Nat) (hk : k < 3) : (mk77 xs k).set (xs.length + k) 77 = mk77 xs (k + 1):=by
 unfold mk77
 rw [List.append_assoc,List.append_assoc,List.set_append_right _ _ (by omega),show xs.length + k - xs.length = k by omega]
 match k,hk with
 | 0,_=>rfl
 | 1,_=>rfl
 | 2,_=>rfl
def i77 : Ins:=⟨77,0,0,0,0⟩
def i00 : Ins:=⟨0,0,0,0,0⟩
def mkc (xs : List Ins) (k : Nat) : List Ins:=xs ++ List.replicate k i77 ++ List.replicate (3 - k) i00
theorem made5 (m : Nat) : (madeCells #[Value.int .i64 0,.int .i64 0,.int .i64 0,.int .i64 0,.int .i64 0] m).toList = List.replicate m (.int .i64 0):=by
 apply List.ext_getElem
 · simp [madeCells]
 · intro j h1 h2
  simp only [madeCells,Array.toList_map,List.getElem_map,Array.getElem_toList,Array.getElem_range,List.getElem_replicate]
  have : j % 5 < 5:=Nat.mod_lt _ (by omega)
  match hq : j % 5,this with
  | 0,_=>simp
  | 1,_=>simp
  | 2,_=>simp
  | 3,_=>simp
  | 4,_=>simp
theorem mkc_start (xs : List Ins) : flat Ins.vals xs ++ (madeCells #[Value.int .i64 0,.int .i64 0,.int .i64 0,.int .i64 0,.int .i64 0] ((xs.length + 3) * 5)).toList.drop (flat Ins.vals xs).length = flat Ins.vals (mkc xs 0):=by
 rw [made5,flat_len insvals_len,List.drop_replicate,show (xs.length + 3) * 5 - xs.length * 5 = 15 by omega]
 simp only [mkc,List.replicate_zero,List.append_nil,flat_append]
 rfl
theorem flat5_set : ∀ (l : List Ins) (j : Nat) (x : Ins),j < l.length → ((((((flat Ins.vals l).set (j * 5) (.int .i64 x.op)).set (j * 5 + 1) (.int .i64 x.f)).set (j * 5 + 2) (.int .i64 x.r)).set (j * 5 + 3) (.int .i64 x.k)).set (j * 5 + 4) (.int .i64 x.l)) = flat Ins.vals (l.set j x)
 | [],j,x,h=>by simp at h
 | y :: t,0,x,_=>by simp [flat,Ins.vals]
 | y :: t,j + 1,x,h=>by
  have ih:=flat5_set t j x (by simpa using h)
  have e : ∀ c u (l : List Value),(y.vals ++ l).set ((j + 1) * 5 + c) u = y.vals ++ l.set (j * 5 + c) u:=fun c u l=>by
   rw [List.set_append_right _ _ (by rw [insvals_len];omega),insvals_len,show (j + 1) * 5 + c - 5 = j * 5 + c by omega]
  have e0:=fun u l=>e 0 u l
  simp only [Nat.add_zero] at e0
  show ((((((y.vals ++ flat Ins.vals t).set ((j + 1) * 5) _).set ((j + 1) * 5 + 1) _).set ((j + 1) * 5 + 2) _).set ((j + 1) * 5 + 3) _).set ((j + 1) * 5 + 4) _) = y.vals ++ flat Ins.vals (t.set j x)
  rw [e0,e,e,e,e,ih]
theorem mkc_step (xs : List Ins) (k : Nat) (hk : k < 3) : (mkc xs k).set (xs.length + k) i77 = mkc xs (k + 1):=by
 unfold mkc
 rw [List.append_assoc,List.append_assoc,List.set_append_right _ _ (by omega),show xs.length + k - xs.length = k by omega]
 match k,hk with
 | 0,_=>rfl
 | 1,_=>rfl
 | 2,_=>rfl
theorem mkc_len (xs : List Ins) (k : Nat) (hk : k ≤ 3) : (mkc xs k).length = xs.length + 3:=by simp [mkc];omega
theorem mk77_len (xs : List Int) (k : Nat) (hk : k ≤ 3) : (mk77 xs k).length = xs.length + 3:=by simp [mk77];omega
theorem own_get5 {W : World} {base g n cap : Nat} {e : TypeId} {l : List Ins} (h : W.ownsRow base e 5 (.slice (some ⟨g,0,none⟩) n cap) n (flat Ins.vals l)) (hl : l.length = n) {q : Nat} {x : Ins} (hq : l[q]? = some x) :
  W.cell? ⟨g,q * 5,none⟩ = some (.int .i64 x.op) ∧ W.cell? ⟨g,q * 5 + 1,none⟩ = some (.int .i64 x.f) ∧ W.cell? ⟨g,q * 5 + 2,none⟩ = some (.int .i64 x.r) ∧ W.cell? ⟨g,q * 5 + 3,none⟩ = some (.int .i64 x.k) ∧ W.cell? ⟨g,q * 5 + 4,none⟩ = some (.int .i64 x.l):=by
 have hlt:=(List.getElem?_eq_some_iff.1 hq).1
 have key : ∀ j,j < 5 → W.cell? ⟨g,q * 5 + j,none⟩ = x.vals[j]?:=fun j hj=>by
  rw [h.cellAt _ (by omega),flat_get insvals_len l hq hj]
 exact ⟨by simpa [Ins.vals] using key 0 (by omega),key 1 (by omega),key 2 (by omega),key 3 (by omega),key 4 (by omega)⟩
theorem own_set5 {W : World} {base g n cap : Nat} {e : TypeId} {l : List Ins} (h : W.ownsRow base e 5 (.slice (some ⟨g,0,none⟩) n cap) n (flat Ins.vals l)) {q : Nat} (x : Ins) (hq : q < l.length) :
  (((((W.setCell ⟨g,q * 5,none⟩ (.int .i64 x.op)).setCell ⟨g,q * 5 + 1,none⟩ (.int .i64 x.f)).setCell ⟨g,q * 5 + 2,none⟩ (.int .i64 x.r)).setCell ⟨g,q * 5 + 3,none⟩ (.int .i64 x.k)).setCell ⟨g,q * 5 + 4,none⟩ (.int .i64 x.l)).ownsRow base e 5 (.slice (some ⟨g,0,none⟩) n cap) n (flat Ins.vals (l.set q x)):=by
 rw [← flat5_set l q x hq]
 exact (((((h.stored _ _).1.stored _ _).1.stored _ _).1.stored _ _).1.stored _ _).1
set_option maxRecDepth 100000 in
set_option maxHeartbeats 400000 in
theorem numbers_any (xs : List Int) (S : Nat → Prop) (v : Value) (w : World) (hR : RdL S w 1 int64s v xs) (hn : xs.length ≤ 2000000) :
  Calls Tryz.prog 14 #[v] w fun e w'=>e = .returned (.slice (some ⟨w.heap.size,0,none⟩) (xs.length + 3) (xs.length + 3)) ∧
   w'.ownsRow w.heap.size 3 1 (.slice (some ⟨w.heap.size,0,none⟩) (xs.length + 3) (xs.length + 3)) (xs.length + 3) (flat int64s (mk77 xs 3)) ∧ Below w.heap.size w w':=by
 have HSRC:=hide (rd_src hR int64s_len (by omega))
 obtain ⟨a,cap,rfl,hc,hm⟩:=hR.form
 obtain ⟨i0,hii,hz0,hz1,hz2⟩:=info_parts Tryz.infoInt'
 obtain ⟨n,hN⟩ : ∃ n,xs.length = n:=⟨_,rfl⟩
 have HN:=hide hN
 rw [hN] at hn hc HSRC ⊢
 clear hR hN
 unfold maxLen at hm
 obtain ⟨news,hnews⟩ : ∃ news,flat int64s xs = news:=⟨_,rfl⟩
 rw [hnews] at HSRC
 have HNW:=hide hnews
 have HON : Hid (∀ u ∈ news,u.oneCell' = true):=by unfold Hid;rw [← hnews];exact flat_int64s_one xs
 clear hnews
 go_enter Tryz.func14,Tryz.ntmps14
 go_wp2_with (at_make;refine wpList_make_full _ rfl _ _ 30 rfl w.heap.size 3 i0 _ 1 Tryz.underlying30 hii hz0 hz1 _ _ _ _ (n + 3) rfl rfl (by simp) (by simp) (by rw [hz2];omega) (by unfold maxLen;omega) (Nat.le_refl _) ?_)
 intro w1 hown hgrow
 obtain ⟨g,hg⟩ : ∃ g,g = w.heap.size:=⟨_,rfl⟩
 have HB1:=hide ((Below.refl _ w).grown hgrow (Nat.le_refl _) (by simp))
 have HSRC1 : Hid (AppSrc w1 1 (.slice a n cap) n news):=by
  rcases HSRC.out with h | ⟨ad,c,e,h1,h2⟩
  · exact .inl h
  · exact .inr ⟨ad,c,e,h1,fun j u hu=>hgrow.cell (h2 j u hu) (by simp)⟩
 have HOW:=hide hown
 rw [← hg] at HOW ⊢
 have HG:=hide hg
 clear hown hgrow hg HSRC
 go_wp2_with (with_reducible refine wpList_copy _ _ _ 30 30 3 1 g Tryz.underlying30 Tryz.sizeInt g (n + 3) (n + 3) _ ?hd HOW.out (.slice a n cap) n news ?hs HSRC1.out ?hm HON.out ?_)
 case hd=>rfl
 case hs=>rfl
 case hm=>omega
 intro w2 hown hgrow
 have HB2:=hide (HB1.out.grown hgrow HB1.out.size (by intro q hq;injection hq with hq;have:=HG.out;omega))
 have HOW2 : Hid (w2.ownsRow g 3 1 (.slice (some ⟨g,0,none⟩) (n + 3) (n + 3)) (n + 3) (flat int64s (mk77 xs 0))):=by
  unfold Hid;rw [← mk77_start,HN.out,HNW.out];exact hown
 clear hown hgrow HOW HSRC1 HB1 hii hz0 hz1 hz2
 go_wp2
 go_loopw [4] (fun i wr=>(∃ k : Nat,k ≤ 3 ∧ i = .int .i64 (↑n + ↑k) ∧ wr.ownsRow g 3 1 (.slice (some ⟨g,0,none⟩) (n + 3) (n + 3)) (n + 3) (flat int64s (mk77 xs k))) ∧ Below w.heap.size w wr)
  (fun i _=>n + 3 - (intOf i).toNat)
 case atStart=>exact ⟨⟨0,by omega,by simp,HOW2.out⟩,HB2.out⟩
 case round =>
  obtain ⟨⟨k,hk,rfl,hown⟩,hBk⟩:=hrel
  have HOW:=hide hown
  have HBk:=hide hBk
  by_cases hlt : k < 3
  · have hnk : n + k < n + 3:=by omega
   have c0:=hown.cellAt (n + k) (by omega)
   have f0:=hown.frozenAt (n + k)
   obtain ⟨u,hu⟩ : ∃ u,(flat int64s (mk77 xs k))[n + k]? = some u:=⟨(flat int64s (mk77 xs k))[n + k]'(by rw [hown.1];omega),by simp⟩
   rw [hu] at c0
   have hcast : (n : Int) + k = ((n + k : Nat) : Int):=by omega
   have HC:=hide hcast
   rw [hcast]
   have hi0 : (0 : Int) ≤ ((n + k : Nat) : Int):=by omega
   have hi1 : ((n + k : Nat) : Int) < ((n + 3 : Nat) : Int):=by omega
   obtain ⟨q,hq⟩ : ∃ q,n + k = q:=⟨_,rfl⟩
   rw [hq] at c0 f0 hi0 hi1 ⊢
   have HQ:=hide hq
   have hi2 : (q : Int) < (n : Int) + 3:=by omega
   clear hown hBk hu hcast hq hnk
   go_wp2
   go_roundw
   case rel =>
    refine ⟨⟨k + 1,by omega,by have:=HQ.out;go_num,?_⟩,HBk.out.setCell (p:=⟨g,q,none⟩) (by have:=HG.out;simp;omega) _⟩
    rw [← mk77_step xs k hlt,HN.out,HQ.out,← flat1_set]
    exact (HOW.out.stored q _).1
   case measure=>have:=HQ.out;simp [intOf];omega
  · obtain rfl : k = 3:=by omega
   clear hown hBk
   go_wp2
   go_ret
   have HB':=HBk.out
   rw [← HG.out] at HB' ⊢
   exact ⟨rfl,HOW.out,HB'⟩
set_option maxRecDepth 100000 in
set_option maxHeartbeats 400000 in
theorem code_any (xs : List Ins) (S : Nat → Prop) (v : Value) (w : World) (hR : RdL S w 5 Ins.vals v xs) (hn : xs.length ≤ 2000000) :
  Calls Tryz.prog 13 #[v] w fun e w'=>e = .returned (.slice (some ⟨w.heap.size,0,none⟩) (xs.length + 3) (xs.length + 3)) ∧
   w'.ownsRow w.heap.size 45 5 (.slice (some ⟨w.heap.size,0,none⟩) (xs.length + 3) (xs.length + 3)) (xs.length + 3) (flat Ins.vals (mkc xs 3)) ∧ Below w.heap.size w w':=by
 have HSRC:=hide (rd_src hR insvals_len (by omega))
 obtain ⟨a,cap,rfl,hc,hm⟩:=hR.form
 obtain ⟨i0,hii,hz0,hz1,hz2⟩:=info_parts Tryz.infoIns
 obtain ⟨n,hN⟩ : ∃ n,xs.length = n:=⟨_,rfl⟩
 have HN:=hide hN
 rw [hN] at hn hc HSRC ⊢
 clear hR hN
 unfold maxLen at hm
 obtain ⟨news,hnews⟩ : ∃ news,flat Ins.vals xs = news:=⟨_,rfl⟩
 rw [hnews] at HSRC
 have HNW:=hide hnews
 have HON : Hid (∀ u ∈ news,u.oneCell' = true):=by unfold Hid;rw [← hnews];exact flat_ins_one xs
 clear hnews
 go_enter Tryz.func13,Tryz.ntmps13
 go_wp2_with (at_make;refine wpList_make_full _ rfl _ _ 46 rfl w.heap.size 45 i0 _ 5 Tryz.underlying46 hii hz0 hz1 _ _ _ _ (n + 3) rfl rfl (by simp) (by simp) (by rw [hz2];omega) (by unfold maxLen;omega) (Nat.le_refl _) ?_)
 intro w1 hown hgrow
 obtain ⟨g,hg⟩ : ∃ g,g = w.heap.size:=⟨_,rfl⟩
 have HB1:=hide ((Below.refl _ w).grown hgrow (Nat.le_refl _) (by simp))
 have HSRC1 : Hid (AppSrc w1 5 (.slice a n cap) n news):=by
  rcases HSRC.out with h | ⟨ad,c,e,h1,h2⟩
  · exact .inl h
  · exact .inr ⟨ad,c,e,h1,fun j u hu=>hgrow.cell (h2 j u hu) (by simp)⟩
 have HOW:=hide hown
 rw [← hg] at HOW ⊢
 have HG:=hide hg
 clear hown hgrow hg HSRC
 go_wp2_with (with_reducible refine wpList_copy _ _ _ 46 46 45 5 g Tryz.underlying46 Tryz.sizeIns g (n + 3) (n + 3) _ ?hd HOW.out (.slice a n cap) n news ?hs HSRC1.out ?hm HON.out ?_)
 case hd=>rfl
 case hs=>rfl
 case hm=>omega
 intro w2 hown hgrow
 have HB2:=hide (HB1.out.grown hgrow HB1.out.size (by intro q hq;injection hq with hq;have:=HG.out;omega))
 have HOW2 : Hid (w2.ownsRow g 45 5 (.slice (some ⟨g,0,none⟩) (n + 3) (n + 3)) (n + 3) (flat Ins.vals (mkc xs 0))):=by
  unfold Hid;rw [← mkc_start,HN.out,HNW.out];exact hown
 clear hown hgrow HOW HSRC1 HB1 hii hz0 hz1 hz2
 go_wp2
 go_loopw [4] (fun i wr=>(∃ k : Nat,k ≤ 3 ∧ i = .int .i64 (↑n + ↑k) ∧ wr.ownsRow g 45 5 (.slice (some ⟨g,0,none⟩) (n + 3) (n + 3)) (n + 3) (flat Ins.vals (mkc xs k))) ∧ Below w.heap.size w wr)
  (fun i _=>n + 3 - (intOf i).toNat)
 case atStart=>exact ⟨⟨0,by omega,by simp,HOW2.out⟩,HB2.out⟩
 case round =>
  obtain ⟨⟨k,hk,rfl,hown⟩,hBk⟩:=hrel
  have HOW:=hide hown
  have HBk:=hide hBk
  by_cases hlt : k < 3
  · have hnk : n + k < n + 3:=by omega
   obtain ⟨u,hu⟩ : ∃ u,(mkc xs k)[n + k]? = some u:=⟨(mkc xs k)[n + k]'(by rw [mkc_len _ _ hk,HN.out];omega),by simp⟩
   obtain ⟨c0,c1,c2,c3,c4⟩:=own_get5 hown (by rw [mkc_len _ _ hk,HN.out]) hu
   have f0:=hown.frozenAt ((n + k) * 5)
   have f1:=hown.frozenAt ((n + k) * 5 + 1)
   have f2:=hown.frozenAt ((n + k) * 5 + 2)
   have f3:=hown.frozenAt ((n + k) * 5 + 3)
   have f4:=hown.frozenAt ((n + k) * 5 + 4)
   have hcast : (n : Int) + k = ((n + k : Nat) : Int):=by omega
   have HC:=hide hcast
   rw [hcast]
   have hi0 : (0 : Int) ≤ ((n + k : Nat) : Int):=by omega
   have hi1 : ((n + k : Nat) : Int) < ((n + 3 : Nat) : Int):=by omega
   obtain ⟨q,hq⟩ : ∃ q,n + k = q:=⟨_,rfl⟩
   rw [hq] at c0 c1 c2 c3 c4 f0 f1 f2 f3 f4 hi0 hi1 ⊢
   have HQ:=hide hq
   have hi2 : (q : Int) < (n : Int) + 3:=by omega
   clear hown hBk hu hcast hq hnk
   go_wp2
   go_roundw
   case rel =>
    have hgb : w.heap.size ≤ g:=by have:=HG.out;omega
    refine ⟨⟨k + 1,by omega,by have:=HQ.out;go_num,?_⟩,((((HBk.out.setCell (p:=⟨g,_,none⟩) hgb _).setCell (p:=⟨g,_,none⟩) hgb _).setCell (p:=⟨g,_,none⟩) hgb _).setCell (p:=⟨g,_,none⟩) hgb _).setCell (p:=⟨g,_,none⟩) hgb _⟩
    rw [← mkc_step xs k hlt,HN.out,HQ.out]
    exact own_set5 HOW.out i77 (by rw [mkc_len _ _ hk,HN.out];have:=HQ.out;omega)
   case measure=>have:=HQ.out;simp [intOf];omega
  · obtain rfl : k = 3:=by omega
   clear hown hBk
   go_wp2
   go_ret
   have HB':=HBk.out
   rw [← HG.out] at HB' ⊢
   exact ⟨rfl,HOW.out,HB'⟩
end Go.Proofs.YtkmakliebhnhbaaGreat
namespace Go.Proofs.YtkmakliebhnhbaaGreat
open Go.RowKit
theorem grown_trans {a b c : World} {row : Option Nat} (h : a.grownBy b row) (k : b.grownBy c row) : a.grownBy c row :=
 ⟨k.os.trans h.os,k.tape.trans h.tape,k.output.trans h.output,Nat.le_trans h.size k.size,fun i hi hne=>(k.block i (Nat.lt_of_lt_of_le hi h.size) hne).trans (h.block i hi hne)⟩
theorem grown_below {a b : World} (h : Below a.heap.size a b) (row : Option Nat) : a.grownBy b row:=⟨h.os,h.tape,h.output,h.size,fun k hk _=>h.block k hk⟩
theorem grown_drewN {a b : World} {row : Option Nat} (h : a.grownBy b row) (n : Nat) : a.grownBy (b.drewN n) row:=grown_trans h ⟨rfl,rfl,rfl,Nat.le_refl _,fun _ _ _=>rfl⟩
theorem grown_set {a b : World} {g j : Nat} (h : a.grownBy b (some g)) (u : Value) : a.grownBy (b.setCell ⟨g,j,none⟩ u) (some g) :=
 grown_trans h ⟨rfl,rfl,rfl,by simp [World.setCell],fun k _ hk=>Below.heap_setCell _ _ _ _ (fun e=>hk (by simp [e]))⟩
theorem own_drewN {w : World} {base : Nat} {e : TypeId} {size : Nat} {v : Value} {n : Nat} {xs : List Value} (h : w.ownsRow base e size v n xs) (k : Nat) : (w.drewN k).ownsRow base e size v n xs:=h
theorem own_set_other {w : World} {base : Nat} {e : TypeId} {size : Nat} {v : Value} {n : Nat} {xs : List Value} (h : w.ownsRow base e size v n xs) {g j : Nat} (hg : v.ownBlock ≠ some g) (u : Value) : (w.setCell ⟨g,j,none⟩ u).ownsRow base e size v n xs :=
 own_turn h (fun b hb _=>Below.heap_setCell _ _ _ _ (fun e=>hg (by rw [hb,e])))
theorem own_get1 {W : World} {base g n cap : Nat} {e : TypeId} {l : List Int} (h : W.ownsRow base e 1 (.slice (some ⟨g,0,none⟩) n cap) n (flat int64s l)) (hl : l.length = n) {q : Nat} {x : Int} (hq : l[q]? = some x) :
  W.cell? ⟨g,q,none⟩ = some (.int .i64 x):=by
 have hlt:=(List.getElem?_eq_some_iff.1 hq).1
 have:=flat_get int64s_len l hq (j:=0) (by omega)
 rw [h.cellAt _ (by omega)]
 simpa [int64s] using this
set_option maxRecDepth 100000 in
set_option maxHeartbeats 400000 in
theorem wholeNumbers_any (xs : List Int) (S : Nat → Prop) (v : Value) (g cap base : Nat) (w : World) (hR : RdL S w 1 int64s v xs) (hn : xs.length ≤ 2000000)
  (hown : w.ownsRow base 3 1 (.slice (some ⟨g,0,none⟩) (xs.length + 3) cap) (xs.length + 3) (flat int64s (mk77 xs 3))) :
  Calls Tryz.prog 17 #[.slice (some ⟨g,0,none⟩) (xs.length + 3) cap,v] w fun e w'=>e = .returned (.bool true) ∧ w.grownBy w' (some g):=by
 have HC:=hide (numbers_any xs S v w hR hn)
 have HOW:=hide hown
 have hg : g < w.heap.size:=(hown.lt g rfl).2
 have hlen:=mk77_len xs 3 (Nat.le_refl _)
 obtain ⟨n,hN⟩ : ∃ n,xs.length + 3 = n:=⟨_,rfl⟩
 rw [hN] at HC HOW hlen ⊢
 obtain ⟨ys,hys⟩ : ∃ ys,mk77 xs 3 = ys:=⟨_,rfl⟩
 rw [hys] at HC HOW hlen
 have hn' : n ≤ 2000003:=by omega
 have HY:=hide hlen
 clear hN hR hown hys hn hlen
 go_enter Tryz.func17,Tryz.ntmps17
 go_wp2_with fail
 refine HC.out.mono ?_
 rintro e w1 ⟨rfl,ho1,hb1⟩
 have HO1:=hide ho1
 have HB1:=hide hb1
 have hw1 : w.heap.size < w1.heap.size:=(ho1.lt _ rfl).2
 have HW1:=hide hw1
 clear HC ho1 hb1 hw1
 go_wp2
 go_loopw [6,7] (fun ok i wr=>ok = .bool true ∧ (∃ (k : Nat) (zs : List Int),k ≤ n ∧ i = .int .i64 k ∧ zs.length = n ∧ wr.ownsRow base 3 1 (.slice (some ⟨g,0,none⟩) n cap) n (flat int64s zs) ∧ (∀ j,k ≤ j → zs[j]? = ys[j]?)) ∧
   wr.ownsRow w.heap.size 3 1 (.slice (some ⟨w.heap.size,0,none⟩) n n) n (flat int64s ys) ∧ w.grownBy wr (some g))
  (fun _ i _=>n - (intOf i).toNat)
 case atStart=>exact ⟨by simp,⟨0,ys,Nat.zero_le _,rfl,HY.out,own_below HOW.out HB1.out,fun _ _=>rfl⟩,HO1.out,grown_below HB1.out _⟩
 case round =>
  obtain ⟨rfl,⟨k,zs,hk,rfl,hz,hoz,hzy⟩,how,hgr⟩:=hrel
  have HOZ:=hide hoz
  have HOW2:=hide how
  have HGR:=hide hgr
  by_cases hlt : k < n
  · obtain ⟨y,hy⟩ : ∃ y,ys[k]? = some y:=⟨ys[k]'(by have:=HY.out;omega),by simp⟩
   have c0:=own_get1 hoz hz ((hzy k (Nat.le_refl _)).trans hy)
   have c1:=own_get1 how HY.out hy
   have f0:=hoz.frozenAt k
   have hki : (k : Int) < n:=by omega
   have HZ:=hide hzy
   have HZL:=hide hz
   clear hoz how hgr hzy hy hz
   go_wp2
   go_quiet (fail)
   go_wp2
   go_roundw
   case rel =>
    refine ⟨by simp,⟨k + 1,zs.set k (-99),by omega,by go_num,by simpa using HZL.out,?_,fun j hj=>by rw [List.getElem?_set_ne (by omega)];exact HZ.out j (by omega)⟩,?_,?_⟩
    · rw [← flat1_set];exact (HOZ.out.stored k _).1
    · exact own_drewN (own_set_other HOW2.out (by simp [Value.ownBlock];omega) _) _
    · exact grown_drewN (grown_set HGR.out _) _
   case measure=>simp [intOf];omega
  · clear hoz how hgr hzy hz
   go_wp2
   go_ret
   exact ⟨rfl,HGR.out⟩
set_option maxRecDepth 100000 in
set_option maxHeartbeats 3000000 in
theorem wholeCode_any (xs : List Ins) (S : Nat → Prop) (v : Value) (g cap base : Nat) (w : World) (hR : RdL S w 5 Ins.vals v xs) (hn : xs.length ≤ 2000000)
  (hown : w.ownsRow base 45 5 (.slice (some ⟨g,0,none⟩) (xs.length + 3) cap) (xs.length + 3) (flat Ins.vals (mkc xs 3))) :
  Calls Tryz.prog 18 #[.slice (some ⟨g,0,none⟩) (xs.length + 3) cap,v] w fun e w'=>e = .returned (.bool true) ∧ w.grownBy w' (some g):=by
 have HC:=hide (code_any xs S v w hR hn)
 have HOW:=hide hown
 have hg : g < w.heap.size:=(hown.lt g rfl).2
 have hlen:=mkc_len xs 3 (Nat.le_refl _)
 obtain ⟨n,hN⟩ : ∃ n,xs.length + 3 = n:=⟨_,rfl⟩
 rw [hN] at HC HOW hlen ⊢
 obtain ⟨ys,hys⟩ : ∃ ys,mkc xs 3 = ys:=⟨_,rfl⟩
 rw [hys] at HC HOW hlen
 have hn' : n ≤ 2000003:=by omega
 have HY:=hide hlen
 clear hN hR hown hys hn hlen
 go_enter Tryz.func18,Tryz.ntmps18
 go_wp2_with fail
 refine HC.out.mono ?_
 rintro e w1 ⟨rfl,ho1,hb1⟩
 have HO1:=hide ho1
 have HB1:=hide hb1
 have hw1 : w.heap.size < w1.heap.size:=(ho1.lt _ rfl).2
 have HW1:=hide hw1
 clear HC ho1 hb1 hw1
 go_wp2
 go_loopw [6,7] (fun ok i wr=>ok = .bool true ∧ (∃ (k : Nat) (zs : List Ins),k ≤ n ∧ i = .int .i64 k ∧ zs.length = n ∧ wr.ownsRow base 45 5 (.slice (some ⟨g,0,none⟩) n cap) n (flat Ins.vals zs) ∧ (∀ j,k ≤ j → zs[j]? = ys[j]?)) ∧
   wr.ownsRow w.heap.size 45 5 (.slice (some ⟨w.heap.size,0,none⟩) n n) n (flat Ins.vals ys) ∧ w.grownBy wr (some g))
  (fun _ i _=>n - (intOf i).toNat)
 case atStart=>exact ⟨by simp,⟨0,ys,Nat.zero_le _,rfl,HY.out,own_below HOW.out HB1.out,fun _ _=>rfl⟩,HO1.out,grown_below HB1.out _⟩
 case round =>
  obtain ⟨rfl,⟨k,zs,hk,rfl,hz,hoz,hzy⟩,how,hgr⟩:=hrel
  have HOZ:=hide hoz
  have HOW2:=hide how
  have HGR:=hide hgr
  by_cases hlt : k < n
  · obtain ⟨y,hy⟩ : ∃ y,ys[k]? = some y:=⟨ys[k]'(by have:=HY.out;omega),by simp⟩
   obtain ⟨c0,c1,c2,c3,c4⟩:=own_get5 hoz hz ((hzy k (Nat.le_refl _)).trans hy)
   obtain ⟨d0,d1,d2,d3,d4⟩:=own_get5 how HY.out hy
   have f0:=hoz.frozenAt (k * 5)
   have f1:=hoz.frozenAt (k * 5 + 1)
   have f2:=hoz.frozenAt (k * 5 + 2)
   have f3:=hoz.frozenAt (k * 5 + 3)
   have f4:=hoz.frozenAt (k * 5 + 4)
   have hki : (k : Int) < n:=by omega
   have HZ:=hide hzy
   have HZL:=hide hz
   clear hoz how hgr hzy hy hz
   obtain ⟨y0,y1,y2,y3,y4⟩:=y
   simp only at c0 c1 c2 c3 c4 d0 d1 d2 d3 d4
   go_wp2
   go_quiet (fail)
   go_wp2
   go_roundw
   case rel =>
    refine ⟨by simp,⟨k + 1,zs.set k ⟨-99,0,0,0,0⟩,by omega,by go_num,by simpa using HZL.out,?_,fun j hj=>by rw [List.getElem?_set_ne (by omega)];exact HZ.out j (by omega)⟩,?_,?_⟩
    · exact own_drewN (own_set5 HOZ.out ⟨-99,0,0,0,0⟩ (by have:=HZL.out;omega)) _
    · have hne : (Value.slice (some ⟨w.heap.size,0,none⟩) n n).ownBlock ≠ some g:=by simp [Value.ownBlock];omega
     exact own_drewN (own_set_other (j:=k * 5 + 4) (own_set_other (j:=k * 5 + 3) (own_set_other (j:=k * 5 + 2) (own_set_other (j:=k * 5 + 1) (own_set_other (j:=k * 5) HOW2.out hne (.int .i64 (-99))) hne (.int .i64 0)) hne (.int .i64 0)) hne (.int .i64 0)) hne (.int .i64 0)) _
    · exact grown_drewN (grown_set (j:=k * 5 + 4) (grown_set (j:=k * 5 + 3) (grown_set (j:=k * 5 + 2) (grown_set (j:=k * 5 + 1) (grown_set (j:=k * 5) HGR.out (.int .i64 (-99))) (.int .i64 0)) (.int .i64 0)) (.int .i64 0)) (.int .i64 0)) _
   case measure=>simp [intOf];omega
  · clear hoz how hgr hzy hz
   go_wp2
   go_ret
   exact ⟨rfl,HGR.out⟩
end Go.Proofs.YtkmakliebhnhbaaGreat
namespace Go.Proofs.YtkmakliebhnhbaaGreat
open Go.RowKit
theorem Tryz.infoL64 : (Tryz.prog.info? 87).map (fun i=>(i.zero,i.size,i.bytes)) = some (some (.slice none 0 0),1,24):=by kernel_rfl
theorem Tryz.infoI64' : (Tryz.prog.info? 2).map (fun i=>(i.zero,i.size,i.bytes)) = some (some (.int .i64 0),1,8):=by kernel_rfl
def repN (mk : Int) (j : Nat) : List Value:=List.replicate j (.int .i64 mk)
theorem repN_take (mk : Int) : ∀ j m,j ≤ m → (repN mk m).take (j * 1) = repN mk j:=by
 intro j m h;simp [repN,List.take_replicate,Nat.min_eq_left h]
theorem repN_one (mk : Int) (j : Nat) : ∀ u ∈ repN mk j,u.oneCell' = true:=by
 intro u hu;obtain ⟨_,rfl⟩:=List.mem_replicate.1 hu;rfl
theorem repN_add (mk : Int) (j m : Nat) : repN mk j ++ repN mk m = repN mk (j + m):=by simp [repN,List.replicate_append_replicate]
set_option maxRecDepth 100000 in
set_option maxHeartbeats 2000000 in
theorem keepNums_any (base Bw n : Nat) (lv nv : Value) (xs us : List Value) (w : World) (hn : n ≤ 200000000) (hm : us.length ≤ 200000000) (hB : Bw < w.heap.size) (hbase : base ≤ w.heap.size)
  (hf : w.cell? ⟨Bw,2,none⟩ = some nv) (hfz : w.frozen? ⟨Bw,2,none⟩ = false) (hnv : w.ownsRow base 87 1 nv us.length us) (hlv : w.ownsRow base 2 1 lv n xs)
  (hnb : nv.ownBlock ≠ some Bw) (hlb : lv.ownBlock ≠ some Bw) (hln : ∀ b,lv.ownBlock = some b → nv.ownBlock ≠ some b) :
  Calls Tryz.prog 55 #[.pointer (some ⟨Bw,0,none⟩),lv] w fun e w'=>∃ a b c nv',e = .returned (.tuple #[]) ∧
   KS w w' base Bw 2 2 87 1 (repN (mkZ us.length)) lv nv [(c,n + 3),(b,n + 2),(a,n + 1),(lv,n)] nv' (us ++ [lv] ++ [a] ++ [b] ++ [c]):=by
 obtain ⟨la,lc,rfl⟩:=own_form hlv
 obtain ⟨na,nc,rfl⟩:=own_form hnv
 obtain ⟨ib,hib,hb0,hb1,hb2⟩:=info_parts Tryz.infoL64
 obtain ⟨il,hil,hl0,hl1,hl2⟩:=info_parts Tryz.infoI64'
 have HNV:=hide hnv
 have HLV:=hide hlv
 have HLN:=hide hln
 have HNB:=hide hnb
 have HLB:=hide hlb
 obtain ⟨m,hM⟩ : ∃ m,us.length = m:=⟨_,rfl⟩
 have HM:=hide hM
 have hm' : m ≤ 200000000:=by omega
 rw [hM] at hf
 clear hnv hlv hln hnb hlb hM hm
 go_enter Tryz.func55,Tryz.ntmps55
 go_wp2
 obtain ⟨mk,hmk⟩ : ∃ mk : Int,-1000 - (m : Int) / 4 = mk:=⟨_,rfl⟩
 have HMK : Hid (mkZ us.length = mk):=by unfold Hid mkZ;rw [HM.out];simp only [Int.natCast_ediv];exact hmk
 rw [hmk]
 clear hmk
 go_loopw [5] (fun i wr=>(∃ (k : Nat) (zs : List Value),k ≤ n ∧ i = .int .i64 k ∧ wr.ownsRow base 2 1 (.slice la n lc) n zs ∧ zs.take k = repN mk k) ∧ Frm (fun k=>(Value.slice la n lc).ownBlock = some k) w wr)
  (fun i _=>n - (intOf i).toNat)
 case atStart=>exact ⟨⟨0,xs,Nat.zero_le _,rfl,HLV.out,by simp [repN]⟩,Frm.refl _ _⟩
 case round =>
  obtain ⟨⟨k,zs,hk,rfl,hoz,hzk⟩,hfr⟩:=hrel
  have HOZ:=hide hoz
  have HFR:=hide hfr
  have HZK:=hide hzk
  by_cases hlt : k < n
  · obtain ⟨g,cap',hv',hbg,hgl⟩:=hoz.form (by omega)
   cases hv'
   obtain ⟨u,hu⟩ : ∃ u,zs[k]? = some u:=⟨zs[k]'(by rw [hoz.1];omega),by simp⟩
   have c0:=hoz.cellAt k (by omega)
   rw [hu] at c0
   have f0:=hoz.frozenAt k
   have hki : (k : Int) < n:=by omega
   clear hoz hfr hzk hu
   go_wp2
   go_roundw
   case rel =>
    refine ⟨⟨k + 1,zs.set k (.int .i64 mk),by omega,by go_num,(HOZ.out.stored k _).1,?_⟩,HFR.out.setCell (p:=⟨g,k,none⟩) (.inl rfl) _⟩
    have hzl : zs.length = n:=by have:=HOZ.out.1;omega
    rw [List.take_succ_eq_append_getElem (by simp;omega),List.take_set_of_le (Nat.le_refl _),HZK.out]
    simp [repN,List.replicate_succ']
   case measure=>simp [intOf];omega
  · obtain rfl : n = k:=by omega
   have hzl : zs.length = n:=by have:=hoz.1;omega
   have hzs : zs = repN mk n:=by rw [← hzk,← hzl,List.take_length]
   subst hzs
   have hBB : wr.heap[Bw]? = w.heap[Bw]?:=hfr.block Bw hB HLB.out
   have K0 : Hid (KS w wr base Bw 2 2 87 1 (repN mk) (.slice la n lc) (.slice na us.length nc) [(.slice la n lc,n)] (.slice na us.length nc) us):=by
    refine ⟨hfr.mono (fun i _ h=>.inr (.inr h)),hB,fun j _=>World.cell?_of_block (w:=w) (a:=⟨Bw,j,none⟩) hBB,fun j=>World.frozen?_of_block (w:=w) (a:=⟨Bw,j,none⟩) hBB,?_,?_,HNB.out,.inl rfl,?_⟩
    · rw [HM.out];exact (World.cell?_of_block (w:=w) (a:=⟨Bw,2,none⟩) hBB).trans hf
    · exact own_turn HNV.out (fun b hb hlt=>hfr.block b hlt (fun h=>HLN.out b h hb))
    · intro p hp
     rw [List.mem_singleton] at hp
     subst hp
     exact ⟨hoz,.inl rfl,HLB.out,HLN.out⟩
   have hw0:=hfr.size
   have HFZ:=hide hfz
   clear hoz hfr hzk hBB hzl HOZ HFR HZK hf hfz
   go_wp2_with (at_builtin;refine wpList_app2 _ rfl _ _ 87 rfl base 2 il _ 1 8 Tryz.underlying87 hil hl0 hl1 hl2 rfl (by decide) _ _ _ rfl ((K0.out.lists (.slice la n lc,n) (by simp)).1.alloc _) (.slice (some ⟨wr.heap.size,0,none⟩) 1 1) 1 (repN mk 1) rfl (srcA _ _ _ _ 0 _ rfl rfl 1 1 rfl) (repN_one _ _) ?h63 ?hbytes ?hbase ?_)
   case h63=>unfold maxLen;omega
   case hbytes=>omega
   case hbase=>simp;omega
   intro a1 c1 w1 ho hg _ hlie hway
   rw [repN_add] at ho
   have K1:=hide (K0.out.addList (by omega) (repN_take mk) (n:=n) (m:=1) (by simp) (by intro p hp;simp at hp;rcases hp with rfl <;> simp) rfl ho hg hlie hway)
   have hw1 : wr.heap.size ≤ w1.heap.size:=by have:=hg.size;simp at this;omega
   clear ho hg hlie hway
   go_wp2_with (at_builtin;refine wpList_app2 _ rfl _ _ 87 rfl base 2 il _ 1 8 Tryz.underlying87 hil hl0 hl1 hl2 rfl (by decide) _ _ _ rfl ((K1.out.lists (.slice la n lc,n) (by simp)).1.alloc _) (.slice (some ⟨w1.heap.size,0,none⟩) 2 2) 2 (repN mk 2) rfl (srcA _ _ _ _ 0 _ rfl rfl 1 2 rfl) (repN_one _ _) ?h63 ?hbytes ?hbase ?_)
   case h63=>unfold maxLen;omega
   case hbytes=>omega
   case hbase=>simp;omega
   intro a2 c2 w2 ho hg _ hlie hway
   rw [repN_add] at ho
   have K2:=hide (K1.out.addList (by omega) (repN_take mk) (n:=n) (m:=2) (by simp) (by intro p hp;simp at hp;rcases hp with rfl | rfl <;> simp) rfl ho hg hlie hway)
   have hw2 : w1.heap.size ≤ w2.heap.size:=by have:=hg.size;simp at this;omega
   clear ho hg hlie hway
   go_wp2_with (at_builtin;refine wpList_app2 _ rfl _ _ 87 rfl base 2 il _ 1 8 Tryz.underlying87 hil hl0 hl1 hl2 rfl (by decide) _ _ _ rfl ((K2.out.lists (.slice la n lc,n) (by simp)).1.alloc _) (.slice (some ⟨w2.heap.size,0,none⟩) 3 3) 3 (repN mk 3) rfl (srcA _ _ _ _ 0 _ rfl rfl 1 3 rfl) (repN_one _ _) ?h63 ?hbytes ?hbase ?_)
   case h63=>unfold maxLen;omega
   case hbytes=>omega
   case hbase=>simp;omega
   intro a3 c3 w3 ho hg _ hlie hway
   rw [repN_add] at ho
   have K3:=hide (K2.out.addList (by omega) (repN_take mk) (n:=n) (m:=3) (by simp) (by intro p hp;simp at hp;rcases hp with rfl | rfl | rfl <;> simp) rfl ho hg hlie hway)
   have hw3 : w2.heap.size ≤ w3.heap.size:=by have:=hg.size;simp at this;omega
   clear ho hg hlie hway
   rw [HM.out] at K3
   have B0 : Hid (w3.ownsRow base 87 1 (.slice na m nc) m us):=by have:=K3.out.book;rw [HM.out] at this;exact this
   have fc:=K3.out.fld
   have hbw3 : Bw < w3.heap.size:=by omega
   go_wp2_with (at_builtin;refine wpList_app2 _ rfl _ _ 37 rfl base 87 ib _ 1 24 Tryz.underlying37 hib hb0 hb1 hb2 rfl (by decide) _ m _ rfl (B0.out.alloc _) (.slice (some ⟨w3.heap.size,0,none⟩) 1 1) 1 [.slice la n lc] rfl (srcA _ _ _ _ 0 _ (by simp) rfl 1 1 rfl) ?h1 ?h63 ?hbytes ?hbase ?_)
   case h1=>simp [Value.oneCell']
   case h63=>unfold maxLen;omega
   case hbytes=>omega
   case hbase=>simp;omega
   intro p1 d1 x1 ho hg _ hlie _
   obtain ⟨s0,s1⟩:=K3.out.store hg
   rw [HFZ.out] at s1
   have K4:=hide (K3.out.addBook (q:=m) (H:=w3.heap.size + 1) (by simp [HM.out]) rfl ho hg hlie)
   have B1 : Hid ((x1.setCell ⟨Bw,2,none⟩ (.slice p1 (m + 1) d1)).ownsRow base 87 1 (.slice p1 (m + 1) d1) (m + 1) (us ++ [.slice la n lc])):=by have:=K4.out.book;simp only [List.length_append,List.length_cons,List.length_nil,HM.out] at this;exact this
   have hx1 : w3.heap.size ≤ x1.heap.size:=by have:=hg.size;simp at this;omega
   have hbx1 : Bw < x1.heap.size:=by omega
   clear ho hg hlie fc
   go_wp2_with (at_builtin;refine wpList_app2 _ rfl _ _ 37 rfl base 87 ib _ 1 24 Tryz.underlying37 hib hb0 hb1 hb2 rfl (by decide) _ (m + 1) _ rfl (B1.out.alloc _) (.slice (some ⟨x1.heap.size,0,none⟩) 1 1) 1 [.slice a1 (n + 1) c1] rfl (srcA _ _ _ _ 0 _ (by simp) rfl 1 1 rfl) ?h1 ?h63 ?hbytes ?hbase ?_)
   case h1=>simp [Value.oneCell']
   case h63=>unfold maxLen;omega
   case hbytes=>omega
   case hbase=>simp;omega
   intro p2 d2 x2 ho hg _ hlie _
   obtain ⟨s0,s1⟩:=K4.out.store hg
   rw [HFZ.out] at s1
   have K5:=hide (K4.out.addBook (u:=.slice a1 (n + 1) c1) (q:=(m + 1)) (H:=x1.heap.size + 1) (by simp [HM.out]) (by simp [World.setCell]) (by simpa using ho) hg hlie)
   have B2 : Hid ((x2.setCell ⟨Bw,2,none⟩ (.slice p2 ((m + 1) + 1) d2)).ownsRow base 87 1 (.slice p2 ((m + 1) + 1) d2) ((m + 1) + 1) (us ++ [.slice la n lc] ++ [.slice a1 (n + 1) c1])):=by have:=K5.out.book;simp only [List.length_append,List.length_cons,List.length_nil,HM.out] at this;exact this
   have hx2 : x1.heap.size ≤ x2.heap.size:=by have:=hg.size;simp at this;omega
   have hbx2 : Bw < x2.heap.size:=by omega
   clear ho hg hlie
   go_wp2_with (at_builtin;refine wpList_app2 _ rfl _ _ 37 rfl base 87 ib _ 1 24 Tryz.underlying37 hib hb0 hb1 hb2 rfl (by decide) _ (m + 1 + 1) _ rfl (B2.out.alloc _) (.slice (some ⟨x2.heap.size,0,none⟩) 1 1) 1 [.slice a2 (n + 2) c2] rfl (srcA _ _ _ _ 0 _ (by simp) rfl 1 1 rfl) ?h1 ?h63 ?hbytes ?hbase ?_)
   case h1=>simp [Value.oneCell']
   case h63=>unfold maxLen;omega
   case hbytes=>omega
   case hbase=>simp;omega
   intro p3 d3 x3 ho hg _ hlie _
   obtain ⟨s0,s1⟩:=K5.out.store hg
   rw [HFZ.out] at s1
   have K6:=hide (K5.out.addBook (u:=.slice a2 (n + 2) c2) (q:=(m + 1 + 1)) (H:=x2.heap.size + 1) (by simp [HM.out]) (by simp [World.setCell]) (by simpa using ho) hg hlie)
   have B3 : Hid ((x3.setCell ⟨Bw,2,none⟩ (.slice p3 ((m + 1 + 1) + 1) d3)).ownsRow base 87 1 (.slice p3 ((m + 1 + 1) + 1) d3) ((m + 1 + 1) + 1) (us ++ [.slice la n lc] ++ [.slice a1 (n + 1) c1] ++ [.slice a2 (n + 2) c2])):=by have:=K6.out.book;simp only [List.length_append,List.length_cons,List.length_nil,HM.out] at this;exact this
   have hx3 : x2.heap.size ≤ x3.heap.size:=by have:=hg.size;simp at this;omega
   have hbx3 : Bw < x3.heap.size:=by omega
   clear ho hg hlie
   go_wp2_with (at_builtin;refine wpList_app2 _ rfl _ _ 37 rfl base 87 ib _ 1 24 Tryz.underlying37 hib hb0 hb1 hb2 rfl (by decide) _ (m + 1 + 1 + 1) _ rfl (B3.out.alloc _) (.slice (some ⟨x3.heap.size,0,none⟩) 1 1) 1 [.slice a3 (n + 3) c3] rfl (srcA _ _ _ _ 0 _ (by simp) rfl 1 1 rfl) ?h1 ?h63 ?hbytes ?hbase ?_)
   case h1=>simp [Value.oneCell']
   case h63=>unfold maxLen;omega
   case hbytes=>omega
   case hbase=>simp;omega
   intro p4 d4 x4 ho hg _ hlie _
   obtain ⟨s0,s1⟩:=K6.out.store hg
   rw [HFZ.out] at s1
   have K7:=hide (K6.out.addBook (u:=.slice a3 (n + 3) c3) (q:=(m + 1 + 1 + 1)) (H:=x3.heap.size + 1) (by simp [HM.out]) (by simp [World.setCell]) (by simpa using ho) hg hlie)
   have B4 : Hid ((x4.setCell ⟨Bw,2,none⟩ (.slice p4 ((m + 1 + 1 + 1) + 1) d4)).ownsRow base 87 1 (.slice p4 ((m + 1 + 1 + 1) + 1) d4) ((m + 1 + 1 + 1) + 1) (us ++ [.slice la n lc] ++ [.slice a1 (n + 1) c1] ++ [.slice a2 (n + 2) c2] ++ [.slice a3 (n + 3) c3])):=by have:=K7.out.book;simp only [List.length_append,List.length_cons,List.length_nil,HM.out] at this;exact this
   have hx4 : x3.heap.size ≤ x4.heap.size:=by have:=hg.size;simp at this;omega
   have hbx4 : Bw < x4.heap.size:=by omega
   clear ho hg hlie
   go_wp2
   go_end0
   exact ⟨_,_,_,_,rfl,by rw [HMK.out,HM.out];exact K7.out⟩
end Go.Proofs.YtkmakliebhnhbaaGreat
namespace Go.Proofs.YtkmakliebhnhbaaGreat
open Go.RowKit
theorem Tryz.infoLE : (Tryz.prog.info? 65).map (fun i=>(i.zero,i.size,i.bytes)) = some (some (.slice none 0 0),1,24):=by kernel_rfl
theorem Tryz.infoE' : (Tryz.prog.info? 89).map (fun i=>(i.zero,i.size,i.bytes)) = some (some (.agg #[.int .i64 0,.int .i64 0,.int .i64 0]),3,24):=by kernel_rfl
def evMk (m : Nat) : List Value:=[.int .i64 (mkZ m),.int .i64 0,.int .i64 0]
set_option maxRecDepth 100000 in
set_option maxHeartbeats 3000000 in
theorem keepEvents_any (base Bw n : Nat) (lv nv : Value) (xs us : List Value) (w : World) (hn : n ≤ 200000000) (hm : us.length ≤ 200000000) (hB : Bw < w.heap.size) (hbase : base ≤ w.heap.size)
  (hf : w.cell? ⟨Bw,3,none⟩ = some nv) (hfz : w.frozen? ⟨Bw,3,none⟩ = false) (hnv : w.ownsRow base 65 1 nv us.length us) (hlv : w.ownsRow base 89 3 lv n xs)
  (hnb : nv.ownBlock ≠ some Bw) (hlb : lv.ownBlock ≠ some Bw) (hln : ∀ b,lv.ownBlock = some b → nv.ownBlock ≠ some b) :
  Calls Tryz.prog 40 #[.pointer (some ⟨Bw,0,none⟩),lv] w fun e w'=>∃ a b c nv',e = .returned (.tuple #[]) ∧
   KS w w' base Bw 3 89 65 3 (repC (evMk us.length)) lv nv [(c,n + 3),(b,n + 2),(a,n + 1),(lv,n)] nv' (us ++ [lv] ++ [a] ++ [b] ++ [c]):=by
 obtain ⟨la,lc,rfl⟩:=own_form hlv
 obtain ⟨na,nc,rfl⟩:=own_form hnv
 obtain ⟨ib,hib,hb0,hb1,hb2⟩:=info_parts Tryz.infoLE
 obtain ⟨il,hil,hl0,hl1,hl2⟩:=info_parts Tryz.infoE'
 have HLN:=hide hln
 have HNB:=hide hnb
 have HLB:=hide hlb
 obtain ⟨m,hM⟩ : ∃ m,us.length = m:=⟨_,rfl⟩
 have HM:=hide hM
 have hm' : m ≤ 200000000:=by omega
 rw [hM] at hf
 have HNV':=hide hnv
 have HLV':=hide hlv
 clear hnv hlv hln hnb hlb hM hm
 go_enter Tryz.func40,Tryz.ntmps40
 go_wp2
 obtain ⟨mk,hmk⟩ : ∃ mk : Int,-1000 - (m : Int) / 4 = mk:=⟨_,rfl⟩
 have HMK : Hid (mkZ us.length = mk):=by unfold Hid mkZ;rw [HM.out];simp only [Int.natCast_ediv];exact hmk
 rw [hmk]
 clear hmk
 obtain ⟨o0,ho0⟩ : ∃ o0,Obj.cells #[.int .i64 mk,.int .i64 0,.int .i64 0] 89 = o0:=⟨_,rfl⟩
 rw [ho0]
 obtain ⟨w0,hw0⟩ : ∃ w0,w.alloc o0 = w0:=⟨_,rfl⟩
 have HW0:=hide hw0
 obtain ⟨mb,hmb⟩ : ∃ mb,w.heap.size = mb:=⟨_,rfl⟩
 have hnew : w0.heap[mb]? = some o0:=by rw [← hw0,← hmb];exact heap_new w o0
 have m0 : w0.cell? ⟨mb,0,none⟩ = some (.int .i64 mk):=by simp [World.cell?,hnew,← ho0]
 have m1 : w0.cell? ⟨mb,1,none⟩ = some (.int .i64 0):=by simp [World.cell?,hnew,← ho0]
 have m2 : w0.cell? ⟨mb,2,none⟩ = some (.int .i64 0):=by simp [World.cell?,hnew,← ho0]
 have hmlt : mb < w0.heap.size:=by rw [← hw0,← hmb];simp
 have hBb : w0.heap[Bw]? = w.heap[Bw]?:=by rw [← hw0];exact Below.heap_alloc _ _ _ hB
 have HB0 : Hid (Bw < w0.heap.size):=by unfold Hid;omega
 have HMB : Hid (mb ≠ Bw):=by unfold Hid;omega
 have HML : Hid (¬ (Value.slice la n lc).ownBlock = some mb):=fun h=>by have:=(HLV'.out.lt mb h).2;omega
 have HMN : Hid (¬ (Value.slice na us.length nc).ownBlock = some mb):=fun h=>by have:=(HNV'.out.lt mb h).2;omega
 have HLV : Hid (w0.ownsRow base 89 3 (.slice la n lc) n xs):=by unfold Hid;rw [← hw0];exact HLV'.out.alloc _
 have HNV : Hid (w0.ownsRow base 65 1 (.slice na us.length nc) us.length us):=by unfold Hid;rw [← hw0];exact HNV'.out.alloc _
 have hf0 : w0.cell? ⟨Bw,3,none⟩ = some (.slice na m nc):=(World.cell?_of_block (w:=w) (a:=⟨Bw,3,none⟩) hBb).trans hf
 have HFZ : Hid (w0.frozen? ⟨Bw,3,none⟩ = false):=(World.frozen?_of_block (w:=w) (a:=⟨Bw,3,none⟩) hBb).trans hfz
 have hbs0 : base ≤ w0.heap.size:=by omega
 have HWB:=hide hB
 rw [hw0,hmb]
 clear hw0 hmb hnew ho0 hBb hf hfz HLV' HNV' hB
 go_loopw [5] (fun i wr=>(∃ (k : Nat) (zs : List Value),k ≤ n ∧ i = .int .i64 k ∧ wr.ownsRow base 89 3 (.slice la n lc) n zs ∧ zs.take (k * 3) = repC [.int .i64 mk,.int .i64 0,.int .i64 0] k) ∧ Frm (fun k=>(Value.slice la n lc).ownBlock = some k) w0 wr)
  (fun i _=>n - (intOf i).toNat)
 case atStart=>exact ⟨⟨0,xs,Nat.zero_le _,rfl,HLV.out,by simp [repC]⟩,Frm.refl _ _⟩
 case round =>
  obtain ⟨⟨k,zs,hk,rfl,hoz,hzk⟩,hfr⟩:=hrel
  have HOZ:=hide hoz
  have HFR:=hide hfr
  have HZK:=hide hzk
  have hmb : wr.heap[mb]? = w0.heap[mb]?:=hfr.block mb hmlt HML.out
  have r0:=(World.cell?_of_block (w:=w0) (a:=⟨mb,0,none⟩) hmb).trans m0
  have r1:=(World.cell?_of_block (w:=w0) (a:=⟨mb,1,none⟩) hmb).trans m1
  have r2:=(World.cell?_of_block (w:=w0) (a:=⟨mb,2,none⟩) hmb).trans m2
  have hmlr : mb < wr.heap.size:=Nat.lt_of_lt_of_le hmlt hfr.size
  by_cases hlt : k < n
  · obtain ⟨g,cap',hv',hbg,hgl⟩:=hoz.form (by omega)
   cases hv'
   have hzl:=hoz.1
   obtain ⟨u0,hu0⟩ : ∃ u,zs[k * 3]? = some u:=⟨zs[k * 3]'(by omega),by simp⟩
   obtain ⟨u1,hu1⟩ : ∃ u,zs[k * 3 + 1]? = some u:=⟨zs[k * 3 + 1]'(by omega),by simp⟩
   obtain ⟨u2,hu2⟩ : ∃ u,zs[k * 3 + 2]? = some u:=⟨zs[k * 3 + 2]'(by omega),by simp⟩
   have c0:=hoz.cellAt (k * 3) (by omega)
   have c1:=hoz.cellAt (k * 3 + 1) (by omega)
   have c2:=hoz.cellAt (k * 3 + 2) (by omega)
   rw [hu0] at c0
   rw [hu1] at c1
   rw [hu2] at c2
   have f0:=hoz.frozenAt (k * 3)
   have f1:=hoz.frozenAt (k * 3 + 1)
   have f2:=hoz.frozenAt (k * 3 + 2)
   have hki : (k : Int) < n:=by omega
   have HZL:=hide hzl
   clear hoz hfr hzk hu0 hu1 hu2 hmb hzl m0 m1 m2 hf0
   go_wp2
   go_roundw
   case rel =>
    refine ⟨⟨k + 1,((zs.set (k * 3) (.int .i64 mk)).set (k * 3 + 1) (.int .i64 0)).set (k * 3 + 2) (.int .i64 0),by omega,by go_num,(((HOZ.out.stored (k * 3) (.int .i64 mk)).1.stored (k * 3 + 1) (.int .i64 0)).1.stored (k * 3 + 2) (.int .i64 0)).1,take3_set HZL.out hlt HZK.out⟩,((HFR.out.setCell (p:=⟨g,k * 3,none⟩) (.inl rfl) (.int .i64 mk)).setCell (p:=⟨g,k * 3 + 1,none⟩) (.inl rfl) (.int .i64 0)).setCell (p:=⟨g,k * 3 + 2,none⟩) (.inl rfl) (.int .i64 0)⟩
   case measure=>simp [intOf];omega
  · obtain rfl : n = k:=by omega
   have hzl : zs.length = n * 3:=hoz.1
   have hzs : zs = repC [.int .i64 mk,.int .i64 0,.int .i64 0] n:=by rw [← hzk,← hzl,List.take_length]
   subst hzs
   have hBB : wr.heap[Bw]? = w0.heap[Bw]?:=hfr.block Bw HB0.out HLB.out
   have K0 : Hid (KS w0 wr base Bw 3 89 65 3 (repC [.int .i64 mk,.int .i64 0,.int .i64 0]) (.slice la n lc) (.slice na us.length nc) [(.slice la n lc,n)] (.slice na us.length nc) us):=by
    refine ⟨hfr.mono (fun i _ h=>.inr (.inr h)),HB0.out,fun j _=>World.cell?_of_block (w:=w0) (a:=⟨Bw,j,none⟩) hBB,fun j=>World.frozen?_of_block (w:=w0) (a:=⟨Bw,j,none⟩) hBB,?_,?_,HNB.out,.inl rfl,?_⟩
    · rw [HM.out];exact (World.cell?_of_block (w:=w0) (a:=⟨Bw,3,none⟩) hBB).trans hf0
    · exact own_turn HNV.out (fun b hb hlt=>hfr.block b hlt (fun h=>HLN.out b h hb))
    · intro p hp
     rw [List.mem_singleton] at hp
     subst hp
     exact ⟨hoz,.inl rfl,HLB.out,HLN.out⟩
   have hws:=hfr.size
   have HMM : Hid (∀ (nv' : Value) (us' : List Value) (ls : List (Value × Nat)) (W : World),KS w0 W base Bw 3 89 65 3 (repC [.int .i64 mk,.int .i64 0,.int .i64 0]) (.slice la n lc) (.slice na us.length nc) ls nv' us' → W.cell? ⟨mb,0,none⟩ = some (.int .i64 mk) ∧ W.cell? ⟨mb,1,none⟩ = some (.int .i64 0) ∧ W.cell? ⟨mb,2,none⟩ = some (.int .i64 0) ∧ mb < W.heap.size):=by
    intro nv' us' ls W hK
    have hb : W.heap[mb]? = w0.heap[mb]?:=hK.frm.block mb hmlt (fun h=>by rcases h with h | h | h;exact HMB.out h;exact HMN.out h;exact HML.out h)
    exact ⟨(World.cell?_of_block (w:=w0) (a:=⟨mb,0,none⟩) hb).trans m0,(World.cell?_of_block (w:=w0) (a:=⟨mb,1,none⟩) hb).trans m1,(World.cell?_of_block (w:=w0) (a:=⟨mb,2,none⟩) hb).trans m2,Nat.lt_of_lt_of_le hmlt hK.frm.size⟩
   have HONE : Hid (∀ u ∈ ([.int .i64 mk,.int .i64 0,.int .i64 0] : List Value),u.oneCell' = true):=by unfold Hid;simp [Value.oneCell']
   clear hoz hfr hzk hBB hzl HOZ HFR HZK hf0 m0 m1 m2 hmb
   go_wp2_with (at_builtin;refine wpList_app2 _ rfl _ _ 65 rfl base 89 il _ 3 24 Tryz.underlying65 hil hl0 hl1 hl2 rfl (by decide) _ _ _ rfl ((K0.out.lists (.slice la n lc,n) (by simp)).1.alloc _) (.slice (some ⟨wr.heap.size,0,none⟩) 1 1) 1 (repC [.int .i64 mk,.int .i64 0,.int .i64 0] 1) rfl (srcA _ _ _ _ 0 _ rfl rfl 3 1 rfl) (repC_one HONE.out _) ?h63 ?hbytes ?hbase ?_)
   case h63=>unfold maxLen;omega
   case hbytes=>omega
   case hbase=>simp;omega
   intro a1 c1 w1 ho hg _ hlie hway
   rw [repC_add] at ho
   have K1:=hide (K0.out.addList (by omega) (repC_take rfl) (n:=n) (m:=1) (by simp) (by intro p hp;simp at hp;rcases hp with rfl <;> simp) rfl ho hg hlie hway)
   have hw1 : wr.heap.size ≤ w1.heap.size:=by have:=hg.size;simp at this;omega
   clear r0 r1 r2 hmlr
   obtain ⟨r0,r1,r2,hmlr⟩:=HMM.out _ _ _ _ K1.out
   clear ho hg hlie hway
   go_wp2_with (at_builtin;refine wpList_app2 _ rfl _ _ 65 rfl base 89 il _ 3 24 Tryz.underlying65 hil hl0 hl1 hl2 rfl (by decide) _ _ _ rfl ((K1.out.lists (.slice la n lc,n) (by simp)).1.alloc _) (.slice (some ⟨w1.heap.size,0,none⟩) 2 2) 2 (repC [.int .i64 mk,.int .i64 0,.int .i64 0] 2) rfl (srcA _ _ _ _ 0 _ rfl rfl 3 2 rfl) (repC_one HONE.out _) ?h63 ?hbytes ?hbase ?_)
   case h63=>unfold maxLen;omega
   case hbytes=>omega
   case hbase=>simp;omega
   intro a2 c2 w2 ho hg _ hlie hway
   rw [repC_add] at ho
   have K2:=hide (K1.out.addList (by omega) (repC_take rfl) (n:=n) (m:=2) (by simp) (by intro p hp;simp at hp;rcases hp with rfl | rfl <;> simp) rfl ho hg hlie hway)
   have hw2 : w1.heap.size ≤ w2.heap.size:=by have:=hg.size;simp at this;omega
   clear r0 r1 r2 hmlr
   obtain ⟨r0,r1,r2,hmlr⟩:=HMM.out _ _ _ _ K2.out
   clear ho hg hlie hway
   go_wp2_with (at_builtin;refine wpList_app2 _ rfl _ _ 65 rfl base 89 il _ 3 24 Tryz.underlying65 hil hl0 hl1 hl2 rfl (by decide) _ _ _ rfl ((K2.out.lists (.slice la n lc,n) (by simp)).1.alloc _) (.slice (some ⟨w2.heap.size,0,none⟩) 3 3) 3 (repC [.int .i64 mk,.int .i64 0,.int .i64 0] 3) rfl (srcA _ _ _ _ 0 _ rfl rfl 3 3 rfl) (repC_one HONE.out _) ?h63 ?hbytes ?hbase ?_)
   case h63=>unfold maxLen;omega
   case hbytes=>omega
   case hbase=>simp;omega
   intro a3 c3 w3 ho hg _ hlie hway
   rw [repC_add] at ho
   have K3:=hide (K2.out.addList (by omega) (repC_take rfl) (n:=n) (m:=3) (by simp) (by intro p hp;simp at hp;rcases hp with rfl | rfl | rfl <;> simp) rfl ho hg hlie hway)
   have hw3 : w2.heap.size ≤ w3.heap.size:=by have:=hg.size;simp at this;omega
   clear r0 r1 r2 hmlr
   obtain ⟨r0,r1,r2,hmlr⟩:=HMM.out _ _ _ _ K3.out
   clear ho hg hlie hway
   rw [HM.out] at K3
   have B0 : Hid (w3.ownsRow base 65 1 (.slice na m nc) m us):=by have:=K3.out.book;rw [HM.out] at this;exact this
   have fc:=K3.out.fld
   have hbw3 : Bw < w3.heap.size:=by have:=HB0.out;omega
   clear r0 r1 r2 hmlr
   go_wp2_with (at_builtin;refine wpList_app2 _ rfl _ _ 38 rfl base 65 ib _ 1 24 Tryz.underlying38 hib hb0 hb1 hb2 rfl (by decide) _ m _ rfl (B0.out.alloc _) (.slice (some ⟨w3.heap.size,0,none⟩) 1 1) 1 [.slice la n lc] rfl (srcA _ _ _ _ 0 _ (by simp) rfl 1 1 rfl) ?h1 ?h63 ?hbytes ?hbase ?_)
   case h1=>simp [Value.oneCell']
   case h63=>unfold maxLen;omega
   case hbytes=>omega
   case hbase=>simp;omega
   intro p1 d1 x1 ho hg _ hlie _
   obtain ⟨s0,s1⟩:=K3.out.store hg
   rw [HFZ.out] at s1
   have K4:=hide (K3.out.addBook (u:=.slice la n lc) (q:=m) (H:=w3.heap.size + 1) (by simp [HM.out]) rfl ho hg hlie)
   have B1 : Hid ((x1.setCell ⟨Bw,3,none⟩ (.slice p1 (m + 1) d1)).ownsRow base 65 1 (.slice p1 (m + 1) d1) (m + 1) (us ++ [.slice la n lc])):=by have:=K4.out.book;simp only [List.length_append,List.length_cons,List.length_nil,HM.out] at this;exact this
   have hx1 : w3.heap.size ≤ x1.heap.size:=by have:=hg.size;simp at this;omega
   have hbx1 : Bw < x1.heap.size:=by omega
   clear ho hg hlie fc
   go_wp2_with (at_builtin;refine wpList_app2 _ rfl _ _ 38 rfl base 65 ib _ 1 24 Tryz.underlying38 hib hb0 hb1 hb2 rfl (by decide) _ (m + 1) _ rfl (B1.out.alloc _) (.slice (some ⟨x1.heap.size,0,none⟩) 1 1) 1 [.slice a1 (n + 1) c1] rfl (srcA _ _ _ _ 0 _ (by simp) rfl 1 1 rfl) ?h1 ?h63 ?hbytes ?hbase ?_)
   case h1=>simp [Value.oneCell']
   case h63=>unfold maxLen;omega
   case hbytes=>omega
   case hbase=>simp;omega
   intro p2 d2 x2 ho hg _ hlie _
   obtain ⟨s0,s1⟩:=K4.out.store hg
   rw [HFZ.out] at s1
   have K5:=hide (K4.out.addBook (u:=.slice a1 (n + 1) c1) (q:=(m + 1)) (H:=x1.heap.size + 1) (by simp [HM.out]) (by simp [World.setCell]) (by simpa using ho) hg hlie)
   have B2 : Hid ((x2.setCell ⟨Bw,3,none⟩ (.slice p2 ((m + 1) + 1) d2)).ownsRow base 65 1 (.slice p2 ((m + 1) + 1) d2) ((m + 1) + 1) (us ++ [.slice la n lc] ++ [.slice a1 (n + 1) c1])):=by have:=K5.out.book;simp only [List.length_append,List.length_cons,List.length_nil,HM.out] at this;exact this
   have hx2 : x1.heap.size ≤ x2.heap.size:=by have:=hg.size;simp at this;omega
   have hbx2 : Bw < x2.heap.size:=by omega
   clear ho hg hlie
   go_wp2_with (at_builtin;refine wpList_app2 _ rfl _ _ 38 rfl base 65 ib _ 1 24 Tryz.underlying38 hib hb0 hb1 hb2 rfl (by decide) _ (m + 1 + 1) _ rfl (B2.out.alloc _) (.slice (some ⟨x2.heap.size,0,none⟩) 1 1) 1 [.slice a2 (n + 2) c2] rfl (srcA _ _ _ _ 0 _ (by simp) rfl 1 1 rfl) ?h1 ?h63 ?hbytes ?hbase ?_)
   case h1=>simp [Value.oneCell']
   case h63=>unfold maxLen;omega
   case hbytes=>omega
   case hbase=>simp;omega
   intro p3 d3 x3 ho hg _ hlie _
   obtain ⟨s0,s1⟩:=K5.out.store hg
   rw [HFZ.out] at s1
   have K6:=hide (K5.out.addBook (u:=.slice a2 (n + 2) c2) (q:=(m + 1 + 1)) (H:=x2.heap.size + 1) (by simp [HM.out]) (by simp [World.setCell]) (by simpa using ho) hg hlie)
   have B3 : Hid ((x3.setCell ⟨Bw,3,none⟩ (.slice p3 ((m + 1 + 1) + 1) d3)).ownsRow base 65 1 (.slice p3 ((m + 1 + 1) + 1) d3) ((m + 1 + 1) + 1) (us ++ [.slice la n lc] ++ [.slice a1 (n + 1) c1] ++ [.slice a2 (n + 2) c2])):=by have:=K6.out.book;simp only [List.length_append,List.length_cons,List.length_nil,HM.out] at this;exact this
   have hx3 : x2.heap.size ≤ x3.heap.size:=by have:=hg.size;simp at this;omega
   have hbx3 : Bw < x3.heap.size:=by omega
   clear ho hg hlie
   go_wp2_with (at_builtin;refine wpList_app2 _ rfl _ _ 38 rfl base 65 ib _ 1 24 Tryz.underlying38 hib hb0 hb1 hb2 rfl (by decide) _ (m + 1 + 1 + 1) _ rfl (B3.out.alloc _) (.slice (some ⟨x3.heap.size,0,none⟩) 1 1) 1 [.slice a3 (n + 3) c3] rfl (srcA _ _ _ _ 0 _ (by simp) rfl 1 1 rfl) ?h1 ?h63 ?hbytes ?hbase ?_)
   case h1=>simp [Value.oneCell']
   case h63=>unfold maxLen;omega
   case hbytes=>omega
   case hbase=>simp;omega
   intro p4 d4 x4 ho hg _ hlie _
   obtain ⟨s0,s1⟩:=K6.out.store hg
   rw [HFZ.out] at s1
   have K7:=hide (K6.out.addBook (u:=.slice a3 (n + 3) c3) (q:=(m + 1 + 1 + 1)) (H:=x3.heap.size + 1) (by simp [HM.out]) (by simp [World.setCell]) (by simpa using ho) hg hlie)
   have B4 : Hid ((x4.setCell ⟨Bw,3,none⟩ (.slice p4 ((m + 1 + 1 + 1) + 1) d4)).ownsRow base 65 1 (.slice p4 ((m + 1 + 1 + 1) + 1) d4) ((m + 1 + 1 + 1) + 1) (us ++ [.slice la n lc] ++ [.slice a1 (n + 1) c1] ++ [.slice a2 (n + 2) c2] ++ [.slice a3 (n + 3) c3])):=by have:=K7.out.book;simp only [List.length_append,List.length_cons,List.length_nil,HM.out] at this;exact this
   have hx4 : x3.heap.size ≤ x4.heap.size:=by have:=hg.size;simp at this;omega
   have hbx4 : Bw < x4.heap.size:=by omega
   clear ho hg hlie
   go_wp2
   go_end0
   refine ⟨.slice a1 (n + 1) c1,.slice a2 (n + 2) c2,.slice a3 (n + 3) c3,.slice p4 (m + 1 + 1 + 1 + 1) d4,rfl,?_⟩
   have hK:=K7.out
   rw [← HW0.out] at hK
   unfold evMk
   rw [HMK.out,HM.out]
   exact hK.weaken HWB.out
end Go.Proofs.YtkmakliebhnhbaaGreat
namespace Go.Proofs.YtkmakliebhnhbaaGreat
open Go.RowKit
def Clear (v : Value) (u : Value) : Prop:=∀ b,v.ownBlock = some b → u.ownBlock ≠ some b
theorem Clear.symm {v u : Value} (h : Clear v u) : Clear u v:=fun b hb hv=>h b hv hb
def vaMk (m : Nat) : List Value:=[.int .i64 (mkZ m),.bool false,.slice none 0 0]
structure Bk (W : World) (B Bw : Nat) (S : Nat → Prop) (pv rv nv ev vv : Value) (pu ru nu eu vu : List Value) : Prop where
 bw : B ≤ Bw
 lt : Bw < W.heap.size
 c0 : W.cell? ⟨Bw,0,none⟩ = some pv
 c1 : W.cell? ⟨Bw,1,none⟩ = some rv
 c2 : W.cell? ⟨Bw,2,none⟩ = some nv
 c3 : W.cell? ⟨Bw,3,none⟩ = some ev
 c4 : W.cell? ⟨Bw,4,none⟩ = some vv
 c5 : W.cell? ⟨Bw,5,none⟩ = some (.slice none 0 0)
 fz : ∀ j,W.frozen? ⟨Bw,j,none⟩ = false
 op : W.ownsRow B 48 1 pv pu.length pu
 or : W.ownsRow B 49 1 rv ru.length ru
 on : W.ownsRow B 87 1 nv nu.length nu
 oe : W.ownsRow B 65 1 ev eu.length eu
 ov : W.ownsRow B 64 1 vv vu.length vu
 bp : pv.ownBlock ≠ some Bw
 br : rv.ownBlock ≠ some Bw
 bn : nv.ownBlock ≠ some Bw
 be : ev.ownBlock ≠ some Bw
 bv : vv.ownBlock ≠ some Bw
 pr : Clear pv rv
 pn : Clear pv nv
 pe : Clear pv ev
 pvv : Clear pv vv
 rn : Clear rv nv
 re : Clear rv ev
 rvv : Clear rv vv
 ne : Clear nv ev
 nvv : Clear nv vv
 evv : Clear ev vv
 st : ∀ b,S b → b < W.heap.size ∧ b ≠ Bw ∧ pv.ownBlock ≠ some b ∧ rv.ownBlock ≠ some b ∧ nv.ownBlock ≠ some b ∧ ev.ownBlock ≠ some b ∧ vv.ownBlock ≠ some b
 n4 : nu.length % 4 = 0
 e4 : eu.length % 4 = 0
 v4 : vu.length % 4 = 0
 mn : ∀ i u,nu[i]? = some u → ∃ l,RdL S W 1 id u (List.replicate l [.int .i64 (mkZ i)])
 me : ∀ i u,eu[i]? = some u → ∃ l,RdL S W 3 id u (List.replicate l (evMk i))
 mv : ∀ i u,vu[i]? = some u → ∃ l,RdL S W 3 id u (List.replicate l (vaMk i))
theorem mkZ_div {m i : Nat} (h : m % 4 = 0) (h1 : m ≤ i) (h2 : i < m + 4) : mkZ i = mkZ m:=by
 unfold mkZ
 rw [show i / 4 = m / 4 by omega]
theorem repN_repC (mk : Int) (l : Nat) : repN mk l = repC [.int .i64 mk] l:=by
 induction l with
 | zero=>rfl
 | succ l ih=>simp only [repN,repC,List.replicate_succ,List.flatten_cons] at *;rw [ih];rfl
theorem own_marks {S : Nat → Prop} {W : World} {base : Nat} {e : TypeId} {v : Value} {l size : Nat} {cs : List Value} (h : W.ownsRow base e size v l (repC cs l)) (hc : cs.length = size) (hS : ∀ b,v.ownBlock = some b → S b) : RdL S W size id v (List.replicate l cs):=by
 have hf : flat id (List.replicate l cs) = repC cs l:=by simp [flat,repC,List.flatMap_id]
 rcases h.2 with ⟨rfl,h0⟩ | ⟨g,cap,cur,rfl,hb,hg,hn,hm,hcs,ht⟩
 · exact ⟨none,0,by simp [h0],by simp [h0],by unfold maxLen;omega,.inl ⟨by simp [h0],fun _=>rfl⟩⟩
 · refine ⟨_,cap,by simp,by simpa using hn,hm,.inr ⟨g,0,rfl,hS g rfl,fun k x hk j u hu=>?_⟩⟩
  have hkl:=(List.getElem?_eq_some_iff.1 hk).1
  have hx : x = cs:=by
   have:=(List.getElem?_eq_some_iff.1 hk).2
   simpa using this.symm
  subst hx
  have hj : j < size:=by have:=(List.getElem?_eq_some_iff.1 hu).1;simp only [id] at this;omega
  have hlt : k * size + j < l * size:=by
   have : (k + 1) * size ≤ l * size:=Nat.mul_le_mul_right _ (by simp at hkl;omega)
   rw [Nat.add_mul] at this;omega
  have hsp:=repC_add x k (l - k)
  rw [show k + (l - k) = l by simp at hkl;omega] at hsp
  rw [Nat.zero_add,World.ownsRow.cellAt h _ hlt,← hsp]
  rw [List.getElem?_append_right (by rw [repC_len,hc];omega),repC_len,hc,show k * size + j - k * size = j by omega]
  obtain ⟨d,hd⟩ : ∃ d,l - k = d + 1:=⟨l - k - 1,by simp at hkl;omega⟩
  rw [hd]
  simp only [repC,List.replicate_succ,List.flatten_cons]
  rw [List.getElem?_append_left (by omega)]
  exact hu
theorem rep_turn {S S' : Nat → Prop} {W W' : World} {size l : Nat} {cs : List Value} {u : Value} (hc : cs ≠ []) (h : RdL S W size id u (List.replicate l cs)) (hS : ∀ b,S b → b < W.heap.size → S' b ∧ W'.heap[b]? = W.heap[b]?) : RdL S' W' size id u (List.replicate l cs) :=
 h.turn hS (fun x hx=>by obtain ⟨_,rfl⟩:=List.mem_replicate.1 hx;exact hc)
theorem Bk.keepN {W W' : World} {B Bw n : Nat} {S : Nat → Prop} {pv rv nv ev vv nv' lv a b c : Value} {pu ru nu eu vu : List Value} (h : Bk W B Bw S pv rv nv ev vv pu ru nu eu vu)
  (K : KS W W' B Bw 2 2 87 1 (repN (mkZ nu.length)) lv nv [(c,n + 3),(b,n + 2),(a,n + 1),(lv,n)] nv' (nu ++ [lv] ++ [a] ++ [b] ++ [c]))
  (zp : Clear lv pv) (zr : Clear lv rv) (_zn : Clear lv nv) (ze : Clear lv ev) (zv : Clear lv vv) (hS : ∀ b,S b → lv.ownBlock ≠ some b) :
  Bk W' B Bw (fun k=>S k ∨ lv.ownBlock = some k ∨ a.ownBlock = some k ∨ b.ownBlock = some k ∨ c.ownBlock = some k) pv rv nv' ev vv pu ru (nu ++ [lv] ++ [a] ++ [b] ++ [c]) eu vu:=by
 have hlt:=K.frm.size
 have keep : ∀ (u : Value) (e : TypeId) (m : Nat) (xs : List Value),W.ownsRow B e 1 u m xs → u.ownBlock ≠ some Bw → Clear u nv → Clear lv u → W'.ownsRow B e 1 u m xs:=fun u e m xs ho h1 h2 h3 =>
  own_turn ho (fun k hk hkl=>K.frm.block k hkl (fun hh=>by
   rcases hh with hh | hh | hh
   · exact h1 (hh ▸ hk)
   · exact h2 k hk hh
   · exact h3 k hh hk))
 have hst : ∀ k,S k → k < W.heap.size → (S k ∨ lv.ownBlock = some k ∨ a.ownBlock = some k ∨ b.ownBlock = some k ∨ c.ownBlock = some k) ∧ W'.heap[k]? = W.heap[k]?:=fun k hk hkl=>by
  obtain ⟨q0,q1,qp,qr,qn,qe,qv⟩:=h.st k hk
  refine ⟨.inl hk,K.frm.block k hkl (fun hh=>?_)⟩
  rcases hh with hh | hh | hh
  · exact q1 hh
  · exact qn hh
  · exact hS k hk hh
 obtain ⟨lc1,lc2,lc3,lc4⟩:=K.lists (c,n + 3) (by simp)
 obtain ⟨lb1,lb2,lb3,lb4⟩:=K.lists (b,n + 2) (by simp)
 obtain ⟨la1,la2,la3,la4⟩:=K.lists (a,n + 1) (by simp)
 obtain ⟨ll1,ll2,ll3,ll4⟩:=K.lists (lv,n) (by simp)
 have newc : ∀ u : Value,u.ownBlock ≠ some Bw → Clear lv u → (∀ k,u.ownBlock = some k → k < W.heap.size) → ∀ x : Value,(x.ownBlock = lv.ownBlock ∨ ∃ b,x.ownBlock = some b ∧ W.heap.size ≤ b) → ∀ k,x.ownBlock = some k → u.ownBlock ≠ some k:=fun u _ h2 h3 x hx k hk hu=>by
  rcases hx with hx | ⟨b',hb',hle⟩
  · exact h2 k (hx.symm.trans hk) hu
  · rw [hb'] at hk;injection hk with hk;have:=h3 k hu;omega
 have xn : ∀ u : Value,u.ownBlock ≠ some Bw → Clear u nv → (∀ k,u.ownBlock = some k → k < W.heap.size) → Clear u nv':=fun u _ h2 h3 k hk hv=>by
  rcases K.nvb with hn | ⟨b',hb',hle⟩
  · exact h2 k hk (hn.symm.trans hv)
  · rw [hb'] at hv;injection hv with hv;have:=h3 k hk;omega
 have cell : ∀ j,j ≠ 2 → W'.cell? ⟨Bw,j,none⟩ = W.cell? ⟨Bw,j,none⟩:=K.oth
 have nul : (nu ++ [lv] ++ [a] ++ [b] ++ [c]).length = nu.length + 4:=by simp
 have plt : ∀ q,pv.ownBlock = some q → q < W.heap.size:=fun q hq=>(h.op.lt q hq).2
 have rlt : ∀ q,rv.ownBlock = some q → q < W.heap.size:=fun q hq=>(h.or.lt q hq).2
 have elt : ∀ q,ev.ownBlock = some q → q < W.heap.size:=fun q hq=>(h.oe.lt q hq).2
 have vlt : ∀ q,vv.ownBlock = some q → q < W.heap.size:=fun q hq=>(h.ov.lt q hq).2
 exact {
  bw:=h.bw
  lt:=Nat.lt_of_lt_of_le h.lt hlt
  c0:=(cell 0 (by omega)).trans h.c0
  c1:=(cell 1 (by omega)).trans h.c1
  c2:=K.fld
  c3:=(cell 3 (by omega)).trans h.c3
  c4:=(cell 4 (by omega)).trans h.c4
  c5:=(cell 5 (by omega)).trans h.c5
  fz:=fun j=>(K.fz j).trans (h.fz j)
  op:=keep _ _ _ _ h.op h.bp (h.pn) zp
  or:=keep _ _ _ _ h.or h.br (h.rn) zr
  on:=K.book
  oe:=keep _ _ _ _ h.oe h.be (h.ne.symm) ze
  ov:=keep _ _ _ _ h.ov h.bv (h.nvv.symm) zv
  bp:=h.bp
  br:=h.br
  bn:=K.bw
  be:=h.be
  bv:=h.bv
  pr:=h.pr
  pn:=xn _ h.bp (h.pn) plt
  pe:=h.pe
  pvv:=h.pvv
  rn:=xn _ h.br (h.rn) rlt
  re:=h.re
  rvv:=h.rvv
  ne:=(xn _ h.be (h.ne.symm) elt).symm
  nvv:=(xn _ h.bv (h.nvv.symm) vlt).symm
  evv:=h.evv
  st:=fun k hk=>by
   rcases hk with hk | hk | hk | hk | hk
   · obtain ⟨q0,q1,qp,qr,qn,qe,qv⟩:=h.st k hk
    refine ⟨Nat.lt_of_lt_of_le q0 hlt,q1,qp,qr,fun hv=>?_,qe,qv⟩
    rcases K.nvb with hn | ⟨b',hb',hle⟩
    · exact qn (hn.symm.trans hv)
    · rw [hb'] at hv;injection hv with hv;omega
   · exact ⟨(ll1.lt k hk).2,fun e=>ll3 (e ▸ hk),newc _ h.bp zp plt _ ll2 k hk,newc _ h.br zr rlt _ ll2 k hk,ll4 k hk,newc _ h.be ze elt _ ll2 k hk,newc _ h.bv zv vlt _ ll2 k hk⟩
   · exact ⟨(la1.lt k hk).2,fun e=>la3 (e ▸ hk),newc _ h.bp zp plt _ la2 k hk,newc _ h.br zr rlt _ la2 k hk,la4 k hk,newc _ h.be ze elt _ la2 k hk,newc _ h.bv zv vlt _ la2 k hk⟩
   · exact ⟨(lb1.lt k hk).2,fun e=>lb3 (e ▸ hk),newc _ h.bp zp plt _ lb2 k hk,newc _ h.br zr rlt _ lb2 k hk,lb4 k hk,newc _ h.be ze elt _ lb2 k hk,newc _ h.bv zv vlt _ lb2 k hk⟩
   · exact ⟨(lc1.lt k hk).2,fun e=>lc3 (e ▸ hk),newc _ h.bp zp plt _ lc2 k hk,newc _ h.br zr rlt _ lc2 k hk,lc4 k hk,newc _ h.be ze elt _ lc2 k hk,newc _ h.bv zv vlt _ lc2 k hk⟩
  n4:=by rw [nul];have:=h.n4;omega
  e4:=h.e4
  v4:=h.v4
  mn:=fun i u hu=>by
   by_cases hi : i < nu.length
   · rw [List.append_assoc,List.append_assoc,List.append_assoc,List.getElem?_append_left hi] at hu
    obtain ⟨l,hl⟩:=h.mn i u hu
    exact ⟨l,rep_turn (List.cons_ne_nil _ _) hl hst⟩
   · have hi2:=(List.getElem?_eq_some_iff.1 hu).1
    rw [nul] at hi2
    have hmk:=mkZ_div h.n4 (show nu.length ≤ i by omega) hi2
    rw [List.append_assoc,List.append_assoc,List.append_assoc,List.getElem?_append_right (by omega)] at hu
    obtain ⟨d,hd⟩ : ∃ d,i - nu.length = d:=⟨_,rfl⟩
    rw [hd] at hu
    have hd4 : d < 4:=by omega
    rw [hmk]
    match d,hd4,hu with
    | 0,_,hu=>(simp at hu;subst hu;exact ⟨n,own_marks (by rw [← repN_repC];exact ll1) rfl (fun k hk=>.inr (.inl hk))⟩)
    | 1,_,hu=>(simp at hu;subst hu;exact ⟨n + 1,own_marks (by rw [← repN_repC];exact la1) rfl (fun k hk=>.inr (.inr (.inl hk)))⟩)
    | 2,_,hu=>(simp at hu;subst hu;exact ⟨n + 2,own_marks (by rw [← repN_repC];exact lb1) rfl (fun k hk=>.inr (.inr (.inr (.inl hk))))⟩)
    | 3,_,hu=>(simp at hu;subst hu;exact ⟨n + 3,own_marks (by rw [← repN_repC];exact lc1) rfl (fun k hk=>.inr (.inr (.inr (.inr hk))))⟩)
  me:=fun i u hu=>by
   obtain ⟨l,hl⟩:=h.me i u hu
   exact ⟨l,rep_turn (List.cons_ne_nil _ _) hl hst⟩
  mv:=fun i u hu=>by
   obtain ⟨l,hl⟩:=h.mv i u hu
   exact ⟨l,rep_turn (List.cons_ne_nil _ _) hl hst⟩
 }
theorem Bk.keepE {W W' : World} {B Bw n : Nat} {S : Nat → Prop} {pv rv nv ev vv ev' lv a b c : Value} {pu ru nu eu vu : List Value} (h : Bk W B Bw S pv rv nv ev vv pu ru nu eu vu)
  (K : KS W W' B Bw 3 89 65 3 (repC (evMk eu.length)) lv ev [(c,n + 3),(b,n + 2),(a,n + 1),(lv,n)] ev' (eu ++ [lv] ++ [a] ++ [b] ++ [c]))
  (zp : Clear lv pv) (zr : Clear lv rv) (zn : Clear lv nv) (_ze : Clear lv ev) (zv : Clear lv vv) (hS : ∀ b,S b → lv.ownBlock ≠ some b) :
  Bk W' B Bw (fun k=>S k ∨ lv.ownBlock = some k ∨ a.ownBlock = some k ∨ b.ownBlock = some k ∨ c.ownBlock = some k) pv rv nv ev' vv pu ru nu (eu ++ [lv] ++ [a] ++ [b] ++ [c]) vu:=by
 have hlt:=K.frm.size
 have keep : ∀ (u : Value) (e : TypeId) (m : Nat) (xs : List Value),W.ownsRow B e 1 u m xs → u.ownBlock ≠ some Bw → Clear u ev → Clear lv u → W'.ownsRow B e 1 u m xs:=fun u e m xs ho h1 h2 h3 =>
  own_turn ho (fun k hk hkl=>K.frm.block k hkl (fun hh=>by
   rcases hh with hh | hh | hh
   · exact h1 (hh ▸ hk)
   · exact h2 k hk hh
   · exact h3 k hh hk))
 have hst : ∀ k,S k → k < W.heap.size → (S k ∨ lv.ownBlock = some k ∨ a.ownBlock = some k ∨ b.ownBlock = some k ∨ c.ownBlock = some k) ∧ W'.heap[k]? = W.heap[k]?:=fun k hk hkl=>by
  obtain ⟨q0,q1,qp,qr,qn,qe,qv⟩:=h.st k hk
  refine ⟨.inl hk,K.frm.block k hkl (fun hh=>?_)⟩
  rcases hh with hh | hh | hh
  · exact q1 hh
  · exact qe hh
  · exact hS k hk hh
 obtain ⟨lc1,lc2,lc3,lc4⟩:=K.lists (c,n + 3) (by simp)
 obtain ⟨lb1,lb2,lb3,lb4⟩:=K.lists (b,n + 2) (by simp)
 obtain ⟨la1,la2,la3,la4⟩:=K.lists (a,n + 1) (by simp)
 obtain ⟨ll1,ll2,ll3,ll4⟩:=K.lists (lv,n) (by simp)
 have newc : ∀ u : Value,u.ownBlock ≠ some Bw → Clear lv u → (∀ k,u.ownBlock = some k → k < W.heap.size) → ∀ x : Value,(x.ownBlock = lv.ownBlock ∨ ∃ b,x.ownBlock = some b ∧ W.heap.size ≤ b) → ∀ k,x.ownBlock = some k → u.ownBlock ≠ some k:=fun u _ h2 h3 x hx k hk hu=>by
  rcases hx with hx | ⟨b',hb',hle⟩
  · exact h2 k (hx.symm.trans hk) hu
  · rw [hb'] at hk;injection hk with hk;have:=h3 k hu;omega
 have xn : ∀ u : Value,u.ownBlock ≠ some Bw → Clear u ev → (∀ k,u.ownBlock = some k → k < W.heap.size) → Clear u ev':=fun u _ h2 h3 k hk hv=>by
  rcases K.nvb with hn | ⟨b',hb',hle⟩
  · exact h2 k hk (hn.symm.trans hv)
  · rw [hb'] at hv;injection hv with hv;have:=h3 k hk;omega
 have cell : ∀ j,j ≠ 3 → W'.cell? ⟨Bw,j,none⟩ = W.cell? ⟨Bw,j,none⟩:=K.oth
 have eul : (eu ++ [lv] ++ [a] ++ [b] ++ [c]).length = eu.length + 4:=by simp
 have plt : ∀ q,pv.ownBlock = some q → q < W.heap.size:=fun q hq=>(h.op.lt q hq).2
 have rlt : ∀ q,rv.ownBlock = some q → q < W.heap.size:=fun q hq=>(h.or.lt q hq).2
 have nlt : ∀ q,nv.ownBlock = some q → q < W.heap.size:=fun q hq=>(h.on.lt q hq).2
 have vlt : ∀ q,vv.ownBlock = some q → q < W.heap.size:=fun q hq=>(h.ov.lt q hq).2
 exact {
  bw:=h.bw
  lt:=Nat.lt_of_lt_of_le h.lt hlt
  c0:=(cell 0 (by omega)).trans h.c0
  c1:=(cell 1 (by omega)).trans h.c1
  c2:=(cell 2 (by omega)).trans h.c2
  c3:=K.fld
  c4:=(cell 4 (by omega)).trans h.c4
  c5:=(cell 5 (by omega)).trans h.c5
  fz:=fun j=>(K.fz j).trans (h.fz j)
  op:=keep _ _ _ _ h.op h.bp (h.pe) zp
  or:=keep _ _ _ _ h.or h.br (h.re) zr
  on:=keep _ _ _ _ h.on h.bn (h.ne) zn
  oe:=K.book
  ov:=keep _ _ _ _ h.ov h.bv (h.evv.symm) zv
  bp:=h.bp
  br:=h.br
  bn:=h.bn
  be:=K.bw
  bv:=h.bv
  pr:=h.pr
  pn:=h.pn
  pe:=xn _ h.bp (h.pe) plt
  pvv:=h.pvv
  rn:=h.rn
  re:=xn _ h.br (h.re) rlt
  rvv:=h.rvv
  ne:=xn _ h.bn (h.ne) nlt
  nvv:=h.nvv
  evv:=(xn _ h.bv (h.evv.symm) vlt).symm
  st:=fun k hk=>by
   rcases hk with hk | hk | hk | hk | hk
   · obtain ⟨q0,q1,qp,qr,qn,qe,qv⟩:=h.st k hk
    refine ⟨Nat.lt_of_lt_of_le q0 hlt,q1,qp,qr,qn,fun hv=>?_,qv⟩
    rcases K.nvb with hn | ⟨b',hb',hle⟩
    · exact qe (hn.symm.trans hv)
    · rw [hb'] at hv;injection hv with hv;omega
   · exact ⟨(ll1.lt k hk).2,fun e=>ll3 (e ▸ hk),newc _ h.bp zp plt _ ll2 k hk,newc _ h.br zr rlt _ ll2 k hk,newc _ h.bn zn nlt _ ll2 k hk,ll4 k hk,newc _ h.bv zv vlt _ ll2 k hk⟩
   · exact ⟨(la1.lt k hk).2,fun e=>la3 (e ▸ hk),newc _ h.bp zp plt _ la2 k hk,newc _ h.br zr rlt _ la2 k hk,newc _ h.bn zn nlt _ la2 k hk,la4 k hk,newc _ h.bv zv vlt _ la2 k hk⟩
   · exact ⟨(lb1.lt k hk).2,fun e=>lb3 (e ▸ hk),newc _ h.bp zp plt _ lb2 k hk,newc _ h.br zr rlt _ lb2 k hk,newc _ h.bn zn nlt _ lb2 k hk,lb4 k hk,newc _ h.bv zv vlt _ lb2 k hk⟩
   · exact ⟨(lc1.lt k hk).2,fun e=>lc3 (e ▸ hk),newc _ h.bp zp plt _ lc2 k hk,newc _ h.br zr rlt _ lc2 k hk,newc _ h.bn zn nlt _ lc2 k hk,lc4 k hk,newc _ h.bv zv vlt _ lc2 k hk⟩
  n4:=h.n4
  e4:=by rw [eul];have:=h.e4;omega
  v4:=h.v4
  mn:=fun i u hu=>by
   obtain ⟨l,hl⟩:=h.mn i u hu
   exact ⟨l,rep_turn (List.cons_ne_nil _ _) hl hst⟩
  me:=fun i u hu=>by
   by_cases hi : i < eu.length
   · rw [List.append_assoc,List.append_assoc,List.append_assoc,List.getElem?_append_left hi] at hu
    obtain ⟨l,hl⟩:=h.me i u hu
    exact ⟨l,rep_turn (List.cons_ne_nil _ _) hl hst⟩
   · have hi2:=(List.getElem?_eq_some_iff.1 hu).1
    rw [eul] at hi2
    have hmk:=mkZ_div h.e4 (show eu.length ≤ i by omega) hi2
    rw [List.append_assoc,List.append_assoc,List.append_assoc,List.getElem?_append_right (by omega)] at hu
    obtain ⟨d,hd⟩ : ∃ d,i - eu.length = d:=⟨_,rfl⟩
    rw [hd] at hu
    have hd4 : d < 4:=by omega
    unfold evMk;rw [hmk]
    match d,hd4,hu with
    | 0,_,hu=>(simp at hu;subst hu;exact ⟨n,own_marks ll1 rfl (fun k hk=>.inr (.inl hk))⟩)
    | 1,_,hu=>(simp at hu;subst hu;exact ⟨n + 1,own_marks la1 rfl (fun k hk=>.inr (.inr (.inl hk)))⟩)
    | 2,_,hu=>(simp at hu;subst hu;exact ⟨n + 2,own_marks lb1 rfl (fun k hk=>.inr (.inr (.inr (.inl hk))))⟩)
    | 3,_,hu=>(simp at hu;subst hu;exact ⟨n + 3,own_marks lc1 rfl (fun k hk=>.inr (.inr (.inr (.inr hk))))⟩)
  mv:=fun i u hu=>by
   obtain ⟨l,hl⟩:=h.mv i u hu
   exact ⟨l,rep_turn (List.cons_ne_nil _ _) hl hst⟩
 }
theorem Bk.keepV {W W' : World} {B Bw n : Nat} {S : Nat → Prop} {pv rv nv ev vv vv' lv a b c : Value} {pu ru nu eu vu : List Value} (h : Bk W B Bw S pv rv nv ev vv pu ru nu eu vu)
  (K : KS W W' B Bw 4 91 64 3 (repC (vaMk vu.length)) lv vv [(c,n + 3),(b,n + 2),(a,n + 1),(lv,n)] vv' (vu ++ [lv] ++ [a] ++ [b] ++ [c]))
  (zp : Clear lv pv) (zr : Clear lv rv) (zn : Clear lv nv) (ze : Clear lv ev) (_zv : Clear lv vv) (hS : ∀ b,S b → lv.ownBlock ≠ some b) :
  Bk W' B Bw (fun k=>S k ∨ lv.ownBlock = some k ∨ a.ownBlock = some k ∨ b.ownBlock = some k ∨ c.ownBlock = some k) pv rv nv ev vv' pu ru nu eu (vu ++ [lv] ++ [a] ++ [b] ++ [c]):=by
 have hlt:=K.frm.size
 have keep : ∀ (u : Value) (e : TypeId) (m : Nat) (xs : List Value),W.ownsRow B e 1 u m xs → u.ownBlock ≠ some Bw → Clear u vv → Clear lv u → W'.ownsRow B e 1 u m xs:=fun u e m xs ho h1 h2 h3 =>
  own_turn ho (fun k hk hkl=>K.frm.block k hkl (fun hh=>by
   rcases hh with hh | hh | hh
   · exact h1 (hh ▸ hk)
   · exact h2 k hk hh
   · exact h3 k hh hk))
 have hst : ∀ k,S k → k < W.heap.size → (S k ∨ lv.ownBlock = some k ∨ a.ownBlock = some k ∨ b.ownBlock = some k ∨ c.ownBlock = some k) ∧ W'.heap[k]? = W.heap[k]?:=fun k hk hkl=>by
  obtain ⟨q0,q1,qp,qr,qn,qe,qv⟩:=h.st k hk
  refine ⟨.inl hk,K.frm.block k hkl (fun hh=>?_)⟩
  rcases hh with hh | hh | hh
  · exact q1 hh
  · exact qv hh
  · exact hS k hk hh
 obtain ⟨lc1,lc2,lc3,lc4⟩:=K.lists (c,n + 3) (by simp)
 obtain ⟨lb1,lb2,lb3,lb4⟩:=K.lists (b,n + 2) (by simp)
 obtain ⟨la1,la2,la3,la4⟩:=K.lists (a,n + 1) (by simp)
 obtain ⟨ll1,ll2,ll3,ll4⟩:=K.lists (lv,n) (by simp)
 have newc : ∀ u : Value,u.ownBlock ≠ some Bw → Clear lv u → (∀ k,u.ownBlock = some k → k < W.heap.size) → ∀ x : Value,(x.ownBlock = lv.ownBlock ∨ ∃ b,x.ownBlock = some b ∧ W.heap.size ≤ b) → ∀ k,x.ownBlock = some k → u.ownBlock ≠ some k:=fun u _ h2 h3 x hx k hk hu=>by
  rcases hx with hx | ⟨b',hb',hle⟩
  · exact h2 k (hx.symm.trans hk) hu
  · rw [hb'] at hk;injection hk with hk;have:=h3 k hu;omega
 have xn : ∀ u : Value,u.ownBlock ≠ some Bw → Clear u vv → (∀ k,u.ownBlock = some k → k < W.heap.size) → Clear u vv':=fun u _ h2 h3 k hk hv=>by
  rcases K.nvb with hn | ⟨b',hb',hle⟩
  · exact h2 k hk (hn.symm.trans hv)
  · rw [hb'] at hv;injection hv with hv;have:=h3 k hk;omega
 have cell : ∀ j,j ≠ 4 → W'.cell? ⟨Bw,j,none⟩ = W.cell? ⟨Bw,j,none⟩:=K.oth
 have vul : (vu ++ [lv] ++ [a] ++ [b] ++ [c]).length = vu.length + 4:=by simp
 have plt : ∀ q,pv.ownBlock = some q → q < W.heap.size:=fun q hq=>(h.op.lt q hq).2
 have rlt : ∀ q,rv.ownBlock = some q → q < W.heap.size:=fun q hq=>(h.or.lt q hq).2
 have nlt : ∀ q,nv.ownBlock = some q → q < W.heap.size:=fun q hq=>(h.on.lt q hq).2
 have elt : ∀ q,ev.ownBlock = some q → q < W.heap.size:=fun q hq=>(h.oe.lt q hq).2
 exact {
  bw:=h.bw
  lt:=Nat.lt_of_lt_of_le h.lt hlt
  c0:=(cell 0 (by omega)).trans h.c0
  c1:=(cell 1 (by omega)).trans h.c1
  c2:=(cell 2 (by omega)).trans h.c2
  c3:=(cell 3 (by omega)).trans h.c3
  c4:=K.fld
  c5:=(cell 5 (by omega)).trans h.c5
  fz:=fun j=>(K.fz j).trans (h.fz j)
  op:=keep _ _ _ _ h.op h.bp (h.pvv) zp
  or:=keep _ _ _ _ h.or h.br (h.rvv) zr
  on:=keep _ _ _ _ h.on h.bn (h.nvv) zn
  oe:=keep _ _ _ _ h.oe h.be (h.evv) ze
  ov:=K.book
  bp:=h.bp
  br:=h.br
  bn:=h.bn
  be:=h.be
  bv:=K.bw
  pr:=h.pr
  pn:=h.pn
  pe:=h.pe
  pvv:=xn _ h.bp (h.pvv) plt
  rn:=h.rn
  re:=h.re
  rvv:=xn _ h.br (h.rvv) rlt
  ne:=h.ne
  nvv:=xn _ h.bn (h.nvv) nlt
  evv:=xn _ h.be (h.evv) elt
  st:=fun k hk=>by
   rcases hk with hk | hk | hk | hk | hk
   · obtain ⟨q0,q1,qp,qr,qn,qe,qv⟩:=h.st k hk
    refine ⟨Nat.lt_of_lt_of_le q0 hlt,q1,qp,qr,qn,qe,fun hv=>?_⟩
    rcases K.nvb with hn | ⟨b',hb',hle⟩
    · exact qv (hn.symm.trans hv)
    · rw [hb'] at hv;injection hv with hv;omega
   · exact ⟨(ll1.lt k hk).2,fun e=>ll3 (e ▸ hk),newc _ h.bp zp plt _ ll2 k hk,newc _ h.br zr rlt _ ll2 k hk,newc _ h.bn zn nlt _ ll2 k hk,newc _ h.be ze elt _ ll2 k hk,ll4 k hk⟩
   · exact ⟨(la1.lt k hk).2,fun e=>la3 (e ▸ hk),newc _ h.bp zp plt _ la2 k hk,newc _ h.br zr rlt _ la2 k hk,newc _ h.bn zn nlt _ la2 k hk,newc _ h.be ze elt _ la2 k hk,la4 k hk⟩
   · exact ⟨(lb1.lt k hk).2,fun e=>lb3 (e ▸ hk),newc _ h.bp zp plt _ lb2 k hk,newc _ h.br zr rlt _ lb2 k hk,newc _ h.bn zn nlt _ lb2 k hk,newc _ h.be ze elt _ lb2 k hk,lb4 k hk⟩
   · exact ⟨(lc1.lt k hk).2,fun e=>lc3 (e ▸ hk),newc _ h.bp zp plt _ lc2 k hk,newc _ h.br zr rlt _ lc2 k hk,newc _ h.bn zn nlt _ lc2 k hk,newc _ h.be ze elt _ lc2 k hk,lc4 k hk⟩
  n4:=h.n4
  e4:=h.e4
  v4:=by rw [vul];have:=h.v4;omega
  mn:=fun i u hu=>by
   obtain ⟨l,hl⟩:=h.mn i u hu
   exact ⟨l,rep_turn (List.cons_ne_nil _ _) hl hst⟩
  me:=fun i u hu=>by
   obtain ⟨l,hl⟩:=h.me i u hu
   exact ⟨l,rep_turn (List.cons_ne_nil _ _) hl hst⟩
  mv:=fun i u hu=>by
   by_cases hi : i < vu.length
   · rw [List.append_assoc,List.append_assoc,List.append_assoc,List.getElem?_append_left hi] at hu
    obtain ⟨l,hl⟩:=h.mv i u hu
    exact ⟨l,rep_turn (List.cons_ne_nil _ _) hl hst⟩
   · have hi2:=(List.getElem?_eq_some_iff.1 hu).1
    rw [vul] at hi2
    have hmk:=mkZ_div h.v4 (show vu.length ≤ i by omega) hi2
    rw [List.append_assoc,List.append_assoc,List.append_assoc,List.getElem?_append_right (by omega)] at hu
    obtain ⟨d,hd⟩ : ∃ d,i - vu.length = d:=⟨_,rfl⟩
    rw [hd] at hu
    have hd4 : d < 4:=by omega
    unfold vaMk;rw [hmk]
    match d,hd4,hu with
    | 0,_,hu=>(simp at hu;subst hu;exact ⟨n,own_marks ll1 rfl (fun k hk=>.inr (.inl hk))⟩)
    | 1,_,hu=>(simp at hu;subst hu;exact ⟨n + 1,own_marks la1 rfl (fun k hk=>.inr (.inr (.inl hk)))⟩)
    | 2,_,hu=>(simp at hu;subst hu;exact ⟨n + 2,own_marks lb1 rfl (fun k hk=>.inr (.inr (.inr (.inl hk))))⟩)
    | 3,_,hu=>(simp at hu;subst hu;exact ⟨n + 3,own_marks lc1 rfl (fun k hk=>.inr (.inr (.inr (.inr hk))))⟩)
 }
end Go.Proofs.YtkmakliebhnhbaaGreat
namespace Go.Proofs.YtkmakliebhnhbaaGreat
open Go.RowKit
theorem Tryz.infoLV : (Tryz.prog.info? 64).map (fun i=>(i.zero,i.size,i.bytes)) = some (some (.slice none 0 0),1,24):=by kernel_rfl
theorem Tryz.infoV' : (Tryz.prog.info? 91).map (fun i=>(i.zero,i.size,i.bytes)) = some (some (.agg #[.int .i64 0,.bool false,.slice none 0 0]),3,40):=by kernel_rfl
structure OwnV (W : World) (base : Nat) (lv : Value) (n : Nat) (V : Nat → Val) (LV : Nat → Value) (xs : List Value) : Prop where
 row : W.ownsRow base 91 3 lv n xs
 n0 : ∀ r,r < n → xs[r * 3]? = some (.int .i64 (V r).n)
 n1 : ∀ r,r < n → xs[r * 3 + 1]? = some (.bool (V r).is)
 n2 : ∀ r,r < n → xs[r * 3 + 2]? = some (LV r)
 own : ∀ r,r < n → W.ownsRow base 2 1 (LV r) (V r).l.length (ints (V r).l)
 off : ∀ r,r < n → Clear (LV r) lv
 apart : ∀ r s,r < n → s < n → r ≠ s → Clear (LV r) (LV s)
structure KV (w wr : World) (base Bw : Nat) (S S' : Nat → Prop) (pv rv nv nv' ev vv : Value) (pu ru nu nu' eu vu : List Value) (LV : Nat → Value) (i : Nat) : Prop where
 bk : Bk wr base Bw S' pv rv nv' ev vv pu ru nu' eu vu
 frm : Frm (fun k=>k = Bw ∨ nv.ownBlock = some k ∨ ∃ r,r < i ∧ (LV r).ownBlock = some k) w wr
 sub : ∀ b,S b → S' b
 sup : ∀ b,S' b → S b ∨ (∃ r,r < i ∧ (LV r).ownBlock = some b) ∨ w.heap.size ≤ b
 len : nu'.length = nu.length + 4 * i
 nvb : nv'.ownBlock = nv.ownBlock ∨ ∃ b,nv'.ownBlock = some b ∧ w.heap.size ≤ b
theorem KV.next {w wr w2 : World} {base Bw n : Nat} {S S' : Nat → Prop} {pv rv nv nv' nv2 ev vv a b c : Value} {pu ru nu nu' eu vu : List Value} {LV : Nat → Value} {i : Nat}
  (h : KV w wr base Bw S S' pv rv nv nv' ev vv pu ru nu nu' eu vu LV i) (K : KS wr w2 base Bw 2 2 87 1 (repN (mkZ nu'.length)) (LV i) nv' [(c,n + 3),(b,n + 2),(a,n + 1),(LV i,n)] nv2 (nu' ++ [LV i] ++ [a] ++ [b] ++ [c]))
  (hlt : ∀ k,(LV i).ownBlock = some k → k < w.heap.size) (zp : Clear (LV i) pv) (zr : Clear (LV i) rv) (zn : Clear (LV i) nv') (ze : Clear (LV i) ev) (zv : Clear (LV i) vv) (hS : ∀ b,S b → (LV i).ownBlock ≠ some b) (hap : ∀ r,r < i → Clear (LV i) (LV r)) :
  ∃ S2,KV w w2 base Bw S S2 pv rv nv nv2 ev vv pu ru nu (nu' ++ [LV i] ++ [a] ++ [b] ++ [c]) eu vu LV (i + 1):=by
 have hS' : ∀ b,S' b → (LV i).ownBlock ≠ some b:=fun b hb hl=>by
  rcases h.sup b hb with h1 | ⟨r,hr,h1⟩ | h1
  · exact hS b h1 hl
  · exact hap r hr b hl h1
  · have:=hlt b hl;omega
 have hnew : ∀ x : Value,(x.ownBlock = (LV i).ownBlock ∨ ∃ b,x.ownBlock = some b ∧ wr.heap.size ≤ b) → ∀ k,x.ownBlock = some k → S k ∨ (∃ r,r < i + 1 ∧ (LV r).ownBlock = some k) ∨ w.heap.size ≤ k:=fun x hx k hk=>by
  rcases hx with hx | ⟨b',hb',hle⟩
  · exact .inr (.inl ⟨i,by omega,hx.symm.trans hk⟩)
  · rw [hb'] at hk;injection hk with hk;have:=h.frm.size;exact .inr (.inr (by omega))
 refine ⟨_,h.bk.keepN K zp zr zn ze zv hS',?_,fun b hb=>.inl (h.sub b hb),?_,?_,?_⟩
 · refine (h.frm.mono (fun k _ hk=>?_)).trans K.frm (fun k hk hk2=>?_)
  · rcases hk with hk | hk | ⟨r,hr,hk⟩
   · exact .inl hk
   · exact .inr (.inl hk)
   · exact .inr (.inr ⟨r,by omega,hk⟩)
  · rcases hk2 with hk2 | hk2 | hk2
   · exact .inl hk2
   · rcases h.nvb with h1 | ⟨b',hb',hle⟩
    · exact .inr (.inl (h1.symm.trans hk2))
    · rw [hb'] at hk2;injection hk2 with hk2;omega
   · exact .inr (.inr ⟨i,by omega,hk2⟩)
 · intro k hk
  rcases hk with hk | hk | hk | hk | hk
  · rcases h.sup k hk with h1 | ⟨r,hr,h1⟩ | h1
   · exact .inl h1
   · exact .inr (.inl ⟨r,by omega,h1⟩)
   · exact .inr (.inr h1)
  · exact .inr (.inl ⟨i,by omega,hk⟩)
  · exact hnew _ (K.lists (a,n + 1) (by simp)).2.1 k hk
  · exact hnew _ (K.lists (b,n + 2) (by simp)).2.1 k hk
  · exact hnew _ (K.lists (c,n + 3) (by simp)).2.1 k hk
 · simp [h.len];omega
 · rcases K.nvb with h1 | ⟨b',hb',hle⟩
  · rcases h.nvb with h2 | ⟨b2,hb2,hle2⟩
   · exact .inl (h1.trans h2)
   · exact .inr ⟨b2,h1.trans hb2,hle2⟩
  · exact .inr ⟨b',hb',by have:=h.frm.size;omega⟩
theorem KV.finish {w wr w2 : World} {base Bw n q : Nat} {S S' : Nat → Prop} {pv rv nv nv' ev vv vv2 lv a b c : Value} {pu ru nu nu' eu us : List Value} {LV : Nat → Value}
  (h : KV w wr base Bw S S' pv rv nv nv' ev vv pu ru nu nu' eu us LV n) (K : KS wr w2 base Bw 4 91 64 3 (repC (vaMk us.length)) lv vv [(c,q + 3),(b,q + 2),(a,q + 1),(lv,q)] vv2 (us ++ [lv] ++ [a] ++ [b] ++ [c]))
  (hlt : ∀ k,lv.ownBlock = some k → k < w.heap.size) (zp : Clear lv pv) (zr : Clear lv rv) (zn : Clear lv nv) (ze : Clear lv ev) (zv : Clear lv vv) (hS : ∀ b,S b → lv.ownBlock ≠ some b) (hap : ∀ r,r < n → Clear (LV r) lv) :
  ∃ S2 nv2 vv2 nu2 vu2,Bk w2 base Bw S2 pv rv nv2 ev vv2 pu ru nu2 eu vu2 ∧
   Frm (fun k=>k = Bw ∨ nv.ownBlock = some k ∨ vv.ownBlock = some k ∨ lv.ownBlock = some k ∨ ∃ r,r < n ∧ (LV r).ownBlock = some k) w w2 ∧ (∀ b,S b → S2 b) ∧
   (∀ b,S2 b → S b ∨ lv.ownBlock = some b ∨ (∃ r,r < n ∧ (LV r).ownBlock = some b) ∨ w.heap.size ≤ b) ∧ nu2.length = nu.length + 4 * n ∧ vu2.length = us.length + 4 ∧
   (nv2.ownBlock = nv.ownBlock ∨ ∃ b,nv2.ownBlock = some b ∧ w.heap.size ≤ b) ∧ (vv2.ownBlock = vv.ownBlock ∨ ∃ b,vv2.ownBlock = some b ∧ w.heap.size ≤ b):=by
 have zn2 : Clear lv nv':=fun k hk hv=>by
  rcases h.nvb with h1 | ⟨b',h1,hle⟩
  · exact zn k hk (h1.symm.trans hv)
  · rw [h1] at hv;injection hv with hv;have:=hlt k hk;omega
 have hS2 : ∀ k,S' k → lv.ownBlock ≠ some k:=fun k hk hl=>by
  rcases h.sup k hk with h1 | ⟨r,hr,h1⟩ | h1
  · exact hS k h1 hl
  · exact hap r hr k h1 hl
  · have:=hlt k hl;omega
 have hnew : ∀ x : Value,(x.ownBlock = lv.ownBlock ∨ ∃ b,x.ownBlock = some b ∧ wr.heap.size ≤ b) → ∀ k,x.ownBlock = some k → S k ∨ lv.ownBlock = some k ∨ (∃ r,r < n ∧ (LV r).ownBlock = some k) ∨ w.heap.size ≤ k:=fun x hx k hk=>by
  rcases hx with hx | ⟨b',hb',hle⟩
  · exact .inr (.inl (hx.symm.trans hk))
  · rw [hb'] at hk;injection hk with hk;have:=h.frm.size;exact .inr (.inr (.inr (by omega)))
 refine ⟨_,nv',vv2,nu',_,h.bk.keepV K zp zr zn2 ze zv hS2,?_,fun b hb=>.inl (h.sub b hb),?_,h.len,by simp,h.nvb,?_⟩
 · refine (h.frm.mono (fun k _ hk=>?_)).trans K.frm (fun k hk hk2=>?_)
  · rcases hk with hk | hk | hk
   · exact .inl hk
   · exact .inr (.inl hk)
   · exact .inr (.inr (.inr (.inr hk)))
  · rcases hk2 with hk2 | hk2 | hk2
   · exact .inl hk2
   · exact .inr (.inr (.inl hk2))
   · exact .inr (.inr (.inr (.inl hk2)))
 · intro k hk
  rcases hk with hk | hk | hk | hk | hk
  · rcases h.sup k hk with h1 | h1 | h1
   · exact .inl h1
   · exact .inr (.inr (.inl h1))
   · exact .inr (.inr (.inr h1))
  · exact .inr (.inl hk)
  · exact hnew _ (K.lists (a,q + 1) (by simp)).2.1 k hk
  · exact hnew _ (K.lists (b,q + 2) (by simp)).2.1 k hk
  · exact hnew _ (K.lists (c,q + 3) (by simp)).2.1 k hk
 · rcases K.nvb with h1 | ⟨b',hb',hle⟩
  · exact .inl h1
  · exact .inr ⟨b',hb',by have:=h.frm.size;omega⟩
set_option maxRecDepth 100000 in
set_option maxHeartbeats 3000000 in
theorem keepValues_any (base Bw n : Nat) (S : Nat → Prop) (lv pv rv nv ev vv : Value) (pu ru nu eu us xs : List Value) (V : Nat → Val) (LV : Nat → Value) (w : World) (hn : n ≤ 4) (hnu : nu.length ≤ 100000000) (hm : us.length ≤ 200000000) (hbase : base ≤ w.heap.size) (hll : ∀ r,r < n → (V r).l.length ≤ 200000000)
  (hBk : Bk w base Bw S pv rv nv ev vv pu ru nu eu us) (hO : OwnV w base lv n V LV xs) (hlb : lv.ownBlock ≠ some Bw)
  (zp : Clear lv pv) (zr : Clear lv rv) (zn : Clear lv nv) (ze : Clear lv ev) (zv : Clear lv vv) (hS : ∀ b,S b → lv.ownBlock ≠ some b)
  (hb' : ∀ r,r < n → (LV r).ownBlock ≠ some Bw) (zp' : ∀ r,r < n → Clear (LV r) pv) (zr' : ∀ r,r < n → Clear (LV r) rv) (zn' : ∀ r,r < n → Clear (LV r) nv) (ze' : ∀ r,r < n → Clear (LV r) ev) (zv' : ∀ r,r < n → Clear (LV r) vv) (hS' : ∀ r,r < n → ∀ b,S b → (LV r).ownBlock ≠ some b) :
  Calls Tryz.prog 39 #[.pointer (some ⟨Bw,0,none⟩),lv] w fun e w'=>∃ S2 nv2 vv2 nu2 vu2,e = .returned (.tuple #[]) ∧ Bk w' base Bw S2 pv rv nv2 ev vv2 pu ru nu2 eu vu2 ∧
   Frm (fun k=>k = Bw ∨ nv.ownBlock = some k ∨ vv.ownBlock = some k ∨ lv.ownBlock = some k ∨ ∃ r,r < n ∧ (LV r).ownBlock = some k) w w' ∧ (∀ b,S b → S2 b) ∧
   (∀ b,S2 b → S b ∨ lv.ownBlock = some b ∨ (∃ r,r < n ∧ (LV r).ownBlock = some b) ∨ w.heap.size ≤ b) ∧ nu2.length = nu.length + 4 * n ∧ vu2.length = us.length + 4 ∧
   (nv2.ownBlock = nv.ownBlock ∨ ∃ b,nv2.ownBlock = some b ∧ w.heap.size ≤ b) ∧ (vv2.ownBlock = vv.ownBlock ∨ ∃ b,vv2.ownBlock = some b ∧ w.heap.size ≤ b):=by
 obtain ⟨la,lc,rfl⟩:=own_form hO.row
 have HK:=hide (⟨hBk,Frm.refl _ _,fun _ h=>h,fun _ h=>.inl h,by simp,.inl rfl⟩ : KV w w base Bw S S pv rv nv nv ev vv pu ru nu nu eu us LV 0)
 have HBk:=hide hBk
 have HO:=hide hO
 have Hlb:=hide hlb
 have Hzp:=hide zp
 have Hzr:=hide zr
 have Hzn:=hide zn
 have Hze:=hide ze
 have Hzv:=hide zv
 have HS:=hide hS
 have Hb':=hide hb'
 have Hzp':=hide zp'
 have Hzr':=hide zr'
 have Hzn':=hide zn'
 have Hze':=hide ze'
 have Hzv':=hide zv'
 have HS':=hide hS'
 have Hll:=hide hll
 clear hBk hO hlb zp zr zn ze zv hS hb' zp' zr' zn' ze' zv' hS' hll
 go_enter Tryz.func39,Tryz.ntmps39
 go_wp2
 go_loopw [4] (fun i wr=>∃ (k : Nat) (S2 : Nat → Prop) (nv2 : Value) (nu2 : List Value),k ≤ n ∧ i = .int .i64 k ∧ KV w wr base Bw S S2 pv rv nv nv2 ev vv pu ru nu nu2 eu us LV k) (fun i _=>n - (intOf i).toNat)
 case atStart=>exact ⟨0,S,nv,nu,Nat.zero_le _,rfl,HK.out⟩
 case round =>
  obtain ⟨k,S2,nv2,nu2,hk,rfl,hKV⟩:=hrel
  have HKV:=hide hKV
  have hrow : wr.ownsRow base 91 3 (.slice la n lc) n xs:=own_turn HO.out.row (fun b hb hlt=>hKV.frm.block b hlt (fun h=>by
   rcases h with h | h | ⟨r,hr,h⟩
   · exact Hlb.out (h ▸ hb)
   · exact Hzn.out b hb h
   · exact HO.out.off r (by omega) b h hb))
  have HROW:=hide hrow
  by_cases hlt : k < n
  · obtain ⟨g,cap',hv',hbg,hgl⟩:=hrow.form (by omega)
   cases hv'
   have c2:=hrow.cellAt (k * 3 + 2) (by omega)
   rw [HO.out.n2 k hlt] at c2
   have hown : wr.ownsRow base 2 1 (LV k) (V k).l.length (ints (V k).l):=own_turn (HO.out.own k hlt) (fun b hb hlt2=>hKV.frm.block b hlt2 (fun h=>by
    rcases h with h | h | ⟨r,hr,h⟩
    · exact Hb'.out k hlt (h ▸ hb)
    · exact Hzn'.out k hlt b hb h
    · exact HO.out.apart k r hlt (by omega) (by omega) b hb h))
   have hlvlt : ∀ b,(LV k).ownBlock = some b → b < w.heap.size:=fun b hb=>((HO.out.own k hlt).lt b hb).2
   have hzn2 : Clear (LV k) nv2:=fun b hb hv=>by
    rcases hKV.nvb with h | ⟨b2,h,hle⟩
    · exact Hzn'.out k hlt b hb (h.symm.trans hv)
    · rw [h] at hv;injection hv with hv;have:=hlvlt b hb;omega
   have HC:=hide (keepNums_any base Bw (V k).l.length (LV k) nv2 (ints (V k).l) nu2 wr (Hll.out k hlt) (by have:=hKV.len;omega) hKV.bk.lt (by have:=hKV.frm.size;omega) hKV.bk.c2 (hKV.bk.fz 2) hKV.bk.on hown hKV.bk.bn (Hb'.out k hlt) hzn2)
   have HZ2:=hide hzn2
   have HLL:=hide hlvlt
   have hki : (k : Int) < n:=by omega
   obtain ⟨lk,hlk⟩ : ∃ lk,LV k = lk:=⟨_,rfl⟩
   rw [hlk] at c2 HC
   have HLK:=hide hlk
   obtain ⟨ka,kn,kc,hke⟩ : ∃ ka kn kc,lk = .slice ka kn kc:=by
    obtain ⟨q1,q2,q3⟩:=own_form hown
    exact ⟨q1,_,q2,by rw [← hlk];exact q3⟩
   subst hke
   clear hKV hrow hown hlvlt hzn2 hlk
   go_wp2_with fail
   refine HC.out.mono ?_
   rintro e w2 ⟨a,b,c,nv3,rfl,hKS⟩
   have HKS:=hide hKS
   clear hKS HC
   go_wp2
   go_roundw
   case rel =>
    have hKS:=HKS.out
    rw [← HLK.out] at hKS
    obtain ⟨S3,hn3⟩:=HKV.out.next hKS HLL.out (Hzp'.out k hlt) (Hzr'.out k hlt) HZ2.out (Hze'.out k hlt) (Hzv'.out k hlt) (HS'.out k hlt) (fun r hr=>HO.out.apart k r hlt (by omega) (by omega))
    exact ⟨k + 1,S3,nv3,_,by omega,by go_num,hn3⟩
   case measure=>simp [intOf];omega
  · obtain rfl : n = k:=by omega
   obtain ⟨wk,hwk⟩ : ∃ wk,wr = wk:=⟨_,rfl⟩
   subst hwk
   clear hKV hrow hlt
   obtain ⟨na,nc,hvv⟩:=own_form HKV.out.bk.ov
   have HNV':=hide HKV.out.bk.ov
   have hf:=HKV.out.bk.c4
   have hfz:=HKV.out.bk.fz 4
   rw [hvv] at HNV' hf
   have HVV:=hide hvv
   obtain ⟨ib,hib,hb0,hb1,hb2⟩:=info_parts Tryz.infoLV
   obtain ⟨il,hil,hl0,hl1,hl2⟩:=info_parts Tryz.infoV'
   obtain ⟨m,hM⟩ : ∃ m,us.length = m:=⟨_,rfl⟩
   have HM:=hide hM
   have hm' : m ≤ 200000000:=by omega
   rw [hM] at hf
   have hB:=HKV.out.bk.lt
   have hbase2 : base ≤ wr.heap.size:=by have:=HKV.out.frm.size;omega
   have HLN : Hid (Clear (.slice la n lc) (.slice na us.length nc)):=by unfold Hid;rw [← hvv];exact Hzv.out
   have HNB : Hid ((Value.slice na us.length nc).ownBlock ≠ some Bw):=by unfold Hid;rw [← hvv];exact HKV.out.bk.bv
   have HLB:=Hlb
   clear hM hvv hm
   go_wp2
   obtain ⟨mk,hmk⟩ : ∃ mk : Int,-1000 - (m : Int) / 4 = mk:=⟨_,rfl⟩
   have HMK : Hid (mkZ us.length = mk):=by unfold Hid mkZ;rw [HM.out];simp only [Int.natCast_ediv];exact hmk
   rw [hmk]
   clear hmk
   obtain ⟨o0,ho0⟩ : ∃ o0,Obj.cells #[.int .i64 mk,.bool false,.slice none 0 0] 91 = o0:=⟨_,rfl⟩
   rw [ho0]
   obtain ⟨w0,hw0⟩ : ∃ w0,wr.alloc o0 = w0:=⟨_,rfl⟩
   have HW0:=hide hw0
   obtain ⟨mb,hmb⟩ : ∃ mb,wr.heap.size = mb:=⟨_,rfl⟩
   have hnew : w0.heap[mb]? = some o0:=by rw [← hw0,← hmb];exact heap_new wr o0
   have m0 : w0.cell? ⟨mb,0,none⟩ = some (.int .i64 mk):=by simp [World.cell?,hnew,← ho0]
   have m1 : w0.cell? ⟨mb,1,none⟩ = some (.bool false):=by simp [World.cell?,hnew,← ho0]
   have m2 : w0.cell? ⟨mb,2,none⟩ = some (.slice none 0 0):=by simp [World.cell?,hnew,← ho0]
   have hmlt : mb < w0.heap.size:=by rw [← hw0,← hmb];simp
   have hBb : w0.heap[Bw]? = wr.heap[Bw]?:=by rw [← hw0];exact Below.heap_alloc _ _ _ hB
   have HB0 : Hid (Bw < w0.heap.size):=by unfold Hid;omega
   have HMB : Hid (mb ≠ Bw):=by unfold Hid;omega
   have HML : Hid (¬ (Value.slice la n lc).ownBlock = some mb):=fun h=>by have:=(HROW.out.lt mb h).2;omega
   have HMN : Hid (¬ (Value.slice na us.length nc).ownBlock = some mb):=fun h=>by have:=(HNV'.out.lt mb h).2;omega
   have HLV : Hid (w0.ownsRow base 91 3 (.slice la n lc) n xs):=by unfold Hid;rw [← hw0];exact HROW.out.alloc _
   have HNV : Hid (w0.ownsRow base 64 1 (.slice na us.length nc) us.length us):=by unfold Hid;rw [← hw0];exact HNV'.out.alloc _
   have hf0 : w0.cell? ⟨Bw,4,none⟩ = some (.slice na m nc):=(World.cell?_of_block (w:=wr) (a:=⟨Bw,4,none⟩) hBb).trans hf
   have HFZ : Hid (w0.frozen? ⟨Bw,4,none⟩ = false):=(World.frozen?_of_block (w:=wr) (a:=⟨Bw,4,none⟩) hBb).trans hfz
   have hbs0 : base ≤ w0.heap.size:=by omega
   have HWB:=hide hB
   rw [hw0,hmb]
   clear hw0 hmb hnew ho0 hBb hf hfz HNV' hB
   obtain ⟨wl,hwl⟩ : ∃ wl,wr = wl:=⟨_,rfl⟩
   rw [hwl] at HKV HW0 HWB HROW hbase2
   clear hwl
   go_loopw [6] (fun i wr=>(∃ (k : Nat) (zs : List Value),k ≤ n ∧ i = .int .i64 k ∧ wr.ownsRow base 91 3 (.slice la n lc) n zs ∧ zs.take (k * 3) = repC [.int .i64 mk,.bool false,.slice none 0 0] k) ∧ Frm (fun k=>(Value.slice la n lc).ownBlock = some k) w0 wr)
    (fun i _=>n - (intOf i).toNat)
   case atStart=>exact ⟨⟨0,xs,Nat.zero_le _,rfl,HLV.out,by simp [repC]⟩,Frm.refl _ _⟩
   case round =>
    obtain ⟨⟨k,zs,hk,rfl,hoz,hzk⟩,hfr⟩:=hrel
    have HOZ:=hide hoz
    have HFR:=hide hfr
    have HZK:=hide hzk
    have hmb : wr.heap[mb]? = w0.heap[mb]?:=hfr.block mb hmlt HML.out
    have r0:=(World.cell?_of_block (w:=w0) (a:=⟨mb,0,none⟩) hmb).trans m0
    have r1:=(World.cell?_of_block (w:=w0) (a:=⟨mb,1,none⟩) hmb).trans m1
    have r2:=(World.cell?_of_block (w:=w0) (a:=⟨mb,2,none⟩) hmb).trans m2
    have hmlr : mb < wr.heap.size:=Nat.lt_of_lt_of_le hmlt hfr.size
    by_cases hlt : k < n
    · obtain ⟨g,cap',hv',hbg,hgl⟩:=hoz.form (by omega)
     cases hv'
     have hzl:=hoz.1
     obtain ⟨u0,hu0⟩ : ∃ u,zs[k * 3]? = some u:=⟨zs[k * 3]'(by omega),by simp⟩
     obtain ⟨u1,hu1⟩ : ∃ u,zs[k * 3 + 1]? = some u:=⟨zs[k * 3 + 1]'(by omega),by simp⟩
     obtain ⟨u2,hu2⟩ : ∃ u,zs[k * 3 + 2]? = some u:=⟨zs[k * 3 + 2]'(by omega),by simp⟩
     have c0:=hoz.cellAt (k * 3) (by omega)
     have c1:=hoz.cellAt (k * 3 + 1) (by omega)
     have c2:=hoz.cellAt (k * 3 + 2) (by omega)
     rw [hu0] at c0
     rw [hu1] at c1
     rw [hu2] at c2
     have f0:=hoz.frozenAt (k * 3)
     have f1:=hoz.frozenAt (k * 3 + 1)
     have f2:=hoz.frozenAt (k * 3 + 2)
     have hki : (k : Int) < n:=by omega
     have HZL:=hide hzl
     clear hoz hfr hzk hu0 hu1 hu2 hmb hzl m0 m1 m2 hf0
     go_wp2
     go_roundw
     case rel =>
      refine ⟨⟨k + 1,((zs.set (k * 3) (.int .i64 mk)).set (k * 3 + 1) (.bool false)).set (k * 3 + 2) (.slice none 0 0),by omega,by go_num,(((HOZ.out.stored (k * 3) (.int .i64 mk)).1.stored (k * 3 + 1) (.bool false)).1.stored (k * 3 + 2) (.slice none 0 0)).1,take3_set HZL.out hlt HZK.out⟩,((HFR.out.setCell (p:=⟨g,k * 3,none⟩) (.inl rfl) (.int .i64 mk)).setCell (p:=⟨g,k * 3 + 1,none⟩) (.inl rfl) (.bool false)).setCell (p:=⟨g,k * 3 + 2,none⟩) (.inl rfl) (.slice none 0 0)⟩
     case measure=>simp [intOf];omega
    · obtain rfl : n = k:=by omega
     have hzl : zs.length = n * 3:=hoz.1
     have hzs : zs = repC [.int .i64 mk,.bool false,.slice none 0 0] n:=by rw [← hzk,← hzl,List.take_length]
     subst hzs
     have hBB : wr.heap[Bw]? = w0.heap[Bw]?:=hfr.block Bw HB0.out HLB.out
     have K0 : Hid (KS w0 wr base Bw 4 91 64 3 (repC [.int .i64 mk,.bool false,.slice none 0 0]) (.slice la n lc) (.slice na us.length nc) [(.slice la n lc,n)] (.slice na us.length nc) us):=by
      refine ⟨hfr.mono (fun i _ h=>.inr (.inr h)),HB0.out,fun j _=>World.cell?_of_block (w:=w0) (a:=⟨Bw,j,none⟩) hBB,fun j=>World.frozen?_of_block (w:=w0) (a:=⟨Bw,j,none⟩) hBB,?_,?_,HNB.out,.inl rfl,?_⟩
      · rw [HM.out];exact (World.cell?_of_block (w:=w0) (a:=⟨Bw,4,none⟩) hBB).trans hf0
      · exact own_turn HNV.out (fun b hb hlt=>hfr.block b hlt (fun h=>HLN.out b h hb))
      · intro p hp
       rw [List.mem_singleton] at hp
       subst hp
       exact ⟨hoz,.inl rfl,HLB.out,HLN.out⟩
     have hws:=hfr.size
     have HMM : Hid (∀ (nv' : Value) (us' : List Value) (ls : List (Value × Nat)) (W : World),KS w0 W base Bw 4 91 64 3 (repC [.int .i64 mk,.bool false,.slice none 0 0]) (.slice la n lc) (.slice na us.length nc) ls nv' us' → W.cell? ⟨mb,0,none⟩ = some (.int .i64 mk) ∧ W.cell? ⟨mb,1,none⟩ = some (.bool false) ∧ W.cell? ⟨mb,2,none⟩ = some (.slice none 0 0) ∧ mb < W.heap.size):=by
      intro nv' us' ls W hK
      have hb : W.heap[mb]? = w0.heap[mb]?:=hK.frm.block mb hmlt (fun h=>by rcases h with h | h | h;exact HMB.out h;exact HMN.out h;exact HML.out h)
      exact ⟨(World.cell?_of_block (w:=w0) (a:=⟨mb,0,none⟩) hb).trans m0,(World.cell?_of_block (w:=w0) (a:=⟨mb,1,none⟩) hb).trans m1,(World.cell?_of_block (w:=w0) (a:=⟨mb,2,none⟩) hb).trans m2,Nat.lt_of_lt_of_le hmlt hK.frm.size⟩
     have HONE : Hid (∀ u ∈ ([.int .i64 mk,.bool false,.slice none 0 0] : List Value),u.oneCell' = true):=by unfold Hid;simp [Value.oneCell']
     clear hoz hfr hzk hBB hzl HOZ HFR HZK hf0 m0 m1 m2 hmb
     go_wp2_with (at_builtin;refine wpList_app2 _ rfl _ _ 64 rfl base 91 il _ 3 40 Tryz.underlying64 hil hl0 hl1 hl2 rfl (by decide) _ _ _ rfl ((K0.out.lists (.slice la n lc,n) (by simp)).1.alloc _) (.slice (some ⟨wr.heap.size,0,none⟩) 1 1) 1 (repC [.int .i64 mk,.bool false,.slice none 0 0] 1) rfl (srcA _ _ _ _ 0 _ rfl rfl 3 1 rfl) (repC_one HONE.out _) ?h63 ?hbytes ?hbase ?_)
     case h63=>unfold maxLen;omega
     case hbytes=>omega
     case hbase=>simp;omega
     intro a1 c1 w1 ho hg _ hlie hway
     rw [repC_add] at ho
     have K1:=hide (K0.out.addList (by omega) (repC_take rfl) (n:=n) (m:=1) (by simp) (by intro p hp;simp at hp;rcases hp with rfl <;> simp) rfl ho hg hlie hway)
     have hw1 : wr.heap.size ≤ w1.heap.size:=by have:=hg.size;simp at this;omega
     clear r0 r1 r2 hmlr
     obtain ⟨r0,r1,r2,hmlr⟩:=HMM.out _ _ _ _ K1.out
     clear ho hg hlie hway
     go_wp2_with (at_builtin;refine wpList_app2 _ rfl _ _ 64 rfl base 91 il _ 3 40 Tryz.underlying64 hil hl0 hl1 hl2 rfl (by decide) _ _ _ rfl ((K1.out.lists (.slice la n lc,n) (by simp)).1.alloc _) (.slice (some ⟨w1.heap.size,0,none⟩) 2 2) 2 (repC [.int .i64 mk,.bool false,.slice none 0 0] 2) rfl (srcA _ _ _ _ 0 _ rfl rfl 3 2 rfl) (repC_one HONE.out _) ?h63 ?hbytes ?hbase ?_)
     case h63=>unfold maxLen;omega
     case hbytes=>omega
     case hbase=>simp;omega
     intro a2 c2 w2 ho hg _ hlie hway
     rw [repC_add] at ho
     have K2:=hide (K1.out.addList (by omega) (repC_take rfl) (n:=n) (m:=2) (by simp) (by intro p hp;simp at hp;rcases hp with rfl | rfl <;> simp) rfl ho hg hlie hway)
     have hw2 : w1.heap.size ≤ w2.heap.size:=by have:=hg.size;simp at this;omega
     clear r0 r1 r2 hmlr
     obtain ⟨r0,r1,r2,hmlr⟩:=HMM.out _ _ _ _ K2.out
     clear ho hg hlie hway
     go_wp2_with (at_builtin;refine wpList_app2 _ rfl _ _ 64 rfl base 91 il _ 3 40 Tryz.underlying64 hil hl0 hl1 hl2 rfl (by decide) _ _ _ rfl ((K2.out.lists (.slice la n lc,n) (by simp)).1.alloc _) (.slice (some ⟨w2.heap.size,0,none⟩) 3 3) 3 (repC [.int .i64 mk,.bool false,.slice none 0 0] 3) rfl (srcA _ _ _ _ 0 _ rfl rfl 3 3 rfl) (repC_one HONE.out _) ?h63 ?hbytes ?hbase ?_)
     case h63=>unfold maxLen;omega
     case hbytes=>omega
     case hbase=>simp;omega
     intro a3 c3 w3 ho hg _ hlie hway
     rw [repC_add] at ho
     have K3:=hide (K2.out.addList (by omega) (repC_take rfl) (n:=n) (m:=3) (by simp) (by intro p hp;simp at hp;rcases hp with rfl | rfl | rfl <;> simp) rfl ho hg hlie hway)
     have hw3 : w2.heap.size ≤ w3.heap.size:=by have:=hg.size;simp at this;omega
     clear r0 r1 r2 hmlr
     obtain ⟨r0,r1,r2,hmlr⟩:=HMM.out _ _ _ _ K3.out
     clear ho hg hlie hway
     rw [HM.out] at K3
     have B0 : Hid (w3.ownsRow base 64 1 (.slice na m nc) m us):=by have:=K3.out.book;rw [HM.out] at this;exact this
     have fc:=K3.out.fld
     have hbw3 : Bw < w3.heap.size:=by have:=HB0.out;omega
     clear r0 r1 r2 hmlr
     go_wp2_with (at_builtin;refine wpList_app2 _ rfl _ _ 39 rfl base 64 ib _ 1 24 Tryz.underlying39 hib hb0 hb1 hb2 rfl (by decide) _ m _ rfl (B0.out.alloc _) (.slice (some ⟨w3.heap.size,0,none⟩) 1 1) 1 [.slice la n lc] rfl (srcA _ _ _ _ 0 _ (by simp) rfl 1 1 rfl) ?h1 ?h63 ?hbytes ?hbase ?_)
     case h1=>simp [Value.oneCell']
     case h63=>unfold maxLen;omega
     case hbytes=>omega
     case hbase=>simp;omega
     intro p1 d1 x1 ho hg _ hlie _
     obtain ⟨s0,s1⟩:=K3.out.store hg
     rw [HFZ.out] at s1
     have K4:=hide (K3.out.addBook (u:=.slice la n lc) (q:=m) (H:=w3.heap.size + 1) (by simp [HM.out]) rfl ho hg hlie)
     have B1 : Hid ((x1.setCell ⟨Bw,4,none⟩ (.slice p1 (m + 1) d1)).ownsRow base 64 1 (.slice p1 (m + 1) d1) (m + 1) (us ++ [.slice la n lc])):=by have:=K4.out.book;simp only [List.length_append,List.length_cons,List.length_nil,HM.out] at this;exact this
     have hx1 : w3.heap.size ≤ x1.heap.size:=by have:=hg.size;simp at this;omega
     have hbx1 : Bw < x1.heap.size:=by omega
     clear ho hg hlie fc
     go_wp2_with (at_builtin;refine wpList_app2 _ rfl _ _ 39 rfl base 64 ib _ 1 24 Tryz.underlying39 hib hb0 hb1 hb2 rfl (by decide) _ (m + 1) _ rfl (B1.out.alloc _) (.slice (some ⟨x1.heap.size,0,none⟩) 1 1) 1 [.slice a1 (n + 1) c1] rfl (srcA _ _ _ _ 0 _ (by simp) rfl 1 1 rfl) ?h1 ?h63 ?hbytes ?hbase ?_)
     case h1=>simp [Value.oneCell']
     case h63=>unfold maxLen;omega
     case hbytes=>omega
     case hbase=>simp;omega
     intro p2 d2 x2 ho hg _ hlie _
     obtain ⟨s0,s1⟩:=K4.out.store hg
     rw [HFZ.out] at s1
     have K5:=hide (K4.out.addBook (u:=.slice a1 (n + 1) c1) (q:=(m + 1)) (H:=x1.heap.size + 1) (by simp [HM.out]) (by simp [World.setCell]) (by simpa using ho) hg hlie)
     have B2 : Hid ((x2.setCell ⟨Bw,4,none⟩ (.slice p2 ((m + 1) + 1) d2)).ownsRow base 64 1 (.slice p2 ((m + 1) + 1) d2) ((m + 1) + 1) (us ++ [.slice la n lc] ++ [.slice a1 (n + 1) c1])):=by have:=K5.out.book;simp only [List.length_append,List.length_cons,List.length_nil,HM.out] at this;exact this
     have hx2 : x1.heap.size ≤ x2.heap.size:=by have:=hg.size;simp at this;omega
     have hbx2 : Bw < x2.heap.size:=by omega
     clear ho hg hlie
     go_wp2_with (at_builtin;refine wpList_app2 _ rfl _ _ 39 rfl base 64 ib _ 1 24 Tryz.underlying39 hib hb0 hb1 hb2 rfl (by decide) _ (m + 1 + 1) _ rfl (B2.out.alloc _) (.slice (some ⟨x2.heap.size,0,none⟩) 1 1) 1 [.slice a2 (n + 2) c2] rfl (srcA _ _ _ _ 0 _ (by simp) rfl 1 1 rfl) ?h1 ?h63 ?hbytes ?hbase ?_)
     case h1=>simp [Value.oneCell']
     case h63=>unfold maxLen;omega
     case hbytes=>omega
     case hbase=>simp;omega
     intro p3 d3 x3 ho hg _ hlie _
     obtain ⟨s0,s1⟩:=K5.out.store hg
     rw [HFZ.out] at s1
     have K6:=hide (K5.out.addBook (u:=.slice a2 (n + 2) c2) (q:=(m + 1 + 1)) (H:=x2.heap.size + 1) (by simp [HM.out]) (by simp [World.setCell]) (by simpa using ho) hg hlie)
     have B3 : Hid ((x3.setCell ⟨Bw,4,none⟩ (.slice p3 ((m + 1 + 1) + 1) d3)).ownsRow base 64 1 (.slice p3 ((m + 1 + 1) + 1) d3) ((m + 1 + 1) + 1) (us ++ [.slice la n lc] ++ [.slice a1 (n + 1) c1] ++ [.slice a2 (n + 2) c2])):=by have:=K6.out.book;simp only [List.length_append,List.length_cons,List.length_nil,HM.out] at this;exact this
     have hx3 : x2.heap.size ≤ x3.heap.size:=by have:=hg.size;simp at this;omega
     have hbx3 : Bw < x3.heap.size:=by omega
     clear ho hg hlie
     go_wp2_with (at_builtin;refine wpList_app2 _ rfl _ _ 39 rfl base 64 ib _ 1 24 Tryz.underlying39 hib hb0 hb1 hb2 rfl (by decide) _ (m + 1 + 1 + 1) _ rfl (B3.out.alloc _) (.slice (some ⟨x3.heap.size,0,none⟩) 1 1) 1 [.slice a3 (n + 3) c3] rfl (srcA _ _ _ _ 0 _ (by simp) rfl 1 1 rfl) ?h1 ?h63 ?hbytes ?hbase ?_)
     case h1=>simp [Value.oneCell']
     case h63=>unfold maxLen;omega
     case hbytes=>omega
     case hbase=>simp;omega
     intro p4 d4 x4 ho hg _ hlie _
     obtain ⟨s0,s1⟩:=K6.out.store hg
     rw [HFZ.out] at s1
     have K7:=hide (K6.out.addBook (u:=.slice a3 (n + 3) c3) (q:=(m + 1 + 1 + 1)) (H:=x3.heap.size + 1) (by simp [HM.out]) (by simp [World.setCell]) (by simpa using ho) hg hlie)
     have B4 : Hid ((x4.setCell ⟨Bw,4,none⟩ (.slice p4 ((m + 1 + 1 + 1) + 1) d4)).ownsRow base 64 1 (.slice p4 ((m + 1 + 1 + 1) + 1) d4) ((m + 1 + 1 + 1) + 1) (us ++ [.slice la n lc] ++ [.slice a1 (n + 1) c1] ++ [.slice a2 (n + 2) c2] ++ [.slice a3 (n + 3) c3])):=by have:=K7.out.book;simp only [List.length_append,List.length_cons,List.length_nil,HM.out] at this;exact this
     have hx4 : x3.heap.size ≤ x4.heap.size:=by have:=hg.size;simp at this;omega
     have hbx4 : Bw < x4.heap.size:=by omega
     clear ho hg hlie
     go_wp2
     go_end0
     have hK:=K7.out
     rw [← HW0.out] at hK
     have hK2:=hK.weaken HWB.out
     have hvm : vaMk us.length = [.int .i64 mk,.bool false,.slice none 0 0]:=by unfold vaMk;rw [HMK.out]
     have hvv2 : Value.slice na m nc = vv:=by rw [HVV.out,HM.out]
     rw [← hvm,hvv2] at hK2
     obtain ⟨S9,nv9,vv9,nu9,vu9,hfin⟩:=HKV.out.finish hK2 (fun k hk=>(HO.out.row.lt k hk).2) Hzp.out Hzr.out Hzn.out Hze.out Hzv.out HS.out HO.out.off
     exact ⟨S9,nv9,vv9,nu9,vu9,rfl,hfin⟩
end Go.Proofs.YtkmakliebhnhbaaGreat
namespace Go.Proofs.YtkmakliebhnhbaaGreat
open Go.RowKit
theorem Bk.below {W W' : World} {B Bw : Nat} {S : Nat → Prop} {pv rv nv ev vv : Value} {pu ru nu eu vu : List Value} (h : Bk W B Bw S pv rv nv ev vv pu ru nu eu vu) (hb : Below W.heap.size W W') : Bk W' B Bw S pv rv nv ev vv pu ru nu eu vu:=by
 have hc : ∀ j,W'.cell? ⟨Bw,j,none⟩ = W.cell? ⟨Bw,j,none⟩:=fun j=>hb.cell (p:=⟨Bw,j,none⟩) h.lt
 have hS : ∀ b,S b → b < W.heap.size → S b ∧ W'.heap[b]? = W.heap[b]?:=fun b h1 h2=>⟨h1,hb.block b h2⟩
 exact { h with
  lt:=Nat.lt_of_lt_of_le h.lt hb.size
  c0:=(hc 0).trans h.c0
  c1:=(hc 1).trans h.c1
  c2:=(hc 2).trans h.c2
  c3:=(hc 3).trans h.c3
  c4:=(hc 4).trans h.c4
  c5:=(hc 5).trans h.c5
  fz:=fun j=>(hb.frozen (p:=⟨Bw,j,none⟩) h.lt).trans (h.fz j)
  op:=own_below h.op hb
  or:=own_below h.or hb
  on:=own_below h.on hb
  oe:=own_below h.oe hb
  ov:=own_below h.ov hb
  st:=fun b hb'=>⟨Nat.lt_of_lt_of_le (h.st b hb').1 hb.size,(h.st b hb').2⟩
  mn:=fun i u hu=>by obtain ⟨l,hl⟩:=h.mn i u hu;exact ⟨l,rep_turn (List.cons_ne_nil _ _) hl hS⟩
  me:=fun i u hu=>by obtain ⟨l,hl⟩:=h.me i u hu;exact ⟨l,rep_turn (List.cons_ne_nil _ _) hl hS⟩
  mv:=fun i u hu=>by obtain ⟨l,hl⟩:=h.mv i u hu;exact ⟨l,rep_turn (List.cons_ne_nil _ _) hl hS⟩ }
theorem OwnV.below {W W' : World} {base n : Nat} {lv : Value} {V : Nat → Val} {LV : Nat → Value} {xs : List Value} (h : OwnV W base lv n V LV xs) (hb : Below W.heap.size W W') : OwnV W' base lv n V LV xs :=
 { h with row:=own_below h.row hb,own:=fun r hr=>own_below (h.own r hr) hb }
theorem OwnV.base {W : World} {base base' n : Nat} {lv : Value} {V : Nat → Val} {LV : Nat → Value} {xs : List Value} (h : OwnV W base lv n V LV xs) (hb : base' ≤ base) : OwnV W base' lv n V LV xs :=
 { h with row:=own_base h.row hb,own:=fun r hr=>own_base (h.own r hr) hb }
theorem clear_new {w0 w : World} {b0 : Nat} {e e' : TypeId} {size size' : Nat} {u v : Value} {n m : Nat} {xs ys : List Value} (hu : w.ownsRow w0.heap.size e size u n xs) (hv : w0.ownsRow b0 e' size' v m ys) : Clear u v:=fun b hb hv'=>by
 have:=(hu.lt b hb).1;have:=(hv.lt b hv').2;omega
set_option maxRecDepth 100000 in
set_option maxHeartbeats 1000000 in
theorem keep_any (B Bw n nt : Nat) (S : Nat → Prop) (lv tv pv rv nv ev vv : Value) (pu ru nu eu vu xs es : List Value) (V : Nat → Val) (LV : Nat → Value) (s0 s1 s2 s3 : Int) (w0 w : World) (hn : n ≤ 4) (hnt : nt ≤ 200000000) (hnu : nu.length ≤ 100000000) (heu : eu.length ≤ 200000000) (hvu : vu.length ≤ 200000000) (hll : ∀ r,r < n → (V r).l.length ≤ 200000000)
  (hBk : Bk w0 B Bw S pv rv nv ev vv pu ru nu eu vu) (hb : Below w0.heap.size w0 w) (hO : OwnV w w0.heap.size lv n V LV xs) (hT : w.ownsRow w0.heap.size 89 3 tv nt es) (hlt : Clear lv tv) (hLt : ∀ r,r < n → Clear (LV r) tv) :
  Calls Tryz.prog 26 #[.pointer (some ⟨Bw,0,none⟩),.agg #[lv,tv,.int .i64 s0,.int .i64 s1,.int .i64 s2,.int .i64 s3]] w fun e w'=>∃ S2 nv2 ev2 vv2 nu2 eu2 vu2,e = .returned (.tuple #[]) ∧ Bk w' B Bw S2 pv rv nv2 ev2 vv2 pu ru nu2 eu2 vu2 ∧
   Frm (fun k=>k = Bw ∨ nv.ownBlock = some k ∨ ev.ownBlock = some k ∨ vv.ownBlock = some k) w0 w' ∧ (∀ b,S b → S2 b) ∧ nu2.length = nu.length + 4 * n ∧ eu2.length = eu.length + 4 ∧ vu2.length = vu.length + 4 ∧
   Frm (fun k=>k = Bw ∨ nv.ownBlock = some k ∨ ev.ownBlock = some k ∨ vv.ownBlock = some k ∨ lv.ownBlock = some k ∨ tv.ownBlock = some k ∨ ∃ r,r < n ∧ (LV r).ownBlock = some k) w w':=by
 have hBs : B ≤ w0.heap.size:=Nat.le_trans hBk.bw (Nat.le_of_lt hBk.lt)
 obtain ⟨la,lc,rfl⟩:=own_form hO.row
 obtain ⟨ta,tc,rfl⟩:=own_form hT
 have hnew : ∀ b,(Value.slice la n lc).ownBlock = some b → w0.heap.size ≤ b:=fun b h=>(hO.row.lt b h).1
 have hnewL : ∀ r,r < n → ∀ b,(LV r).ownBlock = some b → w0.heap.size ≤ b:=fun r hr b h=>((hO.own r hr).lt b h).1
 have hnewT : ∀ b,(Value.slice ta nt tc).ownBlock = some b → w0.heap.size ≤ b:=fun b h=>(hT.lt b h).1
 obtain ⟨o,ho⟩ : ∃ o,Obj.cells #[.slice la n lc,.slice ta nt tc,.int .i64 s0,.int .i64 s1,.int .i64 s2,.int .i64 s3] 69 = o:=⟨_,rfl⟩
 have hba : Below w0.heap.size w0 (w.alloc o):=hb.alloc hb.size o
 have hBk1:=hBk.below hba
 have hO1:=(hO.base hBs).below ((Below.refl _ w).alloc (Nat.le_refl _) o)
 have hT1 : (w.alloc o).ownsRow B 89 3 (.slice ta nt tc) nt es:=(own_base hT hBs).alloc o
 have HC:=hide (keepValues_any B Bw n S (.slice la n lc) pv rv nv ev vv pu ru nu eu vu xs V LV (w.alloc o) hn hnu hvu (Nat.le_trans hBs hba.size) hll hBk1 hO1
  (fun h=>by have:=hnew _ h;have:=hBk.lt;omega) (clear_new hO.row hBk.op) (clear_new hO.row hBk.or) (clear_new hO.row hBk.on) (clear_new hO.row hBk.oe) (clear_new hO.row hBk.ov) (fun b hS h=>by have:=hnew b h;have:=(hBk.st b hS).1;omega)
  (fun r hr h=>by have:=hnewL r hr _ h;have:=hBk.lt;omega) (fun r hr=>clear_new (hO.own r hr) hBk.op) (fun r hr=>clear_new (hO.own r hr) hBk.or) (fun r hr=>clear_new (hO.own r hr) hBk.on) (fun r hr=>clear_new (hO.own r hr) hBk.oe) (fun r hr=>clear_new (hO.own r hr) hBk.ov) (fun r hr b hS h=>by have:=hnewL r hr b h;have:=(hBk.st b hS).1;omega))
 have HK2 : Hid (∀ (w2 : World) (S2 : Nat → Prop) (nv2 vv2 : Value) (nu2 vu2 : List Value),Bk w2 B Bw S2 pv rv nv2 ev vv2 pu ru nu2 eu vu2 →
   Frm (fun k=>k = Bw ∨ nv.ownBlock = some k ∨ vv.ownBlock = some k ∨ (Value.slice la n lc).ownBlock = some k ∨ ∃ r,r < n ∧ (LV r).ownBlock = some k) (w.alloc o) w2 → (∀ b,S b → S2 b) →
   (∀ b,S2 b → S b ∨ (Value.slice la n lc).ownBlock = some b ∨ (∃ r,r < n ∧ (LV r).ownBlock = some b) ∨ (w.alloc o).heap.size ≤ b) →
   (nv2.ownBlock = nv.ownBlock ∨ ∃ b,nv2.ownBlock = some b ∧ (w.alloc o).heap.size ≤ b) → (vv2.ownBlock = vv.ownBlock ∨ ∃ b,vv2.ownBlock = some b ∧ (w.alloc o).heap.size ≤ b) →
   Calls Tryz.prog 40 #[.pointer (some ⟨Bw,0,none⟩),.slice ta nt tc] w2 fun e w'=>∃ S3 ev3 eu3,e = .returned (.tuple #[]) ∧ Bk w' B Bw S3 pv rv nv2 ev3 vv2 pu ru nu2 eu3 vu2 ∧
    Frm (fun k=>k = Bw ∨ nv.ownBlock = some k ∨ ev.ownBlock = some k ∨ vv.ownBlock = some k) w0 w' ∧ (∀ b,S b → S3 b) ∧ eu3.length = eu.length + 4 ∧
    Frm (fun k=>k = Bw ∨ nv.ownBlock = some k ∨ ev.ownBlock = some k ∨ vv.ownBlock = some k ∨ (Value.slice la n lc).ownBlock = some k ∨ (Value.slice ta nt tc).ownBlock = some k ∨ ∃ r,r < n ∧ (LV r).ownBlock = some k) w w'):=by
  intro w2 S2 nv2 vv2 nu2 vu2 hB2 hF2 hsub hsup hn2 hv2
  have hown : w2.ownsRow B 89 3 (.slice ta nt tc) nt es:=own_turn hT1 (fun b hb' hl=>hF2.block b hl (fun h=>by
   rcases h with h | h | h | h | ⟨r,hr,h⟩
   · have:=hnewT b hb';have:=hBk.lt;omega
   · have:=hnewT b hb';have:=(hBk.on.lt b h).2;omega
   · have:=hnewT b hb';have:=(hBk.ov.lt b h).2;omega
   · exact hlt b h hb'
   · exact hLt r hr b h hb'))
  have hz : ∀ u u0 : Value,Clear (.slice ta nt tc) u0 → (u.ownBlock = u0.ownBlock ∨ ∃ b,u.ownBlock = some b ∧ (w.alloc o).heap.size ≤ b) → Clear (.slice ta nt tc) u:=fun u u0 h0 hu b hb' h=>by
   rcases hu with h1 | ⟨b',h1,hle⟩
   · exact h0 b hb' (h1.symm.trans h)
   · rw [h1] at h;injection h with h;have:=(hT1.lt b hb').2;omega
  have zp : Clear (.slice ta nt tc) pv:=clear_new hT hBk.op
  have zr : Clear (.slice ta nt tc) rv:=clear_new hT hBk.or
  have zn:=hz nv2 nv (clear_new hT hBk.on) hn2
  have ze : Clear (.slice ta nt tc) ev:=clear_new hT hBk.oe
  have zv:=hz vv2 vv (clear_new hT hBk.ov) hv2
  have htB : (Value.slice ta nt tc).ownBlock ≠ some Bw:=fun h=>by have:=hnewT _ h;have:=hBk.lt;omega
  have hS2 : ∀ b,S2 b → (Value.slice ta nt tc).ownBlock ≠ some b:=fun b hb' h=>by
   rcases hsup b hb' with h1 | h1 | ⟨r,hr,h1⟩ | h1
   · have:=hnewT b h;have:=(hBk.st b h1).1;omega
   · exact hlt b h1 h
   · exact hLt r hr b h1 h
   · have:=(hT1.lt b h).2;omega
  refine (keepEvents_any B Bw nt (.slice ta nt tc) ev es eu w2 hnt heu hB2.lt (Nat.le_trans (Nat.le_trans hBs hba.size) hF2.size) hB2.c3 (hB2.fz 3) hB2.oe hown hB2.be htB ze).mono ?_
  rintro e w3 ⟨a,b,c,ev3,rfl,K⟩
  refine ⟨_,ev3,_,rfl,hB2.keepE K zp zr zn ze zv hS2,?_,fun b hb'=>.inl (hsub b hb'),by simp,?_⟩
  rotate_left
  · refine ((Frm.refl _ w).alloc o |>.trans hF2 (fun k hk h=>?_)).trans K.frm (fun k hk h=>?_)
   · rcases h with h | h | h | h | h
    · exact .inl h
    · exact .inr (.inl h)
    · exact .inr (.inr (.inr (.inl h)))
    · exact .inr (.inr (.inr (.inr (.inl h))))
    · exact .inr (.inr (.inr (.inr (.inr (.inr h)))))
   · rcases h with h | h | h
    · exact .inl h
    · exact .inr (.inr (.inl h))
    · exact .inr (.inr (.inr (.inr (.inr (.inl h)))))
  refine ((Frm.of_below _ hba).trans hF2 (fun k hk h=>?_)).trans K.frm (fun k hk h=>?_)
  · rcases h with h | h | h | h | ⟨r,hr,h⟩
   · exact .inl h
   · exact .inr (.inl h)
   · exact .inr (.inr (.inr h))
   · have:=hnew k h;omega
   · have:=hnewL r hr k h;omega
  · rcases h with h | h | h
   · exact .inl h
   · exact .inr (.inr (.inl h))
   · have:=hnewT k h;omega
 have hoc : ∀ w2 : World,Frm (fun k=>k = Bw ∨ nv.ownBlock = some k ∨ vv.ownBlock = some k ∨ (Value.slice la n lc).ownBlock = some k ∨ ∃ r,r < n ∧ (LV r).ownBlock = some k) (w.alloc o) w2 → w2.cell? ⟨w.heap.size,1,none⟩ = some (.slice ta nt tc):=fun w2 hF2=>by
  have hbk : w2.heap[w.heap.size]? = (w.alloc o).heap[w.heap.size]?:=hF2.block _ (by simp) (fun h=>by
   rcases h with h | h | h | h | ⟨r,hr,h⟩
   · have:=hBk.lt;have:=hb.size;omega
   · have:=(hBk.on.lt _ h).2;have:=hb.size;omega
   · have:=(hBk.ov.lt _ h).2;have:=hb.size;omega
   · have:=(hO.row.lt _ h).2;omega
   · have:=((hO.own r hr).lt _ h).2;omega)
  rw [World.cell?_of_block (w:=w.alloc o) (a:=⟨w.heap.size,1,none⟩) hbk]
  subst ho
  exact cell_of_row _ w.heap.size 1 _ _ (0,0) (heap_new w _)
 have HOC:=hide hoc
 have HOO:=hide ho
 clear hBk hb hO hT hlt hLt hnew hnewL hnewT hba hBk1 hO1 hT1 hoc ho
 go_enter Tryz.func26,Tryz.ntmps26
 go_wp2_with fail
 rw [HOO.out]
 refine HC.out.mono ?_
 rintro e w2 ⟨S2,nv2,vv2,nu2,vu2,rfl,hB2,hF2,hsub,hsup,hln,hlv,hn2,hv2⟩
 have HK:=hide (HK2.out w2 S2 nv2 vv2 nu2 vu2 hB2 hF2 hsub hsup hn2 hv2)
 have c1:=HOC.out w2 hF2
 have HLN:=hide hln
 have HLV:=hide hlv
 clear hB2 hF2 hsub hsup hln hlv hn2 hv2 HC HK2 HOC
 go_wp2_with fail
 refine HK.out.mono ?_
 rintro e w3 ⟨S3,ev3,eu3,rfl,hB3,hF3,hsub3,hle3,hfr3⟩
 have HR:=hide (⟨S3,nv2,ev3,vv2,nu2,eu3,vu2,hB3,hF3,hsub3,HLN.out,hle3,HLV.out,hfr3⟩ : ∃ S2 nv2 ev2 vv2 nu2 eu2 vu2,Bk w3 B Bw S2 pv rv nv2 ev2 vv2 pu ru nu2 eu2 vu2 ∧
   Frm (fun k=>k = Bw ∨ nv.ownBlock = some k ∨ ev.ownBlock = some k ∨ vv.ownBlock = some k) w0 w3 ∧ (∀ b,S b → S2 b) ∧ nu2.length = nu.length + 4 * n ∧ eu2.length = eu.length + 4 ∧ vu2.length = vu.length + 4 ∧
   Frm (fun k=>k = Bw ∨ nv.ownBlock = some k ∨ ev.ownBlock = some k ∨ vv.ownBlock = some k ∨ (Value.slice la n lc).ownBlock = some k ∨ (Value.slice ta nt tc).ownBlock = some k ∨ ∃ r,r < n ∧ (LV r).ownBlock = some k) w w3)
 clear hB3 hF3 hsub3 hle3 hfr3 HK
 go_wp2
 go_end0
 obtain ⟨S4,nv4,ev4,vv4,nu4,eu4,vu4,hr⟩:=HR.out
 exact ⟨S4,nv4,ev4,vv4,nu4,eu4,vu4,rfl,hr⟩
end Go.Proofs.YtkmakliebhnhbaaGreat
namespace Go.Proofs.YtkmakliebhnhbaaGreat
open Go.RowKit
theorem book_at {w wr : World} {B : Nat} {e : TypeId} {v : Value} {us : List Value} {i : Nat} {u : Value} (h : w.ownsRow B e 1 v us.length us) (hb : Below w.heap.size w wr) (hu : us[i]? = some u) :
  ∃ g cap,v = .slice (some ⟨g,0,none⟩) us.length cap ∧ wr.cell? ⟨g,i,none⟩ = some u ∧ g < w.heap.size:=by
 have hi:=(List.getElem?_eq_some_iff.1 hu).1
 obtain ⟨g,cap,hv,_,hg⟩:=h.form (by omega)
 subst hv
 exact ⟨g,cap,rfl,(hb.cell (p:=⟨g,i,none⟩) hg).trans ((h.cellAt i (by omega)).trans hu),hg⟩
set_option maxRecDepth 100000 in
set_option maxHeartbeats 4000000 in
theorem still_any (B Bw : Nat) (S : Nat → Prop) (pv rv nv ev vv : Value) (pu ru nu eu vu : List Value) (w : World) (hnu : nu.length ≤ 200000000) (heu : eu.length ≤ 200000000) (hvu : vu.length ≤ 200000000) (hBk : Bk w B Bw S pv rv nv ev vv pu ru nu eu vu) :
  Calls Tryz.prog 12 #[.pointer (some ⟨Bw,0,none⟩)] w fun e w'=>e = .returned (.bool true) ∧ Below w.heap.size w w':=by
 have HBk:=hide hBk
 have hBl:=hBk.lt
 obtain ⟨nn,hnn⟩ : ∃ nn,nu.length = nn:=⟨_,rfl⟩
 obtain ⟨ne,hne⟩ : ∃ ne,eu.length = ne:=⟨_,rfl⟩
 obtain ⟨nw,hnw⟩ : ∃ nw,vu.length = nw:=⟨_,rfl⟩
 obtain ⟨na,nc,hnv⟩:=own_form hBk.on
 obtain ⟨ea,ec,hev⟩:=own_form hBk.oe
 obtain ⟨va,vc,hvv⟩:=own_form hBk.ov
 have k2:=hBk.c2
 have k3:=hBk.c3
 have k4:=hBk.c4
 have k5:=hBk.c5
 rw [hnv,hnn] at k2
 rw [hev,hne] at k3
 rw [hvv,hnw] at k4
 rw [hnn] at hnu
 rw [hne] at heu
 rw [hnw] at hvu
 have HNN:=hide hnn
 have HNE:=hide hne
 have HNW:=hide hnw
 have HNV:=hide hnv
 have HEV:=hide hev
 have HVV:=hide hvv
 have K2:=hide k2
 have K3:=hide k3
 have K4:=hide k4
 have K5:=hide k5
 clear hBk hnn hne hnw hnv hev hvv k2 k3 k4 k5
 go_enter Tryz.func12,Tryz.ntmps12
 go_wp2
 go_loopw [3] (fun i wr=>(∃ k : Nat,k ≤ nn ∧ i = .int .i64 k) ∧ Below w.heap.size w wr) (fun i _=>nn - (intOf i).toNat)
 case atStart=>exact ⟨⟨0,Nat.zero_le _,rfl⟩,Below.refl _ _⟩
 case round =>
  obtain ⟨⟨k,hk,rfl⟩,hB⟩:=hrel
  have HB:=hide hB
  have q2:=(hB.cell (p:=⟨Bw,2,none⟩) hBl).trans K2.out
  have hs:=hB.size
  by_cases hlt : k < nn
  · obtain ⟨u,hu⟩ : ∃ u,nu[k]? = some u:=⟨nu[k]'(by have:=HNN.out;omega),by simp⟩
   obtain ⟨g,cap,hv,hcu,hgl⟩:=book_at HBk.out.on hB hu
   rw [HNV.out,HNN.out] at hv
   obtain ⟨L,hL⟩:=HBk.out.mn k u hu
   obtain ⟨a1,c1,hu2,hc1,hm1⟩:=hL.form
   rw [List.length_replicate] at hu2 hc1
   obtain ⟨rfl,rfl⟩ : na = some ⟨g,0,none⟩ ∧ nc = cap:=by cases hv;exact ⟨rfl,rfl⟩
   subst hu2
   have HL:=hide hL
   have HCU : Hid (∀ wx : World,Below w.heap.size w wx → wx.cell? ⟨g,k,none⟩ = some (.slice a1 L c1)):=fun wx hx=>by
    obtain ⟨g',cap',hv',hcu',_⟩:=book_at HBk.out.on hx hu
    rw [HNV.out] at hv'
    cases hv'
    exact hcu'
   have hki : (k : Int) < nn:=by omega
   unfold maxLen at hm1
   clear hB hu hv hL hcu
   obtain ⟨wo,hwo⟩ : ∃ wo,wo = wr:=⟨_,rfl⟩
   rw [← hwo] at HB q2 hs ⊢
   clear hwo
   go_wp2
   go_loopw [4] (fun i wr=>(∃ j : Nat,j ≤ L ∧ i = .int .i64 j) ∧ Below w.heap.size w wr) (fun i _=>L - (intOf i).toNat)
   case atStart=>exact ⟨⟨0,Nat.zero_le _,rfl⟩,HB.out⟩
   case round =>
    clear q2 hs
    obtain ⟨⟨j,hj,rfl⟩,hBj⟩:=hrel
    have HBj:=hide hBj
    have q2:=(hBj.cell (p:=⟨Bw,2,none⟩) hBl).trans K2.out
    have q3:=HCU.out wr hBj
    have hsj:=hBj.size
    by_cases hjL : j < L
    · obtain ⟨b1,o1,rfl,_,hc⟩:=HL.out.at (k:=j) (x:=_) (by rw [List.getElem?_replicate,if_pos hjL])
     have e0:=hc 0 _ rfl
     have hb1:=block_lt_of_cell e0
     simp only [Nat.mul_one,Nat.add_zero] at hb1 e0
     have r0:=(hBj.cell (p:=⟨b1,o1 + j,none⟩) hb1).trans e0
     have hmk : mkZ k = -1000 - (k : Int) / 4:=by unfold mkZ;simp only [Int.natCast_ediv];rfl
     rw [hmk] at r0
     have hji : (j : Int) < L:=by omega
     have hq0 : (0 : Int) ≤ (k : Int) / 4:=by omega
     have hq1 : (k : Int) / 4 ≤ 200000000:=by omega
     clear e0 hc hBj hmk
     go_wp2
     go_roundw
     case rel=>exact ⟨⟨j + 1,by omega,by go_num⟩,HBj.out⟩
     case measure=>simp [intOf];omega
    · clear hBj
     go_wp2
     go_roundw
     case rel=>exact ⟨⟨k + 1,by omega,by go_num⟩,HBj.out⟩
     case measure=>simp [intOf];omega
  · obtain rfl : nn = k:=by omega
   clear hB
   go_wp2
   have HB2:=HB
   go_loopw [5] (fun i wr=>(∃ k : Nat,k ≤ ne ∧ i = .int .i64 k) ∧ Below w.heap.size w wr) (fun i _=>ne - (intOf i).toNat)
   case atStart=>exact ⟨⟨0,Nat.zero_le _,rfl⟩,HB2.out⟩
   case round =>
    obtain ⟨⟨k,hk,rfl⟩,hB⟩:=hrel
    have HB:=hide hB
    have q2:=(hB.cell (p:=⟨Bw,3,none⟩) hBl).trans K3.out
    have hs:=hB.size
    by_cases hlt : k < ne
    · obtain ⟨u,hu⟩ : ∃ u,eu[k]? = some u:=⟨eu[k]'(by have:=HNE.out;omega),by simp⟩
     obtain ⟨g,cap,hv,hcu,hgl⟩:=book_at HBk.out.oe hB hu
     rw [HEV.out,HNE.out] at hv
     obtain ⟨L,hL⟩:=HBk.out.me k u hu
     obtain ⟨a1,c1,hu2,hc1,hm1⟩:=hL.form
     rw [List.length_replicate] at hu2 hc1
     obtain ⟨rfl,rfl⟩ : ea = some ⟨g,0,none⟩ ∧ ec = cap:=by cases hv;exact ⟨rfl,rfl⟩
     subst hu2
     have HL:=hide hL
     have HCU : Hid (∀ wx : World,Below w.heap.size w wx → wx.cell? ⟨g,k,none⟩ = some (.slice a1 L c1)):=fun wx hx=>by
      obtain ⟨g',cap',hv',hcu',_⟩:=book_at HBk.out.oe hx hu
      rw [HEV.out] at hv'
      cases hv'
      exact hcu'
     have hki : (k : Int) < ne:=by omega
     unfold maxLen at hm1
     clear hB hu hv hL hcu
     obtain ⟨wo,hwo⟩ : ∃ wo,wo = wr:=⟨_,rfl⟩
     rw [← hwo] at HB q2 hs ⊢
     clear hwo
     go_wp2
     go_loopw [6] (fun i wr=>(∃ j : Nat,j ≤ L ∧ i = .int .i64 j) ∧ Below w.heap.size w wr) (fun i _=>L - (intOf i).toNat)
     case atStart=>exact ⟨⟨0,Nat.zero_le _,rfl⟩,HB.out⟩
     case round =>
      clear q2 hs
      obtain ⟨⟨j,hj,rfl⟩,hBj⟩:=hrel
      have HBj:=hide hBj
      have q2:=(hBj.cell (p:=⟨Bw,3,none⟩) hBl).trans K3.out
      have q3:=HCU.out wr hBj
      have hsj:=hBj.size
      by_cases hjL : j < L
      · obtain ⟨b1,o1,rfl,_,hc⟩:=HL.out.at (k:=j) (x:=_) (by rw [List.getElem?_replicate,if_pos hjL])
       have e0:=hc 0 _ rfl
       have e1:=hc 1 _ rfl
       have e2:=hc 2 _ rfl
       have hb1:=block_lt_of_cell e0
       simp only [Nat.add_zero] at hb1 e0
       have r0:=(hBj.cell (p:=⟨b1,o1 + j * 3,none⟩) hb1).trans e0
       have r1:=(hBj.cell (p:=⟨b1,o1 + j * 3 + 1,none⟩) hb1).trans e1
       have r2:=(hBj.cell (p:=⟨b1,o1 + j * 3 + 2,none⟩) hb1).trans e2
       clear e1 e2
       have hmk : mkZ k = -1000 - (k : Int) / 4:=by unfold mkZ;simp only [Int.natCast_ediv];rfl
       rw [hmk] at r0
       have hji : (j : Int) < L:=by omega
       have hq0 : (0 : Int) ≤ (k : Int) / 4:=by omega
       have hq1 : (k : Int) / 4 ≤ 200000000:=by omega
       clear e0 hc hBj hmk
       go_wp2
       go_roundw
       case rel=>exact ⟨⟨j + 1,by omega,by go_num⟩,HBj.out⟩
       case measure=>simp [intOf];omega
      · clear hBj
       go_wp2
       go_roundw
       case rel=>exact ⟨⟨k + 1,by omega,by go_num⟩,HBj.out⟩
       case measure=>simp [intOf];omega
    · obtain rfl : ne = k:=by omega
     clear hB
     go_wp2
     have HB3:=HB
     go_loopw [7] (fun i wr=>(∃ k : Nat,k ≤ nw ∧ i = .int .i64 k) ∧ Below w.heap.size w wr) (fun i _=>nw - (intOf i).toNat)
     case atStart=>exact ⟨⟨0,Nat.zero_le _,rfl⟩,HB3.out⟩
     case round =>
      obtain ⟨⟨k,hk,rfl⟩,hB⟩:=hrel
      have HB:=hide hB
      have q2:=(hB.cell (p:=⟨Bw,4,none⟩) hBl).trans K4.out
      have hs:=hB.size
      by_cases hlt : k < nw
      · obtain ⟨u,hu⟩ : ∃ u,vu[k]? = some u:=⟨vu[k]'(by have:=HNW.out;omega),by simp⟩
       obtain ⟨g,cap,hv,hcu,hgl⟩:=book_at HBk.out.ov hB hu
       rw [HVV.out,HNW.out] at hv
       obtain ⟨L,hL⟩:=HBk.out.mv k u hu
       obtain ⟨a1,c1,hu2,hc1,hm1⟩:=hL.form
       rw [List.length_replicate] at hu2 hc1
       obtain ⟨rfl,rfl⟩ : va = some ⟨g,0,none⟩ ∧ vc = cap:=by cases hv;exact ⟨rfl,rfl⟩
       subst hu2
       have HL:=hide hL
       have HCU : Hid (∀ wx : World,Below w.heap.size w wx → wx.cell? ⟨g,k,none⟩ = some (.slice a1 L c1)):=fun wx hx=>by
        obtain ⟨g',cap',hv',hcu',_⟩:=book_at HBk.out.ov hx hu
        rw [HVV.out] at hv'
        cases hv'
        exact hcu'
       have hki : (k : Int) < nw:=by omega
       unfold maxLen at hm1
       clear hB hu hv hL hcu
       obtain ⟨wo,hwo⟩ : ∃ wo,wo = wr:=⟨_,rfl⟩
       rw [← hwo] at HB q2 hs ⊢
       clear hwo
       go_wp2
       go_loopw [8] (fun i wr=>(∃ j : Nat,j ≤ L ∧ i = .int .i64 j) ∧ Below w.heap.size w wr) (fun i _=>L - (intOf i).toNat)
       case atStart=>exact ⟨⟨0,Nat.zero_le _,rfl⟩,HB.out⟩
       case round =>
        clear q2 hs
        obtain ⟨⟨j,hj,rfl⟩,hBj⟩:=hrel
        have HBj:=hide hBj
        have q2:=(hBj.cell (p:=⟨Bw,4,none⟩) hBl).trans K4.out
        have q3:=HCU.out wr hBj
        have hsj:=hBj.size
        by_cases hjL : j < L
        · obtain ⟨b1,o1,rfl,_,hc⟩:=HL.out.at (k:=j) (x:=_) (by rw [List.getElem?_replicate,if_pos hjL])
         have e0:=hc 0 _ rfl
         have e1:=hc 1 _ rfl
         have e2:=hc 2 _ rfl
         have hb1:=block_lt_of_cell e0
         simp only [Nat.add_zero] at hb1 e0
         have r0:=(hBj.cell (p:=⟨b1,o1 + j * 3,none⟩) hb1).trans e0
         have r1:=(hBj.cell (p:=⟨b1,o1 + j * 3 + 1,none⟩) hb1).trans e1
         have r2:=(hBj.cell (p:=⟨b1,o1 + j * 3 + 2,none⟩) hb1).trans e2
         clear e1 e2
         have hmk : mkZ k = -1000 - (k : Int) / 4:=by unfold mkZ;simp only [Int.natCast_ediv];rfl
         rw [hmk] at r0
         have hji : (j : Int) < L:=by omega
         have hq0 : (0 : Int) ≤ (k : Int) / 4:=by omega
         have hq1 : (k : Int) / 4 ≤ 200000000:=by omega
         clear e0 hc hBj hmk
         go_wp2
         go_roundw
         case rel=>exact ⟨⟨j + 1,by omega,by go_num⟩,HBj.out.alloc hsj _⟩
         case measure=>simp [intOf];omega
        · clear hBj
         go_wp2
         go_roundw
         case rel=>exact ⟨⟨k + 1,by omega,by go_num⟩,HBj.out⟩
         case measure=>simp [intOf];omega
      · obtain rfl : nw = k:=by omega
       clear hB
       go_wp2
       have q5:=(HB.out.cell (p:=⟨Bw,5,none⟩) hBl).trans K5.out
       go_wp2
       go_loop [10] (fun i=>i = .int .i64 0) (fun _=>0)
       case atStart=>rfl
       case round =>
        subst hrel
        go_wp2
        go_ret
        exact ⟨rfl,HB.out⟩
end Go.Proofs.YtkmakliebhnhbaaGreat
namespace Go.Proofs.YtkmakliebhnhbaaGreat
open Go.RowKit
set_option maxHeartbeats 4000000 in
theorem may_1 (F R K L : Int) (f : Int) (pb nf nr c1 c2 : Nat) (fa ra : Option Addr) (w : World) (hf : w.cell? ⟨pb,0,none⟩ = some (.slice fa nf c1)) (hr : w.cell? ⟨pb,1,none⟩ = some (.slice ra nr c2)) :
  Calls Tryz.prog 36 #[.pointer (some ⟨pb,0,none⟩),.agg #[.int .i64 1,.int .i64 F,.int .i64 R,.int .i64 K,.int .i64 L],.int .i64 f] w fun e w'=>e = .returned (.bool (mayB nf nr f ⟨1,F,R,K,L⟩)) ∧ Below w.heap.size w w':=by
 have hb:=block_lt_of_cell hf
 simp only at hb
 by_cases q0 : 0 ≤ R
 · have q0' : decide (0 ≤ R) = true:=by simpa using q0
  by_cases q1 : R < (nr : Int)
  · have q1' : decide (R < (nr : Int)) = true:=by simpa using q1
   by_cases q2 : F = 0
   · have q2' : (F == 0) = true:=by simpa using q2
    have H : Hid (mayB nf nr f ⟨1,F,R,K,L⟩ = true):=by unfold Hid;simp [mayB,q0,q1,q2]
    go_enter Tryz.func36,Tryz.ntmps36
    go_wp2
    go_quiet (fail)
    go_wp2
    go_ret
    exact ⟨by rw [H.out];rfl,(by repeat (first | exact Below.refl _ _ | refine Below.drew ?_ | refine below_drewN ?_ _ | refine Below.alloc ?_ (Nat.le_refl _) _))⟩
   · have q2' : (F == 0) = false:=by simpa using q2
    have H : Hid (mayB nf nr f ⟨1,F,R,K,L⟩ = false):=by unfold Hid;simp [mayB,q2]
    go_enter Tryz.func36,Tryz.ntmps36
    go_wp2
    go_quiet (fail)
    go_wp2
    go_ret
    exact ⟨by rw [H.out];rfl,(by repeat (first | exact Below.refl _ _ | refine Below.drew ?_ | refine below_drewN ?_ _ | refine Below.alloc ?_ (Nat.le_refl _) _))⟩
  · have q1' : decide (R < (nr : Int)) = false:=by simpa using q1
   have H : Hid (mayB nf nr f ⟨1,F,R,K,L⟩ = false):=by unfold Hid;simp [mayB,q1]
   go_enter Tryz.func36,Tryz.ntmps36
   go_wp2
   go_quiet (fail)
   go_wp2
   go_ret
   exact ⟨by rw [H.out];rfl,(by repeat (first | exact Below.refl _ _ | refine Below.drew ?_ | refine below_drewN ?_ _ | refine Below.alloc ?_ (Nat.le_refl _) _))⟩
 · have q0' : decide (0 ≤ R) = false:=by simpa using q0
  have H : Hid (mayB nf nr f ⟨1,F,R,K,L⟩ = false):=by unfold Hid;simp [mayB,q0]
  go_enter Tryz.func36,Tryz.ntmps36
  go_wp2
  go_quiet (fail)
  go_wp2
  go_ret
  exact ⟨by rw [H.out];rfl,(by repeat (first | exact Below.refl _ _ | refine Below.drew ?_ | refine below_drewN ?_ _ | refine Below.alloc ?_ (Nat.le_refl _) _))⟩
set_option maxHeartbeats 4000000 in
theorem may_2 (F R K L : Int) (f : Int) (pb nf nr c1 c2 : Nat) (fa ra : Option Addr) (w : World) (hf : w.cell? ⟨pb,0,none⟩ = some (.slice fa nf c1)) (hr : w.cell? ⟨pb,1,none⟩ = some (.slice ra nr c2)) :
  Calls Tryz.prog 36 #[.pointer (some ⟨pb,0,none⟩),.agg #[.int .i64 2,.int .i64 F,.int .i64 R,.int .i64 K,.int .i64 L],.int .i64 f] w fun e w'=>e = .returned (.bool (mayB nf nr f ⟨2,F,R,K,L⟩)) ∧ Below w.heap.size w w':=by
 have hb:=block_lt_of_cell hf
 simp only at hb
 by_cases q0 : 0 ≤ R
 · have q0' : decide (0 ≤ R) = true:=by simpa using q0
  by_cases q1 : R < (nr : Int)
  · have q1' : decide (R < (nr : Int)) = true:=by simpa using q1
   by_cases q2 : F = 0
   · have q2' : (F == 0) = true:=by simpa using q2
    by_cases q3 : 0 < K
    · have q3' : decide (0 < K) = true:=by simpa using q3
     by_cases q4 : L = 0
     · have q4' : (L == 0) = true:=by simpa using q4
      have H : Hid (mayB nf nr f ⟨2,F,R,K,L⟩ = true):=by unfold Hid;simp [mayB,q0,q1,q2,q3,q4]
      go_enter Tryz.func36,Tryz.ntmps36
      go_wp2
      go_quiet (fail)
      go_wp2
      go_ret
      exact ⟨by rw [H.out];rfl,(by repeat (first | exact Below.refl _ _ | refine Below.drew ?_ | refine below_drewN ?_ _ | refine Below.alloc ?_ (Nat.le_refl _) _))⟩
     · have q4' : (L == 0) = false:=by simpa using q4
      have H : Hid (mayB nf nr f ⟨2,F,R,K,L⟩ = false):=by unfold Hid;simp [mayB,q4]
      go_enter Tryz.func36,Tryz.ntmps36
      go_wp2
      go_quiet (fail)
      go_wp2
      go_ret
      exact ⟨by rw [H.out];rfl,(by repeat (first | exact Below.refl _ _ | refine Below.drew ?_ | refine below_drewN ?_ _ | refine Below.alloc ?_ (Nat.le_refl _) _))⟩
    · have q3' : decide (0 < K) = false:=by simpa using q3
     have H : Hid (mayB nf nr f ⟨2,F,R,K,L⟩ = false):=by unfold Hid;simp [mayB,q3]
     go_enter Tryz.func36,Tryz.ntmps36
     go_wp2
     go_quiet (fail)
     go_wp2
     go_ret
     exact ⟨by rw [H.out];rfl,(by repeat (first | exact Below.refl _ _ | refine Below.drew ?_ | refine below_drewN ?_ _ | refine Below.alloc ?_ (Nat.le_refl _) _))⟩
   · have q2' : (F == 0) = false:=by simpa using q2
    have H : Hid (mayB nf nr f ⟨2,F,R,K,L⟩ = false):=by unfold Hid;simp [mayB,q2]
    go_enter Tryz.func36,Tryz.ntmps36
    go_wp2
    go_quiet (fail)
    go_wp2
    go_ret
    exact ⟨by rw [H.out];rfl,(by repeat (first | exact Below.refl _ _ | refine Below.drew ?_ | refine below_drewN ?_ _ | refine Below.alloc ?_ (Nat.le_refl _) _))⟩
  · have q1' : decide (R < (nr : Int)) = false:=by simpa using q1
   have H : Hid (mayB nf nr f ⟨2,F,R,K,L⟩ = false):=by unfold Hid;simp [mayB,q1]
   go_enter Tryz.func36,Tryz.ntmps36
   go_wp2
   go_quiet (fail)
   go_wp2
   go_ret
   exact ⟨by rw [H.out];rfl,(by repeat (first | exact Below.refl _ _ | refine Below.drew ?_ | refine below_drewN ?_ _ | refine Below.alloc ?_ (Nat.le_refl _) _))⟩
 · have q0' : decide (0 ≤ R) = false:=by simpa using q0
  have H : Hid (mayB nf nr f ⟨2,F,R,K,L⟩ = false):=by unfold Hid;simp [mayB,q0]
  go_enter Tryz.func36,Tryz.ntmps36
  go_wp2
  go_quiet (fail)
  go_wp2
  go_ret
  exact ⟨by rw [H.out];rfl,(by repeat (first | exact Below.refl _ _ | refine Below.drew ?_ | refine below_drewN ?_ _ | refine Below.alloc ?_ (Nat.le_refl _) _))⟩
set_option maxHeartbeats 4000000 in
theorem may_3 (F R K L : Int) (f : Int) (pb nf nr c1 c2 : Nat) (fa ra : Option Addr) (w : World) (hf : w.cell? ⟨pb,0,none⟩ = some (.slice fa nf c1)) (hr : w.cell? ⟨pb,1,none⟩ = some (.slice ra nr c2)) :
  Calls Tryz.prog 36 #[.pointer (some ⟨pb,0,none⟩),.agg #[.int .i64 3,.int .i64 F,.int .i64 R,.int .i64 K,.int .i64 L],.int .i64 f] w fun e w'=>e = .returned (.bool (mayB nf nr f ⟨3,F,R,K,L⟩)) ∧ Below w.heap.size w w':=by
 have hb:=block_lt_of_cell hf
 simp only at hb
 by_cases q0 : 0 ≤ R
 · have q0' : decide (0 ≤ R) = true:=by simpa using q0
  by_cases q1 : f < F
  · have q1' : decide (f < F) = true:=by simpa using q1
   by_cases q2 : F < (nf : Int)
   · have q2' : decide (F < (nf : Int)) = true:=by simpa using q2
    by_cases q3 : R = 0
    · have q3' : (R == 0) = true:=by simpa using q3
     have H : Hid (mayB nf nr f ⟨3,F,R,K,L⟩ = true):=by unfold Hid;simp [mayB,q1,q2,q3]
     go_enter Tryz.func36,Tryz.ntmps36
     go_wp2
     go_quiet (fail)
     go_wp2
     go_quiet (fail)
     go_wp2
     go_ret
     exact ⟨by rw [H.out];rfl,(by repeat (first | exact Below.refl _ _ | refine Below.drew ?_ | refine below_drewN ?_ _ | refine Below.alloc ?_ (Nat.le_refl _) _))⟩
    · have q3' : (R == 0) = false:=by simpa using q3
     have H : Hid (mayB nf nr f ⟨3,F,R,K,L⟩ = false):=by unfold Hid;simp [mayB,q3]
     go_enter Tryz.func36,Tryz.ntmps36
     go_wp2
     go_quiet (fail)
     go_wp2
     go_quiet (fail)
     go_wp2
     go_ret
     exact ⟨by rw [H.out];rfl,(by repeat (first | exact Below.refl _ _ | refine Below.drew ?_ | refine below_drewN ?_ _ | refine Below.alloc ?_ (Nat.le_refl _) _))⟩
   · have q2' : decide (F < (nf : Int)) = false:=by simpa using q2
    have H : Hid (mayB nf nr f ⟨3,F,R,K,L⟩ = false):=by unfold Hid;simp [mayB,q2]
    go_enter Tryz.func36,Tryz.ntmps36
    go_wp2
    go_quiet (fail)
    go_wp2
    go_quiet (fail)
    go_wp2
    go_ret
    exact ⟨by rw [H.out];rfl,(by repeat (first | exact Below.refl _ _ | refine Below.drew ?_ | refine below_drewN ?_ _ | refine Below.alloc ?_ (Nat.le_refl _) _))⟩
  · have q1' : decide (f < F) = false:=by simpa using q1
   have H : Hid (mayB nf nr f ⟨3,F,R,K,L⟩ = false):=by unfold Hid;simp [mayB,q1]
   go_enter Tryz.func36,Tryz.ntmps36
   go_wp2
   go_quiet (fail)
   go_wp2
   go_quiet (fail)
   go_wp2
   go_ret
   exact ⟨by rw [H.out];rfl,(by repeat (first | exact Below.refl _ _ | refine Below.drew ?_ | refine below_drewN ?_ _ | refine Below.alloc ?_ (Nat.le_refl _) _))⟩
 · have q0' : decide (0 ≤ R) = false:=by simpa using q0
  have q3 : ¬ R = 0:=by omega
  have q3' : (R == 0) = false:=by simpa using q3
  have H : Hid (mayB nf nr f ⟨3,F,R,K,L⟩ = false):=by unfold Hid;simp [mayB,q3]
  by_cases q1 : f < F
  · have q1' : decide (f < F) = true:=by simpa using q1
   by_cases q2 : F < (nf : Int)
   · have q2' : decide (F < (nf : Int)) = true:=by simpa using q2
    go_enter Tryz.func36,Tryz.ntmps36
    go_wp2
    go_quiet (fail)
    go_wp2
    go_quiet (fail)
    go_wp2
    go_ret
    exact ⟨by rw [H.out];rfl,(by repeat (first | exact Below.refl _ _ | refine Below.drew ?_ | refine below_drewN ?_ _ | refine Below.alloc ?_ (Nat.le_refl _) _))⟩
   · have q2' : decide (F < (nf : Int)) = false:=by simpa using q2
    go_enter Tryz.func36,Tryz.ntmps36
    go_wp2
    go_quiet (fail)
    go_wp2
    go_quiet (fail)
    go_wp2
    go_ret
    exact ⟨by rw [H.out];rfl,(by repeat (first | exact Below.refl _ _ | refine Below.drew ?_ | refine below_drewN ?_ _ | refine Below.alloc ?_ (Nat.le_refl _) _))⟩
  · have q1' : decide (f < F) = false:=by simpa using q1
   go_enter Tryz.func36,Tryz.ntmps36
   go_wp2
   go_quiet (fail)
   go_wp2
   go_quiet (fail)
   go_wp2
   go_ret
   exact ⟨by rw [H.out];rfl,(by repeat (first | exact Below.refl _ _ | refine Below.drew ?_ | refine below_drewN ?_ _ | refine Below.alloc ?_ (Nat.le_refl _) _))⟩
set_option maxHeartbeats 4000000 in
theorem may_4 (F R K L : Int) (f : Int) (pb nf nr c1 c2 : Nat) (fa ra : Option Addr) (w : World) (hf : w.cell? ⟨pb,0,none⟩ = some (.slice fa nf c1)) (hr : w.cell? ⟨pb,1,none⟩ = some (.slice ra nr c2)) :
  Calls Tryz.prog 36 #[.pointer (some ⟨pb,0,none⟩),.agg #[.int .i64 4,.int .i64 F,.int .i64 R,.int .i64 K,.int .i64 L],.int .i64 f] w fun e w'=>e = .returned (.bool (mayB nf nr f ⟨4,F,R,K,L⟩)) ∧ Below w.heap.size w w':=by
 have hb:=block_lt_of_cell hf
 simp only at hb
 by_cases q0 : 0 ≤ R
 · have q0' : decide (0 ≤ R) = true:=by simpa using q0
  by_cases q1 : f < F
  · have q1' : decide (f < F) = true:=by simpa using q1
   by_cases q2 : F < (nf : Int)
   · have q2' : decide (F < (nf : Int)) = true:=by simpa using q2
    by_cases q3 : R = 0
    · have q3' : (R == 0) = true:=by simpa using q3
     have H : Hid (mayB nf nr f ⟨4,F,R,K,L⟩ = true):=by unfold Hid;simp [mayB,q1,q2,q3]
     go_enter Tryz.func36,Tryz.ntmps36
     go_wp2
     go_quiet (fail)
     go_wp2
     go_quiet (fail)
     go_wp2
     go_ret
     exact ⟨by rw [H.out];rfl,(by repeat (first | exact Below.refl _ _ | refine Below.drew ?_ | refine below_drewN ?_ _ | refine Below.alloc ?_ (Nat.le_refl _) _))⟩
    · have q3' : (R == 0) = false:=by simpa using q3
     have H : Hid (mayB nf nr f ⟨4,F,R,K,L⟩ = false):=by unfold Hid;simp [mayB,q3]
     go_enter Tryz.func36,Tryz.ntmps36
     go_wp2
     go_quiet (fail)
     go_wp2
     go_quiet (fail)
     go_wp2
     go_ret
     exact ⟨by rw [H.out];rfl,(by repeat (first | exact Below.refl _ _ | refine Below.drew ?_ | refine below_drewN ?_ _ | refine Below.alloc ?_ (Nat.le_refl _) _))⟩
   · have q2' : decide (F < (nf : Int)) = false:=by simpa using q2
    have H : Hid (mayB nf nr f ⟨4,F,R,K,L⟩ = false):=by unfold Hid;simp [mayB,q2]
    go_enter Tryz.func36,Tryz.ntmps36
    go_wp2
    go_quiet (fail)
    go_wp2
    go_quiet (fail)
    go_wp2
    go_ret
    exact ⟨by rw [H.out];rfl,(by repeat (first | exact Below.refl _ _ | refine Below.drew ?_ | refine below_drewN ?_ _ | refine Below.alloc ?_ (Nat.le_refl _) _))⟩
  · have q1' : decide (f < F) = false:=by simpa using q1
   have H : Hid (mayB nf nr f ⟨4,F,R,K,L⟩ = false):=by unfold Hid;simp [mayB,q1]
   go_enter Tryz.func36,Tryz.ntmps36
   go_wp2
   go_quiet (fail)
   go_wp2
   go_quiet (fail)
   go_wp2
   go_ret
   exact ⟨by rw [H.out];rfl,(by repeat (first | exact Below.refl _ _ | refine Below.drew ?_ | refine below_drewN ?_ _ | refine Below.alloc ?_ (Nat.le_refl _) _))⟩
 · have q0' : decide (0 ≤ R) = false:=by simpa using q0
  have q3 : ¬ R = 0:=by omega
  have q3' : (R == 0) = false:=by simpa using q3
  have H : Hid (mayB nf nr f ⟨4,F,R,K,L⟩ = false):=by unfold Hid;simp [mayB,q3]
  by_cases q1 : f < F
  · have q1' : decide (f < F) = true:=by simpa using q1
   by_cases q2 : F < (nf : Int)
   · have q2' : decide (F < (nf : Int)) = true:=by simpa using q2
    go_enter Tryz.func36,Tryz.ntmps36
    go_wp2
    go_quiet (fail)
    go_wp2
    go_quiet (fail)
    go_wp2
    go_ret
    exact ⟨by rw [H.out];rfl,(by repeat (first | exact Below.refl _ _ | refine Below.drew ?_ | refine below_drewN ?_ _ | refine Below.alloc ?_ (Nat.le_refl _) _))⟩
   · have q2' : decide (F < (nf : Int)) = false:=by simpa using q2
    go_enter Tryz.func36,Tryz.ntmps36
    go_wp2
    go_quiet (fail)
    go_wp2
    go_quiet (fail)
    go_wp2
    go_ret
    exact ⟨by rw [H.out];rfl,(by repeat (first | exact Below.refl _ _ | refine Below.drew ?_ | refine below_drewN ?_ _ | refine Below.alloc ?_ (Nat.le_refl _) _))⟩
  · have q1' : decide (f < F) = false:=by simpa using q1
   go_enter Tryz.func36,Tryz.ntmps36
   go_wp2
   go_quiet (fail)
   go_wp2
   go_quiet (fail)
   go_wp2
   go_ret
   exact ⟨by rw [H.out];rfl,(by repeat (first | exact Below.refl _ _ | refine Below.drew ?_ | refine below_drewN ?_ _ | refine Below.alloc ?_ (Nat.le_refl _) _))⟩
set_option maxHeartbeats 4000000 in
theorem may_5 (F R K L : Int) (f : Int) (pb nf nr c1 c2 : Nat) (fa ra : Option Addr) (w : World) (hf : w.cell? ⟨pb,0,none⟩ = some (.slice fa nf c1)) (hr : w.cell? ⟨pb,1,none⟩ = some (.slice ra nr c2)) :
  Calls Tryz.prog 36 #[.pointer (some ⟨pb,0,none⟩),.agg #[.int .i64 5,.int .i64 F,.int .i64 R,.int .i64 K,.int .i64 L],.int .i64 f] w fun e w'=>e = .returned (.bool (mayB nf nr f ⟨5,F,R,K,L⟩)) ∧ Below w.heap.size w w':=by
 have hb:=block_lt_of_cell hf
 simp only at hb
 by_cases q0 : 0 ≤ R
 · have q0' : decide (0 ≤ R) = true:=by simpa using q0
  by_cases q1 : F = 0
  · have q1' : (F == 0) = true:=by simpa using q1
   by_cases q2 : R = 0
   · have q2' : (R == 0) = true:=by simpa using q2
    by_cases q3 : K = 0
    · have q3' : (K == 0) = true:=by simpa using q3
     by_cases q4 : L = 0
     · have q4' : (L == 0) = true:=by simpa using q4
      have H : Hid (mayB nf nr f ⟨5,F,R,K,L⟩ = true):=by unfold Hid;simp [mayB,q1,q2,q3,q4]
      go_enter Tryz.func36,Tryz.ntmps36
      go_wp2
      go_quiet (fail)
      go_wp2
      go_ret
      exact ⟨by rw [H.out];rfl,(by repeat (first | exact Below.refl _ _ | refine Below.drew ?_ | refine below_drewN ?_ _ | refine Below.alloc ?_ (Nat.le_refl _) _))⟩
     · have q4' : (L == 0) = false:=by simpa using q4
      have H : Hid (mayB nf nr f ⟨5,F,R,K,L⟩ = false):=by unfold Hid;simp [mayB,q4]
      go_enter Tryz.func36,Tryz.ntmps36
      go_wp2
      go_quiet (fail)
      go_wp2
      go_ret
      exact ⟨by rw [H.out];rfl,(by repeat (first | exact Below.refl _ _ | refine Below.drew ?_ | refine below_drewN ?_ _ | refine Below.alloc ?_ (Nat.le_refl _) _))⟩
    · have q3' : (K == 0) = false:=by simpa using q3
     have H : Hid (mayB nf nr f ⟨5,F,R,K,L⟩ = false):=by unfold Hid;simp [mayB,q3]
     go_enter Tryz.func36,Tryz.ntmps36
     go_wp2
     go_quiet (fail)
     go_wp2
     go_ret
     exact ⟨by rw [H.out];rfl,(by repeat (first | exact Below.refl _ _ | refine Below.drew ?_ | refine below_drewN ?_ _ | refine Below.alloc ?_ (Nat.le_refl _) _))⟩
   · have q2' : (R == 0) = false:=by simpa using q2
    have H : Hid (mayB nf nr f ⟨5,F,R,K,L⟩ = false):=by unfold Hid;simp [mayB,q2]
    go_enter Tryz.func36,Tryz.ntmps36
    go_wp2
    go_quiet (fail)
    go_wp2
    go_ret
    exact ⟨by rw [H.out];rfl,(by repeat (first | exact Below.refl _ _ | refine Below.drew ?_ | refine below_drewN ?_ _ | refine Below.alloc ?_ (Nat.le_refl _) _))⟩
  · have q1' : (F == 0) = false:=by simpa using q1
   have H : Hid (mayB nf nr f ⟨5,F,R,K,L⟩ = false):=by unfold Hid;simp [mayB,q1]
   go_enter Tryz.func36,Tryz.ntmps36
   go_wp2
   go_quiet (fail)
   go_wp2
   go_ret
   exact ⟨by rw [H.out];rfl,(by repeat (first | exact Below.refl _ _ | refine Below.drew ?_ | refine below_drewN ?_ _ | refine Below.alloc ?_ (Nat.le_refl _) _))⟩
 · have q0' : decide (0 ≤ R) = false:=by simpa using q0
  have q3 : ¬ R = 0:=by omega
  have q3' : (R == 0) = false:=by simpa using q3
  have H : Hid (mayB nf nr f ⟨5,F,R,K,L⟩ = false):=by unfold Hid;simp [mayB,q3]
  by_cases q1 : F = 0
  · have q1' : (F == 0) = true:=by simpa using q1
   go_enter Tryz.func36,Tryz.ntmps36
   go_wp2
   go_quiet (fail)
   go_wp2
   go_ret
   exact ⟨by rw [H.out];rfl,(by repeat (first | exact Below.refl _ _ | refine Below.drew ?_ | refine below_drewN ?_ _ | refine Below.alloc ?_ (Nat.le_refl _) _))⟩
  · have q1' : (F == 0) = false:=by simpa using q1
   go_enter Tryz.func36,Tryz.ntmps36
   go_wp2
   go_quiet (fail)
   go_wp2
   go_ret
   exact ⟨by rw [H.out];rfl,(by repeat (first | exact Below.refl _ _ | refine Below.drew ?_ | refine below_drewN ?_ _ | refine Below.alloc ?_ (Nat.le_refl _) _))⟩
set_option maxHeartbeats 4000000 in
theorem may_0 (op F R K L : Int) (o1 : ¬ op = 1) (o2 : ¬ op = 2) (o3 : ¬ op = 3) (o4 : ¬ op = 4) (o5 : ¬ op = 5) (f : Int) (pb nf nr c1 c2 : Nat) (fa ra : Option Addr) (w : World) (hf : w.cell? ⟨pb,0,none⟩ = some (.slice fa nf c1)) (hr : w.cell? ⟨pb,1,none⟩ = some (.slice ra nr c2)) :
  Calls Tryz.prog 36 #[.pointer (some ⟨pb,0,none⟩),.agg #[.int .i64 op,.int .i64 F,.int .i64 R,.int .i64 K,.int .i64 L],.int .i64 f] w fun e w'=>e = .returned (.bool (mayB nf nr f ⟨op,F,R,K,L⟩)) ∧ Below w.heap.size w w':=by
 have hb:=block_lt_of_cell hf
 simp only at hb
 have p1 : (op == 1) = false:=by simpa using o1
 have p2 : (op == 2) = false:=by simpa using o2
 have p3 : (op == 3) = false:=by simpa using o3
 have p4 : (op == 4) = false:=by simpa using o4
 have p5 : (op == 5) = false:=by simpa using o5
 have H : Hid (mayB nf nr f ⟨op,F,R,K,L⟩ = false):=by unfold Hid;simp [mayB,o1,o2,o3,o4,o5]
 clear o1 o2 o3 o4 o5
 by_cases q0 : 0 ≤ R
 · have q0' : decide (0 ≤ R) = true:=by simpa using q0
  go_enter Tryz.func36,Tryz.ntmps36
  go_wp2
  go_quiet (fail)
  go_wp2
  go_ret
  exact ⟨by rw [H.out];rfl,(by repeat (first | exact Below.refl _ _ | refine Below.drew ?_ | refine below_drewN ?_ _ | refine Below.alloc ?_ (Nat.le_refl _) _))⟩
 · have q0' : decide (0 ≤ R) = false:=by simpa using q0
  go_enter Tryz.func36,Tryz.ntmps36
  go_wp2
  go_quiet (fail)
  go_wp2
  go_ret
  exact ⟨by rw [H.out];rfl,(by repeat (first | exact Below.refl _ _ | refine Below.drew ?_ | refine below_drewN ?_ _ | refine Below.alloc ?_ (Nat.le_refl _) _))⟩
theorem may_any (i : Ins) (f : Int) (pb nf nr c1 c2 : Nat) (fa ra : Option Addr) (w : World) (hf : w.cell? ⟨pb,0,none⟩ = some (.slice fa nf c1)) (hr : w.cell? ⟨pb,1,none⟩ = some (.slice ra nr c2)) :
  Calls Tryz.prog 36 #[.pointer (some ⟨pb,0,none⟩),.agg #[.int .i64 i.op,.int .i64 i.f,.int .i64 i.r,.int .i64 i.k,.int .i64 i.l],.int .i64 f] w fun e w'=>e = .returned (.bool (mayB nf nr f i)) ∧ Below w.heap.size w w':=by
 obtain ⟨op,F,R,K,L⟩:=i
 by_cases o1 : op = 1
 · subst o1;exact may_1 F R K L f pb nf nr c1 c2 fa ra w hf hr
 by_cases o2 : op = 2
 · subst o2;exact may_2 F R K L f pb nf nr c1 c2 fa ra w hf hr
 by_cases o3 : op = 3
 · subst o3;exact may_3 F R K L f pb nf nr c1 c2 fa ra w hf hr
 by_cases o4 : op = 4
 · subst o4;exact may_4 F R K L f pb nf nr c1 c2 fa ra w hf hr
 by_cases o5 : op = 5
 · subst o5;exact may_5 F R K L f pb nf nr c1 c2 fa ra w hf hr
 exact may_0 op F R K L o1 o2 o3 o4 o5 f pb nf nr c1 c2 fa ra w hf hr
end Go.Proofs.YtkmakliebhnhbaaGreat
namespace Go.Proofs.YtkmakliebhnhbaaGreat
open Go.RowKit
section
variable {fs : List (List Ins)} {reds : List Int}
theorem check_1 (h : fs.length < 1 ∨ 8 < fs.length) : check fs reds = (1,0):=by unfold check;rw [if_pos h]
theorem check_2 (h : ¬ (fs.length < 1 ∨ 8 < fs.length)) (h2 : 4 < reds.length) : check fs reds = (2,0):=by unfold check;rw [if_neg h,if_pos h2]
theorem check_3 (h : ¬ (fs.length < 1 ∨ 8 < fs.length)) (h2 : ¬ 4 < reds.length) {r : Nat} (h3 : firstBad (badR reds) reds.length = some r) : check fs reds = (2,(r : Int)):=by unfold check;rw [if_neg h,if_neg h2,h3]
theorem check_4 (h : ¬ (fs.length < 1 ∨ 8 < fs.length)) (h2 : ¬ 4 < reds.length) (h3 : firstBad (badR reds) reds.length = none) {f : Nat} (h4 : firstBad (badF fs reds.length) fs.length = some f) : check fs reds = (3,(f : Int)):=by
 unfold check;rw [if_neg h,if_neg h2,h3];simp only [h4]
theorem check_5 (h : ¬ (fs.length < 1 ∨ 8 < fs.length)) (h2 : ¬ 4 < reds.length) (h3 : firstBad (badR reds) reds.length = none) (h4 : firstBad (badF fs reds.length) fs.length = none) : check fs reds = if 300 < framesC fs then (4,0) else (0,0):=by
 unfold check;rw [if_neg h,if_neg h2,h3];simp only [h4]
theorem badF_false {nr f : Nat} {l : List Ins} (hl : fs[f]? = some l) (h1 : l.length ≤ 10) (h2 : ∀ i ∈ l,mayB fs.length nr f i = true) : badF fs nr f = false:=by
 unfold badF
 rw [hl]
 simp only [Option.getD_some,Bool.or_eq_false_iff,decide_eq_false_iff_not,List.any_eq_false]
 exact ⟨by omega,fun i hi=>by simp [h2 i hi]⟩
theorem badF_long {nr f : Nat} {l : List Ins} (hl : fs[f]? = some l) (h1 : 10 < l.length) : badF fs nr f = true:=by
 unfold badF;rw [hl];simp [h1]
theorem badF_ins {nr f k : Nat} {l : List Ins} {i : Ins} (hl : fs[f]? = some l) (hi : l[k]? = some i) (h1 : mayB fs.length nr f i = false) : badF fs nr f = true:=by
 unfold badF;rw [hl]
 simp only [Option.getD_some,Bool.or_eq_true,List.any_eq_true]
 exact .inr ⟨i,List.mem_of_getElem? hi,by simp [h1]⟩
theorem FsOk_of {nr : Nat} (h : ∀ f,f < fs.length → badF fs nr f = false) (hw : ∀ l ∈ fs,∀ i ∈ l,i.wf) : FsOk fs nr ∧ ∀ l ∈ fs,l.length ≤ 10:=by
 have key : ∀ (f : Nat) (l : List Ins),fs[f]? = some l → l.length ≤ 10 ∧ ∀ i ∈ l,mayB fs.length nr f i = true:=by
  intro f l hl
  have:=h f (List.getElem?_eq_some_iff.1 hl).1
  unfold badF at this
  rw [hl] at this
  simp only [Option.getD_some,Bool.or_eq_false_iff,decide_eq_false_iff_not,List.any_eq_false] at this
  exact ⟨by omega,fun i hi=>by have:=this.2 i hi;simpa using this⟩
 refine ⟨fun f l hl i hi=>⟨(key f l hl).2 i hi,hw l (List.mem_of_getElem? hl) i hi⟩,fun l hl=>?_⟩
 obtain ⟨f,hf⟩:=List.getElem?_of_mem hl
 exact (key f l hf).1
end
set_option maxHeartbeats 2000000 in
theorem check_any (fs : List (List Ins)) (reds : List Int) (S : Nat → Prop) (pb : Nat) (vf vr : Value) (w : World) (hw : ∀ l ∈ fs,∀ i ∈ l,i.wf)
  (hp : w.cell? ⟨pb,0,none⟩ = some vf) (hq : w.cell? ⟨pb,1,none⟩ = some vr) (hF : RdF S w vf fs) (hR : RdL S w 1 int64s vr reds) :
  Calls Tryz.prog 16 #[.pointer (some ⟨pb,0,none⟩)] w fun e w'=>e = .returned (.tuple #[.int .i64 (check fs reds).1,.int .i64 (check fs reds).2]) ∧ Below w.heap.size w w':=by
 have HF:=hide hF
 have HR:=hide hR
 obtain ⟨us,hul,hu,hfs⟩:=hF
 obtain ⟨a,cap,rfl,hc,hm⟩:=hu.form
 obtain ⟨ra,rcap,rfl,hrc,hrm⟩:=hR.form
 have hpb:=block_lt_of_cell hp
 simp only at hpb
 unfold maxLen at hm hrm
 obtain ⟨n,hN⟩ : ∃ n,fs.length = n:=⟨_,rfl⟩
 rw [hul,hN] at hc hp
 obtain ⟨nr,hNR⟩ : ∃ nr,reds.length = nr:=⟨_,rfl⟩
 rw [hNR] at hrc hq
 have HN:=hide hN
 have HU : Hid (us.length = n):=hul.trans hN
 have HNR:=hide hNR
 have Hfs:=hide hfs
 have Hu:=hide hu
 have Hw:=hide hw
 clear hN hul hNR hfs hu hw hR
 by_cases h1 : n < 1 ∨ 8 < n
 · have HC:=hide (check_1 (reds:=reds) (fs:=fs) (by rw [HN.out];exact h1))
  rcases h1 with h1 | h1
  · obtain rfl : n = 0:=by omega
   clear h1
   go_enter Tryz.func16,Tryz.ntmps16
   go_wp2
   go_ret2
   rw [HC.out]
   exact ⟨rfl,Below.refl _ _⟩
  · have h1' : (8 : Int) < n:=by omega
   have h1'' : ¬ (n : Int) < 1:=by omega
   go_enter Tryz.func16,Tryz.ntmps16
   go_wp2
   go_ret2
   rw [HC.out]
   exact ⟨rfl,Below.refl _ _⟩
 have a1 : (1 : Int) ≤ n:=by omega
 have a2 : (n : Int) ≤ 8:=by omega
 have H1 : Hid (¬ (fs.length < 1 ∨ 8 < fs.length)):=by unfold Hid;rw [HN.out];exact h1
 clear h1
 by_cases h2 : 4 < nr
 · have HC:=hide (check_2 H1.out (reds:=reds) (by rw [HNR.out];exact h2))
  have h2' : (4 : Int) < nr:=by omega
  go_enter Tryz.func16,Tryz.ntmps16
  go_wp2
  go_ret2
  rw [HC.out]
  exact ⟨rfl,Below.refl _ _⟩
 have a3 : (nr : Int) ≤ 4:=by omega
 have H2 : Hid (¬ 4 < reds.length):=by unfold Hid;rw [HNR.out];exact h2
 clear h2
 go_enter Tryz.func16,Tryz.ntmps16
 go_wp2
 go_loop [5] (fun i=>∃ k : Nat,k ≤ nr ∧ i = .int .i64 k ∧ Hid (∀ j,j < k → badR reds j = false)) (fun i=>nr - (intOf i).toNat)
 case atStart=>exact ⟨0,Nat.zero_le _,rfl,fun j hj=>by omega⟩
 case round =>
  obtain ⟨k,hk,rfl,hb⟩:=hrel
  by_cases hlt : k < nr
  · have hlti : (k : Int) < nr:=by omega
   obtain ⟨q,hqk⟩ : ∃ q,reds[k]? = some q:=⟨reds[k]'(by have:=HNR.out;omega),by simp⟩
   obtain ⟨b,off,rfl,_,hce⟩:=HR.out.at hqk
   have c0:=hce 0 _ rfl
   simp only [Nat.mul_one,Nat.add_zero] at c0
   have HQ:=hide hqk
   clear hce hqk
   by_cases hbad : q < 1 ∨ 5 < q
   · have HC:=hide (check_3 (fs:=fs) H1.out H2.out (firstBad_some hb.out (by unfold badR;rw [HQ.out];simp;omega) (by have:=HNR.out;omega)))
    rcases hbad with hbad | hbad
    · go_wp2
     go_ret2
     rw [HC.out]
     exact ⟨rfl,Below.refl _ _⟩
    · have hbad' : ¬ q < 1:=by omega
     go_wp2
     go_ret2
     rw [HC.out]
     exact ⟨rfl,Below.refl _ _⟩
   · have b1 : ¬ q < 1:=by omega
    have b2 : ¬ 5 < q:=by omega
    go_wp2
    go_round
    case rel =>
     refine ⟨k + 1,by omega,by go_num,fun j hj=>?_⟩
     by_cases e : j = k
     · subst e;unfold badR;rw [HQ.out];simp;omega
     · exact hb.out j (by omega)
    case measure=>simp [intOf];omega
  · obtain rfl : nr = k:=by omega
   have HB:=hide (firstBad_none (p:=badR reds) (n:=reds.length) (by rw [HNR.out];exact hb.out))
   clear hb
   go_wp2
   go_loopw [6] (fun i wr=>(∃ f : Nat,f ≤ n ∧ i = .int .i64 f ∧ Hid (∀ j,j < f → badF fs reds.length j = false)) ∧ Below w.heap.size w wr) (fun i _=>n - (intOf i).toNat)
   case atStart=>exact ⟨⟨0,Nat.zero_le _,rfl,fun j hj=>by omega⟩,Below.refl _ _⟩
   case round =>
    obtain ⟨wo,rfl⟩ : ∃ wo : World,wo = wr:=⟨_,rfl⟩
    obtain ⟨⟨f,hf,rfl,hg⟩,hBo⟩:=hrel
    have hp1:=(hBo.cell (p:=⟨pb,0,none⟩) hpb).trans hp
    have hq1:=(hBo.cell (p:=⟨pb,1,none⟩) hpb).trans hq
    by_cases hlt : f < n
    · have hfi : (f : Int) < n:=by omega
     have hf0 : (0 : Int) ≤ f:=by omega
     obtain ⟨l,hlf⟩ : ∃ l,fs[f]? = some l:=⟨fs[f]'(by have:=HN.out;omega),by simp⟩
     obtain ⟨u,huf⟩ : ∃ u,us[f]? = some u:=⟨us[f]'(by have:=HU.out;omega),by simp⟩
     have hx:=Hfs.out f u l huf hlf
     obtain ⟨a2,cap2,rfl,hc2',hm2⟩:=hx.form
     obtain ⟨b,off,rfl,_,hcu⟩:=Hu.out.at huf
     have hcu0:=hcu 0 _ rfl
     obtain ⟨L,hL⟩ : ∃ L,l.length = L:=⟨_,rfl⟩
     rw [hL] at hx hc2' hcu0
     have HL:=hide hL
     have HX:=hide hx
     have HLF:=hide hlf
     have hbb:=block_lt_of_cell hcu0
     simp only [Nat.mul_one,Nat.add_zero] at hbb hcu0
     have HCU:=hide hcu0
     have hu1:=(hBo.cell (p:=⟨b,off + f,none⟩) hbb).trans hcu0
     have HBo:=hide hBo
     clear hx hlf huf hL hcu hcu0 hBo
     unfold maxLen at hm2
     by_cases hlong : 10 < L
     · have hlongi : (10 : Int) < L:=by omega
      have HC:=hide (check_4 H1.out H2.out HB.out (firstBad_some hg.out (badF_long HLF.out (by have:=HL.out;omega)) (by have:=HN.out;omega)))
      go_wp2
      go_ret2
      rw [HC.out]
      exact ⟨rfl,HBo.out⟩
     have hshort : (L : Int) ≤ 10:=by omega
     go_wp2
     go_loopw [7] (fun i wr=>(∃ k : Nat,k ≤ L ∧ i = .int .i64 k ∧ Hid (∀ j i,j < k → l[j]? = some i → mayB fs.length reds.length f i = true)) ∧ Below w.heap.size w wr) (fun i _=>L - (intOf i).toNat)
     case atStart=>exact ⟨⟨0,Nat.zero_le _,rfl,fun j i hj=>by omega⟩,HBo.out⟩
     case round =>
      clear hp1 hq1 hu1
      obtain ⟨⟨k,hk,rfl,hgk⟩,hBk⟩:=hrel
      have hp1:=(hBk.cell (p:=⟨pb,0,none⟩) hpb).trans hp
      have hq1:=(hBk.cell (p:=⟨pb,1,none⟩) hpb).trans hq
      have hu1:=(hBk.cell (p:=⟨b,off + f,none⟩) hbb).trans HCU.out
      by_cases hkL : k < L
      · have hkLi : (k : Int) < L:=by omega
       obtain ⟨i,hi⟩ : ∃ i,l[k]? = some i:=⟨l[k]'(by have:=HL.out;omega),by simp⟩
       obtain ⟨b2,o2,rfl,_,hce⟩:=HX.out.at hi
       have e0:=hce 0 _ rfl
       have e1:=hce 1 _ rfl
       have e2:=hce 2 _ rfl
       have e3:=hce 3 _ rfl
       have e4:=hce 4 _ rfl
       have hb2:=block_lt_of_cell e0
       simp only [Nat.add_zero] at hb2 e0
       have q0:=(hBk.cell (p:=⟨b2,o2 + k * 5,none⟩) hb2).trans e0
       have q1:=(hBk.cell (p:=⟨b2,o2 + k * 5 + 1,none⟩) hb2).trans e1
       have q2:=(hBk.cell (p:=⟨b2,o2 + k * 5 + 2,none⟩) hb2).trans e2
       have q3:=(hBk.cell (p:=⟨b2,o2 + k * 5 + 3,none⟩) hb2).trans e3
       have q4:=(hBk.cell (p:=⟨b2,o2 + k * 5 + 4,none⟩) hb2).trans e4
       have HI:=hide hi
       have HBk:=hide hBk
       have hcm:=hide (may_any i (f : Int) pb n nr cap rcap (some ⟨b,off,none⟩) ra wr hp1 hq1)
       clear e0 e1 e2 e3 e4 hce hi hBk hb2
       go_wp2_with fail
       refine hcm.out.mono ?_
       rintro e w' ⟨rfl,hB2⟩
       have HB2:=hide (HBk.out.trans (hB2.mono HBk.out.size))
       clear hcm hB2 hp1 hq1 hu1 q0 q1 q2 q3 q4
       cases hmb : mayB n nr (f : Int) i
       · have HC:=hide (check_4 H1.out H2.out HB.out (firstBad_some hg.out (badF_ins HLF.out HI.out (by rw [HN.out,HNR.out];exact hmb)) (by have:=HN.out;omega)))
        go_wp2
        go_ret2
        rw [HC.out]
        exact ⟨rfl,HB2.out⟩
       · go_wp2
        go_roundw
        case rel =>
         refine ⟨⟨k + 1,by omega,by go_num,fun j i' hj hi'=>?_⟩,HB2.out⟩
         by_cases e : j = k
         · subst e
          have:=HI.out
          rw [hi'] at this
          cases this
          rw [HN.out,HNR.out]
          exact hmb
         · exact hgk.out j i' (by omega) hi'
        case measure=>simp [intOf];omega
      · obtain rfl : L = k:=by omega
       have HBk:=hide hBk
       clear hBk
       go_wp2
       go_roundw
       case rel =>
        refine ⟨⟨f + 1,by omega,by go_num,fun j hj=>?_⟩,HBk.out⟩
        by_cases e : j = f
        · subst e
         refine badF_false HLF.out (by have:=HL.out;omega) (fun i hi=>?_)
         obtain ⟨m,hm⟩:=List.getElem?_of_mem hi
         exact hgk.out m i (by have:=(List.getElem?_eq_some_iff.1 hm).1;have:=HL.out;omega) hm
        · exact hg.out j (by omega)
       case measure=>simp [intOf];omega
    · obtain rfl : n = f:=by omega
     have HBF:=hide (firstBad_none (p:=badF fs reds.length) (n:=fs.length) (by rw [HN.out];exact hg.out))
     obtain ⟨hok,hl10⟩:=FsOk_of (fs:=fs) (nr:=reds.length) (by rw [HN.out];exact hg.out) Hw.out
     have HC:=hide (check_5 H1.out H2.out HB.out HBF.out)
     have hfr:=frames_any fs reds.length S pb _ wo (by have:=HN.out;omega) (by have:=HN.out;omega) hok hl10 hp1 (by have:=HF.out.below (hBo.mono (Nat.le_refl _));rw [HU.out] at this;exact this)
     have HBo:=hide hBo
     have HFR:=hide hfr
     clear hfr hok hl10 hBo hg
     go_wp2_with fail
     refine HFR.out.mono ?_
     rintro e w' ⟨rfl,hB2⟩
     have HB2:=hide (HBo.out.trans (hB2.mono HBo.out.size))
     have hcle:=cntsC_le fs fs.length 0
     obtain ⟨c,hcE⟩ : ∃ c,framesC fs = c:=⟨_,rfl⟩
     have hcle' : c ≤ 301:=by rw [← hcE];exact hcle
     rw [hcE]
     have HCE:=hide hcE
     clear hB2 hcle hcE HFR hp1 hq1
     by_cases h300 : 300 < c
     · have h3 : (300 : Int) < c:=by omega
      go_wp2
      go_ret2
      rw [HC.out,if_pos (by rw [HCE.out];exact h300)]
      exact ⟨rfl,HB2.out⟩
     · have h3 : (c : Int) ≤ 300:=by omega
      go_wp2
      go_ret2
      rw [HC.out,if_neg (by rw [HCE.out];exact h300)]
      exact ⟨rfl,HB2.out⟩
end Go.Proofs.YtkmakliebhnhbaaGreat
namespace Go.Proofs.YtkmakliebhnhbaaGreat
open Go.RowKit
set_option maxHeartbeats 400000 in
theorem step_any (h r : Int) (w : World) (r0 : 0 ≤ r) (r1 : r ≤ 100) :
  Calls Tryz.prog 54 #[.int .u64 h,.int .i64 r] w fun e w'=>e = .returned (.int .u64 (stepZ h r)) ∧ w' = w:=by
 go_enter Tryz.func54,Tryz.ntmps54
 go_wp2
 go_ret
 exact ⟨rfl,rfl⟩
set_option maxHeartbeats 400000 in
theorem drawn_any (h r k : Int) (w : World) (r0 : 0 ≤ r) (r1 : r ≤ 100) (b0 : 0 < k) (b1 : k < 9223372036854775808) :
  Calls Tryz.prog 53 #[.int .u64 h,.int .i64 r,.int .i64 k] w fun e w'=>e = .returned (.int .i64 (drawnZ h r k)) ∧ w' = w:=by
 go_enter Tryz.func53,Tryz.ntmps53
 go_wp2
 go_ret
 exact ⟨rfl,rfl⟩
end Go.Proofs.YtkmakliebhnhbaaGreat
namespace Go.Proofs.YtkmakliebhnhbaaGreat
open Go.RowKit
attribute [local go_sem ↓] Go.wp_at_zero Go.wp_at_succ
theorem Tryz.infoEv : (Tryz.prog.info? 89).map (fun i=>(i.zero,i.size,i.bytes)) = some (some (.agg #[.int .i64 0,.int .i64 0,.int .i64 0]),3,24):=by kernel_rfl
theorem one3 (a b c : Int) (j k l : IntKind) : ∀ u ∈ [Value.int j a,.int k b,.int l c],u.oneCell' = true:=by simp [Value.oneCell']
set_option maxRecDepth 100000 in
set_option maxHeartbeats 800000 in
theorem serial_step (fs : List (List Ins)) (nr : Nat) (S : Nat → Prop) (pb d : Nat) (v : Value) (_hn8 : fs.length ≤ 8) (hok : FsOk fs nr) (hl : ∀ l ∈ fs,l.length ≤ 10) (hd : d ≤ 7)
  (ih : ∀ (f : Nat) (x h : Int) (w : World),f < fs.length → fs.length ≤ f + d → w.cell? ⟨pb,0,none⟩ = some v → RdF S w v fs →
   Calls Tryz.prog 38 #[.pointer (some ⟨pb,0,none⟩),.int .i64 f,.int .i64 x,.int .u64 h] w fun e w'=>∃ a cap,e = .returned (.slice a (ser fs d f x h).length cap) ∧
    w'.ownsRow w.heap.size 89 3 (.slice a (ser fs d f x h).length cap) (ser fs d f x h).length (evCells (ser fs d f x h)) ∧ Below w.heap.size w w')
  (f : Nat) (x h : Int) (w : World) (hf : f < fs.length) (hfd : fs.length ≤ f + (d + 1)) (hp : w.cell? ⟨pb,0,none⟩ = some v) (hF : RdF S w v fs) :
   Calls Tryz.prog 38 #[.pointer (some ⟨pb,0,none⟩),.int .i64 f,.int .i64 x,.int .u64 h] w fun e w'=>∃ a cap,e = .returned (.slice a (ser fs (d + 1) f x h).length cap) ∧
    w'.ownsRow w.heap.size 89 3 (.slice a (ser fs (d + 1) f x h).length cap) (ser fs (d + 1) f x h).length (evCells (ser fs (d + 1) f x h)) ∧ Below w.heap.size w w':=by
 have HF:=hide hF
 have IH:=hide ih
 have hslen:=ser_len hl d
 clear ih
 obtain ⟨us,hul,hu,hfs⟩:=hF
 obtain ⟨a,cap,rfl,hc,hm⟩:=hu.form
 obtain ⟨i0,hii,hz0,hz1,hz2⟩:=info_parts Tryz.infoEv
 have hpb:=block_lt_of_cell hp
 simp only at hpb
 unfold maxLen at hm
 obtain ⟨n,hN⟩ : ∃ n,fs.length = n:=⟨_,rfl⟩
 rw [hul,hN] at hc hp
 have HN:=hide hN
 have HU : Hid (us.length = n):=hul.trans hN
 have hfi : (f : Int) < n:=by omega
 obtain ⟨l,hlf⟩ : ∃ l,fs[f]? = some l:=⟨fs[f]'(by omega),by simp⟩
 obtain ⟨u,huf⟩ : ∃ u,us[f]? = some u:=⟨us[f]'(by omega),by simp⟩
 have hx:=hfs f u l huf hlf
 obtain ⟨a2,cap2,rfl,hc2',hm2⟩:=hx.form
 obtain ⟨b,off,rfl,_,hcu⟩:=hu.at huf
 have hcu0:=hcu 0 _ rfl
 have hokl:=hok f l hlf
 have hl10:=hl l (List.mem_of_getElem? hlf)
 obtain ⟨L,hL⟩ : ∃ L,l.length = L:=⟨_,rfl⟩
 rw [hL] at hx hc2' hcu0 hl10
 have HL:=hide hL
 have HX:=hide hx
 have hbb:=block_lt_of_cell hcu0
 simp only [Nat.mul_one,Nat.add_zero] at hbb hcu0
 have HO:=hide hokl
 have HSL:=hide hslen
 have hser : ser fs (d + 1) f x h = serL (ser fs d) x h 0 l:=by simp [ser,hlf]
 rw [hser]
 have HE : Hid (∀ k,k ≤ L → (serL (ser fs d) x h 0 (l.take k)).length ≤ 100000000):=by
  intro k hk
  have h1:=serL_len (B:=10 ^ d) (Nat.one_le_pow _ _ (by omega)) hslen x h (l.take k) 0
  have h2 : (l.take k).length ≤ 10:=by rw [List.length_take];omega
  have h3:=Nat.mul_le_mul h2 (Nat.pow_le_pow_right (show 0 < 10 by omega) hd)
  omega
 have HFN : Hid (fs.length ≤ f + (d + 1)):=hfd
 have HFF:=hide hf
 have HHL:=hide hl
 clear hN hul hfs hu hx hL hlf huf hcu hokl hok hslen hser hfd hf hl
 unfold maxLen at hm2
 go_enter Tryz.func38,Tryz.ntmps38
 go_wp2
 go_loopw [9,10,11] (fun v rk i wr=>(∃ k : Nat,k ≤ L ∧ i = .int .i64 k ∧ rk = .int .i64 (rankL 0 (l.take k)) ∧
   wr.ownsRow w.heap.size 89 3 v (serL (ser fs d) x h 0 (l.take k)).length (evCells (serL (ser fs d) x h 0 (l.take k)))) ∧ Below w.heap.size w wr)
  (fun _ _ i _=>L - (intOf i).toNat)
 case atStart=>exact ⟨⟨0,Nat.zero_le _,rfl,rfl,World.ownsRow_nil _ _ _ _⟩,Below.refl _ _⟩
 case round =>
  obtain ⟨⟨k,hk,rfl,rfl,hown⟩,hBk⟩:=hrel
  have hp1:=(hBk.cell (p:=⟨pb,0,none⟩) hpb).trans hp
  have hu1:=(hBk.cell (p:=⟨b,off + f,none⟩) hbb).trans hcu0
  have hes:=HE.out k hk
  obtain ⟨hr0,hr1⟩:=rankL_bd (l.take k) 0 (Int.le_refl 0)
  rw [List.length_take] at hr1
  have HBk:=hide hBk
  have hsz:=hBk.size
  obtain ⟨es,hes'⟩ : ∃ es,serL (ser fs d) x h 0 (l.take k) = es:=⟨_,rfl⟩
  obtain ⟨r,hr'⟩ : ∃ r,rankL 0 (l.take k) = r:=⟨_,rfl⟩
  rw [hes'] at hown hes
  rw [hr'] at hr0 hr1 ⊢
  have HES:=hide hes'
  have HR':=hide hr'
  have HOW:=hide hown
  clear hes' hr' hown hBk
  by_cases hkL : k < L
  · have hkLi : (k : Int) < L:=by omega
   obtain ⟨i,hi⟩ : ∃ i,l[k]? = some i:=⟨l[k]'(by have:=HL.out;omega),by simp⟩
   obtain ⟨b2,o2,rfl,_,hce⟩:=HX.out.at hi
   have e0:=hce 0 _ rfl
   have e1:=hce 1 _ rfl
   have e2:=hce 2 _ rfl
   have e3:=hce 3 _ rfl
   have e4:=hce 4 _ rfl
   have hb2:=block_lt_of_cell e0
   simp only [Nat.add_zero] at hb2 e0
   have q0:=(HBk.out.cell (p:=⟨b2,o2 + k * 5,none⟩) hb2).trans e0
   have q1:=(HBk.out.cell (p:=⟨b2,o2 + k * 5 + 1,none⟩) hb2).trans e1
   have q2:=(HBk.out.cell (p:=⟨b2,o2 + k * 5 + 2,none⟩) hb2).trans e2
   have q3:=(HBk.out.cell (p:=⟨b2,o2 + k * 5 + 3,none⟩) hb2).trans e3
   have q4:=(HBk.out.cell (p:=⟨b2,o2 + k * 5 + 4,none⟩) hb2).trans e4
   obtain ⟨hmay,hwf⟩:=HO.out i (List.mem_of_getElem? hi)
   have HI:=hide hi
   have HST:=hide (serL_take (sub:=ser fs d) (x:=x) (h:=h) (r:=0) hi)
   have HRT:=hide (rankL_take (r:=0) hi)
   clear e0 e1 e2 e3 e4 hce hi hb2
   obtain ⟨op,F,R,K,LL⟩:=i
   simp only at q0 q1 q2 q3 q4
   by_cases o1 : op = 1
   · subst o1
    have HS1 : Hid (serL (ser fs d) x h 0 (l.take (k + 1)) = es ++ [⟨0,R,numZ ⟨1,F,R,K,LL⟩ x⟩]):=by
     unfold Hid;rw [HST.out,HES.out];simp [oneZ]
    have HR1 : Hid (rankL 0 (l.take (k + 1)) = r):=by
     unfold Hid;rw [HRT.out,HR'.out];simp [rankZ]
    clear HST HRT
    go_wp2_with (at_builtin;refine wpList_app _ rfl _ _ 65 rfl w.heap.size 89 i0 _ 3 24 Tryz.underlying65 hii hz0 hz1 hz2 rfl (by decide) _ _ _ rfl ((HOW.out.alloc _).alloc _) (.slice (some ⟨wr.heap.size + 1,0,none⟩) 1 1) 1 [_,_,_] rfl (cells3 _ _ _ _ _ _ (by simp)) (one3 _ _ _ _ _ _) ?h63 ?hbytes ?hbase ?_)
    case h63=>unfold maxLen;omega
    case hbytes=>omega
    case hbase=>simp;omega
    intro a' cap' w2 ho hg _ _
    have HO2:=hide ho
    have HB2:=hide ((((HBk.out.alloc hsz _).alloc (by simp;omega) _).grown hg (by simp;omega) (fun q hq=>(HOW.out.lt q hq).1)))
    clear ho hg hp1 hu1 q0 q1 q2 q3 q4 hmay hwf hz0 hz1 hz2 hii
    go_wp2
    go_roundw
    case rel=>exact ⟨⟨k + 1,by omega,by go_num,by rw [HR1.out],by rw [HS1.out,evCells_append,List.length_append];exact HO2.out⟩,HB2.out⟩
    case measure=>simp [intOf];omega
   by_cases o2 : op = 2
   · subst o2
    have HS1 : Hid (serL (ser fs d) x h 0 (l.take (k + 1)) = es ++ [⟨0,R,drawnZ h r K⟩]):=by
     unfold Hid;rw [HST.out,HES.out,HR'.out];simp [oneZ]
    have HR1 : Hid (rankL 0 (l.take (k + 1)) = r + 1):=by
     unfold Hid;rw [HRT.out,HR'.out];simp [rankZ]
    have hK : 0 < K ∧ K < 9223372036854775808:=by
     have h1:=hwf.2.2.2.1
     unfold i64 at h1
     simp [mayB] at hmay
     simp only at h1
     omega
    obtain ⟨hK0,hK1⟩:=hK
    clear HST HRT
    go_wp2_with fail
    refine (drawn_any h r K _ hr0 (by omega) hK0 hK1).mono ?_
    rintro e w3 ⟨rfl,rfl⟩
    go_wp2_with (at_builtin;refine wpList_app _ rfl _ _ 65 rfl w.heap.size 89 i0 _ 3 24 Tryz.underlying65 hii hz0 hz1 hz2 rfl (by decide) _ _ _ rfl ((HOW.out.alloc _).alloc _) (.slice (some ⟨wr.heap.size + 1,0,none⟩) 1 1) 1 [_,_,_] rfl (cells3 _ _ _ _ _ _ (by simp)) (one3 _ _ _ _ _ _) ?h63 ?hbytes ?hbase ?_)
    case h63=>unfold maxLen;omega
    case hbytes=>omega
    case hbase=>simp;omega
    intro a' cap' w2 ho hg _ _
    have HO2:=hide ho
    have HB2:=hide ((((HBk.out.alloc hsz _).alloc (by simp;omega) _).grown hg (by simp;omega) (fun q hq=>(HOW.out.lt q hq).1)))
    clear ho hg hp1 hu1 q0 q1 q2 q3 q4 hmay hwf hz0 hz1 hz2 hii
    go_wp2
    go_roundw
    case rel=>exact ⟨⟨k + 1,by omega,by go_num,by rw [HR1.out],by rw [HS1.out,evCells_append,List.length_append];exact HO2.out⟩,HB2.out⟩
    case measure=>simp [intOf];omega
   by_cases o3 : op = 3
   · subst o3
    obtain ⟨m,hmF,hmf,hmn⟩:=mayB_begins hmay rfl
    simp only at hmF
    subst hmF
    have HS1 : Hid (serL (ser fs d) x h 0 (l.take (k + 1)) = es ++ ser fs d m (numZ ⟨3,m,R,K,LL⟩ x) (stepZ h r)):=by
     unfold Hid;rw [HST.out,HES.out,HR'.out];simp [oneZ]
    have HR1 : Hid (rankL 0 (l.take (k + 1)) = r + 1):=by
     unfold Hid;rw [HRT.out,HR'.out];simp [rankZ]
    have hmd : fs.length ≤ m + d:=by have:=HFN.out;omega
    have hp2:=hide (fun o=>(Below.cell (p:=⟨pb,0,none⟩) ((Below.refl _ wr).alloc (Nat.le_refl _) o) (by simp;omega)).trans hp1)
    have hF2:=hide (fun o=>(by have:=(HF.out.turn (S':=S) (W':=wr.alloc o) (fun b hb hlt=>⟨hb,((HBk.out.alloc hsz o).block b hlt)⟩));rw [HU.out] at this;exact this : RdF S (wr.alloc o) (.slice (some ⟨b,off,none⟩) n cap) fs))
    have hsl:=HSL.out m (numZ ⟨3,m,R,K,LL⟩ x) (stepZ h r)
    have hp10 : 10 ^ d ≤ 10 ^ 7:=Nat.pow_le_pow_right (by omega) hd
    have hsl' : (ser fs d m (numZ ⟨3,m,R,K,LL⟩ x) (stepZ h r)).length ≤ 10000000:=by omega
    obtain ⟨ss,hss⟩ : ∃ ss,ser fs d m (numZ ⟨3,m,R,K,LL⟩ x) (stepZ h r) = ss:=⟨_,rfl⟩
    have hih:=hide (fun w2 h1 h2=>IH.out m (numZ ⟨3,m,R,K,LL⟩ x) (stepZ h r) w2 hmn hmd h1 h2)
    rw [hss] at HS1 hsl'
    have hih1:=hih.out
    have hnz : numZ ⟨3,m,R,K,LL⟩ x = IntKind.i64.wrap (K + IntKind.i64.wrap (LL * x)):=numZ_wrap _ _
    simp only [hss,HU.out] at hih1
    simp only [hnz] at hih1
    clear hnz
    clear hih
    have hih:=hide hih1
    clear hih1
    clear HST HRT hsl hp10 hss IH hmay hwf
    have hr10 : r ≤ 100:=by omega
    go_wp2
    go_region_held3 (fun w'=>w'.cell? ⟨wr.heap.size,1,none⟩ = some (.int .i64 m) ∧ w'.cell? ⟨wr.heap.size,3,none⟩ = some (.int .i64 K) ∧ w'.cell? ⟨wr.heap.size,4,none⟩ = some (.int .i64 LL)) (go_keep)
     ((first
      | (go_at_call 54;refine (step_any h r _ hr0 hr10).mono ?_;rintro e w3 ⟨rfl,rfl⟩)
      | (go_at_call 38;refine (hih.out _ (by exact hp2.out _) (by exact hF2.out _)).mono ?_;rintro e w3 ⟨a3,c3,rfl,ho3,hb3⟩;have hkp : ∀ j,w3.cell? ⟨wr.heap.size,j,none⟩ = _:=fun j=>hb3.cell (p:=⟨wr.heap.size,j,none⟩) (by simp))))
    have HO3:=hide ho3
    have HOW3:=hide (own_below (HOW.out.alloc _).drew hb3)
    have hsz3 : wr.heap.size ≤ w3.heap.size:=by have:=hb3.size;simp at this;omega
    have HB3:=hide ((HBk.out.alloc hsz _).drew.trans (hb3.mono (by simp;omega)))
    clear ho3 hb3 hkp hih hp2 hF2 hp1 hu1 q0 q1 q2 q3 q4
    go_wp2_with (at_builtin;refine wpList_app _ rfl _ _ 65 rfl w.heap.size 89 i0 _ 3 24 Tryz.underlying65 hii hz0 hz1 hz2 rfl (by decide) _ _ _ rfl HOW3.out _ ss.length (evCells ss) rfl (own_src HO3.out) (evCells_one _) ?h63 ?hbytes ?hbase ?_)
    case h63=>unfold maxLen;omega
    case hbytes=>omega
    case hbase=>omega
    intro a' cap' w2 ho hg _ _
    have HO2:=hide ho
    have HB2:=hide (HB3.out.grown hg (by omega) (fun q hq=>(HOW3.out.lt q hq).1))
    clear ho hg hz0 hz1 hz2 hii
    go_wp2
    go_roundw
    case rel=>exact ⟨⟨k + 1,by omega,by go_num,by rw [HR1.out],by rw [HS1.out,evCells_append,List.length_append];exact HO2.out⟩,HB2.out⟩
    case measure=>simp [intOf];omega
   by_cases o4 : op = 4
   · subst o4
    obtain ⟨m,hmF,hmf,hmn⟩:=mayB_begins hmay rfl
    simp only at hmF
    subst hmF
    have HS1 : Hid (serL (ser fs d) x h 0 (l.take (k + 1)) = es ++ ser fs d m (numZ ⟨4,m,R,K,LL⟩ x) (stepZ h r)):=by
     unfold Hid;rw [HST.out,HES.out,HR'.out];simp [oneZ]
    have HR1 : Hid (rankL 0 (l.take (k + 1)) = r + 1):=by
     unfold Hid;rw [HRT.out,HR'.out];simp [rankZ]
    have hmd : fs.length ≤ m + d:=by have:=HFN.out;omega
    have hp2:=hide (fun o=>(Below.cell (p:=⟨pb,0,none⟩) ((Below.refl _ wr).alloc (Nat.le_refl _) o) (by simp;omega)).trans hp1)
    have hF2:=hide (fun o=>(by have:=(HF.out.turn (S':=S) (W':=wr.alloc o) (fun b hb hlt=>⟨hb,((HBk.out.alloc hsz o).block b hlt)⟩));rw [HU.out] at this;exact this : RdF S (wr.alloc o) (.slice (some ⟨b,off,none⟩) n cap) fs))
    have hsl:=HSL.out m (numZ ⟨4,m,R,K,LL⟩ x) (stepZ h r)
    have hp10 : 10 ^ d ≤ 10 ^ 7:=Nat.pow_le_pow_right (by omega) hd
    have hsl' : (ser fs d m (numZ ⟨4,m,R,K,LL⟩ x) (stepZ h r)).length ≤ 10000000:=by omega
    obtain ⟨ss,hss⟩ : ∃ ss,ser fs d m (numZ ⟨4,m,R,K,LL⟩ x) (stepZ h r) = ss:=⟨_,rfl⟩
    have hih:=hide (fun w2 h1 h2=>IH.out m (numZ ⟨4,m,R,K,LL⟩ x) (stepZ h r) w2 hmn hmd h1 h2)
    rw [hss] at HS1 hsl'
    have hih1:=hih.out
    have hnz : numZ ⟨4,m,R,K,LL⟩ x = IntKind.i64.wrap (K + IntKind.i64.wrap (LL * x)):=numZ_wrap _ _
    simp only [hss,HU.out] at hih1
    simp only [hnz] at hih1
    clear hnz
    clear hih
    have hih:=hide hih1
    clear hih1
    clear HST HRT hsl hp10 hss IH hmay hwf
    have hr10 : r ≤ 100:=by omega
    go_wp2
    go_region_held3 (fun w'=>w'.cell? ⟨wr.heap.size,1,none⟩ = some (.int .i64 m) ∧ w'.cell? ⟨wr.heap.size,3,none⟩ = some (.int .i64 K) ∧ w'.cell? ⟨wr.heap.size,4,none⟩ = some (.int .i64 LL)) (go_keep)
     ((first
      | (go_at_call 54;refine (step_any h r _ hr0 hr10).mono ?_;rintro e w3 ⟨rfl,rfl⟩)
      | (go_at_call 38;refine (hih.out _ (by exact hp2.out _) (by exact hF2.out _)).mono ?_;rintro e w3 ⟨a3,c3,rfl,ho3,hb3⟩;have hkp : ∀ j,w3.cell? ⟨wr.heap.size,j,none⟩ = _:=fun j=>hb3.cell (p:=⟨wr.heap.size,j,none⟩) (by simp))))
    have HO3:=hide ho3
    have HOW3:=hide (own_below (HOW.out.alloc _).drew hb3)
    have hsz3 : wr.heap.size ≤ w3.heap.size:=by have:=hb3.size;simp at this;omega
    have HB3:=hide ((HBk.out.alloc hsz _).drew.trans (hb3.mono (by simp;omega)))
    clear ho3 hb3 hkp hih hp2 hF2 hp1 hu1 q0 q1 q2 q3 q4
    go_wp2_with (at_builtin;refine wpList_app _ rfl _ _ 65 rfl w.heap.size 89 i0 _ 3 24 Tryz.underlying65 hii hz0 hz1 hz2 rfl (by decide) _ _ _ rfl HOW3.out _ ss.length (evCells ss) rfl (own_src HO3.out) (evCells_one _) ?h63 ?hbytes ?hbase ?_)
    case h63=>unfold maxLen;omega
    case hbytes=>omega
    case hbase=>omega
    intro a' cap' w2 ho hg _ _
    have HO2:=hide ho
    have HB2:=hide (HB3.out.grown hg (by omega) (fun q hq=>(HOW3.out.lt q hq).1))
    clear ho hg hz0 hz1 hz2 hii
    go_wp2
    go_roundw
    case rel=>exact ⟨⟨k + 1,by omega,by go_num,by rw [HR1.out],by rw [HS1.out,evCells_append,List.length_append];exact HO2.out⟩,HB2.out⟩
    case measure=>simp [intOf];omega
   · have o34 : ¬ (op = 3 ∨ op = 4):=by omega
    clear o3 o4
    have o3 : (op == 3) = false:=by simp;omega
    have o4 : (op == 4) = false:=by simp;omega
    have o1' : (op == 1) = false:=by simpa using o1
    have o2' : (op == 2) = false:=by simpa using o2
    have HS1 : Hid (serL (ser fs d) x h 0 (l.take (k + 1)) = es):=by
     unfold Hid;rw [HST.out,HES.out];simp [oneZ,o1,o2,o34]
    have HR1 : Hid (rankL 0 (l.take (k + 1)) = r + 1):=by
     unfold Hid;rw [HRT.out,HR'.out];simp [rankZ,o1]
    clear HST HRT o1 o2 o34
    go_wp2
    go_roundw
    case rel=>exact ⟨⟨k + 1,by omega,by go_num,by rw [HR1.out],by rw [HS1.out];exact HOW.out.alloc _⟩,HBk.out.alloc hsz _⟩
    case measure=>simp [intOf];omega
  · obtain rfl : L = k:=by omega
   have e1 : l.take L = l:=by rw [← HL.out,List.take_length]
   have HE1:=hide e1
   clear e1
   obtain ⟨a',cap',hv'⟩:=own_form HOW.out
   have HV:=hide hv'
   have HEE : Hid (serL (ser fs d) x h 0 l = es):=by unfold Hid;rw [← HES.out,HE1.out]
   clear hv'
   go_wp2
   go_ret
   refine ⟨a',cap',?_,?_,HBk.out⟩
   · rw [HEE.out,← HV.out];rfl
   · rw [HEE.out,← HV.out];exact HOW.out
theorem serial_any (fs : List (List Ins)) (nr : Nat) (S : Nat → Prop) (pb : Nat) (v : Value) (hn8 : fs.length ≤ 8) (hok : FsOk fs nr) (hl : ∀ l ∈ fs,l.length ≤ 10) :
  ∀ (d : Nat),d ≤ 8 → ∀ (f : Nat) (x h : Int) (w : World),f < fs.length → fs.length ≤ f + d → w.cell? ⟨pb,0,none⟩ = some v → RdF S w v fs →
   Calls Tryz.prog 38 #[.pointer (some ⟨pb,0,none⟩),.int .i64 f,.int .i64 x,.int .u64 h] w fun e w'=>∃ a cap,e = .returned (.slice a (ser fs d f x h).length cap) ∧
    w'.ownsRow w.heap.size 89 3 (.slice a (ser fs d f x h).length cap) (ser fs d f x h).length (evCells (ser fs d f x h)) ∧ Below w.heap.size w w'
 | 0,_,f,_,_,_,h1,h2,_,_=>by omega
 | d + 1,hd,f,x,h,w,h1,h2,h3,h4=>serial_step fs nr S pb d v hn8 hok hl (by omega) (serial_any fs nr S pb v hn8 hok hl d (by omega)) f x h w h1 h2 h3 h4
def traceZ (fs : List (List Ins)) (seed x : Int) : List Ev:=ser fs fs.length 0 x seed
set_option maxHeartbeats 400000 in
theorem trace_any (fs : List (List Ins)) (nr : Nat) (S : Nat → Prop) (pb : Nat) (v : Value) (hn : 0 < fs.length) (hn8 : fs.length ≤ 8) (hok : FsOk fs nr) (hl : ∀ l ∈ fs,l.length ≤ 10)
  (seed x : Int) (w : World) (hp : w.cell? ⟨pb,0,none⟩ = some v) (hF : RdF S w v fs) :
  Calls Tryz.prog 21 #[.pointer (some ⟨pb,0,none⟩),.int .u64 seed,.int .i64 x] w fun e w'=>∃ a cap,e = .returned (.slice a (traceZ fs seed x).length cap) ∧
    w'.ownsRow w.heap.size 89 3 (.slice a (traceZ fs seed x).length cap) (traceZ fs seed x).length (evCells (traceZ fs seed x)) ∧ Below w.heap.size w w':=by
 have hc:=hide (serial_any fs nr S pb v hn8 hok hl fs.length hn8 0 x seed w hn (by omega) hp hF)
 obtain ⟨es,hes⟩ : ∃ es,traceZ fs seed x = es:=⟨_,rfl⟩
 rw [hes]
 have hes' : ser fs fs.length 0 x seed = es:=hes
 rw [hes'] at hc
 clear hok hl hp hF hes hes'
 go_enter Tryz.func21,Tryz.ntmps21
 go_wp2_with fail
 refine hc.out.mono ?_
 rintro e w3 ⟨a3,c3,rfl,ho3,hb3⟩
 have HO3:=hide ho3
 have HB3:=hide hb3
 clear ho3 hb3 hc
 go_wp2
 go_ret
 exact ⟨_,_,rfl,HO3.out,HB3.out⟩
end Go.Proofs.YtkmakliebhnhbaaGreat
namespace Go.Proofs.YtkmakliebhnhbaaGreat
open Go.RowKit
theorem Tryz.infoVal : (Tryz.prog.info? 91).map (fun i=>(i.zero,i.size,i.bytes)) = some (some (.agg #[.int .i64 0,.bool false,.slice none 0 0]),3,40):=by kernel_rfl
theorem Tryz.infoInt64 : (Tryz.prog.info? 2).map (fun i=>(i.zero,i.size,i.bytes)) = some (some (.int .i64 0),1,8):=by kernel_rfl
set_option maxRecDepth 100000 in
set_option maxHeartbeats 1000000 in
theorem values_ref (reds : List Int) (evs : List Ev) (S : Nat → Prop) (vr ve : Value) (w : World) (hnr : reds.length ≤ 4) (hne : evs.length ≤ 100000000)
  (hR : RdL S w 1 int64s vr reds) (hE : RdL S w 3 Ev.vals ve evs) (hr : ∀ e ∈ evs,∃ r : Nat,e.r = r ∧ r < reds.length) :
  Calls Tryz.prog 24 #[vr,ve] w fun e w'=>∃ LV,e = .returned (.slice (some ⟨w.heap.size,0,none⟩) reds.length reds.length) ∧
   Gath w' w.heap.size w.heap.size reds.length 2 (valsZ reds evs) LV ∧ Below w.heap.size w w':=by
 have HR:=hide hR
 have HE:=hide hE
 obtain ⟨ra,rcap,rfl,hrc,hrm⟩:=hR.form
 obtain ⟨ea,ecap,rfl,hec,hem⟩:=hE.form
 obtain ⟨iv,hiv,hv0,hv1,hv2⟩:=info_parts Tryz.infoVal
 obtain ⟨il,hil,hl0,hl1,hl2⟩:=info_parts Tryz.infoInt64
 obtain ⟨nr,hNR⟩ : ∃ nr,reds.length = nr:=⟨_,rfl⟩
 obtain ⟨ne,hNE⟩ : ∃ ne,evs.length = ne:=⟨_,rfl⟩
 have HRR:=hide hr
 have HNR:=hide hNR
 have HNE:=hide hNE
 rw [hNR] at hrc hnr ⊢
 rw [hNE] at hec hne
 rw [hNR] at HR
 rw [hNE] at HE
 rw [hNE]
 unfold maxLen at hrm hem
 clear hR hE hNR hNE hr
 go_enter Tryz.func24,Tryz.ntmps24
 go_wp2_with (at_make;refine wpList_make_full _ rfl _ _ 64 rfl w.heap.size 91 iv _ 3 Tryz.underlying64 hiv hv0 hv1 _ _ _ _ nr rfl rfl rfl rfl (by rw [hv2];omega) (by unfold maxLen;omega) (Nat.le_refl _) ?_)
 intro w1 hown hgrow
 obtain ⟨g,hg⟩ : ∃ g,g = w.heap.size:=⟨_,rfl⟩
 have hB1:=hide ((Below.refl _ w).grown hgrow (Nat.le_refl _) (by simp))
 have hG1 : Hid (Gath w1 w.heap.size g nr 2 (valsZ reds []) (fun _=>.slice none 0 0)):=by
  subst hg
  obtain ⟨hl3,hh⟩:=hown
  have hlt : w.heap.size < w1.heap.size:=by
   rcases hh with ⟨hv,_⟩ | ⟨g,c,cur,hv,_,hgg,_⟩
   · cases hv
   · cases hv;exact (Array.getElem?_eq_some_iff.1 hgg).1
  have hcell : ∀ j,j < nr * 3 → w1.cell? ⟨w.heap.size,j,none⟩ = (madeCells (Value.agg #[.int .i64 0,.bool false,.slice none 0 0]).cells (nr * 3)).toList[j]?:=fun j hj=>World.ownsRow.cellAt ⟨hl3,hh⟩ j hj
  have hval : ∀ r j (u : Value),r < nr → j < 3 → [Value.int .i64 0,.bool false,.slice none 0 0][j]? = some u → w1.cell? ⟨w.heap.size,r * 3 + j,none⟩ = some u:=by
   intro r j u hr hj hu
   rw [hcell _ (by omega)]
   simp only [madeCells,Value.cells]
   have hmod : (r * 3 + j) % 3 = j:=by omega
   have : r * 3 + j < nr * 3:=by omega
   simp [this,hmod]
   match j,hj,hu with
   | 0,_,hu=>simpa using hu
   | 1,_,hu=>simpa using hu
   | 2,_,hu=>simpa using hu
  refine ⟨hlt,fun r hr=>hval r 0 _ hr (by omega) rfl,fun r hr=>hval r 1 _ hr (by omega) rfl,fun r hr=>hval r 2 _ hr (by omega) rfl,fun j=>World.ownsRow.frozenAt ⟨hl3,hh⟩ j,fun r hr=>World.ownsRow_nil _ _ _ _,fun r hr=>by simp [Value.ownBlock],fun r s b _ _ _ hb=>by simp [Value.ownBlock] at hb⟩
 rw [← hg]
 have HG:=hide hg
 clear hown hgrow hg hiv hv0 hv1 hv2
 go_wp2
 go_loopw [6] (fun i wr=>(∃ k : Nat,k ≤ ne ∧ i = .int .i64 k ∧ ∃ LV,Gath wr w.heap.size g nr 2 (valsZ reds (evs.take k)) LV) ∧ Below w.heap.size w wr)
  (fun i _=>ne - (intOf i).toNat)
 case atStart=>exact ⟨⟨0,Nat.zero_le _,rfl,_,by simpa using hG1.out⟩,hB1.out⟩
 case round =>
  obtain ⟨⟨k,hk,rfl,LV,hGk⟩,hBk⟩:=hrel
  have HGk:=hide hGk
  have HBk:=hide hBk
  have hsz:=hBk.size
  by_cases hlt : k < ne
  · have hlti : (k : Int) < ne:=by omega
   obtain ⟨e,he⟩ : ∃ e,evs[k]? = some e:=⟨evs[k]'(by have:=HNE.out;omega),by simp⟩
   obtain ⟨b,off,rfl,_,hce⟩:=HE.out.at he
   have e1:=hce 1 _ rfl
   have e2:=hce 2 _ rfl
   have hbe:=block_lt_of_cell e1
   simp only at hbe
   have q1:=(hBk.cell (p:=⟨b,off + k * 3 + 1,none⟩) hbe).trans e1
   have q2:=(hBk.cell (p:=⟨b,off + k * 3 + 2,none⟩) hbe).trans e2
   obtain ⟨r,hrE,hrn⟩:=HRR.out e (List.mem_of_getElem? he)
   rw [hrE] at q1
   have hrn' : r < nr:=by have:=HNR.out;omega
   have hri : (r : Int) < nr:=by omega
   obtain ⟨kd,hkd⟩ : ∃ kd,reds[r]? = some kd:=⟨reds[r]'hrn,by simp⟩
   obtain ⟨b2,o2,rfl,_,hce2⟩:=HR.out.at hkd
   have e3:=hce2 0 _ rfl
   have hbr:=block_lt_of_cell e3
   simp only [Nat.mul_one,Nat.add_zero] at hbr e3
   have q3:=(hBk.cell (p:=⟨b2,o2 + r,none⟩) hbr).trans e3
   have hbe' : b < wr.heap.size:=Nat.lt_of_lt_of_le hbe hsz
   have hbr' : b2 < wr.heap.size:=Nat.lt_of_lt_of_le hbr hsz
   have HVT:=hide (valsZ_take (reds:=reds) he)
   have hlen:=valsZ_len reds (evs.take k) r
   rw [List.length_take] at hlen
   obtain ⟨V,hV⟩ : ∃ V,valsZ reds (evs.take k) = V:=⟨_,rfl⟩
   rw [hV] at HVT HGk hGk hlen
   have g0:=hGk.n r hrn'
   have g1:=hGk.is r hrn'
   have g2:=hGk.l r hrn'
   have f0:=hGk.fz (r * 3)
   have f1:=hGk.fz (r * 3 + 1)
   have f2:=hGk.fz (r * 3 + 2)
   have hglt:=hGk.lt
   have HOWN:=hide (hGk.own r hrn')
   obtain ⟨ln,lcap,hLV⟩:=own_form HOWN.out
   rw [hLV] at g2
   have HLV:=hide hLV
   have HHE:=hide he
   have HKD:=hide hkd
   have HrE:=hide hrE
   obtain ⟨ll,hll⟩ : ∃ ll,(V r).l = ll:=⟨_,rfl⟩
   rw [hll] at g2 hlen
   have HLL:=hide hll
   obtain ⟨vn,hvn⟩ : ∃ vn,(V r).n = vn:=⟨_,rfl⟩
   obtain ⟨vi,hvi⟩ : ∃ vi,(V r).is = vi:=⟨_,rfl⟩
   rw [hvn] at g0
   rw [hvi] at g1
   have HVN:=hide hvn
   have HVI:=hide hvi
   have hlen' : ll.length ≤ 100000000:=by omega
   obtain ⟨x,hx⟩ : ∃ x,e.n = x:=⟨_,rfl⟩
   rw [hx] at q2
   have HXX:=hide hx
   clear hce e1 e2 he hGk hBk hce2 e3 hkd hV hLV hrE hrn hbe hbr hll hvn hvi hlen hx
   have HPZ : Hid (∀ s,s ≠ r → putZ reds V e s = V s):=by
    intro s hs
    unfold putZ
    rw [if_neg (by rw [HrE.out];simpa using hs)]
   have HPR : Hid (putZ reds V e r = giveZ kd x (V r)):=by
    unfold Hid putZ
    rw [if_pos (by rw [HrE.out];simp),HKD.out,HXX.out];rfl
   have hgb:=HG.out
   have HBg : Hid (w.heap.size ≤ g):=by unfold Hid;omega
   clear hgb
   by_cases k1 : kd = 1
   · subst k1
    have HZ : Hid (giveZ 1 x (V r) = ⟨wrap64 (vn + x),true,(V r).l⟩):=by
     unfold Hid;simp [giveZ,HVN.out,*]
    go_wp2
    go_roundw
    case rel =>
     refine ⟨⟨k + 1,by omega,by go_num,_,by rw [HVT.out];exact HGk.out.putSame hrn' _ HPZ.out (by rw [HLV.out,HLL.out]) (by rw [HPR.out,HZ.out]) (by rw [HPR.out,HZ.out]) (by rw [HPR.out,HZ.out])⟩,?_⟩
     exact (((HBk.out.setCell (p:=⟨g,_,none⟩) HBg.out _).setCell (p:=⟨g,_,none⟩) HBg.out _).setCell (p:=⟨g,_,none⟩) HBg.out _).alloc (by simpa [World.setCell] using hsz) _
    case measure=>simp [intOf];omega
   by_cases k2 : kd = 2
   · subst k2
    cases vi with
    | false =>
     have HZ : Hid (giveZ 2 x (V r) = ⟨x,true,(V r).l⟩):=by
      unfold Hid;simp [giveZ,HVN.out,HVI.out,*]
     go_wp2
     go_roundw
     case rel =>
      refine ⟨⟨k + 1,by omega,by go_num,_,by rw [HVT.out];exact HGk.out.putSame hrn' _ HPZ.out (by rw [HLV.out,HLL.out]) (by rw [HPR.out,HZ.out]) (by rw [HPR.out,HZ.out]) (by rw [HPR.out,HZ.out])⟩,?_⟩
      exact (((HBk.out.setCell (p:=⟨g,_,none⟩) HBg.out _).setCell (p:=⟨g,_,none⟩) HBg.out _).setCell (p:=⟨g,_,none⟩) HBg.out _).alloc (by simpa [World.setCell] using hsz) _
     case measure=>simp [intOf];omega
    | true =>
     by_cases hx : vn < x
     · have HZ : Hid (giveZ 2 x (V r) = ⟨x,true,(V r).l⟩):=by
       unfold Hid;simp [giveZ,HVN.out,HVI.out,*]
      go_wp2
      go_roundw
      case rel =>
       refine ⟨⟨k + 1,by omega,by go_num,_,by rw [HVT.out];exact HGk.out.putSame hrn' _ HPZ.out (by rw [HLV.out,HLL.out]) (by rw [HPR.out,HZ.out]) (by rw [HPR.out,HZ.out]) (by rw [HPR.out,HZ.out])⟩,?_⟩
       exact (((HBk.out.setCell (p:=⟨g,_,none⟩) HBg.out _).setCell (p:=⟨g,_,none⟩) HBg.out _).setCell (p:=⟨g,_,none⟩) HBg.out _).alloc (by simpa [World.setCell] using hsz) _
      case measure=>simp [intOf];omega
     · have HZ : Hid (giveZ 2 x (V r) = ⟨vn,true,(V r).l⟩):=by
       unfold Hid;simp [giveZ,HVN.out,HVI.out,*]
      go_wp2
      go_roundw
      case rel =>
       refine ⟨⟨k + 1,by omega,by go_num,_,by rw [HVT.out];exact HGk.out.putSame hrn' _ HPZ.out (by rw [HLV.out,HLL.out]) (by rw [HPR.out,HZ.out]) (by rw [HPR.out,HZ.out]) (by rw [HPR.out,HZ.out])⟩,?_⟩
       exact (((HBk.out.setCell (p:=⟨g,_,none⟩) HBg.out _).setCell (p:=⟨g,_,none⟩) HBg.out _).setCell (p:=⟨g,_,none⟩) HBg.out _).alloc (by simpa [World.setCell] using hsz) _
      case measure=>simp [intOf];omega
   by_cases k3 : kd = 3
   · subst k3
    cases vi with
    | false =>
     have HZ : Hid (giveZ 3 x (V r) = ⟨x,true,(V r).l⟩):=by
      unfold Hid;simp [giveZ,HVN.out,HVI.out,*]
     go_wp2
     go_roundw
     case rel =>
      refine ⟨⟨k + 1,by omega,by go_num,_,by rw [HVT.out];exact HGk.out.putSame hrn' _ HPZ.out (by rw [HLV.out,HLL.out]) (by rw [HPR.out,HZ.out]) (by rw [HPR.out,HZ.out]) (by rw [HPR.out,HZ.out])⟩,?_⟩
      exact (((HBk.out.setCell (p:=⟨g,_,none⟩) HBg.out _).setCell (p:=⟨g,_,none⟩) HBg.out _).setCell (p:=⟨g,_,none⟩) HBg.out _).alloc (by simpa [World.setCell] using hsz) _
     case measure=>simp [intOf];omega
    | true =>
     by_cases hx : x < vn
     · have HZ : Hid (giveZ 3 x (V r) = ⟨x,true,(V r).l⟩):=by
       unfold Hid;simp [giveZ,HVN.out,HVI.out,*]
      go_wp2
      go_roundw
      case rel =>
       refine ⟨⟨k + 1,by omega,by go_num,_,by rw [HVT.out];exact HGk.out.putSame hrn' _ HPZ.out (by rw [HLV.out,HLL.out]) (by rw [HPR.out,HZ.out]) (by rw [HPR.out,HZ.out]) (by rw [HPR.out,HZ.out])⟩,?_⟩
       exact (((HBk.out.setCell (p:=⟨g,_,none⟩) HBg.out _).setCell (p:=⟨g,_,none⟩) HBg.out _).setCell (p:=⟨g,_,none⟩) HBg.out _).alloc (by simpa [World.setCell] using hsz) _
      case measure=>simp [intOf];omega
     · have HZ : Hid (giveZ 3 x (V r) = ⟨vn,true,(V r).l⟩):=by
       unfold Hid;simp [giveZ,HVN.out,HVI.out,*]
      go_wp2
      go_roundw
      case rel =>
       refine ⟨⟨k + 1,by omega,by go_num,_,by rw [HVT.out];exact HGk.out.putSame hrn' _ HPZ.out (by rw [HLV.out,HLL.out]) (by rw [HPR.out,HZ.out]) (by rw [HPR.out,HZ.out]) (by rw [HPR.out,HZ.out])⟩,?_⟩
       exact (((HBk.out.setCell (p:=⟨g,_,none⟩) HBg.out _).setCell (p:=⟨g,_,none⟩) HBg.out _).setCell (p:=⟨g,_,none⟩) HBg.out _).alloc (by simpa [World.setCell] using hsz) _
      case measure=>simp [intOf];omega
   by_cases k4 : kd = 4
   · subst k4
    have HZ : Hid (giveZ 4 x (V r) = ⟨vn,true,ll ++ [x]⟩):=by
     unfold Hid;simp [giveZ,HVN.out,HLL.out]
    have HOW2 : Hid (wr.ownsRow w.heap.size 2 1 (.slice ln ll.length lcap) ll.length (ints ll)):=by
     unfold Hid;rw [← HLL.out,← HLV.out];exact HOWN.out
    go_wp2_with (at_builtin;refine wpList_app _ rfl _ _ 87 rfl w.heap.size 2 il _ 1 8 Tryz.underlying87 hil hl0 hl1 hl2 rfl (by decide) _ _ _ rfl ((HOW2.out.alloc _).alloc _) (.slice (some ⟨wr.heap.size + 1,0,none⟩) 1 1) 1 [_] rfl (cells1 _ _ _ _ (by simp)) ?h1 ?h63 ?hbytes ?hbase ?_)
    case h1=>simp [Value.oneCell']
    case h63=>unfold maxLen;omega
    case hbytes=>omega
    case hbase=>simp;omega
    intro a' cap' w2 ho hg _ hlie
    have hrow : ∀ k,(Value.slice ln ll.length lcap).ownBlock = some k → k < wr.heap.size:=fun k hk=>(HOW2.out.lt k hk).2
    have hvb : some wr.heap.size ≠ (Value.slice ln ll.length lcap).ownBlock:=by intro e;have:=hrow _ e.symm;omega
    have hgo : some g ≠ (Value.slice ln ll.length lcap).ownBlock:=by rw [← HLL.out,← HLV.out];exact fun e=>HGk.out.off r hrn' e.symm
    have v0 : w2.cell? ⟨wr.heap.size,0,none⟩ = some (.int .i64 vn):=by rw [hg.cell_far ⟨wr.heap.size,0,none⟩ (by simp;omega) hvb];simp [go_sem]
    have v1 : w2.cell? ⟨wr.heap.size,1,none⟩ = some (.bool vi):=by rw [hg.cell_far ⟨wr.heap.size,1,none⟩ (by simp;omega) hvb];simp [go_sem]
    have v2 : w2.cell? ⟨wr.heap.size,2,none⟩ = some (.slice ln ll.length lcap):=by rw [hg.cell_far ⟨wr.heap.size,2,none⟩ (by simp;omega) hvb];simp [go_sem]
    have vf : ∀ j,w2.frozen? ⟨wr.heap.size,j,none⟩ = false:=by intro j;rw [hg.frozen_far ⟨wr.heap.size,j,none⟩ (by simp;omega) hvb];simp [go_sem]
    have vf1:=vf 1
    have vf2:=vf 2
    have hgc : ∀ j,w2.cell? ⟨g,j,none⟩ = wr.cell? ⟨g,j,none⟩:=by intro j;rw [hg.cell_far ⟨g,j,none⟩ (by simp;omega) hgo];simp [go_sem,hglt]
    have hgf : ∀ j,w2.frozen? ⟨g,j,none⟩ = false:=by intro j;rw [hg.frozen_far ⟨g,j,none⟩ (by simp;omega) hgo];simp [go_sem,hglt];exact HGk.out.fz j
    have u0:=(hgc (r * 3)).trans g0
    have u1:=(hgc (r * 3 + 1)).trans g1
    have u2:=(hgc (r * 3 + 2)).trans g2
    have uf0:=hgf (r * 3)
    have uf1:=hgf (r * 3 + 1)
    have uf2:=hgf (r * 3 + 2)
    have hs2 : wr.heap.size + 2 ≤ w2.heap.size:=by have:=hg.size;simp at this;omega
    have HO2:=hide ho
    have HG2:=hide hg
    have HLIE:=hide hlie
    have HGO:=hide hgo
    have hgv : ¬ g = wr.heap.size:=by omega
    have hgv' : ¬ wr.heap.size = g:=by omega
    clear ho hg hlie vf hgc hgf g0 g1 g2 f0 f1 f2 q1 q2 q3 hvb hgo hrow
    go_wp2
    go_roundw
    case rel =>
     refine ⟨⟨k + 1,by omega,by go_num,_,by rw [HVT.out];exact HGk.out.putApp hrn' rfl rfl HPZ.out (by rw [HPR.out,HZ.out]) (by rw [HPR.out,HZ.out]) (by rw [HLV.out,HLL.out];exact HG2.out) (by rw [HPR.out,HZ.out];simpa [ints] using HO2.out) (by rw [HLV.out,HLL.out];exact HLIE.out)⟩,?_⟩
     have hB2 : Below w.heap.size w w2:=((HBk.out.alloc hsz _).alloc (by simp;omega) _).grown HG2.out (by simp;omega) (fun q hq=>(HOW2.out.lt q hq).1)
     exact ((((hB2.setCell (p:=⟨wr.heap.size,_,none⟩) hsz _).setCell (p:=⟨wr.heap.size,_,none⟩) hsz _).setCell (p:=⟨g,_,none⟩) HBg.out _).setCell (p:=⟨g,_,none⟩) HBg.out _).setCell (p:=⟨g,_,none⟩) HBg.out _
    case measure=>simp [intOf];omega
   · have HZ : Hid (giveZ kd x (V r) = ⟨x,true,(V r).l⟩):=by
     unfold Hid;simp [giveZ,k1,k2,k3,k4]
    have p1 : (kd == 1) = false:=by simpa using k1
    have p2 : (kd == 2) = false:=by simpa using k2
    have p3 : (kd == 3) = false:=by simpa using k3
    have p4 : (kd == 4) = false:=by simpa using k4
    clear k1 k2 k3 k4
    go_wp2
    go_roundw
    case rel =>
     refine ⟨⟨k + 1,by omega,by go_num,_,by rw [HVT.out];exact HGk.out.putSame hrn' _ HPZ.out (by rw [HLV.out,HLL.out]) (by rw [HPR.out,HZ.out]) (by rw [HPR.out,HZ.out]) (by rw [HPR.out,HZ.out])⟩,?_⟩
     exact (((HBk.out.setCell (p:=⟨g,_,none⟩) HBg.out _).setCell (p:=⟨g,_,none⟩) HBg.out _).setCell (p:=⟨g,_,none⟩) HBg.out _).alloc (by simpa [World.setCell] using hsz) _
    case measure=>simp [intOf];omega
  · obtain rfl : ne = k:=by omega
   have e1 : evs.take ne = evs:=by rw [← HNE.out,List.take_length]
   rw [e1] at HGk
   clear e1 hGk hBk
   go_wp2
   go_ret
   refine ⟨LV,by rw [HG.out];rfl,by rw [← HG.out];rw [HG.out] at HGk ⊢;exact HGk.out,HBk.out⟩
end Go.Proofs.YtkmakliebhnhbaaGreat
namespace Go.Proofs.YtkmakliebhnhbaaGreat
open Go.RowKit
set_option maxRecDepth 100000 in
set_option maxHeartbeats 1000000 in
theorem sameEvents_any (evs : List Ev) (S S' : Nat → Prop) (va vb : Value) (w : World) (hA : RdL S w 3 Ev.vals va evs) (hB : RdL S' w 3 Ev.vals vb evs) :
  Calls Tryz.prog 22 #[va,vb] w fun e w'=>e = .returned (.bool true) ∧ Below w.heap.size w w':=by
 have HA:=hide hA
 have HB:=hide hB
 obtain ⟨a,ca,rfl,hca,hma⟩:=hA.form
 obtain ⟨b,cb,rfl,hcb,hmb⟩:=hB.form
 obtain ⟨n,hN⟩ : ∃ n,evs.length = n:=⟨_,rfl⟩
 have HN:=hide hN
 rw [hN] at HA HB hca hcb ⊢
 unfold maxLen at hma hmb
 clear hA hB hN
 go_enter Tryz.func22,Tryz.ntmps22
 go_wp2
 go_loopw [5] (fun i wr=>(∃ k : Nat,k ≤ n ∧ i = .int .i64 k) ∧ Below w.heap.size w wr) (fun i _=>n - (intOf i).toNat)
 case atStart=>exact ⟨⟨0,Nat.zero_le _,rfl⟩,Below.refl _ _⟩
 case round =>
  obtain ⟨⟨k,hk,rfl⟩,hBk⟩:=hrel
  have HBk:=hide hBk
  by_cases hlt : k < n
  · obtain ⟨e,he⟩ : ∃ e,evs[k]? = some e:=⟨evs[k]'(by have:=HN.out;omega),by simp⟩
   obtain ⟨b1,o1,rfl,_,h1⟩:=HA.out.at he
   obtain ⟨b2,o2,rfl,_,h2⟩:=HB.out.at he
   have c0:=h1 0 _ rfl
   have c1:=h1 1 _ rfl
   have c2:=h1 2 _ rfl
   have d0:=h2 0 _ rfl
   have d1:=h2 1 _ rfl
   have d2:=h2 2 _ rfl
   have l1:=block_lt_of_cell c0
   have l2:=block_lt_of_cell d0
   simp only [Nat.add_zero] at l1 l2 c0 d0
   have p0:=(hBk.cell (p:=⟨b1,o1 + k * 3,none⟩) l1).trans c0
   have p1:=(hBk.cell (p:=⟨b1,o1 + k * 3 + 1,none⟩) l1).trans c1
   have p2:=(hBk.cell (p:=⟨b1,o1 + k * 3 + 2,none⟩) l1).trans c2
   have q0:=(hBk.cell (p:=⟨b2,o2 + k * 3,none⟩) l2).trans d0
   have q1:=(hBk.cell (p:=⟨b2,o2 + k * 3 + 1,none⟩) l2).trans d1
   have q2:=(hBk.cell (p:=⟨b2,o2 + k * 3 + 2,none⟩) l2).trans d2
   have hki : (k : Int) < n:=by omega
   clear c0 c1 c2 d0 d1 d2 h1 h2 he hBk
   obtain ⟨x0,x1,x2⟩:=e
   simp only at p0 p1 p2 q0 q1 q2
   go_wp2
   go_quiet (fail)
   go_wp2
   go_roundw
   case rel=>exact ⟨⟨k + 1,by omega,by go_num⟩,below_drewN HBk.out _⟩
   case measure=>simp [intOf];omega
  · clear hBk
   go_wp2
   go_ret
   exact ⟨rfl,HBk.out⟩
def RdV (W : World) (v : Value) (V : Nat → Val) (n : Nat) : Prop :=
 ∃ a cap,v = .slice a n cap ∧ n ≤ cap ∧ cap ≤ maxLen ∧ ∀ r,r < n → ∃ b off lv,a = some ⟨b,off,none⟩ ∧ W.cell? ⟨b,off + r * 3,none⟩ = some (.int .i64 (V r).n) ∧ W.cell? ⟨b,off + r * 3 + 1,none⟩ = some (.bool (V r).is) ∧
  W.cell? ⟨b,off + r * 3 + 2,none⟩ = some lv ∧ RdL (fun _=>True) W 1 int64s lv (V r).l
theorem ints_flat (l : List Int) : ints l = flat int64s l:=by
 induction l with
 | nil=>rfl
 | cons x t ih=>simp only [ints,flat,List.map_cons,List.flatMap_cons] at *;rw [ih];rfl
theorem Gath.rd {W : World} {base g nr : Nat} {tL : TypeId} {V : Nat → Val} {LV : Nat → Value} (h : Gath W base g nr tL V LV) (hn : nr ≤ maxLen) : RdV W (.slice (some ⟨g,0,none⟩) nr nr) V nr :=
 ⟨_,_,rfl,Nat.le_refl _,hn,fun r hr=>⟨g,0,LV r,rfl,by simpa using h.n r hr,by simpa using h.is r hr,by simpa using h.l r hr,own_rd (by rw [← ints_flat];exact h.own r hr) int64s_len (fun _ _=>trivial)⟩⟩
theorem RdV.below {W W' : World} {v : Value} {V : Nat → Val} {n : Nat} (h : RdV W v V n) (hb : Below W.heap.size W W') : RdV W' v V n:=by
 obtain ⟨a,cap,hv,h1,h2,h⟩:=h
 refine ⟨a,cap,hv,h1,h2,fun r hr=>?_⟩
 obtain ⟨b,off,lv,ha,c0,c1,c2,hl⟩:=h r hr
 have hlt : b < W.heap.size:=block_lt_of_cell c0
 have hc : ∀ j,W'.cell? ⟨b,j,none⟩ = W.cell? ⟨b,j,none⟩:=fun j=>hb.cell (p:=⟨b,j,none⟩) hlt
 exact ⟨b,off,lv,ha,(hc _).trans c0,(hc _).trans c1,(hc _).trans c2,hl.below hb (fun x _=>by simp [int64s])⟩
set_option maxRecDepth 100000 in
set_option maxHeartbeats 3000000 in
theorem sameValues_any (n : Nat) (V : Nat → Val) (va vb : Value) (w : World) (hA : RdV w va V n) (hB : RdV w vb V n) :
  Calls Tryz.prog 23 #[va,vb] w fun e w'=>e = .returned (.bool true) ∧ Below w.heap.size w w':=by
 obtain ⟨a,ca,rfl,hca,hma,hA⟩:=hA
 obtain ⟨b,cb,rfl,hcb,hmb,hB⟩:=hB
 unfold maxLen at hma hmb
 have HA:=hide hA
 have HB:=hide hB
 clear hA hB
 go_enter Tryz.func23,Tryz.ntmps23
 go_wp2
 go_loopw [5] (fun i wr=>(∃ k : Nat,k ≤ n ∧ i = .int .i64 k) ∧ Below w.heap.size w wr) (fun i _=>n - (intOf i).toNat)
 case atStart=>exact ⟨⟨0,Nat.zero_le _,rfl⟩,Below.refl _ _⟩
 case round =>
  obtain ⟨wo,rfl⟩ : ∃ wo : World,wo = wr:=⟨_,rfl⟩
  obtain ⟨⟨k,hk,rfl⟩,hBk⟩:=hrel
  have HBk:=hide hBk
  by_cases hlt : k < n
  · obtain ⟨b1,o1,l1,rfl,c0,c1,c2,hl1⟩:=HA.out k hlt
   obtain ⟨b2,o2,l2,rfl,d0,d1,d2,hl2⟩:=HB.out k hlt
   have k1:=block_lt_of_cell c0
   have k2:=block_lt_of_cell d0
   simp only at k1 k2
   have HL1:=hide hl1
   have HL2:=hide hl2
   obtain ⟨la,lca,rfl,hlca,hlma⟩:=hl1.form
   obtain ⟨lb,lcb,rfl,hlcb,hlmb⟩:=hl2.form
   unfold maxLen at hlma hlmb
   obtain ⟨L,hL⟩ : ∃ L,(V k).l.length = L:=⟨_,rfl⟩
   rw [hL] at hlca hlcb c2 d2 HL1 HL2
   have HL:=hide hL
   have p0:=(hBk.cell (p:=⟨b1,o1 + k * 3,none⟩) k1).trans c0
   have p1:=(hBk.cell (p:=⟨b1,o1 + k * 3 + 1,none⟩) k1).trans c1
   have p2:=(hBk.cell (p:=⟨b1,o1 + k * 3 + 2,none⟩) k1).trans c2
   have q0:=(hBk.cell (p:=⟨b2,o2 + k * 3,none⟩) k2).trans d0
   have q1:=(hBk.cell (p:=⟨b2,o2 + k * 3 + 1,none⟩) k2).trans d1
   have q2:=(hBk.cell (p:=⟨b2,o2 + k * 3 + 2,none⟩) k2).trans d2
   obtain ⟨vn,hvn⟩ : ∃ vn,(V k).n = vn:=⟨_,rfl⟩
   obtain ⟨vi,hvi⟩ : ∃ vi,(V k).is = vi:=⟨_,rfl⟩
   rw [hvn] at p0 q0
   rw [hvi] at p1 q1
   have hki : (k : Int) < n:=by omega
   have C2:=hide c2
   have D2:=hide d2
   have t0 : (vn != vn) = false:=by simp
   have t1 : (vi != vi) = false:=by simp
   have t2 : ((L : Int) != L) = false:=by simp
   clear c0 c1 c2 d0 d1 d2 hl1 hl2 hBk hvn hvi hL
   go_wp2
   go_quiet (fail)
   go_wp2
   go_loopw [6] (fun i wr=>(∃ j : Nat,j ≤ L ∧ i = .int .i64 j) ∧ Below w.heap.size w wr) (fun i _=>L - (intOf i).toNat)
   case atStart=>exact ⟨⟨0,Nat.zero_le _,rfl⟩,below_drewN HBk.out _⟩
   case round =>
    clear p0 p1 p2 q0 q1 q2
    obtain ⟨⟨j,hj,rfl⟩,hBj⟩:=hrel
    have HBj:=hide hBj
    have p2:=(hBj.cell (p:=⟨b1,o1 + k * 3 + 2,none⟩) k1).trans C2.out
    have q2:=(hBj.cell (p:=⟨b2,o2 + k * 3 + 2,none⟩) k2).trans D2.out
    by_cases hjL : j < L
    · obtain ⟨x,hx⟩ : ∃ x,(V k).l[j]? = some x:=⟨(V k).l[j]'(by have:=HL.out;omega),by simp⟩
     obtain ⟨e1,f1,rfl,_,h1⟩:=HL1.out.at hx
     obtain ⟨e2,f2,rfl,_,h2⟩:=HL2.out.at hx
     have c0:=h1 0 _ rfl
     have d0:=h2 0 _ rfl
     have m1:=block_lt_of_cell c0
     have m2:=block_lt_of_cell d0
     simp only [Nat.mul_one,Nat.add_zero] at m1 m2 c0 d0
     have r0:=(hBj.cell (p:=⟨e1,f1 + j,none⟩) m1).trans c0
     have r1:=(hBj.cell (p:=⟨e2,f2 + j,none⟩) m2).trans d0
     have hji : (j : Int) < L:=by omega
     have tx : (x != x) = false:=by simp
     clear c0 d0 h1 h2 hx hBj
     go_wp2
     go_quiet (fail)
     go_wp2
     go_roundw
     case rel=>exact ⟨⟨j + 1,by omega,by go_num⟩,below_drewN HBj.out _⟩
     case measure=>simp [intOf];omega
    · clear hBj
     go_wp2
     go_roundw
     case rel=>exact ⟨⟨k + 1,by omega,by go_num⟩,HBj.out⟩
     case measure=>simp [intOf];omega
  · clear hBk
   go_wp2
   go_ret
   exact ⟨rfl,HBk.out⟩
end Go.Proofs.YtkmakliebhnhbaaGreat
namespace Go.Proofs.YtkmakliebhnhbaaGreat
open Go.RowKit
structure Dev where
 P : (Nat → Prop) → World → Value → List (List Ins) → List Int → Prop
 turn : ∀ {S S' : Nat → Prop} {W W' : World} {p : Value} {fs : List (List Ins)} {reds : List Int},P S W p fs reds → (∀ b,S b → b < W.heap.size → S' b ∧ W'.heap[b]? = W.heap[b]?) → P S' W' p fs reds
def FsWf (fs : List (List Ins)) : Prop:=∀ l ∈ fs,∀ i ∈ l,i.wf
def Small (fs : List (List Ins)) (reds : List Int) : Prop:=fs.length ≤ 2000000 ∧ reds.length ≤ 2000000 ∧ ∀ l ∈ fs,l.length ≤ 2000000
def NewSaid (D : Dev) : Prop:=∀ (fs : List (List Ins)) (reds : List Int) (S : Nat → Prop) (vf vr : Value) (w : World),FsWf fs → Small fs reds → (∀ r ∈ reds,i64 r) → RdF S w vf fs → RdL S w 1 int64s vr reds →
 Calls Tryz.prog 15 #[vf,vr] w fun e w'=>∃ p,e = .returned (.tuple #[p,.int .i64 (check fs reds).1,.int .i64 (check fs reds).2]) ∧ Below w.heap.size w w' ∧
  ((check fs reds).1 = 0 → (∃ b,p = .pointer (some ⟨b,0,none⟩)) ∧ D.P (fun b=>w.heap.size ≤ b ∧ b < w'.heap.size) w' p fs reds) ∧ ((check fs reds).1 ≠ 0 → p = .pointer none)
def SerialSaid (D : Dev) : Prop:=∀ (fs : List (List Ins)) (reds : List Int) (S : Nat → Prop) (p : Value) (seed x : Int) (w : World),FsWf fs → (check fs reds).1 = 0 → u64 seed → i64 x → D.P S w p fs reds →
 Calls Tryz.prog 20 #[p,.int .u64 seed,.int .i64 x] w fun e w'=>∃ lv tv LV xs,e = .returned (.agg #[lv,tv,.int .i64 0,.int .i64 0,.int .i64 0,.int .i64 (framesC fs)]) ∧
  OwnV w' w.heap.size lv reds.length (valsZ reds (traceZ fs seed x)) LV xs ∧ w'.ownsRow w.heap.size 89 3 tv (traceZ fs seed x).length (evCells (traceZ fs seed x)) ∧ Clear lv tv ∧ (∀ r,r < reds.length → Clear (LV r) tv) ∧ Below w.heap.size w w'
def RefP (S : Nat → Prop) (W : World) (v : Value) (fs : List (List Ins)) (reds : List Int) : Prop:=∃ rb vf vr,v = .pointer (some ⟨rb,0,none⟩) ∧ S rb ∧ W.cell? ⟨rb,0,none⟩ = some vf ∧ W.cell? ⟨rb,1,none⟩ = some vr ∧ RdF S W vf fs ∧ RdL S W 1 int64s vr reds
theorem RefP.turn {S S' : Nat → Prop} {W W' : World} {v : Value} {fs : List (List Ins)} {reds : List Int} (h : RefP S W v fs reds) (hS : ∀ b,S b → b < W.heap.size → S' b ∧ W'.heap[b]? = W.heap[b]?) : RefP S' W' v fs reds:=by
 obtain ⟨rb,vf,vr,hv,hrb,c0,c1,h1,h2⟩:=h
 have hl : rb < W.heap.size:=block_lt_of_cell c0
 obtain ⟨s1,s2⟩:=hS rb hrb hl
 exact ⟨rb,vf,vr,hv,s1,(World.cell?_of_block (w:=W) (a:=⟨rb,0,none⟩) s2).trans c0,(World.cell?_of_block (w:=W) (a:=⟨rb,1,none⟩) s2).trans c1,h1.turn hS,h2.turn hS (fun x _=>by simp [int64s])⟩
theorem check_ok {fs : List (List Ins)} {reds : List Int} (h : (check fs reds).1 = 0) (hw : FsWf fs) : 0 < fs.length ∧ fs.length ≤ 8 ∧ reds.length ≤ 4 ∧ FsOk fs reds.length ∧ (∀ l ∈ fs,l.length ≤ 10):=by
 by_cases h1 : fs.length < 1 ∨ 8 < fs.length
 · rw [check_1 h1] at h;cases h
 by_cases h2 : 4 < reds.length
 · rw [check_2 h1 h2] at h;cases h
 cases h3 : firstBad (badR reds) reds.length with
 | some r=>rw [check_3 h1 h2 h3] at h;cases h
 | none =>
  cases h4 : firstBad (badF fs reds.length) fs.length with
  | some f=>rw [check_4 h1 h2 h3 h4] at h;cases h
  | none =>
   have hb : ∀ f,f < fs.length → badF fs reds.length f = false:=fun f hf=>by
    have:=List.find?_eq_none.1 h4 f (List.mem_range.2 hf)
    simpa using this
   obtain ⟨k1,k2⟩:=FsOk_of hb hw
   exact ⟨by omega,by omega,by omega,k1,k2⟩
theorem oneZ_r {sub : Nat → Int → Int → List Ev} {n nr : Nat} {f : Nat} {x h r : Int} {i : Ins} (hm : mayB n nr f i = true) (hs : ∀ g y k,∀ e ∈ sub g y k,∃ q : Nat,e.r = q ∧ q < nr) : ∀ e ∈ oneZ sub x h r i,∃ q : Nat,e.r = q ∧ q < nr:=by
 intro e he
 unfold oneZ at he
 unfold mayB at hm
 split at he
 · rename_i h1
  rw [if_pos h1] at hm
  simp only [Bool.and_eq_true,decide_eq_true_eq] at hm
  rw [List.mem_singleton] at he
  subst he
  exact ⟨i.r.toNat,by simp only;omega,by omega⟩
 · rename_i h1
  rw [if_neg h1] at hm
  split at he
  · rename_i h2
   rw [if_pos h2] at hm
   simp only [Bool.and_eq_true,decide_eq_true_eq] at hm
   rw [List.mem_singleton] at he
   subst he
   exact ⟨i.r.toNat,by simp only;omega,by omega⟩
  · split at he
   · exact hs _ _ _ e he
   · cases he
theorem serL_r {sub : Nat → Int → Int → List Ev} {n nr f : Nat} {x h : Int} (hs : ∀ g y k,∀ e ∈ sub g y k,∃ q : Nat,e.r = q ∧ q < nr) : ∀ (l : List Ins) (r : Int),(∀ i ∈ l,mayB n nr f i = true) → ∀ e ∈ serL sub x h r l,∃ q : Nat,e.r = q ∧ q < nr
 | [],_,_,e,he=>by cases he
 | i :: t,r,hl,e,he=>by
  simp only [serL,List.mem_append] at he
  rcases he with he | he
  · exact oneZ_r (hl i (List.mem_cons_self ..)) hs e he
  · exact serL_r hs t _ (fun j hj=>hl j (List.mem_cons_of_mem _ hj)) e he
theorem ser_r {fs : List (List Ins)} {nr : Nat} (hok : FsOk fs nr) : ∀ d f x h,∀ e ∈ ser fs d f x h,∃ q : Nat,e.r = q ∧ q < nr
 | 0,_,_,_,e,he=>by simp [ser] at he
 | d + 1,f,x,h,e,he=>by
  simp only [ser] at he
  cases hf : fs[f]? with
  | none=>rw [hf] at he;simp [serL] at he
  | some l =>
   rw [hf] at he
   exact serL_r (n:=fs.length) (f:=f) (ser_r hok d) l 0 (fun i hi=>(hok f l hf i hi).1) e he
theorem trace_len {fs : List (List Ins)} (hn : fs.length ≤ 8) (hl : ∀ l ∈ fs,l.length ≤ 10) (seed x : Int) : (traceZ fs seed x).length ≤ 100000000:=by
 have h1:=ser_len hl fs.length 0 x seed
 have h2 : 10 ^ fs.length ≤ 10 ^ 8:=Nat.pow_le_pow_right (by omega) hn
 unfold traceZ
 omega
theorem evCells_flat (l : List Ev) : evCells l = flat Ev.vals l:=rfl
theorem evvals_len (e : Ev) : e.vals.length = 3:=rfl
theorem OwnV.rd {W : World} {base n : Nat} {lv : Value} {V : Nat → Val} {LV : Nat → Value} {xs : List Value} (h : OwnV W base lv n V LV xs) : RdV W lv V n:=by
 rcases h.row.2 with ⟨hv,h0⟩ | ⟨g,cap,cur,hv,hb,hg,hn,hm,hc,ht⟩
 · subst h0;exact ⟨none,0,hv,by omega,by unfold maxLen;omega,fun r hr=>by omega⟩
 · subst hv
  refine ⟨_,cap,rfl,hn,hm,fun r hr=>⟨g,0,LV r,rfl,?_,?_,?_,own_rd (by rw [← ints_flat];exact h.own r hr) int64s_len (fun _ _=>trivial)⟩⟩
  · rw [Nat.zero_add,World.ownsRow.cellAt h.row _ (by omega)];exact h.n0 r hr
  · rw [Nat.zero_add,World.ownsRow.cellAt h.row _ (by omega)];exact h.n1 r hr
  · rw [Nat.zero_add,World.ownsRow.cellAt h.row _ (by omega)];exact h.n2 r hr
end Go.Proofs.YtkmakliebhnhbaaGreat
