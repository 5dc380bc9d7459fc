import Derived.Test.YtkmakliebhnhbaaGreatLawW
namespace Go.Proofs.YtkmakliebhnhbaaGreat
open Go.RowKit
structure Frm (M : Nat → Prop) (W W' : World) : Prop where
 os : W'.os = W.os
 tape : W'.tape = W.tape
 output : W'.output = W.output
 size : W.heap.size ≤ W'.heap.size
 block : ∀ k,k < W.heap.size → ¬ M k → W'.heap[k]? = W.heap[k]?
theorem Frm.refl (M : Nat → Prop) (W : World) : Frm M W W:=⟨rfl,rfl,rfl,Nat.le_refl _,fun _ _ _=>rfl⟩
theorem Frm.trans {M M' : Nat → Prop} {a b c : World} (h : Frm M a b) (k : Frm M' b c) (hM : ∀ i,i < a.heap.size → M' i → M i) : Frm M a c :=
 ⟨k.os.trans h.os,k.tape.trans h.tape,k.output.trans h.output,Nat.le_trans h.size k.size,fun i hi hn=>(k.block i (Nat.lt_of_lt_of_le hi h.size) (fun h'=>hn (hM i hi h'))).trans (h.block i hi hn)⟩
theorem Frm.mono {M M' : Nat → Prop} {a b : World} (h : Frm M a b) (hM : ∀ i,i < a.heap.size → M i → M' i) : Frm M' a b:=⟨h.os,h.tape,h.output,h.size,fun i hi hn=>h.block i hi (fun h'=>hn (hM i hi h'))⟩
theorem Frm.of_grown {a b : World} {row : Option Nat} (h : a.grownBy b row) : Frm (fun k=>row = some k) a b:=⟨h.os,h.tape,h.output,h.size,fun k hk hn=>h.block k hk (fun e=>hn e.symm)⟩
theorem Frm.of_below {a b : World} (M : Nat → Prop) (h : Below a.heap.size a b) : Frm M a b:=⟨h.os,h.tape,h.output,h.size,fun k hk _=>h.block k hk⟩
theorem Frm.alloc {M : Nat → Prop} {a b : World} (h : Frm M a b) (o : Obj) : Frm M a (b.alloc o) :=
 h.trans (M':=fun _=>False) ⟨rfl,rfl,rfl,by simp,fun k hk _=>Below.heap_alloc _ _ _ hk⟩ (fun _ _ h=>h.elim)
theorem Frm.setCell {M : Nat → Prop} {a b : World} (h : Frm M a b) {p : Addr} (hp : M p.block ∨ a.heap.size ≤ p.block) (u : Value) : Frm M a (b.setCell p u) :=
 ⟨h.os,h.tape,h.output,by simpa [World.setCell] using h.size,fun k hk hn=>by
  rw [Below.heap_setCell _ _ _ _ (fun e=>by subst e;rcases hp with hp | hp;exact hn hp;omega)];exact h.block k hk hn⟩
theorem Frm.drewN {M : Nat → Prop} {a b : World} (h : Frm M a b) (n : Nat) : Frm M a (b.drewN n):=⟨h.os,h.tape,h.output,h.size,h.block⟩
structure KS (W0 W : World) (base Bw fi : Nat) (eL eB : TypeId) (size : Nat) (rep : Nat → List Value) (lv nv0 : Value) (ls : List (Value × Nat)) (nv : Value) (us : List Value) : Prop where
 frm : Frm (fun k=>k = Bw ∨ nv0.ownBlock = some k ∨ lv.ownBlock = some k) W0 W
 lt : Bw < W0.heap.size
 oth : ∀ j,j ≠ fi → W.cell? ⟨Bw,j,none⟩ = W0.cell? ⟨Bw,j,none⟩
 fz : ∀ j,W.frozen? ⟨Bw,j,none⟩ = W0.frozen? ⟨Bw,j,none⟩
 fld : W.cell? ⟨Bw,fi,none⟩ = some nv
 book : W.ownsRow base eB 1 nv us.length us
 bw : nv.ownBlock ≠ some Bw
 nvb : nv.ownBlock = nv0.ownBlock ∨ ∃ b,nv.ownBlock = some b ∧ W0.heap.size ≤ b
 lists : ∀ p ∈ ls,W.ownsRow base eL size p.1 p.2 (rep p.2) ∧ (p.1.ownBlock = lv.ownBlock ∨ ∃ b,p.1.ownBlock = some b ∧ W0.heap.size ≤ b) ∧ p.1.ownBlock ≠ some Bw ∧ (∀ b,p.1.ownBlock = some b → nv.ownBlock ≠ some b)
section
variable {W0 W w2 : World} {base Bw fi : Nat} {eL eB : TypeId} {size : Nat} {rep : Nat → List Value} {lv nv0 nv : Value} {ls : List (Value × Nat)} {us : List Value}
theorem KS.addList (h : KS W0 W base Bw fi eL eB size rep lv nv0 ls nv us) (hsz : 0 < size) (hrep : ∀ j m,j ≤ m → (rep m).take (j * size) = rep j) {n m : Nat} (hlv : (lv,n) ∈ ls) (hls : ∀ p ∈ ls,p.2 ≤ n + m) {o : Obj} {a' : Option Addr} {cap' H : Nat} (hH : H = W.heap.size + 1)
  (ho : w2.ownsRow base eL size (.slice a' (n + m) cap') (n + m) (rep (n + m))) (hg : (W.alloc o).grownBy w2 lv.ownBlock) (hlie : (Value.slice a' (n + m) cap').ownBlock = lv.ownBlock ∨ (Value.slice a' (n + m) cap').ownBlock = some H)
  (hway : AppWay (W.alloc o) w2 lv n a' cap') : KS W0 w2 base Bw fi eL eB size rep lv nv0 ((.slice a' (n + m) cap',n + m) :: ls) nv us:=by
 obtain ⟨o1,o2,o3,o4⟩:=h.lists _ hlv
 have hbs : Bw < W.heap.size:=Nat.lt_of_lt_of_le h.lt h.frm.size
 have hB : w2.heap[Bw]? = W.heap[Bw]?:=(hg.block Bw (by simp;omega) (fun e=>o3 e.symm)).trans (Below.heap_alloc _ _ _ hbs)
 have hnv : ∀ b,nv.ownBlock = some b → w2.heap[b]? = W.heap[b]?:=fun b hb=>by
  have hlt:=(h.book.lt b hb).2
  exact (hg.block b (by simp;omega) (fun e=>o4 b e.symm hb)).trans (Below.heap_alloc _ _ _ hlt)
 refine ⟨?_,h.lt,?_,?_,?_,?_,h.bw,h.nvb,?_⟩
 ·exact (h.frm.alloc o).trans (Frm.of_grown hg) (fun i _ hi=>.inr (.inr hi))
 ·intro j hj
  exact (World.cell?_of_block (w:=W) (a:=⟨Bw,j,none⟩) hB).trans (h.oth j hj)
 ·intro j
  exact (World.frozen?_of_block (w:=W) (a:=⟨Bw,j,none⟩) hB).trans (h.fz j)
 ·exact (World.cell?_of_block (w:=W) (a:=⟨Bw,fi,none⟩) hB).trans h.fld
 ·exact own_turn h.book (fun b hb _=>hnv b hb)
 ·intro p hp
  rcases List.mem_cons.1 hp with rfl | hp
  ·refine ⟨ho,?_,?_,?_⟩
   ·rcases hlie with hl | hl
    ·rcases o2 with o2 | ⟨b,hb,hle⟩
     ·exact .inl hl
     ·exact .inl hl
    ·exact .inr ⟨_,hl,by have:=h.frm.size;omega⟩
   ·rcases hlie with hl | hl
    ·intro e;exact o3 (hl.symm.trans e)
    ·intro e;rw [hl] at e;injection e with e;omega
   ·intro b hb
    rcases hlie with hl | hl
    ·exact o4 b (hl.symm.trans hb)
    ·intro e
     have:=(h.book.lt b e).2
     rw [hl] at hb;injection hb with hb;omega
  ·obtain ⟨p1,p2,p3,p4⟩:=h.lists p hp
   exact ⟨app_own hsz (o1.alloc o) (p1.alloc o) ho (hrep _ _ (hls p hp)) hg hway (hls p hp),p2,p3,p4⟩
theorem KS.addBook (h : KS W0 W base Bw fi eL eB size rep lv nv0 ls nv us) {o : Obj} {u : Value} {a' : Option Addr} {cap' H q : Nat} (hq : us.length = q) (hH : H = W.heap.size + 1)
  (ho : w2.ownsRow base eB 1 (.slice a' (q + 1) cap') (q + 1) (us ++ [u])) (hg : (W.alloc o).grownBy w2 nv.ownBlock) (hlie : (Value.slice a' (q + 1) cap').ownBlock = nv.ownBlock ∨ (Value.slice a' (q + 1) cap').ownBlock = some H) :
  KS W0 (w2.setCell ⟨Bw,fi,none⟩ (.slice a' (q + 1) cap')) base Bw fi eL eB size rep lv nv0 ls (.slice a' (q + 1) cap') (us ++ [u]):=by
 have hbs : Bw < W.heap.size:=Nat.lt_of_lt_of_le h.lt h.frm.size
 have hB : w2.heap[Bw]? = W.heap[Bw]?:=(hg.block Bw (by simp;omega) (fun e=>h.bw e.symm)).trans (Below.heap_alloc _ _ _ hbs)
 have hbw' : (Value.slice a' (q + 1) cap').ownBlock ≠ some Bw:=by
  rcases hlie with hl | hl
  ·rw [hl];exact h.bw
  ·rw [hl];intro e;injection e with e;omega
 refine ⟨?_,h.lt,?_,?_,?_,?_,hbw',?_,?_⟩
 ·refine Frm.setCell ?_ (.inl (.inl rfl)) _
  refine (h.frm.alloc o).trans (Frm.of_grown hg) (fun i hi hi2=>?_)
  rcases h.nvb with hn | ⟨b,hb,hle⟩
  ·exact .inr (.inl (hn.symm.trans hi2))
  ·rw [hb] at hi2;injection hi2 with hi2;omega
 ·intro j hj
  rw [World.cell?_setCell_other _ _ _ _ (by intro e;injection e with _ e;exact hj e.symm)]
  exact (World.cell?_of_block (w:=W) (a:=⟨Bw,j,none⟩) hB).trans (h.oth j hj)
 ·intro j
  rw [World.frozen?_setCell]
  exact (World.frozen?_of_block (w:=W) (a:=⟨Bw,j,none⟩) hB).trans (h.fz j)
 ·rw [World.cell?_setCell_same' _ _ _ (by rw [World.cell?_of_block (w:=W) (a:=⟨Bw,fi,none⟩) hB,h.fld];rfl)]
 ·have hl : (us ++ [u]).length = q + 1:=by simp [hq]
  rw [hl]
  exact own_turn ho (fun b hb _=>Below.heap_setCell _ _ _ _ (fun e=>hbw' (by rw [hb,e])))
 ·rcases hlie with hl | hl
  ·rw [hl];exact h.nvb
  ·exact .inr ⟨_,hl,by have:=h.frm.size;omega⟩
 ·intro p hp
  obtain ⟨p1,p2,p3,p4⟩:=h.lists p hp
  refine ⟨?_,p2,p3,?_⟩
  ·refine own_turn p1 (fun b hb hlt=>?_)
   rw [Below.heap_setCell _ _ _ _ (fun e=>p3 (by rw [hb,e])),hg.block b (by simp;omega) (fun e=>p4 b hb e.symm),Below.heap_alloc _ _ _ hlt]
  ·intro b hb
   have hlt:=(p1.lt b hb).2
   rcases hlie with hl | hl
   ·rw [hl];exact p4 b hb
   ·rw [hl];intro e;injection e with e;omega
theorem KS.store (h : KS W0 W base Bw fi eL eB size rep lv nv0 ls nv us) {o : Obj} (hg : (W.alloc o).grownBy w2 nv.ownBlock) : w2.cell? ⟨Bw,fi,none⟩ = some nv ∧ w2.frozen? ⟨Bw,fi,none⟩ = W0.frozen? ⟨Bw,fi,none⟩:=by
 have hbs : Bw < W.heap.size:=Nat.lt_of_lt_of_le h.lt h.frm.size
 have hB : w2.heap[Bw]? = W.heap[Bw]?:=(hg.block Bw (by simp;omega) (fun e=>h.bw e.symm)).trans (Below.heap_alloc _ _ _ hbs)
 exact ⟨(World.cell?_of_block (w:=W) (a:=⟨Bw,fi,none⟩) hB).trans h.fld,(World.frozen?_of_block (w:=W) (a:=⟨Bw,fi,none⟩) hB).trans (h.fz fi)⟩
theorem KS.weaken {w : World} {o : Obj} (h : KS (w.alloc o) W base Bw fi eL eB size rep lv nv0 ls nv us) (hB : Bw < w.heap.size) : KS w W base Bw fi eL eB size rep lv nv0 ls nv us:=by
 have hb : (w.alloc o).heap[Bw]? = w.heap[Bw]?:=Below.heap_alloc _ _ _ hB
 refine ⟨?_,hB,fun j hj=>(h.oth j hj).trans (World.cell?_of_block (w:=w) (a:=⟨Bw,j,none⟩) hb),fun j=>(h.fz j).trans (World.frozen?_of_block (w:=w) (a:=⟨Bw,j,none⟩) hb),h.fld,h.book,h.bw,?_,?_⟩
 ·exact (Frm.alloc (Frm.refl _ _) o).trans h.frm (fun _ _ h=>h)
 ·rcases h.nvb with h1 | ⟨b,h1,h2⟩
  ·exact .inl h1
  ·exact .inr ⟨b,h1,by simp at h2;omega⟩
 ·intro p hp
  obtain ⟨p1,p2,p3,p4⟩:=h.lists p hp
  refine ⟨p1,?_,p3,p4⟩
  rcases p2 with h1 | ⟨b,h1,h2⟩
  ·exact .inl h1
  ·exact .inr ⟨b,h1,by simp at h2;omega⟩
end
def repC (cs : List Value) (j : Nat) : List Value:=(List.replicate j cs).flatten
theorem repC_len (cs : List Value) (j : Nat) : (repC cs j).length = j * cs.length:=by
 induction j with
 | zero=>simp [repC]
 | succ j ih=>simp only [repC,List.replicate_succ,List.flatten_cons,List.length_append] at *;rw [ih,Nat.add_mul];omega
theorem repC_add (cs : List Value) (j m : Nat) : repC cs j ++ repC cs m = repC cs (j + m):=by
 simp only [repC,← List.replicate_append_replicate,List.flatten_append]
theorem repC_take {cs : List Value} {size : Nat} (hs : cs.length = size) : ∀ j m,j ≤ m → (repC cs m).take (j * size) = repC cs j:=by
 intro j m h
 obtain ⟨d,rfl⟩:=Nat.le.dest h
 rw [← repC_add,List.take_append_of_le_length (by rw [repC_len,hs];omega),← hs,← repC_len,List.take_length]
theorem repC_one {cs : List Value} (h1 : ∀ u ∈ cs,u.oneCell' = true) (j : Nat) : ∀ u ∈ repC cs j,u.oneCell' = true:=by
 intro u hu
 obtain ⟨l,hl,hu2⟩:=List.mem_flatten.1 hu
 obtain ⟨_,e⟩:=List.mem_replicate.1 hl
 rw [e] at hu2
 exact h1 u hu2
theorem take3_set {zs : List Value} {k n : Nat} {x y z : Value} (hl : zs.length = n * 3) (hk : k < n) (h : zs.take (k * 3) = repC [x,y,z] k) :
  ((((zs.set (k * 3) x).set (k * 3 + 1) y).set (k * 3 + 2) z).take ((k + 1) * 3)) = repC [x,y,z] (k + 1):=by
 rw [← repC_add [x,y,z] k 1,← h,show (k + 1) * 3 = k * 3 + 1 + 1 + 1 by omega]
 rw [List.take_succ_eq_append_getElem (by simp;omega),List.take_succ_eq_append_getElem (by simp;omega),List.take_succ_eq_append_getElem (by simp;omega)]
 simp [List.take_set_of_le,repC]
theorem srcA (W : World) (cs : Array Value) (t : TypeId) (H _n : Nat) (news : List Value) (hH : W.heap.size = H) (hc : cs.toList = news) (size m : Nat) (hl : news.length = m * size) : AppSrc (W.alloc (.cells cs t)) size (.slice (some ⟨H,0,none⟩) m m) m news :=
 .inr ⟨_,_,rfl,hl,by subst hH;subst hc;exact World.news_of_block (cs:=cs) (fr:=(0,0)) (heap_new W _)⟩
def mkZ (m : Nat) : Int:=-1000 - ((m / 4 : Nat) : Int)
end Go.Proofs.YtkmakliebhnhbaaGreat
namespace Go.Proofs.YtkmakliebhnhbaaGreat
open Go.RowKit
theorem Tryz.infoL64 : (Tryz.prog.info? 87).map (fun i=>(i.zero,i.size,i.bytes)) = some (some (.slice none 0 0),1,24):=by kernel_rfl
theorem Tryz.infoI64' : (Tryz.prog.info? 2).map (fun i=>(i.zero,i.size,i.bytes)) = some (some (.int .i64 0),1,8):=by kernel_rfl
def repN (mk : Int) (j : Nat) : List Value:=List.replicate j (.int .i64 mk)
theorem repN_take (mk : Int) : ∀ j m,j ≤ m → (repN mk m).take (j * 1) = repN mk j:=by
 intro j m h;simp [repN,List.take_replicate,Nat.min_eq_left h]
theorem repN_one (mk : Int) (j : Nat) : ∀ u ∈ repN mk j,u.oneCell' = true:=by
 intro u hu;obtain ⟨_,rfl⟩:=List.mem_replicate.1 hu;rfl
theorem repN_add (mk : Int) (j m : Nat) : repN mk j ++ repN mk m = repN mk (j + m):=by simp [repN,List.replicate_append_replicate]
set_option maxRecDepth 100000 in
set_option maxHeartbeats 2000000 in
theorem keepNums_any (base Bw n : Nat) (lv nv : Value) (xs us : List Value) (w : World) (hn : n ≤ 200000000) (hm : us.length ≤ 200000000) (hB : Bw < w.heap.size) (hbase : base ≤ w.heap.size)
  (hf : w.cell? ⟨Bw,2,none⟩ = some nv) (hfz : w.frozen? ⟨Bw,2,none⟩ = false) (hnv : w.ownsRow base 87 1 nv us.length us) (hlv : w.ownsRow base 2 1 lv n xs)
  (hnb : nv.ownBlock ≠ some Bw) (hlb : lv.ownBlock ≠ some Bw) (hln : ∀ b,lv.ownBlock = some b → nv.ownBlock ≠ some b) :
  Calls Tryz.prog 55 #[.pointer (some ⟨Bw,0,none⟩),lv] w fun e w'=>∃ a b c nv',e = .returned (.tuple #[]) ∧
   KS w w' base Bw 2 2 87 1 (repN (mkZ us.length)) lv nv [(c,n + 3),(b,n + 2),(a,n + 1),(lv,n)] nv' (us ++ [lv] ++ [a] ++ [b] ++ [c]):=by
 obtain ⟨la,lc,rfl⟩:=own_form hlv
 obtain ⟨na,nc,rfl⟩:=own_form hnv
 obtain ⟨ib,hib,hb0,hb1,hb2⟩:=info_parts Tryz.infoL64
 obtain ⟨il,hil,hl0,hl1,hl2⟩:=info_parts Tryz.infoI64'
 have HNV:=hide hnv
 have HLV:=hide hlv
 have HLN:=hide hln
 have HNB:=hide hnb
 have HLB:=hide hlb
 obtain ⟨m,hM⟩ : ∃ m,us.length = m:=⟨_,rfl⟩
 have HM:=hide hM
 have hm' : m ≤ 200000000:=by omega
 rw [hM] at hf
 clear hnv hlv hln hnb hlb hM hm
 go_enter Tryz.func55,Tryz.ntmps55
 go_wp2
 obtain ⟨mk,hmk⟩ : ∃ mk : Int,-1000 - (m : Int) / 4 = mk:=⟨_,rfl⟩
 have HMK : Hid (mkZ us.length = mk):=by unfold Hid mkZ;rw [HM.out];simp only [Int.natCast_ediv];exact hmk
 rw [hmk]
 clear hmk
 go_loopw [5] (fun i wr=>(∃ (k : Nat) (zs : List Value),k ≤ n ∧ i = .int .i64 k ∧ wr.ownsRow base 2 1 (.slice la n lc) n zs ∧ zs.take k = repN mk k) ∧ Frm (fun k=>(Value.slice la n lc).ownBlock = some k) w wr)
  (fun i _=>n - (intOf i).toNat)
 case atStart=>exact ⟨⟨0,xs,Nat.zero_le _,rfl,HLV.out,by simp [repN]⟩,Frm.refl _ _⟩
 case round =>
  obtain ⟨⟨k,zs,hk,rfl,hoz,hzk⟩,hfr⟩:=hrel
  have HOZ:=hide hoz
  have HFR:=hide hfr
  have HZK:=hide hzk
  by_cases hlt : k < n
  ·obtain ⟨g,cap',hv',hbg,hgl⟩:=hoz.form (by omega)
   cases hv'
   obtain ⟨u,hu⟩ : ∃ u,zs[k]? = some u:=⟨zs[k]'(by rw [hoz.1];omega),by simp⟩
   have c0:=hoz.cellAt k (by omega)
   rw [hu] at c0
   have f0:=hoz.frozenAt k
   have hki : (k : Int) < n:=by omega
   clear hoz hfr hzk hu
   go_wp2
   go_roundw
   case rel =>
    refine ⟨⟨k + 1,zs.set k (.int .i64 mk),by omega,by go_num,(HOZ.out.stored k _).1,?_⟩,HFR.out.setCell (p:=⟨g,k,none⟩) (.inl rfl) _⟩
    have hzl : zs.length = n:=by have:=HOZ.out.1;omega
    rw [List.take_succ_eq_append_getElem (by simp;omega),List.take_set_of_le (Nat.le_refl _),HZK.out]
    simp [repN,List.replicate_succ']
   case measure=>simp [intOf];omega
  ·obtain rfl : n = k:=by omega
   have hzl : zs.length = n:=by have:=hoz.1;omega
   have hzs : zs = repN mk n:=by rw [← hzk,← hzl,List.take_length]
   subst hzs
   have hBB : wr.heap[Bw]? = w.heap[Bw]?:=hfr.block Bw hB HLB.out
   have K0 : Hid (KS w wr base Bw 2 2 87 1 (repN mk) (.slice la n lc) (.slice na us.length nc) [(.slice la n lc,n)] (.slice na us.length nc) us):=by
    refine ⟨hfr.mono (fun i _ h=>.inr (.inr h)),hB,fun j _=>World.cell?_of_block (w:=w) (a:=⟨Bw,j,none⟩) hBB,fun j=>World.frozen?_of_block (w:=w) (a:=⟨Bw,j,none⟩) hBB,?_,?_,HNB.out,.inl rfl,?_⟩
    ·rw [HM.out];exact (World.cell?_of_block (w:=w) (a:=⟨Bw,2,none⟩) hBB).trans hf
    ·exact own_turn HNV.out (fun b hb hlt=>hfr.block b hlt (fun h=>HLN.out b h hb))
    ·intro p hp
     rw [List.mem_singleton] at hp
     subst hp
     exact ⟨hoz,.inl rfl,HLB.out,HLN.out⟩
   have hw0:=hfr.size
   have HFZ:=hide hfz
   clear hoz hfr hzk hBB hzl HOZ HFR HZK hf hfz
   go_wp2_with (at_builtin;refine wpList_app2 _ rfl _ _ 87 rfl base 2 il _ 1 8 Tryz.underlying87 hil hl0 hl1 hl2 rfl (by decide) _ _ _ rfl ((K0.out.lists (.slice la n lc,n) (by simp)).1.alloc _) (.slice (some ⟨wr.heap.size,0,none⟩) 1 1) 1 (repN mk 1) rfl (srcA _ _ _ _ 0 _ rfl rfl 1 1 rfl) (repN_one _ _) ?h63 ?hbytes ?hbase ?_)
   case h63=>unfold maxLen;omega
   case hbytes=>omega
   case hbase=>simp;omega
   intro a1 c1 w1 ho hg _ hlie hway
   rw [repN_add] at ho
   have K1:=hide (K0.out.addList (by omega) (repN_take mk) (n:=n) (m:=1) (by simp) (by intro p hp;simp at hp;rcases hp with rfl <;> simp) rfl ho hg hlie hway)
   have hw1 : wr.heap.size ≤ w1.heap.size:=by have:=hg.size;simp at this;omega
   clear ho hg hlie hway
   go_wp2_with (at_builtin;refine wpList_app2 _ rfl _ _ 87 rfl base 2 il _ 1 8 Tryz.underlying87 hil hl0 hl1 hl2 rfl (by decide) _ _ _ rfl ((K1.out.lists (.slice la n lc,n) (by simp)).1.alloc _) (.slice (some ⟨w1.heap.size,0,none⟩) 2 2) 2 (repN mk 2) rfl (srcA _ _ _ _ 0 _ rfl rfl 1 2 rfl) (repN_one _ _) ?h63 ?hbytes ?hbase ?_)
   case h63=>unfold maxLen;omega
   case hbytes=>omega
   case hbase=>simp;omega
   intro a2 c2 w2 ho hg _ hlie hway
   rw [repN_add] at ho
   have K2:=hide (K1.out.addList (by omega) (repN_take mk) (n:=n) (m:=2) (by simp) (by intro p hp;simp at hp;rcases hp with rfl | rfl <;> simp) rfl ho hg hlie hway)
   have hw2 : w1.heap.size ≤ w2.heap.size:=by have:=hg.size;simp at this;omega
   clear ho hg hlie hway
   go_wp2_with (at_builtin;refine wpList_app2 _ rfl _ _ 87 rfl base 2 il _ 1 8 Tryz.underlying87 hil hl0 hl1 hl2 rfl (by decide) _ _ _ rfl ((K2.out.lists (.slice la n lc,n) (by simp)).1.alloc _) (.slice (some ⟨w2.heap.size,0,none⟩) 3 3) 3 (repN mk 3) rfl (srcA _ _ _ _ 0 _ rfl rfl 1 3 rfl) (repN_one _ _) ?h63 ?hbytes ?hbase ?_)
   case h63=>unfold maxLen;omega
   case hbytes=>omega
   case hbase=>simp;omega
   intro a3 c3 w3 ho hg _ hlie hway
   rw [repN_add] at ho
   have K3:=hide (K2.out.addList (by omega) (repN_take mk) (n:=n) (m:=3) (by simp) (by intro p hp;simp at hp;rcases hp with rfl | rfl | rfl <;> simp) rfl ho hg hlie hway)
   have hw3 : w2.heap.size ≤ w3.heap.size:=by have:=hg.size;simp at this;omega
   clear ho hg hlie hway
   rw [HM.out] at K3
   have B0 : Hid (w3.ownsRow base 87 1 (.slice na m nc) m us):=by have:=K3.out.book;rw [HM.out] at this;exact this
   have fc:=K3.out.fld
   have hbw3 : Bw < w3.heap.size:=by omega
   go_wp2_with (at_builtin;refine wpList_app2 _ rfl _ _ 37 rfl base 87 ib _ 1 24 Tryz.underlying37 hib hb0 hb1 hb2 rfl (by decide) _ m _ rfl (B0.out.alloc _) (.slice (some ⟨w3.heap.size,0,none⟩) 1 1) 1 [.slice la n lc] rfl (srcA _ _ _ _ 0 _ (by simp) rfl 1 1 rfl) ?h1 ?h63 ?hbytes ?hbase ?_)
   case h1=>simp [Value.oneCell']
   case h63=>unfold maxLen;omega
   case hbytes=>omega
   case hbase=>simp;omega
   intro p1 d1 x1 ho hg _ hlie _
   obtain ⟨s0,s1⟩:=K3.out.store hg
   rw [HFZ.out] at s1
   have K4:=hide (K3.out.addBook (q:=m) (H:=w3.heap.size + 1) (by simp [HM.out]) rfl ho hg hlie)
   have B1 : Hid ((x1.setCell ⟨Bw,2,none⟩ (.slice p1 (m + 1) d1)).ownsRow base 87 1 (.slice p1 (m + 1) d1) (m + 1) (us ++ [.slice la n lc])):=by have:=K4.out.book;simp only [List.length_append,List.length_cons,List.length_nil,HM.out] at this;exact this
   have hx1 : w3.heap.size ≤ x1.heap.size:=by have:=hg.size;simp at this;omega
   have hbx1 : Bw < x1.heap.size:=by omega
   clear ho hg hlie fc
   go_wp2_with (at_builtin;refine wpList_app2 _ rfl _ _ 37 rfl base 87 ib _ 1 24 Tryz.underlying37 hib hb0 hb1 hb2 rfl (by decide) _ (m + 1) _ rfl (B1.out.alloc _) (.slice (some ⟨x1.heap.size,0,none⟩) 1 1) 1 [.slice a1 (n + 1) c1] rfl (srcA _ _ _ _ 0 _ (by simp) rfl 1 1 rfl) ?h1 ?h63 ?hbytes ?hbase ?_)
   case h1=>simp [Value.oneCell']
   case h63=>unfold maxLen;omega
   case hbytes=>omega
   case hbase=>simp;omega
   intro p2 d2 x2 ho hg _ hlie _
   obtain ⟨s0,s1⟩:=K4.out.store hg
   rw [HFZ.out] at s1
   have K5:=hide (K4.out.addBook (u:=.slice a1 (n + 1) c1) (q:=(m + 1)) (H:=x1.heap.size + 1) (by simp [HM.out]) (by simp [World.setCell]) (by simpa using ho) hg hlie)
   have B2 : Hid ((x2.setCell ⟨Bw,2,none⟩ (.slice p2 ((m + 1) + 1) d2)).ownsRow base 87 1 (.slice p2 ((m + 1) + 1) d2) ((m + 1) + 1) (us ++ [.slice la n lc] ++ [.slice a1 (n + 1) c1])):=by have:=K5.out.book;simp only [List.length_append,List.length_cons,List.length_nil,HM.out] at this;exact this
   have hx2 : x1.heap.size ≤ x2.heap.size:=by have:=hg.size;simp at this;omega
   have hbx2 : Bw < x2.heap.size:=by omega
   clear ho hg hlie
   go_wp2_with (at_builtin;refine wpList_app2 _ rfl _ _ 37 rfl base 87 ib _ 1 24 Tryz.underlying37 hib hb0 hb1 hb2 rfl (by decide) _ (m + 1 + 1) _ rfl (B2.out.alloc _) (.slice (some ⟨x2.heap.size,0,none⟩) 1 1) 1 [.slice a2 (n + 2) c2] rfl (srcA _ _ _ _ 0 _ (by simp) rfl 1 1 rfl) ?h1 ?h63 ?hbytes ?hbase ?_)
   case h1=>simp [Value.oneCell']
   case h63=>unfold maxLen;omega
   case hbytes=>omega
   case hbase=>simp;omega
   intro p3 d3 x3 ho hg _ hlie _
   obtain ⟨s0,s1⟩:=K5.out.store hg
   rw [HFZ.out] at s1
   have K6:=hide (K5.out.addBook (u:=.slice a2 (n + 2) c2) (q:=(m + 1 + 1)) (H:=x2.heap.size + 1) (by simp [HM.out]) (by simp [World.setCell]) (by simpa using ho) hg hlie)
   have B3 : Hid ((x3.setCell ⟨Bw,2,none⟩ (.slice p3 ((m + 1 + 1) + 1) d3)).ownsRow base 87 1 (.slice p3 ((m + 1 + 1) + 1) d3) ((m + 1 + 1) + 1) (us ++ [.slice la n lc] ++ [.slice a1 (n + 1) c1] ++ [.slice a2 (n + 2) c2])):=by have:=K6.out.book;simp only [List.length_append,List.length_cons,List.length_nil,HM.out] at this;exact this
   have hx3 : x2.heap.size ≤ x3.heap.size:=by have:=hg.size;simp at this;omega
   have hbx3 : Bw < x3.heap.size:=by omega
   clear ho hg hlie
   go_wp2_with (at_builtin;refine wpList_app2 _ rfl _ _ 37 rfl base 87 ib _ 1 24 Tryz.underlying37 hib hb0 hb1 hb2 rfl (by decide) _ (m + 1 + 1 + 1) _ rfl (B3.out.alloc _) (.slice (some ⟨x3.heap.size,0,none⟩) 1 1) 1 [.slice a3 (n + 3) c3] rfl (srcA _ _ _ _ 0 _ (by simp) rfl 1 1 rfl) ?h1 ?h63 ?hbytes ?hbase ?_)
   case h1=>simp [Value.oneCell']
   case h63=>unfold maxLen;omega
   case hbytes=>omega
   case hbase=>simp;omega
   intro p4 d4 x4 ho hg _ hlie _
   obtain ⟨s0,s1⟩:=K6.out.store hg
   rw [HFZ.out] at s1
   have K7:=hide (K6.out.addBook (u:=.slice a3 (n + 3) c3) (q:=(m + 1 + 1 + 1)) (H:=x3.heap.size + 1) (by simp [HM.out]) (by simp [World.setCell]) (by simpa using ho) hg hlie)
   have B4 : Hid ((x4.setCell ⟨Bw,2,none⟩ (.slice p4 ((m + 1 + 1 + 1) + 1) d4)).ownsRow base 87 1 (.slice p4 ((m + 1 + 1 + 1) + 1) d4) ((m + 1 + 1 + 1) + 1) (us ++ [.slice la n lc] ++ [.slice a1 (n + 1) c1] ++ [.slice a2 (n + 2) c2] ++ [.slice a3 (n + 3) c3])):=by have:=K7.out.book;simp only [List.length_append,List.length_cons,List.length_nil,HM.out] at this;exact this
   have hx4 : x3.heap.size ≤ x4.heap.size:=by have:=hg.size;simp at this;omega
   have hbx4 : Bw < x4.heap.size:=by omega
   clear ho hg hlie
   go_wp2
   go_end0
   exact ⟨_,_,_,_,rfl,by rw [HMK.out,HM.out];exact K7.out⟩
end Go.Proofs.YtkmakliebhnhbaaGreat
namespace Go.Proofs.YtkmakliebhnhbaaGreat
open Go.RowKit
theorem Tryz.infoLE : (Tryz.prog.info? 65).map (fun i=>(i.zero,i.size,i.bytes)) = some (some (.slice none 0 0),1,24):=by kernel_rfl
theorem Tryz.infoE' : (Tryz.prog.info? 89).map (fun i=>(i.zero,i.size,i.bytes)) = some (some (.agg #[.int .i64 0,.int .i64 0,.int .i64 0]),3,24):=by kernel_rfl
def evMk (m : Nat) : List Value:=[.int .i64 (mkZ m),.int .i64 0,.int .i64 0]
set_option maxRecDepth 100000 in
set_option maxHeartbeats 3000000 in
theorem keepEvents_any (base Bw n : Nat) (lv nv : Value) (xs us : List Value) (w : World) (hn : n ≤ 200000000) (hm : us.length ≤ 200000000) (hB : Bw < w.heap.size) (hbase : base ≤ w.heap.size)
  (hf : w.cell? ⟨Bw,3,none⟩ = some nv) (hfz : w.frozen? ⟨Bw,3,none⟩ = false) (hnv : w.ownsRow base 65 1 nv us.length us) (hlv : w.ownsRow base 89 3 lv n xs)
  (hnb : nv.ownBlock ≠ some Bw) (hlb : lv.ownBlock ≠ some Bw) (hln : ∀ b,lv.ownBlock = some b → nv.ownBlock ≠ some b) :
  Calls Tryz.prog 40 #[.pointer (some ⟨Bw,0,none⟩),lv] w fun e w'=>∃ a b c nv',e = .returned (.tuple #[]) ∧
   KS w w' base Bw 3 89 65 3 (repC (evMk us.length)) lv nv [(c,n + 3),(b,n + 2),(a,n + 1),(lv,n)] nv' (us ++ [lv] ++ [a] ++ [b] ++ [c]):=by
 obtain ⟨la,lc,rfl⟩:=own_form hlv
 obtain ⟨na,nc,rfl⟩:=own_form hnv
 obtain ⟨ib,hib,hb0,hb1,hb2⟩:=info_parts Tryz.infoLE
 obtain ⟨il,hil,hl0,hl1,hl2⟩:=info_parts Tryz.infoE'
 have HLN:=hide hln
 have HNB:=hide hnb
 have HLB:=hide hlb
 obtain ⟨m,hM⟩ : ∃ m,us.length = m:=⟨_,rfl⟩
 have HM:=hide hM
 have hm' : m ≤ 200000000:=by omega
 rw [hM] at hf
 have HNV':=hide hnv
 have HLV':=hide hlv
 clear hnv hlv hln hnb hlb hM hm
 go_enter Tryz.func40,Tryz.ntmps40
 go_wp2
 obtain ⟨mk,hmk⟩ : ∃ mk : Int,-1000 - (m : Int) / 4 = mk:=⟨_,rfl⟩
 have HMK : Hid (mkZ us.length = mk):=by unfold Hid mkZ;rw [HM.out];simp only [Int.natCast_ediv];exact hmk
 rw [hmk]
 clear hmk
 obtain ⟨o0,ho0⟩ : ∃ o0,Obj.cells #[.int .i64 mk,.int .i64 0,.int .i64 0] 89 = o0:=⟨_,rfl⟩
 rw [ho0]
 obtain ⟨w0,hw0⟩ : ∃ w0,w.alloc o0 = w0:=⟨_,rfl⟩
 have HW0:=hide hw0
 obtain ⟨mb,hmb⟩ : ∃ mb,w.heap.size = mb:=⟨_,rfl⟩
 have hnew : w0.heap[mb]? = some o0:=by rw [← hw0,← hmb];exact heap_new w o0
 have m0 : w0.cell? ⟨mb,0,none⟩ = some (.int .i64 mk):=by simp [World.cell?,hnew,← ho0]
 have m1 : w0.cell? ⟨mb,1,none⟩ = some (.int .i64 0):=by simp [World.cell?,hnew,← ho0]
 have m2 : w0.cell? ⟨mb,2,none⟩ = some (.int .i64 0):=by simp [World.cell?,hnew,← ho0]
 have hmlt : mb < w0.heap.size:=by rw [← hw0,← hmb];simp
 have hBb : w0.heap[Bw]? = w.heap[Bw]?:=by rw [← hw0];exact Below.heap_alloc _ _ _ hB
 have HB0 : Hid (Bw < w0.heap.size):=by unfold Hid;omega
 have HMB : Hid (mb ≠ Bw):=by unfold Hid;omega
 have HML : Hid (¬ (Value.slice la n lc).ownBlock = some mb):=fun h=>by have:=(HLV'.out.lt mb h).2;omega
 have HMN : Hid (¬ (Value.slice na us.length nc).ownBlock = some mb):=fun h=>by have:=(HNV'.out.lt mb h).2;omega
 have HLV : Hid (w0.ownsRow base 89 3 (.slice la n lc) n xs):=by unfold Hid;rw [← hw0];exact HLV'.out.alloc _
 have HNV : Hid (w0.ownsRow base 65 1 (.slice na us.length nc) us.length us):=by unfold Hid;rw [← hw0];exact HNV'.out.alloc _
 have hf0 : w0.cell? ⟨Bw,3,none⟩ = some (.slice na m nc):=(World.cell?_of_block (w:=w) (a:=⟨Bw,3,none⟩) hBb).trans hf
 have HFZ : Hid (w0.frozen? ⟨Bw,3,none⟩ = false):=(World.frozen?_of_block (w:=w) (a:=⟨Bw,3,none⟩) hBb).trans hfz
 have hbs0 : base ≤ w0.heap.size:=by omega
 have HWB:=hide hB
 rw [hw0,hmb]
 clear hw0 hmb hnew ho0 hBb hf hfz HLV' HNV' hB
 go_loopw [5] (fun i wr=>(∃ (k : Nat) (zs : List Value),k ≤ n ∧ i = .int .i64 k ∧ wr.ownsRow base 89 3 (.slice la n lc) n zs ∧ zs.take (k * 3) = repC [.int .i64 mk,.int .i64 0,.int .i64 0] k) ∧ Frm (fun k=>(Value.slice la n lc).ownBlock = some k) w0 wr)
  (fun i _=>n - (intOf i).toNat)
 case atStart=>exact ⟨⟨0,xs,Nat.zero_le _,rfl,HLV.out,by simp [repC]⟩,Frm.refl _ _⟩
 case round =>
  obtain ⟨⟨k,zs,hk,rfl,hoz,hzk⟩,hfr⟩:=hrel
  have HOZ:=hide hoz
  have HFR:=hide hfr
  have HZK:=hide hzk
  have hmb : wr.heap[mb]? = w0.heap[mb]?:=hfr.block mb hmlt HML.out
  have r0:=(World.cell?_of_block (w:=w0) (a:=⟨mb,0,none⟩) hmb).trans m0
  have r1:=(World.cell?_of_block (w:=w0) (a:=⟨mb,1,none⟩) hmb).trans m1
  have r2:=(World.cell?_of_block (w:=w0) (a:=⟨mb,2,none⟩) hmb).trans m2
  have hmlr : mb < wr.heap.size:=Nat.lt_of_lt_of_le hmlt hfr.size
  by_cases hlt : k < n
  ·obtain ⟨g,cap',hv',hbg,hgl⟩:=hoz.form (by omega)
   cases hv'
   have hzl:=hoz.1
   obtain ⟨u0,hu0⟩ : ∃ u,zs[k * 3]? = some u:=⟨zs[k * 3]'(by omega),by simp⟩
   obtain ⟨u1,hu1⟩ : ∃ u,zs[k * 3 + 1]? = some u:=⟨zs[k * 3 + 1]'(by omega),by simp⟩
   obtain ⟨u2,hu2⟩ : ∃ u,zs[k * 3 + 2]? = some u:=⟨zs[k * 3 + 2]'(by omega),by simp⟩
   have c0:=hoz.cellAt (k * 3) (by omega)
   have c1:=hoz.cellAt (k * 3 + 1) (by omega)
   have c2:=hoz.cellAt (k * 3 + 2) (by omega)
   rw [hu0] at c0
   rw [hu1] at c1
   rw [hu2] at c2
   have f0:=hoz.frozenAt (k * 3)
   have f1:=hoz.frozenAt (k * 3 + 1)
   have f2:=hoz.frozenAt (k * 3 + 2)
   have hki : (k : Int) < n:=by omega
   have HZL:=hide hzl
   clear hoz hfr hzk hu0 hu1 hu2 hmb hzl m0 m1 m2 hf0
   go_wp2
   go_roundw
   case rel =>
    refine ⟨⟨k + 1,((zs.set (k * 3) (.int .i64 mk)).set (k * 3 + 1) (.int .i64 0)).set (k * 3 + 2) (.int .i64 0),by omega,by go_num,(((HOZ.out.stored (k * 3) (.int .i64 mk)).1.stored (k * 3 + 1) (.int .i64 0)).1.stored (k * 3 + 2) (.int .i64 0)).1,take3_set HZL.out hlt HZK.out⟩,((HFR.out.setCell (p:=⟨g,k * 3,none⟩) (.inl rfl) (.int .i64 mk)).setCell (p:=⟨g,k * 3 + 1,none⟩) (.inl rfl) (.int .i64 0)).setCell (p:=⟨g,k * 3 + 2,none⟩) (.inl rfl) (.int .i64 0)⟩
   case measure=>simp [intOf];omega
  ·obtain rfl : n = k:=by omega
   have hzl : zs.length = n * 3:=hoz.1
   have hzs : zs = repC [.int .i64 mk,.int .i64 0,.int .i64 0] n:=by rw [← hzk,← hzl,List.take_length]
   subst hzs
   have hBB : wr.heap[Bw]? = w0.heap[Bw]?:=hfr.block Bw HB0.out HLB.out
   have K0 : Hid (KS w0 wr base Bw 3 89 65 3 (repC [.int .i64 mk,.int .i64 0,.int .i64 0]) (.slice la n lc) (.slice na us.length nc) [(.slice la n lc,n)] (.slice na us.length nc) us):=by
    refine ⟨hfr.mono (fun i _ h=>.inr (.inr h)),HB0.out,fun j _=>World.cell?_of_block (w:=w0) (a:=⟨Bw,j,none⟩) hBB,fun j=>World.frozen?_of_block (w:=w0) (a:=⟨Bw,j,none⟩) hBB,?_,?_,HNB.out,.inl rfl,?_⟩
    ·rw [HM.out];exact (World.cell?_of_block (w:=w0) (a:=⟨Bw,3,none⟩) hBB).trans hf0
    ·exact own_turn HNV.out (fun b hb hlt=>hfr.block b hlt (fun h=>HLN.out b h hb))
    ·intro p hp
     rw [List.mem_singleton] at hp
     subst hp
     exact ⟨hoz,.inl rfl,HLB.out,HLN.out⟩
   have hws:=hfr.size
   have HMM : Hid (∀ (nv' : Value) (us' : List Value) (ls : List (Value × Nat)) (W : World),KS w0 W base Bw 3 89 65 3 (repC [.int .i64 mk,.int .i64 0,.int .i64 0]) (.slice la n lc) (.slice na us.length nc) ls nv' us' → W.cell? ⟨mb,0,none⟩ = some (.int .i64 mk) ∧ W.cell? ⟨mb,1,none⟩ = some (.int .i64 0) ∧ W.cell? ⟨mb,2,none⟩ = some (.int .i64 0) ∧ mb < W.heap.size):=by
    intro nv' us' ls W hK
    have hb : W.heap[mb]? = w0.heap[mb]?:=hK.frm.block mb hmlt (fun h=>by rcases h with h | h | h;exact HMB.out h;exact HMN.out h;exact HML.out h)
    exact ⟨(World.cell?_of_block (w:=w0) (a:=⟨mb,0,none⟩) hb).trans m0,(World.cell?_of_block (w:=w0) (a:=⟨mb,1,none⟩) hb).trans m1,(World.cell?_of_block (w:=w0) (a:=⟨mb,2,none⟩) hb).trans m2,Nat.lt_of_lt_of_le hmlt hK.frm.size⟩
   have HONE : Hid (∀ u ∈ ([.int .i64 mk,.int .i64 0,.int .i64 0] : List Value),u.oneCell' = true):=by unfold Hid;simp [Value.oneCell']
   clear hoz hfr hzk hBB hzl HOZ HFR HZK hf0 m0 m1 m2 hmb
   go_wp2_with (at_builtin;refine wpList_app2 _ rfl _ _ 65 rfl base 89 il _ 3 24 Tryz.underlying65 hil hl0 hl1 hl2 rfl (by decide) _ _ _ rfl ((K0.out.lists (.slice la n lc,n) (by simp)).1.alloc _) (.slice (some ⟨wr.heap.size,0,none⟩) 1 1) 1 (repC [.int .i64 mk,.int .i64 0,.int .i64 0] 1) rfl (srcA _ _ _ _ 0 _ rfl rfl 3 1 rfl) (repC_one HONE.out _) ?h63 ?hbytes ?hbase ?_)
   case h63=>unfold maxLen;omega
   case hbytes=>omega
   case hbase=>simp;omega
   intro a1 c1 w1 ho hg _ hlie hway
   rw [repC_add] at ho
   have K1:=hide (K0.out.addList (by omega) (repC_take rfl) (n:=n) (m:=1) (by simp) (by intro p hp;simp at hp;rcases hp with rfl <;> simp) rfl ho hg hlie hway)
   have hw1 : wr.heap.size ≤ w1.heap.size:=by have:=hg.size;simp at this;omega
   clear r0 r1 r2 hmlr
   obtain ⟨r0,r1,r2,hmlr⟩:=HMM.out _ _ _ _ K1.out
   clear ho hg hlie hway
   go_wp2_with (at_builtin;refine wpList_app2 _ rfl _ _ 65 rfl base 89 il _ 3 24 Tryz.underlying65 hil hl0 hl1 hl2 rfl (by decide) _ _ _ rfl ((K1.out.lists (.slice la n lc,n) (by simp)).1.alloc _) (.slice (some ⟨w1.heap.size,0,none⟩) 2 2) 2 (repC [.int .i64 mk,.int .i64 0,.int .i64 0] 2) rfl (srcA _ _ _ _ 0 _ rfl rfl 3 2 rfl) (repC_one HONE.out _) ?h63 ?hbytes ?hbase ?_)
   case h63=>unfold maxLen;omega
   case hbytes=>omega
   case hbase=>simp;omega
   intro a2 c2 w2 ho hg _ hlie hway
   rw [repC_add] at ho
   have K2:=hide (K1.out.addList (by omega) (repC_take rfl) (n:=n) (m:=2) (by simp) (by intro p hp;simp at hp;rcases hp with rfl | rfl <;> simp) rfl ho hg hlie hway)
   have hw2 : w1.heap.size ≤ w2.heap.size:=by have:=hg.size;simp at this;omega
   clear r0 r1 r2 hmlr
   obtain ⟨r0,r1,r2,hmlr⟩:=HMM.out _ _ _ _ K2.out
   clear ho hg hlie hway
   go_wp2_with (at_builtin;refine wpList_app2 _ rfl _ _ 65 rfl base 89 il _ 3 24 Tryz.underlying65 hil hl0 hl1 hl2 rfl (by decide) _ _ _ rfl ((K2.out.lists (.slice la n lc,n) (by simp)).1.alloc _) (.slice (some ⟨w2.heap.size,0,none⟩) 3 3) 3 (repC [.int .i64 mk,.int .i64 0,.int .i64 0] 3) rfl (srcA _ _ _ _ 0 _ rfl rfl 3 3 rfl) (repC_one HONE.out _) ?h63 ?hbytes ?hbase ?_)
   case h63=>unfold maxLen;omega
   case hbytes=>omega
   case hbase=>simp;omega
   intro a3 c3 w3 ho hg _ hlie hway
   rw [repC_add] at ho
   have K3:=hide (K2.out.addList (by omega) (repC_take rfl) (n:=n) (m:=3) (by simp) (by intro p hp;simp at hp;rcases hp with rfl | rfl | rfl <;> simp) rfl ho hg hlie hway)
   have hw3 : w2.heap.size ≤ w3.heap.size:=by have:=hg.size;simp at this;omega
   clear r0 r1 r2 hmlr
   obtain ⟨r0,r1,r2,hmlr⟩:=HMM.out _ _ _ _ K3.out
   clear ho hg hlie hway
   rw [HM.out] at K3
   have B0 : Hid (w3.ownsRow base 65 1 (.slice na m nc) m us):=by have:=K3.out.book;rw [HM.out] at this;exact this
   have fc:=K3.out.fld
   have hbw3 : Bw < w3.heap.size:=by have:=HB0.out;omega
   clear r0 r1 r2 hmlr
   go_wp2_with (at_builtin;refine wpList_app2 _ rfl _ _ 38 rfl base 65 ib _ 1 24 Tryz.underlying38 hib hb0 hb1 hb2 rfl (by decide) _ m _ rfl (B0.out.alloc _) (.slice (some ⟨w3.heap.size,0,none⟩) 1 1) 1 [.slice la n lc] rfl (srcA _ _ _ _ 0 _ (by simp) rfl 1 1 rfl) ?h1 ?h63 ?hbytes ?hbase ?_)
   case h1=>simp [Value.oneCell']
   case h63=>unfold maxLen;omega
   case hbytes=>omega
   case hbase=>simp;omega
   intro p1 d1 x1 ho hg _ hlie _
   obtain ⟨s0,s1⟩:=K3.out.store hg
   rw [HFZ.out] at s1
   have K4:=hide (K3.out.addBook (u:=.slice la n lc) (q:=m) (H:=w3.heap.size + 1) (by simp [HM.out]) rfl ho hg hlie)
   have B1 : Hid ((x1.setCell ⟨Bw,3,none⟩ (.slice p1 (m + 1) d1)).ownsRow base 65 1 (.slice p1 (m + 1) d1) (m + 1) (us ++ [.slice la n lc])):=by have:=K4.out.book;simp only [List.length_append,List.length_cons,List.length_nil,HM.out] at this;exact this
   have hx1 : w3.heap.size ≤ x1.heap.size:=by have:=hg.size;simp at this;omega
   have hbx1 : Bw < x1.heap.size:=by omega
   clear ho hg hlie fc
   go_wp2_with (at_builtin;refine wpList_app2 _ rfl _ _ 38 rfl base 65 ib _ 1 24 Tryz.underlying38 hib hb0 hb1 hb2 rfl (by decide) _ (m + 1) _ rfl (B1.out.alloc _) (.slice (some ⟨x1.heap.size,0,none⟩) 1 1) 1 [.slice a1 (n + 1) c1] rfl (srcA _ _ _ _ 0 _ (by simp) rfl 1 1 rfl) ?h1 ?h63 ?hbytes ?hbase ?_)
   case h1=>simp [Value.oneCell']
   case h63=>unfold maxLen;omega
   case hbytes=>omega
   case hbase=>simp;omega
   intro p2 d2 x2 ho hg _ hlie _
   obtain ⟨s0,s1⟩:=K4.out.store hg
   rw [HFZ.out] at s1
   have K5:=hide (K4.out.addBook (u:=.slice a1 (n + 1) c1) (q:=(m + 1)) (H:=x1.heap.size + 1) (by simp [HM.out]) (by simp [World.setCell]) (by simpa using ho) hg hlie)
   have B2 : Hid ((x2.setCell ⟨Bw,3,none⟩ (.slice p2 ((m + 1) + 1) d2)).ownsRow base 65 1 (.slice p2 ((m + 1) + 1) d2) ((m + 1) + 1) (us ++ [.slice la n lc] ++ [.slice a1 (n + 1) c1])):=by have:=K5.out.book;simp only [List.length_append,List.length_cons,List.length_nil,HM.out] at this;exact this
   have hx2 : x1.heap.size ≤ x2.heap.size:=by have:=hg.size;simp at this;omega
   have hbx2 : Bw < x2.heap.size:=by omega
   clear ho hg hlie
   go_wp2_with (at_builtin;refine wpList_app2 _ rfl _ _ 38 rfl base 65 ib _ 1 24 Tryz.underlying38 hib hb0 hb1 hb2 rfl (by decide) _ (m + 1 + 1) _ rfl (B2.out.alloc _) (.slice (some ⟨x2.heap.size,0,none⟩) 1 1) 1 [.slice a2 (n + 2) c2] rfl (srcA _ _ _ _ 0 _ (by simp) rfl 1 1 rfl) ?h1 ?h63 ?hbytes ?hbase ?_)
   case h1=>simp [Value.oneCell']
   case h63=>unfold maxLen;omega
   case hbytes=>omega
   case hbase=>simp;omega
   intro p3 d3 x3 ho hg _ hlie _
   obtain ⟨s0,s1⟩:=K5.out.store hg
   rw [HFZ.out] at s1
   have K6:=hide (K5.out.addBook (u:=.slice a2 (n + 2) c2) (q:=(m + 1 + 1)) (H:=x2.heap.size + 1) (by simp [HM.out]) (by simp [World.setCell]) (by simpa using ho) hg hlie)
   have B3 : Hid ((x3.setCell ⟨Bw,3,none⟩ (.slice p3 ((m + 1 + 1) + 1) d3)).ownsRow base 65 1 (.slice p3 ((m + 1 + 1) + 1) d3) ((m + 1 + 1) + 1) (us ++ [.slice la n lc] ++ [.slice a1 (n + 1) c1] ++ [.slice a2 (n + 2) c2])):=by have:=K6.out.book;simp only [List.length_append,List.length_cons,List.length_nil,HM.out] at this;exact this
   have hx3 : x2.heap.size ≤ x3.heap.size:=by have:=hg.size;simp at this;omega
   have hbx3 : Bw < x3.heap.size:=by omega
   clear ho hg hlie
   go_wp2_with (at_builtin;refine wpList_app2 _ rfl _ _ 38 rfl base 65 ib _ 1 24 Tryz.underlying38 hib hb0 hb1 hb2 rfl (by decide) _ (m + 1 + 1 + 1) _ rfl (B3.out.alloc _) (.slice (some ⟨x3.heap.size,0,none⟩) 1 1) 1 [.slice a3 (n + 3) c3] rfl (srcA _ _ _ _ 0 _ (by simp) rfl 1 1 rfl) ?h1 ?h63 ?hbytes ?hbase ?_)
   case h1=>simp [Value.oneCell']
   case h63=>unfold maxLen;omega
   case hbytes=>omega
   case hbase=>simp;omega
   intro p4 d4 x4 ho hg _ hlie _
   obtain ⟨s0,s1⟩:=K6.out.store hg
   rw [HFZ.out] at s1
   have K7:=hide (K6.out.addBook (u:=.slice a3 (n + 3) c3) (q:=(m + 1 + 1 + 1)) (H:=x3.heap.size + 1) (by simp [HM.out]) (by simp [World.setCell]) (by simpa using ho) hg hlie)
   have B4 : Hid ((x4.setCell ⟨Bw,3,none⟩ (.slice p4 ((m + 1 + 1 + 1) + 1) d4)).ownsRow base 65 1 (.slice p4 ((m + 1 + 1 + 1) + 1) d4) ((m + 1 + 1 + 1) + 1) (us ++ [.slice la n lc] ++ [.slice a1 (n + 1) c1] ++ [.slice a2 (n + 2) c2] ++ [.slice a3 (n + 3) c3])):=by have:=K7.out.book;simp only [List.length_append,List.length_cons,List.length_nil,HM.out] at this;exact this
   have hx4 : x3.heap.size ≤ x4.heap.size:=by have:=hg.size;simp at this;omega
   have hbx4 : Bw < x4.heap.size:=by omega
   clear ho hg hlie
   go_wp2
   go_end0
   refine ⟨.slice a1 (n + 1) c1,.slice a2 (n + 2) c2,.slice a3 (n + 3) c3,.slice p4 (m + 1 + 1 + 1 + 1) d4,rfl,?_⟩
   have hK:=K7.out
   rw [← HW0.out] at hK
   unfold evMk
   rw [HMK.out,HM.out]
   exact hK.weaken HWB.out
end Go.Proofs.YtkmakliebhnhbaaGreat
namespace Go.Proofs.YtkmakliebhnhbaaGreat
open Go.RowKit
def Clear (v : Value) (u : Value) : Prop:=∀ b,v.ownBlock = some b → u.ownBlock ≠ some b
theorem Clear.symm {v u : Value} (h : Clear v u) : Clear u v:=fun b hb hv=>h b hv hb
def vaMk (m : Nat) : List Value:=[.int .i64 (mkZ m),.bool false,.slice none 0 0]
structure Bk (W : World) (B Bw : Nat) (S : Nat → Prop) (pv rv nv ev vv : Value) (pu ru nu eu vu : List Value) : Prop where
 bw : B ≤ Bw
 lt : Bw < W.heap.size
 c0 : W.cell? ⟨Bw,0,none⟩ = some pv
 c1 : W.cell? ⟨Bw,1,none⟩ = some rv
 c2 : W.cell? ⟨Bw,2,none⟩ = some nv
 c3 : W.cell? ⟨Bw,3,none⟩ = some ev
 c4 : W.cell? ⟨Bw,4,none⟩ = some vv
 c5 : W.cell? ⟨Bw,5,none⟩ = some (.slice none 0 0)
 fz : ∀ j,W.frozen? ⟨Bw,j,none⟩ = false
 op : W.ownsRow B 48 1 pv pu.length pu
 or : W.ownsRow B 49 1 rv ru.length ru
 on : W.ownsRow B 87 1 nv nu.length nu
 oe : W.ownsRow B 65 1 ev eu.length eu
 ov : W.ownsRow B 64 1 vv vu.length vu
 bp : pv.ownBlock ≠ some Bw
 br : rv.ownBlock ≠ some Bw
 bn : nv.ownBlock ≠ some Bw
 be : ev.ownBlock ≠ some Bw
 bv : vv.ownBlock ≠ some Bw
 pr : Clear pv rv
 pn : Clear pv nv
 pe : Clear pv ev
 pvv : Clear pv vv
 rn : Clear rv nv
 re : Clear rv ev
 rvv : Clear rv vv
 ne : Clear nv ev
 nvv : Clear nv vv
 evv : Clear ev vv
 st : ∀ b,S b → b < W.heap.size ∧ b ≠ Bw ∧ pv.ownBlock ≠ some b ∧ rv.ownBlock ≠ some b ∧ nv.ownBlock ≠ some b ∧ ev.ownBlock ≠ some b ∧ vv.ownBlock ≠ some b
 n4 : nu.length % 4 = 0
 e4 : eu.length % 4 = 0
 v4 : vu.length % 4 = 0
 mn : ∀ i u,nu[i]? = some u → ∃ l,RdL S W 1 id u (List.replicate l [.int .i64 (mkZ i)])
 me : ∀ i u,eu[i]? = some u → ∃ l,RdL S W 3 id u (List.replicate l (evMk i))
 mv : ∀ i u,vu[i]? = some u → ∃ l,RdL S W 3 id u (List.replicate l (vaMk i))
theorem mkZ_div {m i : Nat} (h : m % 4 = 0) (h1 : m ≤ i) (h2 : i < m + 4) : mkZ i = mkZ m:=by
 unfold mkZ
 rw [show i / 4 = m / 4 by omega]
theorem repN_repC (mk : Int) (l : Nat) : repN mk l = repC [.int .i64 mk] l:=by
 induction l with
 | zero=>rfl
 | succ l ih=>simp only [repN,repC,List.replicate_succ,List.flatten_cons] at *;rw [ih];rfl
theorem own_marks {S : Nat → Prop} {W : World} {base : Nat} {e : TypeId} {v : Value} {l size : Nat} {cs : List Value} (h : W.ownsRow base e size v l (repC cs l)) (hc : cs.length = size) (hS : ∀ b,v.ownBlock = some b → S b) : RdL S W size id v (List.replicate l cs):=by
 have hf : flat id (List.replicate l cs) = repC cs l:=by simp [flat,repC,List.flatMap_id]
 rcases h.2 with ⟨rfl,h0⟩ | ⟨g,cap,cur,rfl,hb,hg,hn,hm,hcs,ht⟩
 ·exact ⟨none,0,by simp [h0],by simp [h0],by unfold maxLen;omega,.inl ⟨by simp [h0],fun _=>rfl⟩⟩
 ·refine ⟨_,cap,by simp,by simpa using hn,hm,.inr ⟨g,0,rfl,hS g rfl,fun k x hk j u hu=>?_⟩⟩
  have hkl:=(List.getElem?_eq_some_iff.1 hk).1
  have hx : x = cs:=by
   have:=(List.getElem?_eq_some_iff.1 hk).2
   simpa using this.symm
  subst hx
  have hj : j < size:=by have:=(List.getElem?_eq_some_iff.1 hu).1;simp only [id] at this;omega
  have hlt : k * size + j < l * size:=by
   have : (k + 1) * size ≤ l * size:=Nat.mul_le_mul_right _ (by simp at hkl;omega)
   rw [Nat.add_mul] at this;omega
  have hsp:=repC_add x k (l - k)
  rw [show k + (l - k) = l by simp at hkl;omega] at hsp
  rw [Nat.zero_add,World.ownsRow.cellAt h _ hlt,← hsp]
  rw [List.getElem?_append_right (by rw [repC_len,hc];omega),repC_len,hc,show k * size + j - k * size = j by omega]
  obtain ⟨d,hd⟩ : ∃ d,l - k = d + 1:=⟨l - k - 1,by simp at hkl;omega⟩
  rw [hd]
  simp only [repC,List.replicate_succ,List.flatten_cons]
  rw [List.getElem?_append_left (by omega)]
  exact hu
theorem rep_turn {S S' : Nat → Prop} {W W' : World} {size l : Nat} {cs : List Value} {u : Value} (hc : cs ≠ []) (h : RdL S W size id u (List.replicate l cs)) (hS : ∀ b,S b → b < W.heap.size → S' b ∧ W'.heap[b]? = W.heap[b]?) : RdL S' W' size id u (List.replicate l cs) :=
 h.turn hS (fun x hx=>by obtain ⟨_,rfl⟩:=List.mem_replicate.1 hx;exact hc)
theorem Bk.keepN {W W' : World} {B Bw n : Nat} {S : Nat → Prop} {pv rv nv ev vv nv' lv a b c : Value} {pu ru nu eu vu : List Value} (h : Bk W B Bw S pv rv nv ev vv pu ru nu eu vu)
  (K : KS W W' B Bw 2 2 87 1 (repN (mkZ nu.length)) lv nv [(c,n + 3),(b,n + 2),(a,n + 1),(lv,n)] nv' (nu ++ [lv] ++ [a] ++ [b] ++ [c]))
  (zp : Clear lv pv) (zr : Clear lv rv) (_zn : Clear lv nv) (ze : Clear lv ev) (zv : Clear lv vv) (hS : ∀ b,S b → lv.ownBlock ≠ some b) :
  Bk W' B Bw (fun k=>S k ∨ lv.ownBlock = some k ∨ a.ownBlock = some k ∨ b.ownBlock = some k ∨ c.ownBlock = some k) pv rv nv' ev vv pu ru (nu ++ [lv] ++ [a] ++ [b] ++ [c]) eu vu:=by
 have hlt:=K.frm.size
 have keep : ∀ (u : Value) (e : TypeId) (m : Nat) (xs : List Value),W.ownsRow B e 1 u m xs → u.ownBlock ≠ some Bw → Clear u nv → Clear lv u → W'.ownsRow B e 1 u m xs:=fun u e m xs ho h1 h2 h3 =>
  own_turn ho (fun k hk hkl=>K.frm.block k hkl (fun hh=>by
   rcases hh with hh | hh | hh
   ·exact h1 (hh ▸ hk)
   ·exact h2 k hk hh
   ·exact h3 k hh hk))
 have hst : ∀ k,S k → k < W.heap.size → (S k ∨ lv.ownBlock = some k ∨ a.ownBlock = some k ∨ b.ownBlock = some k ∨ c.ownBlock = some k) ∧ W'.heap[k]? = W.heap[k]?:=fun k hk hkl=>by
  obtain ⟨q0,q1,qp,qr,qn,qe,qv⟩:=h.st k hk
  refine ⟨.inl hk,K.frm.block k hkl (fun hh=>?_)⟩
  rcases hh with hh | hh | hh
  ·exact q1 hh
  ·exact qn hh
  ·exact hS k hk hh
 obtain ⟨lc1,lc2,lc3,lc4⟩:=K.lists (c,n + 3) (by simp)
 obtain ⟨lb1,lb2,lb3,lb4⟩:=K.lists (b,n + 2) (by simp)
 obtain ⟨la1,la2,la3,la4⟩:=K.lists (a,n + 1) (by simp)
 obtain ⟨ll1,ll2,ll3,ll4⟩:=K.lists (lv,n) (by simp)
 have newc : ∀ u : Value,u.ownBlock ≠ some Bw → Clear lv u → (∀ k,u.ownBlock = some k → k < W.heap.size) → ∀ x : Value,(x.ownBlock = lv.ownBlock ∨ ∃ b,x.ownBlock = some b ∧ W.heap.size ≤ b) → ∀ k,x.ownBlock = some k → u.ownBlock ≠ some k:=fun u _ h2 h3 x hx k hk hu=>by
  rcases hx with hx | ⟨b',hb',hle⟩
  ·exact h2 k (hx.symm.trans hk) hu
  ·rw [hb'] at hk;injection hk with hk;have:=h3 k hu;omega
 have xn : ∀ u : Value,u.ownBlock ≠ some Bw → Clear u nv → (∀ k,u.ownBlock = some k → k < W.heap.size) → Clear u nv':=fun u _ h2 h3 k hk hv=>by
  rcases K.nvb with hn | ⟨b',hb',hle⟩
  ·exact h2 k hk (hn.symm.trans hv)
  ·rw [hb'] at hv;injection hv with hv;have:=h3 k hk;omega
 have cell : ∀ j,j ≠ 2 → W'.cell? ⟨Bw,j,none⟩ = W.cell? ⟨Bw,j,none⟩:=K.oth
 have nul : (nu ++ [lv] ++ [a] ++ [b] ++ [c]).length = nu.length + 4:=by simp
 have plt : ∀ q,pv.ownBlock = some q → q < W.heap.size:=fun q hq=>(h.op.lt q hq).2
 have rlt : ∀ q,rv.ownBlock = some q → q < W.heap.size:=fun q hq=>(h.or.lt q hq).2
 have elt : ∀ q,ev.ownBlock = some q → q < W.heap.size:=fun q hq=>(h.oe.lt q hq).2
 have vlt : ∀ q,vv.ownBlock = some q → q < W.heap.size:=fun q hq=>(h.ov.lt q hq).2
 exact {
  bw:=h.bw
  lt:=Nat.lt_of_lt_of_le h.lt hlt
  c0:=(cell 0 (by omega)).trans h.c0
  c1:=(cell 1 (by omega)).trans h.c1
  c2:=K.fld
  c3:=(cell 3 (by omega)).trans h.c3
  c4:=(cell 4 (by omega)).trans h.c4
  c5:=(cell 5 (by omega)).trans h.c5
  fz:=fun j=>(K.fz j).trans (h.fz j)
  op:=keep _ _ _ _ h.op h.bp (h.pn) zp
  or:=keep _ _ _ _ h.or h.br (h.rn) zr
  on:=K.book
  oe:=keep _ _ _ _ h.oe h.be (h.ne.symm) ze
  ov:=keep _ _ _ _ h.ov h.bv (h.nvv.symm) zv
  bp:=h.bp
  br:=h.br
  bn:=K.bw
  be:=h.be
  bv:=h.bv
  pr:=h.pr
  pn:=xn _ h.bp (h.pn) plt
  pe:=h.pe
  pvv:=h.pvv
  rn:=xn _ h.br (h.rn) rlt
  re:=h.re
  rvv:=h.rvv
  ne:=(xn _ h.be (h.ne.symm) elt).symm
  nvv:=(xn _ h.bv (h.nvv.symm) vlt).symm
  evv:=h.evv
  st:=fun k hk=>by
   rcases hk with hk | hk | hk | hk | hk
   ·obtain ⟨q0,q1,qp,qr,qn,qe,qv⟩:=h.st k hk
    refine ⟨Nat.lt_of_lt_of_le q0 hlt,q1,qp,qr,fun hv=>?_,qe,qv⟩
    rcases K.nvb with hn | ⟨b',hb',hle⟩
    ·exact qn (hn.symm.trans hv)
    ·rw [hb'] at hv;injection hv with hv;omega
   ·exact ⟨(ll1.lt k hk).2,fun e=>ll3 (e ▸ hk),newc _ h.bp zp plt _ ll2 k hk,newc _ h.br zr rlt _ ll2 k hk,ll4 k hk,newc _ h.be ze elt _ ll2 k hk,newc _ h.bv zv vlt _ ll2 k hk⟩
   ·exact ⟨(la1.lt k hk).2,fun e=>la3 (e ▸ hk),newc _ h.bp zp plt _ la2 k hk,newc _ h.br zr rlt _ la2 k hk,la4 k hk,newc _ h.be ze elt _ la2 k hk,newc _ h.bv zv vlt _ la2 k hk⟩
   ·exact ⟨(lb1.lt k hk).2,fun e=>lb3 (e ▸ hk),newc _ h.bp zp plt _ lb2 k hk,newc _ h.br zr rlt _ lb2 k hk,lb4 k hk,newc _ h.be ze elt _ lb2 k hk,newc _ h.bv zv vlt _ lb2 k hk⟩
   ·exact ⟨(lc1.lt k hk).2,fun e=>lc3 (e ▸ hk),newc _ h.bp zp plt _ lc2 k hk,newc _ h.br zr rlt _ lc2 k hk,lc4 k hk,newc _ h.be ze elt _ lc2 k hk,newc _ h.bv zv vlt _ lc2 k hk⟩
  n4:=by rw [nul];have:=h.n4;omega
  e4:=h.e4
  v4:=h.v4
  mn:=fun i u hu=>by
   by_cases hi : i < nu.length
   ·rw [List.append_assoc,List.append_assoc,List.append_assoc,List.getElem?_append_left hi] at hu
    obtain ⟨l,hl⟩:=h.mn i u hu
    exact ⟨l,rep_turn (List.cons_ne_nil _ _) hl hst⟩
   ·have hi2:=(List.getElem?_eq_some_iff.1 hu).1
    rw [nul] at hi2
    have hmk:=mkZ_div h.n4 (show nu.length ≤ i by omega) hi2
    rw [List.append_assoc,List.append_assoc,List.append_assoc,List.getElem?_append_right (by omega)] at hu
    obtain ⟨d,hd⟩ : ∃ d,i - nu.length = d:=⟨_,rfl⟩
    rw [hd] at hu
    have hd4 : d < 4:=by omega
    rw [hmk]
    match d,hd4,hu with
    | 0,_,hu=>(simp at hu;subst hu;exact ⟨n,own_marks (by rw [← repN_repC];exact ll1) rfl (fun k hk=>.inr (.inl hk))⟩)
    | 1,_,hu=>(simp at hu;subst hu;exact ⟨n + 1,own_marks (by rw [← repN_repC];exact la1) rfl (fun k hk=>.inr (.inr (.inl hk)))⟩)
    | 2,_,hu=>(simp at hu;subst hu;exact ⟨n + 2,own_marks (by rw [← repN_repC];exact lb1) rfl (fun k hk=>.inr (.inr (.inr (.inl hk))))⟩)
    | 3,_,hu=>(simp at hu;subst hu;exact ⟨n + 3,own_marks (by rw [← repN_repC];exact lc1) rfl (fun k hk=>.inr (.inr (.inr (.inr hk))))⟩)
  me:=fun i u hu=>by
   obtain ⟨l,hl⟩:=h.me i u hu
   exact ⟨l,rep_turn (List.cons_ne_nil _ _) hl hst⟩
  mv:=fun i u hu=>by
   obtain ⟨l,hl⟩:=h.mv i u hu
   exact ⟨l,rep_turn (List.cons_ne_nil _ _) hl hst⟩
 }
theorem Bk.keepE {W W' : World} {B Bw n : Nat} {S : Nat → Prop} {pv rv nv ev vv ev' lv a b c : Value} {pu ru nu eu vu : List Value} (h : Bk W B Bw S pv rv nv ev vv pu ru nu eu vu)
  (K : KS W W' B Bw 3 89 65 3 (repC (evMk eu.length)) lv ev [(c,n + 3),(b,n + 2),(a,n + 1),(lv,n)] ev' (eu ++ [lv] ++ [a] ++ [b] ++ [c]))
  (zp : Clear lv pv) (zr : Clear lv rv) (zn : Clear lv nv) (_ze : Clear lv ev) (zv : Clear lv vv) (hS : ∀ b,S b → lv.ownBlock ≠ some b) :
  Bk W' B Bw (fun k=>S k ∨ lv.ownBlock = some k ∨ a.ownBlock = some k ∨ b.ownBlock = some k ∨ c.ownBlock = some k) pv rv nv ev' vv pu ru nu (eu ++ [lv] ++ [a] ++ [b] ++ [c]) vu:=by
 have hlt:=K.frm.size
 have keep : ∀ (u : Value) (e : TypeId) (m : Nat) (xs : List Value),W.ownsRow B e 1 u m xs → u.ownBlock ≠ some Bw → Clear u ev → Clear lv u → W'.ownsRow B e 1 u m xs:=fun u e m xs ho h1 h2 h3 =>
  own_turn ho (fun k hk hkl=>K.frm.block k hkl (fun hh=>by
   rcases hh with hh | hh | hh
   ·exact h1 (hh ▸ hk)
   ·exact h2 k hk hh
   ·exact h3 k hh hk))
 have hst : ∀ k,S k → k < W.heap.size → (S k ∨ lv.ownBlock = some k ∨ a.ownBlock = some k ∨ b.ownBlock = some k ∨ c.ownBlock = some k) ∧ W'.heap[k]? = W.heap[k]?:=fun k hk hkl=>by
  obtain ⟨q0,q1,qp,qr,qn,qe,qv⟩:=h.st k hk
  refine ⟨.inl hk,K.frm.block k hkl (fun hh=>?_)⟩
  rcases hh with hh | hh | hh
  ·exact q1 hh
  ·exact qe hh
  ·exact hS k hk hh
 obtain ⟨lc1,lc2,lc3,lc4⟩:=K.lists (c,n + 3) (by simp)
 obtain ⟨lb1,lb2,lb3,lb4⟩:=K.lists (b,n + 2) (by simp)
 obtain ⟨la1,la2,la3,la4⟩:=K.lists (a,n + 1) (by simp)
 obtain ⟨ll1,ll2,ll3,ll4⟩:=K.lists (lv,n) (by simp)
 have newc : ∀ u : Value,u.ownBlock ≠ some Bw → Clear lv u → (∀ k,u.ownBlock = some k → k < W.heap.size) → ∀ x : Value,(x.ownBlock = lv.ownBlock ∨ ∃ b,x.ownBlock = some b ∧ W.heap.size ≤ b) → ∀ k,x.ownBlock = some k → u.ownBlock ≠ some k:=fun u _ h2 h3 x hx k hk hu=>by
  rcases hx with hx | ⟨b',hb',hle⟩
  ·exact h2 k (hx.symm.trans hk) hu
  ·rw [hb'] at hk;injection hk with hk;have:=h3 k hu;omega
 have xn : ∀ u : Value,u.ownBlock ≠ some Bw → Clear u ev → (∀ k,u.ownBlock = some k → k < W.heap.size) → Clear u ev':=fun u _ h2 h3 k hk hv=>by
  rcases K.nvb with hn | ⟨b',hb',hle⟩
  ·exact h2 k hk (hn.symm.trans hv)
  ·rw [hb'] at hv;injection hv with hv;have:=h3 k hk;omega
 have cell : ∀ j,j ≠ 3 → W'.cell? ⟨Bw,j,none⟩ = W.cell? ⟨Bw,j,none⟩:=K.oth
 have eul : (eu ++ [lv] ++ [a] ++ [b] ++ [c]).length = eu.length + 4:=by simp
 have plt : ∀ q,pv.ownBlock = some q → q < W.heap.size:=fun q hq=>(h.op.lt q hq).2
 have rlt : ∀ q,rv.ownBlock = some q → q < W.heap.size:=fun q hq=>(h.or.lt q hq).2
 have nlt : ∀ q,nv.ownBlock = some q → q < W.heap.size:=fun q hq=>(h.on.lt q hq).2
 have vlt : ∀ q,vv.ownBlock = some q → q < W.heap.size:=fun q hq=>(h.ov.lt q hq).2
 exact {
  bw:=h.bw
  lt:=Nat.lt_of_lt_of_le h.lt hlt
  c0:=(cell 0 (by omega)).trans h.c0
  c1:=(cell 1 (by omega)).trans h.c1
  c2:=(cell 2 (by omega)).trans h.c2
  c3:=K.fld
  c4:=(cell 4 (by omega)).trans h.c4
  c5:=(cell 5 (by omega)).trans h.c5
  fz:=fun j=>(K.fz j).trans (h.fz j)
  op:=keep _ _ _ _ h.op h.bp (h.pe) zp
  or:=keep _ _ _ _ h.or h.br (h.re) zr
  on:=keep _ _ _ _ h.on h.bn (h.ne) zn
  oe:=K.book
  ov:=keep _ _ _ _ h.ov h.bv (h.evv.symm) zv
  bp:=h.bp
  br:=h.br
  bn:=h.bn
  be:=K.bw
  bv:=h.bv
  pr:=h.pr
  pn:=h.pn
  pe:=xn _ h.bp (h.pe) plt
  pvv:=h.pvv
  rn:=h.rn
  re:=xn _ h.br (h.re) rlt
  rvv:=h.rvv
  ne:=xn _ h.bn (h.ne) nlt
  nvv:=h.nvv
  evv:=(xn _ h.bv (h.evv.symm) vlt).symm
  st:=fun k hk=>by
   rcases hk with hk | hk | hk | hk | hk
   ·obtain ⟨q0,q1,qp,qr,qn,qe,qv⟩:=h.st k hk
    refine ⟨Nat.lt_of_lt_of_le q0 hlt,q1,qp,qr,qn,fun hv=>?_,qv⟩
    rcases K.nvb with hn | ⟨b',hb',hle⟩
    ·exact qe (hn.symm.trans hv)
    ·rw [hb'] at hv;injection hv with hv;omega
   ·exact ⟨(ll1.lt k hk).2,fun e=>ll3 (e ▸ hk),newc _ h.bp zp plt _ ll2 k hk,newc _ h.br zr rlt _ ll2 k hk,newc _ h.bn zn nlt _ ll2 k hk,ll4 k hk,newc _ h.bv zv vlt _ ll2 k hk⟩
   ·exact ⟨(la1.lt k hk).2,fun e=>la3 (e ▸ hk),newc _ h.bp zp plt _ la2 k hk,newc _ h.br zr rlt _ la2 k hk,newc _ h.bn zn nlt _ la2 k hk,la4 k hk,newc _ h.bv zv vlt _ la2 k hk⟩
   ·exact ⟨(lb1.lt k hk).2,fun e=>lb3 (e ▸ hk),newc _ h.bp zp plt _ lb2 k hk,newc _ h.br zr rlt _ lb2 k hk,newc _ h.bn zn nlt _ lb2 k hk,lb4 k hk,newc _ h.bv zv vlt _ lb2 k hk⟩
   ·exact ⟨(lc1.lt k hk).2,fun e=>lc3 (e ▸ hk),newc _ h.bp zp plt _ lc2 k hk,newc _ h.br zr rlt _ lc2 k hk,newc _ h.bn zn nlt _ lc2 k hk,lc4 k hk,newc _ h.bv zv vlt _ lc2 k hk⟩
  n4:=h.n4
  e4:=by rw [eul];have:=h.e4;omega
  v4:=h.v4
  mn:=fun i u hu=>by
   obtain ⟨l,hl⟩:=h.mn i u hu
   exact ⟨l,rep_turn (List.cons_ne_nil _ _) hl hst⟩
  me:=fun i u hu=>by
   by_cases hi : i < eu.length
   ·rw [List.append_assoc,List.append_assoc,List.append_assoc,List.getElem?_append_left hi] at hu
    obtain ⟨l,hl⟩:=h.me i u hu
    exact ⟨l,rep_turn (List.cons_ne_nil _ _) hl hst⟩
   ·have hi2:=(List.getElem?_eq_some_iff.1 hu).1
    rw [eul] at hi2
    have hmk:=mkZ_div h.e4 (show eu.length ≤ i by omega) hi2
    rw [List.append_assoc,List.append_assoc,List.append_assoc,List.getElem?_append_right (by omega)] at hu
    obtain ⟨d,hd⟩ : ∃ d,i - eu.length = d:=⟨_,rfl⟩
    rw [hd] at hu
    have hd4 : d < 4:=by omega
    unfold evMk;rw [hmk]
    match d,hd4,hu with
    | 0,_,hu=>(simp at hu;subst hu;exact ⟨n,own_marks ll1 rfl (fun k hk=>.inr (.inl hk))⟩)
    | 1,_,hu=>(simp at hu;subst hu;exact ⟨n + 1,own_marks la1 rfl (fun k hk=>.inr (.inr (.inl hk)))⟩)
    | 2,_,hu=>(simp at hu;subst hu;exact ⟨n + 2,own_marks lb1 rfl (fun k hk=>.inr (.inr (.inr (.inl hk))))⟩)
    | 3,_,hu=>(simp at hu;subst hu;exact ⟨n + 3,own_marks lc1 rfl (fun k hk=>.inr (.inr (.inr (.inr hk))))⟩)
  mv:=fun i u hu=>by
   obtain ⟨l,hl⟩:=h.mv i u hu
   exact ⟨l,rep_turn (List.cons_ne_nil _ _) hl hst⟩
 }
theorem Bk.keepV {W W' : World} {B Bw n : Nat} {S : Nat → Prop} {pv rv nv ev vv vv' lv a b c : Value} {pu ru nu eu vu : List Value} (h : Bk W B Bw S pv rv nv ev vv pu ru nu eu vu)
  (K : KS W W' B Bw 4 91 64 3 (repC (vaMk vu.length)) lv vv [(c,n + 3),(b,n + 2),(a,n + 1),(lv,n)] vv' (vu ++ [lv] ++ [a] ++ [b] ++ [c]))
  (zp : Clear lv pv) (zr : Clear lv rv) (zn : Clear lv nv) (ze : Clear lv ev) (_zv : Clear lv vv) (hS : ∀ b,S b → lv.ownBlock ≠ some b) :
  Bk W' B Bw (fun k=>S k ∨ lv.ownBlock = some k ∨ a.ownBlock = some k ∨ b.ownBlock = some k ∨ c.ownBlock = some k) pv rv nv ev vv' pu ru nu eu (vu ++ [lv] ++ [a] ++ [b] ++ [c]):=by
 have hlt:=K.frm.size
 have keep : ∀ (u : Value) (e : TypeId) (m : Nat) (xs : List Value),W.ownsRow B e 1 u m xs → u.ownBlock ≠ some Bw → Clear u vv → Clear lv u → W'.ownsRow B e 1 u m xs:=fun u e m xs ho h1 h2 h3 =>
  own_turn ho (fun k hk hkl=>K.frm.block k hkl (fun hh=>by
   rcases hh with hh | hh | hh
   ·exact h1 (hh ▸ hk)
   ·exact h2 k hk hh
   ·exact h3 k hh hk))
 have hst : ∀ k,S k → k < W.heap.size → (S k ∨ lv.ownBlock = some k ∨ a.ownBlock = some k ∨ b.ownBlock = some k ∨ c.ownBlock = some k) ∧ W'.heap[k]? = W.heap[k]?:=fun k hk hkl=>by
  obtain ⟨q0,q1,qp,qr,qn,qe,qv⟩:=h.st k hk
  refine ⟨.inl hk,K.frm.block k hkl (fun hh=>?_)⟩
  rcases hh with hh | hh | hh
  ·exact q1 hh
  ·exact qv hh
  ·exact hS k hk hh
 obtain ⟨lc1,lc2,lc3,lc4⟩:=K.lists (c,n + 3) (by simp)
 obtain ⟨lb1,lb2,lb3,lb4⟩:=K.lists (b,n + 2) (by simp)
 obtain ⟨la1,la2,la3,la4⟩:=K.lists (a,n + 1) (by simp)
 obtain ⟨ll1,ll2,ll3,ll4⟩:=K.lists (lv,n) (by simp)
 have newc : ∀ u : Value,u.ownBlock ≠ some Bw → Clear lv u → (∀ k,u.ownBlock = some k → k < W.heap.size) → ∀ x : Value,(x.ownBlock = lv.ownBlock ∨ ∃ b,x.ownBlock = some b ∧ W.heap.size ≤ b) → ∀ k,x.ownBlock = some k → u.ownBlock ≠ some k:=fun u _ h2 h3 x hx k hk hu=>by
  rcases hx with hx | ⟨b',hb',hle⟩
  ·exact h2 k (hx.symm.trans hk) hu
  ·rw [hb'] at hk;injection hk with hk;have:=h3 k hu;omega
 have xn : ∀ u : Value,u.ownBlock ≠ some Bw → Clear u vv → (∀ k,u.ownBlock = some k → k < W.heap.size) → Clear u vv':=fun u _ h2 h3 k hk hv=>by
  rcases K.nvb with hn | ⟨b',hb',hle⟩
  ·exact h2 k hk (hn.symm.trans hv)
  ·rw [hb'] at hv;injection hv with hv;have:=h3 k hk;omega
 have cell : ∀ j,j ≠ 4 → W'.cell? ⟨Bw,j,none⟩ = W.cell? ⟨Bw,j,none⟩:=K.oth
 have vul : (vu ++ [lv] ++ [a] ++ [b] ++ [c]).length = vu.length + 4:=by simp
 have plt : ∀ q,pv.ownBlock = some q → q < W.heap.size:=fun q hq=>(h.op.lt q hq).2
 have rlt : ∀ q,rv.ownBlock = some q → q < W.heap.size:=fun q hq=>(h.or.lt q hq).2
 have nlt : ∀ q,nv.ownBlock = some q → q < W.heap.size:=fun q hq=>(h.on.lt q hq).2
 have elt : ∀ q,ev.ownBlock = some q → q < W.heap.size:=fun q hq=>(h.oe.lt q hq).2
 exact {
  bw:=h.bw
  lt:=Nat.lt_of_lt_of_le h.lt hlt
  c0:=(cell 0 (by omega)).trans h.c0
  c1:=(cell 1 (by omega)).trans h.c1
  c2:=(cell 2 (by omega)).trans h.c2
  c3:=(cell 3 (by omega)).trans h.c3
  c4:=K.fld
  c5:=(cell 5 (by omega)).trans h.c5
  fz:=fun j=>(K.fz j).trans (h.fz j)
  op:=keep _ _ _ _ h.op h.bp (h.pvv) zp
  or:=keep _ _ _ _ h.or h.br (h.rvv) zr
  on:=keep _ _ _ _ h.on h.bn (h.nvv) zn
  oe:=keep _ _ _ _ h.oe h.be (h.evv) ze
  ov:=K.book
  bp:=h.bp
  br:=h.br
  bn:=h.bn
  be:=h.be
  bv:=K.bw
  pr:=h.pr
  pn:=h.pn
  pe:=h.pe
  pvv:=xn _ h.bp (h.pvv) plt
  rn:=h.rn
  re:=h.re
  rvv:=xn _ h.br (h.rvv) rlt
  ne:=h.ne
  nvv:=xn _ h.bn (h.nvv) nlt
  evv:=xn _ h.be (h.evv) elt
  st:=fun k hk=>by
   rcases hk with hk | hk | hk | hk | hk
   ·obtain ⟨q0,q1,qp,qr,qn,qe,qv⟩:=h.st k hk
    refine ⟨Nat.lt_of_lt_of_le q0 hlt,q1,qp,qr,qn,qe,fun hv=>?_⟩
    rcases K.nvb with hn | ⟨b',hb',hle⟩
    ·exact qv (hn.symm.trans hv)
    ·rw [hb'] at hv;injection hv with hv;omega
   ·exact ⟨(ll1.lt k hk).2,fun e=>ll3 (e ▸ hk),newc _ h.bp zp plt _ ll2 k hk,newc _ h.br zr rlt _ ll2 k hk,newc _ h.bn zn nlt _ ll2 k hk,newc _ h.be ze elt _ ll2 k hk,ll4 k hk⟩
   ·exact ⟨(la1.lt k hk).2,fun e=>la3 (e ▸ hk),newc _ h.bp zp plt _ la2 k hk,newc _ h.br zr rlt _ la2 k hk,newc _ h.bn zn nlt _ la2 k hk,newc _ h.be ze elt _ la2 k hk,la4 k hk⟩
   ·exact ⟨(lb1.lt k hk).2,fun e=>lb3 (e ▸ hk),newc _ h.bp zp plt _ lb2 k hk,newc _ h.br zr rlt _ lb2 k hk,newc _ h.bn zn nlt _ lb2 k hk,newc _ h.be ze elt _ lb2 k hk,lb4 k hk⟩
   ·exact ⟨(lc1.lt k hk).2,fun e=>lc3 (e ▸ hk),newc _ h.bp zp plt _ lc2 k hk,newc _ h.br zr rlt _ lc2 k hk,newc _ h.bn zn nlt _ lc2 k hk,newc _ h.be ze elt _ lc2 k hk,lc4 k hk⟩
  n4:=h.n4
  e4:=h.e4
  v4:=by rw [vul];have:=h.v4;omega
  mn:=fun i u hu=>by
   obtain ⟨l,hl⟩:=h.mn i u hu
   exact ⟨l,rep_turn (List.cons_ne_nil _ _) hl hst⟩
  me:=fun i u hu=>by
   obtain ⟨l,hl⟩:=h.me i u hu
   exact ⟨l,rep_turn (List.cons_ne_nil _ _) hl hst⟩
  mv:=fun i u hu=>by
   by_cases hi : i < vu.length
   ·rw [List.append_assoc,List.append_assoc,List.append_assoc,List.getElem?_append_left hi] at hu
    obtain ⟨l,hl⟩:=h.mv i u hu
    exact ⟨l,rep_turn (List.cons_ne_nil _ _) hl hst⟩
   ·have hi2:=(List.getElem?_eq_some_iff.1 hu).1
    rw [vul] at hi2
    have hmk:=mkZ_div h.v4 (show vu.length ≤ i by omega) hi2
    rw [List.append_assoc,List.append_assoc,List.append_assoc,List.getElem?_append_right (by omega)] at hu
    obtain ⟨d,hd⟩ : ∃ d,i - vu.length = d:=⟨_,rfl⟩
    rw [hd] at hu
    have hd4 : d < 4:=by omega
    unfold vaMk;rw [hmk]
    match d,hd4,hu with
    | 0,_,hu=>(simp at hu;subst hu;exact ⟨n,own_marks ll1 rfl (fun k hk=>.inr (.inl hk))⟩)
    | 1,_,hu=>(simp at hu;subst hu;exact ⟨n + 1,own_marks la1 rfl (fun k hk=>.inr (.inr (.inl hk)))⟩)
    | 2,_,hu=>(simp at hu;subst hu;exact ⟨n + 2,own_marks lb1 rfl (fun k hk=>.inr (.inr (.inr (.inl hk))))⟩)
    | 3,_,hu=>(simp at hu;subst hu;exact ⟨n + 3,own_marks lc1 rfl (fun k hk=>.inr (.inr (.inr (.inr hk))))⟩)
 }
end Go.Proofs.YtkmakliebhnhbaaGreat
namespace Go.Proofs.YtkmakliebhnhbaaGreat
open Go.RowKit
theorem Tryz.infoLV : (Tryz.prog.info? 64).map (fun i=>(i.zero,i.size,i.bytes)) = some (some (.slice none 0 0),1,24):=by kernel_rfl
theorem Tryz.infoV' : (Tryz.prog.info? 91).map (fun i=>(i.zero,i.size,i.bytes)) = some (some (.agg #[.int .i64 0,.bool false,.slice none 0 0]),3,40):=by kernel_rfl
structure OwnV (W : World) (base : Nat) (lv : Value) (n : Nat) (V : Nat → Val) (LV : Nat → Value) (xs : List Value) : Prop where
 row : W.ownsRow base 91 3 lv n xs
 n0 : ∀ r,r < n → xs[r * 3]? = some (.int .i64 (V r).n)
 n1 : ∀ r,r < n → xs[r * 3 + 1]? = some (.bool (V r).is)
 n2 : ∀ r,r < n → xs[r * 3 + 2]? = some (LV r)
 own : ∀ r,r < n → W.ownsRow base 2 1 (LV r) (V r).l.length (ints (V r).l)
 off : ∀ r,r < n → Clear (LV r) lv
 apart : ∀ r s,r < n → s < n → r ≠ s → Clear (LV r) (LV s)
structure KV (w wr : World) (base Bw : Nat) (S S' : Nat → Prop) (pv rv nv nv' ev vv : Value) (pu ru nu nu' eu vu : List Value) (LV : Nat → Value) (i : Nat) : Prop where
 bk : Bk wr base Bw S' pv rv nv' ev vv pu ru nu' eu vu
 frm : Frm (fun k=>k = Bw ∨ nv.ownBlock = some k ∨ ∃ r,r < i ∧ (LV r).ownBlock = some k) w wr
 sub : ∀ b,S b → S' b
 sup : ∀ b,S' b → S b ∨ (∃ r,r < i ∧ (LV r).ownBlock = some b) ∨ w.heap.size ≤ b
 len : nu'.length = nu.length + 4 * i
 nvb : nv'.ownBlock = nv.ownBlock ∨ ∃ b,nv'.ownBlock = some b ∧ w.heap.size ≤ b
theorem KV.next {w wr w2 : World} {base Bw n : Nat} {S S' : Nat → Prop} {pv rv nv nv' nv2 ev vv a b c : Value} {pu ru nu nu' eu vu : List Value} {LV : Nat → Value} {i : Nat}
  (h : KV w wr base Bw S S' pv rv nv nv' ev vv pu ru nu nu' eu vu LV i) (K : KS wr w2 base Bw 2 2 87 1 (repN (mkZ nu'.length)) (LV i) nv' [(c,n + 3),(b,n + 2),(a,n + 1),(LV i,n)] nv2 (nu' ++ [LV i] ++ [a] ++ [b] ++ [c]))
  (hlt : ∀ k,(LV i).ownBlock = some k → k < w.heap.size) (zp : Clear (LV i) pv) (zr : Clear (LV i) rv) (zn : Clear (LV i) nv') (ze : Clear (LV i) ev) (zv : Clear (LV i) vv) (hS : ∀ b,S b → (LV i).ownBlock ≠ some b) (hap : ∀ r,r < i → Clear (LV i) (LV r)) :
  ∃ S2,KV w w2 base Bw S S2 pv rv nv nv2 ev vv pu ru nu (nu' ++ [LV i] ++ [a] ++ [b] ++ [c]) eu vu LV (i + 1):=by
 have hS' : ∀ b,S' b → (LV i).ownBlock ≠ some b:=fun b hb hl=>by
  rcases h.sup b hb with h1 | ⟨r,hr,h1⟩ | h1
  ·exact hS b h1 hl
  ·exact hap r hr b hl h1
  ·have:=hlt b hl;omega
 have hnew : ∀ x : Value,(x.ownBlock = (LV i).ownBlock ∨ ∃ b,x.ownBlock = some b ∧ wr.heap.size ≤ b) → ∀ k,x.ownBlock = some k → S k ∨ (∃ r,r < i + 1 ∧ (LV r).ownBlock = some k) ∨ w.heap.size ≤ k:=fun x hx k hk=>by
  rcases hx with hx | ⟨b',hb',hle⟩
  ·exact .inr (.inl ⟨i,by omega,hx.symm.trans hk⟩)
  ·rw [hb'] at hk;injection hk with hk;have:=h.frm.size;exact .inr (.inr (by omega))
 refine ⟨_,h.bk.keepN K zp zr zn ze zv hS',?_,fun b hb=>.inl (h.sub b hb),?_,?_,?_⟩
 ·refine (h.frm.mono (fun k _ hk=>?_)).trans K.frm (fun k hk hk2=>?_)
  ·rcases hk with hk | hk | ⟨r,hr,hk⟩
   ·exact .inl hk
   ·exact .inr (.inl hk)
   ·exact .inr (.inr ⟨r,by omega,hk⟩)
  ·rcases hk2 with hk2 | hk2 | hk2
   ·exact .inl hk2
   ·rcases h.nvb with h1 | ⟨b',hb',hle⟩
    ·exact .inr (.inl (h1.symm.trans hk2))
    ·rw [hb'] at hk2;injection hk2 with hk2;omega
   ·exact .inr (.inr ⟨i,by omega,hk2⟩)
 ·intro k hk
  rcases hk with hk | hk | hk | hk | hk
  ·rcases h.sup k hk with h1 | ⟨r,hr,h1⟩ | h1
   ·exact .inl h1
   ·exact .inr (.inl ⟨r,by omega,h1⟩)
   ·exact .inr (.inr h1)
  ·exact .inr (.inl ⟨i,by omega,hk⟩)
  ·exact hnew _ (K.lists (a,n + 1) (by simp)).2.1 k hk
  ·exact hnew _ (K.lists (b,n + 2) (by simp)).2.1 k hk
  ·exact hnew _ (K.lists (c,n + 3) (by simp)).2.1 k hk
 ·simp [h.len];omega
 ·rcases K.nvb with h1 | ⟨b',hb',hle⟩
  ·rcases h.nvb with h2 | ⟨b2,hb2,hle2⟩
   ·exact .inl (h1.trans h2)
   ·exact .inr ⟨b2,h1.trans hb2,hle2⟩
  ·exact .inr ⟨b',hb',by have:=h.frm.size;omega⟩
theorem KV.finish {w wr w2 : World} {base Bw n q : Nat} {S S' : Nat → Prop} {pv rv nv nv' ev vv vv2 lv a b c : Value} {pu ru nu nu' eu us : List Value} {LV : Nat → Value}
  (h : KV w wr base Bw S S' pv rv nv nv' ev vv pu ru nu nu' eu us LV n) (K : KS wr w2 base Bw 4 91 64 3 (repC (vaMk us.length)) lv vv [(c,q + 3),(b,q + 2),(a,q + 1),(lv,q)] vv2 (us ++ [lv] ++ [a] ++ [b] ++ [c]))
  (hlt : ∀ k,lv.ownBlock = some k → k < w.heap.size) (zp : Clear lv pv) (zr : Clear lv rv) (zn : Clear lv nv) (ze : Clear lv ev) (zv : Clear lv vv) (hS : ∀ b,S b → lv.ownBlock ≠ some b) (hap : ∀ r,r < n → Clear (LV r) lv) :
  ∃ S2 nv2 vv2 nu2 vu2,Bk w2 base Bw S2 pv rv nv2 ev vv2 pu ru nu2 eu vu2 ∧
   Frm (fun k=>k = Bw ∨ nv.ownBlock = some k ∨ vv.ownBlock = some k ∨ lv.ownBlock = some k ∨ ∃ r,r < n ∧ (LV r).ownBlock = some k) w w2 ∧ (∀ b,S b → S2 b) ∧
   (∀ b,S2 b → S b ∨ lv.ownBlock = some b ∨ (∃ r,r < n ∧ (LV r).ownBlock = some b) ∨ w.heap.size ≤ b) ∧ nu2.length = nu.length + 4 * n ∧ vu2.length = us.length + 4 ∧
   (nv2.ownBlock = nv.ownBlock ∨ ∃ b,nv2.ownBlock = some b ∧ w.heap.size ≤ b) ∧ (vv2.ownBlock = vv.ownBlock ∨ ∃ b,vv2.ownBlock = some b ∧ w.heap.size ≤ b):=by
 have zn2 : Clear lv nv':=fun k hk hv=>by
  rcases h.nvb with h1 | ⟨b',h1,hle⟩
  ·exact zn k hk (h1.symm.trans hv)
  ·rw [h1] at hv;injection hv with hv;have:=hlt k hk;omega
 have hS2 : ∀ k,S' k → lv.ownBlock ≠ some k:=fun k hk hl=>by
  rcases h.sup k hk with h1 | ⟨r,hr,h1⟩ | h1
  ·exact hS k h1 hl
  ·exact hap r hr k h1 hl
  ·have:=hlt k hl;omega
 have hnew : ∀ x : Value,(x.ownBlock = lv.ownBlock ∨ ∃ b,x.ownBlock = some b ∧ wr.heap.size ≤ b) → ∀ k,x.ownBlock = some k → S k ∨ lv.ownBlock = some k ∨ (∃ r,r < n ∧ (LV r).ownBlock = some k) ∨ w.heap.size ≤ k:=fun x hx k hk=>by
  rcases hx with hx | ⟨b',hb',hle⟩
  ·exact .inr (.inl (hx.symm.trans hk))
  ·rw [hb'] at hk;injection hk with hk;have:=h.frm.size;exact .inr (.inr (.inr (by omega)))
 refine ⟨_,nv',vv2,nu',_,h.bk.keepV K zp zr zn2 ze zv hS2,?_,fun b hb=>.inl (h.sub b hb),?_,h.len,by simp,h.nvb,?_⟩
 ·refine (h.frm.mono (fun k _ hk=>?_)).trans K.frm (fun k hk hk2=>?_)
  ·rcases hk with hk | hk | hk
   ·exact .inl hk
   ·exact .inr (.inl hk)
   ·exact .inr (.inr (.inr (.inr hk)))
  ·rcases hk2 with hk2 | hk2 | hk2
   ·exact .inl hk2
   ·exact .inr (.inr (.inl hk2))
   ·exact .inr (.inr (.inr (.inl hk2)))
 ·intro k hk
  rcases hk with hk | hk | hk | hk | hk
  ·rcases h.sup k hk with h1 | h1 | h1
   ·exact .inl h1
   ·exact .inr (.inr (.inl h1))
   ·exact .inr (.inr (.inr h1))
  ·exact .inr (.inl hk)
  ·exact hnew _ (K.lists (a,q + 1) (by simp)).2.1 k hk
  ·exact hnew _ (K.lists (b,q + 2) (by simp)).2.1 k hk
  ·exact hnew _ (K.lists (c,q + 3) (by simp)).2.1 k hk
 ·rcases K.nvb with h1 | ⟨b',hb',hle⟩
  ·exact .inl h1
  ·exact .inr ⟨b',hb',by have:=h.frm.size;omega⟩
set_option maxRecDepth 100000 in
set_option maxHeartbeats 3000000 in
theorem keepValues_any (base Bw n : Nat) (S : Nat → Prop) (lv pv rv nv ev vv : Value) (pu ru nu eu us xs : List Value) (V : Nat → Val) (LV : Nat → Value) (w : World) (hn : n ≤ 4) (hnu : nu.length ≤ 100000000) (hm : us.length ≤ 200000000) (hbase : base ≤ w.heap.size) (hll : ∀ r,r < n → (V r).l.length ≤ 200000000)
  (hBk : Bk w base Bw S pv rv nv ev vv pu ru nu eu us) (hO : OwnV w base lv n V LV xs) (hlb : lv.ownBlock ≠ some Bw)
  (zp : Clear lv pv) (zr : Clear lv rv) (zn : Clear lv nv) (ze : Clear lv ev) (zv : Clear lv vv) (hS : ∀ b,S b → lv.ownBlock ≠ some b)
  (hb' : ∀ r,r < n → (LV r).ownBlock ≠ some Bw) (zp' : ∀ r,r < n → Clear (LV r) pv) (zr' : ∀ r,r < n → Clear (LV r) rv) (zn' : ∀ r,r < n → Clear (LV r) nv) (ze' : ∀ r,r < n → Clear (LV r) ev) (zv' : ∀ r,r < n → Clear (LV r) vv) (hS' : ∀ r,r < n → ∀ b,S b → (LV r).ownBlock ≠ some b) :
  Calls Tryz.prog 39 #[.pointer (some ⟨Bw,0,none⟩),lv] w fun e w'=>∃ S2 nv2 vv2 nu2 vu2,e = .returned (.tuple #[]) ∧ Bk w' base Bw S2 pv rv nv2 ev vv2 pu ru nu2 eu vu2 ∧
   Frm (fun k=>k = Bw ∨ nv.ownBlock = some k ∨ vv.ownBlock = some k ∨ lv.ownBlock = some k ∨ ∃ r,r < n ∧ (LV r).ownBlock = some k) w w' ∧ (∀ b,S b → S2 b) ∧
   (∀ b,S2 b → S b ∨ lv.ownBlock = some b ∨ (∃ r,r < n ∧ (LV r).ownBlock = some b) ∨ w.heap.size ≤ b) ∧ nu2.length = nu.length + 4 * n ∧ vu2.length = us.length + 4 ∧
   (nv2.ownBlock = nv.ownBlock ∨ ∃ b,nv2.ownBlock = some b ∧ w.heap.size ≤ b) ∧ (vv2.ownBlock = vv.ownBlock ∨ ∃ b,vv2.ownBlock = some b ∧ w.heap.size ≤ b):=by
 obtain ⟨la,lc,rfl⟩:=own_form hO.row
 have HK:=hide (⟨hBk,Frm.refl _ _,fun _ h=>h,fun _ h=>.inl h,by simp,.inl rfl⟩ : KV w w base Bw S S pv rv nv nv ev vv pu ru nu nu eu us LV 0)
 have HBk:=hide hBk
 have HO:=hide hO
 have Hlb:=hide hlb
 have Hzp:=hide zp
 have Hzr:=hide zr
 have Hzn:=hide zn
 have Hze:=hide ze
 have Hzv:=hide zv
 have HS:=hide hS
 have Hb':=hide hb'
 have Hzp':=hide zp'
 have Hzr':=hide zr'
 have Hzn':=hide zn'
 have Hze':=hide ze'
 have Hzv':=hide zv'
 have HS':=hide hS'
 have Hll:=hide hll
 clear hBk hO hlb zp zr zn ze zv hS hb' zp' zr' zn' ze' zv' hS' hll
 go_enter Tryz.func39,Tryz.ntmps39
 go_wp2
 go_loopw [4] (fun i wr=>∃ (k : Nat) (S2 : Nat → Prop) (nv2 : Value) (nu2 : List Value),k ≤ n ∧ i = .int .i64 k ∧ KV w wr base Bw S S2 pv rv nv nv2 ev vv pu ru nu nu2 eu us LV k) (fun i _=>n - (intOf i).toNat)
 case atStart=>exact ⟨0,S,nv,nu,Nat.zero_le _,rfl,HK.out⟩
 case round =>
  obtain ⟨k,S2,nv2,nu2,hk,rfl,hKV⟩:=hrel
  have HKV:=hide hKV
  have hrow : wr.ownsRow base 91 3 (.slice la n lc) n xs:=own_turn HO.out.row (fun b hb hlt=>hKV.frm.block b hlt (fun h=>by
   rcases h with h | h | ⟨r,hr,h⟩
   ·exact Hlb.out (h ▸ hb)
   ·exact Hzn.out b hb h
   ·exact HO.out.off r (by omega) b h hb))
  have HROW:=hide hrow
  by_cases hlt : k < n
  ·obtain ⟨g,cap',hv',hbg,hgl⟩:=hrow.form (by omega)
   cases hv'
   have c2:=hrow.cellAt (k * 3 + 2) (by omega)
   rw [HO.out.n2 k hlt] at c2
   have hown : wr.ownsRow base 2 1 (LV k) (V k).l.length (ints (V k).l):=own_turn (HO.out.own k hlt) (fun b hb hlt2=>hKV.frm.block b hlt2 (fun h=>by
    rcases h with h | h | ⟨r,hr,h⟩
    ·exact Hb'.out k hlt (h ▸ hb)
    ·exact Hzn'.out k hlt b hb h
    ·exact HO.out.apart k r hlt (by omega) (by omega) b hb h))
   have hlvlt : ∀ b,(LV k).ownBlock = some b → b < w.heap.size:=fun b hb=>((HO.out.own k hlt).lt b hb).2
   have hzn2 : Clear (LV k) nv2:=fun b hb hv=>by
    rcases hKV.nvb with h | ⟨b2,h,hle⟩
    ·exact Hzn'.out k hlt b hb (h.symm.trans hv)
    ·rw [h] at hv;injection hv with hv;have:=hlvlt b hb;omega
   have HC:=hide (keepNums_any base Bw (V k).l.length (LV k) nv2 (ints (V k).l) nu2 wr (Hll.out k hlt) (by have:=hKV.len;omega) hKV.bk.lt (by have:=hKV.frm.size;omega) hKV.bk.c2 (hKV.bk.fz 2) hKV.bk.on hown hKV.bk.bn (Hb'.out k hlt) hzn2)
   have HZ2:=hide hzn2
   have HLL:=hide hlvlt
   have hki : (k : Int) < n:=by omega
   obtain ⟨lk,hlk⟩ : ∃ lk,LV k = lk:=⟨_,rfl⟩
   rw [hlk] at c2 HC
   have HLK:=hide hlk
   obtain ⟨ka,kn,kc,hke⟩ : ∃ ka kn kc,lk = .slice ka kn kc:=by
    obtain ⟨q1,q2,q3⟩:=own_form hown
    exact ⟨q1,_,q2,by rw [← hlk];exact q3⟩
   subst hke
   clear hKV hrow hown hlvlt hzn2 hlk
   go_wp2_with fail
   refine HC.out.mono ?_
   rintro e w2 ⟨a,b,c,nv3,rfl,hKS⟩
   have HKS:=hide hKS
   clear hKS HC
   go_wp2
   go_roundw
   case rel =>
    have hKS:=HKS.out
    rw [← HLK.out] at hKS
    obtain ⟨S3,hn3⟩:=HKV.out.next hKS HLL.out (Hzp'.out k hlt) (Hzr'.out k hlt) HZ2.out (Hze'.out k hlt) (Hzv'.out k hlt) (HS'.out k hlt) (fun r hr=>HO.out.apart k r hlt (by omega) (by omega))
    exact ⟨k + 1,S3,nv3,_,by omega,by go_num,hn3⟩
   case measure=>simp [intOf];omega
  ·obtain rfl : n = k:=by omega
   obtain ⟨wk,hwk⟩ : ∃ wk,wr = wk:=⟨_,rfl⟩
   subst hwk
   clear hKV hrow hlt
   obtain ⟨na,nc,hvv⟩:=own_form HKV.out.bk.ov
   have HNV':=hide HKV.out.bk.ov
   have hf:=HKV.out.bk.c4
   have hfz:=HKV.out.bk.fz 4
   rw [hvv] at HNV' hf
   have HVV:=hide hvv
   obtain ⟨ib,hib,hb0,hb1,hb2⟩:=info_parts Tryz.infoLV
   obtain ⟨il,hil,hl0,hl1,hl2⟩:=info_parts Tryz.infoV'
   obtain ⟨m,hM⟩ : ∃ m,us.length = m:=⟨_,rfl⟩
   have HM:=hide hM
   have hm' : m ≤ 200000000:=by omega
   rw [hM] at hf
   have hB:=HKV.out.bk.lt
   have hbase2 : base ≤ wr.heap.size:=by have:=HKV.out.frm.size;omega
   have HLN : Hid (Clear (.slice la n lc) (.slice na us.length nc)):=by unfold Hid;rw [← hvv];exact Hzv.out
   have HNB : Hid ((Value.slice na us.length nc).ownBlock ≠ some Bw):=by unfold Hid;rw [← hvv];exact HKV.out.bk.bv
   have HLB:=Hlb
   clear hM hvv hm
   go_wp2
   obtain ⟨mk,hmk⟩ : ∃ mk : Int,-1000 - (m : Int) / 4 = mk:=⟨_,rfl⟩
   have HMK : Hid (mkZ us.length = mk):=by unfold Hid mkZ;rw [HM.out];simp only [Int.natCast_ediv];exact hmk
   rw [hmk]
   clear hmk
   obtain ⟨o0,ho0⟩ : ∃ o0,Obj.cells #[.int .i64 mk,.bool false,.slice none 0 0] 91 = o0:=⟨_,rfl⟩
   rw [ho0]
   obtain ⟨w0,hw0⟩ : ∃ w0,wr.alloc o0 = w0:=⟨_,rfl⟩
   have HW0:=hide hw0
   obtain ⟨mb,hmb⟩ : ∃ mb,wr.heap.size = mb:=⟨_,rfl⟩
   have hnew : w0.heap[mb]? = some o0:=by rw [← hw0,← hmb];exact heap_new wr o0
   have m0 : w0.cell? ⟨mb,0,none⟩ = some (.int .i64 mk):=by simp [World.cell?,hnew,← ho0]
   have m1 : w0.cell? ⟨mb,1,none⟩ = some (.bool false):=by simp [World.cell?,hnew,← ho0]
   have m2 : w0.cell? ⟨mb,2,none⟩ = some (.slice none 0 0):=by simp [World.cell?,hnew,← ho0]
   have hmlt : mb < w0.heap.size:=by rw [← hw0,← hmb];simp
   have hBb : w0.heap[Bw]? = wr.heap[Bw]?:=by rw [← hw0];exact Below.heap_alloc _ _ _ hB
   have HB0 : Hid (Bw < w0.heap.size):=by unfold Hid;omega
   have HMB : Hid (mb ≠ Bw):=by unfold Hid;omega
   have HML : Hid (¬ (Value.slice la n lc).ownBlock = some mb):=fun h=>by have:=(HROW.out.lt mb h).2;omega
   have HMN : Hid (¬ (Value.slice na us.length nc).ownBlock = some mb):=fun h=>by have:=(HNV'.out.lt mb h).2;omega
   have HLV : Hid (w0.ownsRow base 91 3 (.slice la n lc) n xs):=by unfold Hid;rw [← hw0];exact HROW.out.alloc _
   have HNV : Hid (w0.ownsRow base 64 1 (.slice na us.length nc) us.length us):=by unfold Hid;rw [← hw0];exact HNV'.out.alloc _
   have hf0 : w0.cell? ⟨Bw,4,none⟩ = some (.slice na m nc):=(World.cell?_of_block (w:=wr) (a:=⟨Bw,4,none⟩) hBb).trans hf
   have HFZ : Hid (w0.frozen? ⟨Bw,4,none⟩ = false):=(World.frozen?_of_block (w:=wr) (a:=⟨Bw,4,none⟩) hBb).trans hfz
   have hbs0 : base ≤ w0.heap.size:=by omega
   have HWB:=hide hB
   rw [hw0,hmb]
   clear hw0 hmb hnew ho0 hBb hf hfz HNV' hB
   obtain ⟨wl,hwl⟩ : ∃ wl,wr = wl:=⟨_,rfl⟩
   rw [hwl] at HKV HW0 HWB HROW hbase2
   clear hwl
   go_loopw [6] (fun i wr=>(∃ (k : Nat) (zs : List Value),k ≤ n ∧ i = .int .i64 k ∧ wr.ownsRow base 91 3 (.slice la n lc) n zs ∧ zs.take (k * 3) = repC [.int .i64 mk,.bool false,.slice none 0 0] k) ∧ Frm (fun k=>(Value.slice la n lc).ownBlock = some k) w0 wr)
    (fun i _=>n - (intOf i).toNat)
   case atStart=>exact ⟨⟨0,xs,Nat.zero_le _,rfl,HLV.out,by simp [repC]⟩,Frm.refl _ _⟩
   case round =>
    obtain ⟨⟨k,zs,hk,rfl,hoz,hzk⟩,hfr⟩:=hrel
    have HOZ:=hide hoz
    have HFR:=hide hfr
    have HZK:=hide hzk
    have hmb : wr.heap[mb]? = w0.heap[mb]?:=hfr.block mb hmlt HML.out
    have r0:=(World.cell?_of_block (w:=w0) (a:=⟨mb,0,none⟩) hmb).trans m0
    have r1:=(World.cell?_of_block (w:=w0) (a:=⟨mb,1,none⟩) hmb).trans m1
    have r2:=(World.cell?_of_block (w:=w0) (a:=⟨mb,2,none⟩) hmb).trans m2
    have hmlr : mb < wr.heap.size:=Nat.lt_of_lt_of_le hmlt hfr.size
    by_cases hlt : k < n
    ·obtain ⟨g,cap',hv',hbg,hgl⟩:=hoz.form (by omega)
     cases hv'
     have hzl:=hoz.1
     obtain ⟨u0,hu0⟩ : ∃ u,zs[k * 3]? = some u:=⟨zs[k * 3]'(by omega),by simp⟩
     obtain ⟨u1,hu1⟩ : ∃ u,zs[k * 3 + 1]? = some u:=⟨zs[k * 3 + 1]'(by omega),by simp⟩
     obtain ⟨u2,hu2⟩ : ∃ u,zs[k * 3 + 2]? = some u:=⟨zs[k * 3 + 2]'(by omega),by simp⟩
     have c0:=hoz.cellAt (k * 3) (by omega)
     have c1:=hoz.cellAt (k * 3 + 1) (by omega)
     have c2:=hoz.cellAt (k * 3 + 2) (by omega)
     rw [hu0] at c0
     rw [hu1] at c1
     rw [hu2] at c2
     have f0:=hoz.frozenAt (k * 3)
     have f1:=hoz.frozenAt (k * 3 + 1)
     have f2:=hoz.frozenAt (k * 3 + 2)
     have hki : (k : Int) < n:=by omega
     have HZL:=hide hzl
     clear hoz hfr hzk hu0 hu1 hu2 hmb hzl m0 m1 m2 hf0
     go_wp2
     go_roundw
     case rel =>
      refine ⟨⟨k + 1,((zs.set (k * 3) (.int .i64 mk)).set (k * 3 + 1) (.bool false)).set (k * 3 + 2) (.slice none 0 0),by omega,by go_num,(((HOZ.out.stored (k * 3) (.int .i64 mk)).1.stored (k * 3 + 1) (.bool false)).1.stored (k * 3 + 2) (.slice none 0 0)).1,take3_set HZL.out hlt HZK.out⟩,((HFR.out.setCell (p:=⟨g,k * 3,none⟩) (.inl rfl) (.int .i64 mk)).setCell (p:=⟨g,k * 3 + 1,none⟩) (.inl rfl) (.bool false)).setCell (p:=⟨g,k * 3 + 2,none⟩) (.inl rfl) (.slice none 0 0)⟩
     case measure=>simp [intOf];omega
    ·obtain rfl : n = k:=by omega
     have hzl : zs.length = n * 3:=hoz.1
     have hzs : zs = repC [.int .i64 mk,.bool false,.slice none 0 0] n:=by rw [← hzk,← hzl,List.take_length]
     subst hzs
     have hBB : wr.heap[Bw]? = w0.heap[Bw]?:=hfr.block Bw HB0.out HLB.out
     have K0 : Hid (KS w0 wr base Bw 4 91 64 3 (repC [.int .i64 mk,.bool false,.slice none 0 0]) (.slice la n lc) (.slice na us.length nc) [(.slice la n lc,n)] (.slice na us.length nc) us):=by
      refine ⟨hfr.mono (fun i _ h=>.inr (.inr h)),HB0.out,fun j _=>World.cell?_of_block (w:=w0) (a:=⟨Bw,j,none⟩) hBB,fun j=>World.frozen?_of_block (w:=w0) (a:=⟨Bw,j,none⟩) hBB,?_,?_,HNB.out,.inl rfl,?_⟩
      ·rw [HM.out];exact (World.cell?_of_block (w:=w0) (a:=⟨Bw,4,none⟩) hBB).trans hf0
      ·exact own_turn HNV.out (fun b hb hlt=>hfr.block b hlt (fun h=>HLN.out b h hb))
      ·intro p hp
       rw [List.mem_singleton] at hp
       subst hp
       exact ⟨hoz,.inl rfl,HLB.out,HLN.out⟩
     have hws:=hfr.size
     have HMM : Hid (∀ (nv' : Value) (us' : List Value) (ls : List (Value × Nat)) (W : World),KS w0 W base Bw 4 91 64 3 (repC [.int .i64 mk,.bool false,.slice none 0 0]) (.slice la n lc) (.slice na us.length nc) ls nv' us' → W.cell? ⟨mb,0,none⟩ = some (.int .i64 mk) ∧ W.cell? ⟨mb,1,none⟩ = some (.bool false) ∧ W.cell? ⟨mb,2,none⟩ = some (.slice none 0 0) ∧ mb < W.heap.size):=by
      intro nv' us' ls W hK
      have hb : W.heap[mb]? = w0.heap[mb]?:=hK.frm.block mb hmlt (fun h=>by rcases h with h | h | h;exact HMB.out h;exact HMN.out h;exact HML.out h)
      exact ⟨(World.cell?_of_block (w:=w0) (a:=⟨mb,0,none⟩) hb).trans m0,(World.cell?_of_block (w:=w0) (a:=⟨mb,1,none⟩) hb).trans m1,(World.cell?_of_block (w:=w0) (a:=⟨mb,2,none⟩) hb).trans m2,Nat.lt_of_lt_of_le hmlt hK.frm.size⟩
     have HONE : Hid (∀ u ∈ ([.int .i64 mk,.bool false,.slice none 0 0] : List Value),u.oneCell' = true):=by unfold Hid;simp [Value.oneCell']
     clear hoz hfr hzk hBB hzl HOZ HFR HZK hf0 m0 m1 m2 hmb
     go_wp2_with (at_builtin;refine wpList_app2 _ rfl _ _ 64 rfl base 91 il _ 3 40 Tryz.underlying64 hil hl0 hl1 hl2 rfl (by decide) _ _ _ rfl ((K0.out.lists (.slice la n lc,n) (by simp)).1.alloc _) (.slice (some ⟨wr.heap.size,0,none⟩) 1 1) 1 (repC [.int .i64 mk,.bool false,.slice none 0 0] 1) rfl (srcA _ _ _ _ 0 _ rfl rfl 3 1 rfl) (repC_one HONE.out _) ?h63 ?hbytes ?hbase ?_)
     case h63=>unfold maxLen;omega
     case hbytes=>omega
     case hbase=>simp;omega
     intro a1 c1 w1 ho hg _ hlie hway
     rw [repC_add] at ho
     have K1:=hide (K0.out.addList (by omega) (repC_take rfl) (n:=n) (m:=1) (by simp) (by intro p hp;simp at hp;rcases hp with rfl <;> simp) rfl ho hg hlie hway)
     have hw1 : wr.heap.size ≤ w1.heap.size:=by have:=hg.size;simp at this;omega
     clear r0 r1 r2 hmlr
     obtain ⟨r0,r1,r2,hmlr⟩:=HMM.out _ _ _ _ K1.out
     clear ho hg hlie hway
     go_wp2_with (at_builtin;refine wpList_app2 _ rfl _ _ 64 rfl base 91 il _ 3 40 Tryz.underlying64 hil hl0 hl1 hl2 rfl (by decide) _ _ _ rfl ((K1.out.lists (.slice la n lc,n) (by simp)).1.alloc _) (.slice (some ⟨w1.heap.size,0,none⟩) 2 2) 2 (repC [.int .i64 mk,.bool false,.slice none 0 0] 2) rfl (srcA _ _ _ _ 0 _ rfl rfl 3 2 rfl) (repC_one HONE.out _) ?h63 ?hbytes ?hbase ?_)
     case h63=>unfold maxLen;omega
     case hbytes=>omega
     case hbase=>simp;omega
     intro a2 c2 w2 ho hg _ hlie hway
     rw [repC_add] at ho
     have K2:=hide (K1.out.addList (by omega) (repC_take rfl) (n:=n) (m:=2) (by simp) (by intro p hp;simp at hp;rcases hp with rfl | rfl <;> simp) rfl ho hg hlie hway)
     have hw2 : w1.heap.size ≤ w2.heap.size:=by have:=hg.size;simp at this;omega
     clear r0 r1 r2 hmlr
     obtain ⟨r0,r1,r2,hmlr⟩:=HMM.out _ _ _ _ K2.out
     clear ho hg hlie hway
     go_wp2_with (at_builtin;refine wpList_app2 _ rfl _ _ 64 rfl base 91 il _ 3 40 Tryz.underlying64 hil hl0 hl1 hl2 rfl (by decide) _ _ _ rfl ((K2.out.lists (.slice la n lc,n) (by simp)).1.alloc _) (.slice (some ⟨w2.heap.size,0,none⟩) 3 3) 3 (repC [.int .i64 mk,.bool false,.slice none 0 0] 3) rfl (srcA _ _ _ _ 0 _ rfl rfl 3 3 rfl) (repC_one HONE.out _) ?h63 ?hbytes ?hbase ?_)
     case h63=>unfold maxLen;omega
     case hbytes=>omega
     case hbase=>simp;omega
     intro a3 c3 w3 ho hg _ hlie hway
     rw [repC_add] at ho
     have K3:=hide (K2.out.addList (by omega) (repC_take rfl) (n:=n) (m:=3) (by simp) (by intro p hp;simp at hp;rcases hp with rfl | rfl | rfl <;> simp) rfl ho hg hlie hway)
     have hw3 : w2.heap.size ≤ w3.heap.size:=by have:=hg.size;simp at this;omega
     clear r0 r1 r2 hmlr
     obtain ⟨r0,r1,r2,hmlr⟩:=HMM.out _ _ _ _ K3.out
     clear ho hg hlie hway
     rw [HM.out] at K3
     have B0 : Hid (w3.ownsRow base 64 1 (.slice na m nc) m us):=by have:=K3.out.book;rw [HM.out] at this;exact this
     have fc:=K3.out.fld
     have hbw3 : Bw < w3.heap.size:=by have:=HB0.out;omega
     clear r0 r1 r2 hmlr
     go_wp2_with (at_builtin;refine wpList_app2 _ rfl _ _ 39 rfl base 64 ib _ 1 24 Tryz.underlying39 hib hb0 hb1 hb2 rfl (by decide) _ m _ rfl (B0.out.alloc _) (.slice (some ⟨w3.heap.size,0,none⟩) 1 1) 1 [.slice la n lc] rfl (srcA _ _ _ _ 0 _ (by simp) rfl 1 1 rfl) ?h1 ?h63 ?hbytes ?hbase ?_)
     case h1=>simp [Value.oneCell']
     case h63=>unfold maxLen;omega
     case hbytes=>omega
     case hbase=>simp;omega
     intro p1 d1 x1 ho hg _ hlie _
     obtain ⟨s0,s1⟩:=K3.out.store hg
     rw [HFZ.out] at s1
     have K4:=hide (K3.out.addBook (u:=.slice la n lc) (q:=m) (H:=w3.heap.size + 1) (by simp [HM.out]) rfl ho hg hlie)
     have B1 : Hid ((x1.setCell ⟨Bw,4,none⟩ (.slice p1 (m + 1) d1)).ownsRow base 64 1 (.slice p1 (m + 1) d1) (m + 1) (us ++ [.slice la n lc])):=by have:=K4.out.book;simp only [List.length_append,List.length_cons,List.length_nil,HM.out] at this;exact this
     have hx1 : w3.heap.size ≤ x1.heap.size:=by have:=hg.size;simp at this;omega
     have hbx1 : Bw < x1.heap.size:=by omega
     clear ho hg hlie fc
     go_wp2_with (at_builtin;refine wpList_app2 _ rfl _ _ 39 rfl base 64 ib _ 1 24 Tryz.underlying39 hib hb0 hb1 hb2 rfl (by decide) _ (m + 1) _ rfl (B1.out.alloc _) (.slice (some ⟨x1.heap.size,0,none⟩) 1 1) 1 [.slice a1 (n + 1) c1] rfl (srcA _ _ _ _ 0 _ (by simp) rfl 1 1 rfl) ?h1 ?h63 ?hbytes ?hbase ?_)
     case h1=>simp [Value.oneCell']
     case h63=>unfold maxLen;omega
     case hbytes=>omega
     case hbase=>simp;omega
     intro p2 d2 x2 ho hg _ hlie _
     obtain ⟨s0,s1⟩:=K4.out.store hg
     rw [HFZ.out] at s1
     have K5:=hide (K4.out.addBook (u:=.slice a1 (n + 1) c1) (q:=(m + 1)) (H:=x1.heap.size + 1) (by simp [HM.out]) (by simp [World.setCell]) (by simpa using ho) hg hlie)
     have B2 : Hid ((x2.setCell ⟨Bw,4,none⟩ (.slice p2 ((m + 1) + 1) d2)).ownsRow base 64 1 (.slice p2 ((m + 1) + 1) d2) ((m + 1) + 1) (us ++ [.slice la n lc] ++ [.slice a1 (n + 1) c1])):=by have:=K5.out.book;simp only [List.length_append,List.length_cons,List.length_nil,HM.out] at this;exact this
     have hx2 : x1.heap.size ≤ x2.heap.size:=by have:=hg.size;simp at this;omega
     have hbx2 : Bw < x2.heap.size:=by omega
     clear ho hg hlie
     go_wp2_with (at_builtin;refine wpList_app2 _ rfl _ _ 39 rfl base 64 ib _ 1 24 Tryz.underlying39 hib hb0 hb1 hb2 rfl (by decide) _ (m + 1 + 1) _ rfl (B2.out.alloc _) (.slice (some ⟨x2.heap.size,0,none⟩) 1 1) 1 [.slice a2 (n + 2) c2] rfl (srcA _ _ _ _ 0 _ (by simp) rfl 1 1 rfl) ?h1 ?h63 ?hbytes ?hbase ?_)
     case h1=>simp [Value.oneCell']
     case h63=>unfold maxLen;omega
     case hbytes=>omega
     case hbase=>simp;omega
     intro p3 d3 x3 ho hg _ hlie _
     obtain ⟨s0,s1⟩:=K5.out.store hg
     rw [HFZ.out] at s1
     have K6:=hide (K5.out.addBook (u:=.slice a2 (n + 2) c2) (q:=(m + 1 + 1)) (H:=x2.heap.size + 1) (by simp [HM.out]) (by simp [World.setCell]) (by simpa using ho) hg hlie)
     have B3 : Hid ((x3.setCell ⟨Bw,4,none⟩ (.slice p3 ((m + 1 + 1) + 1) d3)).ownsRow base 64 1 (.slice p3 ((m + 1 + 1) + 1) d3) ((m + 1 + 1) + 1) (us ++ [.slice la n lc] ++ [.slice a1 (n + 1) c1] ++ [.slice a2 (n + 2) c2])):=by have:=K6.out.book;simp only [List.length_append,List.length_cons,List.length_nil,HM.out] at this;exact this
     have hx3 : x2.heap.size ≤ x3.heap.size:=by have:=hg.size;simp at this;omega
     have hbx3 : Bw < x3.heap.size:=by omega
     clear ho hg hlie
     go_wp2_with (at_builtin;refine wpList_app2 _ rfl _ _ 39 rfl base 64 ib _ 1 24 Tryz.underlying39 hib hb0 hb1 hb2 rfl (by decide) _ (m + 1 + 1 + 1) _ rfl (B3.out.alloc _) (.slice (some ⟨x3.heap.size,0,none⟩) 1 1) 1 [.slice a3 (n + 3) c3] rfl (srcA _ _ _ _ 0 _ (by simp) rfl 1 1 rfl) ?h1 ?h63 ?hbytes ?hbase ?_)
     case h1=>simp [Value.oneCell']
     case h63=>unfold maxLen;omega
     case hbytes=>omega
     case hbase=>simp;omega
     intro p4 d4 x4 ho hg _ hlie _
     obtain ⟨s0,s1⟩:=K6.out.store hg
     rw [HFZ.out] at s1
     have K7:=hide (K6.out.addBook (u:=.slice a3 (n + 3) c3) (q:=(m + 1 + 1 + 1)) (H:=x3.heap.size + 1) (by simp [HM.out]) (by simp [World.setCell]) (by simpa using ho) hg hlie)
     have B4 : Hid ((x4.setCell ⟨Bw,4,none⟩ (.slice p4 ((m + 1 + 1 + 1) + 1) d4)).ownsRow base 64 1 (.slice p4 ((m + 1 + 1 + 1) + 1) d4) ((m + 1 + 1 + 1) + 1) (us ++ [.slice la n lc] ++ [.slice a1 (n + 1) c1] ++ [.slice a2 (n + 2) c2] ++ [.slice a3 (n + 3) c3])):=by have:=K7.out.book;simp only [List.length_append,List.length_cons,List.length_nil,HM.out] at this;exact this
     have hx4 : x3.heap.size ≤ x4.heap.size:=by have:=hg.size;simp at this;omega
     have hbx4 : Bw < x4.heap.size:=by omega
     clear ho hg hlie
     go_wp2
     go_end0
     have hK:=K7.out
     rw [← HW0.out] at hK
     have hK2:=hK.weaken HWB.out
     have hvm : vaMk us.length = [.int .i64 mk,.bool false,.slice none 0 0]:=by unfold vaMk;rw [HMK.out]
     have hvv2 : Value.slice na m nc = vv:=by rw [HVV.out,HM.out]
     rw [← hvm,hvv2] at hK2
     obtain ⟨S9,nv9,vv9,nu9,vu9,hfin⟩:=HKV.out.finish hK2 (fun k hk=>(HO.out.row.lt k hk).2) Hzp.out Hzr.out Hzn.out Hze.out Hzv.out HS.out HO.out.off
     exact ⟨S9,nv9,vv9,nu9,vu9,rfl,hfin⟩
end Go.Proofs.YtkmakliebhnhbaaGreat
namespace Go.Proofs.YtkmakliebhnhbaaGreat
open Go.RowKit
theorem Bk.below {W W' : World} {B Bw : Nat} {S : Nat → Prop} {pv rv nv ev vv : Value} {pu ru nu eu vu : List Value} (h : Bk W B Bw S pv rv nv ev vv pu ru nu eu vu) (hb : Below W.heap.size W W') : Bk W' B Bw S pv rv nv ev vv pu ru nu eu vu:=by
 have hc : ∀ j,W'.cell? ⟨Bw,j,none⟩ = W.cell? ⟨Bw,j,none⟩:=fun j=>hb.cell (p:=⟨Bw,j,none⟩) h.lt
 have hS : ∀ b,S b → b < W.heap.size → S b ∧ W'.heap[b]? = W.heap[b]?:=fun b h1 h2=>⟨h1,hb.block b h2⟩
 exact { h with
  lt:=Nat.lt_of_lt_of_le h.lt hb.size
  c0:=(hc 0).trans h.c0
  c1:=(hc 1).trans h.c1
  c2:=(hc 2).trans h.c2
  c3:=(hc 3).trans h.c3
  c4:=(hc 4).trans h.c4
  c5:=(hc 5).trans h.c5
  fz:=fun j=>(hb.frozen (p:=⟨Bw,j,none⟩) h.lt).trans (h.fz j)
  op:=own_below h.op hb
  or:=own_below h.or hb
  on:=own_below h.on hb
  oe:=own_below h.oe hb
  ov:=own_below h.ov hb
  st:=fun b hb'=>⟨Nat.lt_of_lt_of_le (h.st b hb').1 hb.size,(h.st b hb').2⟩
  mn:=fun i u hu=>by obtain ⟨l,hl⟩:=h.mn i u hu;exact ⟨l,rep_turn (List.cons_ne_nil _ _) hl hS⟩
  me:=fun i u hu=>by obtain ⟨l,hl⟩:=h.me i u hu;exact ⟨l,rep_turn (List.cons_ne_nil _ _) hl hS⟩
  mv:=fun i u hu=>by obtain ⟨l,hl⟩:=h.mv i u hu;exact ⟨l,rep_turn (List.cons_ne_nil _ _) hl hS⟩ }
theorem OwnV.below {W W' : World} {base n : Nat} {lv : Value} {V : Nat → Val} {LV : Nat → Value} {xs : List Value} (h : OwnV W base lv n V LV xs) (hb : Below W.heap.size W W') : OwnV W' base lv n V LV xs :=
 { h with row:=own_below h.row hb,own:=fun r hr=>own_below (h.own r hr) hb }
theorem OwnV.base {W : World} {base base' n : Nat} {lv : Value} {V : Nat → Val} {LV : Nat → Value} {xs : List Value} (h : OwnV W base lv n V LV xs) (hb : base' ≤ base) : OwnV W base' lv n V LV xs :=
 { h with row:=own_base h.row hb,own:=fun r hr=>own_base (h.own r hr) hb }
theorem clear_new {w0 w : World} {b0 : Nat} {e e' : TypeId} {size size' : Nat} {u v : Value} {n m : Nat} {xs ys : List Value} (hu : w.ownsRow w0.heap.size e size u n xs) (hv : w0.ownsRow b0 e' size' v m ys) : Clear u v:=fun b hb hv'=>by
 have:=(hu.lt b hb).1;have:=(hv.lt b hv').2;omega
set_option maxRecDepth 100000 in
set_option maxHeartbeats 1000000 in
theorem keep_any (B Bw n nt : Nat) (S : Nat → Prop) (lv tv pv rv nv ev vv : Value) (pu ru nu eu vu xs es : List Value) (V : Nat → Val) (LV : Nat → Value) (s0 s1 s2 s3 : Int) (w0 w : World) (hn : n ≤ 4) (hnt : nt ≤ 200000000) (hnu : nu.length ≤ 100000000) (heu : eu.length ≤ 200000000) (hvu : vu.length ≤ 200000000) (hll : ∀ r,r < n → (V r).l.length ≤ 200000000)
  (hBk : Bk w0 B Bw S pv rv nv ev vv pu ru nu eu vu) (hb : Below w0.heap.size w0 w) (hO : OwnV w w0.heap.size lv n V LV xs) (hT : w.ownsRow w0.heap.size 89 3 tv nt es) (hlt : Clear lv tv) (hLt : ∀ r,r < n → Clear (LV r) tv) :
  Calls Tryz.prog 26 #[.pointer (some ⟨Bw,0,none⟩),.agg #[lv,tv,.int .i64 s0,.int .i64 s1,.int .i64 s2,.int .i64 s3]] w fun e w'=>∃ S2 nv2 ev2 vv2 nu2 eu2 vu2,e = .returned (.tuple #[]) ∧ Bk w' B Bw S2 pv rv nv2 ev2 vv2 pu ru nu2 eu2 vu2 ∧
   Frm (fun k=>k = Bw ∨ nv.ownBlock = some k ∨ ev.ownBlock = some k ∨ vv.ownBlock = some k) w0 w' ∧ (∀ b,S b → S2 b) ∧ nu2.length = nu.length + 4 * n ∧ eu2.length = eu.length + 4 ∧ vu2.length = vu.length + 4 ∧
   Frm (fun k=>k = Bw ∨ nv.ownBlock = some k ∨ ev.ownBlock = some k ∨ vv.ownBlock = some k ∨ lv.ownBlock = some k ∨ tv.ownBlock = some k ∨ ∃ r,r < n ∧ (LV r).ownBlock = some k) w w':=by
 have hBs : B ≤ w0.heap.size:=Nat.le_trans hBk.bw (Nat.le_of_lt hBk.lt)
 obtain ⟨la,lc,rfl⟩:=own_form hO.row
 obtain ⟨ta,tc,rfl⟩:=own_form hT
 have hnew : ∀ b,(Value.slice la n lc).ownBlock = some b → w0.heap.size ≤ b:=fun b h=>(hO.row.lt b h).1
 have hnewL : ∀ r,r < n → ∀ b,(LV r).ownBlock = some b → w0.heap.size ≤ b:=fun r hr b h=>((hO.own r hr).lt b h).1
 have hnewT : ∀ b,(Value.slice ta nt tc).ownBlock = some b → w0.heap.size ≤ b:=fun b h=>(hT.lt b h).1
 obtain ⟨o,ho⟩ : ∃ o,Obj.cells #[.slice la n lc,.slice ta nt tc,.int .i64 s0,.int .i64 s1,.int .i64 s2,.int .i64 s3] 69 = o:=⟨_,rfl⟩
 have hba : Below w0.heap.size w0 (w.alloc o):=hb.alloc hb.size o
 have hBk1:=hBk.below hba
 have hO1:=(hO.base hBs).below ((Below.refl _ w).alloc (Nat.le_refl _) o)
 have hT1 : (w.alloc o).ownsRow B 89 3 (.slice ta nt tc) nt es:=(own_base hT hBs).alloc o
 have HC:=hide (keepValues_any B Bw n S (.slice la n lc) pv rv nv ev vv pu ru nu eu vu xs V LV (w.alloc o) hn hnu hvu (Nat.le_trans hBs hba.size) hll hBk1 hO1
  (fun h=>by have:=hnew _ h;have:=hBk.lt;omega) (clear_new hO.row hBk.op) (clear_new hO.row hBk.or) (clear_new hO.row hBk.on) (clear_new hO.row hBk.oe) (clear_new hO.row hBk.ov) (fun b hS h=>by have:=hnew b h;have:=(hBk.st b hS).1;omega)
  (fun r hr h=>by have:=hnewL r hr _ h;have:=hBk.lt;omega) (fun r hr=>clear_new (hO.own r hr) hBk.op) (fun r hr=>clear_new (hO.own r hr) hBk.or) (fun r hr=>clear_new (hO.own r hr) hBk.on) (fun r hr=>clear_new (hO.own r hr) hBk.oe) (fun r hr=>clear_new (hO.own r hr) hBk.ov) (fun r hr b hS h=>by have:=hnewL r hr b h;have:=(hBk.st b hS).1;omega))
 have HK2 : Hid (∀ (w2 : World) (S2 : Nat → Prop) (nv2 vv2 : Value) (nu2 vu2 : List Value),Bk w2 B Bw S2 pv rv nv2 ev vv2 pu ru nu2 eu vu2 →
   Frm (fun k=>k = Bw ∨ nv.ownBlock = some k ∨ vv.ownBlock = some k ∨ (Value.slice la n lc).ownBlock = some k ∨ ∃ r,r < n ∧ (LV r).ownBlock = some k) (w.alloc o) w2 → (∀ b,S b → S2 b) →
   (∀ b,S2 b → S b ∨ (Value.slice la n lc).ownBlock = some b ∨ (∃ r,r < n ∧ (LV r).ownBlock = some b) ∨ (w.alloc o).heap.size ≤ b) →
   (nv2.ownBlock = nv.ownBlock ∨ ∃ b,nv2.ownBlock = some b ∧ (w.alloc o).heap.size ≤ b) → (vv2.ownBlock = vv.ownBlock ∨ ∃ b,vv2.ownBlock = some b ∧ (w.alloc o).heap.size ≤ b) →
   Calls Tryz.prog 40 #[.pointer (some ⟨Bw,0,none⟩),.slice ta nt tc] w2 fun e w'=>∃ S3 ev3 eu3,e = .returned (.tuple #[]) ∧ Bk w' B Bw S3 pv rv nv2 ev3 vv2 pu ru nu2 eu3 vu2 ∧
    Frm (fun k=>k = Bw ∨ nv.ownBlock = some k ∨ ev.ownBlock = some k ∨ vv.ownBlock = some k) w0 w' ∧ (∀ b,S b → S3 b) ∧ eu3.length = eu.length + 4 ∧
    Frm (fun k=>k = Bw ∨ nv.ownBlock = some k ∨ ev.ownBlock = some k ∨ vv.ownBlock = some k ∨ (Value.slice la n lc).ownBlock = some k ∨ (Value.slice ta nt tc).ownBlock = some k ∨ ∃ r,r < n ∧ (LV r).ownBlock = some k) w w'):=by
  intro w2 S2 nv2 vv2 nu2 vu2 hB2 hF2 hsub hsup hn2 hv2
  have hown : w2.ownsRow B 89 3 (.slice ta nt tc) nt es:=own_turn hT1 (fun b hb' hl=>hF2.block b hl (fun h=>by
   rcases h with h | h | h | h | ⟨r,hr,h⟩
   ·have:=hnewT b hb';have:=hBk.lt;omega
   ·have:=hnewT b hb';have:=(hBk.on.lt b h).2;omega
   ·have:=hnewT b hb';have:=(hBk.ov.lt b h).2;omega
   ·exact hlt b h hb'
   ·exact hLt r hr b h hb'))
  have hz : ∀ u u0 : Value,Clear (.slice ta nt tc) u0 → (u.ownBlock = u0.ownBlock ∨ ∃ b,u.ownBlock = some b ∧ (w.alloc o).heap.size ≤ b) → Clear (.slice ta nt tc) u:=fun u u0 h0 hu b hb' h=>by
   rcases hu with h1 | ⟨b',h1,hle⟩
   ·exact h0 b hb' (h1.symm.trans h)
   ·rw [h1] at h;injection h with h;have:=(hT1.lt b hb').2;omega
  have zp : Clear (.slice ta nt tc) pv:=clear_new hT hBk.op
  have zr : Clear (.slice ta nt tc) rv:=clear_new hT hBk.or
  have zn:=hz nv2 nv (clear_new hT hBk.on) hn2
  have ze : Clear (.slice ta nt tc) ev:=clear_new hT hBk.oe
  have zv:=hz vv2 vv (clear_new hT hBk.ov) hv2
  have htB : (Value.slice ta nt tc).ownBlock ≠ some Bw:=fun h=>by have:=hnewT _ h;have:=hBk.lt;omega
  have hS2 : ∀ b,S2 b → (Value.slice ta nt tc).ownBlock ≠ some b:=fun b hb' h=>by
   rcases hsup b hb' with h1 | h1 | ⟨r,hr,h1⟩ | h1
   ·have:=hnewT b h;have:=(hBk.st b h1).1;omega
   ·exact hlt b h1 h
   ·exact hLt r hr b h1 h
   ·have:=(hT1.lt b h).2;omega
  refine (keepEvents_any B Bw nt (.slice ta nt tc) ev es eu w2 hnt heu hB2.lt (Nat.le_trans (Nat.le_trans hBs hba.size) hF2.size) hB2.c3 (hB2.fz 3) hB2.oe hown hB2.be htB ze).mono ?_
  rintro e w3 ⟨a,b,c,ev3,rfl,K⟩
  refine ⟨_,ev3,_,rfl,hB2.keepE K zp zr zn ze zv hS2,?_,fun b hb'=>.inl (hsub b hb'),by simp,?_⟩
  rotate_left
  ·refine ((Frm.refl _ w).alloc o |>.trans hF2 (fun k hk h=>?_)).trans K.frm (fun k hk h=>?_)
   ·rcases h with h | h | h | h | h
    ·exact .inl h
    ·exact .inr (.inl h)
    ·exact .inr (.inr (.inr (.inl h)))
    ·exact .inr (.inr (.inr (.inr (.inl h))))
    ·exact .inr (.inr (.inr (.inr (.inr (.inr h)))))
   ·rcases h with h | h | h
    ·exact .inl h
    ·exact .inr (.inr (.inl h))
    ·exact .inr (.inr (.inr (.inr (.inr (.inl h)))))
  refine ((Frm.of_below _ hba).trans hF2 (fun k hk h=>?_)).trans K.frm (fun k hk h=>?_)
  ·rcases h with h | h | h | h | ⟨r,hr,h⟩
   ·exact .inl h
   ·exact .inr (.inl h)
   ·exact .inr (.inr (.inr h))
   ·have:=hnew k h;omega
   ·have:=hnewL r hr k h;omega
  ·rcases h with h | h | h
   ·exact .inl h
   ·exact .inr (.inr (.inl h))
   ·have:=hnewT k h;omega
 have hoc : ∀ w2 : World,Frm (fun k=>k = Bw ∨ nv.ownBlock = some k ∨ vv.ownBlock = some k ∨ (Value.slice la n lc).ownBlock = some k ∨ ∃ r,r < n ∧ (LV r).ownBlock = some k) (w.alloc o) w2 → w2.cell? ⟨w.heap.size,1,none⟩ = some (.slice ta nt tc):=fun w2 hF2=>by
  have hbk : w2.heap[w.heap.size]? = (w.alloc o).heap[w.heap.size]?:=hF2.block _ (by simp) (fun h=>by
   rcases h with h | h | h | h | ⟨r,hr,h⟩
   ·have:=hBk.lt;have:=hb.size;omega
   ·have:=(hBk.on.lt _ h).2;have:=hb.size;omega
   ·have:=(hBk.ov.lt _ h).2;have:=hb.size;omega
   ·have:=(hO.row.lt _ h).2;omega
   ·have:=((hO.own r hr).lt _ h).2;omega)
  rw [World.cell?_of_block (w:=w.alloc o) (a:=⟨w.heap.size,1,none⟩) hbk]
  subst ho
  exact cell_of_row _ w.heap.size 1 _ _ (0,0) (heap_new w _)
 have HOC:=hide hoc
 have HOO:=hide ho
 clear hBk hb hO hT hlt hLt hnew hnewL hnewT hba hBk1 hO1 hT1 hoc ho
 go_enter Tryz.func26,Tryz.ntmps26
 go_wp2_with fail
 rw [HOO.out]
 refine HC.out.mono ?_
 rintro e w2 ⟨S2,nv2,vv2,nu2,vu2,rfl,hB2,hF2,hsub,hsup,hln,hlv,hn2,hv2⟩
 have HK:=hide (HK2.out w2 S2 nv2 vv2 nu2 vu2 hB2 hF2 hsub hsup hn2 hv2)
 have c1:=HOC.out w2 hF2
 have HLN:=hide hln
 have HLV:=hide hlv
 clear hB2 hF2 hsub hsup hln hlv hn2 hv2 HC HK2 HOC
 go_wp2_with fail
 refine HK.out.mono ?_
 rintro e w3 ⟨S3,ev3,eu3,rfl,hB3,hF3,hsub3,hle3,hfr3⟩
 have HR:=hide (⟨S3,nv2,ev3,vv2,nu2,eu3,vu2,hB3,hF3,hsub3,HLN.out,hle3,HLV.out,hfr3⟩ : ∃ S2 nv2 ev2 vv2 nu2 eu2 vu2,Bk w3 B Bw S2 pv rv nv2 ev2 vv2 pu ru nu2 eu2 vu2 ∧
   Frm (fun k=>k = Bw ∨ nv.ownBlock = some k ∨ ev.ownBlock = some k ∨ vv.ownBlock = some k) w0 w3 ∧ (∀ b,S b → S2 b) ∧ nu2.length = nu.length + 4 * n ∧ eu2.length = eu.length + 4 ∧ vu2.length = vu.length + 4 ∧
   Frm (fun k=>k = Bw ∨ nv.ownBlock = some k ∨ ev.ownBlock = some k ∨ vv.ownBlock = some k ∨ (Value.slice la n lc).ownBlock = some k ∨ (Value.slice ta nt tc).ownBlock = some k ∨ ∃ r,r < n ∧ (LV r).ownBlock = some k) w w3)
 clear hB3 hF3 hsub3 hle3 hfr3 HK
 go_wp2
 go_end0
 obtain ⟨S4,nv4,ev4,vv4,nu4,eu4,vu4,hr⟩:=HR.out
 exact ⟨S4,nv4,ev4,vv4,nu4,eu4,vu4,rfl,hr⟩
end Go.Proofs.YtkmakliebhnhbaaGreat
namespace Go.Proofs.YtkmakliebhnhbaaGreat
open Go.RowKit
theorem book_at {w wr : World} {B : Nat} {e : TypeId} {v : Value} {us : List Value} {i : Nat} {u : Value} (h : w.ownsRow B e 1 v us.length us) (hb : Below w.heap.size w wr) (hu : us[i]? = some u) :
  ∃ g cap,v = .slice (some ⟨g,0,none⟩) us.length cap ∧ wr.cell? ⟨g,i,none⟩ = some u ∧ g < w.heap.size:=by
 have hi:=(List.getElem?_eq_some_iff.1 hu).1
 obtain ⟨g,cap,hv,_,hg⟩:=h.form (by omega)
 subst hv
 exact ⟨g,cap,rfl,(hb.cell (p:=⟨g,i,none⟩) hg).trans ((h.cellAt i (by omega)).trans hu),hg⟩
set_option maxRecDepth 100000 in
set_option maxHeartbeats 4000000 in
theorem still_any (B Bw : Nat) (S : Nat → Prop) (pv rv nv ev vv : Value) (pu ru nu eu vu : List Value) (w : World) (hnu : nu.length ≤ 200000000) (heu : eu.length ≤ 200000000) (hvu : vu.length ≤ 200000000) (hBk : Bk w B Bw S pv rv nv ev vv pu ru nu eu vu) :
  Calls Tryz.prog 12 #[.pointer (some ⟨Bw,0,none⟩)] w fun e w'=>e = .returned (.bool true) ∧ Below w.heap.size w w':=by
 have HBk:=hide hBk
 have hBl:=hBk.lt
 obtain ⟨nn,hnn⟩ : ∃ nn,nu.length = nn:=⟨_,rfl⟩
 obtain ⟨ne,hne⟩ : ∃ ne,eu.length = ne:=⟨_,rfl⟩
 obtain ⟨nw,hnw⟩ : ∃ nw,vu.length = nw:=⟨_,rfl⟩
 obtain ⟨na,nc,hnv⟩:=own_form hBk.on
 obtain ⟨ea,ec,hev⟩:=own_form hBk.oe
 obtain ⟨va,vc,hvv⟩:=own_form hBk.ov
 have k2:=hBk.c2
 have k3:=hBk.c3
 have k4:=hBk.c4
 have k5:=hBk.c5
 rw [hnv,hnn] at k2
 rw [hev,hne] at k3
 rw [hvv,hnw] at k4
 rw [hnn] at hnu
 rw [hne] at heu
 rw [hnw] at hvu
 have HNN:=hide hnn
 have HNE:=hide hne
 have HNW:=hide hnw
 have HNV:=hide hnv
 have HEV:=hide hev
 have HVV:=hide hvv
 have K2:=hide k2
 have K3:=hide k3
 have K4:=hide k4
 have K5:=hide k5
 clear hBk hnn hne hnw hnv hev hvv k2 k3 k4 k5
 go_enter Tryz.func12,Tryz.ntmps12
 go_wp2
 go_loopw [3] (fun i wr=>(∃ k : Nat,k ≤ nn ∧ i = .int .i64 k) ∧ Below w.heap.size w wr) (fun i _=>nn - (intOf i).toNat)
 case atStart=>exact ⟨⟨0,Nat.zero_le _,rfl⟩,Below.refl _ _⟩
 case round =>
  obtain ⟨⟨k,hk,rfl⟩,hB⟩:=hrel
  have HB:=hide hB
  have q2:=(hB.cell (p:=⟨Bw,2,none⟩) hBl).trans K2.out
  have hs:=hB.size
  by_cases hlt : k < nn
  ·obtain ⟨u,hu⟩ : ∃ u,nu[k]? = some u:=⟨nu[k]'(by have:=HNN.out;omega),by simp⟩
   obtain ⟨g,cap,hv,hcu,hgl⟩:=book_at HBk.out.on hB hu
   rw [HNV.out,HNN.out] at hv
   obtain ⟨L,hL⟩:=HBk.out.mn k u hu
   obtain ⟨a1,c1,hu2,hc1,hm1⟩:=hL.form
   rw [List.length_replicate] at hu2 hc1
   obtain ⟨rfl,rfl⟩ : na = some ⟨g,0,none⟩ ∧ nc = cap:=by cases hv;exact ⟨rfl,rfl⟩
   subst hu2
   have HL:=hide hL
   have HCU : Hid (∀ wx : World,Below w.heap.size w wx → wx.cell? ⟨g,k,none⟩ = some (.slice a1 L c1)):=fun wx hx=>by
    obtain ⟨g',cap',hv',hcu',_⟩:=book_at HBk.out.on hx hu
    rw [HNV.out] at hv'
    cases hv'
    exact hcu'
   have hki : (k : Int) < nn:=by omega
   unfold maxLen at hm1
   clear hB hu hv hL hcu
   obtain ⟨wo,hwo⟩ : ∃ wo,wo = wr:=⟨_,rfl⟩
   rw [← hwo] at HB q2 hs ⊢
   clear hwo
   go_wp2
   go_loopw [4] (fun i wr=>(∃ j : Nat,j ≤ L ∧ i = .int .i64 j) ∧ Below w.heap.size w wr) (fun i _=>L - (intOf i).toNat)
   case atStart=>exact ⟨⟨0,Nat.zero_le _,rfl⟩,HB.out⟩
   case round =>
    clear q2 hs
    obtain ⟨⟨j,hj,rfl⟩,hBj⟩:=hrel
    have HBj:=hide hBj
    have q2:=(hBj.cell (p:=⟨Bw,2,none⟩) hBl).trans K2.out
    have q3:=HCU.out wr hBj
    have hsj:=hBj.size
    by_cases hjL : j < L
    ·obtain ⟨b1,o1,rfl,_,hc⟩:=HL.out.at (k:=j) (x:=_) (by rw [List.getElem?_replicate,if_pos hjL])
     have e0:=hc 0 _ rfl
     have hb1:=block_lt_of_cell e0
     simp only [Nat.mul_one,Nat.add_zero] at hb1 e0
     have r0:=(hBj.cell (p:=⟨b1,o1 + j,none⟩) hb1).trans e0
     have hmk : mkZ k = -1000 - (k : Int) / 4:=by unfold mkZ;simp only [Int.natCast_ediv];rfl
     rw [hmk] at r0
     have hji : (j : Int) < L:=by omega
     have hq0 : (0 : Int) ≤ (k : Int) / 4:=by omega
     have hq1 : (k : Int) / 4 ≤ 200000000:=by omega
     clear e0 hc hBj hmk
     go_wp2
     go_roundw
     case rel=>exact ⟨⟨j + 1,by omega,by go_num⟩,HBj.out⟩
     case measure=>simp [intOf];omega
    ·clear hBj
     go_wp2
     go_roundw
     case rel=>exact ⟨⟨k + 1,by omega,by go_num⟩,HBj.out⟩
     case measure=>simp [intOf];omega
  ·obtain rfl : nn = k:=by omega
   clear hB
   go_wp2
   have HB2:=HB
   go_loopw [5] (fun i wr=>(∃ k : Nat,k ≤ ne ∧ i = .int .i64 k) ∧ Below w.heap.size w wr) (fun i _=>ne - (intOf i).toNat)
   case atStart=>exact ⟨⟨0,Nat.zero_le _,rfl⟩,HB2.out⟩
   case round =>
    obtain ⟨⟨k,hk,rfl⟩,hB⟩:=hrel
    have HB:=hide hB
    have q2:=(hB.cell (p:=⟨Bw,3,none⟩) hBl).trans K3.out
    have hs:=hB.size
    by_cases hlt : k < ne
    ·obtain ⟨u,hu⟩ : ∃ u,eu[k]? = some u:=⟨eu[k]'(by have:=HNE.out;omega),by simp⟩
     obtain ⟨g,cap,hv,hcu,hgl⟩:=book_at HBk.out.oe hB hu
     rw [HEV.out,HNE.out] at hv
     obtain ⟨L,hL⟩:=HBk.out.me k u hu
     obtain ⟨a1,c1,hu2,hc1,hm1⟩:=hL.form
     rw [List.length_replicate] at hu2 hc1
     obtain ⟨rfl,rfl⟩ : ea = some ⟨g,0,none⟩ ∧ ec = cap:=by cases hv;exact ⟨rfl,rfl⟩
     subst hu2
     have HL:=hide hL
     have HCU : Hid (∀ wx : World,Below w.heap.size w wx → wx.cell? ⟨g,k,none⟩ = some (.slice a1 L c1)):=fun wx hx=>by
      obtain ⟨g',cap',hv',hcu',_⟩:=book_at HBk.out.oe hx hu
      rw [HEV.out] at hv'
      cases hv'
      exact hcu'
     have hki : (k : Int) < ne:=by omega
     unfold maxLen at hm1
     clear hB hu hv hL hcu
     obtain ⟨wo,hwo⟩ : ∃ wo,wo = wr:=⟨_,rfl⟩
     rw [← hwo] at HB q2 hs ⊢
     clear hwo
     go_wp2
     go_loopw [6] (fun i wr=>(∃ j : Nat,j ≤ L ∧ i = .int .i64 j) ∧ Below w.heap.size w wr) (fun i _=>L - (intOf i).toNat)
     case atStart=>exact ⟨⟨0,Nat.zero_le _,rfl⟩,HB.out⟩
     case round =>
      clear q2 hs
      obtain ⟨⟨j,hj,rfl⟩,hBj⟩:=hrel
      have HBj:=hide hBj
      have q2:=(hBj.cell (p:=⟨Bw,3,none⟩) hBl).trans K3.out
      have q3:=HCU.out wr hBj
      have hsj:=hBj.size
      by_cases hjL : j < L
      ·obtain ⟨b1,o1,rfl,_,hc⟩:=HL.out.at (k:=j) (x:=_) (by rw [List.getElem?_replicate,if_pos hjL])
       have e0:=hc 0 _ rfl
       have e1:=hc 1 _ rfl
       have e2:=hc 2 _ rfl
       have hb1:=block_lt_of_cell e0
       simp only [Nat.add_zero] at hb1 e0
       have r0:=(hBj.cell (p:=⟨b1,o1 + j * 3,none⟩) hb1).trans e0
       have r1:=(hBj.cell (p:=⟨b1,o1 + j * 3 + 1,none⟩) hb1).trans e1
       have r2:=(hBj.cell (p:=⟨b1,o1 + j * 3 + 2,none⟩) hb1).trans e2
       clear e1 e2
       have hmk : mkZ k = -1000 - (k : Int) / 4:=by unfold mkZ;simp only [Int.natCast_ediv];rfl
       rw [hmk] at r0
       have hji : (j : Int) < L:=by omega
       have hq0 : (0 : Int) ≤ (k : Int) / 4:=by omega
       have hq1 : (k : Int) / 4 ≤ 200000000:=by omega
       clear e0 hc hBj hmk
       go_wp2
       go_roundw
       case rel=>exact ⟨⟨j + 1,by omega,by go_num⟩,HBj.out⟩
       case measure=>simp [intOf];omega
      ·clear hBj
       go_wp2
       go_roundw
       case rel=>exact ⟨⟨k + 1,by omega,by go_num⟩,HBj.out⟩
       case measure=>simp [intOf];omega
    ·obtain rfl : ne = k:=by omega
     clear hB
     go_wp2
     have HB3:=HB
     go_loopw [7] (fun i wr=>(∃ k : Nat,k ≤ nw ∧ i = .int .i64 k) ∧ Below w.heap.size w wr) (fun i _=>nw - (intOf i).toNat)
     case atStart=>exact ⟨⟨0,Nat.zero_le _,rfl⟩,HB3.out⟩
     case round =>
      obtain ⟨⟨k,hk,rfl⟩,hB⟩:=hrel
      have HB:=hide hB
      have q2:=(hB.cell (p:=⟨Bw,4,none⟩) hBl).trans K4.out
      have hs:=hB.size
      by_cases hlt : k < nw
      ·obtain ⟨u,hu⟩ : ∃ u,vu[k]? = some u:=⟨vu[k]'(by have:=HNW.out;omega),by simp⟩
       obtain ⟨g,cap,hv,hcu,hgl⟩:=book_at HBk.out.ov hB hu
       rw [HVV.out,HNW.out] at hv
       obtain ⟨L,hL⟩:=HBk.out.mv k u hu
       obtain ⟨a1,c1,hu2,hc1,hm1⟩:=hL.form
       rw [List.length_replicate] at hu2 hc1
       obtain ⟨rfl,rfl⟩ : va = some ⟨g,0,none⟩ ∧ vc = cap:=by cases hv;exact ⟨rfl,rfl⟩
       subst hu2
       have HL:=hide hL
       have HCU : Hid (∀ wx : World,Below w.heap.size w wx → wx.cell? ⟨g,k,none⟩ = some (.slice a1 L c1)):=fun wx hx=>by
        obtain ⟨g',cap',hv',hcu',_⟩:=book_at HBk.out.ov hx hu
        rw [HVV.out] at hv'
        cases hv'
        exact hcu'
       have hki : (k : Int) < nw:=by omega
       unfold maxLen at hm1
       clear hB hu hv hL hcu
       obtain ⟨wo,hwo⟩ : ∃ wo,wo = wr:=⟨_,rfl⟩
       rw [← hwo] at HB q2 hs ⊢
       clear hwo
       go_wp2
       go_loopw [8] (fun i wr=>(∃ j : Nat,j ≤ L ∧ i = .int .i64 j) ∧ Below w.heap.size w wr) (fun i _=>L - (intOf i).toNat)
       case atStart=>exact ⟨⟨0,Nat.zero_le _,rfl⟩,HB.out⟩
       case round =>
        clear q2 hs
        obtain ⟨⟨j,hj,rfl⟩,hBj⟩:=hrel
        have HBj:=hide hBj
        have q2:=(hBj.cell (p:=⟨Bw,4,none⟩) hBl).trans K4.out
        have q3:=HCU.out wr hBj
        have hsj:=hBj.size
        by_cases hjL : j < L
        ·obtain ⟨b1,o1,rfl,_,hc⟩:=HL.out.at (k:=j) (x:=_) (by rw [List.getElem?_replicate,if_pos hjL])
         have e0:=hc 0 _ rfl
         have e1:=hc 1 _ rfl
         have e2:=hc 2 _ rfl
         have hb1:=block_lt_of_cell e0
         simp only [Nat.add_zero] at hb1 e0
         have r0:=(hBj.cell (p:=⟨b1,o1 + j * 3,none⟩) hb1).trans e0
         have r1:=(hBj.cell (p:=⟨b1,o1 + j * 3 + 1,none⟩) hb1).trans e1
         have r2:=(hBj.cell (p:=⟨b1,o1 + j * 3 + 2,none⟩) hb1).trans e2
         clear e1 e2
         have hmk : mkZ k = -1000 - (k : Int) / 4:=by unfold mkZ;simp only [Int.natCast_ediv];rfl
         rw [hmk] at r0
         have hji : (j : Int) < L:=by omega
         have hq0 : (0 : Int) ≤ (k : Int) / 4:=by omega
         have hq1 : (k : Int) / 4 ≤ 200000000:=by omega
         clear e0 hc hBj hmk
         go_wp2
         go_roundw
         case rel=>exact ⟨⟨j + 1,by omega,by go_num⟩,HBj.out.alloc hsj _⟩
         case measure=>simp [intOf];omega
        ·clear hBj
         go_wp2
         go_roundw
         case rel=>exact ⟨⟨k + 1,by omega,by go_num⟩,HBj.out⟩
         case measure=>simp [intOf];omega
      ·obtain rfl : nw = k:=by omega
       clear hB
       go_wp2
       have q5:=(HB.out.cell (p:=⟨Bw,5,none⟩) hBl).trans K5.out
       go_wp2
       go_loop [10] (fun i=>i = .int .i64 0) (fun _=>0)
       case atStart=>rfl
       case round =>
        subst hrel
        go_wp2
        go_ret
        exact ⟨rfl,HB.out⟩
end Go.Proofs.YtkmakliebhnhbaaGreat
