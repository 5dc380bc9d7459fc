import Derived.Test.YtkmakliebhnhbaaGreatNewC
import Derived.Test.YtkmakliebhnhbaaGreatMadeA
namespace Go.Proofs.YtkmakliebhnhbaaGreat
open Go.RowKit Go.Shelf
def CodeP (S : Nat → Prop) (W : World) (cb : Nat) (fs : List (List Ins)) (reds : List Int) : Prop:=∃ vf vk g,S cb ∧ W.cell? ⟨cb,0,none⟩ = some vf ∧ W.cell? ⟨cb,1,none⟩ = some vk ∧ W.cell? ⟨cb,2,none⟩ = some (.slice (some ⟨g,0,none⟩) fs.length fs.length) ∧ S g ∧ 0 < fs.length ∧
 RdF S W vf fs ∧ RdL S W 1 int64s vk reds ∧ SArr W g fs.length (fun x=>toZ (sizeF fs fs.length x))
theorem CodeP.turn {S S' : Nat → Prop} {W W' : World} {cb : Nat} {fs : List (List Ins)} {reds : List Int} (h : CodeP S W cb fs reds) (hS : ∀ b,S b → b < W.heap.size → S' b ∧ W'.heap[b]? = W.heap[b]?) : CodeP S' W' cb fs reds:=by
 obtain ⟨vf,vk,g,s1,c0,c1,c2,s2,h0,h1,h2,h3⟩:=h
 obtain ⟨t1,t2⟩:=hS cb s1 (block_lt_of_cell c0)
 obtain ⟨t3,t4⟩:=hS g s2 (h3.lt h0)
 exact ⟨vf,vk,g,t1,(World.cell?_of_block (w:=W) (a:=⟨cb,0,none⟩) t2).trans c0,(World.cell?_of_block (w:=W) (a:=⟨cb,1,none⟩) t2).trans c1,(World.cell?_of_block (w:=W) (a:=⟨cb,2,none⟩) t2).trans c2,t3,h0,h1.turn hS,h2.turn hS (fun x _=>by simp [int64s]),h3.turn t4⟩
structure CodeL (w0 W : World) (cb N : Nat) (fs : List (List Ins)) (reds : List Int) (k : Nat) (fv : Value) (us : List Value) (vr : Value) (g : Nat) : Prop where
 below : Below N w0 W
 c0 : W.cell? ⟨cb,0,none⟩ = some fv
 c1 : W.cell? ⟨cb,1,none⟩ = some vr
 c2 : W.cell? ⟨cb,2,none⟩ = some (.slice (some ⟨g,0,none⟩) fs.length fs.length)
 fz : W.frozen? ⟨cb,0,none⟩ = false
 rbN : N ≤ cb
 own : W.ownsRow N 46 1 fv k us
 fb : fv.ownBlock ≠ some cb
 rows : ∀ (j : Nat) (u : Value) (l : List Ins),us[j]? = some u → fs[j]? = some l → RdL (fun b=>N ≤ b ∧ b ≠ cb ∧ fv.ownBlock ≠ some b) W 5 Ins.vals u l
 rd : RdL (fun b=>N ≤ b ∧ b ≠ cb ∧ fv.ownBlock ≠ some b) W 1 int64s vr reds
 gN : N ≤ g ∧ g ≠ cb ∧ fv.ownBlock ≠ some g
 gl : g < W.heap.size
 arr : SArr W g fs.length (fun x=>toZ (sizeF fs fs.length x))
theorem CodeL.next {w4 W w1 w2 : World} {rb N k g : Nat} {fs : List (List Ins)} {reds : List Int} {fv vr : Value} {us : List Value} {l : List Ins} {o1 : Obj} {a1 a2 : Option Addr} {n1 c1 c2 : Nat} (h : CodeL w4 W rb N fs reds k fv us vr g) (hk : us.length = k) (hl : fs[k]? = some l) (hN : N ≤ W.heap.size)
  (g1 : W.grownBy w1 none) (ho1 : w1.ownsRow N 45 5 (.slice a1 n1 c1) n1 (flat Ins.vals l)) (hn1 : n1 = l.length)
  (hl1 : (Value.slice a1 n1 c1).ownBlock = none ∨ (Value.slice a1 n1 c1).ownBlock = some W.heap.size)
  (g2 : (w1.alloc o1).grownBy w2 fv.ownBlock) (ho2 : w2.ownsRow N 46 1 (.slice a2 (k + 1) c2) (k + 1) (us ++ [.slice a1 n1 c1]))
  (H2 : Nat) (hl2 : (Value.slice a2 (k + 1) c2).ownBlock = fv.ownBlock ∨ (Value.slice a2 (k + 1) c2).ownBlock = some H2) (hH2 : H2 = w1.heap.size + 1) :
  CodeL w4 (w2.setCell ⟨rb,0,none⟩ (.slice a2 (k + 1) c2)) rb N fs reds (k + 1) (.slice a2 (k + 1) c2) (us ++ [.slice a1 n1 c1]) vr g:=by
 have hrl : rb < W.heap.size:=block_lt_of_cell h.c0
 have hs1 : W.heap.size ≤ w1.heap.size:=g1.size
 have hs2 : w1.heap.size + 1 ≤ w2.heap.size:=by have:=g2.size;simpa using this
 have hfl : ∀ b,fv.ownBlock = some b → b < W.heap.size:=fun b hb=>(h.own.lt b hb).2
 have old1 : ∀ b,b < W.heap.size → w1.heap[b]? = W.heap[b]?:=fun b hb=>g1.block b hb (by simp)
 have old2 : ∀ b,b < w1.heap.size → fv.ownBlock ≠ some b → w2.heap[b]? = w1.heap[b]?:=fun b hb hne=>by
  rw [g2.block b (by simp;omega) (fun e=>hne e.symm),Below.heap_alloc _ _ _ hb]
 have oldr : ∀ b,b < W.heap.size → b ≠ rb → fv.ownBlock ≠ some b → (w2.setCell ⟨rb,0,none⟩ (.slice a2 (k + 1) c2)).heap[b]? = W.heap[b]?:=fun b hb h1 h2=>by
  rw [Below.heap_setCell _ _ _ _ h1,old2 b (by omega) h2,old1 b hb]
 have hrb2 : w2.heap[rb]? = W.heap[rb]?:=by rw [old2 rb (by omega) h.fb,old1 rb hrl]
 have hfb2 : (Value.slice a2 (k + 1) c2).ownBlock ≠ some rb:=by
  rcases hl2 with e | e
  ·rw [e];exact h.fb
  ·rw [e];intro e2;injection e2 with e2;omega
 have hnf : ∀ b,b < w1.heap.size → fv.ownBlock ≠ some b → (Value.slice a2 (k + 1) c2).ownBlock ≠ some b:=fun b hb hne=>by
  rcases hl2 with e | e
  ·rw [e];exact hne
  ·rw [e];intro e2;injection e2 with e2;omega
 have hS : ∀ b,(N ≤ b ∧ b ≠ rb ∧ fv.ownBlock ≠ some b) → b < W.heap.size → (N ≤ b ∧ b ≠ rb ∧ (Value.slice a2 (k + 1) c2).ownBlock ≠ some b) ∧ (w2.setCell ⟨rb,0,none⟩ (.slice a2 (k + 1) c2)).heap[b]? = W.heap[b]?:=fun b hb hlt =>
  ⟨⟨hb.1,hb.2.1,hnf b (by omega) hb.2.2⟩,oldr b hlt hb.2.1 hb.2.2⟩
 refine ⟨?_,?_,?_,?_,?_,h.rbN,?_,hfb2,?_,?_,(hS g h.gN h.gl).1,?_,h.arr.turn (hS g h.gN h.gl).2⟩
 ·refine Below.setCell (h.below.trans ?_) (p:=⟨rb,0,none⟩) h.rbN _
  refine ⟨g2.os.trans g1.os,g2.tape.trans g1.tape,g2.output.trans g1.output,by omega,fun b hb=>?_⟩
  rw [old2 b (by omega) (fun e=>by have:=(h.own.lt b e).1;omega),old1 b (by omega)]
 ·rw [World.cell?_setCell_same' _ _ _ (by rw [World.cell?_of_block (w:=W) (a:=⟨rb,0,none⟩) hrb2,h.c0];rfl)]
 ·rw [World.cell?_setCell_other _ _ _ _ (by simp)]
  exact (World.cell?_of_block (w:=W) (a:=⟨rb,1,none⟩) hrb2).trans h.c1
 ·rw [World.cell?_setCell_other _ _ _ _ (by simp)]
  exact (World.cell?_of_block (w:=W) (a:=⟨rb,2,none⟩) hrb2).trans h.c2
 ·rw [World.frozen?_setCell]
  exact (World.frozen?_of_block (w:=W) (a:=⟨rb,0,none⟩) hrb2).trans h.fz
 ·exact own_turn ho2 (fun b hb _=>Below.heap_setCell _ _ _ _ (fun e=>hfb2 (by rw [hb,e])))
 ·intro j u x hj hx
  by_cases hjk : j < k
  ·rw [List.getElem?_append_left (by omega)] at hj
   exact (h.rows j u x hj hx).turn hS (fun x _=>List.cons_ne_nil _ _)
  ·have hj2:=(List.getElem?_eq_some_iff.1 hj).1
   simp at hj2
   obtain rfl : j = k:=by omega
   rw [List.getElem?_append_right (by omega)] at hj
   simp [hk] at hj
   rw [hl] at hx;cases hx
   subst hj
   have hblk : ∀ b,(Value.slice a1 n1 c1).ownBlock = some b → W.heap.size ≤ b ∧ b < w1.heap.size:=fun b hb=>by
    refine ⟨?_,(ho1.lt b hb).2⟩
    rcases hl1 with e | e
    ·rw [e] at hb;cases hb
    ·rw [e] at hb;injection hb with hb;omega
   subst hn1
   refine own_rd (base:=N) (e:=45) ?_ insvals_len (fun b hb=>?_)
   ·refine own_turn ho1 (fun b hb hlt=>?_)
    have hbb:=hblk b hb
    rw [Below.heap_setCell _ _ _ _ (show b ≠ rb by omega),old2 b hlt (fun e=>by have:=hfl b e;omega)]
   ·have hbb:=hblk b hb
    exact ⟨by omega,by omega,hnf b hbb.2 (fun e=>by have:=hfl b e;omega)⟩
 ·exact h.rd.turn hS (fun x _=>by simp [int64s])
 ·have:=h.gl;simp [World.setCell];omega
theorem CodeL.done {w4 W : World} {rb N k g : Nat} {fs : List (List Ins)} {reds : List Int} {fv vr : Value} {us : List Value} (h : CodeL w4 W rb N fs reds k fv us vr g) (hk : fs.length = k) (hu : us.length = k) (h0 : 0 < fs.length) : CodeP (fun b=>N ≤ b ∧ b < W.heap.size) W rb fs reds:=by
 refine CodeP.turn (S:=fun b=>N ≤ b) (W:=W) ?_ (fun b hb hlt=>⟨⟨hb,hlt⟩,rfl⟩)
 refine ⟨fv,vr,g,h.rbN,h.c0,h.c1,h.c2,h.gN.1,h0,⟨us,by omega,?_,fun j u l hj hl=>(h.rows j u l hj hl).turn (fun b hb _=>⟨hb.1,rfl⟩) (fun x _=>List.cons_ne_nil _ _)⟩,h.rd.turn (fun b hb _=>⟨hb.1,rfl⟩) (fun x _=>by simp [int64s]),h.arr⟩
 refine own_rd (base:=N) (e:=46) ?_ (fun _=>rfl) (fun b hb=>(h.own.lt b hb).1)
 have hf : ∀ l : List Value,flat one l = l:=fun l=>by
  induction l with
  | nil=>rfl
  | cons x t ih=>simp only [flat,List.flatMap_cons,one] at *;rw [ih];rfl
 rw [hf us,hu]
 exact h.own
end Go.Proofs.YtkmakliebhnhbaaGreat
namespace Go.Proofs.YtkmakliebhnhbaaGreat
open Go.RowKit Go.Shelf
set_option maxHeartbeats 1000000 in
theorem body_calls {S : Nat → Prop} {fs : List (List Ins)} {reds : List Int} {cb f : Nat} {l : List Ins} (W : World) (hC : CodeP S W cb fs reds) (hl : fs[f]? = some l) :
  Calls Tryz.prog 76 #[.pointer (some ⟨cb,0,none⟩),.int .i64 (f : Int)] W fun e W'=>∃ a cap,e = .returned (.func (.func 119) #[] #[.pointer (some ⟨W.heap.size,0,none⟩)]) ∧ W' = W.alloc (.cells #[.slice a l.length cap] 46) ∧ RdL S W 5 Ins.vals (.slice a l.length cap) l:=by
 obtain ⟨vf,vk,g,s1,c0,c1,c2,s2,h0,hF,hK,hA⟩:=hC
 obtain ⟨us,hul,hu,hfs⟩:=hF
 have hfl:=(List.getElem?_eq_some_iff.1 hl).1
 obtain ⟨u,hu1⟩ : ∃ u,us[f]? = some u:=⟨us[f]'(by omega),by simp⟩
 have hrl:=hfs f u l hu1 hl
 obtain ⟨a,cap,rfl,hc,hm⟩:=hu.form
 obtain ⟨b,off,rfl,_,hce⟩:=hu.at hu1
 have d0:=hce 0 _ rfl
 simp only [Nat.mul_one,Nat.add_zero] at d0
 have HRL:=hide hrl
 obtain ⟨a1,cap1,rfl,hc1,hm1⟩:=hrl.form
 obtain ⟨n,hn⟩ : ∃ n,us.length = n:=⟨_,rfl⟩
 rw [hn] at c0 hc hul
 have hfi : (f : Int) < n:=by omega
 have hfn : f < n:=by omega
 unfold maxLen at hm hm1
 clear hfs hu hce hu1 hrl hK hA c1 c2 hul hn hl
 go_enter Tryz.func76,Tryz.ntmps76
 go_wp2_with (go_at_call 67;refine (each_calls _ _ _ _).mono ?_;rintro e w' ⟨rfl,rfl⟩)
 go_ret
 exact ⟨a1,cap1,rfl,rfl,HRL.out⟩
set_option maxHeartbeats 1000000 in
theorem kinds_calls {S : Nat → Prop} {fs : List (List Ins)} {reds : List Int} {cb : Nat} (W : World) (hC : CodeP S W cb fs reds) :
  Calls Tryz.prog 51 #[.pointer (some ⟨cb,0,none⟩)] W fun e W'=>∃ a cap,e = .returned (.func (.func 99) #[] #[.pointer (some ⟨W.heap.size,0,none⟩)]) ∧ W' = W.alloc (.cells #[.slice a reds.length cap] 30) ∧ RdL S W 1 int64s (.slice a reds.length cap) reds:=by
 obtain ⟨vf,vk,g,s1,c0,c1,c2,s2,h0,hF,hK,hA⟩:=hC
 have HK:=hide hK
 obtain ⟨a,cap,rfl,hc,hm⟩:=hK.form
 clear hK hF hA c0 c2
 go_enter Tryz.func51,Tryz.ntmps51
 go_wp2_with (go_at_call 73;refine (all_calls _ _ _ _).mono ?_;rintro e w' ⟨rfl,rfl⟩)
 go_ret
 exact ⟨a,cap,rfl,rfl,HK.out⟩
set_option maxHeartbeats 1000000 in
theorem cframes_calls {S : Nat → Prop} {fs : List (List Ins)} {reds : List Int} {cb : Nat} (W : World) (hC : CodeP S W cb fs reds) :
  Calls Tryz.prog 52 #[.pointer (some ⟨cb,0,none⟩)] W fun e W'=>e = .returned (.int .i64 (framesF fs)) ∧ W' = W:=by
 obtain ⟨vf,vk,g,s1,c0,c1,c2,s2,h0,hF,hK,hA⟩:=hC
 have h1:=(hA 0 h0).1
 simp only [Nat.zero_mul,toZ] at h1
 have HQ : Hid ((sizeF fs fs.length 0).1 = framesF fs):=rfl
 rw [HQ.out] at h1
 obtain ⟨n,hn⟩ : ∃ n,fs.length = n:=⟨_,rfl⟩
 rw [hn] at c2 h0
 obtain ⟨q,hq⟩ : ∃ q,framesF fs = q:=⟨_,rfl⟩
 rw [hq] at h1 ⊢
 clear hF hK hA hn hq HQ c0 c1
 have hni : (0 : Int) < n:=by omega
 go_enter Tryz.func52,Tryz.ntmps52
 go_wp2
 go_ret
 exact ⟨rfl,rfl⟩
end Go.Proofs.YtkmakliebhnhbaaGreat
