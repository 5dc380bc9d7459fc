import Derived.Deep.DrawnRows
import Derived.Lib.SliceRun
import Derived.Deep.RegionLaw
import Derived.Deep.DeepCutAuto
import Derived.Test.YtkmakliebhnhbaaGreatSaid
import Derived.Test.YtkmakliebhnhbaaGreatLawW
import Derived.Test.YtkmakliebhnhbaaGreatRows
import Derived.Test.YtkmakliebhnhbaaGreatSer
namespace Go.Proofs.YtkmakliebhnhbaaGreat
open Go.RowKit
structure RefL (w4 W : World) (rb N : Nat) (fs : List (List Ins)) (reds : List Int) (k : Nat) (fv : Value) (us : List Value) (vr : Value) : Prop where
 below : Below N w4 W
 c0 : W.cell? ⟨rb,0,none⟩ = some fv
 c1 : W.cell? ⟨rb,1,none⟩ = some vr
 fz : W.frozen? ⟨rb,0,none⟩ = false
 rbN : N ≤ rb
 own : W.ownsRow N 46 1 fv k us
 fb : fv.ownBlock ≠ some rb
 rows : ∀ (j : Nat) (u : Value) (l : List Ins),us[j]? = some u → fs[j]? = some l → RdL (fun b=>N ≤ b ∧ b ≠ rb ∧ fv.ownBlock ≠ some b) W 5 Ins.vals u l
 rd : RdL (fun b=>N ≤ b ∧ b ≠ rb ∧ fv.ownBlock ≠ some b) W 1 int64s vr reds
theorem RefL.next {w4 W w1 w2 : World} {rb N k : Nat} {fs : List (List Ins)} {reds : List Int} {fv vr : Value} {us : List Value} {l : List Ins} {o0 o1 : Obj} {a1 a2 : Option Addr} {n1 c1 c2 H1 : Nat} (h : RefL w4 W rb N fs reds k fv us vr) (hk : us.length = k) (hl : fs[k]? = some l) (hN : N ≤ W.heap.size)
  (e0 : Value) (he0 : e0.ownBlock = some W.heap.size) (g1 : (W.alloc o0).grownBy w1 e0.ownBlock) (ho1 : w1.ownsRow N 45 5 (.slice a1 n1 c1) n1 (flat Ins.vals l)) (hn1 : n1 = l.length)
  (hl1 : (Value.slice a1 n1 c1).ownBlock = e0.ownBlock ∨ (Value.slice a1 n1 c1).ownBlock = some H1) (hH1 : H1 = W.heap.size + 1)
  (g2 : (w1.alloc o1).grownBy w2 fv.ownBlock) (ho2 : w2.ownsRow N 46 1 (.slice a2 (k + 1) c2) (k + 1) (us ++ [.slice a1 n1 c1]))
  (H2 : Nat) (hl2 : (Value.slice a2 (k + 1) c2).ownBlock = fv.ownBlock ∨ (Value.slice a2 (k + 1) c2).ownBlock = some H2) (hH2 : H2 = w1.heap.size + 1) :
  RefL w4 (w2.setCell ⟨rb,0,none⟩ (.slice a2 (k + 1) c2)) rb N fs reds (k + 1) (.slice a2 (k + 1) c2) (us ++ [.slice a1 n1 c1]) vr:=by
 have hrl : rb < W.heap.size:=block_lt_of_cell h.c0
 have hs1 : W.heap.size + 1 ≤ w1.heap.size:=by have:=g1.size;simpa using this
 have hs2 : w1.heap.size + 1 ≤ w2.heap.size:=by have:=g2.size;simpa using this
 have hfl : ∀ b,fv.ownBlock = some b → b < W.heap.size:=fun b hb=>(h.own.lt b hb).2
 have old1 : ∀ b,b < W.heap.size → w1.heap[b]? = W.heap[b]?:=fun b hb=>by
  rw [g1.block b (by simp;omega) (by rw [he0];intro e;injection e with e;omega),Below.heap_alloc _ _ _ hb]
 have old2 : ∀ b,b < w1.heap.size → fv.ownBlock ≠ some b → w2.heap[b]? = w1.heap[b]?:=fun b hb hne=>by
  rw [g2.block b (by simp;omega) (fun e=>hne e.symm),Below.heap_alloc _ _ _ hb]
 have oldr : ∀ b,b < W.heap.size → b ≠ rb → fv.ownBlock ≠ some b → (w2.setCell ⟨rb,0,none⟩ (.slice a2 (k + 1) c2)).heap[b]? = W.heap[b]?:=fun b hb h1 h2=>by
  rw [Below.heap_setCell _ _ _ _ h1,old2 b (by omega) h2,old1 b hb]
 have hrb2 : w2.heap[rb]? = W.heap[rb]?:=by rw [old2 rb (by omega) h.fb,old1 rb hrl]
 have hfb2 : (Value.slice a2 (k + 1) c2).ownBlock ≠ some rb:=by
  rcases hl2 with e | e
  ·rw [e];exact h.fb
  ·rw [e];intro e2;injection e2 with e2;omega
 have hnf : ∀ b,b < w1.heap.size → fv.ownBlock ≠ some b → (Value.slice a2 (k + 1) c2).ownBlock ≠ some b:=fun b hb hne=>by
  rcases hl2 with e | e
  ·rw [e];exact hne
  ·rw [e];intro e2;injection e2 with e2;omega
 have hS : ∀ b,(N ≤ b ∧ b ≠ rb ∧ fv.ownBlock ≠ some b) → b < W.heap.size → (N ≤ b ∧ b ≠ rb ∧ (Value.slice a2 (k + 1) c2).ownBlock ≠ some b) ∧ (w2.setCell ⟨rb,0,none⟩ (.slice a2 (k + 1) c2)).heap[b]? = W.heap[b]?:=fun b hb hlt =>
  ⟨⟨hb.1,hb.2.1,hnf b (by omega) hb.2.2⟩,oldr b hlt hb.2.1 hb.2.2⟩
 refine ⟨?_,?_,?_,?_,h.rbN,?_,hfb2,?_,?_⟩
 ·refine Below.setCell (h.below.trans ?_) (p:=⟨rb,0,none⟩) h.rbN _
  refine ⟨g2.os.trans g1.os,g2.tape.trans g1.tape,g2.output.trans g1.output,by omega,fun b hb=>?_⟩
  rw [old2 b (by omega) (fun e=>by have:=(h.own.lt b e).1;omega),old1 b (by omega)]
 ·rw [World.cell?_setCell_same' _ _ _ (by rw [World.cell?_of_block (w:=W) (a:=⟨rb,0,none⟩) hrb2,h.c0];rfl)]
 ·rw [World.cell?_setCell_other _ _ _ _ (by simp)]
  exact (World.cell?_of_block (w:=W) (a:=⟨rb,1,none⟩) hrb2).trans h.c1
 ·rw [World.frozen?_setCell]
  exact (World.frozen?_of_block (w:=W) (a:=⟨rb,0,none⟩) hrb2).trans h.fz
 ·exact own_turn ho2 (fun b hb _=>Below.heap_setCell _ _ _ _ (fun e=>hfb2 (by rw [hb,e])))
 ·intro j u x hj hx
  by_cases hjk : j < k
  ·rw [List.getElem?_append_left (by omega)] at hj
   exact (h.rows j u x hj hx).turn hS (fun x _=>List.cons_ne_nil _ _)
  ·have hj2:=(List.getElem?_eq_some_iff.1 hj).1
   simp at hj2
   obtain rfl : j = k:=by omega
   rw [List.getElem?_append_right (by omega)] at hj
   simp [hk] at hj
   rw [hl] at hx;cases hx
   subst hj
   have hblk : ∀ b,(Value.slice a1 n1 c1).ownBlock = some b → W.heap.size ≤ b ∧ b < w1.heap.size:=fun b hb=>by
    refine ⟨?_,(ho1.lt b hb).2⟩
    rcases hl1 with e | e
    ·rw [e,he0] at hb;injection hb with hb;omega
    ·rw [e] at hb;injection hb with hb;omega
   subst hn1
   refine own_rd (base:=N) (e:=45) ?_ insvals_len (fun b hb=>?_)
   ·refine own_turn ho1 (fun b hb hlt=>?_)
    have hbb:=hblk b hb
    rw [Below.heap_setCell _ _ _ _ (show b ≠ rb by omega),old2 b hlt (fun e=>by have:=hfl b e;omega)]
   ·have hbb:=hblk b hb
    exact ⟨by omega,by omega,hnf b hbb.2 (fun e=>by have:=hfl b e;omega)⟩
 ·exact h.rd.turn hS (fun x _=>by simp [int64s])
theorem RefL.done {w4 W : World} {rb N k : Nat} {fs : List (List Ins)} {reds : List Int} {fv vr : Value} {us : List Value} (h : RefL w4 W rb N fs reds k fv us vr) (hk : fs.length = k) (hu : us.length = k) : RefP (fun b=>N ≤ b) W (.pointer (some ⟨rb,0,none⟩)) fs reds:=by
 refine ⟨rb,fv,vr,rfl,h.rbN,h.c0,h.c1,⟨us,by omega,?_,fun j u l hj hl=>(h.rows j u l hj hl).turn (fun b hb _=>⟨hb.1,rfl⟩) (fun x _=>List.cons_ne_nil _ _)⟩,h.rd.turn (fun b hb _=>⟨hb.1,rfl⟩) (fun x _=>by simp [int64s])⟩
 refine own_rd (base:=N) (e:=46) ?_ (fun _=>rfl) (fun b hb=>(h.own.lt b hb).1)
 have hf : ∀ l : List Value,flat one l = l:=fun l=>by
  induction l with
  | nil=>rfl
  | cons x t ih=>simp only [flat,List.flatMap_cons,one] at *;rw [ih];rfl
 rw [hf us,hu]
 exact h.own
end Go.Proofs.YtkmakliebhnhbaaGreat
namespace Go.Proofs.YtkmakliebhnhbaaGreat
open Go.RowKit
set_option maxHeartbeats 400000 in
theorem num_any (e : Int) (w : World) : Calls Tryz.prog 19 #[.int .i64 e] w fun x w'=>x = .returned (.int .i64 e) ∧ w' = w:=by
 go_enter Tryz.func19,Tryz.ntmps19
 go_wp2
 go_ret
 exact ⟨rfl,rfl⟩
set_option maxHeartbeats 400000 in
theorem pick_any (c n : Int) (w : World) (h : 0 < n) (h2 : n ≤ 1000000000) (hc : -9223372036854775808 ≤ c) (hc2 : c ≤ 9223372036854775807) :
  Calls Tryz.prog 9 #[.int .i64 c,.int .i64 n] w fun e w'=>∃ k : Nat,(k : Int) < n ∧ e = .returned (.int .i64 k) ∧ w' = w:=by
 have hn0 : ¬ n = 0:=by omega
 by_cases hlt : c < 0
 ·have hd0 : 0 ≤ (-(c + 1)) % n:=Int.emod_nonneg _ hn0
  have hd1 : (-(c + 1)) % n < n:=Int.emod_lt_of_pos _ h
  go_enter Tryz.func9,Tryz.ntmps9
  go_wp2
  go_ret
  refine ⟨((-(c + 1)) % n).toNat,by omega,?_,rfl⟩
  rw [Int.toNat_of_nonneg hd0,← Int.tmod_eq_emod_of_nonneg (by omega),Int.neg_tmod]
  rfl
 ·have hd0 : 0 ≤ c % n:=Int.emod_nonneg _ hn0
  have hd1 : c % n < n:=Int.emod_lt_of_pos _ h
  go_enter Tryz.func9,Tryz.ntmps9
  go_wp2
  go_ret
  refine ⟨(c % n).toNat,by omega,?_,rfl⟩
  rw [Int.toNat_of_nonneg hd0]
  rfl
end Go.Proofs.YtkmakliebhnhbaaGreat
namespace Go.Proofs.YtkmakliebhnhbaaGreat
open Go.RowKit
theorem Tryz.infoInt2 : (Tryz.prog.info? 3).map (fun i=>(i.zero,i.size,i.bytes)) = some (some (.int .i64 0),1,8):=by kernel_rfl
theorem Tryz.infoIns2 : (Tryz.prog.info? 45).map (fun i=>(i.zero,i.size,i.bytes)) = some (some (.agg #[.int .i64 0,.int .i64 0,.int .i64 0,.int .i64 0,.int .i64 0]),5,40):=by kernel_rfl
theorem Tryz.infoLIns : (Tryz.prog.info? 46).map (fun i=>(i.zero,i.size,i.bytes)) = some (some (.slice none 0 0),1,24):=by kernel_rfl
theorem setCell_twice (W : World) (a : Addr) (u v : Value) : (W.setCell a u).setCell a v = W.setCell a v:=by
 unfold World.setCell
 congr 1
 apply Array.ext_getElem?
 intro i
 simp only [Array.getElem?_modify]
 split
 ·cases W.heap[i]? with
  | none=>rfl
  | some o=>cases o <;> simp <;> split <;> simp
 ·rfl
structure Lent (w W : World) (gm go n : Nat) (fs : List (List Ins)) (k : Nat) (ms os : List Value) (G : Nat → Nat) : Prop where
 below : Below w.heap.size w W
 om : W.ownsRow w.heap.size 46 1 (.slice (some ⟨gm,0,none⟩) n n) n ms
 oo : W.ownsRow w.heap.size 46 1 (.slice (some ⟨go,0,none⟩) (n + 3) (n + 3)) (n + 3) os
 ne : gm ≠ go
 row : ∀ j l,j < k → fs[j]? = some l → ms[j]? = some (.slice (some ⟨G j,0,none⟩) (l.length + 3) (l.length + 3)) ∧ W.ownsRow w.heap.size 45 5 (.slice (some ⟨G j,0,none⟩) (l.length + 3) (l.length + 3)) (l.length + 3) (flat Ins.vals (mkc l 3)) ∧
  (os[j]? = some (.slice (some ⟨G j,0,none⟩) l.length (l.length + 3)) ∨ (l = [] ∧ os[j]? = some (.slice none 0 0)))
 rest : ∀ j,k ≤ j → j < n + 3 → os[j]? = some (.slice none 0 0)
 far : ∀ j,j < k → G j ≠ gm ∧ G j ≠ go ∧ G j < W.heap.size ∧ ∀ i,i < k → i ≠ j → G i ≠ G j
theorem len_om {w W : World} {gm go n k : Nat} {fs : List (List Ins)} {ms os : List Value} {G : Nat → Nat} (h : Lent w W gm go n fs k ms os G) : ms.length = n ∧ os.length = n + 3:=by
 have h1:=h.om.1;have h2:=h.oo.1;exact ⟨by omega,by omega⟩
theorem Lent.next {w W W2 : World} {gm go n k : Nat} {fs : List (List Ins)} {ms os : List Value} {G : Nat → Nat} {l : List Ins} (h : Lent w W gm go n fs k ms os G) (hk : k < n) (hl : fs[k]? = some l) (g : Nat) (hg : g = W.heap.size) (hb2 : Below W.heap.size W W2)
  (ho : W2.ownsRow W.heap.size 45 5 (.slice (some ⟨g,0,none⟩) (l.length + 3) (l.length + 3)) (l.length + 3) (flat Ins.vals (mkc l 3))) (u : Value) (hu : u = .slice (some ⟨g,0,none⟩) l.length (l.length + 3) ∨ (l = [] ∧ u = .slice none 0 0)) (m : Nat) :
  Lent w (((W2.setCell ⟨gm,k,none⟩ (.slice (some ⟨g,0,none⟩) (l.length + 3) (l.length + 3))).setCell ⟨go,k,none⟩ u).drewN m) gm go n fs (k + 1) (ms.set k (.slice (some ⟨g,0,none⟩) (l.length + 3) (l.length + 3))) (os.set k u) (fun j=>if j = k then g else G j):=by
 obtain ⟨l1,l2⟩:=len_om h
 have hgm:=(h.om.lt gm rfl)
 have hgo:=(h.oo.lt go rfl)
 have hW2 : W.heap.size ≤ W2.heap.size:=hb2.size
 have hgl : g < W2.heap.size:=(ho.lt g rfl).2
 have hne : g ≠ gm:=by omega
 have hne2 : g ≠ go:=by omega
 have hother : ∀ {e : TypeId} {size : Nat} {v : Value} {q : Nat} {xs : List Value} {bs : Nat},W2.ownsRow bs e size v q xs → v.ownBlock ≠ some gm → v.ownBlock ≠ some go → ∀ u1 u2,(((W2.setCell ⟨gm,k,none⟩ u1).setCell ⟨go,k,none⟩ u2).drewN m).ownsRow bs e size v q xs:=fun hv h1 h2 u1 u2 =>
  own_drewN (own_set_other (own_set_other hv h1 u1) h2 u2) m
 refine ⟨?_,?_,?_,h.ne,?_,?_,?_⟩
 ·exact below_drewN (((h.below.trans (hb2.mono h.below.size)).setCell (p:=⟨gm,k,none⟩) hgm.1 _).setCell (p:=⟨go,k,none⟩) hgo.1 _) m
 ·exact own_drewN (own_set_other ((own_below h.om hb2).stored k _).1 (by simp [Value.ownBlock];exact h.ne) _) m
 ·exact own_drewN ((own_set_other (own_below h.oo hb2) (by simp [Value.ownBlock];exact fun e=>h.ne e.symm) _).stored k _).1 m
 ·intro j l' hj hl'
  by_cases e : j = k
  ·subst e
   rw [hl] at hl';cases hl'
   simp only [if_true]
   refine ⟨by rw [List.getElem?_set_self (by omega)],hother (own_base ho h.below.size) (by simp [Value.ownBlock];exact hne) (by simp [Value.ownBlock];exact hne2) _ _,?_⟩
   rw [List.getElem?_set_self (by omega)]
   rcases hu with hu | ⟨h1,h2⟩
   ·exact .inl (by rw [hu])
   ·exact .inr ⟨h1,by rw [h2]⟩
  ·obtain ⟨r1,r2,r3⟩:=h.row j l' (by omega) hl'
   obtain ⟨f1,f2,f3,f4⟩:=h.far j (by omega)
   simp only [e,if_false]
   rw [List.getElem?_set_ne (by omega),List.getElem?_set_ne (by omega)]
   exact ⟨r1,hother (own_below r2 hb2) (by simp [Value.ownBlock];exact f1) (by simp [Value.ownBlock];exact f2) _ _,r3⟩
 ·intro j hj hjn
  rw [List.getElem?_set_ne (by omega)]
  exact h.rest j (by omega) hjn
 ·intro j hj
  have hsz : (((W2.setCell ⟨gm,k,none⟩ (.slice (some ⟨g,0,none⟩) (l.length + 3) (l.length + 3))).setCell ⟨go,k,none⟩ u).drewN m).heap.size = W2.heap.size:=by simp [World.setCell,World.drewN]
  rw [hsz]
  by_cases e : j = k
  ·subst e
   simp only [if_true]
   refine ⟨hne,hne2,hgl,fun i hi hij=>?_⟩
   simp only [hij,if_false]
   have:=(h.far i (by omega)).2.2.1
   omega
  ·obtain ⟨f1,f2,f3,f4⟩:=h.far j (by omega)
   simp only [e,if_false]
   refine ⟨f1,f2,by omega,fun i hi hij=>?_⟩
   by_cases e2 : i = k
   ·simp only [e2,if_true];omega
   ·simp only [e2,if_false];exact f4 i (by omega) hij
theorem mkc_take (l : List Ins) (q : Nat) (hq : q < l.length) : (mkc l 3)[q]? = l[q]?:=by
 unfold mkc
 rw [List.append_assoc,List.getElem?_append_left hq]
def HidG (G : Nat → Nat) (j : Nat) : Nat:=G j
theorem Lent.rd {w W : World} {gm go n : Nat} {fs : List (List Ins)} {ms os : List Value} {G : Nat → Nat} (h : Lent w W gm go n fs n ms os G) (hn : fs.length = n) (hm : ∀ l ∈ fs,l.length ≤ 2000000) (hn2 : n ≤ 2000000) : RdF (fun b=>w.heap.size ≤ b) W (.slice (some ⟨go,0,none⟩) n (n + 3)) fs:=by
 obtain ⟨l1,l2⟩:=len_om h
 have hgo:=h.oo.lt go rfl
 refine ⟨os.take n,by simp;omega,⟨_,n + 3,by simp;omega,by simp;omega,by unfold maxLen;omega,.inr ⟨go,0,rfl,hgo.1,fun k x hk j u hu=>?_⟩⟩,fun k u x hk hx=>?_⟩
 ·simp only [one] at hu
  match j,hu with
  | 0,hu =>
   simp at hu;subst hu
   have hkn : k < n:=by have:=(List.getElem?_eq_some_iff.1 hk).1;simp at this;omega
   rw [List.getElem?_take_of_lt hkn] at hk
   simp only [Nat.zero_add,Nat.mul_one,Nat.add_zero]
   rw [h.oo.cellAt k (by omega),hk]
 ·have hkn : k < n:=by have:=(List.getElem?_eq_some_iff.1 hk).1;simp at this;omega
  rw [List.getElem?_take_of_lt hkn] at hk
  obtain ⟨r1,r2,r3⟩:=h.row k x hkn hx
  have hxl:=hm x (List.mem_of_getElem? hx)
  rcases r3 with r3 | ⟨rfl,r3⟩
  ·rw [hk] at r3;cases r3
   have hG:=(r2.lt (G k) rfl)
   refine ⟨_,_,rfl,by omega,by unfold maxLen;omega,.inr ⟨G k,0,rfl,hG.1,fun q y hq j u hu=>?_⟩⟩
   have hql:=(List.getElem?_eq_some_iff.1 hq).1
   have hj : j < 5:=by have:=(List.getElem?_eq_some_iff.1 hu).1;rw [insvals_len] at this;exact this
   rw [Nat.zero_add,r2.cellAt _ (by omega),flat_get insvals_len (mkc x 3) ((mkc_take x q hql).trans hq) hj,hu]
  ·rw [hk] at r3;cases r3
   exact ⟨none,0,rfl,by simp,by unfold maxLen;omega,.inl ⟨rfl,fun _=>rfl⟩⟩
theorem mk77_take (l : List Int) (q : Nat) (hq : q < l.length) : (mk77 l 3)[q]? = l[q]?:=by
 unfold mk77
 rw [List.append_assoc,List.getElem?_append_left hq]
theorem nums_rd {W : World} {base g n : Nat} {e : TypeId} {l : List Int} (h : W.ownsRow base e 1 (.slice (some ⟨g,0,none⟩) (n + 3) (n + 3)) (n + 3) (flat int64s (mk77 l 3))) (hl : l.length = n) (hn : n ≤ 2000000) : RdL (fun b=>base ≤ b) W 1 int64s (.slice (some ⟨g,0,none⟩) n (n + 3)) l:=by
 refine ⟨_,n + 3,by rw [hl],by omega,by unfold maxLen;omega,.inr ⟨g,0,rfl,(h.lt g rfl).1,fun q y hq j u hu=>?_⟩⟩
 have hql:=(List.getElem?_eq_some_iff.1 hq).1
 have hj : j < 1:=by have:=(List.getElem?_eq_some_iff.1 hu).1;rw [int64s_len] at this;exact this
 rw [Nat.zero_add,h.cellAt _ (by omega),flat_get int64s_len (mk77 l 3) ((mk77_take l q hql).trans hq) hj,hu]
theorem Lent.below' {w W W' : World} {gm go n k : Nat} {fs : List (List Ins)} {ms os : List Value} {G : Nat → Nat} (h : Lent w W gm go n fs k ms os G) (hb : Below W.heap.size W W') : Lent w W' gm go n fs k ms os G :=
 { h with
  below:=h.below.trans (hb.mono h.below.size)
  om:=own_below h.om hb
  oo:=own_below h.oo hb
  row:=fun j l hj hl=>by obtain ⟨r1,r2,r3⟩:=h.row j l hj hl;exact ⟨r1,own_below r2 hb,r3⟩
  far:=fun j hj=>by obtain ⟨f1,f2,f3,f4⟩:=h.far j hj;exact ⟨f1,f2,Nat.lt_of_lt_of_le f3 hb.size,f4⟩ }
theorem Lent.frm {w W W' : World} {gm go n k : Nat} {fs : List (List Ins)} {ms os : List Value} {G : Nat → Nat} {M : Nat → Prop} (h : Lent w W gm go n fs k ms os G) (hf : Frm M W W') (hM : ∀ b,M b → w.heap.size ≤ b ∧ b ≠ gm ∧ b ≠ go ∧ ∀ j,j < k → G j ≠ b) : Lent w W' gm go n fs k ms os G :=
 { h with
  below:=h.below.trans ⟨hf.os,hf.tape,hf.output,hf.size,fun b hb=>hf.block b (Nat.lt_of_lt_of_le hb h.below.size) (fun hm=>by have:=(hM b hm).1;omega)⟩
  om:=own_turn h.om (fun b hb hl=>hf.block b hl (fun hm=>by simp [Value.ownBlock] at hb;exact (hM b hm).2.1 hb.symm))
  oo:=own_turn h.oo (fun b hb hl=>hf.block b hl (fun hm=>by simp [Value.ownBlock] at hb;exact (hM b hm).2.2.1 hb.symm))
  row:=fun j l hj hl=>by
   obtain ⟨r1,r2,r3⟩:=h.row j l hj hl
   exact ⟨r1,own_turn r2 (fun b hb hl=>hf.block b hl (fun hm=>by simp [Value.ownBlock] at hb;exact (hM b hm).2.2.2 j hj hb)),r3⟩
  far:=fun j hj=>by obtain ⟨f1,f2,f3,f4⟩:=h.far j hj;exact ⟨f1,f2,Nat.lt_of_lt_of_le f3 hf.size,f4⟩ }
structure Back (w W0 W : World) (gm go n : Nat) (fs : List (List Ins)) (ms os : List Value) (G : Nat → Nat) (k : Nat) (os2 : List Value) : Prop where
 frm : Frm (fun b=>b = go ∨ ∃ j,j < n ∧ G j = b) W0 W
 om : W.ownsRow w.heap.size 46 1 (.slice (some ⟨gm,0,none⟩) n n) n ms
 oo : W.ownsRow w.heap.size 46 1 (.slice (some ⟨go,0,none⟩) (n + 3) (n + 3)) (n + 3) os2
 same : ∀ j,k ≤ j → os2[j]? = os[j]?
 row : ∀ j l,k ≤ j → j < n → fs[j]? = some l → W.ownsRow w.heap.size 45 5 (.slice (some ⟨G j,0,none⟩) (l.length + 3) (l.length + 3)) (l.length + 3) (flat Ins.vals (mkc l 3))
theorem Back.start {w W : World} {gm go n : Nat} {fs : List (List Ins)} {ms os : List Value} {G : Nat → Nat} (h : Lent w W gm go n fs n ms os G) : Back w W W gm go n fs ms os G 0 os :=
 ⟨Frm.refl _ _,h.om,h.oo,fun _ _=>rfl,fun j l _ hj hl=>(h.row j l hj hl).2.1⟩
theorem Back.next {w W0 W W2 : World} {gm go n k : Nat} {fs : List (List Ins)} {ms os os2 : List Value} {G : Nat → Nat} (hL : Lent w W0 gm go n fs n ms os G) (h : Back w W0 W gm go n fs ms os G k os2) (_hk : k < n + 3) (M : Nat → Prop) (hf : Frm M W W2) (hM : ∀ b,M b → k < n ∧ G k = b) :
  Back w W0 (W2.setCell ⟨go,k,none⟩ (.slice none 0 0)) gm go n fs ms os G (k + 1) (os2.set k (.slice none 0 0)):=by
 have hgo : go < W0.heap.size:=(hL.oo.lt go rfl).2
 refine ⟨?_,?_,?_,?_,?_⟩
 ·refine Frm.setCell (h.frm.trans hf (fun b _ hm=>.inr ⟨k,(hM b hm).1,(hM b hm).2⟩)) (p:=⟨go,k,none⟩) (.inl (.inl rfl)) _
 ·refine own_set_other (own_turn h.om (fun b hb hl=>hf.block b hl (fun hm=>?_))) (by simp [Value.ownBlock];exact hL.ne) _
  simp [Value.ownBlock] at hb
  obtain ⟨q1,q2⟩:=hM b hm
  exact (hL.far k q1).1 (q2.trans hb.symm)
 ·refine ((own_turn h.oo (fun b hb hl=>hf.block b hl (fun hm=>?_))).stored k _).1
  simp [Value.ownBlock] at hb
  obtain ⟨q1,q2⟩:=hM b hm
  exact (hL.far k q1).2.1 (q2.trans hb.symm)
 ·intro j hj
  rw [List.getElem?_set_ne (by omega)]
  exact h.same j (by omega)
 ·intro j l hj hjn hl
  refine own_set_other (own_turn (h.row j l (by omega) hjn hl) (fun b hb hl=>hf.block b hl (fun hm=>?_))) (by simp [Value.ownBlock];exact (hL.far j hjn).2.1) _
  simp [Value.ownBlock] at hb
  obtain ⟨q1,q2⟩:=hM b hm
  exact (hL.far j hjn).2.2.2 k q1 (by omega) (q2.trans hb.symm)
theorem Bk.prog {W w1 w2 : World} {B Bw : Nat} {S : Nat → Prop} {pv rv nv ev vv p r : Value} {pu ru nu eu vu : List Value} {o1 o2 : Obj} {a1 a2 : Option Addr} {c1 c2 H1 H2 : Nat} (h : Bk W B Bw S pv rv nv ev vv pu ru nu eu vu)
  (g1 : (W.alloc o1).grownBy w1 pv.ownBlock) (ho1 : w1.ownsRow B 48 1 (.slice a1 (pu.length + 1) c1) (pu.length + 1) (pu ++ [p])) (l1 : (Value.slice a1 (pu.length + 1) c1).ownBlock = pv.ownBlock ∨ (Value.slice a1 (pu.length + 1) c1).ownBlock = some H1) (hH1 : H1 = W.heap.size + 1)
  (g2 : ((w1.setCell ⟨Bw,0,none⟩ (.slice a1 (pu.length + 1) c1)).alloc o2).grownBy w2 rv.ownBlock) (ho2 : w2.ownsRow B 49 1 (.slice a2 (ru.length + 1) c2) (ru.length + 1) (ru ++ [r])) (l2 : (Value.slice a2 (ru.length + 1) c2).ownBlock = rv.ownBlock ∨ (Value.slice a2 (ru.length + 1) c2).ownBlock = some H2) (hH2 : H2 = w1.heap.size + 1) :
  Bk (w2.setCell ⟨Bw,1,none⟩ (.slice a2 (ru.length + 1) c2)) B Bw S (.slice a1 (pu.length + 1) c1) (.slice a2 (ru.length + 1) c2) nv ev vv (pu ++ [p]) (ru ++ [r]) nu eu vu ∧
  Frm (fun k=>k = Bw ∨ pv.ownBlock = some k ∨ rv.ownBlock = some k) W (w2.setCell ⟨Bw,1,none⟩ (.slice a2 (ru.length + 1) c2)):=by
 have hs1 : W.heap.size + 1 ≤ w1.heap.size:=by have:=g1.size;simpa using this
 have hs2 : w1.heap.size + 1 ≤ w2.heap.size:=by have:=g2.size;simpa [World.setCell] using this
 have hpl : ∀ b,pv.ownBlock = some b → b < W.heap.size:=fun b hb=>(h.op.lt b hb).2
 have hrl : ∀ b,rv.ownBlock = some b → b < W.heap.size:=fun b hb=>(h.or.lt b hb).2
 have f1 : Frm (fun k=>k = Bw ∨ pv.ownBlock = some k ∨ rv.ownBlock = some k) W (w1.setCell ⟨Bw,0,none⟩ (.slice a1 (pu.length + 1) c1)) :=
  Frm.setCell (((Frm.refl _ W).alloc o1).trans (Frm.of_grown g1) (fun k _ hk=>.inr (.inl hk))) (p:=⟨Bw,0,none⟩) (.inl (.inl rfl)) _
 have f2 : Frm (fun k=>k = Bw ∨ pv.ownBlock = some k ∨ rv.ownBlock = some k) W (w2.setCell ⟨Bw,1,none⟩ (.slice a2 (ru.length + 1) c2)) :=
  Frm.setCell ((f1.alloc o2).trans (Frm.of_grown g2) (fun k _ hk=>.inr (.inr hk))) (p:=⟨Bw,1,none⟩) (.inl (.inl rfl)) _
 have hb1 : (Value.slice a1 (pu.length + 1) c1).ownBlock ≠ some Bw:=by
  rcases l1 with e | e
  ·rw [e];exact h.bp
  ·rw [e];intro e2;injection e2 with e2;have:=h.lt;omega
 have hb2 : (Value.slice a2 (ru.length + 1) c2).ownBlock ≠ some Bw:=by
  rcases l2 with e | e
  ·rw [e];exact h.br
  ·rw [e];intro e2;injection e2 with e2;have:=h.lt;omega
 have hblk1 : w1.heap[Bw]? = W.heap[Bw]?:=(g1.block Bw (by simp;have:=h.lt;omega) (fun e=>h.bp e.symm)).trans (Below.heap_alloc _ _ _ h.lt)
 have hblk2 : w2.heap[Bw]? = (w1.setCell ⟨Bw,0,none⟩ (.slice a1 (pu.length + 1) c1)).heap[Bw]?:=by
  have hl : Bw < (w1.setCell ⟨Bw,0,none⟩ (.slice a1 (pu.length + 1) c1)).heap.size:=by have:=h.lt;simp [World.setCell];omega
  exact (g2.block Bw (by simp at hl ⊢;omega) (fun e=>h.br e.symm)).trans (Below.heap_alloc _ _ _ hl)
 have cellB : ∀ j,j ≠ 0 → j ≠ 1 → (w2.setCell ⟨Bw,1,none⟩ (.slice a2 (ru.length + 1) c2)).cell? ⟨Bw,j,none⟩ = W.cell? ⟨Bw,j,none⟩:=fun j h0 h1=>by
  rw [World.cell?_setCell_other _ _ _ _ (by intro e;injection e with _ e;exact h1 e.symm),World.cell?_of_block (w:=w1.setCell ⟨Bw,0,none⟩ _) (a:=⟨Bw,j,none⟩) hblk2,World.cell?_setCell_other _ _ _ _ (by intro e;injection e with _ e;exact h0 e.symm),World.cell?_of_block (w:=W) (a:=⟨Bw,j,none⟩) hblk1]
 have keep : ∀ (u : Value) (e : TypeId) (m : Nat) (xs : List Value),W.ownsRow B e 1 u m xs → u.ownBlock ≠ some Bw → Clear u pv → Clear u rv → (w2.setCell ⟨Bw,1,none⟩ (.slice a2 (ru.length + 1) c2)).ownsRow B e 1 u m xs:=fun u e m xs ho h1 h2 h3 =>
  own_turn ho (fun k hk hkl=>f2.block k hkl (fun hh=>by
   rcases hh with hh | hh | hh
   ·exact h1 (hh ▸ hk)
   ·exact h2 k hk hh
   ·exact h3 k hk hh))
 have xp : ∀ u : Value,Clear u pv → (∀ k,u.ownBlock = some k → k < W.heap.size) → Clear u (.slice a1 (pu.length + 1) c1):=fun u h2 h3 k hk hv=>by
  rcases l1 with e | e
  ·exact h2 k hk (e.symm.trans hv)
  ·rw [e] at hv;injection hv with hv;have:=h3 k hk;omega
 have xr : ∀ u : Value,Clear u rv → (∀ k,u.ownBlock = some k → k < w1.heap.size) → Clear u (.slice a2 (ru.length + 1) c2):=fun u h2 h3 k hk hv=>by
  rcases l2 with e | e
  ·exact h2 k hk (e.symm.trans hv)
  ·rw [e] at hv;injection hv with hv;have:=h3 k hk;omega
 have nlt : ∀ q,nv.ownBlock = some q → q < W.heap.size:=fun q hq=>(h.on.lt q hq).2
 have elt : ∀ q,ev.ownBlock = some q → q < W.heap.size:=fun q hq=>(h.oe.lt q hq).2
 have vlt : ∀ q,vv.ownBlock = some q → q < W.heap.size:=fun q hq=>(h.ov.lt q hq).2
 have p1lt : ∀ q,(Value.slice a1 (pu.length + 1) c1).ownBlock = some q → q < w1.heap.size:=fun q hq=>(ho1.lt q hq).2
 have prr : Clear (.slice a1 (pu.length + 1) c1) rv:=fun k hk hv=>by
  rcases l1 with e | e
  ·exact h.pr k (e.symm.trans hk) hv
  ·rw [e] at hk;injection hk with hk;have:=hrl k hv;omega
 have hS : ∀ b,S b → b < W.heap.size → S b ∧ (w2.setCell ⟨Bw,1,none⟩ (.slice a2 (ru.length + 1) c2)).heap[b]? = W.heap[b]?:=fun b hb hlt=>by
  obtain ⟨q0,q1,qp,qr,qn,qe,qv⟩:=h.st b hb
  exact ⟨hb,f2.block b hlt (fun hh=>by rcases hh with hh | hh | hh;exact q1 hh;exact qp hh;exact qr hh)⟩
 refine ⟨?_,f2⟩
 exact {
  bw:=h.bw
  lt:=Nat.lt_of_lt_of_le h.lt f2.size
  c0:=by
   rw [World.cell?_setCell_other _ _ _ _ (by simp),World.cell?_of_block (w:=w1.setCell ⟨Bw,0,none⟩ _) (a:=⟨Bw,0,none⟩) hblk2]
   exact World.cell?_setCell_same' _ _ _ (by rw [World.cell?_of_block (w:=W) (a:=⟨Bw,0,none⟩) hblk1,h.c0];rfl)
  c1:=by
   refine World.cell?_setCell_same' _ _ _ ?_
   rw [World.cell?_of_block (w:=w1.setCell ⟨Bw,0,none⟩ _) (a:=⟨Bw,1,none⟩) hblk2,World.cell?_setCell_other _ _ _ _ (by simp),World.cell?_of_block (w:=W) (a:=⟨Bw,1,none⟩) hblk1,h.c1]
   rfl
  c2:=(cellB 2 (by omega) (by omega)).trans h.c2
  c3:=(cellB 3 (by omega) (by omega)).trans h.c3
  c4:=(cellB 4 (by omega) (by omega)).trans h.c4
  c5:=(cellB 5 (by omega) (by omega)).trans h.c5
  fz:=fun j=>by
   rw [World.frozen?_setCell,World.frozen?_of_block (w:=w1.setCell ⟨Bw,0,none⟩ _) (a:=⟨Bw,j,none⟩) hblk2,World.frozen?_setCell,World.frozen?_of_block (w:=W) (a:=⟨Bw,j,none⟩) hblk1]
   exact h.fz j
  op:=by
   rw [List.length_append,List.length_singleton]
   refine own_turn ho1 (fun b hb hlt=>?_)
   rw [Below.heap_setCell _ _ _ _ (fun e=>hb1 (by rw [hb,e])),g2.block b (by simp [World.setCell];omega) (fun e=>prr b hb e.symm),Below.heap_alloc _ _ _ (by simpa [World.setCell] using hlt),Below.heap_setCell _ _ _ _ (fun e=>hb1 (by rw [hb,e]))]
  or:=by
   rw [List.length_append,List.length_singleton]
   exact own_turn ho2 (fun b hb _=>Below.heap_setCell _ _ _ _ (fun e=>hb2 (by rw [hb,e])))
  on:=keep _ _ _ _ h.on h.bn h.pn.symm h.rn.symm
  oe:=keep _ _ _ _ h.oe h.be h.pe.symm h.re.symm
  ov:=keep _ _ _ _ h.ov h.bv h.pvv.symm h.rvv.symm
  bp:=hb1
  br:=hb2
  bn:=h.bn
  be:=h.be
  bv:=h.bv
  pr:=xr _ prr p1lt
  pn:=(xp _ h.pn.symm nlt).symm
  pe:=(xp _ h.pe.symm elt).symm
  pvv:=(xp _ h.pvv.symm vlt).symm
  rn:=(xr _ h.rn.symm (fun k hk=>by have:=nlt k hk;omega)).symm
  re:=(xr _ h.re.symm (fun k hk=>by have:=elt k hk;omega)).symm
  rvv:=(xr _ h.rvv.symm (fun k hk=>by have:=vlt k hk;omega)).symm
  ne:=h.ne
  nvv:=h.nvv
  evv:=h.evv
  st:=fun b hb=>by
   obtain ⟨q0,q1,qp,qr,qn,qe,qv⟩:=h.st b hb
   refine ⟨Nat.lt_of_lt_of_le q0 f2.size,q1,?_,?_,qn,qe,qv⟩
   ·rcases l1 with e | e
    ·rw [e];exact qp
    ·rw [e];intro e2;injection e2 with e2;omega
   ·rcases l2 with e | e
    ·rw [e];exact qr
    ·rw [e];intro e2;injection e2 with e2;omega
  n4:=h.n4
  e4:=h.e4
  v4:=h.v4
  mn:=fun i u hu=>by obtain ⟨l,hl⟩:=h.mn i u hu;exact ⟨l,rep_turn (List.cons_ne_nil _ _) hl hS⟩
  me:=fun i u hu=>by obtain ⟨l,hl⟩:=h.me i u hu;exact ⟨l,rep_turn (List.cons_ne_nil _ _) hl hS⟩
  mv:=fun i u hu=>by obtain ⟨l,hl⟩:=h.mv i u hu;exact ⟨l,rep_turn (List.cons_ne_nil _ _) hl hS⟩ }
theorem Bk.more {W : World} {B Bw : Nat} {S T : Nat → Prop} {pv rv nv ev vv : Value} {pu ru nu eu vu : List Value} (h : Bk W B Bw S pv rv nv ev vv pu ru nu eu vu) (hT : ∀ b,T b → b < W.heap.size ∧ b ≠ Bw ∧ pv.ownBlock ≠ some b ∧ rv.ownBlock ≠ some b ∧ nv.ownBlock ≠ some b ∧ ev.ownBlock ≠ some b ∧ vv.ownBlock ≠ some b) :
  Bk W B Bw (fun b=>S b ∨ T b) pv rv nv ev vv pu ru nu eu vu:=by
 have hS : ∀ b,S b → b < W.heap.size → (S b ∨ T b) ∧ W.heap[b]? = W.heap[b]?:=fun b hb _=>⟨.inl hb,rfl⟩
 exact { h with
  st:=fun b hb=>by
   rcases hb with hb | hb
   ·exact h.st b hb
   ·exact hT b hb
  mn:=fun i u hu=>by obtain ⟨l,hl⟩:=h.mn i u hu;exact ⟨l,rep_turn (List.cons_ne_nil _ _) hl hS⟩
  me:=fun i u hu=>by obtain ⟨l,hl⟩:=h.me i u hu;exact ⟨l,rep_turn (List.cons_ne_nil _ _) hl hS⟩
  mv:=fun i u hu=>by obtain ⟨l,hl⟩:=h.mv i u hu;exact ⟨l,rep_turn (List.cons_ne_nil _ _) hl hS⟩ }
theorem Tryz.infoPP : (Tryz.prog.info? 48).map (fun i=>(i.zero,i.size,i.bytes)) = some (some (.pointer none),1,8):=by kernel_rfl
theorem Tryz.infoPR : (Tryz.prog.info? 49).map (fun i=>(i.zero,i.size,i.bytes)) = some (some (.pointer none),1,8):=by kernel_rfl
end Go.Proofs.YtkmakliebhnhbaaGreat
