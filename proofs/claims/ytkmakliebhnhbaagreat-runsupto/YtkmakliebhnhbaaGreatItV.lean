import Derived.RangeFuncNested
import Derived.RangeFuncBound
import Derived.RangeFuncCalls
import Derived.RangeFuncLeaves
import Derived.Shelf.Abstract
import Derived.Shelf.RegionOpen
import Derived.WalkKit
import Derived.OwnWalkIn
import Derived.TacticsInMore
import Derived.LoopNIn
import Derived.LoopIn
import Derived.Test.YtkmakliebhnhbaaGreatRows
import Derived.Test.YtkmakliebhnhbaaGreatSer
namespace Go.Proofs.YtkmakliebhnhbaaGreat
open Go.RowKit Go.Shelf
attribute [local go_sem] Oper.semAt_some
abbrev FW : Fence:=Fence.wide
abbrev InsW:={ i : Ins // i.wf }
def Ins.agg (i : Ins) : Value:=.agg #[.int .i64 i.op,.int .i64 i.f,.int .i64 i.r,.int .i64 i.k,.int .i64 i.l]
theorem room_none (k : Nat) : FW.depth.isSome = true → 1 ≤ k:=fun h=>by cases h
theorem RoundIn.any {m m' : Nat} {P : Program} {l : Nat} {f : FuncId} {tmps : Array Value} {assign body : Code} {w : World} {R : Ending → World → Prop}
  (h : RoundIn FW m P l f tmps assign body w R) : RoundIn FW m' P l f tmps assign body w R:=⟨h.1,fun c cs _=>h.2 c cs (fun d h=>by cases h)⟩
theorem YieldAt.any {m : Nat} (m' : Nat) {P : Program} {l : Nat} {args : Array Value} {W : World} {R : Ending → World → Prop} (h : YieldAt FW m P l args W R) : YieldAt FW m' P l args W R:=by
 obtain ⟨fn,tmps,assign,body,hy,hR⟩:=h
 exact ⟨fn,tmps,assign,body,hy,RoundIn.any hR⟩
theorem RdL.ins {S : Nat → Prop} {W : World} {a : Option Addr} {n cap : Nat} {l : List Ins} (h : RdL S W 5 Ins.vals (.slice a n cap) l) {k : Nat} {i : Ins} (hk : l[k]? = some i) :
  ∃ b off,a = some ⟨b,off,none⟩ ∧ S b ∧ W.cell? ⟨b,off + k * 5,none⟩ = some (.int .i64 i.op) ∧ W.cell? ⟨b,off + k * 5 + 1,none⟩ = some (.int .i64 i.f) ∧ W.cell? ⟨b,off + k * 5 + 2,none⟩ = some (.int .i64 i.r) ∧ W.cell? ⟨b,off + k * 5 + 3,none⟩ = some (.int .i64 i.k) ∧ W.cell? ⟨b,off + k * 5 + 4,none⟩ = some (.int .i64 i.l):=by
 obtain ⟨b,off,ha,hb,hc⟩:=h.at hk
 exact ⟨b,off,ha,hb,hc 0 _ rfl,hc 1 _ rfl,hc 2 _ rfl,hc 3 _ rfl,hc 4 _ rfl⟩
theorem abides_new {β : Type} {B : Nat} {J : β → World → Prop} (h : AbidesFrom B J) {s : β} {W : World} (o : Obj) (hs : J s W) : J s (W.alloc o):=h s W _ none hs (World.grownBy_alloc _ _ none) (fun r e=>by cases e)
set_option maxRecDepth 100000 in
set_option maxHeartbeats 4000000 in
theorem values1 {α : Type} (q : α → Ins) (n : Nat) (l Bs n₀ : Nat) (a : Option Addr) (cap : Nat) (zs : List α) (hlen : zs.length ≤ 2000000) (J Jx : List α → World → Prop)
  (hY : ∀ pre x W,J pre W → pre.length < zs.length → YieldAt FW (n - 1) Tryz.prog l #[(q x).agg] W fun e W' =>
   (e = .returned (.bool true) ∧ J (pre ++ [x]) W' ∧ Below n₀ W W') ∨ (e = .returned (.bool false) ∧ Jx (pre ++ [x]) W'))
  (W : World) (hJ : AbidesFrom W.heap.size J) (hBs : W.cell? ⟨Bs,0,none⟩ = some (.slice a zs.length cap)) (hc : RdL (Lt n₀) W 5 Ins.vals (.slice a zs.length cap) (zs.map q)) (h0 : J [] W) (hn : n₀ ≤ W.heap.size) :
  CallsIn FW n Tryz.prog 119 #[.func (.yield l) #[] #[],.pointer (some ⟨Bs,0,none⟩)] W fun e W'=>(∃ v,e = .returned v) ∧
   ((∃ ys,ys = zs ∧ J ys W') ∨ (∃ pre,pre <+: zs ∧ Jx pre W')):=by
 refine callsIn_of_wp Tryz.func119 rfl trivial ?_ rfl
 simp only [Tryz.ntmps119,List.size_toArray,List.length_cons,List.length_nil,Nat.reduceAdd,Nat.reduceSub,Array.replicate_succ,Array.replicate_zero,List.push_toArray,List.append_toArray,List.nil_append,List.cons_append]
 gi_wp2
 gi_loopw [7] (fun i wr=>∃ k : Nat,k ≤ zs.length ∧ i = .int .i64 k ∧ J (zs.take k) wr ∧ Below n₀ W wr ∧ n₀ ≤ wr.heap.size)
  (fun i _=>zs.length - (intOf i).toNat)
 case atStart=>exact ⟨0,Nat.zero_le _,rfl,h0,Below.refl _ _,hn⟩
 case round =>
  obtain ⟨k,hk,rfl,hJk,hnx,hsz⟩:=hrel
  by_cases hlt : k < zs.length
  ·obtain ⟨x,hx⟩ : ∃ x,zs[k]? = some x:=⟨_,List.getElem?_eq_getElem hlt⟩
   obtain ⟨b,off,ha,hb,c0,c1,c2,c3,c4⟩:=hc.ins (k:=k) (i:=q x) (by simp [hx])
   subst ha
   have d0:=(hnx.cell (p:=⟨b,off + k * 5,none⟩) hb).trans c0
   have d1:=(hnx.cell (p:=⟨b,off + k * 5 + 1,none⟩) hb).trans c1
   have d2:=(hnx.cell (p:=⟨b,off + k * 5 + 2,none⟩) hb).trans c2
   have d3:=(hnx.cell (p:=⟨b,off + k * 5 + 3,none⟩) hb).trans c3
   have d4:=(hnx.cell (p:=⟨b,off + k * 5 + 4,none⟩) hb).trans c4
   clear c0 c1 c2 c3 c4
   obtain ⟨fn,tmps,assign,body,hy,hR⟩:=hY _ x (wr.alloc (.cells #[.int .i64 (q x).op,.int .i64 (q x).f,.int .i64 (q x).r,.int .i64 (q x).k,.int .i64 (q x).l] 45)) (abides_new hJ _ hJk) (by simp;omega)
   simp only [Ins.agg] at hy
   gi_wp2
   refine ⟨room_none _,hR.mono ?_⟩
   rintro e W3 (⟨rfl,hJ3,hk3⟩ | ⟨rfl,hJx3⟩)
   ·have hb3 : Below n₀ wr W3:=((Below.refl n₀ wr).alloc hsz _).trans hk3
    gi_wp2
    go_roundw
    case rel=>exact ⟨k + 1,by omega,by simp,by rw [take_succ_of hx];exact hJ3,hnx.trans hb3,Nat.le_trans hsz hb3.size⟩
    case measure=>simp [intOf];omega
   ·gi_wp2
    refine bodyPost_ret (results_none rfl _ _ _) rfl ?_
    exact ⟨⟨_,rfl⟩,.inr ⟨_,by rw [← take_succ_of hx];exact List.take_prefix _ _,hJx3⟩⟩
  ·obtain rfl : k = zs.length:=by omega
   gi_wp2
   go_end0
   exact ⟨⟨_,rfl⟩,.inl ⟨_,rfl,by rw [List.take_length] at hJk;exact hJk⟩⟩
theorem RdL.sl {α : Type} {S : Nat → Prop} {W : World} {size : Nat} {enc : α → List Value} {v : Value} {l : List α} (h : RdL S W size enc v l) : ∃ a cap,v = .slice a l.length cap:=by
 obtain ⟨a,cap,hv,_⟩:=h.form
 exact ⟨a,cap,hv⟩
theorem values_stops {α : Type} (q : α → Ins) (n : Nat) (Bs n₀ : Nat) (sv : Value) (zs : List α) (hlen : zs.length ≤ 2000000) (w : World) (hBs : Bs < w.heap.size) (hn₀ : n₀ ≤ w.heap.size)
  (hc : w.cell? ⟨Bs,0,none⟩ = some sv) (hI : RdL (Lt n₀) w 5 Ins.vals sv (zs.map q)) :
  SeqStopsK FW n Tryz.prog 119 #[.pointer (some ⟨Bs,0,none⟩)] (fun x : α=>#[(q x).agg]) (Below n₀) (fun ys=>ys = zs) (fun pre=>pre <+: zs) zs.length w:=fun l J Jx W hW hJ _ hY h0=>by
 have hc':=(hW.cell (p:=⟨Bs,0,none⟩) hBs).trans hc
 obtain ⟨a,cap,hv⟩:=hI.sl
 rw [List.length_map] at hv
 subst hv
 exact values1 q n l Bs n₀ a cap zs hlen J Jx hY W hJ hc' (hI.turn (fun b hb hlt=>⟨hb,hW.block b hlt⟩) (fun x _=>by simp [Ins.vals])) h0 (Nat.le_trans hn₀ hW.size)
set_option maxHeartbeats 1000000 in
theorem values_calls (a : Option Addr) (len cap : Nat) (w : World) :
  Calls Tryz.prog 96 #[.slice a len cap] w fun e w'=>e = .returned (.func (.func 119) #[] #[.pointer (some ⟨w.heap.size,0,none⟩)]) ∧ w' = w.alloc (.cells #[.slice a len cap] 46):=by
 go_enter Tryz.func96,Tryz.ntmps96
 go_wp2
 go_ret
 exact ⟨rfl,rfl⟩
set_option maxHeartbeats 1000000 in
theorem each_calls (a : Option Addr) (len cap : Nat) (w : World) :
  Calls Tryz.prog 67 #[.slice a len cap] w fun e w'=>e = .returned (.func (.func 119) #[] #[.pointer (some ⟨w.heap.size,0,none⟩)]) ∧ w' = w.alloc (.cells #[.slice a len cap] 46):=by
 go_enter Tryz.func67,Tryz.ntmps67
 go_wp2_with (go_at_call 96;refine (values_calls _ _ _ _).mono ?_;rintro e w' ⟨rfl,rfl⟩)
 go_ret
 exact ⟨rfl,rfl⟩
def numbered (zs : List Int) (k : Nat) : List (Nat × Int):=(List.range k).map (fun j=>(j,zs[j]?.getD 0))
theorem numbered_len (zs : List Int) (k : Nat) : (numbered zs k).length = k:=by simp [numbered]
set_option maxRecDepth 100000 in
set_option maxHeartbeats 4000000 in
theorem all1 {α : Type} (q : α → Nat × Int) (n : Nat) (l Bs n₀ : Nat) (a : Option Addr) (cap : Nat) (zs : List Int) (ys : List α) (hys : ys.map q = numbered zs zs.length) (hlen : zs.length ≤ 2000000) (J Jx : List α → World → Prop)
  (hY : ∀ pre x W,J pre W → pre.length < zs.length → YieldAt FW (n - 1) Tryz.prog l #[.int .i64 ((q x).1 : Int),.int .i64 (q x).2] W fun e W' =>
   (e = .returned (.bool true) ∧ J (pre ++ [x]) W' ∧ Below n₀ W W') ∨ (e = .returned (.bool false) ∧ Jx (pre ++ [x]) W'))
  (W : World) (hBs : W.cell? ⟨Bs,0,none⟩ = some (.slice a zs.length cap)) (hc : RdL (Lt n₀) W 1 int64s (.slice a zs.length cap) zs) (h0 : J [] W) :
  CallsIn FW n Tryz.prog 99 #[.func (.yield l) #[] #[],.pointer (some ⟨Bs,0,none⟩)] W fun e W'=>(∃ v,e = .returned v) ∧
   ((∃ ps,ps = ys ∧ J ps W') ∨ (∃ pre,(∃ k,pre = ys.take k) ∧ Jx pre W')):=by
 have hyl : ys.length = zs.length:=by have:=congrArg List.length hys;rw [List.length_map,numbered_len] at this;exact this
 have HYS:=hide hys
 have HYL:=hide hyl
 clear hys hyl
 refine callsIn_of_wp Tryz.func99 rfl trivial ?_ rfl
 simp only [Tryz.ntmps99,List.size_toArray,List.length_cons,List.length_nil,Nat.reduceAdd,Nat.reduceSub,Array.replicate_succ,Array.replicate_zero,List.push_toArray,List.append_toArray,List.nil_append,List.cons_append]
 gi_wp2
 gi_loopw [7] (fun i wr=>∃ k : Nat,k ≤ zs.length ∧ i = .int .i64 k ∧ J (ys.take k) wr ∧ Below n₀ W wr)
  (fun i _=>zs.length - (intOf i).toNat)
 case atStart=>exact ⟨0,Nat.zero_le _,rfl,h0,Below.refl _ _⟩
 case round =>
  obtain ⟨k,hk,rfl,hJk,hnx⟩:=hrel
  by_cases hlt : k < zs.length
  ·obtain ⟨z,hz⟩ : ∃ z,zs[k]? = some z:=⟨_,List.getElem?_eq_getElem hlt⟩
   obtain ⟨x,hx⟩ : ∃ x,ys[k]? = some x:=⟨ys[k]'(by have:=HYL.out;omega),by simp⟩
   have hqx : q x = (k,z):=by
    have h1 : (ys.map q)[k]? = some (q x):=by rw [List.getElem?_map,hx];rfl
    rw [HYS.out,numbered,List.getElem?_map,List.getElem?_range hlt] at h1
    simp [hz] at h1
    exact h1.symm
   obtain ⟨b,off,ha,hb,c⟩:=hc.at (k:=k) (x:=z) hz
   subst ha
   have c0:=c 0 _ rfl
   simp only [Nat.mul_one,Nat.add_zero] at c0
   have d0:=(hnx.cell (p:=⟨b,off + k,none⟩) hb).trans c0
   obtain ⟨fn,tmps,assign,body,hy,hR⟩:=hY _ x wr hJk (by rw [List.length_take];omega)
   rw [hqx] at hy
   dsimp only at hy
   have HX:=hide hx
   clear c0 c hz hx hqx
   gi_wp2
   refine ⟨room_none _,hR.mono ?_⟩
   rintro e W3 (⟨rfl,hJ3,hk3⟩ | ⟨rfl,hJx3⟩)
   ·gi_wp2
    go_roundw
    case rel=>exact ⟨k + 1,by omega,by simp,by rw [take_succ_of HX.out];exact hJ3,hnx.trans hk3⟩
    case measure=>simp [intOf];omega
   ·gi_wp2
    refine bodyPost_ret (results_none rfl _ _ _) rfl ?_
    exact ⟨⟨_,rfl⟩,.inr ⟨_,⟨k + 1,(take_succ_of HX.out).symm⟩,hJx3⟩⟩
  ·obtain rfl : k = zs.length:=by omega
   gi_wp2
   go_end0
   exact ⟨⟨_,rfl⟩,.inl ⟨_,rfl,by rw [← HYL.out,List.take_length] at hJk;exact hJk⟩⟩
theorem all_stops {α : Type} (q : α → Nat × Int) (n : Nat) (Bs n₀ : Nat) (sv : Value) (zs : List Int) (ys : List α) (hys : ys.map q = numbered zs zs.length) (hlen : zs.length ≤ 2000000) (w : World) (hBs : Bs < w.heap.size)
  (hc : w.cell? ⟨Bs,0,none⟩ = some sv) (hI : RdL (Lt n₀) w 1 int64s sv zs) :
  SeqStopsK FW n Tryz.prog 99 #[.pointer (some ⟨Bs,0,none⟩)] (fun x : α=>#[.int .i64 ((q x).1 : Int),.int .i64 (q x).2]) (Below n₀) (fun ps=>ps = ys) (fun pre=>∃ k,pre = ys.take k) zs.length w:=fun l J Jx W hW _ _ hY h0=>by
 have hc':=(hW.cell (p:=⟨Bs,0,none⟩) hBs).trans hc
 obtain ⟨a,cap,hv⟩:=hI.sl
 subst hv
 exact all1 q n l Bs n₀ a cap zs ys hys hlen J Jx hY W hc' (hI.turn (fun b hb hlt=>⟨hb,hW.block b hlt⟩) (fun x _=>by simp [int64s])) h0
set_option maxHeartbeats 1000000 in
theorem all_calls (a : Option Addr) (len cap : Nat) (w : World) :
  Calls Tryz.prog 73 #[.slice a len cap] w fun e w'=>e = .returned (.func (.func 99) #[] #[.pointer (some ⟨w.heap.size,0,none⟩)]) ∧ w' = w.alloc (.cells #[.slice a len cap] 30):=by
 go_enter Tryz.func73,Tryz.ntmps73
 go_wp2
 go_ret
 exact ⟨rfl,rfl⟩
abbrev Lss (m : Nat):={ f : Nat // f < m }
def KpB (n₀ Bs : Nat) (W W' : World) : Prop:=Below n₀ W W' ∧ W'.heap[Bs]? = W.heap[Bs]?
theorem KpB.refl (n₀ Bs : Nat) (W : World) : KpB n₀ Bs W W:=⟨Below.refl _ _,rfl⟩
theorem KpB.trans {n₀ Bs : Nat} {A B C : World} (h : KpB n₀ Bs A B) (k : KpB n₀ Bs B C) : KpB n₀ Bs A C:=⟨h.1.trans k.1,k.2.trans h.2⟩
theorem kpB_b {n₀ Bs : Nat} {w : World} (hn : n₀ ≤ w.heap.size) (hb : Bs < w.heap.size) (W : World) (l : Nat) (o o' : Obj) (hl : w.heap.size ≤ l) (h : W.heap[l]? = some o) (h1 : o.isCells = false) (h2 : o.isWalk = false) : KpB n₀ Bs W (W.putObj l o') :=
 ⟨belowK_b hn W l o o' hl h h1 h2,World.putObj_heap_other (by omega)⟩
def downTo (m k : Nat) : List Nat:=(List.range m).reverse.take k
theorem downTo_succ {m k : Nat} (h : k < m) : downTo m (k + 1) = downTo m k ++ [m - 1 - k]:=by
 refine take_succ_of ?_
 rw [List.getElem?_reverse (by simpa using h),List.length_range,List.getElem?_range (by omega)]
theorem downTo_len {m k : Nat} (h : k ≤ m) : (downTo m k).length = k:=by simp [downTo];omega
set_option maxRecDepth 100000 in
set_option maxHeartbeats 4000000 in
theorem back1 (n : Nat) (l Bs n₀ : Nat) (a : Option Addr) (cap : Nat) (us : List Value) (hlen : us.length ≤ 2000000) (J Jx : List (Lss us.length) → World → Prop)
  (hY : ∀ pre x W,J pre W → pre.length < us.length → YieldAt FW (n - 1) Tryz.prog l #[.int .i64 (x.1 : Int),us[x.1]] W fun e W' =>
   (e = .returned (.bool true) ∧ J (pre ++ [x]) W' ∧ KpB n₀ Bs W W') ∨ (e = .returned (.bool false) ∧ Jx (pre ++ [x]) W'))
  (W : World) (hBs : W.cell? ⟨Bs,0,none⟩ = some (.slice a us.length cap)) (hc : RdL (Lt n₀) W 1 one (.slice a us.length cap) us) (hus : ∀ u ∈ us,∃ q m c,u = .slice q m c) (h0 : J [] W) :
  CallsIn FW n Tryz.prog 97 #[.func (.yield l) #[] #[],.pointer (some ⟨Bs,0,none⟩)] W fun e W'=>(∃ v,e = .returned v) ∧
   ((∃ ys,(ys.map (·.1) = downTo us.length us.length) ∧ J ys W') ∨ (∃ pre,(∃ k,k ≤ us.length ∧ pre.map (·.1) = downTo us.length k) ∧ Jx pre W')):=by
 refine callsIn_of_wp Tryz.func97 rfl trivial ?_ rfl
 simp only [Tryz.ntmps97,List.size_toArray,List.length_cons,List.length_nil,Nat.reduceAdd,Nat.reduceSub,Array.replicate_succ,Array.replicate_zero,List.push_toArray,List.append_toArray,List.nil_append,List.cons_append]
 gi_wp2
 gi_loopw [3] (fun i wr=>∃ (k : Nat) (pre : List (Lss us.length)),k ≤ us.length ∧ i = .int .i64 ((us.length : Int) - 1 - k) ∧ pre.map (·.1) = downTo us.length k ∧ J pre wr ∧ KpB n₀ Bs W wr)
  (fun i _=>(intOf i + 1).toNat)
 case atStart=>exact ⟨0,[],Nat.zero_le _,by simp,rfl,h0,KpB.refl _ _ _⟩
 case round =>
  obtain ⟨k,pre,hk,rfl,hpre,hJk,hnx⟩:=hrel
  have hBs':=(World.cell?_of_block (w:=W) (a:=⟨Bs,0,none⟩) hnx.2).trans hBs
  by_cases hlt : k < us.length
  ·obtain ⟨m,hm⟩ : ∃ m : Nat,(us.length : Int) - 1 - k = m:=⟨us.length - 1 - k,by omega⟩
   have hml : m < us.length:=by omega
   have HM : Hid (m = us.length - 1 - k):=by unfold Hid;omega
   rw [hm]
   have HK:=hide hm
   clear hm
   have hx : us[m]? = some us[m]:=List.getElem?_eq_getElem hml
   obtain ⟨b,off,ha,hb,c⟩:=hc.at (k:=m) (x:=us[m]) hx
   subst ha
   have c0:=c 0 _ rfl
   simp only [Nat.mul_one,Nat.add_zero] at c0
   have d0:=(hnx.1.cell (p:=⟨b,off + m,none⟩) hb).trans c0
   clear c0 c
   obtain ⟨fn,tmps,assign,body,hy,hR⟩:=hY pre ⟨m,hml⟩ wr hJk (by have:=congrArg List.length hpre;rw [List.length_map,downTo_len hk] at this;omega)
   dsimp only at hy
   obtain ⟨q,mm,cc,hu⟩:=hus us[m] (List.getElem_mem _)
   rw [hu] at d0 hy
   gi_wp2
   refine ⟨room_none _,hR.mono ?_⟩
   rintro e W3 (⟨rfl,hJ3,hk3⟩ | ⟨rfl,hJx3⟩)
   ·gi_wp2
    go_roundw
    case rel=>exact ⟨k + 1,pre ++ [⟨m,hml⟩],by omega,by have:=HK.out;congr 1;omega,by rw [List.map_append,hpre,downTo_succ hlt,← HM.out];rfl,hJ3,hnx.trans hk3⟩
    case measure=>simp [intOf]
   ·gi_wp2
    refine bodyPost_ret (results_none rfl _ _ _) rfl ?_
    exact ⟨⟨_,rfl⟩,.inr ⟨_,⟨k + 1,by omega,by rw [List.map_append,hpre,downTo_succ hlt,← HM.out];rfl⟩,hJx3⟩⟩
  ·obtain rfl : k = us.length:=by omega
   rw [show (us.length : Int) - 1 - us.length = -1 by omega]
   gi_wp2
   go_end0
   exact ⟨⟨_,rfl⟩,.inl ⟨_,hpre,hJk⟩⟩
theorem back_stops (n : Nat) (Bs n₀ : Nat) (sv : Value) (us : List Value) (hlen : us.length ≤ 2000000) (w : World) (hBs : Bs < w.heap.size)
  (hc : w.cell? ⟨Bs,0,none⟩ = some sv) (hI : RdL (Lt n₀) w 1 one sv us) (hus : ∀ u ∈ us,∃ q m c,u = .slice q m c) :
  SeqStopsK FW n Tryz.prog 97 #[.pointer (some ⟨Bs,0,none⟩)] (fun x : Lss us.length=>#[.int .i64 (x.1 : Int),us[x.1]]) (KpB n₀ Bs) (fun ys=>ys.map (·.1) = downTo us.length us.length) (fun pre=>∃ k,k ≤ us.length ∧ pre.map (·.1) = downTo us.length k) us.length w:=fun l J Jx W hW _ _ hY h0=>by
 have hc':=(hW.cell (p:=⟨Bs,0,none⟩) hBs).trans hc
 obtain ⟨a,cap,hv⟩:=hI.sl
 subst hv
 exact back1 n l Bs n₀ a cap us hlen J Jx hY W hc' (hI.turn (fun b hb hlt=>⟨hb,hW.block b hlt⟩) (fun x _=>by simp [one])) hus h0
set_option maxHeartbeats 1000000 in
theorem back_calls (a : Option Addr) (len cap : Nat) (w : World) :
  Calls Tryz.prog 69 #[.slice a len cap] w fun e w'=>e = .returned (.func (.func 97) #[] #[.pointer (some ⟨w.heap.size,0,none⟩)]) ∧ w' = w.alloc (.cells #[.slice a len cap] 29):=by
 go_enter Tryz.func69,Tryz.ntmps69
 go_wp2
 go_ret
 exact ⟨rfl,rfl⟩
end Go.Proofs.YtkmakliebhnhbaaGreat
