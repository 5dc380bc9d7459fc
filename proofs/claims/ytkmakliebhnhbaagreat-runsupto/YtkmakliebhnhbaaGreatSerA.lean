import Derived.Test.YtkmakliebhnhbaaGreatWlkA
import Derived.Test.YtkmakliebhnhbaaGreatFrA
import Derived.Test.YtkmakliebhnhbaaGreatValW
import Derived.Test.YtkmakliebhnhbaaGreatCopyA
import Derived.Test.YtkmakliebhnhbaaGreatWlk
namespace Go.Proofs.YtkmakliebhnhbaaGreat
open Go.RowKit Go.Shelf
attribute [local go_sem] Oper.semAt_some
set_option maxHeartbeats 1000000 in
theorem events_calls (cb : Nat) (x seed : Int) (w : World) : Calls Tryz.prog 48 #[.pointer (some ⟨cb,0,none⟩),.agg #[.int .i64 0,.int .i64 x,.int .u64 seed,.int .u64 0]] w fun e w'=>e = .returned (.func (.func 70) #[] #[.pointer (some ⟨w.heap.size,0,none⟩),.pointer (some ⟨w.heap.size + 1,0,none⟩)]) ∧ w' = (w.alloc (.cells #[.pointer (some ⟨cb,0,none⟩)] 94)).alloc (.cells #[.int .i64 0,.int .i64 x,.int .u64 seed,.int .u64 0] 121):=by
 go_enter Tryz.func48,Tryz.ntmps48
 go_wp2
 go_ret
 exact ⟨rfl,rfl⟩
def outc (lv tv : Value) (fr : Int) : Array Value:=#[lv,tv,.int .i64 0,.int .i64 0,.int .i64 0,.int .i64 fr]
def OutB (W : World) (B : Nat) (lv tv : Value) (fr : Int) : Prop:=W.heap[B]? = some (.cells #[lv,tv,.int .i64 0,.int .i64 0,.int .i64 0,.int .i64 fr] 69 (0,0))
theorem OutB.lt {W : World} {B : Nat} {lv tv : Value} {fr : Int} (h : OutB W B lv tv fr) : B < W.heap.size:=(Array.getElem?_eq_some_iff.1 h).1
theorem OutB.c0 {W : World} {B : Nat} {lv tv : Value} {fr : Int} (h : OutB W B lv tv fr) : W.cell? ⟨B,0,none⟩ = some lv:=by simp [World.cell?,show W.heap[B]? = _ from h]
theorem OutB.c1 {W : World} {B : Nat} {lv tv : Value} {fr : Int} (h : OutB W B lv tv fr) : W.cell? ⟨B,1,none⟩ = some tv:=by simp [World.cell?,show W.heap[B]? = _ from h]
theorem OutB.c2 {W : World} {B : Nat} {lv tv : Value} {fr : Int} (h : OutB W B lv tv fr) : W.cell? ⟨B,2,none⟩ = some (.int .i64 0):=by simp [World.cell?,show W.heap[B]? = _ from h]
theorem OutB.c3 {W : World} {B : Nat} {lv tv : Value} {fr : Int} (h : OutB W B lv tv fr) : W.cell? ⟨B,3,none⟩ = some (.int .i64 0):=by simp [World.cell?,show W.heap[B]? = _ from h]
theorem OutB.c4 {W : World} {B : Nat} {lv tv : Value} {fr : Int} (h : OutB W B lv tv fr) : W.cell? ⟨B,4,none⟩ = some (.int .i64 0):=by simp [World.cell?,show W.heap[B]? = _ from h]
theorem OutB.c5 {W : World} {B : Nat} {lv tv : Value} {fr : Int} (h : OutB W B lv tv fr) : W.cell? ⟨B,5,none⟩ = some (.int .i64 fr):=by simp [World.cell?,show W.heap[B]? = _ from h]
theorem OutB.fz {W : World} {B : Nat} {lv tv : Value} {fr : Int} (h : OutB W B lv tv fr) (j : Nat) : W.frozen? ⟨B,j,none⟩ = false:=by simp [World.frozen?,show W.heap[B]? = _ from h]
theorem OutB.s0 {W : World} {B : Nat} {lv tv : Value} {fr : Int} (h : OutB W B lv tv fr) (v : Value) : OutB (W.setCell ⟨B,0,none⟩ v) B v tv fr:=heap_set W B 0 _ _ _ h
theorem OutB.s1 {W : World} {B : Nat} {lv tv : Value} {fr : Int} (h : OutB W B lv tv fr) (v : Value) : OutB (W.setCell ⟨B,1,none⟩ v) B lv v fr:=heap_set W B 1 _ _ _ h
theorem Tryz.infoEvP : (Tryz.prog.info? 89).map (fun i=>(i.zero,i.size,i.bytes)) = some (some (.agg #[.int .i64 0,.int .i64 0,.int .i64 0]),3,24):=by kernel_rfl
structure SerI (w : World) (H : Nat) (pre : List Ev) (W : World) : Prop where
 out : ∃ tv,OutB W (H + 1) (.slice none 0 0) tv 0 ∧ W.ownsRow w.heap.size 89 3 tv pre.length (evCells pre)
 res : OutB W H (.slice none 0 0) (.slice none 0 0) 0
 bel : Below w.heap.size w W
theorem own_isEv {W W' : World} {base : Nat} {v : Value} {n : Nat} {xs : List Value} (h : W.ownsRow base 89 3 v n xs) (hk : ∀ (k : Nat) (o : Obj),W.heap[k]? = some o → isEv o → W'.heap[k]? = some o) : W'.ownsRow base 89 3 v n xs:=by
 refine ⟨h.1,?_⟩
 rcases h.2 with hn | ⟨g,cap,cur,rfl,hb',hgg,rest⟩
 ·exact .inl hn
 ·exact .inr ⟨g,cap,cur,rfl,hb',hk g _ hgg rfl,rest⟩
theorem SerI.kc {w : World} {H B1 fb0 : Nat} {pre : List Ev} {W W' : World} (h : SerI w H pre W) (hc : KC B1 fb0 W W') (hH : H + 1 < B1) (hw : w.heap.size ≤ H) (hf : fb0 ≠ H ∧ fb0 ≠ H + 1 ∧ w.heap.size ≤ fb0) : SerI w H pre W':=by
 obtain ⟨tv,o1,o2⟩:=h.out
 refine ⟨⟨tv,hc.keep _ _ o1 (.inl (by omega)),own_isEv o2 (fun k o hk ho=>hc.keep k o hk (.inr ho))⟩,hc.keep _ _ h.res (.inl (by omega)),h.bel.trans ⟨hc.os,hc.tape,hc.output,hc.size,fun k hk=>?_⟩⟩
 have hkl : k < W.heap.size:=Nat.lt_of_lt_of_le hk h.bel.size
 exact (hc.keep k _ (Array.getElem?_eq_getElem hkl) (.inl (by omega))).trans (Array.getElem?_eq_getElem hkl).symm
theorem SerI.put {w : World} {H l : Nat} {pre : List Ev} {W : World} {o o' : Obj} (h : SerI w H pre W) (ho : W.heap[l]? = some o) (hc : o.isCells = false) (hl : w.heap.size ≤ l) : SerI w H pre (W.putObj l o'):=by
 obtain ⟨tv,o1,o2⟩:=h.out
 have hne : ∀ (k : Nat) (q : Obj),W.heap[k]? = some q → q.isCells = true → (W.putObj l o').heap[k]? = some q:=fun k q hk hq=>(World.putObj_heap_other (fun e=>by subst e;rw [ho] at hk;cases hk;rw [hc] at hq;cases hq)).trans hk
 exact ⟨⟨tv,hne _ _ o1 rfl,own_keep o2 (grownBy_putObj' W l o') (fun r e=>by cases e;exact ⟨o,ho,hc⟩)⟩,hne _ _ h.res rfl,h.bel.trans ((Below.refl _ W).grown (grownBy_putObj' W l o') (h.bel.size) (fun k e=>by cases e;exact hl))⟩
theorem SerI.al {w : World} {H : Nat} {pre : List Ev} {W : World} (h : SerI w H pre W) (o : Obj) : SerI w H pre (W.alloc o):=by
 obtain ⟨tv,o1,o2⟩:=h.out
 exact ⟨⟨tv,(Below.heap_alloc _ _ _ o1.lt).trans o1,o2.alloc o⟩,(Below.heap_alloc _ _ _ h.res.lt).trans h.res,h.bel.alloc h.bel.size o⟩
theorem walkAll_calls {fs : List (List Ins)} {reds : List Int} {n₀ l B1 fb0 cb : Nat} {J : List Ev → World → Prop} (L : Loopy fs reds n₀ l B1 fb0 cb 100000000 J) (hf0B : fb0 < B1) (h0 : 0 < fs.length) (h8 : fs.length ≤ 8) (bc : Nat) (x seed : Int) (W : World) (hbc : W.cell? ⟨bc,0,none⟩ = some (.pointer (some ⟨cb,0,none⟩))) (hb : FrB W fb0 0 x seed 0) (hW : B1 ≤ W.heap.size) (hC : CodeP (Lt n₀) W cb fs reds) (hJ : J [] W) :
  Calls Tryz.prog 70 #[.func (.yield l) #[] #[],.pointer (some ⟨bc,0,none⟩),.pointer (some ⟨fb0,0,none⟩)] W fun e W'=>(∃ v,e = .returned v) ∧ J (traceZ fs seed x) W':=by
 have hp : 10 ^ fs.length ≤ 10 ^ 8:=Nat.pow_le_pow_right (by omega) h8
 have HW:=hide (walk_said L hf0B fs.length (by omega) 0 x seed [] W fb0 h0 (by omega) hb (.inr rfl) hW hC hJ (by simp only [List.length_nil];omega))
 clear hb hC hJ hp
 go_enter Tryz.func70,Tryz.ntmps70
 go_wp2_with (go_at_call 71;refine HW.out.mono ?_;rintro e w3 ⟨rfl,k1,k2⟩)
 go_end0
 exact ⟨⟨_,rfl⟩,k1⟩
end Go.Proofs.YtkmakliebhnhbaaGreat
