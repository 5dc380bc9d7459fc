import Derived.Test.YtkmakliebhnhbaaGreatCrY
import Derived.Test.YtkmakliebhnhbaaGreatSerA
namespace Go.Proofs.YtkmakliebhnhbaaGreat
open Go.RowKit Go.Shelf
attribute [local go_sem] Oper.semAt_some
def OutR (W : World) (B : Nat) (lv tv : Value) (a b c d : Int) : Prop:=W.heap[B]? = some (.cells #[lv,tv,.int .i64 a,.int .i64 b,.int .i64 c,.int .i64 d] 69 (0,0))
section
variable {W : World} {B : Nat} {lv tv : Value} {a b c d : Int}
theorem OutR.lt (h : OutR W B lv tv a b c d) : B < W.heap.size:=(Array.getElem?_eq_some_iff.1 h).1
theorem OutR.c0 (h : OutR W B lv tv a b c d) : W.cell? ⟨B,0,none⟩ = some lv:=by simp [World.cell?,show W.heap[B]? = _ from h]
theorem OutR.c1 (h : OutR W B lv tv a b c d) : W.cell? ⟨B,1,none⟩ = some tv:=by simp [World.cell?,show W.heap[B]? = _ from h]
theorem OutR.c2 (h : OutR W B lv tv a b c d) : W.cell? ⟨B,2,none⟩ = some (.int .i64 a):=by simp [World.cell?,show W.heap[B]? = _ from h]
theorem OutR.c3 (h : OutR W B lv tv a b c d) : W.cell? ⟨B,3,none⟩ = some (.int .i64 b):=by simp [World.cell?,show W.heap[B]? = _ from h]
theorem OutR.c4 (h : OutR W B lv tv a b c d) : W.cell? ⟨B,4,none⟩ = some (.int .i64 c):=by simp [World.cell?,show W.heap[B]? = _ from h]
theorem OutR.c5 (h : OutR W B lv tv a b c d) : W.cell? ⟨B,5,none⟩ = some (.int .i64 d):=by simp [World.cell?,show W.heap[B]? = _ from h]
theorem OutR.fz (h : OutR W B lv tv a b c d) (j : Nat) : W.frozen? ⟨B,j,none⟩ = false:=by simp [World.frozen?,show W.heap[B]? = _ from h]
theorem OutR.s0 (h : OutR W B lv tv a b c d) (v : Value) : OutR (W.setCell ⟨B,0,none⟩ v) B v tv a b c d:=heap_set W B 0 _ _ _ h
theorem OutR.s1 (h : OutR W B lv tv a b c d) (v : Value) : OutR (W.setCell ⟨B,1,none⟩ v) B lv v a b c d:=heap_set W B 1 _ _ _ h
theorem OutR.s2 (h : OutR W B lv tv a b c d) (v : Int) : OutR (W.setCell ⟨B,2,none⟩ (.int .i64 v)) B lv tv v b c d:=heap_set W B 2 _ _ _ h
theorem OutR.s3 (h : OutR W B lv tv a b c d) (v : Int) : OutR (W.setCell ⟨B,3,none⟩ (.int .i64 v)) B lv tv a v c d:=heap_set W B 3 _ _ _ h
theorem OutR.s4 (h : OutR W B lv tv a b c d) (v : Int) : OutR (W.setCell ⟨B,4,none⟩ (.int .i64 v)) B lv tv a b v d:=heap_set W B 4 _ _ _ h
end
theorem out_ok (cs : Array Value) : ¬ isMut (.cells cs 69 (0,0)) ∧ ¬ isEv (.cells cs 69 (0,0)):=⟨fun h=>by
 unfold isMut at h
 simp only at h
 rcases h with h | h | h <;> exact absurd h (by decide),fun h=>absurd (show (69 : Nat) = 89 from h) (by decide)⟩
theorem lev_ok (cs : Array Value) : ¬ isMut (.cells cs 65 (0,0)) ∧ ¬ isEv (.cells cs 65 (0,0)):=⟨fun h=>by
 unfold isMut at h
 simp only at h
 rcases h with h | h | h <;> exact absurd h (by decide),fun h=>absurd (show (65 : Nat) = 89 from h) (by decide)⟩
theorem evCells_set : ∀ (l : List Ev) (p : Nat) (e : Ev),evCells (l.set p e) = (((evCells l).set (p * 3) (.int .i64 e.w)).set (p * 3 + 1) (.int .i64 e.r)).set (p * 3 + 2) (.int .i64 e.n)
 | [],p,e=>by simp [evCells]
 | a :: l,0,e=>by simp [evCells,Ev.vals]
 | a :: l,p + 1,e=>by
  have ih:=evCells_set l p e
  unfold evCells at ih ⊢
  simp only [List.set_cons_succ,List.flatMap_cons,ih,Ev.vals]
  rw [show (p + 1) * 3 = p * 3 + 3 by omega]
  simp only [List.cons_append,List.nil_append,List.set_cons_succ,show p * 3 + 3 + 1 = p * 3 + 1 + 3 by omega,show p * 3 + 3 + 2 = p * 3 + 2 + 3 by omega]
theorem row_event {W : World} {base g n p : Nat} {l : List Ev} (h : W.ownsRow base 89 3 (.slice (some ⟨g,0,none⟩) n n) n (evCells l)) (_hp : p < n) (e : Ev) :
  (((W.setCell ⟨g,p * 3,none⟩ (.int .i64 e.w)).setCell ⟨g,p * 3 + 1,none⟩ (.int .i64 e.r)).setCell ⟨g,p * 3 + 2,none⟩ (.int .i64 e.n)).ownsRow base 89 3 (.slice (some ⟨g,0,none⟩) n n) n (evCells (l.set p e)):=by
 obtain ⟨h0,h⟩:=h
 have hlen : (evCells (l.set p e)).length = n * 3:=by rw [evCells_set];simp [h0]
 rcases h with ⟨h1,_⟩ | ⟨g',cap,cur,h1,h2,h3,h4,h5,h6,h7⟩
 ·cases h1
 ·injection h1 with e1 _ e3
  injection e1 with e1
  injection e1 with e1
  subst e1 e3
  refine ⟨hlen,.inr ⟨g,n,_,rfl,h2,heap_set _ g (p * 3 + 2) _ _ _ (heap_set _ g (p * 3 + 1) _ _ _ (heap_set W g (p * 3) _ _ _ h3)),h4,h5,by simpa using h6,?_⟩⟩
  have hfull : cur.toList = evCells l:=by rw [← h7,List.take_of_length_le (by simp [h6])]
  rw [List.take_of_length_le (by simp [h6]),evCells_set,← hfull]
  simp [Array.toList_setIfInBounds]
theorem made_ev (n : Nat) : (madeCells #[Value.int .i64 0,.int .i64 0,.int .i64 0] (n * 3)).toList = evCells (List.replicate n ⟨0,0,0⟩):=by
 have h1 : evCells (List.replicate n ⟨0,0,0⟩) = List.replicate (n * 3) (.int .i64 0):=by
  induction n with
  | zero=>rfl
  | succ n ih =>
   rw [List.replicate_succ,show evCells (⟨0,0,0⟩ :: List.replicate n ⟨0,0,0⟩) = [.int .i64 0,.int .i64 0,.int .i64 0] ++ evCells (List.replicate n ⟨0,0,0⟩) from rfl,ih,show (n + 1) * 3 = n * 3 + 3 by omega]
   simp [List.replicate_succ]
 rw [h1]
 apply List.ext_getElem
 ·simp [madeCells]
 ·intro j q1 q2
  simp only [madeCells,Array.toList_map,List.getElem_map,Array.getElem_toList,Array.getElem_range,List.getElem_replicate]
  have : j % 3 < 3:=Nat.mod_lt _ (by omega)
  match hq : j % 3,this with
  | 0,_=>simp
  | 1,_=>simp
  | 2,_=>simp
structure RunI (fs : List (List Ins)) (workers : Nat) (script : List (Int × Int)) (seed x : Int) (w : World) (H ib ob : Nat) (fr : Int) (k : Nat) (W : World) : Prop where
 out : ∃ tv,OutR W (H + 1) (.slice none 0 0) tv (k : Int) (stealsAt fs workers script seed x k : Nat) (failsAt fs workers script seed x k : Nat) fr ∧ W.ownsRow w.heap.size 89 3 tv (trAt fs workers script seed x k).length (evCells (trAt fs workers script seed x k)) ∧ tv.ownBlock ≠ some ob
 ord : W.ownsRow w.heap.size 89 3 (.slice (some ⟨ob,0,none⟩) (gift fs 0) (gift fs 0)) (gift fs 0) (evCells (ordAt fs workers script seed x k))
 bx : Boxed W ib 65 (.slice (some ⟨ob,0,none⟩) (gift fs 0) (gift fs 0))
 res : OutR W H (.slice none 0 0) (.slice none 0 0) 0 0 0 0
 bel : Below w.heap.size w W
section
variable {fs : List (List Ins)} {workers : Nat} {script : List (Int × Int)} {seed x : Int} {w : World} {H ib ob : Nat} {fr : Int} {k : Nat} {W W' : World}
theorem RunI.turn (h : RunI fs workers script seed x w H ib ob fr k W) (hb : Below w.heap.size W W') (hk : ∀ (b : Nat) (o : Obj),W.heap[b]? = some o → (b = H ∨ b = H + 1 ∨ b = ib) ∨ isEv o → W'.heap[b]? = some o) : RunI fs workers script seed x w H ib ob fr k W':=by
 obtain ⟨tv,o1,o2,o3⟩:=h.out
 exact ⟨⟨tv,hk _ _ o1 (.inl (.inr (.inl rfl))),own_isEv o2 (fun b o hb ho=>hk b o hb (.inr ho)),o3⟩,own_isEv h.ord (fun b o hb ho=>hk b o hb (.inr ho)),hk _ _ h.bx (.inl (.inr (.inr rfl))),hk _ _ h.res (.inl (.inl rfl)),h.bel.trans hb⟩
theorem RunI.ab {n₀ B1 : Nat} (h : RunI fs workers script seed x w H ib ob fr k W) (ha : AB n₀ B1 W W') (hn : n₀ = w.heap.size) (h1 : H + 1 < B1) (h2 : ib < B1) : RunI fs workers script seed x w H ib ob fr k W':=by
 refine h.turn ⟨ha.os,ha.tape,ha.output,ha.size,fun b hb=>?_⟩ (fun b o hb ho=>?_)
 ·have hbl : b < W.heap.size:=Nat.lt_of_lt_of_le hb h.bel.size
  exact (ha.keep b _ (Array.getElem?_eq_getElem hbl) (.inl (by omega))).trans (Array.getElem?_eq_getElem hbl).symm
 ·rcases ho with (e | e | e) | ho
  ·subst e
   rw [show W.heap[b]? = _ from h.res] at hb
   cases hb
   exact ha.keep _ _ h.res (.inr (.inl ⟨by omega,(out_ok _).1⟩))
  ·subst e
   obtain ⟨tv,o1,_⟩:=h.out
   rw [show W.heap[H + 1]? = _ from o1] at hb
   cases hb
   exact ha.keep _ _ o1 (.inr (.inl ⟨by omega,(out_ok _).1⟩))
  ·subst e
   rw [show W.heap[b]? = _ from h.bx] at hb
   cases hb
   exact ha.keep _ _ h.bx (.inr (.inl ⟨by omega,(lev_ok _).1⟩))
  ·exact ha.keep b o hb (.inr (.inr ho))
theorem RunI.al (h : RunI fs workers script seed x w H ib ob fr k W) (hb : Below W.heap.size W W') : RunI fs workers script seed x w H ib ob fr k W':=h.turn (hb.mono h.bel.size) (fun b _ hx _=>(hb.block b (Array.getElem?_eq_some_iff.1 hx).1).trans hx)
theorem RunI.put {l : Nat} {o o' : Obj} (h : RunI fs workers script seed x w H ib ob fr k W) (ho : W.heap[l]? = some o) (hc : o.isCells = false) (hl : w.heap.size ≤ l) : RunI fs workers script seed x w H ib ob fr k (W.putObj l o') :=
 h.turn ((Below.refl _ W).grown (grownBy_putObj' W l o') h.bel.size (fun k e=>by cases e;exact hl)) (fun b q hb hq=>(World.putObj_heap_other (fun e=>by
  subst e
  rw [ho] at hb;cases hb
  rcases hq with (e | e | e) | hq
  ·subst e;rw [show W.heap[b]? = _ from h.res] at ho;cases ho;cases hc
  ·subst e;obtain ⟨tv,o1,_⟩:=h.out;rw [show W.heap[H + 1]? = _ from o1] at ho;cases ho;cases hc
  ·subst e;rw [show W.heap[b]? = _ from h.bx] at ho;cases ho;cases hc
  ·cases o <;> first | exact hq.elim | cases hc)).trans hb)
end
end Go.Proofs.YtkmakliebhnhbaaGreat
