import Derived.Test.YtkmakliebhnhbaaGreatCrW
import Derived.Test.YtkmakliebhnhbaaGreatRgN
namespace Go.Proofs.YtkmakliebhnhbaaGreat
open Go.RowKit Go.Shelf
attribute [local go_sem] Oper.semAt_some
structure AB (n₀ B1 : Nat) (W W' : World) : Prop where
 os : W'.os = W.os
 tape : W'.tape = W.tape
 output : W'.output = W.output
 size : W.heap.size ≤ W'.heap.size
 keep : ∀ (k : Nat) (o : Obj),W.heap[k]? = some o → k < n₀ ∨ (k < B1 ∧ ¬ isMut o) ∨ isEv o → W'.heap[k]? = some o
theorem ev_not_mut {o : Obj} (h : isEv o) : ¬ isMut o:=fun hm=>by
 cases o <;> first | (exact h.elim) | skip
 unfold isEv at h
 unfold isMut at hm
 simp only at h hm
 subst h
 rcases hm with hm | hm | hm <;> exact absurd hm (by decide)
theorem AB.of_below {n₀ B1 : Nat} {W W' : World} (h : Below W.heap.size W W') : AB n₀ B1 W W':=⟨h.os,h.tape,h.output,h.size,fun i _ hi _=>(h.block i (Array.getElem?_eq_some_iff.1 hi).1).trans hi⟩
theorem AB.of_kept {n₀ B1 : Nat} {W W' : World} (h : Kept n₀ W W') : AB n₀ B1 W W':=⟨h.below.os,h.below.tape,h.below.output,h.below.size,fun i o hi hc=>by
 rcases hc with hc | ⟨_,hc⟩ | hc
 ·exact (h.below.block i hc).trans hi
 ·exact h.keep i o hi hc
 ·exact h.keep i o hi (ev_not_mut hc)⟩
theorem AB.put {n₀ B1 l : Nat} {W : World} {o' o : Obj} (hl : B1 ≤ l) (hn : n₀ ≤ B1) (ho : W.heap[l]? = some o) (hc : o.isCells = false) : AB n₀ B1 W (W.putObj l o'):=⟨rfl,rfl,rfl,by simp [World.putObj],fun i q hi hq=>(World.putObj_heap_other (fun e=>by
 subst e
 rw [ho] at hi;cases hi
 rcases hq with hq | ⟨hq,_⟩ | hq
 ·omega
 ·omega
 ·cases o <;> first | exact hq.elim | cases hc)).trans hi⟩
theorem mut_notEO {o : Obj} (h : isMut o ∨ isIns o) : notEO o:=by
 cases o <;> try exact trivial
 rcases h with h | h
 ·unfold isMut at h
  simp only at h
  unfold notEO
  rcases h with h | h | h <;> subst h <;> exact ⟨by decide,by decide⟩
 ·unfold isIns at h
  simp only at h
  subst h
  unfold notEO
  exact ⟨by decide,by decide⟩
theorem mut_cells {o : Obj} (h : isMut o ∨ isIns o) : o.isCells = true:=by
 cases o <;> first | rfl | (rcases h with h | h <;> exact h.elim)
set_option maxHeartbeats 1000000 in
theorem turns_calls (workers : Int) (sv : Value) (a : Option Addr) (n cap : Nat) (hsv : sv = .slice a n cap) (w : World) : Calls Tryz.prog 78 #[.int .i64 workers,sv] w fun e w'=>e = .returned (.func (.func 101) #[] #[.pointer (some ⟨w.heap.size + 1,0,none⟩),.pointer (some ⟨w.heap.size,0,none⟩)]) ∧ w' = (w.alloc (.cells #[.int .i64 workers] 3)).alloc (.cells #[sv] 27):=by
 subst hsv
 go_enter Tryz.func78,Tryz.ntmps78
 go_wp2
 go_ret
 exact ⟨rfl,rfl⟩
set_option maxHeartbeats 1000000 in
theorem steps_calls (cb rb : Nat) (workers : Int) (a : Option Addr) (n cap : Nat) (w : World) : Calls Tryz.prog 60 #[.pointer (some ⟨cb,0,none⟩),.pointer (some ⟨rb,0,none⟩),.int .i64 workers,.slice a n cap] w fun e w'=>e = .returned (.func (.func 77) #[] #[.pointer (some ⟨w.heap.size + 2,0,none⟩),.pointer (some ⟨w.heap.size + 1,0,none⟩),.pointer (some ⟨w.heap.size + 3,0,none⟩),.pointer (some ⟨w.heap.size,0,none⟩)]) ∧ w' = (((w.alloc (.cells #[.pointer (some ⟨cb,0,none⟩)] 94)).alloc (.cells #[.pointer (some ⟨rb,0,none⟩)] 133)).alloc (.cells #[.int .i64 workers] 3)).alloc (.cells #[.slice a n cap] 27):=by
 go_enter Tryz.func60,Tryz.ntmps60
 go_wp2
 go_ret
 exact ⟨rfl,rfl⟩
theorem made3 (n j : Nat) (hj : j < n) : (madeCells #[Value.int .i64 0,.pointer none,.slice none 0 0] (n * 3)).toList[3 * j]? = some (.int .i64 0) ∧ (madeCells #[Value.int .i64 0,.pointer none,.slice none 0 0] (n * 3)).toList[3 * j + 1]? = some (.pointer none) ∧ (madeCells #[Value.int .i64 0,.pointer none,.slice none 0 0] (n * 3)).toList[3 * j + 2]? = some (.slice none 0 0):=by
 have hx : ∀ k,k < n * 3 → (madeCells #[Value.int .i64 0,.pointer none,.slice none 0 0] (n * 3)).toList[k]? = (#[Value.int .i64 0,.pointer none,.slice none 0 0] : Array Value)[k % 3]?:=fun k hk=>by
  have h3 : k % 3 < 3:=Nat.mod_lt _ (by omega)
  simp only [madeCells,Array.toList_map,List.getElem?_map]
  have : (Array.range (n * 3)).toList[k]? = some k:=by simp [hk]
  rw [this]
  simp [h3]
 refine ⟨?_,?_,?_⟩
 ·rw [hx _ (by omega),show 3 * j % 3 = 0 by omega];rfl
 ·rw [hx _ (by omega),show (3 * j + 1) % 3 = 1 by omega];rfl
 ·rw [hx _ (by omega),show (3 * j + 2) % 3 = 2 by omega];rfl
def Row0 (W : World) (wb workers k : Nat) : Prop:=∃ cs,W.heap[wb]? = some (.cells cs 183 (0,0)) ∧ ∀ j,j < workers → cs[3 * j]? = some (.int .i64 (if j < k then (j : Int) else 0)) ∧ cs[3 * j + 1]? = some (.pointer none) ∧ cs[3 * j + 2]? = some (.slice none 0 0)
theorem Row0.made {W : World} {base wb workers : Nat} (h : W.ownsRow base 183 3 (.slice (some ⟨wb,0,none⟩) workers workers) workers (madeCells #[Value.int .i64 0,.pointer none,.slice none 0 0] (workers * 3)).toList) : Row0 W wb workers 0:=by
 rcases h.2 with ⟨h1,_⟩ | ⟨g,cap,cur,h1,h2,h3,h4,h5,h6,h7⟩
 ·cases h1
 ·injection h1 with e1 _ e3
  injection e1 with e1
  injection e1 with e1
  subst e1 e3
  refine ⟨cur,h3,fun j hj=>?_⟩
  obtain ⟨q0,q1,q2⟩:=made3 workers j hj
  rw [← h7] at q0 q1 q2
  rw [List.getElem?_take_of_lt (by omega),Array.getElem?_toList] at q0 q1 q2
  exact ⟨by rw [q0,if_neg (by omega)],q1,q2⟩
theorem Row0.next {W : World} {wb workers k : Nat} (h : Row0 W wb workers k) (hk : k < workers) : Row0 (W.setCell ⟨wb,3 * k,none⟩ (.int .i64 (k : Int))) wb workers (k + 1):=by
 obtain ⟨cs,h1,h2⟩:=h
 refine ⟨_,heap_set' _ _ _ _ _ _ _ h1,fun j hj=>?_⟩
 obtain ⟨q0,q1,q2⟩:=h2 j hj
 refine ⟨?_,set3 _ _ _ _ _ q1 (by omega),set3 _ _ _ _ _ q2 (by omega)⟩
 by_cases e : j = k
 ·subst e;rw [set3s _ _ _ _ q0,if_pos (by omega)]
 ·rw [set3 _ _ _ _ _ q0 (by omega)]
  by_cases hjk : j < k
  ·rw [if_pos hjk,if_pos (by omega)]
  ·rw [if_neg hjk,if_neg (by omega)]
theorem crew_start {fs : List (List Ins)} {W : World} {n₀ wb rb workers : Nat} {seed x : Int} (hr : Row0 W wb workers workers) (hw : 0 < workers) (hlo : n₀ ≤ wb) (hrb : n₀ ≤ rb) (ht : TkAt W (fun _=>rb) rb ⟨0,x,seed,0,fs[0]?.getD [],0,0,false,0,.root⟩) (hne : rb ≠ wb) :
  Crew (W.setCell ⟨wb,1,none⟩ (.pointer (some ⟨rb,0,none⟩))) n₀ wb workers (start fs workers seed x) (fun _=>rb) (fun _=>.slice none 0 0):=by
 obtain ⟨cs,h1,h2⟩:=hr
 have hw0 : ∀ k,k < workers → (start fs workers seed x).w k = if k = 0 then ⟨some 0,[]⟩ else wk0:=fun k hk=>by
  unfold start St.w
  cases k with
  | zero=>rfl
  | succ k =>
   simp only [List.getElem?_cons_succ]
   rw [List.getElem?_replicate,if_pos (by omega)]
   rfl
 refine ⟨by simp [start];omega,⟨_,heap_set' _ _ _ _ _ _ _ h1,fun k hk=>?_⟩,hlo,fun i hi=>?_,fun i j hi hj _=>?_,fun k hk=>?_,fun k k' _ _ _ b hb=>by cases hb⟩
 ·obtain ⟨q0,q1,q2⟩:=h2 k hk
  rw [hw0 k hk]
  by_cases e : k = 0
  ·subst e
   exact ⟨by rw [set3 _ _ _ _ _ q0 (by omega)];simp [hw],by rw [Nat.mul_zero,Nat.zero_add] at q1 ⊢;exact set3s _ _ _ _ q1,by rw [set3 _ _ _ _ _ q2 (by omega)]⟩
  ·rw [if_neg e]
   exact ⟨by rw [set3 _ _ _ _ _ q0 (by omega),if_pos hk],by rw [set3 _ _ _ _ _ q1 (by omega)];rfl,by rw [set3 _ _ _ _ _ q2 (by omega)]⟩
 ·have : i = 0:=by simpa [start] using hi
  subst this
  refine ⟨?_,hrb⟩
  exact ht.keep (Below.heap_setCell _ _ _ _ hne) (fun b o hb ho=>(Below.heap_setCell _ _ _ _ (fun e=>by
   have e : b = wb:=e
   subst e
   rw [h1] at hb;cases hb
   exact absurd (show (183 : Nat) = 45 from ho) (by decide))).trans hb)
 ·have h0 : i = 0:=by simpa [start] using hi
  have h1 : j = 0:=by simpa [start] using hj
  omega
 ·rw [hw0 k hk]
  by_cases e : k = 0
  ·rw [if_pos e];exact .inl ⟨rfl,rfl⟩
  ·rw [if_neg e];exact .inl ⟨rfl,rfl⟩
end Go.Proofs.YtkmakliebhnhbaaGreat
