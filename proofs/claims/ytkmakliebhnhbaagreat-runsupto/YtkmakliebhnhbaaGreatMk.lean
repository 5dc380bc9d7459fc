import Derived.Test.YtkmakliebhnhbaaGreatItV
namespace Go.Proofs.YtkmakliebhnhbaaGreat
open Go.RowKit Go.Shelf
def mark (D : Nat) : Deferred:={ target:=.collected D,args:=#[] }
def Marks (B : Nat) (W : World) : List Nat → Prop
 | []=>True
 | D :: ds=>B ≤ D ∧ W.heap[D]? = some (.deferred (some [])) ∧ (∀ E ∈ ds,E ≠ D) ∧ Marks B W ds
theorem Marks.lt {B : Nat} {W : World} : ∀ {ds : List Nat},Marks B W ds → ∀ E ∈ ds,B ≤ E ∧ W.heap[E]? = some (.deferred (some []))
 | _ :: _,h,E,he=>by
  rcases List.mem_cons.1 he with rfl | he
  ·exact ⟨h.1,h.2.1⟩
  ·exact Marks.lt h.2.2.2 E he
theorem Marks.kept {B : Nat} {W W' : World} : ∀ {ds : List Nat},Marks B W ds → (∀ E ∈ ds,W'.heap[E]? = W.heap[E]?) → Marks B W' ds
 | [],_,_=>trivial
 | D :: _,h,hk=>⟨h.1,(hk D (List.mem_cons_self ..)).trans h.2.1,h.2.2.1,Marks.kept h.2.2.2 (fun E he=>hk E (List.mem_cons_of_mem _ he))⟩
theorem Marks.below {B : Nat} {W W' : World} {ds : List Nat} (h : Marks B W ds) (hb : Below W.heap.size W W') : Marks B W' ds :=
 h.kept (fun E he=>hb.block E (Array.getElem?_eq_some_iff.1 (h.lt E he).2).1)
theorem Marks.setCell {B : Nat} {W : World} {ds : List Nat} (h : Marks B W ds) {p : Addr} (v : Value) (hp : ∀ E ∈ ds,p.block ≠ E) : Marks B (W.setCell p v) ds :=
 h.kept (fun E he=>Below.heap_setCell _ _ _ _ (fun e=>hp E he e.symm))
theorem Marks.ne {B : Nat} {W : World} {ds : List Nat} (h : Marks B W ds) {b : Nat} {v : Value} {t : TypeId} (hb : Boxed W b t v) : ∀ E ∈ ds,b ≠ E:=fun E he e=>by
 subst e
 have:=(h.lt _ he).2
 rw [show W.heap[b]? = _ from hb] at this
 cases this
theorem Marks.cons {B : Nat} {W W' : World} {ds : List Nat} {D : Nat} (h : Marks B W ds) (hk : Below W.heap.size W W') (hD : W.heap.size ≤ D) (hB : B ≤ D) (hd : W'.heap[D]? = some (.deferred (some []))) : Marks B W' (D :: ds) :=
 ⟨hB,hd,fun E he e=>by have:=(Array.getElem?_eq_some_iff.1 (h.lt E he).2).1;omega,h.below hk⟩
structure Turned (B : Nat) (W W' : World) : Prop where
 below : Below B W W'
 cells : ∀ (b : Nat) (o : Obj),W.heap[b]? = some o → o.isCells = true → W'.heap[b]? = some o
theorem Turned.refl (B : Nat) (W : World) : Turned B W W:=⟨Below.refl _ _,fun _ _ h _=>h⟩
theorem Turned.boxed {B : Nat} {W W' : World} (h : Turned B W W') {b : Nat} {t : TypeId} {v : Value} (hb : Boxed W b t v) : Boxed W' b t v:=h.cells b _ hb rfl
theorem Turned.step {B D : Nat} {W W' : World} {o o' : Obj} (h : Turned B (W.putObj D o') W') (hD : B ≤ D) (ho : W.heap[D]? = some o) (hc : o.isCells = false) : Turned B W W':=by
 have hl:=(Array.getElem?_eq_some_iff.1 ho).1
 refine ⟨((Below.refl B W).grown (grownBy_putObj' W D o') (by omega) (fun k e=>by cases e;omega)).trans h.below,fun b q hq hqc=>?_⟩
 refine h.cells b q ?_ hqc
 have hne : b ≠ D:=fun e=>by subst e;rw [ho] at hq;cases hq;rw [hc] at hqc;cases hqc
 exact (World.putObj_heap_other (by omega)).trans hq
theorem leaves_marks {n B : Nat} {P : Program} {fn : Func} {tmps : Array Value} {R : Ending → World → Prop} : ∀ (ds : List Nat) (W : World),Marks B W ds → (∀ W',Turned B W W' → LeavesIn FW n P fn tmps R [] .returning W') → LeavesInM FW n P fn tmps R (ds.map mark) .returning W
 | [],W,_,h=>h W (Turned.refl _ _)
 | D :: ds,W,hm,h=>by
  refine ⟨by simp,.inl ⟨_,_,rfl,run_takeDeferred hm.2.1,?_⟩⟩
  refine leaves_marks ds _ (hm.2.2.2.kept (fun E he=>World.putObj_heap_other (fun e=>hm.2.2.1 E he (by omega)))) (fun W' hT=>h W' (hT.step hm.1 hm.2.1 rfl))
def Kept2 (W0 W : World) (p q : Nat) : Prop:=∀ b,b < W0.heap.size → b ≠ p → b ≠ q → W.heap[b]? = W0.heap[b]?
theorem kept2_own {β : Type} (W0 : World) (p q : Nat) : OwnFrom W0.heap.size (fun (_ : β) W=>Kept2 W0 W p q):=fun _ X Y row hs hg hr b hb h1 h2=>by
 have h0:=hs b hb h1 h2
 have hl : b < X.heap.size:=by
  rw [Array.getElem?_eq_getElem hb] at h0
  exact (Array.getElem?_eq_some_iff.1 h0).1
 exact (hg.block b hl (fun e=>by have:=(hr b e.symm).1;omega)).trans h0
theorem keepsFrom_below {B : Nat} {W W' : World} (h : Below W.heap.size W W') : KeepsFrom B W W':=⟨h.size,fun k _ _ hk _=>(h.block k (Array.getElem?_eq_some_iff.1 hk).1).trans hk⟩
theorem boxed_below {B : Nat} {W W' : World} {b : Nat} {t : TypeId} {v : Value} (h : Boxed W b t v) (hb : Below B W W') (hlt : b < B) : Boxed W' b t v:=(hb.block b hlt).trans h
theorem Marks.kept2 {B : Nat} {W0 W : World} {p q : Nat} {ds : List Nat} (h : Marks B W0 ds) (hk : Kept2 W0 W p q) (hp : p < B) (hq : q < B) : Marks B W ds :=
 h.kept (fun E he=>by have:=h.lt E he;exact hk E (Array.getElem?_eq_some_iff.1 this.2).1 (by omega) (by omega))
def Box5 (W : World) (B : Nat) (i : Ins) : Prop:=W.heap[B]? = some (.cells #[.int .i64 i.op,.int .i64 i.f,.int .i64 i.r,.int .i64 i.k,.int .i64 i.l] 45 (0,0))
theorem Box5.new (W : World) (i : Ins) : Box5 (W.alloc (.cells #[.int .i64 i.op,.int .i64 i.f,.int .i64 i.r,.int .i64 i.k,.int .i64 i.l] 45)) W.heap.size i:=World.alloc_heap_new W _
theorem Box5.lt {W : World} {B : Nat} {i : Ins} (h : Box5 W B i) : B < W.heap.size:=(Array.getElem?_eq_some_iff.1 h).1
theorem Box5.c0 {W : World} {B : Nat} {i : Ins} (h : Box5 W B i) : W.cell? ⟨B,0,none⟩ = some (.int .i64 i.op):=by simp [World.cell?,show W.heap[B]? = _ from h]
theorem Box5.c1 {W : World} {B : Nat} {i : Ins} (h : Box5 W B i) : W.cell? ⟨B,1,none⟩ = some (.int .i64 i.f):=by simp [World.cell?,show W.heap[B]? = _ from h]
theorem Box5.c2 {W : World} {B : Nat} {i : Ins} (h : Box5 W B i) : W.cell? ⟨B,2,none⟩ = some (.int .i64 i.r):=by simp [World.cell?,show W.heap[B]? = _ from h]
theorem Box5.c3 {W : World} {B : Nat} {i : Ins} (h : Box5 W B i) : W.cell? ⟨B,3,none⟩ = some (.int .i64 i.k):=by simp [World.cell?,show W.heap[B]? = _ from h]
theorem Box5.c4 {W : World} {B : Nat} {i : Ins} (h : Box5 W B i) : W.cell? ⟨B,4,none⟩ = some (.int .i64 i.l):=by simp [World.cell?,show W.heap[B]? = _ from h]
theorem box5_own {β : Type} (B : Nat) (i : Ins) : Own (fun (_ : β) W=>Box5 W B i):=fun _ X Y row hs hg hrow =>
 (hg.block B (Array.getElem?_eq_some_iff.1 hs).1 (fun e'=>by obtain ⟨o,ho,hc⟩:=hrow B e'.symm;rw [show X.heap[B]? = _ from hs] at ho;cases ho;cases hc)).trans hs
theorem insW_of : ∀ (l : List Ins),(∀ i ∈ l,i.wf) → ∃ zs : List InsW,zs.map (·.1) = l
 | [],_=>⟨[],rfl⟩
 | i :: t,h=>by
  obtain ⟨zs,hz⟩:=insW_of t (fun j hj=>h j (List.mem_cons_of_mem _ hj))
  exact ⟨⟨i,h i (List.mem_cons_self ..)⟩ :: zs,by simp [hz]⟩
end Go.Proofs.YtkmakliebhnhbaaGreat
