import Derived.Test.YtkmakliebhnhbaaGreatMk
import Derived.Test.YtkmakliebhnhbaaGreatFrA
import Derived.Test.YtkmakliebhnhbaaGreatCopyA
namespace Go.Proofs.YtkmakliebhnhbaaGreat
open Go.RowKit
def endPost {α : Type} (l D : Nat) (Kp : World → World → Prop) (I : List α → World → Prop) (Ix : Code → List α → World → Prop) (xs : List α) (W : World) : Exit → Act → World → Prop
  | .normal,_,W'=>(W'.heap[l]? = W.heap[l]? ∧ W'.heap[D]? = W.heap[D]?) ∧ Kp W W' ∧ I xs W'
  | .ret,_,W'=>(W'.heap[l]? = W.heap[l]? ∧ W'.heap[D]? = W.heap[D]?) ∧ Ix .ret xs W'
  | _,_,_=>False
theorem range_keep {F : Fence} {n : Nat} {P : Program} {α : Type} {g : Operand} {ps : Array Tmp} {assign body : Code} {Q : Exit → Act → World → Prop} {a : Act} {w : World}
    (hro : F.round = none) (h1 : 1 ≤ n) {gf : Nat} {lb : Array Value} (hg : a.eval g = .func (.func gf) #[] lb) (hFg : F.fn gf) (eg : ∀ args w,(callFunc gf args).run P w = .ok (.enter gf args) w)
    {encs : α → Array Value} (hps : ∀ x,(encs x).size = ps.size) (Kp : World → World → Prop) (hKt : ∀ {A B C : World},Kp A B → Kp B C → Kp A C) (hKl : ∀ (W : World) (o' : Obj),w.heap.size + 1 < W.heap.size → Kp W (W.putObj (w.heap.size + 1) o'))
    (I : List α → World → Prop) (Ix : Code → List α → World → Prop) (hIl : ∀ (pre : List α) (W : World) (o o' : Obj),I pre W → W.heap[w.heap.size + 1]? = some o → o.isCells = false → I pre (W.putObj (w.heap.size + 1) o'))
    (hIxl : ∀ (c : Code) (pre : List α) (W : World) (o o' : Obj),Ix c pre W → W.heap[w.heap.size + 1]? = some o → o.isCells = false → Ix c pre (W.putObj (w.heap.size + 1) o'))
    (h0 : ∀ o o',I [] ((w.alloc o).alloc o')) {S : List α → Prop} {ok : List α → α → Prop}
    (hseq : ∀ (Rd : World → Prop) (Jx : List α → World → Prop) (W1 : World),Below w.heap.size w W1 → W1.heap.size = w.heap.size + 2 →
      (∀ W W',Rd W → W'.heap[w.heap.size + 1]? = W.heap[w.heap.size + 1]? → W'.heap[w.heap.size]? = W.heap[w.heap.size]? → Rd W') →
      (∀ pre W W',Jx pre W → (∀ c,Ix c pre W → Ix c pre W') → W'.heap[w.heap.size + 1]? = W.heap[w.heap.size + 1]? → W'.heap[w.heap.size]? = W.heap[w.heap.size]? → Jx pre W') →
      (∀ pre x W,I pre W → Rd W → ok pre x → YieldAt F (n - 1 - 1) P (w.heap.size + 1) (encs x) W fun e W'=>(e = .returned (.bool true) ∧ I (pre ++ [x]) W' ∧ Rd W' ∧ Kp W W') ∨ (e = .returned (.bool false) ∧ Jx (pre ++ [x]) W')) →
      (∀ W,Rd W → (∃ r,W.heap[w.heap.size + 1]? = some (.loop r)) ∧ W.heap[w.heap.size]? = some (.deferred (some []))) → (∀ pre W,Jx pre W → (∃ c,Ix c pre W) ∧ (∃ r,W.heap[w.heap.size + 1]? = some (.loop r)) ∧ W.heap[w.heap.size]? = some (.deferred (some []))) →
      I [] W1 → Rd W1 →
      CallsIn F (n - 1) P gf (#[.func (.yield (w.heap.size + 1)) #[] #[]] ++ lb) W1 fun e W'=>(∃ v,e = .returned v) ∧ ((∃ xs,S xs ∧ I xs W' ∧ Rd W') ∨ (∃ pre,Jx pre W')))
    (Ax : α → Act → World → Prop) (hAx : ∀ x a' W o',Ax x a' W → w.heap.size + 1 < W.heap.size → (∃ r,W.heap[w.heap.size + 1]? = some (.loop r)) → Ax x a' (W.putObj (w.heap.size + 1) o'))
    (hassign : ∀ (pre : List α) (x : α) (W : World) (K : Act → World → Prop),I pre W → (∃ r,W.heap[w.heap.size + 1]? = some (.loop r)) → (∀ a' W',(W'.heap[w.heap.size + 1]? = W.heap[w.heap.size + 1]? ∧ W'.heap[w.heap.size]? = W.heap[w.heap.size]?) → Kp W W' → I pre W' → Ax x a' W' → K a' W') →
      assign.wpIn (F.inRound (w.heap.size + 1)) (n - 1 - 1) P (Exit.then K (fun _ _ _=>False)) { tmps:=(ps.zip (encs x)).foldl (fun t (p,v)=>t.setIfInBounds p v) a.tmps,defers:=[] } W)
    (hbody : ∀ (pre : List α) (x : α) (a' : Act) (W : World),(∃ r,W.heap[w.heap.size + 1]? = some (.loop r)) → W.heap[w.heap.size]? = some (.deferred (some [])) → I pre W → Ax x a' W → ok pre x → body.wpIn (F.inRound (w.heap.size + 1)) (n - 1 - 1) P (endPost (w.heap.size + 1) w.heap.size Kp I Ix (pre ++ [x]) W) a' W)
    (hdone : ∀ (xs : List α) (W : World),S xs → I xs W → W.heap[w.heap.size]? = some (.deferred (some [])) → (∃ r,W.heap[w.heap.size + 1]? = some (.loop r)) → Q .normal { a with defers:={ target:=.collected w.heap.size,args:=#[] } :: a.defers } W)
    (hstop : ∀ (c : Code) (pre : List α) (W : World),Ix c pre W → W.heap[w.heap.size]? = some (.deferred (some [])) → c.wpIn F n P Q { a with defers:={ target:=.collected w.heap.size,args:=#[] } :: a.defers } W) :
    (Code.rangeFunc g ps assign body).wpIn F n P Q a w:=by
  refine wpIn_rangeFunc ?_
  intro fn hfn
  rw [hro]
  obtain ⟨rec,hrec⟩ : ∃ rec : LoopState → Option Code → Loop,rec = fun st pe=>{ state:=st,pending:=pe,fn,tmps:=a.tmps,params:=ps,assign,body,defers:=w.heap.size }:=⟨_,rfl⟩
  obtain ⟨W1,hW1⟩ : ∃ W1,(w.alloc (.deferred (some []))).alloc (.loop (rec .ready none)) = W1:=⟨_,rfl⟩
  have hL1 : W1.heap[w.heap.size + 1]? = some (.loop (rec .ready none)):=by
    rw [← hW1];have:=World.alloc_heap_new (w.alloc (.deferred (some []))) (.loop (rec .ready none));rwa [World.size_alloc] at this
  have hK1 : W1.heap[w.heap.size]? = some (.deferred (some [])):=by
    rw [← hW1];exact (Below.heap_alloc _ _ _ (by simp)).trans (World.alloc_heap_new w _)
  have hI1 : I [] W1:=by rw [← hW1];exact h0 _ _
  have hb1 : Below w.heap.size w W1:=by rw [← hW1];exact ((Below.refl _ w).alloc (Nat.le_refl _) _).alloc (by simp) _
  have hs1 : W1.heap.size = w.heap.size + 2:=by rw [← hW1];simp
  have oth : ∀ (W : World) (o' : Obj),(W.putObj (w.heap.size + 1) o').heap[w.heap.size]? = W.heap[w.heap.size]?:=fun W o'=>World.putObj_heap_other (by omega)
  refine ⟨w.heap.size + 1,[{ target:=.collected w.heap.size,args:=#[] }],W1,{ target:=.fn (.func gf) lb,args:=#[.func (.yield (w.heap.size + 1)) #[] #[]] },W1,gf,
    #[.func (.yield (w.heap.size + 1)) #[] #[]] ++ lb,W1,?_,?_,?_,?_,fun _=>h1,?_⟩
  · rw [← hW1,hrec];exact run_enterLoop_outer _ _ _ _ _
  · simp only [resolve,hg]
    simp [go_sem]
  · intro f' hf';simp [Target.leads] at hf';subst hf';exact hFg
  · simp [invoke,go_sem,eg]
  · refine (hseq (fun W=>W.heap[w.heap.size + 1]? = some (.loop (rec .ready none)) ∧ W.heap[w.heap.size]? = some (.deferred (some [])))
      (fun pre W=>∃ c,Ix c pre W ∧ W.heap[w.heap.size + 1]? = some (.loop (rec .done (some c))) ∧ W.heap[w.heap.size]? = some (.deferred (some [])))
      W1 hb1 hs1 (fun W W' h e1 e2=>⟨e1.trans h.1,e2.trans h.2⟩)
      (fun pre W W' h hx e1 e2=>by obtain ⟨c,q1,q2,q3⟩:=h;exact ⟨c,hx c q1,e1.trans q2,e2.trans q3⟩) ?_ (fun W h=>⟨⟨_,h.1⟩,h.2⟩) (fun pre W h=>by obtain ⟨c,q1,q2,q3⟩:=h;exact ⟨⟨c,q1⟩,⟨_,q2⟩,q3⟩) hI1 ⟨hL1,hK1⟩).mono ?_
    · rintro pre x W hi ⟨hl,hk⟩ hok
      have hy:=run_yield (P:=P) (args:=encs x) hl (by rw [hrec];exact hps x)
      rw [hrec] at hy
      refine ⟨fn,_,assign,body,hy,roundIn_of_wpIn hfn (hassign pre x W _ hi ⟨_,hl⟩ ?_)⟩
      clear hy
      rintro a' Wa ⟨e1,e2⟩ hka hia hax
      have hla:=e1.trans hl
      have hda:=e2.trans hk
      have hlt : w.heap.size + 1 < Wa.heap.size:=(Array.getElem?_eq_some_iff.1 hla).1
      refine ⟨_,run_beginRound hla (by rw [hrec]),?_⟩
      have hl2 : (Wa.putObj (w.heap.size + 1) (.loop { rec .ready none with state:=.busy })).heap[w.heap.size + 1]? = some (.loop { rec .ready none with state:=.busy }):=World.putObj_heap_same hlt
      have hk2:=(oth Wa (.loop { rec .ready none with state:=.busy })).trans hda
      refine wpIn_mono (hbody pre x a' _ ⟨_,hl2⟩ hk2 (hIl pre Wa _ _ hia hla rfl) (hAx x a' Wa _ hax hlt ⟨_,hla⟩) hok) ?_
      have fin : ∀ (jump : Option Code) (W3 : World),W3.heap[w.heap.size + 1]? = some (.loop { rec .ready none with state:=.busy }) → W3.heap[w.heap.size]? = some (.deferred (some [])) →
          (Instr.endRound (w.heap.size + 1) jump).run P W3 = .ok (.bool jump.isNone) (W3.putObj (w.heap.size + 1) (.loop (rec (if jump.isNone then .ready else .done) jump))) ∧
          (W3.putObj (w.heap.size + 1) (.loop (rec (if jump.isNone then .ready else .done) jump))).heap[w.heap.size + 1]? = some (.loop (rec (if jump.isNone then .ready else .done) jump)) ∧
          (W3.putObj (w.heap.size + 1) (.loop (rec (if jump.isNone then .ready else .done) jump))).heap[w.heap.size]? = some (.deferred (some [])):=fun jump W3 hl3 hk3=>by
        have:=run_endRound (P:=P) jump hl3
        rw [hrec] at this ⊢
        exact ⟨this,World.putObj_heap_same (Array.getElem?_eq_some_iff.1 hl3).1,(oth W3 _).trans hk3⟩
      rintro e a3 W3 hp
      cases e with
      | normal =>
        obtain ⟨⟨e3,e4⟩,hkp3,hi3⟩:=hp
        have hl3:=e3.trans hl2
        obtain ⟨hr,hl4,hk4⟩:=fin none W3 hl3 (e4.trans hk2)
        exact ⟨_,_,hr,.inl ⟨rfl,hIl _ W3 _ _ hi3 hl3 rfl,⟨hl4,hk4⟩,hKt hka (hKt (hKl Wa _ hlt) (hKt hkp3 (hKl W3 _ (Array.getElem?_eq_some_iff.1 hl3).1)))⟩⟩
      | ret =>
        obtain ⟨⟨e3,e4⟩,hi3⟩:=hp
        have hl3:=e3.trans hl2
        obtain ⟨hr,hl4,hk4⟩:=fin (some .ret) W3 hl3 (e4.trans hk2)
        exact ⟨_,_,hr,.inr ⟨rfl,.ret,hIxl _ _ W3 _ _ hi3 hl3 rfl,hl4,hk4⟩⟩
      | exit id=>exact hp.elim
      | goto t=>exact hp.elim
      | panic ch=>exact hp.elim
      | outgrown=>exact hp.elim
    · rintro e W2 ⟨⟨v,rfl⟩,(⟨xs,hS,hi,hl,hk⟩ | ⟨pre,c,hi,hl,hk⟩)⟩
      · refine ⟨none,_,by have:=run_endLoop (P:=P) hl (by rw [hrec];simp);rw [hrec] at this;exact this,hdone xs _ hS (hIl _ W2 _ _ hi hl rfl) ((oth W2 _).trans hk) ⟨_,World.putObj_heap_same (Array.getElem?_eq_some_iff.1 hl).1⟩⟩
      · exact ⟨some c,_,by have:=run_endLoop (P:=P) hl (by rw [hrec];simp);rw [hrec] at this;exact this,hstop c pre _ (hIxl c pre W2 _ _ hi hl rfl) ((oth W2 _).trans hk)⟩
end Go.Proofs.YtkmakliebhnhbaaGreat
namespace Go.Proofs.YtkmakliebhnhbaaGreat
open Go.RowKit Go.Shelf
attribute [local go_sem] Oper.semAt_some
def notEO : Obj → Prop
  | .cells _ t _=>t ≠ 89 ∧ t ≠ 69
  | _=>True
def isEv : Obj → Prop
  | .cells _ t _=>t = 89
  | _=>False
structure KI (n₀ l : Nat) (M : Nat → Prop) (W W' : World) : Prop where
  below : Below n₀ W W'
  keep : ∀ (k : Nat) (o : Obj),W.heap[k]? = some o → k ≠ l → ¬ M k → notEO o → W'.heap[k]? = some o
theorem KI.trans {n₀ l : Nat} {M : Nat → Prop} {A B C : World} (h : KI n₀ l M A B) (k : KI n₀ l M B C) : KI n₀ l M A C :=
  ⟨h.below.trans k.below,fun i o hi h1 h2 h3=>k.keep i o (h.keep i o hi h1 h2 h3) h1 h2 h3⟩
theorem KI.more {n₀ l : Nat} {M M' : Nat → Prop} {W W' : World} (h : KI n₀ l M W W') (hM : ∀ k,M k → k < W.heap.size → M' k) : KI n₀ l M' W W' :=
  ⟨h.below,fun i o hi h1 h2 h3=>h.keep i o hi h1 (fun hm=>h2 (hM i hm (Array.getElem?_eq_some_iff.1 hi).1)) h3⟩
theorem KI.of_below {n₀ l : Nat} {M : Nat → Prop} {W W' : World} (h : Below W.heap.size W W') (hn : n₀ ≤ W.heap.size) : KI n₀ l M W W' :=
  ⟨h.mono hn,fun i _ hi _ _ _=>(h.block i (Array.getElem?_eq_some_iff.1 hi).1).trans hi⟩
theorem KI.set {n₀ l b j : Nat} {W : World} {v : Value} (hn : n₀ ≤ b) : KI n₀ l (fun k=>k = b) W (W.setCell ⟨b,j,none⟩ v) :=
  ⟨(Below.refl _ W).setCell (p:=⟨b,j,none⟩) hn _,fun _ _ hi _ h2 _=>(Below.heap_setCell _ _ _ _ h2).trans hi⟩
theorem KI.trans' {n₀ l : Nat} {M M' : Nat → Prop} {A B C : World} (h : KI n₀ l M A B) (k : KI n₀ l M' B C) (hM : ∀ i,M' i → i < A.heap.size → M i) : KI n₀ l M A C :=
  ⟨h.below.trans k.below,fun i o hi h1 h2 h3=>k.keep i o (h.keep i o hi h1 h2 h3) h1 (fun hm=>h2 (hM i hm (Array.getElem?_eq_some_iff.1 hi).1)) h3⟩
theorem KI.frame {n₀ l fb : Nat} {W W' : World} (hb : Below n₀ W W') (h : ∀ b,b < W.heap.size → b ≠ fb → W'.heap[b]? = W.heap[b]?) : KI n₀ l (fun k=>k = fb) W W' :=
  ⟨hb,fun i _ hi _ h2 _=>(h i (Array.getElem?_eq_some_iff.1 hi).1 h2).trans hi⟩
theorem KI.frb {n₀ l : Nat} {M : Nat → Prop} {W W' : World} (h : KI n₀ l M W W') {B f : Nat} {x z r : Int} (q : FrB W B f x z r) (h1 : B ≠ l) (h2 : ¬ M B) : FrB W' B f x z r:=h.keep B _ q h1 h2 ⟨by decide,by decide⟩
theorem KI.boxed {n₀ l : Nat} {M : Nat → Prop} {W W' : World} (h : KI n₀ l M W W') {B : Nat} {t : TypeId} {v : Value} (q : Boxed W B t v) (h1 : B ≠ l) (h2 : ¬ M B) (h3 : t ≠ 89 ∧ t ≠ 69) : Boxed W' B t v:=h.keep B _ q h1 h2 h3
theorem KI.code {n₀ l cb : Nat} {M : Nat → Prop} {W W' : World} {fs : List (List Ins)} {reds : List Int} (h : KI n₀ l M W W') (q : CodeP (Lt n₀) W cb fs reds) : CodeP (Lt n₀) W' cb fs reds:=q.turn (fun b hb _=>⟨hb,h.below.block b hb⟩)
structure KC (B1 fb0 : Nat) (W W' : World) : Prop where
  os : W'.os = W.os
  tape : W'.tape = W.tape
  output : W'.output = W.output
  size : W.heap.size ≤ W'.heap.size
  keep : ∀ (k : Nat) (o : Obj),W.heap[k]? = some o → (k < B1 ∧ k ≠ fb0) ∨ isEv o → W'.heap[k]? = some o
theorem KC.of_below {B1 fb0 : Nat} {W W' : World} (h : Below W.heap.size W W') : KC B1 fb0 W W':=⟨h.os,h.tape,h.output,h.size,fun i _ hi _=>(h.block i (Array.getElem?_eq_some_iff.1 hi).1).trans hi⟩
theorem KC.trans {B1 fb0 : Nat} {A B C : World} (h : KC B1 fb0 A B) (k : KC B1 fb0 B C) : KC B1 fb0 A C:=⟨k.os.trans h.os,k.tape.trans h.tape,k.output.trans h.output,Nat.le_trans h.size k.size,fun i o hi hc=>k.keep i o (h.keep i o hi hc) hc⟩
theorem KC.set {B1 fb0 fb : Nat} {W : World} {f : Nat} {x z r : Int} (q : FrB W fb f x z r) (hf : B1 ≤ fb ∨ fb = fb0) (v : Value) : KC B1 fb0 W (W.setCell ⟨fb,3,none⟩ v) :=
  ⟨rfl,rfl,rfl,by simp [World.setCell],fun i o hi hc=>by
    refine (Below.heap_setCell _ _ _ _ (fun e=>?_)).trans hi
    have e : i = fb:=e
    subst e
    rcases hc with hc | hc
    · omega
    · rw [show W.heap[i]? = _ from q] at hi;cases hi;exact absurd (show (121 : Nat) = 89 from hc) (by decide)⟩
theorem KC.frame {B1 fb0 fb f : Nat} {x z r : Int} {W W' : World} (q : FrB W fb f x z r) (hf : B1 ≤ fb ∨ fb = fb0) (hb : Below 0 W W') (h : ∀ b,b < W.heap.size → b ≠ fb → W'.heap[b]? = W.heap[b]?) : KC B1 fb0 W W' :=
  ⟨hb.os,hb.tape,hb.output,hb.size,fun i o hi hc=>by
    refine (h i (Array.getElem?_eq_some_iff.1 hi).1 (fun e=>?_)).trans hi
    subst e
    rcases hc with hc | hc
    · omega
    · rw [show W.heap[i]? = _ from q] at hi;cases hi;exact absurd (show (121 : Nat) = 89 from hc) (by decide)⟩
theorem KC.put {B1 fb0 D : Nat} {W : World} {o o' : Obj} (hD : B1 ≤ D) (hf : D ≠ fb0) (ho : W.heap[D]? = some o) (hc : o.isCells = false) : KC B1 fb0 W (W.putObj D o') :=
  ⟨rfl,rfl,rfl,by simp,fun i q hi hq=>by
    refine (World.putObj_heap_other (fun e=>?_)).trans hi
    subst e
    rcases hq with hq | hq
    · omega
    · rw [ho] at hi;cases hi;cases o <;> first | (cases hc;done) | exact hq.elim⟩
structure Loopy (fs : List (List Ins)) (reds : List Int) (n₀ l B1 fb0 cb N : Nat) (J : List Ev → World → Prop) : Prop where
  abide : ∀ pre W W',J pre W → KC B1 fb0 W W' → J pre W'
  yld : ∀ m pre x W,J pre W → pre.length < N → YieldAt FW m Tryz.prog l #[.agg #[.int .i64 x.w,.int .i64 x.r,.int .i64 x.n]] W fun e W'=>e = .returned (.bool true) ∧ J (pre ++ [x]) W' ∧ KI n₀ l (fun _=>False) W W'
  lB : l < B1
  nB : n₀ ≤ l
  fl : fb0 ≠ l
  fn : n₀ ≤ fb0
  ok : FsOk fs reds.length
  l10 : ∀ l ∈ fs,l.length ≤ 10
theorem Loopy.ne {fs : List (List Ins)} {reds : List Int} {n₀ l B1 fb0 cb N : Nat} {J : List Ev → World → Prop} (h : Loopy fs reds n₀ l B1 fb0 cb N J) {fb : Nat} (hf : B1 ≤ fb ∨ fb = fb0) : fb ≠ l ∧ n₀ ≤ fb:=by
  have h1:=h.lB
  have h2:=h.nB
  have h3:=h.fl
  have h4:=h.fn
  rcases hf with hf | hf
  · omega
  · subst hf;exact ⟨h3,h4⟩
def DoSaid (fs : List (List Ins)) (reds : List Int) (n₀ l B1 fb0 cb N d : Nat) (J : List Ev → World → Prop) : Prop:=∀ (f : Nat) (i : Ins) (x h r : Int) (pre : List Ev) (W : World) (fb : Nat),mayB fs.length reds.length f i = true → i.wf → fs.length ≤ f + d + 1 → 0 ≤ r → r ≤ 100 → FrB W fb f x h r → (B1 ≤ fb ∨ fb = fb0) → B1 ≤ W.heap.size → CodeP (Lt n₀) W cb fs reds → J pre W → pre.length + 10 ^ d ≤ N →
  Calls Tryz.prog 98 #[.pointer (some ⟨cb,0,none⟩),.pointer (some ⟨fb,0,none⟩),i.agg,.func (.yield l) #[] #[]] W fun e W'=>e = .returned (.bool true) ∧ J (pre ++ oneZ (ser fs d) x h r i) W' ∧ FrB W' fb f x h (rankZ r i) ∧ KI n₀ l (fun k=>k = fb) W W'
def WalkSaid (fs : List (List Ins)) (reds : List Int) (n₀ l B1 fb0 cb N d : Nat) (J : List Ev → World → Prop) : Prop:=∀ (f : Nat) (x h : Int) (pre : List Ev) (W : World) (fb : Nat),f < fs.length → fs.length ≤ f + d → FrB W fb f x h 0 → (B1 ≤ fb ∨ fb = fb0) → B1 ≤ W.heap.size → CodeP (Lt n₀) W cb fs reds → J pre W → pre.length + 10 ^ d ≤ N →
  Calls Tryz.prog 71 #[.pointer (some ⟨cb,0,none⟩),.pointer (some ⟨fb,0,none⟩),.func (.yield l) #[] #[]] W fun e W'=>e = .returned (.bool true) ∧ J (pre ++ ser fs d f x h) W' ∧ KI n₀ l (fun k=>k = fb) W W'
set_option maxRecDepth 100000 in
set_option maxHeartbeats 4000000 in
theorem do_put {fs : List (List Ins)} {reds : List Int} {n₀ l B1 fb0 cb N : Nat} {J : List Ev → World → Prop} (L : Loopy fs reds n₀ l B1 fb0 cb N J) (f : Nat) (F R K LL : Int) (x h r : Int) (pre : List Ev) (W : World) (fb : Nat) (hb : FrB W fb f x h r) (hf : B1 ≤ fb ∨ fb = fb0) (hW : B1 ≤ W.heap.size) (hJ : J pre W) (hN : pre.length + 1 ≤ N) :
    Calls Tryz.prog 98 #[.pointer (some ⟨cb,0,none⟩),.pointer (some ⟨fb,0,none⟩),.agg #[.int .i64 1,.int .i64 F,.int .i64 R,.int .i64 K,.int .i64 LL],.func (.yield l) #[] #[]] W fun e W'=>e = .returned (.bool true) ∧ J (pre ++ [⟨0,R,numZ ⟨1,F,R,K,LL⟩ x⟩]) W' ∧ FrB W' fb f x h r ∧ KI n₀ l (fun k=>k = fb) W W':=by
  obtain ⟨m,hm1⟩ : ∃ m : Nat,9 ≤ m:=⟨9,Nat.le_refl _⟩
  refine (callsIn_wide (n:=m)).1 ?_
  have hmix : Tryz.prog.follows .mixedOrders = true:=by kernel_rfl
  obtain ⟨e1,e2⟩:=L.ne hf
  have hlB:=L.lB
  have hnB:=L.nB
  obtain ⟨z,hz⟩ : ∃ z,numZ ⟨1,F,R,K,LL⟩ x = z:=⟨_,rfl⟩
  have HN : Hid (∀ w1,Below W.heap.size W w1 → Calls Tryz.prog 120 #[.pointer (some ⟨fb,0,none⟩),.agg #[.int .i64 1,.int .i64 F,.int .i64 R,.int .i64 K,.int .i64 LL]] w1 fun e w3=>e = .returned (.int .i64 z) ∧ Below w1.heap.size w1 w3 ∧ YieldAt FW (m - 1) Tryz.prog l #[.agg #[.int .i64 0,.int .i64 R,.int .i64 z]] w3 fun e W'=>e = .returned (.bool true) ∧ J (pre ++ [⟨0,R,z⟩]) W' ∧ FrB W' fb f x h r ∧ KI n₀ l (fun k=>k = fb) W W'):=fun w1 hb1=>by
    have q1 : FrB w1 fb f x h r:=(hb1.block fb hb.lt).trans hb
    rw [← hz]
    refine (number_calls ⟨1,F,R,K,LL⟩ fb f x h r w1 q1).mono (fun e w3 ⟨he,hb3⟩=>⟨he,hb3,?_⟩)
    have hb3' : Below W.heap.size W w3:=hb1.trans (hb3.mono hb1.size)
    refine YieldAt.mono (L.yld (m - 1) pre ⟨0,R,numZ ⟨1,F,R,K,LL⟩ x⟩ w3 (L.abide _ _ _ hJ (KC.of_below hb3')) (by omega)) (fun e W' ⟨h1,h2,h3⟩=>⟨h1,h2,?_,?_⟩)
    · exact h3.frb ((hb3'.block fb hb.lt).trans hb) e1 (fun h=>h)
    · exact (KI.of_below hb3' (by omega)).trans (h3.more (fun _ h _=>h.elim))
  rw [hz]
  clear hz hb hJ
  refine callsIn_of_wp Tryz.func98 rfl trivial ?_ rfl
  simp only [Tryz.ntmps98,List.size_toArray,List.length_cons,List.length_nil,Nat.reduceAdd,Nat.reduceSub,Array.replicate_succ,Array.replicate_zero,List.push_toArray,List.append_toArray,List.nil_append,List.cons_append]
  gi_wp2
  obtain ⟨W0,hW0⟩ : ∃ W0,W.alloc (.cells #[.int .i64 1,.int .i64 F,.int .i64 R,.int .i64 K,.int .i64 LL] 45) = W0:=⟨_,rfl⟩
  obtain ⟨Bi,hBi⟩ : ∃ Bi,W.heap.size = Bi:=⟨_,rfl⟩
  have bi : Box5 W0 Bi ⟨1,F,R,K,LL⟩:=by rw [← hW0,← hBi];exact Box5.new W ⟨1,F,R,K,LL⟩
  have hb0 : Below W.heap.size W W0:=by rw [← hW0];exact (Below.refl _ W).alloc (Nat.le_refl _) _
  have HB0:=hide hb0
  have g0:=bi.c0
  have g1:=bi.c1
  have g2:=bi.c2
  have g3:=bi.c3
  have g4:=bi.c4
  have lI:=bi.lt
  dsimp only at g0 g1 g2 g3 g4
  rw [hW0,hBi]
  clear hW0 hb0 bi
  have HBi:=hide hBi
  clear hBi
  gi_region_with_o (first
    | (refine ⟨trivial,room_none _,?_⟩
       gi_at_call 120
       refine (callsIn_wide.2 (HN.out _ (by exact HB0.out.drew))).mono ?_
       rintro e w3 ⟨rfl,hb3,fn,tmps,assign,body,hy,hR⟩
       have k2 : ∀ j,w3.cell? ⟨Bi,j,none⟩ = _:=fun j=>hb3.cell (p:=⟨Bi,j,none⟩) (by simpa using lI)
       clear hb3)
    | (refine ⟨room_none _,?_⟩
       refine hR.mono ?_
       rintro e w4 ⟨rfl,hJ4,hF4,hK4⟩))
  all_goals
    gi_wp2
    go_ret
    exact ⟨rfl,hJ4,hF4,hK4⟩
set_option maxRecDepth 100000 in
set_option maxHeartbeats 4000000 in
theorem do_draw {fs : List (List Ins)} {reds : List Int} {n₀ l B1 fb0 cb N : Nat} {J : List Ev → World → Prop} (L : Loopy fs reds n₀ l B1 fb0 cb N J) (f : Nat) (F R K LL : Int) (hK0 : 0 < K) (hK1 : K < 9223372036854775808) (x h r : Int) (hr0 : 0 ≤ r) (hr1 : r ≤ 1000) (pre : List Ev) (W : World) (fb : Nat) (hb : FrB W fb f x h r) (hf : B1 ≤ fb ∨ fb = fb0) (_hW : B1 ≤ W.heap.size) (hJ : J pre W) (hN : pre.length + 1 ≤ N) :
    Calls Tryz.prog 98 #[.pointer (some ⟨cb,0,none⟩),.pointer (some ⟨fb,0,none⟩),.agg #[.int .i64 2,.int .i64 F,.int .i64 R,.int .i64 K,.int .i64 LL],.func (.yield l) #[] #[]] W fun e W'=>e = .returned (.bool true) ∧ J (pre ++ [⟨0,R,drawnZ h r K⟩]) W' ∧ FrB W' fb f x h (r + 1) ∧ KI n₀ l (fun k=>k = fb) W W':=by
  obtain ⟨m,hm1⟩ : ∃ m : Nat,9 ≤ m:=⟨9,Nat.le_refl _⟩
  refine (callsIn_wide (n:=m)).1 ?_
  have hmix : Tryz.prog.follows .mixedOrders = true:=by kernel_rfl
  obtain ⟨e1,e2⟩:=L.ne hf
  have hlB:=L.lB
  have hnB:=L.nB
  have hfl:=hb.lt
  obtain ⟨z,hz⟩ : ∃ z,drawnZ h r K = z:=⟨_,rfl⟩
  have HN : Hid (∀ w1,Below W.heap.size W w1 → Calls Tryz.prog 121 #[.pointer (some ⟨fb,0,none⟩),.int .i64 K] w1 fun e w3=>e = .returned (.int .i64 z) ∧ (∀ b,b ≠ fb → w3.heap[b]? = w1.heap[b]?) ∧ YieldAt FW (m - 1) Tryz.prog l #[.agg #[.int .i64 0,.int .i64 R,.int .i64 z]] w3 fun e W'=>e = .returned (.bool true) ∧ J (pre ++ [⟨0,R,z⟩]) W' ∧ FrB W' fb f x h (r + 1) ∧ KI n₀ l (fun k=>k = fb) W W'):=fun w1 hb1=>by
    have q1 : FrB w1 fb f x h r:=(hb1.block fb hb.lt).trans hb
    rw [← hz]
    refine (draw_calls K fb f x h r w1 q1 hr0 hr1 hK0 hK1).mono (fun e w3 ⟨he,nn,hw3⟩=>⟨he,?_⟩)
    have hoth : ∀ b,b ≠ fb → w3.heap[b]? = w1.heap[b]?:=fun b hb=>by rw [hw3,Below.heap_setCell _ _ _ _ hb];rfl
    refine ⟨hoth,?_⟩
    have qd : FrB (w1.drewN nn) fb f x h r:=q1
    have q3 : FrB w3 fb f x h (r + 1):=by rw [hw3];exact qd.set (r + 1)
    have hs3 : w3.heap.size = w1.heap.size:=by rw [hw3];simp [World.setCell]
    have hb3 : Below n₀ W w3:=by
      rw [hw3];exact (below_drewN (hb1.mono (by omega)) nn).setCell (p:=⟨fb,3,none⟩) e2 _
    have hall : ∀ b,b < W.heap.size → b ≠ fb → w3.heap[b]? = W.heap[b]?:=fun b hb hne=>(hoth b hne).trans (hb1.block b hb)
    refine YieldAt.mono (L.yld (m - 1) pre ⟨0,R,drawnZ h r K⟩ w3 (L.abide _ _ _ hJ (KC.frame hb hf (hb3.mono (Nat.zero_le _)) hall)) (by omega)) (fun e W' ⟨h1,h2,h3⟩=>⟨h1,h2,?_,?_⟩)
    · exact h3.frb q3 e1 (fun h=>h)
    · exact (KI.frame hb3 hall).trans' h3 (fun _ h _=>h.elim)
  rw [hz]
  clear hz hb hJ
  refine callsIn_of_wp Tryz.func98 rfl trivial ?_ rfl
  simp only [Tryz.ntmps98,List.size_toArray,List.length_cons,List.length_nil,Nat.reduceAdd,Nat.reduceSub,Array.replicate_succ,Array.replicate_zero,List.push_toArray,List.append_toArray,List.nil_append,List.cons_append]
  gi_wp2
  obtain ⟨W0,hW0⟩ : ∃ W0,W.alloc (.cells #[.int .i64 2,.int .i64 F,.int .i64 R,.int .i64 K,.int .i64 LL] 45) = W0:=⟨_,rfl⟩
  obtain ⟨Bi,hBi⟩ : ∃ Bi,W.heap.size = Bi:=⟨_,rfl⟩
  have bi : Box5 W0 Bi ⟨2,F,R,K,LL⟩:=by rw [← hW0,← hBi];exact Box5.new W ⟨2,F,R,K,LL⟩
  have hb0 : Below W.heap.size W W0:=by rw [← hW0];exact (Below.refl _ W).alloc (Nat.le_refl _) _
  have HB0:=hide hb0
  have g0:=bi.c0
  have g1:=bi.c1
  have g2:=bi.c2
  have g3:=bi.c3
  have g4:=bi.c4
  have lI:=bi.lt
  dsimp only at g0 g1 g2 g3 g4
  rw [hW0,hBi]
  have hbf : Bi ≠ fb:=by omega
  clear hW0 hb0 bi
  have HBi:=hide hBi
  clear hBi
  gi_region_with_o (first
    | (refine ⟨trivial,room_none _,?_⟩
       gi_at_call 121
       refine (callsIn_wide.2 (HN.out _ (by exact HB0.out.drew))).mono ?_
       rintro e w3 ⟨rfl,hb3,fn,tmps,assign,body,hy,hR⟩
       have k2 : ∀ j,w3.cell? ⟨Bi,j,none⟩ = _:=fun j=>World.cell?_of_block (a:=⟨Bi,j,none⟩) (hb3 Bi hbf)
       clear hb3)
    | (refine ⟨room_none _,?_⟩
       refine hR.mono ?_
       rintro e w4 ⟨rfl,hJ4,hF4,hK4⟩))
  all_goals
    gi_wp2
    go_ret
    exact ⟨rfl,hJ4,hF4,hK4⟩
set_option maxHeartbeats 4000000 in
theorem do_sync {fs : List (List Ins)} {reds : List Int} {n₀ l B1 fb0 cb N : Nat} {J : List Ev → World → Prop} (L : Loopy fs reds n₀ l B1 fb0 cb N J) (f : Nat) (F R K LL : Int) (x h r : Int) (hr0 : 0 ≤ r) (hr1 : r ≤ 1000) (pre : List Ev) (W : World) (fb : Nat) (hb : FrB W fb f x h r) (hf : B1 ≤ fb ∨ fb = fb0) (_hW : B1 ≤ W.heap.size) (hJ : J pre W) :
    Calls Tryz.prog 98 #[.pointer (some ⟨cb,0,none⟩),.pointer (some ⟨fb,0,none⟩),.agg #[.int .i64 5,.int .i64 F,.int .i64 R,.int .i64 K,.int .i64 LL],.func (.yield l) #[] #[]] W fun e W'=>e = .returned (.bool true) ∧ J (pre ++ []) W' ∧ FrB W' fb f x h (r + 1) ∧ KI n₀ l (fun k=>k = fb) W W':=by
  obtain ⟨e1,e2⟩:=L.ne hf
  have hlB:=L.lB
  have hnB:=L.nB
  have hfl:=hb.lt
  have HS : Hid (∀ o,Calls Tryz.prog 123 #[.pointer (some ⟨fb,0,none⟩)] (W.alloc o) fun e W'=>(∃ v,e = .returned v) ∧ J (pre ++ []) W' ∧ FrB W' fb f x h (r + 1) ∧ KI n₀ l (fun k=>k = fb) W W'):=fun o=>by
    have q1 : FrB (W.alloc o) fb f x h r:=hb.al o
    refine (sync_calls fb f x h r _ q1 hr0 hr1).mono (fun e w3 ⟨he,hw3⟩=>⟨he,?_,?_,?_⟩)
    · rw [hw3,List.append_nil]
      exact L.abide _ _ _ hJ ((KC.of_below ((Below.refl _ W).alloc (Nat.le_refl _) o)).trans (KC.set q1 hf _))
    · rw [hw3];exact q1.set (r + 1)
    · rw [hw3];exact (KI.of_below ((Below.refl _ W).alloc (Nat.le_refl _) o) (by omega)).trans (KI.set e2)
  clear hb hJ
  go_enter Tryz.func98,Tryz.ntmps98
  go_wp2_with (go_at_call 123;refine (HS.out _).mono ?_;rintro e w3 ⟨⟨v,rfl⟩,k1,k2,k3⟩)
  go_ret
  exact ⟨rfl,k1,k2,k3⟩
set_option maxHeartbeats 4000000 in
theorem do_begin {fs : List (List Ins)} {reds : List Int} {n₀ l B1 fb0 cb N d : Nat} {J : List Ev → World → Prop} (L : Loopy fs reds n₀ l B1 fb0 cb N J) (HW : WalkSaid fs reds n₀ l B1 fb0 cb N d J) (f m : Nat) (op R K LL : Int) (hop : op = 3 ∨ op = 4) (hm : m < fs.length) (hmd : fs.length ≤ m + d) (x h r : Int) (hr0 : 0 ≤ r) (hr1 : r ≤ 1000) (pre : List Ev) (W : World) (fb : Nat) (hb : FrB W fb f x h r) (hf : B1 ≤ fb ∨ fb = fb0) (hW : B1 ≤ W.heap.size) (hC : CodeP (Lt n₀) W cb fs reds) (hJ : J pre W) (hN : pre.length + 10 ^ d ≤ N) :
    Calls Tryz.prog 98 #[.pointer (some ⟨cb,0,none⟩),.pointer (some ⟨fb,0,none⟩),.agg #[.int .i64 op,.int .i64 (m : Int),.int .i64 R,.int .i64 K,.int .i64 LL],.func (.yield l) #[] #[]] W fun e W'=>e = .returned (.bool true) ∧ J (pre ++ ser fs d m (numZ ⟨op,m,R,K,LL⟩ x) (stepZ h r)) W' ∧ FrB W' fb f x h (r + 1) ∧ KI n₀ l (fun k=>k = fb) W W':=by
  obtain ⟨e1,e2⟩:=L.ne hf
  have hlB:=L.lB
  have hnB:=L.nB
  have hfl:=hb.lt
  obtain ⟨z,hz⟩ : ∃ z,numZ ⟨op,m,R,K,LL⟩ x = z:=⟨_,rfl⟩
  obtain ⟨s,hs⟩ : ∃ s,stepZ h r = s:=⟨_,rfl⟩
  have HBG : Hid (∀ o,Calls Tryz.prog 122 #[.pointer (some ⟨fb,0,none⟩),.agg #[.int .i64 op,.int .i64 (m : Int),.int .i64 R,.int .i64 K,.int .i64 LL]] (W.alloc o) fun e w3=>e = .returned (.agg #[.int .i64 (m : Int),.int .i64 z,.int .u64 s,.int .u64 0]) ∧ Calls Tryz.prog 71 #[.pointer (some ⟨cb,0,none⟩),.pointer (some ⟨w3.heap.size,0,none⟩),.func (.yield l) #[] #[]] (w3.alloc (.cells #[.int .i64 (m : Int),.int .i64 z,.int .u64 s,.int .u64 0] 121)) fun e W'=>e = .returned (.bool true) ∧ J (pre ++ ser fs d m z s) W' ∧ FrB W' fb f x h (r + 1) ∧ KI n₀ l (fun k=>k = fb) W W'):=fun o=>by
    have q1 : FrB (W.alloc o) fb f x h r:=hb.al o
    rw [← hz,← hs]
    refine (begin_calls ⟨op,m,R,K,LL⟩ m rfl fb f x h r _ q1 hr0 hr1).mono (fun e w3 ⟨he,k1,k2,k3⟩=>⟨he,?_⟩)
    have hs3 : W.heap.size + 1 ≤ w3.heap.size:=by have:=k2.size;simpa using this
    obtain ⟨ch,hch⟩ : ∃ ch : Obj,ch = .cells #[.int .i64 (m : Int),.int .i64 (numZ ⟨op,m,R,K,LL⟩ x),.int .u64 (stepZ h r),.int .u64 0] 121:=⟨_,rfl⟩
    rw [← hch]
    have qc : FrB (w3.alloc ch) w3.heap.size m (numZ ⟨op,m,R,K,LL⟩ x) (stepZ h r) 0:=by rw [hch];exact World.alloc_heap_new w3 _
    have hall : ∀ b,b < W.heap.size → b ≠ fb → (w3.alloc ch).heap[b]? = W.heap[b]?:=fun b hb hne=>by
      rw [Below.heap_alloc _ _ _ (by omega),k3 b (by simp;omega) hne,Below.heap_alloc _ _ _ hb]
    have hbn : Below n₀ W (w3.alloc ch):=(((Below.refl n₀ W).alloc (by omega) o).trans (k2.mono e2)).alloc (by omega) ch
    have hJ' : J pre (w3.alloc ch):=L.abide _ _ _ hJ (KC.frame hb hf (hbn.mono (Nat.zero_le _)) hall)
    have hC' : CodeP (Lt n₀) (w3.alloc ch) cb fs reds:=hC.turn (fun b hb _=>⟨hb,hbn.block b hb⟩)
    refine (HW m _ _ pre (w3.alloc ch) w3.heap.size hm hmd qc (.inl (by omega)) (by simp;omega) hC' hJ' hN).mono (fun e W' ⟨h1,h2,h3⟩=>⟨h1,h2,?_,?_⟩)
    · exact h3.frb (k1.al ch) e1 (by have:=k1.lt;omega)
    · exact (KI.frame hbn hall).trans' h3 (fun i hi hl=>by omega)
  rw [hz,hs]
  clear hz hs hb hJ hC HW hN
  obtain ⟨ss,hss⟩ : ∃ ss,pre ++ ser fs d m z s = ss:=⟨_,rfl⟩
  rw [hss] at HBG ⊢
  clear hss
  rcases hop with rfl | rfl
  all_goals
    go_enter Tryz.func98,Tryz.ntmps98
    go_wp2_with (first
      | (go_at_call 122;refine (HBG.out _).mono ?_;rintro e w3 ⟨rfl,hwk⟩)
      | (go_at_call 71;refine hwk.mono ?_;rintro e w4 ⟨rfl,k1,k2,k3⟩))
    go_ret
    exact ⟨rfl,k1,k2,k3⟩
theorem do_said {fs : List (List Ins)} {reds : List Int} {n₀ l B1 fb0 cb N d : Nat} {J : List Ev → World → Prop} (L : Loopy fs reds n₀ l B1 fb0 cb N J) (HW : WalkSaid fs reds n₀ l B1 fb0 cb N d J) : DoSaid fs reds n₀ l B1 fb0 cb N d J:=by
  intro f i x h r pre W fb hmay hwf hfd hr0 hr1 hb hf hW hC hJ hN
  obtain ⟨op,F,R,K,LL⟩:=i
  have hp : 1 ≤ 10 ^ d:=Nat.one_le_pow _ _ (by omega)
  by_cases h1 : op = 1
  · subst h1
    have e1 : oneZ (ser fs d) x h r ⟨1,F,R,K,LL⟩ = [⟨0,R,numZ ⟨1,F,R,K,LL⟩ x⟩]:=by simp [oneZ]
    have e2 : rankZ r ⟨1,F,R,K,LL⟩ = r:=by simp [rankZ]
    rw [e1,e2]
    exact do_put L f F R K LL x h r pre W fb hb hf hW hJ (by omega)
  by_cases h2 : op = 2
  · subst h2
    have e1 : oneZ (ser fs d) x h r ⟨2,F,R,K,LL⟩ = [⟨0,R,drawnZ h r K⟩]:=by simp [oneZ]
    have e2 : rankZ r ⟨2,F,R,K,LL⟩ = r + 1:=by simp [rankZ]
    rw [e1,e2]
    have hK : 0 < K:=by
      unfold mayB at hmay
      simp at hmay
      omega
    have hK2:=hwf.2.2.2.1.2
    dsimp only at hK2
    exact do_draw L f F R K LL hK (by omega) x h r hr0 (by omega) pre W fb hb hf hW hJ (by omega)
  by_cases h3 : op = 3 ∨ op = 4
  · obtain ⟨m,hmF,hmf,hmn⟩:=mayB_begins hmay (by unfold begins;simpa using h3)
    dsimp only at hmF
    subst hmF
    have e1 : oneZ (ser fs d) x h r ⟨op,m,R,K,LL⟩ = ser fs d m (numZ ⟨op,m,R,K,LL⟩ x) (stepZ h r):=by simp [oneZ,h1,h2,h3]
    have e2 : rankZ r ⟨op,m,R,K,LL⟩ = r + 1:=by simp [rankZ,h1]
    rw [e1,e2]
    exact do_begin L HW f m op R K LL h3 hmn (by omega) x h r hr0 (by omega) pre W fb hb hf hW hC hJ hN
  by_cases h5 : op = 5
  · subst h5
    have e1 : oneZ (ser fs d) x h r ⟨5,F,R,K,LL⟩ = []:=by simp [oneZ]
    have e2 : rankZ r ⟨5,F,R,K,LL⟩ = r + 1:=by simp [rankZ]
    rw [e1,e2]
    exact do_sync L f F R K LL x h r hr0 (by omega) pre W fb hb hf hW hJ
  · unfold mayB at hmay
    dsimp only at hmay
    rw [if_neg h1,if_neg h2,if_neg h3,if_neg h5] at hmay
    cases hmay
end Go.Proofs.YtkmakliebhnhbaaGreat
