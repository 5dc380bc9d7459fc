import Derived.Sort.QuietIn
import Derived.RangeFuncNested
import Derived.WalkKit
import Derived.Test.YtkmakliebhnhbaaGreatSer
import Derived.Test.YtkmakliebhnhbaaGreatMk
import Derived.Test.YtkmakliebhnhbaaGreatFrames
namespace Go.Proofs.YtkmakliebhnhbaaGreat
open Go.RowKit
def addS (C : Nat → Nat × Nat) (c : Nat × Nat) (i : Ins) : Nat × Nat :=
 if i.op = 1 ∨ i.op = 2 then (c.1,c.2 + 1) else if begins i then (c.1 + (C i.f.toNat).1,c.2 + (C i.f.toNat).2) else c
def sizeF (fs : List (List Ins)) : Nat → Nat → Nat × Nat
 | 0=>fun _=>(0,0)
 | j + 1=>fun x=>if x = fs.length - 1 - j then (fs[fs.length - 1 - j]?.getD []).foldl (addS (sizeF fs j)) (1,0) else sizeF fs j x
theorem foldS_le {C : Nat → Nat × Nat} {M : Nat} (hM : 1 ≤ M) (hC : ∀ x,(C x).1 ≤ M ∧ (C x).2 ≤ M) : ∀ (l : List Ins) (c : Nat × Nat),(l.foldl (addS C) c).1 ≤ c.1 + l.length * M ∧ (l.foldl (addS C) c).2 ≤ c.2 + l.length * M
 | [],c=>by simp
 | i :: t,c=>by
  have h:=foldS_le hM hC t (addS C c i)
  have h1 : (addS C c i).1 ≤ c.1 + M ∧ (addS C c i).2 ≤ c.2 + M:=by
   have:=hC i.f.toNat
   unfold addS
   split
   ·exact ⟨by simp,by simp;omega⟩
   ·split
    ·exact ⟨by simp;omega,by simp;omega⟩
    ·exact ⟨by omega,by omega⟩
  simp only [List.foldl_cons,List.length_cons,Nat.add_mul,Nat.one_mul]
  omega
theorem sizeF_le {fs : List (List Ins)} (hl : ∀ l ∈ fs,l.length ≤ 10) : ∀ j x,(sizeF fs j x).1 ≤ 11 ^ j ∧ (sizeF fs j x).2 ≤ 11 ^ j
 | 0,x=>by simp [sizeF]
 | j + 1,x=>by
  have ih:=sizeF_le hl j
  have hp : 1 ≤ 11 ^ j:=Nat.one_le_pow _ _ (by omega)
  have hs : 11 ^ (j + 1) = 11 * 11 ^ j:=by rw [Nat.pow_succ,Nat.mul_comm]
  have h2 : (fs[fs.length - 1 - j]?.getD []).length ≤ 10:=by
   cases hf : fs[fs.length - 1 - j]? with
   | none=>simp
   | some l=>exact hl l (List.mem_of_getElem? hf)
  have hm:=Nat.mul_le_mul_right (11 ^ j) h2
  have h:=foldS_le hp ih (fs[fs.length - 1 - j]?.getD []) (1,0)
  unfold sizeF
  dsimp only at h ⊢
  split
  ·omega
  ·have:=ih x;omega
theorem sizeF_small {fs : List (List Ins)} (hl : ∀ l ∈ fs,l.length ≤ 10) {j : Nat} (hj : j ≤ 8) (x : Nat) : (sizeF fs j x).1 ≤ 214358881 ∧ (sizeF fs j x).2 ≤ 214358881:=by
 have h:=sizeF_le hl j x
 have : 11 ^ j ≤ 11 ^ 8:=Nat.pow_le_pow_right (by omega) hj
 omega
theorem capN_add (a b : Nat) : capN (capN a + capN b) = capN (a + b):=by
 unfold capN
 repeat' split
 all_goals omega
theorem capN_cap (a : Nat) : capN (capN a) = capN a:=by
 unfold capN
 repeat' split
 all_goals omega
theorem foldS_cap {C : Nat → Nat × Nat} {D : Nat → Nat} (h : ∀ x,D x = capN (C x).1) : ∀ (l : List Ins) (c : Nat × Nat) (d : Nat),d = capN c.1 → l.foldl (addC D) d = capN (l.foldl (addS C) c).1
 | [],c,d,hd=>hd
 | i :: t,c,d,hd=>by
  refine foldS_cap h t (addS C c i) (addC D d i) ?_
  subst hd
  unfold addC addS begins
  by_cases h1 : i.op = 1 ∨ i.op = 2
  ·rw [if_pos h1,if_neg (by simp;omega),capN_cap]
  ·rw [if_neg h1]
   split
   ·rw [h,capN_add]
   ·rw [capN_cap]
theorem sizeF_cap (fs : List (List Ins)) : ∀ j x,cntsC fs j x = capN (sizeF fs j x).1
 | 0,x=>rfl
 | j + 1,x=>by
  unfold cntsC sizeF
  split
  ·exact foldS_cap (sizeF_cap fs j) _ _ _ rfl
  ·exact sizeF_cap fs j x
def framesF (fs : List (List Ins)) : Nat:=(sizeF fs fs.length 0).1
theorem framesF_cap (fs : List (List Ins)) : framesC fs = capN (framesF fs):=sizeF_cap fs _ _
theorem framesF_gt {fs : List (List Ins)} : 300 < framesF fs ↔ 300 < framesC fs:=by rw [framesF_cap];unfold capN;split <;> omega
theorem framesF_eq {fs : List (List Ins)} (h : ¬ 300 < framesC fs) : framesF fs = framesC fs:=by rw [framesF_cap] at *;unfold capN at *;split at h <;> simp_all;omega
theorem sizeF_step {fs : List (List Ins)} {k f : Nat} {l : List Ins} (hf : f = fs.length - 1 - k) (hl : fs[f]? = some l) (x : Nat) : sizeF fs (k + 1) x = if x = f then l.foldl (addS (sizeF fs k)) (1,0) else sizeF fs k x:=by
 rw [sizeF,← hf,hl];rfl
theorem foldS_snoc {C : Nat → Nat × Nat} {l : List Ins} {i : Ins} {c : Nat × Nat} : (l ++ [i]).foldl (addS C) c = addS C (l.foldl (addS C) c) i:=by rw [List.foldl_append];rfl
theorem sizeF_zero {fs : List (List Ins)} : ∀ (k x : Nat),k ≤ fs.length → x < fs.length - k → sizeF fs k x = (0,0)
 | 0,x,_,_=>rfl
 | k + 1,x,h,hx=>by
  rw [sizeF]
  dsimp only
  rw [if_neg (by omega)]
  exact sizeF_zero k x (by omega) (by omega)
def SArr (W : World) (g n : Nat) (C : Nat → Int × Int) : Prop:=∀ x,x < n → W.cell? ⟨g,x * 2,none⟩ = some (.int .i64 (C x).1) ∧ W.cell? ⟨g,x * 2 + 1,none⟩ = some (.int .i64 (C x).2) ∧ W.frozen? ⟨g,x * 2,none⟩ = false ∧ W.frozen? ⟨g,x * 2 + 1,none⟩ = false
theorem SArr.turn {W W' : World} {g n : Nat} {C : Nat → Int × Int} (h : SArr W g n C) (hb : W'.heap[g]? = W.heap[g]?) : SArr W' g n C:=fun x hx =>
 ⟨(World.cell?_of_block (w:=W) (a:=⟨g,_,none⟩) hb).trans (h x hx).1,(World.cell?_of_block (w:=W) (a:=⟨g,_,none⟩) hb).trans (h x hx).2.1,(World.frozen?_of_block (w:=W) (a:=⟨g,_,none⟩) hb).trans (h x hx).2.2.1,(World.frozen?_of_block (w:=W) (a:=⟨g,_,none⟩) hb).trans (h x hx).2.2.2⟩
theorem SArr.lt {W : World} {g n : Nat} {C : Nat → Int × Int} (h : SArr W g n C) (hn : 0 < n) : g < W.heap.size:=block_lt_of_cell (h 0 hn).1
theorem SArr.below {W W' : World} {g n : Nat} {C : Nat → Int × Int} (h : SArr W g n C) (hn : 0 < n) (hb : Below W.heap.size W W') : SArr W' g n C:=h.turn (hb.block g (h.lt hn))
theorem SArr.ext {W : World} {g n : Nat} {C C' : Nat → Int × Int} (h : SArr W g n C) (he : ∀ x,x < n → C' x = C x) : SArr W g n C':=fun x hx=>by rw [he x hx];exact h x hx
theorem SArr.set1 {W : World} {g n : Nat} {C C' : Nat → Int × Int} (h : SArr W g n C) {f : Nat} {z : Int} (hf : C' f = (z,(C f).2)) (ho : ∀ x,x ≠ f → C' x = C x) : SArr (W.setCell ⟨g,f * 2,none⟩ (.int .i64 z)) g n C':=by
 intro x hx
 obtain ⟨h1,h2,h3,h4⟩:=h x hx
 rw [World.frozen?_setCell,World.frozen?_setCell]
 refine ⟨?_,?_,h3,h4⟩
 ·by_cases e : x = f
  ·subst e;rw [World.cell?_setCell_same' _ _ _ (by rw [h1];rfl),hf]
  ·rw [World.cell?_setCell_other _ _ _ _ (by intro hh;injection hh with _ h3;omega),h1,ho x e]
 ·rw [World.cell?_setCell_other _ _ _ _ (by intro hh;injection hh with _ h3;omega),h2]
  by_cases e : x = f
  ·subst e;rw [hf]
  ·rw [ho x e]
theorem SArr.set2 {W : World} {g n : Nat} {C C' : Nat → Int × Int} (h : SArr W g n C) {f : Nat} {z : Int} (hf : C' f = ((C f).1,z)) (ho : ∀ x,x ≠ f → C' x = C x) : SArr (W.setCell ⟨g,f * 2 + 1,none⟩ (.int .i64 z)) g n C':=by
 intro x hx
 obtain ⟨h1,h2,h3,h4⟩:=h x hx
 rw [World.frozen?_setCell,World.frozen?_setCell]
 refine ⟨?_,?_,h3,h4⟩
 ·rw [World.cell?_setCell_other _ _ _ _ (by intro hh;injection hh with _ h3;omega),h1]
  by_cases e : x = f
  ·subst e;rw [hf]
  ·rw [ho x e]
 ·by_cases e : x = f
  ·subst e;rw [World.cell?_setCell_same' _ _ _ (by rw [h2];rfl),hf]
  ·rw [World.cell?_setCell_other _ _ _ _ (by intro hh;injection hh with _ h3;omega),h2,ho x e]
def upd (C : Nat → Int × Int) (f : Nat) (v : Int × Int) : Nat → Int × Int:=fun x=>if x = f then v else C x
def toZ (c : Nat × Nat) : Int × Int:=((c.1 : Int),(c.2 : Int))
end Go.Proofs.YtkmakliebhnhbaaGreat
namespace Go.Proofs.YtkmakliebhnhbaaGreat
open Go.RowKit
def isDefer : Op → Bool
 | .defer _=>true
 | _=>false
def depB (ops : Array Oper) : Nat → Nat → Nat → Bool
 | 0,_,_=>false
 | f + 1,i,v=>match ops[i]? with
  | none=>false
  | some o=>o.after.any (fun e=>Region.binds .any e && (e.on == v || depB ops f e.on v))
def plainB (ops : Array Oper) (i : Nat) : Bool:=match ops[i]? with
 | none=>false
 | some o=>o.guard.isNone && !isDefer o.op && o.after.all (fun e=>!Region.binds .any e || decide (e.on < i))
def splitB (ops : Array Oper) (k : Nat) : Bool :=
 (List.range ops.size).all (plainB ops) && (List.range ops.size).all (fun j=>decide (j < k) || (List.range k).all (fun v=>depB ops ops.size j v))
def ClosedL (ops : Array Oper) (listed : Array Bool) : Prop:=∀ (i : Nat) (o : Oper),ops[i]? = some o → listed.getD i false = true → ∀ e ∈ o.after,Region.binds .any e = true → listed.getD e.on false = true
theorem closed_dep {ops : Array Oper} {listed : Array Bool} (hc : ClosedL ops listed) : ∀ (f i v : Nat) (o : Oper),ops[i]? = some o → (∀ e ∈ o.after,Region.binds .any e = true → listed.getD e.on false = true) → depB ops f i v = true → listed.getD v false = true
 | 0,_,_,_,_,_,h=>by cases h
 | f + 1,i,v,o,ho,hl,h=>by
  unfold depB at h
  rw [ho] at h
  obtain ⟨e,he,hb⟩:=Array.any_eq_true'.1 h
  simp only [Bool.and_eq_true,Bool.or_eq_true,beq_iff_eq] at hb
  have h1:=hl e he hb.1
  rcases hb.2 with rfl | h2
  ·exact h1
  ·cases ho2 : ops[e.on]? with
   | none=>cases f with
    | zero=>cases h2
    | succ f=>unfold depB at h2;rw [ho2] at h2;cases h2
   | some o2=>exact closed_dep hc f e.on v o2 ho2 (hc e.on o2 ho2 h1) h2
theorem plain_spec {ops : Array Oper} {i : Nat} {o : Oper} (h : plainB ops i = true) (ho : ops[i]? = some o) : o.guard = none ∧ (∀ c,o.op ≠ .defer c) ∧ ∀ e ∈ o.after,Region.binds .any e = true → e.on < i:=by
 unfold plainB at h
 rw [ho] at h
 simp only [Bool.and_eq_true,Option.isNone_iff_eq_none] at h
 refine ⟨h.1.1,fun c hc=>?_,fun e he hb=>?_⟩
 ·rw [hc] at h;simp [isDefer] at h
 ·have:=Array.all_eq_true'.1 h.2 e he
  simpa [hb] using this
variable {F : Fence} {n : Nat} {P : Program} {ops ops0 : Array Oper} {C : World → Prop} {Q : Exit → Act → World → Prop}
theorem wpAnyIn_fuel {md : Region.Mode} : ∀ (m : Nat) (listed : Array Bool) (a : Act) (w : World),wpAnyIn F n P md ops Q m listed a w → wpAnyIn F n P md ops Q (m + 1) listed a w
 | 0,_,_,_,h=>⟨fun _=>h.2,fun i hi=>by rw [h.1] at hi;cases hi⟩
 | m + 1,_,_,_,h=>⟨h.1,fun i hi=>wpOpIn_mono (fun a w=>wpAnyIn_fuel m _ a w) (h.2 i hi)⟩
theorem wpAnyIn_fuels {md : Region.Mode} {m : Nat} {listed : Array Bool} {a : Act} {w : World} (h : wpAnyIn F n P md ops Q m listed a w) : ∀ d,wpAnyIn F n P md ops Q (d + m) listed a w
 | 0=>by rw [Nat.zero_add];exact h
 | d + 1=>by rw [show d + 1 + m = d + m + 1 by omega];exact wpAnyIn_fuel _ _ _ _ (wpAnyIn_fuels h d)
theorem quiet_round {ro : Option Nat} {o : Oper} {a : Act} {K : Act → Prop} {K' : Act → World → Prop} {w : World} (hnd : ∀ c,o.op ≠ .defer c) (hw : C w) (h : ∀ a w',C w' → K a → K' a w')
  (ha : o.askedIn F P a C) (hh : o.quietIn F n P a C K) : o.wpIn { F with round:=ro } n P a w K' Q:=by
 obtain ⟨v,h1,h2⟩:=hh
 have h3:=h1 w hw
 unfold Oper.quietAtIn at h3
 unfold Oper.wpIn
 refine ⟨ha w hw,?_⟩
 rw [Oper.semAt_eq _ _ _ hnd]
 generalize (execOp a.eval o).run P w = r at *
 cases r with
 | ok x w' =>
  cases x <;> simp only [Oper.quietUponIn] at h3 <;> simp only [Oper.uponIn]
  case value u =>
   obtain ⟨e1,e2⟩:=h3
   rw [e1,e2]
   exact h _ _ hw h2
  case skip =>
   obtain ⟨e1,e2⟩:=h3
   rw [e1,← e2]
   exact h _ _ hw h2
  case enter f args =>
   obtain ⟨e1,hd,hc⟩:=h3
   rw [e1]
   refine ⟨hd,?_⟩
   have hc' : CallsIn { F with round:=ro } (n - 1) P f args w (fun e w''=>e = .returned v ∧ C w''):=hc
   exact hc'.mono fun e w'' ⟨he,hw''⟩=>by subst he;exact h _ _ hw'' h2
 | halt x w'=>simp only [Oper.quietUponIn] at h3
theorem any_of_pre {ro : Option Nat} {k r : Nat} {Qq : Act → Prop} (hk : ops.size = k + r) (hB : splitB ops k = true) (hsz0 : ops0.size = k) (hops : ∀ i,i < k → ops0[i]? = ops[i]?)
  (hfin : ∀ (listed : Array Bool) (a' : Act) (w' : World),listed.size = k + r → (∀ i,i < k → listed.getD i false = true) → (∀ i,k ≤ i → listed.getD i false = false) → C w' → Qq a' → wpAnyIn { F with round:=ro } n P .any ops Q r listed a' w') :
  ∀ (fuel : Nat) (listed listed0 : Array Bool) (a : Act) (w : World),listed.size = k + r → listed0.size = k → (∀ i,i < k → listed.getD i false = listed0.getD i false) → (∀ i,k ≤ i → listed.getD i false = false) → ClosedL ops listed → C w →
   wpAnyQIn F n P .any ops0 C Qq fuel listed0 a → wpAnyIn { F with round:=ro } n P .any ops Q (fuel + r) listed a w:=by
 simp only [splitB,Bool.and_eq_true,List.all_eq_true,List.mem_range,Bool.or_eq_true,decide_eq_true_eq] at hB
 obtain ⟨hpl,hdep⟩:=hB
 have least : ∀ (listed listed0 : Array Bool),listed0.size = k → (∀ i,i < k → listed.getD i false = listed0.getD i false) → (¬ ∀ i,i < k → listed.getD i false = true) → ∃ i,i < k ∧ listed0.getD i true = false ∧ i ∈ Region.ready .any ops0 listed0:=by
  intro listed listed0 hs0 hl hne
  have : ∃ i,(i < k ∧ listed.getD i false = false) ∧ ∀ j,j < i → ¬ (j < k ∧ listed.getD j false = false):=by
   have hex : ∃ i,i < k ∧ listed.getD i false = false:=by
    refine Classical.byContradiction fun hno=>hne fun i hi=>?_
    cases hb : listed.getD i false with
    | true=>rfl
    | false=>exact absurd ⟨i,hi,hb⟩ hno
   obtain ⟨i,hi⟩:=hex
   induction i using Nat.strongRecOn with
   | _ i ih =>
    by_cases hm : ∃ j,j < i ∧ (j < k ∧ listed.getD j false = false)
    ·obtain ⟨j,hj,hj'⟩:=hm;exact ih j hj hj'
    ·exact ⟨i,hi,fun j hj hj'=>hm ⟨j,hj,hj'⟩⟩
  obtain ⟨i,⟨hi,hf⟩,hmin⟩:=this
  have hf0 : listed0.getD i false = false:=by rw [← hl i hi];exact hf
  have hlt : i < listed0.size:=by omega
  have hf1 : listed0.getD i true = false:=by
   simp only [Array.getD_eq_getD_getElem?,Array.getElem?_eq_getElem hlt,Option.getD_some] at hf0 ⊢;exact hf0
  obtain ⟨o,ho⟩ : ∃ o,ops[i]? = some o:=⟨ops[i]'(by omega),Array.getElem?_eq_getElem (by omega)⟩
  refine ⟨i,hi,hf1,mem_ready.2 ⟨hf1,o,by rw [hops i hi];exact ho,fun e he hb=>?_⟩⟩
  have hlt':=(plain_spec (hpl i (by omega)) ho).2.2 e he hb
  rw [← hl e.on (by omega)]
  cases hb' : listed.getD e.on false with
  | true=>rfl
  | false=>exact absurd ⟨by omega,hb'⟩ (hmin e.on hlt')
 intro fuel
 induction fuel with
 | zero =>
  intro listed listed0 a w hs hs0 hl ht hc hw h
  by_cases hall : ∀ i,i < k → listed.getD i false = true
  ·rw [Nat.zero_add];exact hfin listed a w hs hall ht hw h.2
  ·obtain ⟨i,_,_,hr⟩:=least listed listed0 hs0 hl hall
   rw [h.1] at hr;cases hr
 | succ fuel ih =>
  intro listed listed0 a w hs hs0 hl ht hc hw h
  by_cases hall : ∀ i,i < k → listed.getD i false = true
  ·have hr0 : Region.ready .any ops0 listed0 = []:=by
    refine List.eq_nil_iff_forall_not_mem.2 fun i hi=>?_
    obtain ⟨h1,o,ho,_⟩:=mem_ready.1 hi
    have hik : i < k:=by have:=(Array.getElem?_eq_some_iff.1 ho).1;omega
    have h2:=hall i hik
    rw [hl i hik] at h2
    have hlt : i < listed0.size:=by omega
    simp only [Array.getD_eq_getD_getElem?,Array.getElem?_eq_getElem hlt,Option.getD_some] at h1 h2
    rw [h1] at h2;cases h2
   exact wpAnyIn_fuels (hfin listed a w hs hall ht hw (h.1 hr0)) (fuel + 1)
  ·rw [show fuel + 1 + r = fuel + r + 1 by omega]
   have hlow : ∀ i ∈ Region.ready .any ops listed,i < k:=fun i hi=>by
    obtain ⟨h1,o,ho,hd⟩:=mem_ready.1 hi
    refine Classical.byContradiction fun hge=>hall fun v hv=>?_
    have hil:=(Array.getElem?_eq_some_iff.1 ho).1
    rcases hdep i hil with h' | h'
    ·omega
    ·exact closed_dep hc _ i v o ho hd (h' v hv)
   refine ⟨fun h0=>?_,fun i hi=>?_⟩
   ·obtain ⟨i,hik,h1,hr⟩:=least listed listed0 hs0 hl hall
    obtain ⟨_,o,ho,hd⟩:=mem_ready.1 hr
    have : i ∈ Region.ready .any ops listed:=by
     have hlt : i < listed.size:=by omega
     have hlt0 : i < listed0.size:=by omega
     have e1:=hl i hik
     refine mem_ready.2 ⟨?_,o,by rw [← hops i hik];exact ho,fun e he hb=>?_⟩
     ·simp only [Array.getD_eq_getD_getElem?,Array.getElem?_eq_getElem hlt,Array.getElem?_eq_getElem hlt0,Option.getD_some] at e1 h1 ⊢;rw [e1];exact h1
     ·have:=(plain_spec (hpl i (by omega)) (by rw [← hops i hik];exact ho)).2.2 e he hb
      rw [hl e.on (by omega)];exact hd e he hb
    rw [h0] at this;cases this
   ·have hik:=hlow i hi
    obtain ⟨h1,o,ho,hd⟩:=mem_ready.1 hi
    have hlt : i < listed.size:=by omega
    have hlt0 : i < listed0.size:=by omega
    have e1:=hl i hik
    have hi0 : i ∈ Region.ready .any ops0 listed0:=by
     refine mem_ready.2 ⟨?_,o,by rw [hops i hik];exact ho,fun e he hb=>?_⟩
     ·simp only [Array.getD_eq_getD_getElem?,Array.getElem?_eq_getElem hlt,Array.getElem?_eq_getElem hlt0,Option.getD_some] at e1 h1 ⊢;rw [← e1];exact h1
     ·have:=(plain_spec (hpl i (by omega)) ho).2.2 e he hb
      rw [← hl e.on (by omega)];exact hd e he hb
    have hq:=h.2 i hi0
    obtain ⟨hg,hnd,hlow'⟩:=plain_spec (hpl i (by omega)) ho
    have hwant : ∀ (xs : Array Oper) (t : Array Value),Region.wanted o (yielded xs t) = true:=fun xs t=>by simp [Region.wanted,hg]
    unfold qOpIn at hq
    rw [hops i hik,ho] at hq
    simp only [hwant,if_true] at hq
    unfold wpOpIn
    rw [ho]
    simp only [hwant,if_true]
    refine quiet_round hnd hw (fun a' w' hw' hK=>?_) hq.1 hq.2
    have hset : ∀ (l : Array Bool) (j : Nat),j < l.size → ∀ i',(l.setIfInBounds j true).getD i' false = if i' = j then true else l.getD i' false:=fun l j hj i'=>by
     by_cases e : i' = j
     ·subst e;simp [hj]
     ·rw [if_neg e,getD_set_ne false (Ne.symm e)]
    refine ih _ _ a' w' (by simpa using hs) (by simpa using hs0) (fun j hj=>?_) (fun j hj=>?_) (fun j oj hoj hlj e he hb=>?_) hw' hK
    ·rw [hset _ _ hlt,hset _ _ hlt0,hl j hj]
    ·rw [hset _ _ hlt,if_neg (by omega)];exact ht j hj
    ·rw [hset _ _ hlt] at hlj ⊢
     split
     ·rfl
     ·by_cases e' : j = i
      ·subst e'
       rw [ho] at hoj;cases hoj
       exact hd e he hb
      ·rw [if_neg e'] at hlj
       exact hc j oj hoj hlj e he hb
theorem region_split {ro : Option Nat} {k r id : Nat} {l : List Oper} {a : Act} {w : World} (hm : P.follows .mixedOrders = true) (hk : l.length = k + r) (hB : splitB l.toArray k = true) (hL : Region.lexB .any (l.take k).toArray = true) (hC : C { w with drawn:=w.drawn + 1 })
  (h : wpQuietIn F n P (l.take k).toArray C (fun a'=>∀ w',C w' → wpAnyIn { F with round:=ro } n P .any l.toArray Q r (List.replicate k true ++ List.replicate r false).toArray a' w') (l.take k) a) : (Code.region id l.toArray true).wpIn { F with round:=ro } n P Q a w:=by
 simp only [Region.lexB,Bool.and_eq_true] at hL
 have hs0 : (l.take k).toArray.size = k:=by simp;omega
 refine wpIn_region_any hm ?_
 have hq:=wpAnyQIn_lex (F:=F) (n:=n) (P:=P) (C:=C) (md:=.any) hL.1 (l.take k) 0 (Array.replicate (l.take k).toArray.size false) a (by simp) (by simpa using hL.2) h
 have hlen : (l.take k).length = k:=by simp;omega
 rw [hlen,hs0] at hq
 have:=any_of_pre (F:=F) (n:=n) (P:=P) (ops:=l.toArray) (ops0:=(l.take k).toArray) (C:=C) (Q:=Q) (ro:=ro) (k:=k) (r:=r) (by simpa using hk) hB hs0 (fun i hi=>by simp [hi])
  (fun listed a' w' hs h1 h2 hw hQ=>by
   have e : listed = (List.replicate k true ++ List.replicate r false).toArray:=by
    apply Array.ext
    ·simp;exact hs
    ·intro i hi1 hi2
     have hi3 : i < k + r:=by omega
     by_cases hik : i < k
     ·have:=h1 i hik
      simp only [Array.getD_eq_getD_getElem?,Array.getElem?_eq_getElem hi1,Option.getD_some] at this
      rw [this]
      simp [hik]
     ·have:=h2 i (by omega)
      simp only [Array.getD_eq_getD_getElem?,Array.getElem?_eq_getElem hi1,Option.getD_some] at this
      rw [this]
      simp [List.getElem_append,hik]
   rw [e]
   exact hQ w' hw)
  k (Array.replicate (k + r) false) (Array.replicate k false) a { w with drawn:=w.drawn + 1 } (by simp) (by simp) (fun i hi=>by simp [hi,show i < k + r by omega]) (fun i hi=>by simp only [Array.getD_eq_getD_getElem?,Array.getElem?_replicate];split <;> rfl)
  (fun i o _ hl=>by simp only [Array.getD_eq_getD_getElem?,Array.getElem?_replicate] at hl;split at hl <;> cases hl) hC hq
 have hk' : l.toArray.size = k + r:=by simpa using hk
 rw [hk']
 exact this
end Go.Proofs.YtkmakliebhnhbaaGreat
namespace Go.Proofs.YtkmakliebhnhbaaGreat
open Go.RowKit Go.Shelf
attribute [local go_sem] Oper.semAt_some
theorem Tryz.infoSize : (Tryz.prog.info? 112).map (fun i=>(i.zero,i.size,i.bytes)) = some (some (.agg #[.int .i64 0,.int .i64 0]),2,16):=by kernel_rfl
theorem made2 (m : Nat) : (madeCells #[Value.int .i64 0,.int .i64 0] m).toList = List.replicate m (.int .i64 0):=by
 apply List.ext_getElem
 ·simp [madeCells]
 ·intro j h1 h2
  simp only [madeCells,Array.toList_map,List.getElem_map,Array.getElem_toList,Array.getElem_range,List.getElem_replicate]
  have : j % 2 < 2:=Nat.mod_lt _ (by omega)
  match hq : j % 2,this with
  | 0,_=>simp
  | 1,_=>simp
theorem w64 {z : Int} (h0 : 0 ≤ z) (h1 : z < 9223372036854775808) : wrap64 z = z:=by unfold wrap64;omega
theorem insV_of {p : Ins → Prop} : ∀ (l : List Ins),(∀ i ∈ l,p i) → ∃ zs : List { i : Ins // p i },zs.map (fun x=>x.1) = l
 | [],_=>⟨[],rfl⟩
 | i :: t,h=>by
  obtain ⟨zs,hz⟩:=insV_of t (fun j hj=>h j (List.mem_cons_of_mem _ hj))
  exact ⟨⟨i,h i (List.mem_cons_self ..)⟩ :: zs,by simp [hz]⟩
theorem sarr_own {β : Type} (g n : Nat) (G : β → (Nat → Int × Int) → Prop) : Own (fun s W=>∃ C,SArr W g n C ∧ G s C):=fun s X Y row hs hg hr=>by
 obtain ⟨C,h,hG⟩:=hs
 exact ⟨C,fun x hx=>⟨cell_kept (h x hx).1 hg hr,cell_kept (h x hx).2.1 hg hr,(frozen_kept (h x hx).1 hg hr).trans (h x hx).2.2.1,(frozen_kept (h x hx).2.1 hg hr).trans (h x hx).2.2.2⟩,hG⟩
structure MsrIn (fs : List (List Ins)) (w W W0 : World) (g n : Nat) (C : Nat → Int × Int) (f k : Nat) (right : Prop) (Bz Bf : Nat) (va : Value) {p : Ins → Prop} (ip : List { i : Ins // p i }) (V : World) : Prop where
 arr : ∃ v : Int × Int,SArr V g n (upd C f v) ∧ (right → v = toZ ((ip.map (fun x=>x.1)).foldl (addS (sizeF fs k)) (1,0)))
 bz : Boxed V Bz 113 (.slice (some ⟨g,0,none⟩) n n)
 bs : Boxed V (Bz + 1) 29 va
 bf : Boxed V Bf 3 (.int .i64 (f : Int))
 bel : Below w.heap.size W V
 keep : KeepsFrom W0.heap.size W V
theorem MsrIn.own {fs : List (List Ins)} {w W W0 : World} {g n : Nat} {C : Nat → Int × Int} {f k : Nat} {right : Prop} {Bz Bf : Nat} {va : Value} {p : Ins → Prop} {B : Nat} (h1 : w.heap.size ≤ W.heap.size) (h2 : w.heap.size ≤ B) (h3 : W.heap.size ≤ B) : OwnFrom B (MsrIn (p:=p) fs w W W0 g n C f k right Bz Bf va):=fun s X Y row hs hg hr=>by
 obtain ⟨⟨v,a1,a2⟩,bz,bs,bf,bel,keep⟩:=hs
 have hc : ∀ r,row = some r → ∃ o : Obj,X.heap[r]? = some o ∧ o.isCells = false:=fun r e=>(hr r e).2
 obtain ⟨C1,b1,rfl⟩:=sarr_own (β:=Unit) g n (fun _ C1=>C1 = upd C f v) () X Y row ⟨_,a1,rfl⟩ hg hc
 exact ⟨⟨v,b1,a2⟩,boxed_own (β:=Unit) _ _ (fun _=>_) () X Y row bz hg hc,boxed_own (β:=Unit) _ _ (fun _=>_) () X Y row bs hg hc,boxed_own (β:=Unit) _ _ (fun _=>_) () X Y row bf hg hc,
  ownFrom_below (β:=Unit) h1 h2 () X Y row bel hg hr,ownFrom_keepsFrom (β:=Unit) h3 () X Y row keep hg hr⟩
set_option maxRecDepth 100000 in
set_option maxHeartbeats 4000000 in
theorem measure_calls (fs : List (List Ins)) (nr : Nat) (S : Nat → Prop) (vf : Value) (w : World) (hn : 0 < fs.length) (hn8 : fs.length ≤ 8) (hok : FsOk fs nr) (hl10 : ∀ l ∈ fs,l.length ≤ 10) (hF : RdF S w vf fs) :
  Calls Tryz.prog 47 #[vf] w fun e w'=>∃ g,e = .returned (.slice (some ⟨g,0,none⟩) fs.length fs.length) ∧ w.heap.size ≤ g ∧ g < w'.heap.size ∧ SArr w' g fs.length (fun x=>toZ (sizeF fs fs.length x)) ∧ Below w.heap.size w w':=by
 obtain ⟨m,hm1⟩ : ∃ m : Nat,9 ≤ m:=⟨9,Nat.le_refl _⟩
 have hmix : Tryz.prog.follows .mixedOrders = true:=by kernel_rfl
 refine (callsIn_wide (n:=m)).1 ?_
 obtain ⟨us,hul,hu,hfs⟩:=hF
 obtain ⟨a,cap,rfl,hc,hm⟩:=hu.form
 unfold maxLen at hm
 obtain ⟨i0,hi,hz0,hz1,hz2⟩:=info_parts Tryz.infoSize
 obtain ⟨n,hN⟩ : ∃ n,fs.length = n:=⟨_,rfl⟩
 rw [hul,hN] at hc ⊢
 rw [hN] at hn hn8
 have HN:=hide hN
 have HU : Hid (us.length = n):=hul.trans hN
 have Hfs:=hide hfs
 have Hu:=hide hu
 have Hok:=hide hok
 have Hl10:=hide hl10
 clear hN hul hfs hu hok hl10
 refine callsIn_of_wp_marks Tryz.func47 rfl trivial ?_ rfl
 simp only [Tryz.ntmps47,List.size_toArray,List.length_cons,List.length_nil,Nat.reduceAdd,Nat.reduceSub,Array.replicate_succ,Array.replicate_zero,List.push_toArray,List.append_toArray,List.nil_append,List.cons_append]
 refine wpIn_wide.2 ?_
 go_wp2_with (first
  | (at_make;go_loud (refine wpList_make_full _ rfl _ _ 113 rfl w.heap.size 112 i0 (.agg #[.int .i64 0,.int .i64 0]) 2 Tryz.underlying113 hi hz0 hz1 _ _ _ _ n rfl rfl rfl rfl (by rw [hz2];omega) (by unfold maxLen;omega) (Nat.le_refl _) ?_))
  | (go_at_call 69;refine (back_calls _ _ _ _).mono ?_;rintro e w' ⟨rfl,rfl⟩))
 intro w1 hown hgrow
 have hB1 : Below w.heap.size w w1:=(Below.refl _ w).grown hgrow (Nat.le_refl _) (by simp)
 obtain ⟨g,hg⟩ : ∃ g,g = w.heap.size:=⟨_,rfl⟩
 have hA1 : SArr w1 g n (fun x=>toZ (sizeF fs 0 x)):=by
  intro x hx
  subst hg
  refine ⟨?_,?_,hown.frozenAt _,hown.frozenAt _⟩
  ·rw [hown.cellAt _ (by omega)]
   simp only
   rw [made2,List.getElem?_replicate,if_pos (by omega)];rfl
  ·rw [hown.cellAt _ (by omega)]
   simp only
   rw [made2,List.getElem?_replicate,if_pos (by omega)];rfl
 rw [← hg]
 have HG : Hid (g = w.heap.size):=hg
 clear hown hgrow hg
 go_wp2_with (go_at_call 69;refine (back_calls _ _ _ _).mono ?_;rintro e w' ⟨rfl,rfl⟩)
 refine (wpIn_wide (n:=m)).1 ?_
 have hgl:=hA1.lt hn
 obtain ⟨W0,hW0⟩ : ∃ W0,(w1.alloc (.cells #[.slice (some ⟨g,0,none⟩) n n] 113)).alloc (.cells #[.slice a n cap] 29) = W0:=⟨_,rfl⟩
 obtain ⟨Bz,hBz⟩ : ∃ Bz,w1.heap.size = Bz:=⟨_,rfl⟩
 have hsz : W0.heap.size = Bz + 2:=by rw [← hW0,← hBz];simp
 have hb0 : Below w1.heap.size w1 W0:=by rw [← hW0];exact ((Below.refl _ w1).alloc (Nat.le_refl _) _).alloc (by simp) _
 have bz : Boxed W0 Bz 113 (.slice (some ⟨g,0,none⟩) n n):=by rw [← hW0,← hBz];exact (Boxed.new w1 _ _).alloc _
 have bs : Boxed W0 (Bz + 1) 29 (.slice a n cap):=by
  have:=Boxed.new (w1.alloc (.cells #[.slice (some ⟨g,0,none⟩) n n] 113)) 29 (.slice a n cap)
  rw [World.size_alloc,hW0,hBz] at this
  exact this
 have hB0 : Below w.heap.size w W0:=hB1.trans (hb0.mono hB1.size)
 have hA0 : SArr W0 g n (fun x=>toZ (sizeF fs 0 x)):=hA1.below hn hb0
 rw [hW0,hBz]
 rw [hBz] at hgl
 have hwg : w.heap.size ≤ g:=by have:=HG.out;omega
 clear hW0 hb0 hA1 hB1 hBz hz0 hz1 hz2 hi
 have hus : ∀ u ∈ us,∃ q m c,u = .slice q m c:=fun u hu=>by
  obtain ⟨k,hk⟩:=List.getElem?_of_mem hu
  have hkl:=(List.getElem?_eq_some_iff.1 hk).1
  obtain ⟨q,c,hv⟩:=(Hfs.out k u (fs[k]'(by have:=HN.out;have:=HU.out;omega)) hk (by simp)).sl
  exact ⟨q,_,c,hv⟩
 have hrd : RdL (Lt w.heap.size) W0 1 one (.slice a n cap) us:=by
  have:=Hu.out
  rw [HU.out] at this
  exact this.turn (fun b hb hlt=>⟨hlt,hB0.block b hlt⟩) (fun x _=>by simp [one])
 have Hus:=hide hus
 clear hus
 refine wpIn_rangeFunc_ownH rfl (by omega) (gf:=97) (lb:=#[.pointer (some ⟨Bz + 1,0,none⟩)]) rfl trivial (enters_of Tryz.func97 (by kernel_rfl) rfl)
  (back_stops (m - 1) (Bz + 1) w.heap.size _ us (by have:=HU.out;omega) W0 (by omega) bs.cell hrd Hus.out) KpB.trans (kpB_b (by omega) (by omega)) (Below.refl _ _) (fun _=>rfl)
  (fun pre W=>(∃ C,SArr W g n C ∧ (pre.map (·.1) = downTo n pre.length → ∀ x,C x = toZ (sizeF fs pre.length x))) ∧ Boxed W Bz 113 (.slice (some ⟨g,0,none⟩) n n) ∧ Boxed W (Bz + 1) 29 (.slice a n cap) ∧ Below w.heap.size w W)
  (fun _ _ _=>False)
  (OwnFrom.and (Own.from (sarr_own _ _ _) _) (OwnFrom.and (Own.from (boxed_own _ _ _) _) (OwnFrom.and (Own.from (boxed_own _ _ _) _) (ownFrom_below (Nat.le_refl _) (by omega)))))
  (fun _ _ _ _ _ hs _ _=>hs)
  ⟨⟨_,hA0,fun _ _=>rfl⟩,bz,bs,hB0⟩
  (fun x a' W=>∃ Bf,W0.heap.size ≤ Bf ∧ Boxed W Bf 3 (.int .i64 (x.1 : Int)) ∧ a' = { tmps:=#[.slice a n cap,undef,.slice none 0 0,.pointer (some ⟨Bz,0,none⟩),.pointer (some ⟨Bf,0,none⟩),us[x.1],undef,.slice a n cap,.int .i64 n,.slice (some ⟨g,0,none⟩) n n,.slice a n cap,.func (.func 97) #[] #[.pointer (some ⟨Bz + 1,0,none⟩)],.int .i64 (x.1 : Int),us[x.1],undef,undef,undef,undef,undef,undef,undef,undef,undef,undef,undef,undef,undef,undef,undef,undef,undef,undef,undef,undef,undef,undef,undef,undef,undef,undef,undef,undef,undef,undef,undef,undef,undef,undef,undef,undef,undef,undef,undef,undef,undef,undef,undef,undef,undef,undef,undef,undef,undef,undef,undef,undef],defers:=[] })
  (fun x a' s X Y row hs hg hr=>by
   obtain ⟨Bf,h1,h2,h3⟩:=hs
   exact ⟨Bf,h1,boxed_own (β:=Unit) Bf _ (fun _=>.int .i64 (x.1 : Int)) () X Y row h2 hg (fun r e=>(hr r e).2),h3⟩) ?assign ?body ?done ?stop
 case assign =>
  rintro l' pre x W K ⟨⟨C,hA,hC⟩,bZ,bS,hBW⟩ hK
  have hsW:=bS.lt
  gi_wp2
  exact hK _ _ ((KeepsOthers.alloc _ _).from _) ⟨(Below.refl _ W).alloc (by omega) _,Below.heap_alloc _ _ _ hsW⟩ ⟨⟨C,hA.below hn ((Below.refl _ W).alloc (Nat.le_refl _) _),hC⟩,bZ.alloc _,bS.alloc _,hBW.alloc hBW.size _⟩ ⟨W.heap.size,by omega,Boxed.new W _ _,rfl⟩
 case body =>
  rintro l' pre ⟨f,hf⟩ a' W hl' ⟨r,hr⟩ ⟨⟨C,hA,hC⟩,bZ,bS,hBW⟩ ⟨Bf,hBf,bF,rfl⟩ hlt'
  dsimp only at bF ⊢
  have hfn : f < n:=by rw [HU.out] at hf;exact hf
  have hfi : (f : Int) < n:=by omega
  have hx : us[f]? = some us[f]:=List.getElem?_eq_getElem hf
  obtain ⟨l,hlf⟩ : ∃ l,fs[f]? = some l:=⟨fs[f]'(by have:=HN.out;omega),by simp⟩
  have hrl:=Hfs.out f _ l hx hlf
  obtain ⟨u,hueq⟩ : ∃ u,us[f] = u:=⟨_,rfl⟩
  rw [hueq] at hrl ⊢
  clear hx hueq
  have HRL:=hide hrl
  obtain ⟨a1,cap1,rfl,hc1,hmc1⟩:=hrl.form
  unfold maxLen at hmc1
  clear hrl
  have HL:=hide hlf
  clear hlf
  have HC:=hide hC
  have HA:=hide hA
  obtain ⟨q1,q2,q3,q4⟩:=hA f hfn
  have hZc:=bZ.cell
  have hFc:=bF.cell
  have sZ:=bZ.lt
  have sS:=bS.lt
  have sF:=bF.lt
  have hgW : g < W.heap.size:=by omega
  clear hC hA
  gi_wp2_with (refine ⟨trivial,room_none _,?_⟩;gi_at_call 67;refine (CallsIn.inRound l' (callsIn_wide.2 (each_calls _ _ _ _))).mono ?_;rintro e w' ⟨rfl,rfl⟩)
  obtain ⟨Wb,hWb⟩ : ∃ Wb,(W.setCell ⟨g,f * 2,none⟩ (.int .i64 1)).alloc (.cells #[.slice a1 l.length cap1] 46) = Wb:=⟨_,rfl⟩
  rw [hWb]
  have hsb : Wb.heap.size = W.heap.size + 1:=by rw [← hWb];simp [World.setCell]
  have bl : Boxed Wb W.heap.size 46 (.slice a1 l.length cap1):=by
   have:=Boxed.new (W.setCell ⟨g,f * 2,none⟩ (.int .i64 1)) 46 (.slice a1 l.length cap1)
   rw [hWb,show (W.setCell ⟨g,f * 2,none⟩ (.int .i64 1)).heap.size = W.heap.size by simp [World.setCell]] at this
   exact this
  have hbb : ∀ b,b ≠ g → b < W.heap.size → Wb.heap[b]? = W.heap[b]?:=fun b hb hl=>by
   rw [← hWb,Below.heap_alloc _ _ _ (by simp [World.setCell];omega)]
   exact Below.heap_setCell _ _ _ _ hb
  have hAb : SArr Wb g n (upd C f (1,(C f).2)):=by
   rw [← hWb]
   exact (HA.out.set1 (C':=upd C f (1,(C f).2)) (by simp [upd]) (fun x hx=>by simp [upd,hx])).below hn ((Below.refl _ _).alloc (Nat.le_refl _) _)
  have hBb : Below w.heap.size W Wb:=by
   rw [← hWb];exact ((Below.refl _ W).setCell (p:=⟨g,f * 2,none⟩) (by simp;omega) _).alloc (by simp [World.setCell];omega) _
  have hKb : KeepsFrom W0.heap.size W Wb:=by
   rw [← hWb];exact ((KeepsOthers.setCell _ _ _).trans (KeepsOthers.alloc _ _)).from _
  have bz' : Boxed Wb Bz 113 (.slice (some ⟨g,0,none⟩) n n):=(hbb _ (by omega) sZ).trans bZ
  have bs' : Boxed Wb (Bz + 1) 29 (.slice a n cap):=(hbb _ (by omega) sS).trans bS
  have bf' : Boxed Wb Bf 3 (.int .i64 (f : Int)):=(hbb _ (by omega) sF).trans bF
  have hr' : Wb.heap[l']? = some (.loop r):=(hbb _ (by omega) (Array.getElem?_eq_some_iff.1 hr).1).trans hr
  have hok:=Hok.out f l HL.out
  rw [HN.out] at hok
  have hl10:=Hl10.out l (List.mem_of_getElem? HL.out)
  obtain ⟨zs,hzs⟩:=insV_of (p:=fun i=>mayB n nr f i = true ∧ i.wf) l hok
  have hzl : zs.length = l.length:=by have:=congrArg List.length hzs;rw [List.length_map] at this;exact this
  have hrd' : RdL (Lt w.heap.size) Wb 5 Ins.vals (.slice a1 l.length cap1) (zs.map (fun x=>x.1)):=by
   rw [hzs];exact HRL.out.turn (fun b hb hlt=>⟨hlt,(hBW.trans hBb).block b hlt⟩) (fun x _=>by simp [Ins.vals])
  have hsw:=hBW.size
  clear q1 q2 q3 q4 hbb hWb hZc hFc
  obtain ⟨k,hk⟩ : ∃ k,pre.length = k:=⟨_,rfl⟩
  have hkn : k < n:=by have:=HU.out;omega
  refine wpIn_rangeFunc_ownN (l₀:=l') (r₀:=r) rfl hr' (by omega) (gf:=119) (lb:=#[.pointer (some ⟨W.heap.size,0,none⟩)]) rfl trivial (enters_of Tryz.func119 (by kernel_rfl) rfl)
   ((values_stops (α:={ i : Ins // mayB n nr f i = true ∧ i.wf }) (fun x=>x.1) (m - 1 - 1 - 1) W.heap.size w.heap.size _ zs (by omega) Wb (by omega) (by omega) bl.cell hrd').inRound l') belowK_t (belowK_b (by omega)) (Below.refl _ _) (fun _=>rfl)
   (MsrIn fs w W W0 g n C f k (pre.map (·.1) = downTo n k ∧ f = n - 1 - k) Bz Bf (.slice a n cap))
   (fun _ _ _=>False)
   (MsrIn.own (by omega) (by omega) (by omega))
   (fun _ _ _ _ _ hs _ _=>hs)
   ⟨⟨_,hAb,fun hR=>?_⟩,bz',bs',bf',hBb,hKb⟩
   (fun i a' V=>∃ Bi,W0.heap.size ≤ Bi ∧ Box5 V Bi i.1 ∧ a' = { tmps:=#[.slice a n cap,undef,.slice none 0 0,.pointer (some ⟨Bz,0,none⟩),.pointer (some ⟨Bf,0,none⟩),.slice a1 l.length cap1,.pointer (some ⟨Bi,0,none⟩),.slice a n cap,.int .i64 n,.slice (some ⟨g,0,none⟩) n n,.slice a n cap,.func (.func 97) #[] #[.pointer (some ⟨Bz + 1,0,none⟩)],.int .i64 (f : Int),.slice a1 l.length cap1,.slice (some ⟨g,0,none⟩) n n,.int .i64 (f : Int),.pointer (some ⟨g,f * 2,none⟩),.pointer (some ⟨g,f * 2,none⟩),.slice a1 l.length cap1,.func (.func 119) #[] #[.pointer (some ⟨W.heap.size,0,none⟩)],i.1.agg,undef,undef,undef,undef,undef,undef,undef,undef,undef,undef,undef,undef,undef,undef,undef,undef,undef,undef,undef,undef,undef,undef,undef,undef,undef,undef,undef,undef,undef,undef,undef,undef,undef,undef,undef,undef,undef,undef,undef,undef,undef,undef,undef,undef,undef],defers:=[] })
   (fun i a' s X Y row hs hg hr=>by
    obtain ⟨Bi,h1,h2,h3⟩:=hs
    exact ⟨Bi,h1,box5_own (β:=Unit) Bi i.1 () X Y row h2 hg (fun r e=>(hr r e).2),h3⟩) ?assign2 ?body2 ?done2 ?stop2
  ·have:=HC.out (by rw [hk];exact hR.1) f
   rw [this,hk,sizeF_zero k f (by have:=HN.out;omega) (by have:=HN.out;omega)]
   rfl
  case assign2 =>
   rintro l2 ip i V K ⟨⟨v,hA1,hv⟩,bz2,bs2,bf2,hBV,hKV⟩ hK
   have hsV:=bf2.lt
   have hsV2:=hBV.size
   dsimp only [Ins.agg]
   gi_wp2
   exact hK _ _ ((KeepsOthers.alloc _ _).from _) ((Below.refl _ V).alloc (by omega) _) ⟨⟨v,hA1.below hn ((Below.refl _ V).alloc (Nat.le_refl _) _),hv⟩,bz2.alloc _,bs2.alloc _,bf2.alloc _,hBV.alloc (by omega) _,hKV.trans ((KeepsOthers.alloc _ _).from _)⟩ ⟨V.heap.size,by omega,Box5.new V i.1,rfl⟩
  case body2 =>
   rintro l2 ip ⟨⟨op,F,R,K,L⟩,hmay,hwf⟩ a2 V hl2 ⟨r2,hr2⟩ ⟨⟨v,hA1,hv⟩,bz2,bs2,bf2,hBV,hKV⟩ ⟨Bi,hBi,bI,rfl⟩ hlt2
   have g0:=bI.c0
   have g1:=bI.c1
   dsimp only [Ins.agg] at g0 g1 ⊢
   have HA:=hide hA1
   have e0:=hA1 f hfn
   simp only [upd,if_true] at e0
   obtain ⟨q1,q2,q3,q4⟩:=e0
   have hZc:=bz2.cell
   have hFc:=bf2.cell
   have sZ:=bz2.lt
   have sS:=bs2.lt
   have sF:=bf2.lt
   have sI:=bI.lt
   have hgV : g < V.heap.size:=by omega
   have Hv:=hide hv
   have hsV:=hBV.size
   clear hA1 hv
   by_cases o1 : op = 1 ∨ op = 2
   ·have HO:=hide o1
    have st : ∀ z,Below w.heap.size V (V.setCell ⟨g,f * 2 + 1,none⟩ z):=fun z=>(Below.refl _ V).setCell (p:=⟨g,f * 2 + 1,none⟩) (by simp;omega) _
    have hbb : ∀ z b,b ≠ g → (V.setCell ⟨g,f * 2 + 1,none⟩ z).heap[b]? = V.heap[b]?:=fun z b hb=>Below.heap_setCell _ _ _ _ hb
    have fin : ∀ z,z = wrap64 (v.2 + 1) → MsrIn fs w W W0 g n C f k (pre.map (·.1) = downTo n k ∧ f = n - 1 - k) Bz Bf (.slice a n cap) (ip ++ [(⟨⟨op,F,R,K,L⟩,hmay,hwf⟩ : { i : Ins // mayB n nr f i = true ∧ i.wf })]) (V.setCell ⟨g,f * 2 + 1,none⟩ (.int .i64 z)):=fun z hz=>by
     refine ⟨⟨(v.1,z),HA.out.set2 (by simp [upd]) (fun x hx=>by simp [upd,hx]),fun hR=>?_⟩,(hbb _ _ (by omega)).trans bz2,(hbb _ _ (by omega)).trans bs2,(hbb _ _ (by omega)).trans bf2,hBV.trans (st _),hKV.trans ((KeepsOthers.setCell _ _ _).from _)⟩
     have e:=Hv.out hR
     have hle:=(foldS_le (C:=sizeF fs k) (M:=214358881) (by omega) (fun x=>sizeF_small Hl10.out (by omega) x) (ip.map (fun x=>x.1)) (1,0)).2
     have hl : ip.length ≤ 10:=by omega
     simp only [Nat.zero_add] at hle
     have hm:=Nat.mul_le_mul_right 214358881 (show (ip.map (fun x=>x.1)).length ≤ 10 by rw [List.length_map];exact hl)
     rw [List.map_append,List.map_singleton,foldS_snoc,addS,if_pos HO.out]
     rw [hz,e]
     simp only [toZ]
     rw [w64 (by omega) (by omega)]
     simp
    have HF:=hide fin
    have Hst:=hide st
    clear fin st hbb
    rcases o1 with rfl | rfl
    ·gi_wp2
     exact ⟨(KeepsOthers.setCell _ _ _).from _,Hst.out _,HF.out _ rfl⟩
    ·gi_wp2
     exact ⟨(KeepsOthers.setCell _ _ _).from _,Hst.out _,HF.out _ rfl⟩
   ·by_cases o3 : op = 3 ∨ op = 4
    ·obtain ⟨mF,rfl,hf1,hf2⟩:=mayB_begins hmay (by unfold begins;simpa using o3)
     have e1:=HA.out mF hf2
     simp only [upd,if_neg (show ¬ mF = f by omega)] at e1
     obtain ⟨p1,p2,p3,p4⟩:=e1
     have hFi : (mF : Int) < n:=by omega
     have hF0 : (0 : Int) ≤ mF:=by omega
     rcases o3 with rfl | rfl
     ·gi_wp2
      refine region_split (F:=FW) (C:=fun w'=>∃ n,w' = V.drewN n) (ro:=some l2) (k:=14) (r:=1) hmix rfl (by kernel_rfl) (by kernel_rfl) ⟨1,rfl⟩ ?_
      simp only [List.take_succ_cons,List.take_zero]
      repeat (gi_big_quiet_step (fail))
      refine wpQuietIn_nil ?_
      intro _ hw'
      obtain ⟨nq,hw''⟩:=hw'
      subst hw''
      refine wpAnyIn_ready (rs:=[14]) (by kernel_rfl) (by simp) ?_
      refine AllReadyIn.cons rfl (fun K hK=>?_) AllReadyIn.nil
      go_simp
      refine hK _ _ ?_
      clear hK K
      refine wpAnyIn_done (by kernel_rfl) ?_ _
      obtain ⟨V1,hV1⟩ : ∃ V1,(V.drewN nq).setCell ⟨g,f * 2,none⟩ (.int .i64 (wrap64 (v.1 + (C mF).1))) = V1:=⟨_,rfl⟩
      rw [hV1]
      have kp : ∀ b,b ≠ g → V1.heap[b]? = V.heap[b]?:=fun b hb=>by rw [← hV1,Below.heap_setCell _ _ _ _ hb];rfl
      have HA1 : SArr V1 g n (upd C f (wrap64 (v.1 + (C mF).1),v.2)):=by
       rw [← hV1];exact SArr.set1 (C:=upd C f v) (HA.out.turn rfl) (by simp [upd]) (fun x hx=>by simp [upd,hx])
      have hb1 : Below w.heap.size V V1:=by
       rw [← hV1];exact (below_drewN (Below.refl _ V) nq).setCell (p:=⟨g,f * 2,none⟩) (by simp;omega) _
      have hk1 : KeepsOthers V V1:=by
       rw [← hV1];exact KeepsOthers.trans (B:=V.drewN nq) ⟨Nat.le_refl _,fun _ _ h _=>h⟩ (KeepsOthers.setCell _ _ _)
      have hs1 : V1.heap.size = V.heap.size:=by rw [← hV1];simp [World.setCell]
      have bz3 : Boxed V1 Bz 113 (.slice (some ⟨g,0,none⟩) n n):=(kp _ (by omega)).trans bz2
      have bs3 : Boxed V1 (Bz + 1) 29 (.slice a n cap):=(kp _ (by omega)).trans bs2
      have bf3 : Boxed V1 Bf 3 (.int .i64 (f : Int)):=(kp _ (by omega)).trans bf2
      have bI3 : Box5 V1 Bi ⟨3,(mF : Int),R,K,L⟩:=(kp _ (by omega)).trans bI
      have e3:=HA1 f hfn
      simp only [upd,if_true] at e3
      obtain ⟨x1,x2,x3,x4⟩:=e3
      have e4:=HA1 mF hf2
      simp only [upd,if_neg (show ¬ mF = f by omega)] at e4
      obtain ⟨y1,y2,y3,y4⟩:=e4
      have g03:=bI3.c0
      have g13:=bI3.c1
      dsimp only at g03 g13
      have hZ3:=bz3.cell
      have hF3:=bf3.cell
      have HA1:=hide HA1
      have Hb1:=hide hb1
      have Hk1:=hide hk1
      have Hs1:=hide hs1
      clear kp hV1 q1 q2 q3 q4 p1 p2 p3 p4 g0 g1 hZc hFc hb1 hk1 hs1
      gi_wp2
      refine region_split (F:=FW) (C:=fun w'=>∃ n,w' = V1.drewN n) (ro:=some l2) (k:=14) (r:=1) hmix rfl (by kernel_rfl) (by kernel_rfl) ⟨1,rfl⟩ ?_
      simp only [List.take_succ_cons,List.take_zero]
      repeat (gi_big_quiet_step (fail))
      refine wpQuietIn_nil ?_
      intro _ hw'
      obtain ⟨nq',hw''⟩:=hw'
      subst hw''
      refine wpAnyIn_ready (rs:=[14]) (by kernel_rfl) (by simp) ?_
      refine AllReadyIn.cons rfl (fun K hK=>?_) AllReadyIn.nil
      go_simp
      refine hK _ _ ?_
      clear hK K
      refine wpAnyIn_done (by kernel_rfl) ?_ _
      gi_wp2
      have hs1:=Hs1.out
      have st : Below w.heap.size V1 ((V1.drewN nq').setCell ⟨g,f * 2 + 1,none⟩ (.int .i64 (wrap64 (v.2 + (C mF).2)))):=(below_drewN (Below.refl _ V1) nq').setCell (p:=⟨g,f * 2 + 1,none⟩) (by simp;omega) _
      have hkk : KeepsOthers V1 ((V1.drewN nq').setCell ⟨g,f * 2 + 1,none⟩ (.int .i64 (wrap64 (v.2 + (C mF).2)))):=KeepsOthers.trans (B:=V1.drewN nq') ⟨Nat.le_refl _,fun _ _ h _=>h⟩ (KeepsOthers.setCell _ _ _)
      have kp : ∀ b,b ≠ g → ((V1.drewN nq').setCell ⟨g,f * 2 + 1,none⟩ (.int .i64 (wrap64 (v.2 + (C mF).2)))).heap[b]? = V1.heap[b]?:=fun b hb=>by rw [Below.heap_setCell _ _ _ _ hb];rfl
      refine ⟨((Hk1.out).trans hkk).from _,Hb1.out.trans st,⟨⟨(wrap64 (v.1 + (C mF).1),wrap64 (v.2 + (C mF).2)),SArr.set2 (C:=upd C f (wrap64 (v.1 + (C mF).1),v.2)) (HA1.out.turn rfl) (by simp [upd]) (fun x hx=>by simp [upd,hx]),fun hR=>?_⟩,(kp _ (by omega)).trans bz3,(kp _ (by omega)).trans bs3,(kp _ (by omega)).trans bf3,(hBV.trans Hb1.out).trans st,hKV.trans (((Hk1.out).trans hkk).from _)⟩⟩
      have e:=Hv.out hR
      have eC:=HC.out (by rw [hk];exact hR.1) mF
      rw [hk] at eC
      have hsm:=sizeF_small Hl10.out (j:=k) (by omega) mF
      have hle:=foldS_le (C:=sizeF fs k) (M:=214358881) (by omega) (fun x=>sizeF_small Hl10.out (by omega) x) (ip.map (fun x=>x.1)) (1,0)
      simp only [Nat.zero_add] at hle
      have hmm:=Nat.mul_le_mul_right 214358881 (show (ip.map (fun x=>x.1)).length ≤ 10 by rw [List.length_map];omega)
      rw [List.map_append,List.map_singleton,foldS_snoc,addS,if_neg (by simp),if_pos (by rfl),e,eC]
      simp only [toZ]
      rw [w64 (by omega) (by omega),w64 (by omega) (by omega)]
      simp
     ·gi_wp2
      refine region_split (F:=FW) (C:=fun w'=>∃ n,w' = V.drewN n) (ro:=some l2) (k:=14) (r:=1) hmix rfl (by kernel_rfl) (by kernel_rfl) ⟨1,rfl⟩ ?_
      simp only [List.take_succ_cons,List.take_zero]
      repeat (gi_big_quiet_step (fail))
      refine wpQuietIn_nil ?_
      intro _ hw'
      obtain ⟨nq,hw''⟩:=hw'
      subst hw''
      refine wpAnyIn_ready (rs:=[14]) (by kernel_rfl) (by simp) ?_
      refine AllReadyIn.cons rfl (fun K hK=>?_) AllReadyIn.nil
      go_simp
      refine hK _ _ ?_
      clear hK K
      refine wpAnyIn_done (by kernel_rfl) ?_ _
      obtain ⟨V1,hV1⟩ : ∃ V1,(V.drewN nq).setCell ⟨g,f * 2,none⟩ (.int .i64 (wrap64 (v.1 + (C mF).1))) = V1:=⟨_,rfl⟩
      rw [hV1]
      have kp : ∀ b,b ≠ g → V1.heap[b]? = V.heap[b]?:=fun b hb=>by rw [← hV1,Below.heap_setCell _ _ _ _ hb];rfl
      have HA1 : SArr V1 g n (upd C f (wrap64 (v.1 + (C mF).1),v.2)):=by
       rw [← hV1];exact SArr.set1 (C:=upd C f v) (HA.out.turn rfl) (by simp [upd]) (fun x hx=>by simp [upd,hx])
      have hb1 : Below w.heap.size V V1:=by
       rw [← hV1];exact (below_drewN (Below.refl _ V) nq).setCell (p:=⟨g,f * 2,none⟩) (by simp;omega) _
      have hk1 : KeepsOthers V V1:=by
       rw [← hV1];exact KeepsOthers.trans (B:=V.drewN nq) ⟨Nat.le_refl _,fun _ _ h _=>h⟩ (KeepsOthers.setCell _ _ _)
      have hs1 : V1.heap.size = V.heap.size:=by rw [← hV1];simp [World.setCell]
      have bz3 : Boxed V1 Bz 113 (.slice (some ⟨g,0,none⟩) n n):=(kp _ (by omega)).trans bz2
      have bs3 : Boxed V1 (Bz + 1) 29 (.slice a n cap):=(kp _ (by omega)).trans bs2
      have bf3 : Boxed V1 Bf 3 (.int .i64 (f : Int)):=(kp _ (by omega)).trans bf2
      have bI3 : Box5 V1 Bi ⟨4,(mF : Int),R,K,L⟩:=(kp _ (by omega)).trans bI
      have e3:=HA1 f hfn
      simp only [upd,if_true] at e3
      obtain ⟨x1,x2,x3,x4⟩:=e3
      have e4:=HA1 mF hf2
      simp only [upd,if_neg (show ¬ mF = f by omega)] at e4
      obtain ⟨y1,y2,y3,y4⟩:=e4
      have g03:=bI3.c0
      have g13:=bI3.c1
      dsimp only at g03 g13
      have hZ3:=bz3.cell
      have hF3:=bf3.cell
      have HA1:=hide HA1
      have Hb1:=hide hb1
      have Hk1:=hide hk1
      have Hs1:=hide hs1
      clear kp hV1 q1 q2 q3 q4 p1 p2 p3 p4 g0 g1 hZc hFc hb1 hk1 hs1
      gi_wp2
      refine region_split (F:=FW) (C:=fun w'=>∃ n,w' = V1.drewN n) (ro:=some l2) (k:=14) (r:=1) hmix rfl (by kernel_rfl) (by kernel_rfl) ⟨1,rfl⟩ ?_
      simp only [List.take_succ_cons,List.take_zero]
      repeat (gi_big_quiet_step (fail))
      refine wpQuietIn_nil ?_
      intro _ hw'
      obtain ⟨nq',hw''⟩:=hw'
      subst hw''
      refine wpAnyIn_ready (rs:=[14]) (by kernel_rfl) (by simp) ?_
      refine AllReadyIn.cons rfl (fun K hK=>?_) AllReadyIn.nil
      go_simp
      refine hK _ _ ?_
      clear hK K
      refine wpAnyIn_done (by kernel_rfl) ?_ _
      gi_wp2
      have hs1:=Hs1.out
      have st : Below w.heap.size V1 ((V1.drewN nq').setCell ⟨g,f * 2 + 1,none⟩ (.int .i64 (wrap64 (v.2 + (C mF).2)))):=(below_drewN (Below.refl _ V1) nq').setCell (p:=⟨g,f * 2 + 1,none⟩) (by simp;omega) _
      have hkk : KeepsOthers V1 ((V1.drewN nq').setCell ⟨g,f * 2 + 1,none⟩ (.int .i64 (wrap64 (v.2 + (C mF).2)))):=KeepsOthers.trans (B:=V1.drewN nq') ⟨Nat.le_refl _,fun _ _ h _=>h⟩ (KeepsOthers.setCell _ _ _)
      have kp : ∀ b,b ≠ g → ((V1.drewN nq').setCell ⟨g,f * 2 + 1,none⟩ (.int .i64 (wrap64 (v.2 + (C mF).2)))).heap[b]? = V1.heap[b]?:=fun b hb=>by rw [Below.heap_setCell _ _ _ _ hb];rfl
      refine ⟨((Hk1.out).trans hkk).from _,Hb1.out.trans st,⟨⟨(wrap64 (v.1 + (C mF).1),wrap64 (v.2 + (C mF).2)),SArr.set2 (C:=upd C f (wrap64 (v.1 + (C mF).1),v.2)) (HA1.out.turn rfl) (by simp [upd]) (fun x hx=>by simp [upd,hx]),fun hR=>?_⟩,(kp _ (by omega)).trans bz3,(kp _ (by omega)).trans bs3,(kp _ (by omega)).trans bf3,(hBV.trans Hb1.out).trans st,hKV.trans (((Hk1.out).trans hkk).from _)⟩⟩
      have e:=Hv.out hR
      have eC:=HC.out (by rw [hk];exact hR.1) mF
      rw [hk] at eC
      have hsm:=sizeF_small Hl10.out (j:=k) (by omega) mF
      have hle:=foldS_le (C:=sizeF fs k) (M:=214358881) (by omega) (fun x=>sizeF_small Hl10.out (by omega) x) (ip.map (fun x=>x.1)) (1,0)
      simp only [Nat.zero_add] at hle
      have hmm:=Nat.mul_le_mul_right 214358881 (show (ip.map (fun x=>x.1)).length ≤ 10 by rw [List.length_map];omega)
      rw [List.map_append,List.map_singleton,foldS_snoc,addS,if_neg (by simp),if_pos (by rfl),e,eC]
      simp only [toZ]
      rw [w64 (by omega) (by omega),w64 (by omega) (by omega)]
      simp
    ·have b1 : (op == 1) = false:=by simp;omega
     have b2 : (op == 2) = false:=by simp;omega
     have b3 : (op == 3) = false:=by simp;omega
     have b4 : (op == 4) = false:=by simp;omega
     have HO1:=hide o1
     have HO3:=hide o3
     clear o1 o3
     gi_wp2
     refine ⟨KeepsFrom.refl _ _,Below.refl _ _,⟨v,HA.out,fun hR=>?_⟩,bz2,bs2,bf2,hBV,hKV⟩
     rw [List.map_append,List.map_singleton,foldS_snoc,addS,if_neg HO1.out,if_neg (by unfold begins;simpa using HO3.out)]
     exact Hv.out hR
  case done2 =>
   rintro ys V rfl ⟨⟨v,hA1,hv⟩,bz2,bs2,bf2,hBV,hKV⟩
   gi_wp2
   refine ⟨hKV,⟨hBV,bs2.trans bS.symm⟩,⟨_,hA1,fun hR x=>?_⟩,bz2,bs2,hBW.trans hBV⟩
   rw [List.map_append,List.length_append,hk] at hR
   rw [List.length_append,hk]
   simp only [List.map_cons,List.map_nil,List.length_cons,List.length_nil] at hR ⊢
   rw [downTo_succ hkn] at hR
   have hR':=List.append_inj' hR rfl
   have hfk : f = n - 1 - k:=by simpa using hR'.2
   rw [sizeF_step (f:=f) (by rw [HN.out];exact hfk) HL.out x,upd]
   split
   ·rw [hv ⟨hR'.1,hfk⟩,hzs]
   ·rw [HC.out (by rw [hk];exact hR'.1) x,hk]
  case stop2 =>
   rintro c ip V _ h
   exact h.elim
 case done =>
  rintro D ys W hD hys ⟨⟨C,hA,hC⟩,bZ,bS,hBW⟩ hK
  have hZ:=bZ.cell
  gi_wp2
  go_wp2
  refine ⟨by simp,.inl ⟨_,_,rfl,run_takeDeferred hK,?_⟩⟩
  have hgc:=hA.lt hn
  have hDn : D ≠ g:=by omega
  have hys' : ys.map (·.1) = downTo n n:=hys.trans (by rw [HU.out])
  have hyl : ys.length = n:=by
   have:=congrArg List.length hys'
   rw [List.length_map,downTo_len (Nat.le_refl _)] at this
   exact this
  refine ⟨_,results_tmp rfl _ _ _,g,rfl,by omega,by simpa using hgc,?_,hBW.trans (belowK_b (w:=w) (Nat.le_refl _) _ D _ _ (by omega) hK rfl rfl)⟩
  refine (hA.turn (World.putObj_heap_other (by omega))).ext (fun x _=>?_)
  rw [hC (by rw [hyl];exact hys') x,hyl]
 case stop =>
  rintro D c pre W _ _ h _
  exact h.elim
end Go.Proofs.YtkmakliebhnhbaaGreat
