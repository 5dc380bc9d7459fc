import Derived.WalkKit
import Derived.WalkSpells
import Derived.WalkLawsBesides
namespace Go.Proofs.YtkmakliebhnhbaaGreat
open Go.RowKit
theorem hide {p : Prop} (h : p) : Hid p:=h
structure Ins where
 op : Int
 f : Int
 r : Int
 k : Int
 l : Int
def Ins.vals (i : Ins) : List Value:=[.int .i64 i.op,.int .i64 i.f,.int .i64 i.r,.int .i64 i.k,.int .i64 i.l]
def i64 (n : Int) : Prop:=-9223372036854775808 ≤ n ∧ n ≤ 9223372036854775807
def u64 (n : Int) : Prop:=0 ≤ n ∧ n < 18446744073709551616
def Ins.wf (i : Ins) : Prop:=i64 i.op ∧ i64 i.f ∧ i64 i.r ∧ i64 i.k ∧ i64 i.l
def RdL {α : Type} (S : Nat → Prop) (W : World) (size : Nat) (enc : α → List Value) (v : Value) (l : List α) : Prop :=
 ∃ a cap,v = .slice a l.length cap ∧ l.length ≤ cap ∧ cap ≤ maxLen ∧
  ((l = [] ∧ (a = none → cap = 0)) ∨ ∃ b off,a = some ⟨b,off,none⟩ ∧ S b ∧ ∀ (k : Nat) (x : α),l[k]? = some x → ∀ (j : Nat) (u : Value),(enc x)[j]? = some u → W.cell? ⟨b,off + k * size + j,none⟩ = some u)
def one (u : Value) : List Value:=[u]
def int64s (n : Int) : List Value:=[.int .i64 n]
def RdF (S : Nat → Prop) (W : World) (v : Value) (fs : List (List Ins)) : Prop :=
 ∃ us : List Value,us.length = fs.length ∧ RdL S W 1 one v us ∧ ∀ (k : Nat) (u : Value) (x : List Ins),us[k]? = some u → fs[k]? = some x → RdL S W 5 Ins.vals u x
theorem RdL.turn {α : Type} {S S' : Nat → Prop} {W W' : World} {size : Nat} {enc : α → List Value} {v : Value} {l : List α} (h : RdL S W size enc v l)
  (hS : ∀ b,S b → b < W.heap.size → S' b ∧ W'.heap[b]? = W.heap[b]?) (he : ∀ x ∈ l,enc x ≠ []) : RdL S' W' size enc v l:=by
 obtain ⟨a,cap,hv,hc,hm,h⟩:=h
 refine ⟨a,cap,hv,hc,hm,?_⟩
 rcases h with h | ⟨b,off,ha,hb,h⟩
 ·exact .inl h
 ·cases l with
  | nil=>exact .inl ⟨rfl,fun e=>by rw [ha] at e;cases e⟩
  | cons x t =>
   have hne:=he x (List.mem_cons_self ..)
   obtain ⟨u,r,hu⟩:=List.exists_cons_of_ne_nil hne
   have hlt : b < W.heap.size:=block_lt_of_cell (h 0 x rfl 0 u (by rw [hu];rfl))
   obtain ⟨h1,h2⟩:=hS b hb hlt
   exact .inr ⟨b,off,ha,h1,fun k y hk j q hq=>(World.cell?_of_block (w:=W) (a:=⟨b,_,none⟩) h2).trans (h k y hk j q hq)⟩
theorem RdF.turn {S S' : Nat → Prop} {W W' : World} {v : Value} {fs : List (List Ins)} (h : RdF S W v fs)
  (hS : ∀ b,S b → b < W.heap.size → S' b ∧ W'.heap[b]? = W.heap[b]?) : RdF S' W' v fs:=by
 obtain ⟨us,hl,h1,h2⟩:=h
 exact ⟨us,hl,h1.turn hS (fun x _=>by simp [one]),fun k u x hk hx=>(h2 k u x hk hx).turn hS (fun x _=>by simp [Ins.vals])⟩
def Lt (B : Nat) : Nat → Prop:=fun b=>b < B
theorem RdL.below {α : Type} {S : Nat → Prop} {W W' : World} {size : Nat} {enc : α → List Value} {v : Value} {l : List α} (h : RdL S W size enc v l) (hb : Below W.heap.size W W')
  (he : ∀ x ∈ l,enc x ≠ []) : RdL S W' size enc v l:=h.turn (fun b hb' hlt=>⟨hb',hb.block b hlt⟩) he
theorem RdF.below {S : Nat → Prop} {W W' : World} {v : Value} {fs : List (List Ins)} (h : RdF S W v fs) (hb : Below W.heap.size W W') : RdF S W' v fs :=
 h.turn (fun b hb' hlt=>⟨hb',hb.block b hlt⟩)
theorem RdL.form {α : Type} {S : Nat → Prop} {W : World} {size : Nat} {enc : α → List Value} {v : Value} {l : List α} (h : RdL S W size enc v l) : ∃ a cap,v = .slice a l.length cap ∧ l.length ≤ cap ∧ cap ≤ maxLen:=by
 obtain ⟨a,cap,hv,hc,hm,_⟩:=h
 exact ⟨a,cap,hv,hc,hm⟩
theorem RdL.at {α : Type} {S : Nat → Prop} {W : World} {size : Nat} {enc : α → List Value} {a : Option Addr} {n cap : Nat} {l : List α} (h : RdL S W size enc (.slice a n cap) l) {k : Nat} {x : α} (hk : l[k]? = some x) :
  ∃ b off,a = some ⟨b,off,none⟩ ∧ S b ∧ ∀ (j : Nat) (u : Value),(enc x)[j]? = some u → W.cell? ⟨b,off + k * size + j,none⟩ = some u:=by
 obtain ⟨a',cap',hv,hc,hm,h⟩:=h
 cases hv
 rcases h with ⟨rfl,_⟩ | ⟨b,off,ha,hb,h⟩
 ·simp at hk
 ·exact ⟨b,off,ha,hb,fun j u hu=>h k x hk j u hu⟩
def mayB (nf nr : Nat) (f : Int) (i : Ins) : Bool :=
 if i.op = 1 then (decide (0 ≤ i.r) && decide (i.r < nr)) && i.f == 0
 else if i.op = 2 then (decide (0 ≤ i.r) && decide (i.r < nr)) && i.f == 0 && decide (0 < i.k) && i.l == 0
 else if i.op = 3 ∨ i.op = 4 then decide (f < i.f) && decide (i.f < nf) && i.r == 0
 else if i.op = 5 then i.f == 0 && i.r == 0 && i.k == 0 && i.l == 0
 else false
def prime : Int:=1099511628211
def gold : Int:=11400714819323198485
def stepZ (h r : Int) : Int:=IntKind.u64.wrap (bits BinOp.xor IntKind.u64 h (r + 1) * 1099511628211)
def mixA (g : Int) : Int:=bits BinOp.xor IntKind.u64 g (IntKind.u64.wrap (g.tdiv 2147483648))
def mixB (g : Int) : Int:=IntKind.u64.wrap (g * 11400714819323198485)
def mixC (g : Int) : Int:=bits BinOp.xor IntKind.u64 g (IntKind.u64.wrap (g.tdiv 536870912))
def drawnZ (h r k : Int) : Int:=wrap64 ((mixC (mixB (mixA (stepZ h r)))).tmod k)
def Arr (W : World) (g n : Nat) (C : Nat → Nat) : Prop:=∀ x,x < n → W.cell? ⟨g,x,none⟩ = some (.int .i64 (C x)) ∧ W.frozen? ⟨g,x,none⟩ = false
def begins (i : Ins) : Bool:=i.op == 3 || i.op == 4
def capN (m : Nat) : Nat:=if m > 300 then 301 else m
def addC (C : Nat → Nat) (c : Nat) (i : Ins) : Nat:=capN (if begins i then c + C i.f.toNat else c)
def cntsC (fs : List (List Ins)) : Nat → Nat → Nat
 | 0=>fun _=>0
 | j + 1=>fun x=>if x = fs.length - 1 - j then (fs[fs.length - 1 - j]?.getD []).foldl (addC (cntsC fs j)) 1 else cntsC fs j x
def framesC (fs : List (List Ins)) : Nat:=cntsC fs fs.length 0
theorem capN_le (m : Nat) : capN m ≤ 301:=by unfold capN;split <;> omega
theorem foldl_addC_le (C : Nat → Nat) (l : List Ins) (c : Nat) (hc : c ≤ 301) : l.foldl (addC C) c ≤ 301:=by
 induction l generalizing c with
 | nil=>exact hc
 | cons i t ih=>exact ih _ (capN_le _)
theorem cntsC_le (fs : List (List Ins)) (j x : Nat) : cntsC fs j x ≤ 301:=by
 induction j generalizing x with
 | zero=>simp [cntsC]
 | succ j ih =>
  unfold cntsC
  split
  ·exact foldl_addC_le _ _ _ (by omega)
  ·exact ih x
theorem mayB_begins {nf nr : Nat} {f : Nat} {i : Ins} (h : mayB nf nr f i = true) (hb : begins i = true) : ∃ m : Nat,i.f = m ∧ f < m ∧ m < nf:=by
 unfold begins at hb
 simp only [Bool.or_eq_true,beq_iff_eq] at hb
 unfold mayB at h
 rw [if_neg (by omega),if_neg (by omega),if_pos hb] at h
 simp only [Bool.and_eq_true,decide_eq_true_eq] at h
 exact ⟨i.f.toNat,by omega,by omega,by omega⟩
def firstBad (p : Nat → Bool) (n : Nat) : Option Nat:=(List.range n).find? p
theorem find_range_some (p : Nat → Bool) : ∀ n i,(∀ j,j < i → p j = false) → p i = true → i < n → (List.range n).find? p = some i
 | 0,_,_,_,h=>by omega
 | n + 1,i,h1,h2,h3=>by
  rw [List.range_succ,List.find?_append]
  by_cases e : i = n
  ·subst e
   have hno : (List.range i).find? p = none:=List.find?_eq_none.2 (fun x hx=>by simp [h1 x (List.mem_range.1 hx)])
   rw [hno]
   simp [h2]
  ·rw [find_range_some p n i h1 h2 (by omega)]
   rfl
theorem firstBad_some {p : Nat → Bool} {n i : Nat} (h1 : ∀ j,j < i → p j = false) (h2 : p i = true) (h3 : i < n) : firstBad p n = some i:=find_range_some p n i h1 h2 h3
theorem firstBad_none {p : Nat → Bool} {n : Nat} (h : ∀ j,j < n → p j = false) : firstBad p n = none:=List.find?_eq_none.2 (fun x hx=>by simp [h x (List.mem_range.1 hx)])
def badR (reds : List Int) (j : Nat) : Bool:=!(decide (1 ≤ reds[j]?.getD 0) && decide (reds[j]?.getD 0 ≤ 5))
def badF (fs : List (List Ins)) (nr : Nat) (f : Nat) : Bool:=decide (10 < (fs[f]?.getD []).length) || (fs[f]?.getD []).any (fun i=>!mayB fs.length nr f i)
def check (fs : List (List Ins)) (reds : List Int) : Int × Int :=
 if fs.length < 1 ∨ 8 < fs.length then (1,0)
 else if 4 < reds.length then (2,0)
 else match firstBad (badR reds) reds.length with
  | some r=>(2,r)
  | none=>match firstBad (badF fs reds.length) fs.length with
   | some f=>(3,f)
   | none=>if 300 < framesC fs then (4,0) else (0,0)
theorem take_succ_of {α : Type} {l : List α} {k : Nat} {x : α} (h : l[k]? = some x) : l.take (k + 1) = l.take k ++ [x]:=by
 obtain ⟨hk,rfl⟩:=List.getElem?_eq_some_iff.1 h
 rw [List.take_succ_eq_append_getElem hk]
theorem Arr.set {W : World} {g n : Nat} {C C' : Nat → Nat} (h : Arr W g n C) {f : Nat} {z : Int} (hf : z = (C' f : Int)) (ho : ∀ x,x ≠ f → C' x = C x) : Arr (W.setCell ⟨g,f,none⟩ (.int .i64 z)) g n C':=by
 intro x hx
 obtain ⟨h1,h2⟩:=h x hx
 rw [World.frozen?_setCell]
 refine ⟨?_,h2⟩
 by_cases e : x = f
 ·subst e
  rw [World.cell?_setCell_same' _ _ _ (by rw [h1];rfl),hf]
 ·rw [World.cell?_setCell_other _ _ _ _ (by intro hh;injection hh with _ h3;exact e h3.symm),h1,ho x e]
theorem Arr.drew {W : World} {g n : Nat} {C : Nat → Nat} (h : Arr W g n C) : Arr W.drew g n C:=h
theorem Arr.alloc {W : World} {g n : Nat} {C : Nat → Nat} (h : Arr W g n C) (o : Obj) : Arr (W.alloc o) g n C:=by
 intro x hx
 obtain ⟨h1,h2⟩:=h x hx
 have hb : (W.alloc o).heap[g]? = W.heap[g]?:=Below.heap_alloc W o g (block_lt_of_cell (a:=⟨g,x,none⟩) h1)
 exact ⟨(World.cell?_of_block (w:=W) (a:=⟨g,x,none⟩) hb).trans h1,(World.frozen?_of_block (w:=W) (a:=⟨g,x,none⟩) hb).trans h2⟩
theorem Arr.ext {W : World} {g n : Nat} {C C' : Nat → Nat} (h : Arr W g n C) (he : ∀ x,C' x = C x) : Arr W g n C':=fun x hx=>by rw [he x];exact h x hx
end Go.Proofs.YtkmakliebhnhbaaGreat
namespace Go.Proofs.YtkmakliebhnhbaaGreat
open Go.RowKit
structure Ev where
 w : Int
 r : Int
 n : Int
def Ev.vals (e : Ev) : List Value:=[.int .i64 e.w,.int .i64 e.r,.int .i64 e.n]
def evCells (l : List Ev) : List Value:=l.flatMap Ev.vals
def numZ (i : Ins) (x : Int) : Int:=wrap64 (i.k + wrap64 (i.l * x))
theorem wrap_i64' (n : Int) : IntKind.i64.wrap n = wrap64 n:=by simp only [IntKind.wrap_i64,wrap64]
theorem numZ_wrap (i : Ins) (x : Int) : numZ i x = IntKind.i64.wrap (i.k + IntKind.i64.wrap (i.l * x)):=by rw [wrap_i64',wrap_i64',numZ]
def oneZ (sub : Nat → Int → Int → List Ev) (x h r : Int) (i : Ins) : List Ev :=
 if i.op = 1 then [⟨0,i.r,numZ i x⟩]
 else if i.op = 2 then [⟨0,i.r,drawnZ h r i.k⟩]
 else if i.op = 3 ∨ i.op = 4 then sub i.f.toNat (numZ i x) (stepZ h r)
 else []
def rankZ (r : Int) (i : Ins) : Int:=if i.op = 1 then r else r + 1
def serL (sub : Nat → Int → Int → List Ev) (x h : Int) : Int → List Ins → List Ev
 | _,[]=>[]
 | r,i :: t=>oneZ sub x h r i ++ serL sub x h (rankZ r i) t
def rankL : Int → List Ins → Int
 | r,[]=>r
 | r,i :: t=>rankL (rankZ r i) t
def ser (fs : List (List Ins)) : Nat → Nat → Int → Int → List Ev
 | 0,_,_,_=>[]
 | d + 1,f,x,h=>serL (ser fs d) x h 0 (fs[f]?.getD [])
theorem serL_snoc (sub : Nat → Int → Int → List Ev) (x h : Int) (l : List Ins) (i : Ins) : ∀ r,serL sub x h r (l ++ [i]) = serL sub x h r l ++ oneZ sub x h (rankL r l) i:=by
 induction l with
 | nil=>intro r;simp [serL,rankL]
 | cons j t ih=>intro r;simp [serL,rankL,ih]
theorem rankL_snoc (l : List Ins) (i : Ins) : ∀ r,rankL r (l ++ [i]) = rankZ (rankL r l) i:=by
 induction l with
 | nil=>intro r;simp [rankL]
 | cons j t ih=>intro r;simp [rankL,ih]
theorem rankL_bd (l : List Ins) : ∀ r,0 ≤ r → 0 ≤ rankL r l ∧ rankL r l ≤ r + l.length:=by
 induction l with
 | nil=>intro r h;simp [rankL];omega
 | cons j t ih =>
  intro r h
  have hr : r ≤ rankZ r j ∧ rankZ r j ≤ r + 1:=by unfold rankZ;split <;> omega
  have:=ih (rankZ r j) (by omega)
  simp only [rankL,List.length_cons]
  omega
theorem oneZ_len {sub : Nat → Int → Int → List Ev} {B : Nat} (hB : 1 ≤ B) (hs : ∀ f x h,(sub f x h).length ≤ B) (x h r : Int) (i : Ins) : (oneZ sub x h r i).length ≤ B:=by
 unfold oneZ
 split
 ·simpa using hB
 ·split
  ·simpa using hB
  ·split
   ·exact hs _ _ _
   ·simp
theorem serL_len {sub : Nat → Int → Int → List Ev} {B : Nat} (hB : 1 ≤ B) (hs : ∀ f x h,(sub f x h).length ≤ B) (x h : Int) (l : List Ins) : ∀ r,(serL sub x h r l).length ≤ l.length * B:=by
 induction l with
 | nil=>intro r;simp [serL]
 | cons j t ih =>
  intro r
  have h1:=oneZ_len hB hs x h r j
  have h2:=ih (rankZ r j)
  simp only [serL,List.length_append,List.length_cons,Nat.add_mul,Nat.one_mul]
  omega
theorem ser_len {fs : List (List Ins)} (hl : ∀ l ∈ fs,l.length ≤ 10) : ∀ d f x h,(ser fs d f x h).length ≤ 10 ^ d
 | 0,f,x,h=>by simp [ser]
 | d + 1,f,x,h=>by
  have h1:=serL_len (B:=10 ^ d) (Nat.one_le_pow _ _ (by omega)) (ser_len hl d) x h (fs[f]?.getD []) 0
  have h2 : (fs[f]?.getD []).length ≤ 10:=by
   cases hf : fs[f]? with
   | none=>simp
   | some l=>exact hl l (List.mem_of_getElem? hf)
  have h3:=Nat.mul_le_mul_right (10 ^ d) h2
  simp only [ser]
  rw [Nat.pow_succ,Nat.mul_comm]
  omega
theorem evCells_append (a b : List Ev) : evCells (a ++ b) = evCells a ++ evCells b:=by simp [evCells]
theorem evCells_one (l : List Ev) : ∀ u ∈ evCells l,u.oneCell' = true:=by
 intro u hu
 obtain ⟨e,_,he⟩:=List.mem_flatMap.1 hu
 simp only [Ev.vals,List.mem_cons,List.not_mem_nil,or_false] at he
 rcases he with rfl | rfl | rfl <;> rfl
theorem serL_take {sub : Nat → Int → Int → List Ev} {x h r : Int} {l : List Ins} {k : Nat} {i : Ins} (hi : l[k]? = some i) : serL sub x h r (l.take (k + 1)) = serL sub x h r (l.take k) ++ oneZ sub x h (rankL r (l.take k)) i:=by
 rw [take_succ_of hi,serL_snoc]
theorem rankL_take {r : Int} {l : List Ins} {k : Nat} {i : Ins} (hi : l[k]? = some i) : rankL r (l.take (k + 1)) = rankZ (rankL r (l.take k)) i:=by
 rw [take_succ_of hi,rankL_snoc]
end Go.Proofs.YtkmakliebhnhbaaGreat
