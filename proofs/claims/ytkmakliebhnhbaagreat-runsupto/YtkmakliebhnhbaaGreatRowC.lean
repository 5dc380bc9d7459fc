import Derived.Deep.Slices
import Derived.Test.YtkmakliebhnhbaaGreatSer
import Derived.Test.YtkmakliebhnhbaaGreatSmAt
namespace Go.Proofs.YtkmakliebhnhbaaGreat
open Go.RowKit Go.Deep Go.WideShapes
section
variable {H : Type} {en : TypeId × Value → H} {P : Program} {w : World} {base : Nat} {spare : Nat → Bool} {held : Bool}
theorem open_rd {α : Type} {enc : α → List Value} {good : α → DataW H → Prop} {t e : TypeId} {s fuel : Nat} {cs : List Value} {x : DataW H × List MemPlace} (ht : P.underlying t = some (.slice e)) (hs : P.cellsOf e = s) (hs0 : 0 < s)
  (dec : ∀ n cs' y,cs'.length = s → DataW.trod en P w base spare held n e cs' = some y → ∃ a,cs' = enc a ∧ good a y.1) (h : DataW.trod en P w base spare held fuel t cs = some x) :
  ∃ v l,cs = [v] ∧ RdL (fun _=>True) w s enc v l ∧ ((x.1 = .nil ∧ l = []) ∨ ∃ ds sp,x.1 = .slice ds sp ∧ ds.length = l.length ∧ ∀ (k : Nat) (a : α),l[k]? = some a → ∃ d,ds[k]? = some d ∧ good a d):=by
 rcases open_slice ht h with ⟨rfl,rfl⟩ | ⟨a,len,cap,m,n,D,Pl,rfl,hb,hl,hm,hmm,rfl,hx⟩
 ·exact ⟨_,[],rfl,⟨none,0,rfl,by simp,by unfold maxLen;omega,.inl ⟨rfl,fun _=>rfl⟩⟩,.inl ⟨rfl,rfl⟩⟩
 have hlm : len ≤ m:=by rw [hmm];split <;> omega
 rw [hs] at hx
 have each : ∀ i,i < len → ∃ q : α,w.cells? base (a.add (i * s)) s = some (enc q) ∧ (enc q).length = s ∧ good q (D i):=by
  intro i hi
  obtain ⟨cs',h1,h2⟩:=hx i (by omega)
  obtain ⟨_,hlen,hcell⟩:=World.cells?_some h1
  obtain ⟨q,rfl,hg⟩:=dec n cs' _ hlen h2
  exact ⟨q,h1,hlen,hg⟩
 obtain ⟨b,off,spot⟩:=a
 by_cases h0 : len = 0
 ·subst h0
  exact ⟨_,[],rfl,⟨_,cap,rfl,by simp,hm,.inl ⟨rfl,fun h=>by cases h⟩⟩,.inr ⟨_,_,rfl,rfl,fun k q hk=>by simp at hk⟩⟩
 obtain ⟨q0,hq0,_⟩:=each 0 (by omega)
 haveI : Inhabited α:=⟨q0⟩
 obtain ⟨q,hq⟩:=choose_lt each
 obtain rfl : spot = none:=by
  obtain ⟨_,hlen,hcell⟩:=World.cells?_some hq0
  have h1:=hcell 0 hs0
  cases spot with
  | none=>rfl
  | some z =>
   exfalso
   have h2 : (enc q0)[0]? ≠ none:=by rw [List.getElem?_eq_getElem (by omega)];simp
   apply h2
   rw [← h1]
   simp [World.cell?,Addr.add]
   split <;> simp
 refine ⟨_,(List.range len).map q,rfl,⟨_,cap,by simp,by simpa using hl,hm,.inr ⟨b,off,rfl,trivial,fun k y hk j u hu=>?_⟩⟩,.inr ⟨_,_,rfl,by simp,fun k y hk=>?_⟩⟩
 ·have hk' : k < len:=by have:=(List.getElem?_eq_some_iff.1 hk).1;simpa using this
  rw [List.getElem?_map,List.getElem?_range hk'] at hk
  simp at hk
  subst hk
  obtain ⟨_,hlen,hcell⟩:=World.cells?_some (hq k hk').1
  have hj : j < s:=by have:=(List.getElem?_eq_some_iff.1 hu).1;omega
  have h1:=hcell j hj
  rw [add_add,add_plain,← Nat.add_assoc] at h1
  rw [h1]
  exact hu
 ·have hk' : k < len:=by have:=(List.getElem?_eq_some_iff.1 hk).1;simpa using this
  rw [List.getElem?_map,List.getElem?_range hk'] at hk
  simp at hk
  subst hk
  exact ⟨D k,by rw [List.getElem?_map,List.getElem?_range hk'];rfl,(hq k hk').2.2⟩
end
end Go.Proofs.YtkmakliebhnhbaaGreat
namespace Go.Proofs.YtkmakliebhnhbaaGreat
open Go.RowKit Go.Deep Go.WideShapes
theorem cells_int : Tryz.prog.cellsOf 3 = 1:=by kernel_rfl
theorem cells_int64 : Tryz.prog.cellsOf 2 = 1:=by kernel_rfl
theorem cells_uint64 : Tryz.prog.cellsOf 31 = 1:=by kernel_rfl
theorem cells_ins : Tryz.prog.cellsOf 45 = 5:=by kernel_rfl
theorem cells_lins : Tryz.prog.cellsOf 46 = 1:=by kernel_rfl
theorem cells_llins : Tryz.prog.cellsOf 29 = 1:=by kernel_rfl
theorem cells_lint : Tryz.prog.cellsOf 30 = 1:=by kernel_rfl
theorem cells_lpick : Tryz.prog.cellsOf 28 = 1:=by kernel_rfl
theorem cells_op : Tryz.prog.cellsOf 33 = 8:=by kernel_rfl
theorem wf_i64 {n : Int} (h : (Lit.int .i64 n).wf = true) : i64 n:=by
 have h1 : (decide (IntKind.i64.min ≤ n) && decide (n ≤ IntKind.i64.max)) = true:=h
 rw [Bool.and_eq_true,decide_eq_true_eq,decide_eq_true_eq] at h1
 exact h1
theorem wf_u64 {n : Int} (h : (Lit.int .u64 n).wf = true) : u64 n:=by
 have h1 : (decide (IntKind.u64.min ≤ n) && decide (n ≤ IntKind.u64.max)) = true:=h
 rw [Bool.and_eq_true,decide_eq_true_eq,decide_eq_true_eq] at h1
 have h2 : IntKind.u64.max = 18446744073709551615:=by kernel_rfl
 have h3 : IntKind.u64.min = 0:=by kernel_rfl
 rw [h2,h3] at h1
 unfold u64
 omega
section
variable {H : Type} {en : TypeId × Value → H} {w : World} {base : Nat} {spare : Nat → Bool} {held : Bool}
theorem dec_int : ∀ n cs' (y : DataW H × List MemPlace),cs'.length = 1 → DataW.trod en Tryz.prog w base spare held n 3 cs' = some y → ∃ a,cs' = int64s a ∧ (fun (a : Int) (_ : DataW H)=>i64 a) a y.1:=by
 intro n cs' y _ h
 obtain ⟨a,rfl,rfl,hw⟩:=DataW.trod_int Tryz.underlying3 h
 exact ⟨a,rfl,wf_i64 hw⟩
set_option maxRecDepth 100000 in
theorem dec_ins : ∀ n cs' (y : DataW H × List MemPlace),cs'.length = 5 → DataW.trod en Tryz.prog w base spare held n 45 cs' = some y → ∃ a : Ins,cs' = a.vals ∧ (fun (a : Ins) (_ : DataW H)=>a.wf) a y.1:=by
 intro n cs' y hl h
 obtain ⟨xs,m,_,_,_,hx,hf⟩:=DataW.trod_struct Tryz.underlying45 h
 match xs,hx,cs',hl with
 | [y0,y1,y2,y3,y4],_,[v0,v1,v2,v3,v4],_ =>
  have g0:=hf 0 _ rfl
  have g1:=hf 1 _ rfl
  have g2:=hf 2 _ rfl
  have g3:=hf 3 _ rfl
  have g4:=hf 4 _ rfl
  simp [cells_int,cells_int64] at g0 g1 g2 g3 g4
  obtain ⟨a0,e0,_,w0⟩:=DataW.trod_int Tryz.underlying3 g0
  obtain ⟨a1,e1,_,w1⟩:=DataW.trod_int Tryz.underlying3 g1
  obtain ⟨a2,e2,_,w2⟩:=DataW.trod_int Tryz.underlying3 g2
  obtain ⟨a3,e3,_,w3⟩:=DataW.trod_int Tryz.underlying2 g3
  obtain ⟨a4,e4,_,w4⟩:=DataW.trod_int Tryz.underlying2 g4
  cases e0
  cases e1
  cases e2
  cases e3
  cases e4
  exact ⟨⟨a0,a1,a2,a3,a4⟩,rfl,wf_i64 w0,wf_i64 w1,wf_i64 w2,wf_i64 w3,wf_i64 w4⟩
end
end Go.Proofs.YtkmakliebhnhbaaGreat
namespace Go.Proofs.YtkmakliebhnhbaaGreat
open Go.RowKit Go.Deep Go.WideShapes
theorem bulk_one {H : Type} (d : DataW H) : 1 ≤ Rows.uptoBulk d:=by
 cases d with
 | lit l=>cases l <;> simp [Rows.uptoBulk]
 | nil=>simp [Rows.uptoBulk]
 | ptr d=>simp [Rows.uptoBulk]
 | slice elems spare=>simp [Rows.uptoBulk]
 | agg parts=>simp [Rows.uptoBulk]
 | iface t d=>simp [Rows.uptoBulk]
 | map entries=>simp [Rows.uptoBulk]
 | held h=>simp [Rows.uptoBulk]
theorem bulk_at {H : Type} : ∀ (l : List (DataW H)) (k : Nat) (d : DataW H),l[k]? = some d → Rows.uptoBulk d ≤ Rows.uptoBulkAll l
 | [],k,d,h=>by simp at h
 | x :: r,0,d,h=>by simp at h;subst h;simp only [Rows.uptoBulkAll];omega
 | x :: r,k + 1,d,h=>by
  have:=bulk_at r k d (by simpa using h)
  simp only [Rows.uptoBulkAll]
  omega
theorem bulk_len {H : Type} (c : Nat) : ∀ (l : List (DataW H)),(∀ d ∈ l,c ≤ Rows.uptoBulk d) → c * l.length ≤ Rows.uptoBulkAll l
 | [],_=>by simp
 | x :: r,h=>by
  have h1:=bulk_len c r (fun d hd=>h d (List.mem_cons_of_mem _ hd))
  have h2:=h x (List.mem_cons_self ..)
  simp only [Rows.uptoBulkAll,List.length_cons,Nat.mul_succ]
  omega
section
variable {H : Type} {en : TypeId × Value → H} {w : World} {base : Nat} {spare : Nat → Bool} {held : Bool}
theorem open_ints (n : Nat) (cs : List Value) (y : DataW H × List MemPlace) (h : DataW.trod en Tryz.prog w base spare held n 30 cs = some y) :
  ∃ v l,cs = [v] ∧ RdL (fun _=>True) w 1 int64s v l ∧ (∀ r ∈ l,i64 r) ∧ l.length ≤ Rows.uptoBulk y.1:=by
 obtain ⟨v,l,hv,hl,hh⟩:=open_rd (good:=fun (a : Int) (_ : DataW H)=>i64 a) (enc:=int64s) Tryz.underlying30 cells_int (by omega) dec_int h
 refine ⟨v,l,hv,hl,?_,?_⟩
 ·rcases hh with ⟨_,rfl⟩ | ⟨ds,sp,_,_,hk⟩
  ·simp
  ·intro r hr
   obtain ⟨k,hk'⟩:=List.getElem?_of_mem hr
   obtain ⟨d,_,hg⟩:=hk k r hk'
   exact hg
 ·rcases hh with ⟨_,rfl⟩ | ⟨ds,sp,e,hlen,hk⟩
  ·simp
  ·have:=bulk_len 1 ds (fun d _=>bulk_one d)
   rw [e]
   simp only [Rows.uptoBulk]
   omega
theorem dec_lins : ∀ n cs' (y : DataW H × List MemPlace),cs'.length = 1 → DataW.trod en Tryz.prog w base spare held n 46 cs' = some y →
  ∃ a,cs' = one a ∧ (fun (a : Value) (d : DataW H)=>∃ l,RdL (fun _=>True) w 5 Ins.vals a l ∧ (∀ i ∈ l,i.wf) ∧ l.length ≤ Rows.uptoBulk d) a y.1:=by
 intro n cs' y _ h
 obtain ⟨v,l,hv,hl,hh⟩:=open_rd (good:=fun (a : Ins) (_ : DataW H)=>a.wf) (enc:=Ins.vals) Tryz.underlying46 cells_ins (by omega) dec_ins h
 refine ⟨v,hv,l,hl,?_,?_⟩
 ·rcases hh with ⟨_,rfl⟩ | ⟨ds,sp,_,_,hk⟩
  ·simp
  ·intro r hr
   obtain ⟨k,hk'⟩:=List.getElem?_of_mem hr
   obtain ⟨d,_,hg⟩:=hk k r hk'
   exact hg
 ·rcases hh with ⟨_,rfl⟩ | ⟨ds,sp,e,hlen,hk⟩
  ·simp
  ·have:=bulk_len 1 ds (fun d _=>bulk_one d)
   rw [e]
   simp only [Rows.uptoBulk]
   omega
theorem open_funcs (n : Nat) (cs : List Value) (y : DataW H × List MemPlace) (h : DataW.trod en Tryz.prog w base spare held n 29 cs = some y) :
  ∃ v fs,cs = [v] ∧ RdF (fun _=>True) w v fs ∧ FsWf fs ∧ fs.length ≤ Rows.uptoBulk y.1 ∧ ∀ l ∈ fs,l.length ≤ Rows.uptoBulk y.1:=by
 obtain ⟨v,us,hv,hl,hh⟩:=open_rd (good:=fun (a : Value) (d : DataW H)=>∃ l,RdL (fun _=>True) w 5 Ins.vals a l ∧ (∀ i ∈ l,i.wf) ∧ l.length ≤ Rows.uptoBulk d) (enc:=one) Tryz.underlying29 cells_lins (by omega) dec_lins h
 rcases hh with ⟨_,rfl⟩ | ⟨ds,sp,e,hlen,hk⟩
 ·exact ⟨v,[],hv,⟨[],rfl,hl,fun k u x hu=>by simp at hu⟩,fun l hl=>by simp at hl,by simp,by simp⟩
 have each : ∀ k,k < us.length → ∃ l : List Ins,∀ u,us[k]? = some u → RdL (fun _=>True) w 5 Ins.vals u l ∧ (∀ i ∈ l,i.wf) ∧ l.length ≤ Rows.uptoBulk y.1:=by
  intro k hk'
  obtain ⟨d,hd,l,h1,h2,h3⟩:=hk k us[k] (List.getElem?_eq_getElem hk')
  refine ⟨l,fun u hu=>?_⟩
  rw [List.getElem?_eq_getElem hk'] at hu
  cases hu
  have:=bulk_at ds k d hd
  exact ⟨h1,h2,by rw [e];simp only [Rows.uptoBulk];omega⟩
 obtain ⟨f,hf⟩:=choose_lt each
 have hmem : ∀ l ∈ (List.range us.length).map f,(∀ i ∈ l,i.wf) ∧ l.length ≤ Rows.uptoBulk y.1:=by
  intro l hl
  obtain ⟨k,hk',rfl⟩:=List.mem_map.1 hl
  have hk2:=List.mem_range.1 hk'
  exact (hf k hk2 _ (List.getElem?_eq_getElem hk2)).2
 refine ⟨v,(List.range us.length).map f,hv,⟨us,by simp,hl,fun k u x hu hx=>?_⟩,fun l hl=>(hmem l hl).1,?_,fun l hl=>(hmem l hl).2⟩
 ·have hk2:=(List.getElem?_eq_some_iff.1 hu).1
  rw [List.getElem?_map,List.getElem?_range hk2] at hx
  simp at hx
  subst hx
  exact (hf k hk2 u hu).1
 ·have:=bulk_len 1 ds (fun d _=>bulk_one d)
  rw [e]
  simp only [Rows.uptoBulk,List.length_map,List.length_range]
  omega
end
end Go.Proofs.YtkmakliebhnhbaaGreat
