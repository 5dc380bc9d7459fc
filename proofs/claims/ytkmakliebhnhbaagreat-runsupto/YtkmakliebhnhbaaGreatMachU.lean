import Derived.Test.YtkmakliebhnhbaaGreatMachN
namespace Go.Proofs.YtkmakliebhnhbaaGreat
open Go.RowKit
variable {fs : List (List Ins)} {nr : Nat} {T : List Ev}
def todoC (c : Ins → Nat) (s : St) : Nat:=(s.ts.map (fun t=>(t.rem.map c).sum)).sum
def hands (s : St) : Nat:=(s.ws.map (fun k=>if k.hand.isSome then 1 else 0)).sum
def stks (s : St) : Nat:=(s.ws.map (fun k=>k.stack.length)).sum
inductive Row (fs : List (List Ins)) : Rs → List Ins → List Ins → Nat → Nat → Nat → Nat → Nat → Nat → Nat → Prop
 | aside : Row fs .went [] [] 0 0 1 0 0 0 1
 | back : Row fs .went [] [] 1 0 0 0 0 0 0
 | pop : Row fs .went [] [] 1 0 0 0 1 0 0
 | join : Row fs .went [] [] 1 0 1 0 0 0 0
 | gave (i : Ins) (r n : Int) (p : Nat) (h : i.op = 1 ∨ i.op = 2) : Row fs (.gave r n p) [i] [] 0 0 0 0 0 0 0
 | ins (i : Ins) (h : ¬(i.op = 3 ∨ i.op = 4)) : Row fs .went [i] [] 0 0 0 0 0 0 0
 | spawn (i : Ins) (h : i.op = 3) : Row fs .went [i] (fs[i.f.toNat]?.getD []) 0 1 0 0 0 1 0
 | call (i : Ins) (h : i.op = 4) : Row fs .went [i] (fs[i.f.toNat]?.getD []) 0 1 0 0 0 0 0
 | stole : Row fs .stole [] [] 0 0 0 1 1 0 0
 | failed : Row fs .failed [] [] 0 0 0 0 0 0 0
structure Acc (fs : List (List Ins)) (nr : Nat) (s s' : St) (L L' : List Th) (r : Rs) (a : Nat) : Prop where
 row : ∃ used born ml mp hl hp kl kp,Row fs r used born ml mp hl hp kl kp a ∧ (∀ i ∈ used,∃ f : Nat,mayB fs.length nr f i = true) ∧ (∀ c : Ins → Nat,todoC c s' + (used.map c).sum = todoC c s + (born.map c).sum) ∧ mass L' + ml = mass L + mp ∧ hands s' + hl = hands s + hp ∧ stks s' + kl = stks s + kp
end Go.Proofs.YtkmakliebhnhbaaGreat
namespace Go.Proofs.YtkmakliebhnhbaaGreat
open Go.RowKit
def priceC (own : Ins → Nat) (sub : Nat → Nat) (i : Ins) : Nat:=own i + if i.op = 3 ∨ i.op = 4 then sub i.f.toNat else 0
def wfC (fs : List (List Ins)) (own : Ins → Nat) : Nat → Nat → Nat
 | 0,_=>0
 | d + 1,f=>((fs[f]?.getD []).map (priceC own (wfC fs own d))).sum
def left (fs : List (List Ins)) (own : Ins → Nat) (s : St) : Nat:=todoC (priceC own (wfC fs own fs.length)) s
def workO (i : Ins) : Nat:=if i.op = 3 ∨ i.op = 4 then 2 else 1
def spawnO (i : Ins) : Nat:=if i.op = 3 then 1 else 0
variable {fs : List (List Ins)} {nr : Nat} {T : List Ev}
section
variable {workers : Nat} {script : List (Int × Int)} {seed x : Int}
end
end Go.Proofs.YtkmakliebhnhbaaGreat
namespace Go.Proofs.YtkmakliebhnhbaaGreat
open Go.RowKit
section
variable {fs : List (List Ins)} {workers : Nat} {script : List (Int × Int)} {seed x : Int}
def Ev.rn (e : Ev) : Int × Int:=(e.r,e.n)
end
end Go.Proofs.YtkmakliebhnhbaaGreat
namespace Go.Proofs.YtkmakliebhnhbaaGreat
open Go.RowKit
variable {fs : List (List Ins)} {nr : Nat} {T : List Ev}
def spanM (fs : List (List Ins)) (s : St) (ms : List Nat) : List Nat:=(ms.map (fun i=>span fs (s.t i))).flatten
structure Alone (fs : List (List Ins)) (T : List Ev) (s : St) (ms : List Nat) (g : Nat) : Prop where
 thr : Thr s [(some 0,ms)]
 ahead : spanM fs s ms = List.range' g (T.length - g)
 le : g ≤ T.length
end Go.Proofs.YtkmakliebhnhbaaGreat
namespace Go.Proofs.YtkmakliebhnhbaaGreat
open Go.RowKit
variable {fs : List (List Ins)} {nr : Nat} {script : List (Int × Int)} {seed x : Int}
end Go.Proofs.YtkmakliebhnhbaaGreat
namespace Go.Proofs.YtkmakliebhnhbaaGreat
open Go.RowKit
def TkBd (k n : Nat) (t : Tk) : Prop:=t.out ≤ k ∧ t.pl ≤ 100000000 * k ∧ (t.org ≠ .root → t.par < n)
def Bd (k : Nat) (s : St) : Prop:=∀ t ∈ s.ts,TkBd k s.ts.length t
theorem TkBd.up {k n n' : Nat} {t : Tk} (h : TkBd k n t) (hn : n ≤ n') : TkBd (k + 1) n' t:=⟨by have:=h.1;omega,by have:=h.2.1;omega,fun g=>Nat.lt_of_lt_of_le (h.2.2 g) hn⟩
theorem Bd.step {fs : List (List Ins)} (hg : ∀ f,gift fs f ≤ 100000000) {k : Nat} {s : St} {w v : Nat} (hs : Bd k s) (hh : ∀ a,(s.w w).hand = some a → a < s.ts.length) (hq : ∀ q ∈ (s.w v).stack,q < s.ts.length) (hp : ∀ a,(s.w w).hand = some a → (s.t a).org = .spawn → (s.t a).par < s.ts.length) : Bd (k + 1) (stepM fs s w v).1:=by
 have upd : ∀ (n : Nat) (ts : List Tk) (a : Nat) (t : Tk),s.ts.length ≤ n → TkBd (k + 1) n t → (∀ u ∈ ts,u ∈ s.ts) → ∀ u ∈ ts.set a t,TkBd (k + 1) n u:=fun n ts a t hn ht hsub u hu=>by
  rcases mem_set_of hu with h | h
  ·rw [h];exact ht
  ·exact (hs u (hsub u h)).up hn
 have sub : ∀ u ∈ s.ts,u ∈ s.ts:=fun _ h=>h
 unfold stepM
 cases hw : (s.w w).hand with
 | none =>
  simp only
  cases hv : (s.w v).stack with
  | nil=>exact fun t ht=>(hs t ht).up (Nat.le_refl _)
  | cons q rest =>
   have hb:=hs _ (St.t_mem (s:=s) (hq q (by rw [hv];exact List.mem_cons_self ..)))
   intro t ht
   have hl : ((((s.hand w (some q)).stk v rest).putT q { ((s.hand w (some q)).stk v rest).t q with out:=(((s.hand w (some q)).stk v rest).t q).out + 1 })).ts.length = s.ts.length:=by simp [St.putT,St.stk,St.hand,St.putW]
   have ht : t ∈ s.ts.set q { ((s.hand w (some q)).stk v rest).t q with out:=(((s.hand w (some q)).stk v rest).t q).out + 1 }:=ht
   rcases mem_set_of ht with h | h
   ·rw [h]
    exact ⟨by show (s.t q).out + 1 ≤ _;have:=hb.1;omega,(hb.up (Nat.le_refl _)).2.1,fun g=>by show (s.t q).par < _;rw [hl];exact hb.2.2 g⟩
   ·exact (hs t h).up (by rw [hl];exact Nat.le_refl _)
 | some a =>
  have ha:=hh a hw
  have hb:=hs _ (St.t_mem ha)
  have hb1:=hb.1
  have hb2:=hb.2.1
  have hb3:=hb.2.2
  simp only
  split
  ·intro t ht
   refine upd _ _ _ _ (by simp [St.putT,St.hand,St.putW]) ⟨by show (s.t a).out ≤ _;omega,by show (s.t a).pl ≤ _;omega,fun g=>by simpa [St.putT,St.hand,St.putW] using hb3 g⟩ sub t ht
  ·cases hr : (s.t a).rem with
   | nil =>
    simp only
    cases hor : (s.t a).org with
    | root=>exact fun t ht=>(hs t ht).up (Nat.le_refl _)
    | call=>exact fun t ht=>(hs t ht).up (Nat.le_refl _)
    | spawn =>
     simp only
     cases (s.w w).stack.getLast? with
     | some q=>exact fun t ht=>(hs t ht).up (Nat.le_refl _)
     | none =>
      have hpa:=hs _ (St.t_mem (hp a hw hor))
      have hp1:=hpa.1
      have hp2:=hpa.2.1
      simp only
      split
      ·intro t ht
       refine upd _ _ _ _ (by simp [St.putT,St.hand,St.putW]) ⟨by show (s.t (s.t a).par).out - 1 ≤ _;omega,by show (s.t (s.t a).par).pl ≤ _;omega,fun g=>by simpa [St.putT,St.hand,St.putW] using hpa.2.2 g⟩ sub t ht
      ·intro t ht
       refine upd _ _ _ _ (by simp [St.putT,St.hand,St.putW]) ⟨by show (s.t (s.t a).par).out - 1 ≤ _;omega,by show (s.t (s.t a).par).pl ≤ _;omega,fun g=>by simpa [St.putT,St.hand,St.putW] using hpa.2.2 g⟩ sub t ht
   | cons i rest =>
    simp only
    split
    ·intro t ht
     exact upd _ _ _ _ (by simp [St.putT]) ⟨by show (s.t a).out ≤ _;omega,by show (s.t a).pl + 1 ≤ _;omega,fun g=>by simpa [St.putT] using hb3 g⟩ sub t ht
    ·split
     ·intro t ht
      exact upd _ _ _ _ (by simp [St.putT]) ⟨by show (s.t a).out ≤ _;omega,by show (s.t a).pl + 1 ≤ _;omega,fun g=>by simpa [St.putT] using hb3 g⟩ sub t ht
     ·have hgi:=hg i.f.toNat
      split
      ·intro t ht
       rcases List.mem_append.1 ht with ht | ht
       ·exact upd _ _ _ _ (by simp [St.putT,St.hand,St.putW]) ⟨by show (s.t a).out ≤ _;omega,by show (s.t a).pl + _ ≤ _;omega,fun g=>by have:=hb3 g;simp [St.hand,St.putW];omega⟩ sub t ht
       ·rw [List.mem_singleton] at ht
        rw [ht]
        exact ⟨by show (0 : Int) ≤ _;omega,by show (s.t a).pl ≤ _;omega,fun _=>by show a < _;simp [St.hand,St.putW];omega⟩
      ·split
       ·intro t ht
        rcases List.mem_append.1 ht with ht | ht
        ·exact upd _ _ _ _ (by simp [St.putT,St.hand,St.putW]) ⟨by show (s.t a).out ≤ _;omega,by show (s.t a).pl + _ ≤ _;omega,fun g=>by have:=hb3 g;simp [St.hand,St.putW];omega⟩ sub t ht
        ·rw [List.mem_singleton] at ht
         rw [ht]
         exact ⟨by show (0 : Int) ≤ _;omega,by show (s.t a).pl ≤ _;omega,fun _=>by show a < _;simp [St.hand,St.putW];omega⟩
       ·intro t ht
        exact upd _ _ _ _ (by simp [St.putT]) ⟨by show (s.t a).out ≤ _;omega,by show (s.t a).pl ≤ _;omega,fun g=>by simpa [St.putT] using hb3 g⟩ sub t ht
structure Lean1 (fs : List (List Ins)) (nr : Nat) (s : St) (K : Nat) : Prop where
 ok : ∀ t ∈ s.ts,(t.f < fs.length ∧ (∀ i ∈ t.rem,mayB fs.length nr t.f i = true ∧ i.wf) ∧ t.rem.length + t.r.toNat ≤ 10 ∧ 0 ≤ t.r)
 hand : ∀ k a,(s.w k).hand = some a → a < s.ts.length
 stack : ∀ k,∀ q ∈ (s.w k).stack,q < s.ts.length
 pos : ∀ j,j < s.ts.length → 0 ≤ (s.t j).out
 join : ∀ w a,(s.w w).hand = some a → (s.t a).org = .spawn → (s.w w).stack = [] → 1 ≤ (s.t (s.t a).par).out
 par : ∀ i,i < s.ts.length → (s.t i).org ≠ .root → (s.t i).par < s.ts.length
 out : ∀ i,i < s.ts.length → (s.t i).out ≤ K
 pl : ∀ i,i < s.ts.length → (s.t i).pl ≤ 100000000 * K
 deep : ∀ k,(s.w k).stack.length ≤ K
theorem Inv.lean {fs : List (List Ins)} {nr : Nat} {T : List Ev} {workers : Nat} {s : St} {G : List Nat} {F K : Nat} (h : Inv fs nr T workers s G F) (hb : Bd K s) (hd : ∀ k,(s.w k).stack.length ≤ K) : Lean1 fs nr s K:=by
 obtain ⟨L,ht,_,_⟩:=h.thr
 have outside : ∀ k,s.ws.length ≤ k → s.w k = wk0:=fun k hk=>by unfold St.w;rw [List.getElem?_eq_none hk];rfl
 have hand : ∀ k a,(s.w k).hand = some a → k < s.ws.length:=fun k a ha=>by
  rcases Nat.lt_or_ge k s.ws.length with g | g
  ·exact g
  ·rw [outside k g] at ha;cases ha
 refine ⟨fun t ht'=>⟨(h.ok t ht').f,(h.ok t ht').rem,(h.ok t ht').len,(h.ok t ht').r0⟩,fun k a ha=>(ht.handed (hand k a ha)).1 a ha,ht.stacked,fun j hj=>ht.pos hj,fun w a ha hor hst=>?_,fun i hi g=>(hb _ (St.t_mem hi)).2.2 g,fun i hi=>(hb _ (St.t_mem hi)).1,fun i hi=>(hb _ (St.t_mem hi)).2.1,hd⟩
 have hwl:=hand w a ha
 have hpl:=(ht.handed hwl).2 a ha hor
 rcases ht.wk w hwl with ⟨b,m,g1,g2,g3⟩ | ⟨g1,_,_⟩
 ·rw [ha] at g2
  injection g2 with g2
  subst g2
  rw [hst] at g3
  have hs0 : stkOf s (a :: m) = []:=by
   have:=congrArg List.reverse g3
   simpa using this.symm
  cases m with
  | nil =>
   rw [ht.out _ hpl]
   have : 1 ≤ cnt s L (s.t a).par:=by
    obtain ⟨L1,L2,rfl⟩:=List.append_of_mem g1
    unfold cnt
    rw [List.map_append,List.map_cons,List.sum_append_nat,List.sum_cons]
    have : under s (s.t a).par (some w,[a]) = 1:=by
     unfold under
     simp only [botOf,St.org,hor,St.par,if_pos]
    omega
   omega
  | cons p m =>
   unfold stkOf at hs0
   simp only [St.org,hor] at hs0
   cases hs0
 ·rw [ha] at g1;cases g1
end Go.Proofs.YtkmakliebhnhbaaGreat
namespace Go.Proofs.YtkmakliebhnhbaaGreat
open Go.RowKit
theorem hand_stack (s : St) (i : Nat) (o : Option Nat) (k : Nat) : ((s.hand i o).w k).stack = (s.w k).stack:=by
 by_cases hi : i < s.ws.length
 ·rw [St.w_hand s o hi k]
  by_cases e : k = i
  ·subst e;rw [if_pos rfl]
  ·rw [if_neg e]
 ·unfold St.hand St.putW
  rw [List.set_eq_of_length_le (by omega)]
theorem stk_stack (s : St) (i : Nat) (l : List Nat) (k : Nat) {K : Nat} (h : (s.w k).stack.length ≤ K) (hl : l.length ≤ K) : ((s.stk i l).w k).stack.length ≤ K:=by
 by_cases hi : i < s.ws.length
 ·rw [St.w_stk s l hi k]
  by_cases e : k = i
  ·subst e;rw [if_pos rfl];exact hl
  ·rw [if_neg e];exact h
 ·unfold St.stk St.putW
  rw [List.set_eq_of_length_le (by omega)]
  exact h
theorem deep_step {fs : List (List Ins)} {s : St} {w v K : Nat} (h : ∀ k,(s.w k).stack.length ≤ K) (k : Nat) : ((stepM fs s w v).1.w k).stack.length ≤ K + 1:=by
 have hk:=h k
 have hw:=h w
 have hv:=h v
 unfold stepM
 cases hh : (s.w w).hand with
 | none =>
  simp only
  cases hs : (s.w v).stack with
  | nil=>exact Nat.le_succ_of_le hk
  | cons q rest =>
   rw [hs] at hv
   simp only [List.length_cons] at hv
   exact Nat.le_succ_of_le (stk_stack (s.hand w (some q)) v rest k (by rw [hand_stack];exact hk) (by omega))
 | some a =>
  simp only
  split
  ·show (((s.putT a _).hand w none).w k).stack.length ≤ _
   rw [hand_stack];exact Nat.le_succ_of_le hk
  ·cases hr : (s.t a).rem with
   | nil =>
    simp only
    cases hor : (s.t a).org with
    | root=>simp only;rw [hand_stack];exact Nat.le_succ_of_le hk
    | call=>simp only;rw [hand_stack];exact Nat.le_succ_of_le hk
    | spawn =>
     simp only
     cases hl : (s.w w).stack.getLast? with
     | some q=>exact Nat.le_succ_of_le (stk_stack (s.hand w (some q)) w _ k (by rw [hand_stack];exact hk) (by rw [List.length_dropLast];omega))
     | none =>
      simp only
      split
      ·show (((s.putT _ _).hand w _).w k).stack.length ≤ _
       rw [hand_stack];exact Nat.le_succ_of_le hk
      ·show (((s.putT _ _).hand w _).w k).stack.length ≤ _
       rw [hand_stack];exact Nat.le_succ_of_le hk
   | cons i rest =>
    simp only
    split
    ·exact Nat.le_succ_of_le hk
    ·split
     ·exact Nat.le_succ_of_le hk
     ·split
      ·rw [hand_stack]
       exact stk_stack (s.putT a _) w ((s.w w).stack ++ [a]) k (Nat.le_succ_of_le hk) (by simp;omega)
      ·split
       ·rw [hand_stack]
        exact Nat.le_succ_of_le hk
       ·exact Nat.le_succ_of_le hk
theorem Lean1.mono {fs : List (List Ins)} {nr : Nat} {s : St} {K K' : Nat} (h : Lean1 fs nr s K) (hK : K ≤ K') : Lean1 fs nr s K' :=
 ⟨h.ok,h.hand,h.stack,h.pos,h.join,h.par,fun i hi=>by have:=h.out i hi;omega,fun i hi=>by have:=h.pl i hi;omega,fun k=>by have:=h.deep k;omega⟩
section
variable {fs : List (List Ins)} {workers nr : Nat} {script : List (Int × Int)} {seed x : Int} {T : List Ev} {N F : Nat}
theorem lean_at (hg : ∀ f,gift fs f ≤ 100000000) (hw : 1 ≤ workers) (h : ∀ j,j ≤ N → Inv fs nr T workers (stAt fs workers script seed x j) (plAt fs workers script seed x j) F) : ∀ j,j ≤ N → Bd j (stAt fs workers script seed x j) ∧ ∀ k,((stAt fs workers script seed x j).w k).stack.length ≤ j
 | 0,_=>by
  refine ⟨fun t ht=>?_,fun k=>?_⟩
  ·have : t ∈ (start fs workers seed x).ts:=ht
   simp only [start,List.mem_singleton] at this
   subst this
   exact ⟨by simp,by simp,fun g=>absurd rfl g⟩
  ·show ((start fs workers seed x).w k).stack.length ≤ 0
   unfold start St.w
   cases k with
   | zero=>simp
   | succ k =>
    simp only [List.getElem?_cons_succ,List.getElem?_replicate]
    split <;> simp [wk0]
 | j + 1,hj=>by
  obtain ⟨hb,hd⟩:=lean_at hg hw h j (by omega)
  obtain ⟨L,ht,_,_⟩:=(h j (by omega)).thr
  have hlt:=turnM_lt hw script j
  have hws:=(h j (by omega)).ws
  rw [stAt_succ]
  refine ⟨hb.step hg (ht.handed (by rw [hws];exact hlt.1)).1 (ht.stacked _) (ht.handed (by rw [hws];exact hlt.1)).2,fun k=>deep_step hd k⟩
theorem lean_all (hg : ∀ f,gift fs f ≤ 100000000) (hw : 1 ≤ workers) (h : ∀ j,j ≤ N → Inv fs nr T workers (stAt fs workers script seed x j) (plAt fs workers script seed x j) F) (j : Nat) (hj : j ≤ N) : Lean1 fs nr (stAt fs workers script seed x j) N:=by
 obtain ⟨hb,hd⟩:=lean_at hg hw h j hj
 exact ((h j hj).lean hb hd).mono hj
theorem trAt_len (k : Nat) : (trAt fs workers script seed x k).length ≤ k:=by
 induction k with
 | zero=>simp [trAt]
 | succ k ih =>
  rw [trAt,List.length_append]
  have : ((rsAt fs workers script seed x k).ev (turnM workers script k).1).length ≤ 1:=by
   cases rsAt fs workers script seed x k <;> simp [Rs.ev]
  omega
theorem stealsAt_le (k : Nat) : stealsAt fs workers script seed x k ≤ k:=by
 induction k with
 | zero=>simp [stealsAt]
 | succ k ih =>
  rw [stealsAt]
  have : (rsAt fs workers script seed x k).steal ≤ 1:=by cases rsAt fs workers script seed x k <;> simp [Rs.steal]
  omega
theorem failsAt_le (k : Nat) : failsAt fs workers script seed x k ≤ k:=by
 induction k with
 | zero=>simp [failsAt]
 | succ k ih =>
  rw [failsAt]
  have : (rsAt fs workers script seed x k).fail ≤ 1:=by cases rsAt fs workers script seed x k <;> simp [Rs.fail]
  omega
end
end Go.Proofs.YtkmakliebhnhbaaGreat
