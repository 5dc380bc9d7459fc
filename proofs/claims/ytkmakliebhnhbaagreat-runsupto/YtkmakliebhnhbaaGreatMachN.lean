import Derived.Test.YtkmakliebhnhbaaGreatMsr
import Derived.Test.YtkmakliebhnhbaaGreatVals
namespace Go.Proofs.YtkmakliebhnhbaaGreat
open Go.RowKit
theorem serL_congr {sub sub' : Nat → Int → Int → List Ev} {n nr f : Nat} (x h : Int) (hs : ∀ g,f < g → ∀ y k,sub g y k = sub' g y k) : ∀ (l : List Ins) (r : Int),(∀ i ∈ l,mayB n nr f i = true) → serL sub x h r l = serL sub' x h r l
 | [],_,_=>rfl
 | i :: t,r,hl=>by
  simp only [serL]
  rw [serL_congr x h hs t _ (fun j hj=>hl j (List.mem_cons_of_mem _ hj))]
  congr 1
  unfold oneZ
  split
  ·rfl
  ·split
   ·rfl
   ·split
    ·rename_i h3
     obtain ⟨m,hm,hfm,_⟩:=mayB_begins (hl i (List.mem_cons_self ..)) (by unfold begins;simpa using h3)
     rw [hm,Int.toNat_natCast]
     exact hs m hfm _ _
    ·rfl
theorem ser_deep {fs : List (List Ins)} {nr : Nat} (hok : FsOk fs nr) : ∀ (d f : Nat) (x h : Int),fs.length ≤ f + d → ser fs (d + 1) f x h = ser fs d f x h
 | 0,f,x,h,hf=>by
  simp only [ser]
  rw [List.getElem?_eq_none (by omega)]
  rfl
 | d + 1,f,x,h,hf=>by
  rw [ser,ser]
  cases hl : fs[f]? with
  | none=>rfl
  | some l=>exact serL_congr x h (fun g hg y k=>ser_deep hok d g y k (by omega)) l 0 (fun i hi=>(hok f l hl i hi).1)
theorem oneZ_gifts {sub : Nat → Int → Int → List Ev} {C : Nat → Nat × Nat} {n nr f : Nat} (hs : ∀ g,f < g → g < n → ∀ y k,(sub g y k).length = (C g).2) (x h r : Int) (i : Ins) (hi : mayB n nr f i = true) (c : Nat × Nat) : (addS C c i).2 = c.2 + (oneZ sub x h r i).length:=by
 unfold addS oneZ
 by_cases h1 : i.op = 1
 ·simp [h1]
 ·by_cases h2 : i.op = 2
  ·simp [h2]
  ·rw [if_neg (by omega),if_neg h1,if_neg h2]
   by_cases h3 : i.op = 3 ∨ i.op = 4
   ·obtain ⟨m,hm,hfm,hmn⟩:=mayB_begins hi (by unfold begins;simpa using h3)
    rw [if_pos (by unfold begins;simpa using h3),if_pos h3,hm,Int.toNat_natCast]
    simp [hs m hfm hmn]
   ·rw [if_neg (by unfold begins;simpa using h3),if_neg h3]
    simp
theorem serL_gifts {sub : Nat → Int → Int → List Ev} {C : Nat → Nat × Nat} {n nr f : Nat} (hs : ∀ g,f < g → g < n → ∀ y k,(sub g y k).length = (C g).2) (x h : Int) : ∀ (l : List Ins) (r : Int) (c : Nat × Nat),(∀ i ∈ l,mayB n nr f i = true) → (l.foldl (addS C) c).2 = c.2 + (serL sub x h r l).length
 | [],_,_,_=>by simp [serL]
 | i :: t,r,c,hl=>by
  simp only [List.foldl_cons,serL,List.length_append]
  rw [serL_gifts hs x h t (rankZ r i) (addS C c i) (fun j hj=>hl j (List.mem_cons_of_mem _ hj)),oneZ_gifts (n:=n) (nr:=nr) (f:=f) hs x h r i (hl i (List.mem_cons_self ..)) c]
  omega
theorem sizeF_gifts {fs : List (List Ins)} {nr : Nat} (hok : FsOk fs nr) : ∀ (k f : Nat) (x h : Int) (d : Nat),k ≤ fs.length → fs.length - k ≤ f → f < fs.length → fs.length ≤ f + d → (ser fs d f x h).length = (sizeF fs k f).2
 | 0,f,_,_,_,_,h1,h2,_=>by omega
 | k + 1,f,x,h,d,hk,h1,h2,hd=>by
  obtain ⟨l,hl⟩ : ∃ l,fs[f]? = some l:=⟨_,List.getElem?_eq_getElem h2⟩
  by_cases hf : f = fs.length - 1 - k
  ·cases d with
   | zero=>omega
   | succ d =>
    rw [sizeF_step hf hl,if_pos rfl,ser,hl]
    have hsub : ∀ g,f < g → g < fs.length → ∀ y q,(ser fs d g y q).length = (sizeF fs k g).2:=fun g hg hgl y q=>sizeF_gifts hok k g y q d (by omega) (by omega) hgl (by omega)
    have:=serL_gifts (n:=fs.length) (nr:=nr) (f:=f) hsub x h l 0 (1,0) (fun i hi=>(hok f l hl i hi).1)
    simpa using this.symm
  ·have hne:=sizeF_step (fs:=fs) (k:=k) (f:=fs.length - 1 - k) (l:=fs[fs.length - 1 - k]'(by omega)) rfl (List.getElem?_eq_getElem (by omega)) f
   rw [hne,if_neg hf]
   exact sizeF_gifts hok k f x h d (by omega) (by omega) h2 hd
end Go.Proofs.YtkmakliebhnhbaaGreat
namespace Go.Proofs.YtkmakliebhnhbaaGreat
open Go.RowKit
inductive Org where
 | root
 | call
 | spawn
structure Tk where
 f : Nat
 x : Int
 h : Int
 r : Int
 rem : List Ins
 pl : Nat
 out : Int
 asd : Bool
 par : Nat
 org : Org
structure Wk where
 hand : Option Nat
 stack : List Nat
structure St where
 ts : List Tk
 ws : List Wk
def tk0 : Tk:=⟨0,0,0,0,[],0,0,false,0,.root⟩
def wk0 : Wk:=⟨none,[]⟩
def St.t (s : St) (i : Nat) : Tk:=s.ts[i]?.getD tk0
def St.w (s : St) (i : Nat) : Wk:=s.ws[i]?.getD wk0
def St.putT (s : St) (i : Nat) (t : Tk) : St:={ s with ts:=s.ts.set i t }
def St.putW (s : St) (i : Nat) (k : Wk) : St:={ s with ws:=s.ws.set i k }
def St.hand (s : St) (i : Nat) (o : Option Nat) : St:=s.putW i { s.w i with hand:=o }
def St.stk (s : St) (i : Nat) (l : List Nat) : St:=s.putW i { s.w i with stack:=l }
inductive Rs where
 | went
 | gave (r n : Int) (pl : Nat)
 | stole
 | failed
 | done
def kid (fs : List (List Ins)) (t : Tk) (par : Nat) (o : Org) (i : Ins) : Tk:=⟨i.f.toNat,numZ i t.x,stepZ t.h t.r,0,fs[i.f.toNat]?.getD [],t.pl,0,false,par,o⟩
def gift (fs : List (List Ins)) (f : Nat) : Nat:=(sizeF fs fs.length f).2
def waits (t : Tk) : Bool:=t.out != 0 && (match t.rem with
 | []=>true
 | i :: _=>i.op == 5)
def stepM (fs : List (List Ins)) (s : St) (w v : Nat) : St × Rs :=
 match (s.w w).hand with
 | none=>match (s.w v).stack with
  | []=>(s,.failed)
  | q :: rest =>
   let s1:=s.hand w (some q)
   let s2:=s1.stk v rest
   (s2.putT q { s2.t q with out:=(s2.t q).out + 1 },.stole)
 | some a =>
  let t:=s.t a
  if waits t then ((s.putT a { t with asd:=true }).hand w none,.went)
  else match t.rem with
   | []=>match t.org with
    | .root=>(s.hand w none,.done)
    | .call=>(s.hand w (some t.par),.went)
    | .spawn=>match (s.w w).stack.getLast? with
     | some q=>((s.hand w (some q)).stk w (s.w w).stack.dropLast,.went)
     | none =>
      let p:={ s.t t.par with out:=(s.t t.par).out - 1 }
      if p.out = 0 ∧ p.asd = true then ((s.putT t.par { p with asd:=false }).hand w (some t.par),.went)
      else ((s.putT t.par p).hand w none,.went)
   | i :: rest =>
    let t1:={ t with rem:=rest }
    if i.op = 1 then (s.putT a { t1 with pl:=t.pl + 1 },.gave i.r (numZ i t.x) t.pl)
    else if i.op = 2 then (s.putT a { t1 with pl:=t.pl + 1,r:=t.r + 1 },.gave i.r (drawnZ t.h t.r i.k) t.pl)
    else if i.op = 3 then (({ (s.putT a { t1 with r:=t.r + 1,pl:=t.pl + gift fs i.f.toNat }).stk w ((s.w w).stack ++ [a]) with ts:=(s.ts.set a { t1 with r:=t.r + 1,pl:=t.pl + gift fs i.f.toNat }) ++ [kid fs t a .spawn i] }).hand w (some s.ts.length),.went)
    else if i.op = 4 then ((({ s.putT a { t1 with r:=t.r + 1,pl:=t.pl + gift fs i.f.toNat } with ts:=(s.ts.set a { t1 with r:=t.r + 1,pl:=t.pl + gift fs i.f.toNat }) ++ [kid fs t a .call i] } : St)).hand w (some s.ts.length),.went)
    else (s.putT a { t1 with r:=t.r + 1 },.went)
def restM (n : Int) (workers : Nat) : Nat:=(if n < 0 then -(n + 1) else n).toNat % workers
def turnM (workers : Nat) (script : List (Int × Int)) (k : Nat) : Nat × Nat:=match script[k]? with
 | some p=>(restM p.1 workers,restM p.2 workers)
 | none=>((k - script.length) % workers,((k - script.length) % workers + 1 + (k - script.length) / workers) % workers)
def start (fs : List (List Ins)) (workers : Nat) (seed x : Int) : St:=⟨[⟨0,x,seed,0,fs[0]?.getD [],0,0,false,0,.root⟩],(⟨some 0,[]⟩ : Wk) :: List.replicate (workers - 1) wk0⟩
def runM (fs : List (List Ins)) (workers : Nat) (script : List (Int × Int)) (seed x : Int) : Nat → St × List Rs
 | 0=>(start fs workers seed x,[])
 | k + 1=>let p:=runM fs workers script seed x k;let q:=stepM fs p.1 (turnM workers script k).1 (turnM workers script k).2;(q.1,p.2 ++ [q.2])
structure TkOk (fs : List (List Ins)) (nr : Nat) (T : List Ev) (t : Tk) : Prop where
 f : t.f < fs.length
 rem : ∀ i ∈ t.rem,mayB fs.length nr t.f i = true ∧ i.wf
 len : t.rem.length + t.r.toNat ≤ 10
 r0 : 0 ≤ t.r
 pre : serL (ser fs fs.length) t.x t.h t.r t.rem <+: T.drop t.pl
theorem drop_more {α : Type} {T a b : List α} {k : Nat} (h : a ++ b <+: T.drop k) : b <+: T.drop (k + a.length):=by
 obtain ⟨c,hc⟩:=h
 refine ⟨c,?_⟩
 rw [← List.drop_drop,← hc,List.append_assoc,List.drop_left]
end Go.Proofs.YtkmakliebhnhbaaGreat
namespace Go.Proofs.YtkmakliebhnhbaaGreat
open Go.RowKit
@[simp] theorem St.hand_ts (s : St) (i : Nat) (o : Option Nat) : (s.hand i o).ts = s.ts:=rfl
@[simp] theorem St.stk_ts (s : St) (i : Nat) (l : List Nat) : (s.stk i l).ts = s.ts:=rfl
@[simp] theorem St.putW_ts (s : St) (i : Nat) (k : Wk) : (s.putW i k).ts = s.ts:=rfl
@[simp] theorem St.putT_ts (s : St) (i : Nat) (t : Tk) : (s.putT i t).ts = s.ts.set i t:=rfl
@[simp] theorem St.putT_ws (s : St) (i : Nat) (t : Tk) : (s.putT i t).ws = s.ws:=rfl
theorem St.t_hand (s : St) (i : Nat) (o : Option Nat) (j : Nat) : (s.hand i o).t j = s.t j:=rfl
theorem St.t_mem {s : St} {i : Nat} (h : i < s.ts.length) : s.t i ∈ s.ts:=by
 unfold St.t
 rw [List.getElem?_eq_getElem h]
 exact List.getElem_mem h
theorem mem_set_of {α : Type} {l : List α} {i : Nat} {x y : α} (h : y ∈ l.set i x) : y = x ∨ y ∈ l:=by
 rcases List.mem_or_eq_of_mem_set h with h | h
 ·exact .inr h
 ·exact .inl h
variable {fs : List (List Ins)} {nr : Nat} {T : List Ev}
theorem TkOk.out {t : Tk} (h : TkOk fs nr T t) (o : Int) (a : Bool) : TkOk fs nr T { t with out:=o,asd:=a }:=⟨h.f,h.rem,h.len,h.r0,h.pre⟩
theorem TkOk.give {t : Tk} {i : Ins} {rest : List Ins} {e : Ev} {r' : Int} (h : TkOk fs nr T t) (hr : t.rem = i :: rest) (hone : oneZ (ser fs fs.length) t.x t.h t.r i = [e]) (hrk : rankZ t.r i = r') : TkOk fs nr T { t with rem:=rest,pl:=t.pl + 1,r:=r' } ∧ T[t.pl]? = some e:=by
 have hp:=h.pre
 rw [hr] at hp
 simp only [serL] at hp
 rw [hone] at hp
 have hl:=h.len
 rw [hr,List.length_cons] at hl
 have hr0:=h.r0
 have hrr : r' = t.r ∨ r' = t.r + 1:=by rw [← hrk];unfold rankZ;split <;> simp
 refine ⟨⟨h.f,fun j hj=>h.rem j (by rw [hr];exact List.mem_cons_of_mem _ hj),by simp only;omega,by simp only;omega,?_⟩,?_⟩
 ·simp only
  rw [← hrk]
  exact drop_more (a:=[e]) hp
 ·obtain ⟨c,hc⟩:=hp
  have : (T.drop t.pl)[0]? = some e:=by rw [← hc];rfl
  rw [List.getElem?_drop] at this
  simpa using this
theorem TkOk.none {t : Tk} {i : Ins} {rest : List Ins} {r' : Int} (h : TkOk fs nr T t) (hr : t.rem = i :: rest) (hone : oneZ (ser fs fs.length) t.x t.h t.r i = []) (hrk : rankZ t.r i = r') : TkOk fs nr T { t with rem:=rest,r:=r' }:=by
 have hp:=h.pre
 rw [hr] at hp
 simp only [serL] at hp
 rw [hone] at hp
 have hl:=h.len
 rw [hr,List.length_cons] at hl
 have hr0:=h.r0
 have hrr : r' = t.r ∨ r' = t.r + 1:=by rw [← hrk];unfold rankZ;split <;> simp
 refine ⟨h.f,fun j hj=>h.rem j (by rw [hr];exact List.mem_cons_of_mem _ hj),by simp only;omega,by simp only;omega,?_⟩
 simp only
 rw [← hrk]
 exact hp
theorem gift_len (hok : FsOk fs nr) {g : Nat} (hg : g < fs.length) (y k : Int) : (ser fs fs.length g y k).length = gift fs g:=sizeF_gifts hok fs.length g y k fs.length (Nat.le_refl _) (by omega) hg (by omega)
theorem TkOk.child {t : Tk} {i : Ins} {rest : List Ins} {p : Nat} {o : Org} (hok : FsOk fs nr) (hl10 : ∀ l ∈ fs,l.length ≤ 10) (h : TkOk fs nr T t) (hr : t.rem = i :: rest) (hop : i.op = 3 ∨ i.op = 4) : TkOk fs nr T { t with rem:=rest,r:=t.r + 1,pl:=t.pl + gift fs i.f.toNat } ∧ TkOk fs nr T (kid fs t p o i):=by
 have hi:=h.rem i (by rw [hr];exact List.mem_cons_self ..)
 obtain ⟨m,hm,hfm,hmn⟩:=mayB_begins hi.1 (by unfold begins;simpa using hop)
 have hone : oneZ (ser fs fs.length) t.x t.h t.r i = ser fs fs.length m (numZ i t.x) (stepZ t.h t.r):=by
  unfold oneZ
  rw [if_neg (by omega),if_neg (by omega),if_pos hop,hm,Int.toNat_natCast]
 have hrk : rankZ t.r i = t.r + 1:=by unfold rankZ;rw [if_neg (by omega)]
 have hp:=h.pre
 rw [hr] at hp
 simp only [serL] at hp
 rw [hone,hrk] at hp
 have hl:=h.len
 rw [hr,List.length_cons] at hl
 have hr0:=h.r0
 obtain ⟨l,hlm⟩ : ∃ l,fs[m]? = some l:=⟨_,List.getElem?_eq_getElem hmn⟩
 have hml:=hl10 l (List.mem_of_getElem? hlm)
 refine ⟨⟨h.f,fun j hj=>h.rem j (by rw [hr];exact List.mem_cons_of_mem _ hj),by simp only;omega,by simp only;omega,?_⟩,⟨?_,?_,?_,?_,?_⟩⟩
 ·simp only
  have:=drop_more hp
  rw [gift_len hok hmn] at this
  rw [hm,Int.toNat_natCast]
  exact this
 ·simp only [kid];rw [hm,Int.toNat_natCast];exact hmn
 ·simp only [kid];rw [hm,Int.toNat_natCast,hlm];exact fun j hj=>hok m l hlm j hj
 ·simp only [kid];rw [hm,Int.toNat_natCast,hlm];simpa using hml
 ·simp [kid]
 ·simp only [kid]
  rw [hm,Int.toNat_natCast,hlm]
  have e : serL (ser fs fs.length) (numZ i t.x) (stepZ t.h t.r) 0 l = ser fs fs.length m (numZ i t.x) (stepZ t.h t.r):=by
   rw [← ser_deep hok fs.length m (numZ i t.x) (stepZ t.h t.r) (by omega),ser,hlm];rfl
  obtain ⟨c,hc⟩:=hp
  refine ⟨serL (ser fs fs.length) t.x t.h (t.r + 1) rest ++ c,?_⟩
  rw [← hc,List.append_assoc]
  simp only [Option.getD_some]
  rw [e]
theorem stepM_ok (hok : FsOk fs nr) (hl10 : ∀ l ∈ fs,l.length ≤ 10) {s : St} {w v : Nat} (hs : ∀ t ∈ s.ts,TkOk fs nr T t) (hh : ∀ a,(s.w w).hand = some a → a < s.ts.length) (hq : ∀ q ∈ (s.w v).stack,q < s.ts.length) (hp : ∀ a,(s.w w).hand = some a → (s.t a).org = .spawn → (s.t a).par < s.ts.length) :
  (∀ t ∈ (stepM fs s w v).1.ts,TkOk fs nr T t) ∧ ∀ r n p,(stepM fs s w v).2 = .gave r n p → T[p]? = some ⟨0,r,n⟩:=by
 unfold stepM
 cases hw : (s.w w).hand with
 | none =>
  simp only
  cases hv : (s.w v).stack with
  | nil=>exact ⟨hs,fun _ _ _ h=>by cases h⟩
  | cons q rest =>
   refine ⟨fun t ht=>?_,fun _ _ _ h=>by cases h⟩
   rcases mem_set_of ht with h | h
   ·rw [h];exact (hs _ (St.t_mem (s:=s) (hq q (by rw [hv];exact List.mem_cons_self ..)))).out _ _
   ·exact hs t h
 | some a =>
  have ha:=hh a hw
  have hta:=hs _ (St.t_mem ha)
  simp only
  split
  ·refine ⟨fun t ht=>?_,fun _ _ _ h=>by cases h⟩
   rcases mem_set_of ht with h | h
   ·rw [h];exact hta.out _ _
   ·exact hs t h
  ·cases hr : (s.t a).rem with
   | nil =>
    simp only
    cases hor : (s.t a).org with
    | root=>exact ⟨hs,fun _ _ _ h=>by cases h⟩
    | call=>exact ⟨hs,fun _ _ _ h=>by cases h⟩
    | spawn =>
     simp only
     cases (s.w w).stack.getLast? with
     | some q=>exact ⟨hs,fun _ _ _ h=>by cases h⟩
     | none =>
      have hpa:=hs _ (St.t_mem (hp a hw hor))
      simp only
      split
      ·refine ⟨fun t ht=>?_,fun _ _ _ h=>by cases h⟩
       rcases mem_set_of ht with h | h
       ·rw [h];exact hpa.out _ _
       ·exact hs t h
      ·refine ⟨fun t ht=>?_,fun _ _ _ h=>by cases h⟩
       rcases mem_set_of ht with h | h
       ·rw [h];exact hpa.out _ _
       ·exact hs t h
   | cons i rest =>
    simp only
    split
    ·rename_i h1
     obtain ⟨g1,g2⟩:=hta.give (r':=(s.t a).r) hr (e:=⟨0,i.r,numZ i (s.t a).x⟩) (by unfold oneZ;rw [if_pos h1]) (by unfold rankZ;rw [if_pos h1])
     refine ⟨fun t ht=>?_,fun r n p h=>by injection h with h1 h2 h3;subst h1 h2 h3;exact g2⟩
     rcases mem_set_of ht with h | h
     ·rw [h];exact g1
     ·exact hs t h
    ·rename_i h1
     split
     ·rename_i h2
      obtain ⟨g1,g2⟩:=hta.give (r':=(s.t a).r + 1) hr (e:=⟨0,i.r,drawnZ (s.t a).h (s.t a).r i.k⟩) (by unfold oneZ;rw [if_neg h1,if_pos h2]) (by unfold rankZ;rw [if_neg h1])
      refine ⟨fun t ht=>?_,fun r n p h=>by injection h with h1 h2 h3;subst h1 h2 h3;exact g2⟩
      rcases mem_set_of ht with h | h
      ·rw [h];exact g1
      ·exact hs t h
     ·rename_i h2
      split
      ·rename_i h3
       obtain ⟨g1,g2⟩:=hta.child (p:=a) (o:=.spawn) hok hl10 hr (.inl h3)
       refine ⟨fun t ht=>?_,fun _ _ _ h=>by cases h⟩
       rcases List.mem_append.1 ht with ht | ht
       ·rcases mem_set_of ht with h | h
        ·rw [h];exact g1
        ·exact hs t h
       ·rw [List.mem_singleton] at ht;rw [ht];exact g2
      ·rename_i h3
       split
       ·rename_i h4
        obtain ⟨g1,g2⟩:=hta.child (p:=a) (o:=.call) hok hl10 hr (.inr h4)
        refine ⟨fun t ht=>?_,fun _ _ _ h=>by cases h⟩
        rcases List.mem_append.1 ht with ht | ht
        ·rcases mem_set_of ht with h | h
         ·rw [h];exact g1
         ·exact hs t h
        ·rw [List.mem_singleton] at ht;rw [ht];exact g2
       ·rename_i h4
        refine ⟨fun t ht=>?_,fun _ _ _ h=>by cases h⟩
        rcases mem_set_of ht with h | h
        ·rw [h];exact hta.none hr (by unfold oneZ;rw [if_neg h1,if_neg h2,if_neg (by omega)]) (by unfold rankZ;rw [if_neg h1])
        ·exact hs t h
end Go.Proofs.YtkmakliebhnhbaaGreat
namespace Go.Proofs.YtkmakliebhnhbaaGreat
open Go.RowKit
def St.org (s : St) (i : Nat) : Org:=(s.t i).org
def St.par (s : St) (i : Nat) : Nat:=(s.t i).par
def Linked (s : St) : List Nat → Prop
 | []=>False
 | [b]=>b < s.ts.length ∧ (s.org b = .root ∨ s.org b = .spawn)
 | t :: p :: rest=>t < s.ts.length ∧ s.par t = p ∧ p < t ∧ s.org t ≠ .root ∧ Linked s (p :: rest)
def stkOf (s : St) : List Nat → List Nat
 | t :: p :: rest=>match s.org t with
  | .spawn=>p :: stkOf s (p :: rest)
  | _=>stkOf s (p :: rest)
 | _=>[]
def botOf : List Nat → Nat
 | []=>0
 | [b]=>b
 | _ :: p :: rest=>botOf (p :: rest)
abbrev Th:=Option Nat × List Nat
def under (s : St) (q : Nat) (th : Th) : Nat:=match s.org (botOf th.2) with
 | .spawn=>if s.par (botOf th.2) = q then 1 else 0
 | _=>0
def cnt (s : St) (L : List Th) (q : Nat) : Nat:=(L.map (under s q)).sum
def occ (L : List Th) (i : Nat) : Nat:=(L.map (fun th=>th.2.count i)).sum
structure Same (s s' : St) : Prop where
 len : s.ts.length ≤ s'.ts.length
 eq : ∀ i,i < s.ts.length → s'.org i = s.org i ∧ s'.par i = s.par i
theorem Linked.lt {s : St} : ∀ {ms : List Nat},Linked s ms → ∀ t ∈ ms,t < s.ts.length
 | [b],h,t,ht=>by rw [List.mem_singleton] at ht;rw [ht];exact h.1
 | t :: p :: rest,h,u,hu=>by
  rcases List.mem_cons.1 hu with rfl | hu
  ·exact h.1
  ·exact Linked.lt h.2.2.2.2 u hu
theorem Linked.same {s s' : St} (hs : Same s s') : ∀ {ms : List Nat},Linked s ms → Linked s' ms
 | [b],h=>⟨Nat.lt_of_lt_of_le h.1 hs.len,by rw [(hs.eq b h.1).1];exact h.2⟩
 | t :: p :: rest,h=>⟨Nat.lt_of_lt_of_le h.1 hs.len,by rw [(hs.eq t h.1).2];exact h.2.1,h.2.2.1,by rw [(hs.eq t h.1).1];exact h.2.2.2.1,Linked.same hs h.2.2.2.2⟩
theorem stkOf_same {s s' : St} (hs : Same s s') : ∀ {ms : List Nat},Linked s ms → stkOf s' ms = stkOf s ms
 | [b],_=>rfl
 | t :: p :: rest,h=>by
  simp only [stkOf]
  rw [(hs.eq t h.1).1,stkOf_same hs h.2.2.2.2]
theorem botOf_mem : ∀ {ms : List Nat},ms ≠ [] → botOf ms ∈ ms
 | [b],_=>by simp [botOf]
 | t :: p :: rest,_=>by simp only [botOf];exact List.mem_cons_of_mem _ (botOf_mem (by simp))
theorem Linked.ne {s : St} {ms : List Nat} (h : Linked s ms) : ms ≠ []:=fun e=>by rw [e] at h;exact h
theorem Linked.bot {s : St} : ∀ {ms : List Nat},Linked s ms → s.org (botOf ms) = .root ∨ s.org (botOf ms) = .spawn
 | [_],h=>h.2
 | _ :: _ :: _,h=>by simp only [botOf];exact Linked.bot h.2.2.2.2
theorem Linked.le {s : St} : ∀ {ms : List Nat},Linked s ms → ∀ t ∈ ms,botOf ms ≤ t
 | [b],_,t,ht=>by rw [List.mem_singleton] at ht;rw [ht];exact Nat.le_refl _
 | t :: p :: rest,h,u,hu=>by
  simp only [botOf]
  have hp:=Linked.le h.2.2.2.2 p (List.mem_cons_self ..)
  rcases List.mem_cons.1 hu with rfl | hu
  ·have:=h.2.2.1;omega
  ·exact Linked.le h.2.2.2.2 u hu
theorem Linked.cut {s : St} : ∀ {ms : List Nat} {l : List Nat} {q : Nat},Linked s ms → stkOf s ms = l ++ [q] → ∃ m1 m2,ms = m1 ++ q :: m2 ∧ Linked s m1 ∧ stkOf s m1 = l ∧ s.org (botOf m1) = .spawn ∧ s.par (botOf m1) = q ∧ Linked s (q :: m2) ∧ stkOf s (q :: m2) = [] ∧ botOf ms = botOf (q :: m2) ∧ q < botOf m1
 | [b],l,q,_,hs=>by
  have : l ++ [q] = []:=hs.symm
  simp at this
 | t :: p :: rest,l,q,h,hs=>by
  simp only [stkOf] at hs
  cases ho : s.org t with
  | root=>exact absurd ho h.2.2.2.1
  | call =>
   rw [ho] at hs
   simp only at hs
   obtain ⟨m1,m2,e1,e2,e3,e4,e5,e6,e7,e8,e9⟩:=Linked.cut h.2.2.2.2 hs
   cases m1 with
   | nil=>exact e2.elim
   | cons c m1 =>
    simp only [List.cons_append] at e1
    injection e1 with e1a e1b
    subst e1a
    refine ⟨t :: p :: m1,m2,by rw [e1b];rfl,⟨h.1,h.2.1,h.2.2.1,h.2.2.2.1,e2⟩,?_,by simpa [botOf] using e4,by simpa [botOf] using e5,e6,e7,by simpa [botOf] using e8,by simpa [botOf] using e9⟩
    simp only [stkOf]
    rw [ho]
    exact e3
  | spawn =>
   rw [ho] at hs
   simp only at hs
   cases l with
   | nil =>
    simp only [List.nil_append,List.cons.injEq] at hs
    obtain ⟨rfl,h0⟩:=hs
    exact ⟨[t],rest,rfl,⟨h.1,.inr ho⟩,rfl,ho,h.2.1,h.2.2.2.2,h0,rfl,h.2.2.1⟩
   | cons a l =>
    simp only [List.cons_append,List.cons.injEq] at hs
    obtain ⟨rfl,h0⟩:=hs
    obtain ⟨m1,m2,e1,e2,e3,e4,e5,e6,e7,e8,e9⟩:=Linked.cut h.2.2.2.2 h0
    cases m1 with
    | nil=>exact e2.elim
    | cons c m1 =>
     simp only [List.cons_append] at e1
     injection e1 with e1a e1b
     subst e1a
     refine ⟨t :: p :: m1,m2,by rw [e1b];rfl,⟨h.1,h.2.1,h.2.2.1,h.2.2.2.1,e2⟩,?_,by simpa [botOf] using e4,by simpa [botOf] using e5,e6,e7,by simpa [botOf] using e8,by simpa [botOf] using e9⟩
     simp only [stkOf]
     rw [ho]
     simp only
     rw [e3]
structure Thr (s : St) (L : List Th) : Prop where
 lnk : ∀ th ∈ L,Linked s th.2
 wk : ∀ w,w < s.ws.length → (∃ a m,(some w,a :: m) ∈ L ∧ (s.w w).hand = some a ∧ (s.w w).stack = (stkOf s (a :: m)).reverse) ∨ ((s.w w).hand = none ∧ (s.w w).stack = [] ∧ ∀ m,(some w,m) ∉ L)
 one : ∀ w m m',(some w,m) ∈ L → (some w,m') ∈ L → m = m'
 wl : ∀ w m,(some w,m) ∈ L → w < s.ws.length
 asd : ∀ a m,(none,a :: m) ∈ L → stkOf s (a :: m) = [] ∧ (s.t a).asd = true ∧ (s.t a).out ≠ 0
 asd' : ∀ q,q < s.ts.length → (s.t q).asd = true → ∃ m,(none,q :: m) ∈ L
 out : ∀ q,q < s.ts.length → (s.t q).out = cnt s L q
 occ1 : ∀ i,occ L i ≤ 1
 deep : ∀ th ∈ L,∀ m1 q m2,th.2 = m1 ++ q :: m2 → (s.t q).out ≠ 0 → stkOf s (q :: m2) = []
 ended : ∀ i,i < s.ts.length → occ L i = 0 → (s.t i).rem = []
 up : ∀ th ∈ L,s.org (botOf th.2) = .spawn → occ L (s.par (botOf th.2)) = 1 ∧ s.par (botOf th.2) < botOf th.2
 rt : ∀ i,i < s.ts.length → (s.org i = .root ↔ i = 0)
theorem occ_perm {L L' : List Th} (h : L.Perm L') (i : Nat) : occ L i = occ L' i:=(h.map _).sum_nat
theorem cnt_perm {s : St} {L L' : List Th} (h : L.Perm L') (q : Nat) : cnt s L q = cnt s L' q:=(h.map _).sum_nat
theorem Thr.perm {s : St} {L L' : List Th} (h : Thr s L) (hp : L.Perm L') : Thr s L':=by
 have hm : ∀ {th},th ∈ L' → th ∈ L:=fun h=>hp.mem_iff.2 h
 refine ⟨fun th ht=>h.lnk th (hm ht),fun w hw=>?_,fun w m m' h1 h2=>h.one w m m' (hm h1) (hm h2),fun w m h1=>h.wl w m (hm h1),fun a m h1=>h.asd a m (hm h1),fun q hq ha=>?_,fun q hq=>by rw [← cnt_perm hp];exact h.out q hq,fun i=>by rw [← occ_perm hp];exact h.occ1 i,fun th ht=>h.deep th (hm ht),fun i hi h0=>h.ended i hi (by rw [occ_perm hp];exact h0),fun th ht ho=>?_,h.rt⟩
 ·rcases h.wk w hw with ⟨a,m,h1,h2,h3⟩ | ⟨h1,h2,h3⟩
  ·exact .inl ⟨a,m,hp.mem_iff.1 h1,h2,h3⟩
  ·exact .inr ⟨h1,h2,fun m hmem=>h3 m (hm hmem)⟩
 ·obtain ⟨m,hmm⟩:=h.asd' q hq ha
  exact ⟨m,hp.mem_iff.1 hmm⟩
 ·have:=h.up th (hm ht) ho
  rw [← occ_perm hp];exact this
theorem front {th : Th} {L : List Th} (h : th ∈ L) : ∃ L0,L.Perm (th :: L0):=by
 obtain ⟨L1,L2,rfl⟩:=List.append_of_mem h
 exact ⟨L1 ++ L2,List.perm_middle⟩
end Go.Proofs.YtkmakliebhnhbaaGreat
namespace Go.Proofs.YtkmakliebhnhbaaGreat
open Go.RowKit
theorem St.w_putW (s : St) {i : Nat} (k : Wk) (hi : i < s.ws.length) (j : Nat) : (s.putW i k).w j = if j = i then k else s.w j:=by
 unfold St.w St.putW
 simp only [List.getElem?_set]
 by_cases e : i = j
 ·subst e;simp [hi]
 ·rw [if_neg e,if_neg (fun h=>e h.symm)]
theorem St.t_putT (s : St) {i : Nat} (t : Tk) (hi : i < s.ts.length) (j : Nat) : (s.putT i t).t j = if j = i then t else s.t j:=by
 unfold St.t St.putT
 simp only [List.getElem?_set]
 by_cases e : i = j
 ·subst e;simp [hi]
 ·rw [if_neg e,if_neg (fun h=>e h.symm)]
theorem St.w_hand (s : St) {i : Nat} (o : Option Nat) (hi : i < s.ws.length) (j : Nat) : (s.hand i o).w j = if j = i then ⟨o,(s.w i).stack⟩ else s.w j:=St.w_putW s _ hi j
theorem St.w_stk (s : St) {i : Nat} (l : List Nat) (hi : i < s.ws.length) (j : Nat) : (s.stk i l).w j = if j = i then ⟨(s.w i).hand,l⟩ else s.w j:=St.w_putW s _ hi j
@[simp] theorem St.putT_len (s : St) (i : Nat) (t : Tk) : (s.putT i t).ts.length = s.ts.length:=by simp
@[simp] theorem St.putT_wlen (s : St) (i : Nat) (t : Tk) : (s.putT i t).ws.length = s.ws.length:=rfl
@[simp] theorem St.hand_wlen (s : St) (i : Nat) (o : Option Nat) : (s.hand i o).ws.length = s.ws.length:=by simp [St.hand,St.putW]
@[simp] theorem St.stk_wlen (s : St) (i : Nat) (l : List Nat) : (s.stk i l).ws.length = s.ws.length:=by simp [St.stk,St.putW]
theorem St.w_putT (s : St) (i : Nat) (t : Tk) (j : Nat) : (s.putT i t).w j = s.w j:=rfl
theorem occ_cons (th : Th) (L : List Th) (i : Nat) : occ (th :: L) i = th.2.count i + occ L i:=by simp [occ]
theorem cnt_cons (s : St) (th : Th) (L : List Th) (q : Nat) : cnt s (th :: L) q = under s q th + cnt s L q:=by simp [cnt]
theorem occ_mem {L : List Th} {th : Th} {i : Nat} (h : th ∈ L) (hi : i ∈ th.2) : 1 ≤ occ L i:=by
 obtain ⟨L0,hp⟩:=front h
 rw [occ_perm hp,occ_cons]
 have:=List.count_pos_iff.2 hi
 omega
theorem occ_some {L : List Th} {i : Nat} (h : 1 ≤ occ L i) : ∃ th ∈ L,i ∈ th.2:=by
 induction L with
 | nil=>simp [occ] at h
 | cons th L ih =>
  rw [occ_cons] at h
  by_cases hc : 0 < th.2.count i
  ·exact ⟨th,List.mem_cons_self ..,List.count_pos_iff.1 hc⟩
  ·obtain ⟨th',h1,h2⟩:=ih (by omega)
   exact ⟨th',List.mem_cons_of_mem _ h1,h2⟩
theorem under_same {s s' : St} (hs : Same s s') {q : Nat} {th : Th} (h : Linked s th.2) : under s' q th = under s q th:=by
 have hb:=h.lt _ (botOf_mem h.ne)
 unfold under
 rw [(hs.eq _ hb).1,(hs.eq _ hb).2]
theorem cnt_same {s s' : St} (hs : Same s s') {L : List Th} (h : ∀ th ∈ L,Linked s th.2) (q : Nat) : cnt s' L q = cnt s L q:=by
 induction L with
 | nil=>rfl
 | cons th L ih=>rw [cnt_cons,cnt_cons,under_same hs (h th (List.mem_cons_self ..)),ih (fun t ht=>h t (List.mem_cons_of_mem _ ht))]
theorem same_put {s : St} {a : Nat} {t : Tk} (ha : a < s.ts.length) (h1 : t.org = (s.t a).org) (h2 : t.par = (s.t a).par) : Same s (s.putT a t) :=
 ⟨by simp,fun i _=>by
  unfold St.org St.par
  rw [St.t_putT s t ha]
  by_cases e : i = a
  ·subst e;rw [if_pos rfl];exact ⟨h1,h2⟩
  ·rw [if_neg e];exact ⟨rfl,rfl⟩⟩
theorem linked_suffix {s : St} : ∀ {m1 : List Nat} {q : Nat} {m2 : List Nat},Linked s (m1 ++ q :: m2) → Linked s (q :: m2)
 | [],_,_,hl=>hl
 | [_],_,_,hl=>hl.2.2.2.2
 | _ :: b :: m1,_,_,hl=>linked_suffix (m1:=b :: m1) hl.2.2.2.2
theorem Thr.doing {s : St} {L : List Th} {a : Nat} {t : Tk} (h : Thr s L) (ha : a < s.ts.length) (h1 : t.org = (s.t a).org) (h2 : t.par = (s.t a).par) (h3 : t.out = (s.t a).out) (h4 : t.asd = (s.t a).asd) (h5 : occ L a ≠ 0) : Thr (s.putT a t) L:=by
 have hs:=same_put ha h1 h2
 have hout : ∀ q,((s.putT a t).t q).out = (s.t q).out:=fun q=>by
  rw [St.t_putT s t ha];split
  ·rename_i e;rw [e];exact h3
  ·rfl
 have hasd : ∀ q,((s.putT a t).t q).asd = (s.t q).asd:=fun q=>by
  rw [St.t_putT s t ha];split
  ·rename_i e;rw [e];exact h4
  ·rfl
 refine ⟨fun th ht=>(h.lnk th ht).same hs,fun w hw=>?_,h.one,h.wl,fun b m hm=>?_,fun q hq hqa=>h.asd' q (by simpa using hq) (by rw [← hasd];exact hqa),fun q hq=>?_,h.occ1,fun th ht m1 q m2 he ho=>?_,fun i hi h0=>?_,fun th ht ho=>?_,fun i hi=>?_⟩
 ·rcases h.wk w hw with ⟨b,m,g1,g2,g3⟩ | g
  ·exact .inl ⟨b,m,g1,g2,by rw [stkOf_same hs (h.lnk _ g1)];exact g3⟩
  ·exact .inr g
 ·obtain ⟨g1,g2,g3⟩:=h.asd b m hm
  exact ⟨by rw [stkOf_same hs (h.lnk _ hm)];exact g1,by rw [hasd];exact g2,by rw [hout];exact g3⟩
 ·rw [hout,cnt_same hs h.lnk];exact h.out q (by simpa using hq)
 ·have hl:=h.lnk th ht
  rw [hout] at ho
  have g:=h.deep th ht m1 q m2 he ho
  have hsuf : Linked s (q :: m2):=by
   rw [he] at hl
   exact linked_suffix hl
  rw [stkOf_same hs hsuf];exact g
 ·have hne : i ≠ a:=fun e=>h5 (by rw [← e];exact h0)
  rw [St.t_putT s t ha,if_neg hne]
  exact h.ended i (by simpa using hi) h0
 ·have hb:=(h.lnk th ht).lt _ (botOf_mem (h.lnk th ht).ne)
  rw [(hs.eq _ hb).1] at ho
  rw [(hs.eq _ hb).2]
  exact h.up th ht ho
 ·rw [(hs.eq i (by simpa using hi)).1];exact h.rt i (by simpa using hi)
theorem Thr.worker {s s' : St} {L L' : List Th} (h : Thr s L) (hts : s'.ts = s.ts) (hwl : s'.ws.length = s.ws.length) (hlnk : ∀ th ∈ L',Linked s th.2)
  (hwk : ∀ w,w < s.ws.length → (∃ a m,(some w,a :: m) ∈ L' ∧ (s'.w w).hand = some a ∧ (s'.w w).stack = (stkOf s (a :: m)).reverse) ∨ ((s'.w w).hand = none ∧ (s'.w w).stack = [] ∧ ∀ m,(some w,m) ∉ L'))
  (hone : ∀ w m m',(some w,m) ∈ L' → (some w,m') ∈ L' → m = m') (hw : ∀ w m,(some w,m) ∈ L' → w < s.ws.length) (hasd : ∀ a m,(none,a :: m) ∈ L' ↔ (none,a :: m) ∈ L) (hcnt : ∀ q,cnt s L' q = cnt s L q) (hocc : ∀ i,occ L' i ≤ occ L i) (hend : ∀ i,i < s.ts.length → occ L' i < occ L i → (s.t i).rem = [])
  (hdeep : ∀ th ∈ L',∀ m1 q m2,th.2 = m1 ++ q :: m2 → ∃ th' ∈ L,∃ m1',th'.2 = m1' ++ q :: m2) (hup : ∀ th ∈ L',s.org (botOf th.2) = .spawn → occ L' (s.par (botOf th.2)) = 1 ∧ s.par (botOf th.2) < botOf th.2) : Thr s' L':=by
 have ht : ∀ i,s'.t i = s.t i:=fun i=>by unfold St.t;rw [hts]
 have ho : ∀ i,s'.org i = s.org i:=fun i=>by unfold St.org;rw [ht]
 have hp : ∀ i,s'.par i = s.par i:=fun i=>by unfold St.par;rw [ht]
 have hs : Same s s':=⟨by rw [hts];exact Nat.le_refl _,fun i _=>⟨ho i,hp i⟩⟩
 have hll : s'.ts.length = s.ts.length:=by rw [hts]
 refine ⟨fun th hm=>(hlnk th hm).same hs,fun w hw'=>?_,hone,fun w m hm=>by rw [hwl];exact hw w m hm,fun a m hm=>?_,fun q hq ha=>?_,fun q hq=>?_,fun i=>Nat.le_trans (hocc i) (h.occ1 i),fun th hm m1 q m2 he hq=>?_,fun i hi h0=>?_,fun th hm hb=>?_,fun i hi=>by rw [ho];exact h.rt i (by rw [← hll];exact hi)⟩
 ·rcases hwk w (by rw [← hwl];exact hw') with ⟨a,m,g1,g2,g3⟩ | g
  ·exact .inl ⟨a,m,g1,g2,by rw [stkOf_same hs (hlnk _ g1)];exact g3⟩
  ·exact .inr g
 ·obtain ⟨g1,g2,g3⟩:=h.asd a m ((hasd a m).1 hm)
  exact ⟨by rw [stkOf_same hs (hlnk _ hm)];exact g1,by rw [ht];exact g2,by rw [ht];exact g3⟩
 ·rw [ht] at ha
  obtain ⟨m,hm⟩:=h.asd' q (by rw [← hll];exact hq) ha
  exact ⟨m,(hasd q m).2 hm⟩
 ·rw [ht,cnt_same hs hlnk,hcnt];exact h.out q (by rw [← hll];exact hq)
 ·rw [ht] at hq
  obtain ⟨th',h1,m1',h2⟩:=hdeep th hm m1 q m2 he
  have hl:=hlnk th hm
  rw [he] at hl
  rw [stkOf_same hs (linked_suffix hl)]
  exact h.deep th' h1 m1' q m2 h2 hq
 ·rw [ht]
  by_cases hz : occ L i = 0
  ·exact h.ended i (by rw [← hll];exact hi) hz
  ·exact hend i (by rw [← hll];exact hi) (by omega)
 ·rw [ho] at hb
  rw [hp]
  exact hup th hm hb
theorem Thr.pop {s : St} {L0 : List Th} {w a p : Nat} {m : List Nat} (h : Thr s ((some w,a :: p :: m) :: L0)) (hr : (s.t a).rem = []) (ho : (s.t a).out = 0) (s' : St) (hts : s'.ts = s.ts) (hwl : s'.ws.length = s.ws.length) (hws : ∀ j,s'.w j = if j = w then ⟨some p,(stkOf s (p :: m)).reverse⟩ else s.w j) : Thr s' ((some w,p :: m) :: L0):=by
 have hlk:=h.lnk _ (List.mem_cons_self ..)
 have h0 : ∀ m',(some w,m') ∉ L0:=fun m' hm=>by
  have e:=h.one w _ m' (List.mem_cons_self ..) (List.mem_cons_of_mem _ hm)
  have o:=h.occ1 a
  rw [occ_cons] at o
  have o1 : 1 ≤ occ L0 a:=occ_mem hm (by rw [← e];exact List.mem_cons_self ..)
  simp at o
  omega
 refine h.worker hts hwl ?_ ?_ ?_ ?_ ?_ ?_ ?_ ?_ ?_ ?_
 ·intro th ht
  rcases List.mem_cons.1 ht with rfl | ht
  ·exact hlk.2.2.2.2
  ·exact h.lnk th (List.mem_cons_of_mem _ ht)
 ·intro j hj
  rw [hws j]
  by_cases e : j = w
  ·subst e;rw [if_pos rfl];exact .inl ⟨p,m,List.mem_cons_self ..,rfl,rfl⟩
  ·rw [if_neg e]
   rcases h.wk j hj with ⟨b,m',g1,g2,g3⟩ | ⟨g1,g2,g3⟩
   ·rcases List.mem_cons.1 g1 with g1 | g1
    ·injection g1 with g1 _;injection g1 with g1;exact absurd g1 e
    ·exact .inl ⟨b,m',List.mem_cons_of_mem _ g1,g2,g3⟩
   ·refine .inr ⟨g1,g2,fun m' hm=>?_⟩
    rcases List.mem_cons.1 hm with hm | hm
    ·injection hm with hm _;injection hm with hm;exact absurd hm e
    ·exact g3 m' (List.mem_cons_of_mem _ hm)
 ·intro j m1 m2 g1 g2
  rcases List.mem_cons.1 g1 with g1 | g1 <;> rcases List.mem_cons.1 g2 with g2 | g2
  ·cases g1;cases g2;rfl
  ·cases g1;exact absurd g2 (h0 _)
  ·cases g2;exact absurd g1 (h0 _)
  ·exact h.one j m1 m2 (List.mem_cons_of_mem _ g1) (List.mem_cons_of_mem _ g2)
 ·intro j m' g
  rcases List.mem_cons.1 g with g | g
  ·cases g;exact h.wl w _ (List.mem_cons_self ..)
  ·exact h.wl j m' (List.mem_cons_of_mem _ g)
 ·intro b m'
  simp
 ·intro q
  rw [cnt_cons,cnt_cons]
  rfl
 ·intro i
  simp only [occ_cons,List.count_cons]
  omega
 ·intro i hi hlt
  simp only [occ_cons,List.count_cons] at hlt
  by_cases e : a = i
  ·subst e;exact hr
  ·simp only [beq_iff_eq,e,if_false] at hlt;omega
 ·intro th ht m1 q m2 he
  rcases List.mem_cons.1 ht with rfl | ht
  ·exact ⟨_,List.mem_cons_self ..,a :: m1,by simp only at he ⊢;rw [he];rfl⟩
  ·exact ⟨th,List.mem_cons_of_mem _ ht,m1,he⟩
 ·intro th ht hb
  have key : ∀ th',th' ∈ (some w,a :: p :: m) :: L0 → s.org (botOf th'.2) = .spawn → th'.2 ≠ [] → occ ((some w,p :: m) :: L0) (s.par (botOf th'.2)) = 1 ∧ s.par (botOf th'.2) < botOf th'.2:=fun th' ht' hb' _=>by
   obtain ⟨g1,g2⟩:=h.up th' ht' hb'
   refine ⟨?_,g2⟩
   simp only [occ_cons,List.count_cons] at g1 ⊢
   by_cases e : a = s.par (botOf th'.2)
   ·exfalso
    have o:=h.out a (hlk.lt a (List.mem_cons_self ..))
    obtain ⟨L1,hp1⟩:=front ht'
    have hc : cnt s ((some w,a :: p :: m) :: L0) a = under s a th' + cnt s L1 a:=by rw [cnt_perm hp1,cnt_cons]
    have hu : under s a th' = 1:=by unfold under;rw [hb'];simp [e]
    rw [ho,hc,hu] at o
    omega
   ·simp only [beq_iff_eq,e,if_false,Nat.add_zero] at g1 ⊢;exact g1
  rcases List.mem_cons.1 ht with rfl | ht
  ·exact key (some w,a :: p :: m) (List.mem_cons_self ..) (by simpa [botOf] using hb) (by simp)
  ·exact key th (List.mem_cons_of_mem _ ht) hb (h.lnk th (List.mem_cons_of_mem _ ht)).ne
end Go.Proofs.YtkmakliebhnhbaaGreat
namespace Go.Proofs.YtkmakliebhnhbaaGreat
open Go.RowKit
theorem Thr.alone {s : St} {L0 : List Th} {w a : Nat} {m : List Nat} (h : Thr s ((some w,a :: m) :: L0)) : ∀ m',(some w,m') ∉ L0:=fun m' hm=>by
 have e:=h.one w _ m' (List.mem_cons_self ..) (List.mem_cons_of_mem _ hm)
 have o:=h.occ1 a
 rw [occ_cons] at o
 have o1 : 1 ≤ occ L0 a:=occ_mem hm (by rw [← e];exact List.mem_cons_self ..)
 simp at o
 omega
theorem Thr.hand {s : St} {L0 : List Th} {w a : Nat} {m : List Nat} (h : Thr s ((some w,a :: m) :: L0)) : (s.w w).hand = some a ∧ (s.w w).stack = (stkOf s (a :: m)).reverse:=by
 rcases h.wk w (h.wl w _ (List.mem_cons_self ..)) with ⟨b,m',g1,g2,g3⟩ | ⟨_,_,g3⟩
 ·have e:=h.one w _ _ (List.mem_cons_self ..) g1
  rw [← e] at g3
  injection e with e1 _
  exact ⟨by rw [g2,e1],g3⟩
 ·exact absurd (List.mem_cons_self ..) (g3 _)
structure Mild (s s' : St) : Prop where
 len : s'.ts.length = s.ts.length
 org : ∀ i,s'.org i = s.org i
 par : ∀ i,s'.par i = s.par i
 rem : ∀ i,(s'.t i).rem = (s.t i).rem
theorem Mild.same {s s' : St} (h : Mild s s') : Same s s':=⟨by rw [h.len];exact Nat.le_refl _,fun i _=>⟨h.org i,h.par i⟩⟩
theorem mild_put {s : St} {a : Nat} {t : Tk} (h1 : t.org = (s.t a).org) (h2 : t.par = (s.t a).par) (h3 : t.rem = (s.t a).rem) : Mild s (s.putT a t):=by
 have key : ∀ i,(s.putT a t).t i = s.t i ∨ ((s.putT a t).t i = t ∧ i = a):=fun i=>by
  by_cases ha : a < s.ts.length
  ·rw [St.t_putT s t ha]
   by_cases e : i = a
   ·rw [if_pos e];exact .inr ⟨rfl,e⟩
   ·rw [if_neg e];exact .inl rfl
  ·refine .inl ?_
   unfold St.t St.putT
   rw [List.set_eq_of_length_le (by omega)]
 refine ⟨by simp,fun i=>?_,fun i=>?_,fun i=>?_⟩
 ·unfold St.org;rcases key i with e | ⟨e,e2⟩ <;> rw [e];rw [e2];exact h1
 ·unfold St.par;rcases key i with e | ⟨e,e2⟩ <;> rw [e];rw [e2];exact h2
 ·rcases key i with e | ⟨e,e2⟩ <;> rw [e];rw [e2];exact h3
theorem Thr.mild {s s' : St} {L L' : List Th} (h : Thr s L) (hm : Mild s s') (hwl : s'.ws.length = s.ws.length) (hlnk : ∀ th ∈ L',Linked s th.2)
  (hwk : ∀ w,w < s.ws.length → (∃ a m,(some w,a :: m) ∈ L' ∧ (s'.w w).hand = some a ∧ (s'.w w).stack = (stkOf s (a :: m)).reverse) ∨ ((s'.w w).hand = none ∧ (s'.w w).stack = [] ∧ ∀ m,(some w,m) ∉ L'))
  (hone : ∀ w m m',(some w,m) ∈ L' → (some w,m') ∈ L' → m = m') (hw : ∀ w m,(some w,m) ∈ L' → w < s.ws.length)
  (hasd : ∀ a m,(none,a :: m) ∈ L' → stkOf s (a :: m) = [] ∧ (s'.t a).asd = true ∧ (s'.t a).out ≠ 0) (hasd' : ∀ q,q < s.ts.length → (s'.t q).asd = true → ∃ m,(none,q :: m) ∈ L')
  (hout : ∀ q,q < s.ts.length → (s'.t q).out = cnt s L' q) (hocc : ∀ i,occ L' i ≤ occ L i) (hend : ∀ i,i < s.ts.length → occ L' i < occ L i → (s.t i).rem = [])
  (hdeep : ∀ th ∈ L',∀ m1 q m2,th.2 = m1 ++ q :: m2 → (s'.t q).out ≠ 0 → stkOf s (q :: m2) = []) (hup : ∀ th ∈ L',s.org (botOf th.2) = .spawn → occ L' (s.par (botOf th.2)) = 1 ∧ s.par (botOf th.2) < botOf th.2) : Thr s' L':=by
 have hs:=hm.same
 refine ⟨fun th ht=>(hlnk th ht).same hs,fun w hw'=>?_,hone,fun w m hm'=>by rw [hwl];exact hw w m hm',fun a m hm'=>?_,fun q hq ha=>hasd' q (by rw [← hm.len];exact hq) ha,fun q hq=>?_,fun i=>Nat.le_trans (hocc i) (h.occ1 i),fun th ht m1 q m2 he hq=>?_,fun i hi h0=>?_,fun th ht hb=>?_,fun i hi=>by rw [hm.org];exact h.rt i (by rw [← hm.len];exact hi)⟩
 ·rcases hwk w (by rw [← hwl];exact hw') with ⟨a,m,g1,g2,g3⟩ | g
  ·exact .inl ⟨a,m,g1,g2,by rw [stkOf_same hs (hlnk _ g1)];exact g3⟩
  ·exact .inr g
 ·obtain ⟨g1,g2,g3⟩:=hasd a m hm'
  exact ⟨by rw [stkOf_same hs (hlnk _ hm')];exact g1,g2,g3⟩
 ·rw [cnt_same hs hlnk];exact hout q (by rw [← hm.len];exact hq)
 ·have hl:=hlnk th ht
  rw [he] at hl
  rw [stkOf_same hs (linked_suffix hl)]
  exact hdeep th ht m1 q m2 he hq
 ·rw [hm.rem]
  by_cases hz : occ L i = 0
  ·exact h.ended i (by rw [← hm.len];exact hi) hz
  ·exact hend i (by rw [← hm.len];exact hi) (by omega)
 ·rw [hm.org] at hb
  rw [hm.par]
  exact hup th ht hb
theorem Thr.aside {s : St} {L0 : List Th} {w a : Nat} {m : List Nat} (h : Thr s ((some w,a :: m) :: L0)) (ho : (s.t a).out ≠ 0) : Thr ((s.putT a { s.t a with asd:=true }).hand w none) ((none,a :: m) :: L0):=by
 have hw:=h.wl w _ (List.mem_cons_self ..)
 have hlk:=h.lnk _ (List.mem_cons_self ..)
 have ha:=hlk.lt a (List.mem_cons_self ..)
 have h0:=h.alone
 have hst:=h.deep _ (List.mem_cons_self ..) [] a m rfl ho
 have hh:=h.hand
 have hM:=mild_put (s:=s) (a:=a) (t:={ s.t a with asd:=true }) rfl rfl rfl
 have hM' : Mild s ((s.putT a { s.t a with asd:=true }).hand w none):=⟨hM.len,hM.org,hM.par,hM.rem⟩
 have ht : ∀ q,(((s.putT a { s.t a with asd:=true }).hand w none).t q) = if q = a then { s.t a with asd:=true } else s.t q:=fun q=>St.t_putT s _ ha q
 refine h.mild hM' (by simp) ?_ ?_ ?_ ?_ ?_ ?_ ?_ ?_ ?_ ?_ ?_
 ·intro th hm
  rcases List.mem_cons.1 hm with rfl | hm
  ·exact hlk
  ·exact h.lnk th (List.mem_cons_of_mem _ hm)
 ·intro j hj
  have hwj : ((s.putT a { s.t a with asd:=true }).hand w none).w j = if j = w then ⟨none,(s.w w).stack⟩ else s.w j:=St.w_hand (s.putT a { s.t a with asd:=true }) none hw j
  rw [hwj]
  by_cases e : j = w
  ·subst e
   rw [if_pos rfl]
   refine .inr ⟨rfl,by rw [hh.2,hst];rfl,fun m' hm=>?_⟩
   rcases List.mem_cons.1 hm with hm | hm
   ·cases hm
   ·exact h0 m' hm
  ·rw [if_neg e]
   rcases h.wk j hj with ⟨b,m',g1,g2,g3⟩ | ⟨g1,g2,g3⟩
   ·rcases List.mem_cons.1 g1 with g1 | g1
    ·injection g1 with g1 _;injection g1 with g1;exact absurd g1 e
    ·exact .inl ⟨b,m',List.mem_cons_of_mem _ g1,g2,g3⟩
   ·refine .inr ⟨g1,g2,fun m' hm=>?_⟩
    rcases List.mem_cons.1 hm with hm | hm
    ·cases hm
    ·exact g3 m' (List.mem_cons_of_mem _ hm)
 ·intro j m1 m2 g1 g2
  rcases List.mem_cons.1 g1 with g1 | g1
  ·cases g1
  ·rcases List.mem_cons.1 g2 with g2 | g2
   ·cases g2
   ·exact h.one j m1 m2 (List.mem_cons_of_mem _ g1) (List.mem_cons_of_mem _ g2)
 ·intro j m' g
  rcases List.mem_cons.1 g with g | g
  ·cases g
  ·exact h.wl j m' (List.mem_cons_of_mem _ g)
 ·intro b m' hm
  rw [ht]
  rcases List.mem_cons.1 hm with hm | hm
  ·cases hm;rw [if_pos rfl];exact ⟨hst,rfl,ho⟩
  ·obtain ⟨g1,g2,g3⟩:=h.asd b m' (List.mem_cons_of_mem _ hm)
   split
   ·exact ⟨g1,rfl,ho⟩
   ·exact ⟨g1,g2,g3⟩
 ·intro q hq hqa
  rw [ht] at hqa
  by_cases e : q = a
  ·subst e;exact ⟨m,List.mem_cons_self ..⟩
  ·rw [if_neg e] at hqa
   obtain ⟨m',hm⟩:=h.asd' q hq hqa
   rcases List.mem_cons.1 hm with hm | hm
   ·cases hm
   ·exact ⟨m',List.mem_cons_of_mem _ hm⟩
 ·intro q hq
  rw [ht]
  have:=h.out q hq
  rw [cnt_cons] at this ⊢
  split
  ·rename_i e;rw [e] at this ⊢;exact this
  ·exact this
 ·intro i;rw [occ_cons,occ_cons];exact Nat.le_refl _
 ·intro i _ hlt;rw [occ_cons,occ_cons] at hlt;simp at hlt
 ·intro th hm m1 q m2 he hq
  rw [ht] at hq
  have hq' : (s.t q).out ≠ 0:=by
   split at hq
   ·rename_i e;rw [e];exact ho
   ·exact hq
  rcases List.mem_cons.1 hm with rfl | hm
  ·exact h.deep _ (List.mem_cons_self ..) m1 q m2 he hq'
  ·exact h.deep th (List.mem_cons_of_mem _ hm) m1 q m2 he hq'
 ·intro th hm hb
  rcases List.mem_cons.1 hm with rfl | hm
  ·have:=h.up _ (List.mem_cons_self ..) hb;rw [occ_cons] at this ⊢;exact this
  ·have:=h.up th (List.mem_cons_of_mem _ hm) hb;rw [occ_cons] at this ⊢;exact this
end Go.Proofs.YtkmakliebhnhbaaGreat
namespace Go.Proofs.YtkmakliebhnhbaaGreat
open Go.RowKit
theorem stkOf_pre {s : St} : ∀ {A B : List Nat},stkOf s (A ++ B) = [] → stkOf s A = []
 | [],_,_=>rfl
 | [_],_,_=>rfl
 | t :: p :: A,B,h=>by
  simp only [List.cons_append,stkOf] at h ⊢
  cases ho : s.org t with
  | spawn=>rw [ho] at h;simp at h
  | root=>rw [ho] at h;exact stkOf_pre (A:=p :: A) h
  | call=>rw [ho] at h;exact stkOf_pre (A:=p :: A) h
theorem stkOf_suf {s : St} : ∀ {A : List Nat} {q : Nat} {B : List Nat},stkOf s (A ++ q :: B) = [] → stkOf s (q :: B) = []
 | [],_,_,h=>h
 | [t],q,B,h=>by
  simp only [List.cons_append,List.nil_append,stkOf] at h
  cases ho : s.org t with
  | spawn=>rw [ho] at h;simp at h
  | root=>rw [ho] at h;exact h
  | call=>rw [ho] at h;exact h
 | t :: p :: A,q,B,h=>by
  simp only [List.cons_append,stkOf] at h
  cases ho : s.org t with
  | spawn=>rw [ho] at h;simp at h
  | root=>rw [ho] at h;exact stkOf_suf (A:=p :: A) h
  | call=>rw [ho] at h;exact stkOf_suf (A:=p :: A) h
def mass (L : List Th) : Nat:=(L.map (fun th=>th.2.length)).sum
theorem mass_cons (th : Th) (L : List Th) : mass (th :: L) = th.2.length + mass L:=by simp [mass]
theorem mass_perm {L L' : List Th} (h : L.Perm L') : mass L = mass L':=(h.map _).sum_nat
theorem Thr.steal {s : St} {L0 : List Th} {w v a q : Nat} {m rest : List Nat} (h : Thr s ((some v,a :: m) :: L0)) (hw : w < s.ws.length) (hn : (s.w w).hand = none) (hv : (s.w v).stack = q :: rest) :
  ∃ L',Thr (((s.hand w (some q)).stk v rest).putT q { ((s.hand w (some q)).stk v rest).t q with out:=(((s.hand w (some q)).stk v rest).t q).out + 1 }) L' ∧ L' ≠ [] ∧ mass L' = mass ((some v,a :: m) :: L0) ∧ w ≠ v:=by
 have hvl:=h.wl v _ (List.mem_cons_self ..)
 have hlk:=h.lnk _ (List.mem_cons_self ..)
 have h0:=h.alone
 have hh:=h.hand
 have hne : w ≠ v:=fun e=>by rw [e,hh.1] at hn;cases hn
 have hwn : (s.w w).stack = []:=by
  rcases h.wk w hw with ⟨b,m',g1,g2,g3⟩ | ⟨g1,g2,g3⟩
  ·rw [hn] at g2;cases g2
  ·exact g2
 have hwn0 : ∀ m,(some w,m) ∉ L0:=fun m' hm=>by
  rcases h.wk w hw with ⟨b,m',g1,g2,g3⟩ | ⟨g1,g2,g3⟩
  ·rw [hn] at g2;cases g2
  ·exact g3 m' (List.mem_cons_of_mem _ hm)
 have hst : stkOf s (a :: m) = rest.reverse ++ [q]:=by
  have:=hh.2
  rw [hv] at this
  have:=congrArg List.reverse this
  rw [List.reverse_reverse,List.reverse_cons] at this
  exact this.symm
 obtain ⟨m1,m2,e1,e2,e3,e4,e5,e6,e7,e8,e9⟩:=hlk.cut hst
 simp only at e1 e8
 obtain ⟨n1,rfl⟩ : ∃ n1,m1 = a :: n1:=by
  cases m1 with
  | nil=>exact e2.elim
  | cons c n1=>simp only [List.cons_append] at e1;injection e1 with e _;exact ⟨n1,by rw [e]⟩
 have hq:=e6.lt q (List.mem_cons_self ..)
 have hocc : ∀ i,occ ((some w,q :: m2) :: (some v,a :: n1) :: L0) i = occ ((some v,a :: m) :: L0) i:=fun i=>by
  simp only [occ_cons]
  have : List.count i (a :: m) = List.count i (a :: n1) + List.count i (q :: m2):=by rw [e1,List.count_append]
  omega
 have hM:=mild_put (s:=s) (a:=q) (t:={ s.t q with out:=(s.t q).out + 1 }) rfl rfl rfl
 have hM' : Mild s (((s.hand w (some q)).stk v rest).putT q { ((s.hand w (some q)).stk v rest).t q with out:=(((s.hand w (some q)).stk v rest).t q).out + 1 }):=⟨hM.len,hM.org,hM.par,hM.rem⟩
 have ht : ∀ j,((((s.hand w (some q)).stk v rest).putT q { ((s.hand w (some q)).stk v rest).t q with out:=(((s.hand w (some q)).stk v rest).t q).out + 1 }).t j) = if j = q then { s.t q with out:=(s.t q).out + 1 } else s.t j:=fun j=>St.t_putT s _ hq j
 have hws : ∀ j,((((s.hand w (some q)).stk v rest).putT q { ((s.hand w (some q)).stk v rest).t q with out:=(((s.hand w (some q)).stk v rest).t q).out + 1 }).w j) = if j = v then ⟨some a,rest⟩ else if j = w then ⟨some q,[]⟩ else s.w j:=fun j=>by
  have e1 : (s.hand w (some q)).w v = s.w v:=by rw [St.w_hand _ _ hw v,if_neg (fun e=>hne e.symm)]
  rw [St.w_putT,St.w_stk _ _ (by simpa using hvl),e1,hh.1,St.w_hand _ _ hw j,hwn]
 have hpos : ∀ j,j < s.ts.length → 0 ≤ (s.t j).out:=fun j hj=>by rw [h.out j hj];exact Int.natCast_nonneg _
 have hmass : mass ((some w,q :: m2) :: (some v,a :: n1) :: L0) = mass ((some v,a :: m) :: L0):=by
  simp only [mass_cons]
  have:=congrArg List.length e1
  rw [List.length_append] at this
  omega
 refine ⟨(some w,q :: m2) :: (some v,a :: n1) :: L0,h.mild hM' (by simp) ?_ ?_ ?_ ?_ ?_ ?_ ?_ ?_ ?_ ?_ ?_,by simp,hmass,hne⟩
 ·intro th hm
  rcases List.mem_cons.1 hm with rfl | hm
  ·exact e6
  ·rcases List.mem_cons.1 hm with rfl | hm
   ·exact e2
   ·exact h.lnk th (List.mem_cons_of_mem _ hm)
 ·intro j hj
  rw [hws j]
  by_cases ev : j = v
  ·rw [if_pos ev,ev]
   exact .inl ⟨a,n1,List.mem_cons_of_mem _ (List.mem_cons_self ..),rfl,by rw [e3,List.reverse_reverse]⟩
  ·rw [if_neg ev]
   by_cases ew : j = w
   ·rw [if_pos ew,ew]
    exact .inl ⟨q,m2,List.mem_cons_self ..,rfl,by rw [e7];rfl⟩
   ·rw [if_neg ew]
    rcases h.wk j hj with ⟨b,m',g1,g2,g3⟩ | ⟨g1,g2,g3⟩
    ·rcases List.mem_cons.1 g1 with g1 | g1
     ·injection g1 with g1 _;injection g1 with g1;exact absurd g1 ev
     ·exact .inl ⟨b,m',List.mem_cons_of_mem _ (List.mem_cons_of_mem _ g1),g2,g3⟩
    ·refine .inr ⟨g1,g2,fun m' hm=>?_⟩
     rcases List.mem_cons.1 hm with hm | hm
     ·injection hm with hm _;injection hm with hm;exact ew hm
     ·rcases List.mem_cons.1 hm with hm | hm
      ·injection hm with hm _;injection hm with hm;exact ev hm
      ·exact g3 m' (List.mem_cons_of_mem _ hm)
 ·intro j k1 k2 g1 g2
  rcases List.mem_cons.1 g1 with g1 | g1
  ·rcases List.mem_cons.1 g2 with g2 | g2
   ·cases g1;cases g2;rfl
   ·cases g1
    rcases List.mem_cons.1 g2 with g2 | g2
    ·cases g2;exact absurd rfl hne
    ·exact absurd g2 (hwn0 _)
  ·rcases List.mem_cons.1 g2 with g2 | g2
   ·cases g2
    rcases List.mem_cons.1 g1 with g1 | g1
    ·cases g1;exact absurd rfl hne
    ·exact absurd g1 (hwn0 _)
   ·rcases List.mem_cons.1 g1 with g1 | g1
    ·rcases List.mem_cons.1 g2 with g2 | g2
     ·cases g1;cases g2;rfl
     ·cases g1;exact absurd g2 (h0 _)
    ·rcases List.mem_cons.1 g2 with g2 | g2
     ·cases g2;exact absurd g1 (h0 _)
     ·exact h.one j k1 k2 (List.mem_cons_of_mem _ g1) (List.mem_cons_of_mem _ g2)
 ·intro j m' g
  rcases List.mem_cons.1 g with g | g
  ·cases g;exact hw
  ·rcases List.mem_cons.1 g with g | g
   ·cases g;exact hvl
   ·exact h.wl j m' (List.mem_cons_of_mem _ g)
 ·intro b m' hm
  rcases List.mem_cons.1 hm with hm | hm
  ·cases hm
  ·rcases List.mem_cons.1 hm with hm | hm
   ·cases hm
   ·obtain ⟨g1,g2,g3⟩:=h.asd b m' (List.mem_cons_of_mem _ hm)
    rw [ht]
    split
    ·rename_i e
     have:=hpos q hq
     exact ⟨g1,by rw [e] at g2;exact g2,by show (s.t q).out + 1 ≠ 0;omega⟩
    ·exact ⟨g1,g2,g3⟩
 ·intro j hj hja
  have hja' : (s.t j).asd = true:=by
   rw [ht] at hja
   split at hja
   ·rename_i e;rw [e];exact hja
   ·exact hja
  obtain ⟨m',hm⟩:=h.asd' j hj hja'
  rcases List.mem_cons.1 hm with hm | hm
  ·cases hm
  ·exact ⟨m',List.mem_cons_of_mem _ (List.mem_cons_of_mem _ hm)⟩
 ·intro j hj
  have ho:=h.out j hj
  have hu1 : under s j (some v,a :: n1) = if q = j then 1 else 0:=by unfold under;simp only [e4,e5]
  have hu2 : under s j (some w,q :: m2) = under s j (some v,a :: m):=by unfold under;simp only [e8]
  rw [ht,cnt_cons,cnt_cons,hu1,hu2]
  rw [cnt_cons] at ho
  by_cases e : j = q
  ·rw [if_pos e,if_pos e.symm,← e]
   show (s.t j).out + 1 = _
   rw [ho];omega
  ·rw [if_neg e,if_neg (fun h=>e h.symm),ho];omega
 ·intro i;rw [hocc];exact Nat.le_refl _
 ·intro i _ hlt;rw [hocc] at hlt;exact absurd hlt (Nat.lt_irrefl _)
 ·intro th hm k1 x k2 he hx
  rw [ht] at hx
  rcases List.mem_cons.1 hm with rfl | hm
  ·simp only at he;rw [he] at e7;exact stkOf_suf e7
  ·have hxq : x ≠ q ∨ th ∈ L0:=by
    rcases List.mem_cons.1 hm with rfl | hm
    ·refine .inl fun exq=>?_
     have o:=h.occ1 q
     rw [← hocc,occ_cons,occ_cons] at o
     have c1 : 0 < List.count q (q :: m2):=List.count_pos_iff.2 (List.mem_cons_self ..)
     have c2 : 0 < List.count q (a :: n1):=List.count_pos_iff.2 (by simp only at he;rw [he,← exq];simp)
     simp only at o
     omega
    ·exact .inr hm
   rcases List.mem_cons.1 hm with rfl | hm
   ·rcases hxq with hxq | hxq
    ·rw [if_neg hxq] at hx
     simp only at he
     have:=h.deep _ (List.mem_cons_self ..) k1 x (k2 ++ q :: m2) (by show a :: m = _;rw [e1,he];simp) hx
     exact stkOf_pre (A:=x :: k2) this
    ·exact absurd hxq (h0 _)
   ·have hxq : x ≠ q:=fun exq=>by
     have o:=h.occ1 q
     rw [← hocc,occ_cons] at o
     have c1 : 0 < List.count q (q :: m2):=List.count_pos_iff.2 (List.mem_cons_self ..)
     have c2 : 1 ≤ occ ((some v,a :: n1) :: L0) q:=occ_mem (List.mem_cons_of_mem _ hm) (by rw [he,← exq];simp)
     simp only at o
     omega
    rw [if_neg hxq] at hx
    exact h.deep th (List.mem_cons_of_mem _ hm) k1 x k2 he hx
 ·intro th hm hb
  rw [hocc]
  rcases List.mem_cons.1 hm with rfl | hm
  ·have:=h.up _ (List.mem_cons_self ..) (by simp only;rw [e8];exact hb)
   simp only [e8] at this
   exact this
  ·rcases List.mem_cons.1 hm with rfl | hm
   ·simp only
    rw [e5]
    refine ⟨?_,e9⟩
    have o:=h.occ1 q
    have c : 1 ≤ occ ((some v,a :: m) :: L0) q:=occ_mem (List.mem_cons_self ..) (by simp only;rw [e1];simp)
    omega
   ·exact h.up th (List.mem_cons_of_mem _ hm) hb
end Go.Proofs.YtkmakliebhnhbaaGreat
namespace Go.Proofs.YtkmakliebhnhbaaGreat
open Go.RowKit
theorem Thr.pos {s : St} {L : List Th} (h : Thr s L) {j : Nat} (hj : j < s.ts.length) : 0 ≤ (s.t j).out:=by rw [h.out j hj];exact Int.natCast_nonneg _
theorem Thr.noKid {s : St} {L : List Th} {a : Nat} (h : Thr s L) (ha : a < s.ts.length) (ho : (s.t a).out = 0) : ∀ th ∈ L,s.org (botOf th.2) = .spawn → s.par (botOf th.2) ≠ a:=fun th ht hb e=>by
 have o:=h.out a ha
 obtain ⟨L1,hp1⟩:=front ht
 have hu : under s a th = 1:=by unfold under;rw [hb];simp [e]
 rw [ho,cnt_perm hp1,cnt_cons,hu] at o
 omega
theorem Thr.once {s : St} {L0 : List Th} {th th' : Th} {i : Nat} (h : Thr s (th :: L0)) (h1 : i ∈ th.2) (h2 : th' ∈ L0) : i ∉ th'.2:=fun h3=>by
 have o:=h.occ1 i
 rw [occ_cons] at o
 have:=List.count_pos_iff.2 h1
 have:=occ_mem h2 h3
 omega
theorem Thr.join {s : St} {L0 : List Th} {w a p : Nat} (h : Thr s ((some w,[a]) :: L0)) (hr : (s.t a).rem = []) (ho : (s.t a).out = 0) (hsp : s.org a = .spawn) (hpa : s.par a = p) (hn : ¬((s.t p).out - 1 = 0 ∧ (s.t p).asd = true)) :
  Thr ((s.putT p { s.t p with out:=(s.t p).out - 1 }).hand w none) L0:=by
 have hw:=h.wl w _ (List.mem_cons_self ..)
 have hlk:=h.lnk _ (List.mem_cons_self ..)
 have ha:=hlk.lt a (List.mem_cons_self ..)
 have h0:=h.alone
 have hh:=h.hand
 have hup:=h.up _ (List.mem_cons_self ..) hsp
 simp only [botOf,hpa] at hup
 have hp : p < s.ts.length:=by omega
 have hM:=mild_put (s:=s) (a:=p) (t:={ s.t p with out:=(s.t p).out - 1 }) rfl rfl rfl
 have hM' : Mild s ((s.putT p { s.t p with out:=(s.t p).out - 1 }).hand w none):=⟨hM.len,hM.org,hM.par,hM.rem⟩
 have ht : ∀ q,(((s.putT p { s.t p with out:=(s.t p).out - 1 }).hand w none).t q) = if q = p then { s.t p with out:=(s.t p).out - 1 } else s.t q:=fun q=>St.t_putT s _ hp q
 have hcnt : ∀ q,cnt s ((some w,[a]) :: L0) q = (if p = q then 1 else 0) + cnt s L0 q:=fun q=>by
  rw [cnt_cons]
  have : under s q (some w,[a]) = if p = q then 1 else 0:=by unfold under;simp only [botOf,hsp,hpa]
  rw [this]
 have hout1 : ∀ q,q < s.ts.length → (((s.putT p { s.t p with out:=(s.t p).out - 1 }).hand w none).t q).out = cnt s L0 q:=fun q hq=>by
  have o:=h.out q hq
  rw [hcnt] at o
  rw [ht]
  by_cases e : q = p
  ·rw [if_pos e]
   rw [if_pos e.symm] at o
   show (s.t p).out - 1 = _
   rw [← e,o];omega
  ·rw [if_neg e]
   rw [if_neg (fun g=>e g.symm)] at o
   rw [o];omega
 refine h.mild hM' (by simp) ?_ ?_ ?_ ?_ ?_ ?_ hout1 ?_ ?_ ?_ ?_
 ·exact fun th hm=>h.lnk th (List.mem_cons_of_mem _ hm)
 ·intro j hj
  have hwj : ((s.putT p { s.t p with out:=(s.t p).out - 1 }).hand w none).w j = if j = w then ⟨none,(s.w w).stack⟩ else s.w j:=St.w_hand (s.putT p { s.t p with out:=(s.t p).out - 1 }) none hw j
  rw [hwj]
  by_cases e : j = w
  ·subst e
   rw [if_pos rfl]
   exact .inr ⟨rfl,by rw [hh.2];rfl,h0⟩
  ·rw [if_neg e]
   rcases h.wk j hj with ⟨b,m',g1,g2,g3⟩ | ⟨g1,g2,g3⟩
   ·rcases List.mem_cons.1 g1 with g1 | g1
    ·injection g1 with g1 _;injection g1 with g1;exact absurd g1 e
    ·exact .inl ⟨b,m',g1,g2,g3⟩
   ·exact .inr ⟨g1,g2,fun m' hm=>g3 m' (List.mem_cons_of_mem _ hm)⟩
 ·exact fun j m1 m2 g1 g2=>h.one j m1 m2 (List.mem_cons_of_mem _ g1) (List.mem_cons_of_mem _ g2)
 ·exact fun j m' g=>h.wl j m' (List.mem_cons_of_mem _ g)
 ·intro b m' hm
  obtain ⟨g1,g2,g3⟩:=h.asd b m' (List.mem_cons_of_mem _ hm)
  rw [ht]
  split
  ·rename_i e
   rw [e] at g2
   exact ⟨g1,g2,fun z=>hn ⟨z,g2⟩⟩
  ·exact ⟨g1,g2,g3⟩
 ·intro q hq hqa
  have hqa' : (s.t q).asd = true:=by
   rw [ht] at hqa
   split at hqa
   ·rename_i e;rw [e];exact hqa
   ·exact hqa
  obtain ⟨m',hm⟩:=h.asd' q hq hqa'
  rcases List.mem_cons.1 hm with hm | hm
  ·cases hm
  ·exact ⟨m',hm⟩
 ·intro i;rw [occ_cons];omega
 ·intro i hi hlt
  rw [occ_cons] at hlt
  have : i = a:=by
   have hc : 0 < List.count i [a]:=by simp only at hlt;omega
   simpa using List.count_pos_iff.1 hc
  rw [this];exact hr
 ·intro th hm m1 q m2 he hq
  refine h.deep th (List.mem_cons_of_mem _ hm) m1 q m2 he fun z=>?_
  have hql : q < s.ts.length:=(h.lnk th (List.mem_cons_of_mem _ hm)).lt q (by rw [he];simp)
  rw [hout1 q hql] at hq
  have o:=h.out q hql
  rw [hcnt,z] at o
  omega
 ·intro th hm hb
  have g:=h.up th (List.mem_cons_of_mem _ hm) hb
  have hne:=h.noKid ha ho th (List.mem_cons_of_mem _ hm) hb
  rw [occ_cons] at g
  have : List.count (s.par (botOf th.2)) [a] = 0:=List.count_eq_zero.2 (by simpa using hne)
  simp only [this] at g
  exact ⟨by omega,g.2⟩
theorem Thr.wake {s : St} {L0 : List Th} {w a p : Nat} {m : List Nat} (h : Thr s ((some w,[a]) :: (none,p :: m) :: L0)) (hr : (s.t a).rem = []) (ho : (s.t a).out = 0) (hsp : s.org a = .spawn) (hpa : s.par a = p) :
  Thr ((s.putT p { s.t p with out:=(s.t p).out - 1,asd:=false }).hand w (some p)) ((some w,p :: m) :: L0):=by
 have hw:=h.wl w _ (List.mem_cons_self ..)
 have hm2 : ((none,p :: m) : Th) ∈ (some w,[a]) :: (none,p :: m) :: L0:=List.mem_cons_of_mem _ (List.mem_cons_self ..)
 have hin : ∀ {th},th ∈ L0 → th ∈ (some w,[a]) :: (none,p :: m) :: L0:=fun g=>List.mem_cons_of_mem _ (List.mem_cons_of_mem _ g)
 have hlk:=h.lnk _ (List.mem_cons_self ..)
 have hlp:=h.lnk _ hm2
 have ha:=hlk.lt a (List.mem_cons_self ..)
 have hp:=hlp.lt p (List.mem_cons_self ..)
 have h0 : ∀ m',(some w,m') ∉ L0:=fun m' g=>h.alone m' (List.mem_cons_of_mem _ g)
 have hh:=h.hand
 obtain ⟨b1,b2,b3⟩:=h.asd p m hm2
 have hM:=mild_put (s:=s) (a:=p) (t:={ s.t p with out:=(s.t p).out - 1,asd:=false }) rfl rfl rfl
 have hM' : Mild s ((s.putT p { s.t p with out:=(s.t p).out - 1,asd:=false }).hand w (some p)):=⟨hM.len,hM.org,hM.par,hM.rem⟩
 have ht : ∀ q,(((s.putT p { s.t p with out:=(s.t p).out - 1,asd:=false }).hand w (some p)).t q) = if q = p then { s.t p with out:=(s.t p).out - 1,asd:=false } else s.t q:=fun q=>St.t_putT s _ hp q
 have hcnt : ∀ q,cnt s ((some w,[a]) :: (none,p :: m) :: L0) q = (if p = q then 1 else 0) + cnt s ((some w,p :: m) :: L0) q:=fun q=>by
  rw [cnt_cons]
  have : under s q (some w,[a]) = if p = q then 1 else 0:=by unfold under;simp only [botOf,hsp,hpa]
  rw [this];rfl
 have hout1 : ∀ q,q < s.ts.length → (((s.putT p { s.t p with out:=(s.t p).out - 1,asd:=false }).hand w (some p)).t q).out = cnt s ((some w,p :: m) :: L0) q:=fun q hq=>by
  have o:=h.out q hq
  rw [hcnt] at o
  rw [ht]
  by_cases e : q = p
  ·rw [if_pos e]
   rw [if_pos e.symm] at o
   show (s.t p).out - 1 = _
   have o' : (s.t p).out = ((1 + cnt s ((some w,p :: m) :: L0) q : Nat) : Int):=by rw [← o,e]
   rw [o'];omega
  ·rw [if_neg e]
   rw [if_neg (fun g=>e g.symm)] at o
   rw [o];omega
 have hocc : ∀ i,occ ((some w,[a]) :: (none,p :: m) :: L0) i = List.count i [a] + occ ((some w,p :: m) :: L0) i:=fun i=>by simp only [occ_cons]
 refine h.mild hM' (by simp) ?_ ?_ ?_ ?_ ?_ ?_ hout1 ?_ ?_ ?_ ?_
 ·intro th hm
  rcases List.mem_cons.1 hm with rfl | hm
  ·exact hlp
  ·exact h.lnk th (hin hm)
 ·intro j hj
  have hwj : ((s.putT p { s.t p with out:=(s.t p).out - 1,asd:=false }).hand w (some p)).w j = if j = w then ⟨some p,(s.w w).stack⟩ else s.w j:=St.w_hand (s.putT p { s.t p with out:=(s.t p).out - 1,asd:=false }) (some p) hw j
  rw [hwj]
  by_cases e : j = w
  ·subst e
   rw [if_pos rfl]
   exact .inl ⟨p,m,List.mem_cons_self ..,rfl,by rw [hh.2,b1];rfl⟩
  ·rw [if_neg e]
   rcases h.wk j hj with ⟨b,m',g1,g2,g3⟩ | ⟨g1,g2,g3⟩
   ·rcases List.mem_cons.1 g1 with g1 | g1
    ·injection g1 with g1 _;injection g1 with g1;exact absurd g1 e
    ·rcases List.mem_cons.1 g1 with g1 | g1
     ·cases g1
     ·exact .inl ⟨b,m',List.mem_cons_of_mem _ g1,g2,g3⟩
   ·refine .inr ⟨g1,g2,fun m' hm=>?_⟩
    rcases List.mem_cons.1 hm with hm | hm
    ·injection hm with hm _;injection hm with hm;exact e hm
    ·exact g3 m' (hin hm)
 ·intro j k1 k2 g1 g2
  rcases List.mem_cons.1 g1 with g1 | g1 <;> rcases List.mem_cons.1 g2 with g2 | g2
  ·cases g1;cases g2;rfl
  ·cases g1;exact absurd g2 (h0 _)
  ·cases g2;exact absurd g1 (h0 _)
  ·exact h.one j k1 k2 (hin g1) (hin g2)
 ·intro j m' g
  rcases List.mem_cons.1 g with g | g
  ·cases g;exact hw
  ·exact h.wl j m' (hin g)
 ·intro b m' hm
  rcases List.mem_cons.1 hm with hm | hm
  ·cases hm
  ·obtain ⟨g1,g2,g3⟩:=h.asd b m' (hin hm)
   have hne : b ≠ p:=fun e=>by
    have o:=h.occ1 p
    simp only [occ_cons] at o
    have c1 : 0 < List.count p (p :: m):=List.count_pos_iff.2 (List.mem_cons_self ..)
    have c2:=occ_mem hm (i:=p) (by rw [← e];exact List.mem_cons_self ..)
    omega
   rw [ht,if_neg hne]
   exact ⟨g1,g2,g3⟩
 ·intro q hq hqa
  rw [ht] at hqa
  by_cases e : q = p
  ·rw [if_pos e] at hqa;cases hqa
  ·rw [if_neg e] at hqa
   obtain ⟨m',hm⟩:=h.asd' q hq hqa
   rcases List.mem_cons.1 hm with hm | hm
   ·cases hm
   ·rcases List.mem_cons.1 hm with hm | hm
    ·injection hm with _ hm;injection hm with hm _;exact absurd hm e
    ·exact ⟨m',List.mem_cons_of_mem _ hm⟩
 ·intro i;rw [hocc];omega
 ·intro i hi hlt
  rw [hocc] at hlt
  have : i = a:=by
   have hc : 0 < List.count i [a]:=by omega
   simpa using List.count_pos_iff.1 hc
  rw [this];exact hr
 ·intro th hm m1 q m2 he hq
  have hql : q < s.ts.length:=by
   rcases List.mem_cons.1 hm with rfl | hm
   ·exact hlp.lt q (by simp only at he ⊢;rw [he];simp)
   ·exact (h.lnk th (hin hm)).lt q (by rw [he];simp)
  have hq' : (s.t q).out ≠ 0:=fun z=>by
   rw [hout1 q hql] at hq
   have o:=h.out q hql
   rw [hcnt,z] at o
   omega
  rcases List.mem_cons.1 hm with rfl | hm
  ·exact h.deep _ hm2 m1 q m2 he hq'
  ·exact h.deep th (hin hm) m1 q m2 he hq'
 ·intro th hm hb
  have key : ∀ th' ∈ (some w,[a]) :: (none,p :: m) :: L0,s.org (botOf th'.2) = .spawn → occ ((some w,p :: m) :: L0) (s.par (botOf th'.2)) = 1 ∧ s.par (botOf th'.2) < botOf th'.2:=fun th' hm' hb'=>by
   have g:=h.up th' hm' hb'
   have hne:=h.noKid ha ho th' hm' hb'
   rw [hocc] at g
   have : List.count (s.par (botOf th'.2)) [a] = 0:=List.count_eq_zero.2 (by simpa using hne)
   rw [this] at g
   exact ⟨by omega,g.2⟩
  rcases List.mem_cons.1 hm with rfl | hm
  ·exact key (none,p :: m) hm2 hb
  ·exact key th (hin hm) hb
end Go.Proofs.YtkmakliebhnhbaaGreat
namespace Go.Proofs.YtkmakliebhnhbaaGreat
open Go.RowKit
theorem St.t_app (s : St) (n : Tk) (j : Nat) : ({ s with ts:=s.ts ++ [n] } : St).t j = if j = s.ts.length then n else s.t j:=by
 unfold St.t
 by_cases e : j = s.ts.length
 ·rw [if_pos e,e];simp
 ·rw [if_neg e]
  rw [List.getElem?_append]
  split
  ·rfl
  ·rename_i hlt
   have : s.ts.length < j:=by omega
   rw [List.getElem?_eq_none (by simp;omega),List.getElem?_eq_none (by omega)]
theorem Linked.big {s : St} {ms : List Nat} (h : Linked s ms) : s.ts.length ∉ ms:=fun hm=>Nat.lt_irrefl _ (h.lt _ hm)
theorem Thr.begin {s : St} {L0 : List Th} {w a : Nat} {m : List Nat} {n : Tk} (h : Thr s ((some w,a :: m) :: L0)) (hpar : n.par = a) (horg : n.org ≠ .root) (hout : n.out = 0) (hasd : n.asd = false)
  (s' : St) (hts : s'.ts = s.ts ++ [n]) (hwl : s'.ws.length = s.ws.length) (hws : ∀ j,s'.w j = if j = w then ⟨some s.ts.length,match n.org with | .spawn=>(s.w w).stack ++ [a] | _=>(s.w w).stack⟩ else s.w j) :
  Thr s' ((some w,s.ts.length :: a :: m) :: L0):=by
 have hw:=h.wl w _ (List.mem_cons_self ..)
 have hlk:=h.lnk _ (List.mem_cons_self ..)
 have ha:=hlk.lt a (List.mem_cons_self ..)
 have h0:=h.alone
 have hh:=h.hand
 have ht : ∀ j,s'.t j = if j = s.ts.length then n else s.t j:=fun j=>by
  rw [← St.t_app];unfold St.t;rw [hts]
 have ht' : ∀ {j},j < s.ts.length → s'.t j = s.t j:=fun {j} hj=>by rw [ht,if_neg (by omega)]
 have htn : s'.t s.ts.length = n:=by rw [ht,if_pos rfl]
 have hs : Same s s':=⟨by rw [hts];simp,fun i hi=>by unfold St.org St.par;rw [ht' hi];exact ⟨rfl,rfl⟩⟩
 have hlen : s'.ts.length = s.ts.length + 1:=by rw [hts];simp
 have hon : s'.org s.ts.length = n.org:=by unfold St.org;rw [htn]
 have hpn : s'.par s.ts.length = a:=by unfold St.par;rw [htn,hpar]
 have hlk' : Linked s' (s.ts.length :: a :: m):=⟨by omega,hpn,ha,by rw [hon];exact horg,hlk.same hs⟩
 have hbig : ∀ th ∈ (some w,a :: m) :: L0,s.ts.length ∉ th.2:=fun th hm=>(h.lnk th hm).big
 have hoccn : occ ((some w,a :: m) :: L0) s.ts.length = 0:=by
  rcases Nat.eq_zero_or_pos (occ ((some w,a :: m) :: L0) s.ts.length) with g | g
  ·exact g
  ·obtain ⟨th,h1,h2⟩:=occ_some g
   exact absurd h2 (hbig th h1)
 have hocc : ∀ i,occ ((some w,s.ts.length :: a :: m) :: L0) i = (if s.ts.length = i then 1 else 0) + occ ((some w,a :: m) :: L0) i:=fun i=>by
  simp only [occ_cons]
  rw [List.count_cons]
  simp only [beq_iff_eq]
  omega
 have hcnt : ∀ q,cnt s' ((some w,s.ts.length :: a :: m) :: L0) q = cnt s ((some w,a :: m) :: L0) q:=fun q=>by
  rw [cnt_cons,cnt_cons,cnt_same hs (fun th hm=>h.lnk th (List.mem_cons_of_mem _ hm))]
  have:=under_same hs (q:=q) (th:=(some w,a :: m)) hlk
  rw [← this];rfl
 have hstk : stkOf s' (s.ts.length :: a :: m) = match n.org with | .spawn=>a :: stkOf s (a :: m) | _=>stkOf s (a :: m):=by
  simp only [stkOf,hon]
  rw [stkOf_same hs hlk]
  all_goals (cases n.org <;> rfl)
 refine ⟨?_,?_,?_,?_,?_,?_,?_,?_,?_,?_,?_,?_⟩
 ·intro th hm
  rcases List.mem_cons.1 hm with rfl | hm
  ·exact hlk'
  ·exact (h.lnk th (List.mem_cons_of_mem _ hm)).same hs
 ·intro j hj
  rw [hws j]
  by_cases e : j = w
  ·rw [if_pos e,e]
   refine .inl ⟨s.ts.length,a :: m,List.mem_cons_self ..,rfl,?_⟩
   rw [hstk]
   cases ho : n.org with
   | root=>exact absurd ho horg
   | call=>simp only;exact hh.2
   | spawn=>simp only;rw [List.reverse_cons,hh.2]
  ·rw [if_neg e]
   rcases h.wk j (by rw [← hwl];exact hj) with ⟨b,m',g1,g2,g3⟩ | ⟨g1,g2,g3⟩
   ·rcases List.mem_cons.1 g1 with g1 | g1
    ·injection g1 with g1 _;injection g1 with g1;exact absurd g1 e
    ·exact .inl ⟨b,m',List.mem_cons_of_mem _ g1,g2,by rw [stkOf_same hs (h.lnk _ (List.mem_cons_of_mem _ g1))];exact g3⟩
   ·refine .inr ⟨g1,g2,fun m' hm=>?_⟩
    rcases List.mem_cons.1 hm with hm | hm
    ·injection hm with hm _;injection hm with hm;exact e hm
    ·exact g3 m' (List.mem_cons_of_mem _ hm)
 ·intro j k1 k2 g1 g2
  rcases List.mem_cons.1 g1 with g1 | g1 <;> rcases List.mem_cons.1 g2 with g2 | g2
  ·cases g1;cases g2;rfl
  ·cases g1;exact absurd g2 (h0 _)
  ·cases g2;exact absurd g1 (h0 _)
  ·exact h.one j k1 k2 (List.mem_cons_of_mem _ g1) (List.mem_cons_of_mem _ g2)
 ·intro j m' g
  rw [hwl]
  rcases List.mem_cons.1 g with g | g
  ·cases g;exact hw
  ·exact h.wl j m' (List.mem_cons_of_mem _ g)
 ·intro b m' hm
  rcases List.mem_cons.1 hm with hm | hm
  ·cases hm
  ·obtain ⟨g1,g2,g3⟩:=h.asd b m' (List.mem_cons_of_mem _ hm)
   have hlb:=h.lnk _ (List.mem_cons_of_mem _ hm)
   rw [ht' (hlb.lt b (List.mem_cons_self ..)),stkOf_same hs hlb]
   exact ⟨g1,g2,g3⟩
 ·intro q hq hqa
  rw [ht] at hqa
  by_cases e : q = s.ts.length
  ·rw [if_pos e,hasd] at hqa;cases hqa
  ·rw [if_neg e] at hqa
   obtain ⟨m',hm⟩:=h.asd' q (by omega) hqa
   rcases List.mem_cons.1 hm with hm | hm
   ·cases hm
   ·exact ⟨m',List.mem_cons_of_mem _ hm⟩
 ·intro q hq
  rw [hcnt,ht]
  by_cases e : q = s.ts.length
  ·rw [if_pos e,hout,e]
   have hz : ∀ (L : List Th),(∀ th ∈ L,th ∈ (some w,a :: m) :: L0) → cnt s L s.ts.length = 0:=by
    intro L
    induction L with
    | nil=>intro _;rfl
    | cons th L ih =>
     intro hL
     rw [cnt_cons,ih (fun t g=>hL t (List.mem_cons_of_mem _ g)),Nat.add_zero]
     unfold under
     have hth:=hL th (List.mem_cons_self ..)
     have hbl:=(h.lnk th hth).lt _ (botOf_mem (h.lnk th hth).ne)
     split
     ·rename_i hb
      have:=(h.up th hth hb).2
      rw [if_neg (by omega)]
     ·rfl
   rw [hz _ (fun _ g=>g)]
   rfl
  ·rw [if_neg e];exact h.out q (by omega)
 ·intro i
  rw [hocc]
  by_cases e : s.ts.length = i
  ·rw [if_pos e,← e,hoccn];omega
  ·rw [if_neg e];have:=h.occ1 i;omega
 ·intro th hm m1 q m2 he hq
  rcases List.mem_cons.1 hm with rfl | hm
  ·simp only at he
   cases m1 with
   | nil =>
    simp only [List.nil_append] at he
    injection he with e1 e2
    rw [← e1,htn,hout] at hq
    exact absurd rfl hq
   | cons c m1 =>
    simp only [List.cons_append] at he
    injection he with e1 e2
    have hsuf : Linked s (q :: m2):=linked_suffix (m1:=m1) (by rw [← e2];exact hlk)
    rw [ht' (hsuf.lt q (List.mem_cons_self ..))] at hq
    rw [stkOf_same hs hsuf]
    exact h.deep _ (List.mem_cons_self ..) m1 q m2 e2 hq
  ·have hl:=h.lnk th (List.mem_cons_of_mem _ hm)
   have hsuf : Linked s (q :: m2):=linked_suffix (m1:=m1) (by rw [← he];exact hl)
   rw [ht' (hsuf.lt q (List.mem_cons_self ..))] at hq
   rw [stkOf_same hs hsuf]
   exact h.deep th (List.mem_cons_of_mem _ hm) m1 q m2 he hq
 ·intro i hi hz
  rw [hocc] at hz
  by_cases e : s.ts.length = i
  ·rw [if_pos e] at hz;omega
  ·rw [if_neg e] at hz
   rw [ht' (by omega)]
   exact h.ended i (by omega) (by omega)
 ·have key : ∀ th ∈ (some w,a :: m) :: L0,s'.org (botOf th.2) = .spawn → occ ((some w,s.ts.length :: a :: m) :: L0) (s'.par (botOf th.2)) = 1 ∧ s'.par (botOf th.2) < botOf th.2:=fun th hm hb=>by
   have hbl:=(h.lnk th hm).lt _ (botOf_mem (h.lnk th hm).ne)
   rw [(hs.eq _ hbl).1] at hb
   rw [(hs.eq _ hbl).2]
   have g:=h.up th hm hb
   rw [hocc,if_neg (by omega)]
   exact ⟨by omega,g.2⟩
  intro th hm hb
  rcases List.mem_cons.1 hm with rfl | hm
  ·exact key (some w,a :: m) (List.mem_cons_self ..) hb
  ·exact key th (List.mem_cons_of_mem _ hm) hb
 ·intro i hi
  by_cases e : i = s.ts.length
  ·rw [e,hon]
   refine ⟨fun g=>absurd g horg,fun g=>?_⟩
   omega
  ·have hi' : i < s.ts.length:=by omega
   rw [(hs.eq i hi').1]
   exact h.rt i hi'
end Go.Proofs.YtkmakliebhnhbaaGreat
namespace Go.Proofs.YtkmakliebhnhbaaGreat
open Go.RowKit
theorem Thr.sole {s : St} {L0 : List Th} {w : Nat} {m : List Nat} (h : Thr s ((some w,0 :: m) :: L0)) (ho : (s.t 0).out = 0) : m = [] ∧ L0 = []:=by
 have hlk:=h.lnk _ (List.mem_cons_self ..)
 have h00:=hlk.lt 0 (List.mem_cons_self ..)
 have hm : m = []:=by
  cases m with
  | nil=>rfl
  | cons p m=>exact absurd hlk.2.2.1 (by omega)
 subst hm
 refine ⟨rfl,?_⟩
 have key : ∀ k,∀ th ∈ L0,botOf th.2 = k → False:=by
  intro k
  induction k using Nat.strongRecOn with
  | _ k ih =>
   intro th hth hk
   have hl:=h.lnk th (List.mem_cons_of_mem _ hth)
   have hbm:=botOf_mem hl.ne
   rcases hl.bot with hb | hb
   ·have:=(h.rt _ (hl.lt _ hbm)).1 hb
    rw [this] at hbm
    exact h.once (i:=0) (List.mem_cons_self ..) hth hbm
   ·have hu:=h.up th (List.mem_cons_of_mem _ hth) hb
    have hne:=h.noKid h00 ho th (List.mem_cons_of_mem _ hth) hb
    obtain ⟨th',h1,h2⟩:=occ_some (by rw [hu.1];exact Nat.le_refl 1)
    rcases List.mem_cons.1 h1 with rfl | h1
    ·exact hne (by simpa using h2)
    ·have:=(h.lnk th' (List.mem_cons_of_mem _ h1)).le _ h2
     exact ih (botOf th'.2) (by omega) th' h1 rfl
 cases L0 with
 | nil=>rfl
 | cons th L0=>exact (key _ th (List.mem_cons_self ..) rfl).elim
theorem Thr.over {s : St} {L : List Th} (fs : List (List Ins)) (h : Thr s L) {w : Nat} (hw : w < s.ws.length) (v : Nat) (hd : (stepM fs s w v).2 = .done) : ∀ i,i < s.ts.length → (s.t i).rem = []:=by
 unfold stepM at hd
 rcases h.wk w hw with ⟨a,m,hm,hha,hst⟩ | ⟨hha,hst,hno⟩
 ·obtain ⟨L0,hp⟩:=front hm
  have hL:=h.perm hp
  have hlk:=hL.lnk _ (List.mem_cons_self ..)
  have ha:=hlk.lt a (List.mem_cons_self ..)
  rw [hha] at hd
  simp only at hd
  by_cases hwt : waits (s.t a) = true
  ·rw [if_pos hwt] at hd;cases hd
  ·rw [if_neg hwt] at hd
   cases hr : (s.t a).rem with
   | nil =>
    have ho : (s.t a).out = 0:=by
     unfold waits at hwt
     rw [hr] at hwt
     simpa using hwt
    rw [hr] at hd
    simp only at hd
    cases hor : (s.t a).org with
    | root =>
     have ha0:=(hL.rt a ha).1 hor
     subst ha0
     obtain ⟨rfl,rfl⟩:=hL.sole ho
     intro i hi
     by_cases e : i = 0
     ·rw [e];exact hr
     ·refine hL.ended i hi ?_
      rw [occ_cons]
      have : List.count i [0] = 0:=List.count_eq_zero.2 (by simpa using e)
      simp only [this]
      rfl
    | call=>rw [hor] at hd;cases hd
    | spawn =>
     rw [hor] at hd
     simp only at hd
     split at hd
     ·cases hd
     ·split at hd <;> cases hd
   | cons i rest =>
    rw [hr] at hd
    simp only at hd
    split at hd
    ·cases hd
    ·split at hd
     ·cases hd
     ·split at hd
      ·cases hd
      ·split at hd <;> cases hd
 ·rw [hha] at hd
  simp only at hd
  split at hd <;> cases hd
theorem thr_start (fs : List (List Ins)) {workers : Nat} (hw : 1 ≤ workers) (seed x : Int) : Thr (start fs workers seed x) [(some 0,[0])]:=by
 have hlen : (start fs workers seed x).ts.length = 1:=rfl
 have hwl : (start fs workers seed x).ws.length = workers:=by simp [start];omega
 have hw0 : (start fs workers seed x).w 0 = ⟨some 0,[]⟩:=rfl
 have hwj : ∀ j,j ≠ 0 → (start fs workers seed x).w j = wk0:=fun j hj=>by
  unfold St.w start
  obtain ⟨j,rfl⟩ : ∃ k,j = k + 1:=⟨j - 1,by omega⟩
  simp only [List.getElem?_cons_succ,List.getElem?_replicate]
  split <;> rfl
 have ho : (start fs workers seed x).org 0 = .root:=rfl
 refine ⟨?_,?_,?_,?_,?_,?_,?_,?_,?_,?_,?_,?_⟩
 ·intro th hm;rw [List.mem_singleton] at hm;rw [hm];exact ⟨by rw [hlen];omega,.inl ho⟩
 ·intro j hj
  by_cases e : j = 0
  ·rw [e,hw0];exact .inl ⟨0,[],by simp,rfl,rfl⟩
  ·rw [hwj j e];exact .inr ⟨rfl,rfl,fun m hm=>by simp at hm;exact e hm.1⟩
 ·intro j m m' h1 h2;simp at h1 h2;rw [h1.2,h2.2]
 ·intro j m h1;simp at h1;rw [hwl,h1.1];omega
 ·intro a m h1;simp at h1
 ·intro q hq hqa
  have : q = 0:=by rw [hlen] at hq;omega
  rw [this] at hqa;cases hqa
 ·intro q hq
  have : q = 0:=by rw [hlen] at hq;omega
  rw [this];rfl
 ·intro i
  rw [occ_cons]
  simp only [occ,List.map_nil,List.sum_nil,Nat.add_zero]
  rw [List.count_singleton]
  split <;> omega
 ·intro th hm m1 q m2 he hq
  rw [List.mem_singleton] at hm
  rw [hm] at he
  cases m1 with
  | nil=>simp at he;rw [he.2];rfl
  | cons c m1=>simp at he
 ·intro i hi hz
  have : i = 0:=by rw [hlen] at hi;omega
  rw [this] at hz
  exact absurd hz (by decide)
 ·intro th hm hb
  rw [List.mem_singleton] at hm
  rw [hm] at hb
  exact absurd (hb.symm.trans ho) (by simp)
 ·intro i hi
  have : i = 0:=by rw [hlen] at hi;omega
  rw [this]
  exact ⟨fun _=>rfl,fun _=>ho⟩
end Go.Proofs.YtkmakliebhnhbaaGreat
namespace Go.Proofs.YtkmakliebhnhbaaGreat
open Go.RowKit
def span (fs : List (List Ins)) (t : Tk) : List Nat:=List.range' t.pl (serL (ser fs fs.length) t.x t.h t.r t.rem).length
def Rs.places : Rs → List Nat
 | .gave _ _ p=>[p]
 | _=>[]
def spans (fs : List (List Ins)) (l : List Tk) : List Nat:=(l.map (span fs)).flatten
theorem perm_set {α : Type} : ∀ (l : List α) (a : Nat) (x : α),a < l.length → (l.set a x).Perm (x :: l.eraseIdx a)
 | _ :: _,0,_,_=>.refl _
 | y :: l,a + 1,x,h=>((perm_set l a x (by simpa using h)).cons y).trans (.swap ..)
theorem perm_get {α : Type} (l : List α) (a : Nat) (h : a < l.length) : l.Perm (l[a] :: l.eraseIdx a):=by
 have:=perm_set l a l[a] h
 rwa [List.set_getElem_self] at this
theorem spans_set {fs : List (List Ins)} {l : List Tk} {a : Nat} (ha : a < l.length) (x : Tk) : (spans fs (l.set a x)).Perm (span fs x ++ spans fs (l.eraseIdx a)):=by
 have h:=(perm_set l a x ha).map (span fs)
 exact h.flatten
theorem spans_get {fs : List (List Ins)} {s : St} {a : Nat} (ha : a < s.ts.length) : (spans fs s.ts).Perm (span fs (s.t a) ++ spans fs (s.ts.eraseIdx a)):=by
 have e : s.t a = s.ts[a]:=by unfold St.t;rw [List.getElem?_eq_getElem ha];rfl
 rw [e]
 have h:=(perm_get s.ts a ha).map (span fs)
 exact h.flatten
theorem spans_app {fs : List (List Ins)} (l : List Tk) (x : Tk) : spans fs (l ++ [x]) = spans fs l ++ span fs x:=by unfold spans;simp
theorem spans_put {fs : List (List Ins)} {s : St} {a : Nat} (ha : a < s.ts.length) {x : Tk} {g : List Nat} (h : span fs (s.t a) = g ++ span fs x) : (spans fs (s.ts.set a x) ++ g).Perm (spans fs s.ts):=by
 refine ((spans_set ha x).append_right g).trans (.trans ?_ (spans_get ha).symm)
 rw [h,List.append_assoc,List.append_assoc]
 exact List.perm_append_comm.trans (by
  rw [List.append_assoc]
  exact (List.perm_append_comm (l₁:=spans fs (s.ts.eraseIdx a)) (l₂:=g ++ span fs x)).trans (by rw [List.append_assoc]) |>.trans (.refl _))
variable {fs : List (List Ins)} {nr : Nat} {T : List Ev}
theorem stepM_places (hok : FsOk fs nr) {s : St} {w v : Nat} (hs : ∀ t ∈ s.ts,TkOk fs nr T t) (hh : ∀ a,(s.w w).hand = some a → a < s.ts.length) (hq : ∀ q ∈ (s.w v).stack,q < s.ts.length) (hp : ∀ a,(s.w w).hand = some a → (s.t a).org = .spawn → (s.t a).par < s.ts.length) :
  (spans fs (stepM fs s w v).1.ts ++ (stepM fs s w v).2.places).Perm (spans fs s.ts):=by
 unfold stepM
 cases hw : (s.w w).hand with
 | none =>
  simp only
  cases hv : (s.w v).stack with
  | nil=>simp [Rs.places]
  | cons q rest=>exact spans_put (g:=[]) (hq q (by rw [hv];exact List.mem_cons_self ..)) rfl
 | some a =>
  have ha:=hh a hw
  have hta:=hs _ (St.t_mem ha)
  simp only
  split
  ·exact spans_put (g:=[]) ha rfl
  ·cases hr : (s.t a).rem with
   | nil =>
    simp only
    cases hor : (s.t a).org with
    | root=>simp [Rs.places]
    | call=>simp [Rs.places]
    | spawn =>
     simp only
     cases (s.w w).stack.getLast? with
     | some q=>simp [Rs.places]
     | none =>
      have hpa:=hp a hw hor
      simp only
      split
      ·exact spans_put (g:=[]) hpa rfl
      ·exact spans_put (g:=[]) hpa rfl
   | cons i rest =>
    have hser : serL (ser fs fs.length) (s.t a).x (s.t a).h (s.t a).r (s.t a).rem = oneZ (ser fs fs.length) (s.t a).x (s.t a).h (s.t a).r i ++ serL (ser fs fs.length) (s.t a).x (s.t a).h (rankZ (s.t a).r i) rest:=by rw [hr];rfl
    have hspan : span fs (s.t a) = List.range' (s.t a).pl (oneZ (ser fs fs.length) (s.t a).x (s.t a).h (s.t a).r i).length ++ List.range' ((s.t a).pl + (oneZ (ser fs fs.length) (s.t a).x (s.t a).h (s.t a).r i).length) (serL (ser fs fs.length) (s.t a).x (s.t a).h (rankZ (s.t a).r i) rest).length:=by
     unfold span
     rw [hser,List.length_append,← List.range'_append_1]
    simp only
    split
    ·rename_i h1
     have e1 : oneZ (ser fs fs.length) (s.t a).x (s.t a).h (s.t a).r i = [⟨0,i.r,numZ i (s.t a).x⟩]:=by unfold oneZ;rw [if_pos h1]
     have e2 : rankZ (s.t a).r i = (s.t a).r:=by unfold rankZ;rw [if_pos h1]
     refine spans_put (g:=[(s.t a).pl]) ha ?_
     rw [hspan,e1,e2]
     rfl
    ·rename_i h1
     have e2 : rankZ (s.t a).r i = (s.t a).r + 1:=by unfold rankZ;rw [if_neg h1]
     split
     ·rename_i h2
      have e1 : oneZ (ser fs fs.length) (s.t a).x (s.t a).h (s.t a).r i = [⟨0,i.r,drawnZ (s.t a).h (s.t a).r i.k⟩]:=by unfold oneZ;rw [if_neg h1,if_pos h2]
      refine spans_put (g:=[(s.t a).pl]) ha ?_
      rw [hspan,e1,e2]
      rfl
     ·rename_i h2
      have begun : ∀ o,i.op = 3 ∨ i.op = 4 → (spans fs (s.ts.set a { s.t a with rem:=rest,r:=(s.t a).r + 1,pl:=(s.t a).pl + gift fs i.f.toNat } ++ [kid fs (s.t a) a o i]) ++ []).Perm (spans fs s.ts):=fun o hop=>by
       obtain ⟨m,hm,hfm,hmn⟩:=mayB_begins (hta.rem i (by rw [hr];exact List.mem_cons_self ..)).1 (by unfold begins;simpa using hop)
       have hone : oneZ (ser fs fs.length) (s.t a).x (s.t a).h (s.t a).r i = ser fs fs.length m (numZ i (s.t a).x) (stepZ (s.t a).h (s.t a).r):=by
        unfold oneZ
        rw [if_neg h1,if_neg h2,if_pos hop,hm,Int.toNat_natCast]
       obtain ⟨l,hlm⟩ : ∃ l,fs[m]? = some l:=⟨_,List.getElem?_eq_getElem hmn⟩
       have hkid : span fs (kid fs (s.t a) a o i) = List.range' (s.t a).pl (gift fs m):=by
        unfold span kid
        simp only
        rw [hm,Int.toNat_natCast,hlm]
        have e : serL (ser fs fs.length) (numZ i (s.t a).x) (stepZ (s.t a).h (s.t a).r) 0 l = ser fs fs.length m (numZ i (s.t a).x) (stepZ (s.t a).h (s.t a).r):=by
         rw [← ser_deep hok fs.length m (numZ i (s.t a).x) (stepZ (s.t a).h (s.t a).r) (by omega),ser,hlm];rfl
        simp only [Option.getD_some]
        rw [e,gift_len hok hmn]
       rw [spans_app,hkid,List.append_nil]
       refine spans_put ha ?_
       rw [hspan,hone,e2,gift_len hok hmn]
       unfold span
       simp only
       rw [hm,Int.toNat_natCast]
      split
      ·rename_i h3
       exact begun .spawn (.inl h3)
      ·rename_i h3
       split
       ·rename_i h4
        exact begun .call (.inr h4)
       ·rename_i h4
        have e1 : oneZ (ser fs fs.length) (s.t a).x (s.t a).h (s.t a).r i = []:=by unfold oneZ;rw [if_neg h1,if_neg h2,if_neg (by omega)]
        refine spans_put (g:=[]) ha ?_
        rw [hspan,e1,e2]
        rfl
theorem spans_over {s : St} (h : ∀ i,i < s.ts.length → (s.t i).rem = []) : spans fs s.ts = []:=by
 unfold spans
 rw [List.flatten_eq_nil_iff]
 intro l hl
 obtain ⟨t,ht,rfl⟩:=List.mem_map.1 hl
 obtain ⟨i,hi,rfl⟩:=List.getElem_of_mem ht
 have e : s.t i = s.ts[i]:=by unfold St.t;rw [List.getElem?_eq_getElem hi];rfl
 unfold span
 rw [← e,h i hi]
 rfl
end Go.Proofs.YtkmakliebhnhbaaGreat
namespace Go.Proofs.YtkmakliebhnhbaaGreat
open Go.RowKit
theorem sum_set {α : Type} (f : α → Nat) : ∀ (l : List α) (a : Nat) (x : α) (h : a < l.length),((l.set a x).map f).sum + f l[a] = (l.map f).sum + f x
 | y :: l,0,x,_=>by simp;omega
 | y :: l,a + 1,x,h=>by
  have:=sum_set f l a x (by simpa using h)
  simp only [List.set_cons_succ,List.map_cons,List.sum_cons,List.getElem_cons_succ]
  omega
def costW (sub : Nat → Nat) (i : Ins) : Nat:=if i.op = 3 ∨ i.op = 4 then 4 + sub i.f.toNat else 1
def wf (fs : List (List Ins)) : Nat → Nat → Nat
 | 0,_=>0
 | d + 1,f=>((fs[f]?.getD []).map (costW (wf fs d))).sum
theorem wf_deep {fs : List (List Ins)} {nr : Nat} (hok : FsOk fs nr) : ∀ (d f : Nat),fs.length ≤ f + d → wf fs (d + 1) f = wf fs d f
 | 0,f,hf=>by
  simp only [wf]
  rw [List.getElem?_eq_none (by omega)]
  rfl
 | d + 1,f,hf=>by
  rw [wf,wf]
  cases hl : fs[f]? with
  | none=>rfl
  | some l =>
   simp only [Option.getD_some]
   congr 1
   refine List.map_congr_left fun i hi=>?_
   unfold costW
   split
   ·rename_i hop
    obtain ⟨m,hm,hfm,hmn⟩:=mayB_begins (hok f l hl i hi).1 (by unfold begins;simpa using hop)
    rw [hm,Int.toNat_natCast,wf_deep hok d m (by omega)]
   ·rfl
def wT (fs : List (List Ins)) (t : Tk) : Nat:=(t.rem.map (costW (wf fs fs.length))).sum
def wK (k : Wk) : Nat:=(if k.hand.isSome then 1 else 0) + 2 * k.stack.length
def todo (fs : List (List Ins)) (s : St) : Nat:=(s.ts.map (wT fs)).sum
def busy (s : St) : Nat:=(s.ws.map wK).sum
def far (fs : List (List Ins)) (s : St) (L : List Th) : Nat:=todo fs s + busy s + mass L
theorem St.t_eq {s : St} {a : Nat} (h : a < s.ts.length) : s.t a = s.ts[a]:=by unfold St.t;rw [List.getElem?_eq_getElem h];rfl
theorem St.w_eq {s : St} {a : Nat} (h : a < s.ws.length) : s.w a = s.ws[a]:=by unfold St.w;rw [List.getElem?_eq_getElem h];rfl
theorem todo_put {fs : List (List Ins)} {s : St} {a : Nat} (h : a < s.ts.length) (x : Tk) : ((s.ts.set a x).map (wT fs)).sum + wT fs (s.t a) = todo fs s + wT fs x:=by
 rw [St.t_eq h];exact sum_set _ _ _ _ h
theorem busy_put {s : St} {w : Nat} (h : w < s.ws.length) (k : Wk) : busy (s.putW w k) + wK (s.w w) = busy s + wK k:=by
 rw [St.w_eq h];exact sum_set _ _ _ _ h
theorem Linked.stk_mem {s : St} : ∀ {ms : List Nat},∀ q ∈ stkOf s ms,q ∈ ms
 | [],q,h=>by cases h
 | [_],q,h=>by cases h
 | t :: p :: rest,q,h=>by
  simp only [stkOf] at h
  cases ho : s.org t with
  | spawn =>
   rw [ho] at h
   rcases List.mem_cons.1 h with rfl | h
   ·exact List.mem_cons_of_mem _ (List.mem_cons_self ..)
   ·exact List.mem_cons_of_mem _ (Linked.stk_mem q h)
  | root=>rw [ho] at h;exact List.mem_cons_of_mem _ (Linked.stk_mem q h)
  | call=>rw [ho] at h;exact List.mem_cons_of_mem _ (Linked.stk_mem q h)
theorem Linked.stk_lt {s : St} {ms : List Nat} (h : Linked s ms) : ∀ q ∈ stkOf s ms,q < s.ts.length:=fun q hq=>h.lt q (Linked.stk_mem q hq)
theorem Thr.someone {s : St} {L : List Th} (h : Thr s L) (hne : L ≠ []) : ∃ w m,(some w,m) ∈ L:=by
 refine Classical.byContradiction fun hc=>?_
 have key : ∀ k,∀ a m,(none,a :: m) ∈ L → s.ts.length - a = k → False:=by
  intro k
  induction k using Nat.strongRecOn with
  | _ k ih =>
   intro a m ham hk
   have hal:=(h.lnk _ ham).lt a (List.mem_cons_self ..)
   have ho:=(h.asd a m ham).2.2
   have hsum : ∀ (L' : List Th),cnt s L' a ≠ 0 → ∃ th ∈ L',under s a th ≠ 0:=by
    intro L'
    induction L' with
    | nil=>intro g;exact absurd rfl g
    | cons th L' ihL =>
     intro g
     rw [cnt_cons] at g
     by_cases hu : under s a th = 0
     ·obtain ⟨th',g1,g2⟩:=ihL (by omega)
      exact ⟨th',List.mem_cons_of_mem _ g1,g2⟩
     ·exact ⟨th,List.mem_cons_self ..,hu⟩
   obtain ⟨th,hth,hu⟩:=hsum L (fun z=>by rw [h.out a hal,z] at ho;exact ho rfl)
   obtain ⟨o,ms⟩:=th
   cases o with
   | some w=>exact hc ⟨w,ms,hth⟩
   | none =>
    have hl:=h.lnk _ hth
    cases ms with
    | nil=>exact hl
    | cons b ms =>
     have hb : s.org (botOf (b :: ms)) = .spawn:=by
      unfold under at hu
      split at hu
      ·assumption
      ·exact absurd rfl hu
     have hpa : s.par (botOf (b :: ms)) = a:=by
      unfold under at hu
      simp only at hu
      rw [hb] at hu
      simp only at hu
      split at hu
      ·assumption
      ·exact absurd rfl hu
     have h1:=(h.up _ hth hb).2
     simp only at h1
     rw [hpa] at h1
     have h2 : botOf (b :: ms) ≤ b:=hl.le b (List.mem_cons_self ..)
     have h3:=hl.lt b (List.mem_cons_self ..)
     exact ih (s.ts.length - b) (by omega) b ms hth rfl
 cases L with
 | nil=>exact hne rfl
 | cons th L =>
  obtain ⟨o,ms⟩:=th
  cases o with
  | some w=>exact hc ⟨w,ms,List.mem_cons_self ..⟩
  | none =>
   cases ms with
   | nil=>exact h.lnk _ (List.mem_cons_self ..)
   | cons a m=>exact key _ a m (List.mem_cons_self ..) rfl
end Go.Proofs.YtkmakliebhnhbaaGreat
namespace Go.Proofs.YtkmakliebhnhbaaGreat
open Go.RowKit
variable {fs : List (List Ins)} {nr : Nat} {T : List Ev}
theorem wT_cons {t : Tk} {i : Ins} {rest : List Ins} (h : t.rem = i :: rest) : wT fs t = costW (wf fs fs.length) i + (rest.map (costW (wf fs fs.length))).sum:=by unfold wT;rw [h];simp
theorem cost_pos (i : Ins) : 1 ≤ costW (wf fs fs.length) i:=by unfold costW;split <;> omega
theorem wT_kid (hok : FsOk fs nr) {t : Tk} {i : Ins} {f p : Nat} {o : Org} (hi : mayB fs.length nr f i = true) (hop : i.op = 3 ∨ i.op = 4) : wT fs (kid fs t p o i) + 4 = costW (wf fs fs.length) i:=by
 obtain ⟨m,hm,hfm,hmn⟩:=mayB_begins hi (by unfold begins;simpa using hop)
 unfold costW
 rw [if_pos hop,hm,Int.toNat_natCast,← wf_deep hok fs.length m (by omega)]
 unfold wT kid
 simp only [wf]
 rw [hm,Int.toNat_natCast]
 omega
theorem St.hand_busy {s : St} {w : Nat} (hw : w < s.ws.length) (o : Option Nat) : busy (s.hand w o) + (if (s.w w).hand.isSome then 1 else 0) = busy s + (if o.isSome then 1 else 0):=by
 have:=busy_put hw ⟨o,(s.w w).stack⟩
 unfold wK at this
 simp only at this
 show busy (s.putW w ⟨o,(s.w w).stack⟩) + _ = _
 omega
theorem St.stk_busy {s : St} {w : Nat} (hw : w < s.ws.length) (l : List Nat) : busy (s.stk w l) + 2 * (s.w w).stack.length = busy s + 2 * l.length:=by
 have:=busy_put hw ⟨(s.w w).hand,l⟩
 unfold wK at this
 simp only at this
 show busy (s.putW w ⟨(s.w w).hand,l⟩) + _ = _
 omega
theorem todo_same {s : St} {a : Nat} (h : a < s.ts.length) {x : Tk} (hr : x.rem = (s.t a).rem) : ((s.ts.set a x).map (wT fs)).sum = todo fs s:=by
 have:=todo_put (fs:=fs) h x
 have e : wT fs x = wT fs (s.t a):=by unfold wT;rw [hr]
 omega
theorem far_lt {s s' : St} {L L' : List Th} {a b c d e : Nat} (h1 : todo fs s' + a = todo fs s) (h2 : busy s' + b = busy s + c) (h3 : mass L' + d = mass L + e) (h4 : c + e < a + b + d) : far fs s' L' < far fs s L:=by
 unfold far;omega
theorem Thr.goes (hok : FsOk fs nr) {s : St} {L : List Th} (hs : ∀ t ∈ s.ts,TkOk fs nr T t) (h : Thr s L) {w : Nat} (hw : w < s.ws.length) (v : Nat) :
  (stepM fs s w v).2 = .done ∨ (stepM fs s w v = (s,.failed) ∧ (s.w w).hand = none) ∨ ∃ L',Thr (stepM fs s w v).1 L' ∧ L' ≠ [] ∧ far fs (stepM fs s w v).1 L' < far fs s L:=by
 unfold stepM
 rcases h.wk w hw with ⟨a,m,hm,hha,hst⟩ | ⟨hha,hst,hno⟩
 ·obtain ⟨L0,hp⟩:=front hm
  have hmp:=mass_perm hp
  have hL:=h.perm hp
  have hlk:=hL.lnk _ (List.mem_cons_self ..)
  have ha:=hlk.lt a (List.mem_cons_self ..)
  have hocc : occ ((some w,a :: m) :: L0) a ≠ 0:=by
   have:=occ_mem (L:=(some w,a :: m) :: L0) (List.mem_cons_self ..) (i:=a) (List.mem_cons_self ..)
   omega
  have hbz : ∀ o,busy (s.hand w o) + 1 = busy s + (if o.isSome then 1 else 0):=fun o=>by
   have:=St.hand_busy hw o
   rw [hha] at this
   simpa using this
  rw [hha]
  simp only
  by_cases hwt : waits (s.t a) = true
  ·rw [if_pos hwt]
   have ho : (s.t a).out ≠ 0:=by
    unfold waits at hwt
    rw [Bool.and_eq_true] at hwt
    simpa using hwt.1
   refine .inr (.inr ⟨_,hL.aside ho,by simp,?_⟩)
   refine far_lt (a:=0) (b:=1) (c:=0) (d:=0) (e:=0) (todo_same (fs:=fs) ha rfl) (hbz none) ?_ (by omega)
   rw [hmp,mass_cons,mass_cons]
  ·rw [if_neg hwt]
   cases hr : (s.t a).rem with
   | nil =>
    have ho : (s.t a).out = 0:=by
     unfold waits at hwt
     rw [hr] at hwt
     simpa using hwt
    simp only
    cases hor : (s.t a).org with
    | root=>exact .inl rfl
    | call =>
     right;right
     cases m with
     | nil =>
      rcases hlk.2 with g | g
      ·unfold St.org at g;rw [hor] at g;cases g
      ·unfold St.org at g;rw [hor] at g;cases g
     | cons p m =>
      have hpp : (s.t a).par = p:=hlk.2.1
      refine ⟨_,hL.pop hr ho _ rfl (by simp) fun j=>?_,by simp,?_⟩
      ·rw [St.w_hand s _ hw,hst,hpp]
       simp only [stkOf,St.org,hor]
      ·refine far_lt (a:=0) (b:=1) (c:=1) (d:=1) (e:=0) rfl (hbz (some (s.t a).par)) ?_ (by omega)
       rw [hmp,mass_cons,mass_cons]
       simp only [List.length_cons]
       omega
    | spawn =>
     right;right
     cases m with
     | nil =>
      have hst0 : (s.w w).stack = []:=by rw [hst];rfl
      have hup:=hL.up _ (List.mem_cons_self ..) hor
      simp only [botOf,St.par] at hup
      have hpl : (s.t a).par < s.ts.length:=by omega
      simp only [hst0,List.getLast?_nil]
      by_cases hc : (s.t (s.t a).par).out - 1 = 0 ∧ (s.t (s.t a).par).asd = true
      ·rw [if_pos hc]
       obtain ⟨m',hm'⟩:=hL.asd' _ hpl hc.2
       rcases List.mem_cons.1 hm' with hm' | hm'
       ·cases hm'
       ·obtain ⟨L1,hp1⟩:=front hm'
        refine ⟨_,(hL.perm (hp1.cons _)).wake hr ho hor rfl,by simp,?_⟩
        refine far_lt (a:=0) (b:=1) (c:=1) (d:=1) (e:=0) (todo_same (fs:=fs) hpl rfl) (hbz (some (s.t a).par)) ?_ (by omega)
        rw [hmp,mass_cons,mass_cons _ L0,mass_perm hp1,mass_cons]
        simp only [List.length_cons,List.length_nil]
        omega
      ·rw [if_neg hc]
       refine ⟨_,hL.join hr ho hor rfl hc,fun z=>?_,?_⟩
       ·rw [z,occ_cons] at hup
        have h1:=hup.1
        simp only [occ,List.map_nil,List.sum_nil,Nat.add_zero] at h1
        rw [List.count_singleton] at h1
        split at h1
        ·rename_i e
         have : a = (s.t a).par:=by simpa using e
         omega
        ·omega
       ·refine far_lt (a:=0) (b:=1) (c:=0) (d:=1) (e:=0) (todo_same (fs:=fs) hpl rfl) (hbz none) ?_ (by omega)
        rw [hmp,mass_cons]
        simp only [List.length_cons,List.length_nil]
        omega
     | cons p m =>
      have hpp : (s.t a).par = p:=hlk.2.1
      have hst1 : (s.w w).stack = (stkOf s (p :: m)).reverse ++ [p]:=by
       rw [hst]
       simp only [stkOf,St.org,hor]
       rw [List.reverse_cons]
      rw [hst1]
      simp only [List.getLast?_append,List.getLast?_singleton,Option.some_or,List.dropLast_concat]
      refine ⟨_,hL.pop hr ho _ rfl (by simp) fun j=>?_,by simp,?_⟩
      ·rw [St.w_stk _ _ (by simpa using hw),St.w_hand s _ hw,if_pos rfl,St.w_hand s _ hw]
       by_cases e : j = w
       ·rw [if_pos e,if_pos e]
       ·rw [if_neg e,if_neg e,if_neg e]
      ·have e2:=hbz (some p)
       have e4:=St.stk_busy (s:=s.hand w (some p)) (w:=w) (by simpa using hw) (stkOf s (p :: m)).reverse
       rw [St.w_hand s _ hw,if_pos rfl] at e4
       simp only at e4
       rw [hst1,List.length_append] at e4
       simp only [Option.isSome_some,if_true,List.length_cons,List.length_nil] at e2 e4
       refine far_lt (a:=0) (b:=2) (c:=0) (d:=1) (e:=0) rfl (s':=(s.hand w (some p)).stk w (stkOf s (p :: m)).reverse) (by omega) ?_ (by omega)
       rw [hmp,mass_cons,mass_cons]
       simp only [List.length_cons]
       omega
   | cons i rest =>
    have hwc:=wT_cons (fs:=fs) hr
    have hcp:=cost_pos (fs:=fs) i
    have hless : ∀ (x : Tk),x.rem = rest → far fs (s.putT a x) ((some w,a :: m) :: L0) < far fs s L:=fun x hx=>by
     have e1:=todo_put (fs:=fs) ha x
     have e2 : wT fs x = (rest.map (costW (wf fs fs.length))).sum:=by unfold wT;rw [hx]
     refine far_lt (a:=costW (wf fs fs.length) i) (b:=0) (c:=0) (d:=0) (e:=0) ?_ rfl (by rw [hmp]) (by omega)
     show ((s.ts.set a x).map (wT fs)).sum + _ = _
     omega
    simp only
    right;right
    by_cases e1 : i.op = 1
    ·rw [if_pos e1];exact ⟨_,hL.doing ha rfl rfl rfl rfl hocc,by simp,hless _ rfl⟩
    rw [if_neg e1]
    by_cases e2 : i.op = 2
    ·rw [if_pos e2];exact ⟨_,hL.doing ha rfl rfl rfl rfl hocc,by simp,hless _ rfl⟩
    rw [if_neg e2]
    have hb:=hL.doing (t:={ s.t a with rem:=rest,r:=(s.t a).r + 1,pl:=(s.t a).pl + gift fs i.f.toNat }) ha rfl rfl rfl rfl hocc
    have hsl : (s.putT a { s.t a with rem:=rest,r:=(s.t a).r + 1,pl:=(s.t a).pl + gift fs i.f.toNat }).ts.length = s.ts.length:=by simp
    have hmay:=((hs _ (St.t_mem ha)).rem i (by rw [hr];exact List.mem_cons_self ..)).1
    have htd' : ∀ (x : Tk) o,x.rem = rest → i.op = 3 ∨ i.op = 4 → ((s.ts.set a x ++ [kid fs (s.t a) a o i]).map (wT fs)).sum + 4 = todo fs s:=fun x o hx hop=>by
     have k1:=todo_put (fs:=fs) ha x
     have k2:=wT_kid (fs:=fs) hok (t:=s.t a) (p:=a) (o:=o) hmay hop
     have k3 : wT fs x = (rest.map (costW (wf fs fs.length))).sum:=by unfold wT;rw [hx]
     rw [List.map_append,List.sum_append]
     simp only [List.map_cons,List.map_nil,List.sum_cons,List.sum_nil]
     omega
    by_cases e3 : i.op = 3
    ·rw [if_pos e3]
     have g:=hb.begin (n:=kid fs (s.t a) a .spawn i) rfl (by simp [kid]) rfl rfl
      (({ (s.putT a { s.t a with rem:=rest,r:=(s.t a).r + 1,pl:=(s.t a).pl + gift fs i.f.toNat }).stk w ((s.w w).stack ++ [a]) with ts:=(s.ts.set a { s.t a with rem:=rest,r:=(s.t a).r + 1,pl:=(s.t a).pl + gift fs i.f.toNat }) ++ [kid fs (s.t a) a .spawn i] } : St).hand w (some s.ts.length)) rfl (by simp [St.stk,St.putW,St.putT]) fun j=>by
       have k1:=St.w_hand ({ (s.putT a { s.t a with rem:=rest,r:=(s.t a).r + 1,pl:=(s.t a).pl + gift fs i.f.toNat }).stk w ((s.w w).stack ++ [a]) with ts:=(s.ts.set a { s.t a with rem:=rest,r:=(s.t a).r + 1,pl:=(s.t a).pl + gift fs i.f.toNat }) ++ [kid fs (s.t a) a .spawn i] } : St) (i:=w) (some s.ts.length) (by simpa [St.stk,St.putW,St.putT] using hw) j
       have k2 : ∀ j,({ (s.putT a { s.t a with rem:=rest,r:=(s.t a).r + 1,pl:=(s.t a).pl + gift fs i.f.toNat }).stk w ((s.w w).stack ++ [a]) with ts:=(s.ts.set a { s.t a with rem:=rest,r:=(s.t a).r + 1,pl:=(s.t a).pl + gift fs i.f.toNat }) ++ [kid fs (s.t a) a .spawn i] } : St).w j = if j = w then ⟨(s.w w).hand,(s.w w).stack ++ [a]⟩ else s.w j:=fun j=>St.w_stk s _ hw j
       rw [k1,k2 w,if_pos rfl,k2 j,hsl]
       by_cases e : j = w
       ·rw [if_pos e,if_pos e];rfl
       ·rw [if_neg e,if_neg e,if_neg e];rfl
     rw [hsl] at g
     refine ⟨_,g,by simp,?_⟩
     have k1:=htd' { s.t a with rem:=rest,r:=(s.t a).r + 1,pl:=(s.t a).pl + gift fs i.f.toNat } .spawn rfl (.inl e3)
     have k2:=St.stk_busy (s:=s) hw ((s.w w).stack ++ [a])
     rw [List.length_append] at k2
     have k3:=St.hand_busy (s:=s.stk w ((s.w w).stack ++ [a])) (w:=w) (by simpa using hw) (some s.ts.length)
     rw [St.w_stk s _ hw,if_pos rfl,hha] at k3
     simp only [Option.isSome_some,if_true,List.length_cons,List.length_nil] at k2 k3
     have k4 : busy ((s.stk w ((s.w w).stack ++ [a])).hand w (some s.ts.length)) + 0 = busy s + 2:=by omega
     refine far_lt (a:=4) (b:=0) (c:=2) (d:=0) (e:=1) k1 k4 ?_ (by omega)
     rw [hmp,mass_cons,mass_cons]
     simp only [List.length_cons]
     omega
    rw [if_neg e3]
    by_cases e4 : i.op = 4
    ·rw [if_pos e4]
     have g:=hb.begin (n:=kid fs (s.t a) a .call i) rfl (by simp [kid]) rfl rfl
      (({ s.putT a { s.t a with rem:=rest,r:=(s.t a).r + 1,pl:=(s.t a).pl + gift fs i.f.toNat } with ts:=(s.ts.set a { s.t a with rem:=rest,r:=(s.t a).r + 1,pl:=(s.t a).pl + gift fs i.f.toNat }) ++ [kid fs (s.t a) a .call i] } : St).hand w (some s.ts.length)) rfl (by simp [St.putT]) fun j=>by
       have k1:=St.w_hand ({ s.putT a { s.t a with rem:=rest,r:=(s.t a).r + 1,pl:=(s.t a).pl + gift fs i.f.toNat } with ts:=(s.ts.set a { s.t a with rem:=rest,r:=(s.t a).r + 1,pl:=(s.t a).pl + gift fs i.f.toNat }) ++ [kid fs (s.t a) a .call i] } : St) (i:=w) (some s.ts.length) hw j
       rw [k1,hsl]
       rfl
     rw [hsl] at g
     refine ⟨_,g,by simp,?_⟩
     have k1:=htd' { s.t a with rem:=rest,r:=(s.t a).r + 1,pl:=(s.t a).pl + gift fs i.f.toNat } .call rfl (.inr e4)
     refine far_lt (a:=4) (b:=1) (c:=1) (d:=0) (e:=1) k1 (hbz (some s.ts.length)) ?_ (by omega)
     rw [hmp,mass_cons,mass_cons]
     simp only [List.length_cons]
     omega
    rw [if_neg e4]
    exact ⟨_,hL.doing ha rfl rfl rfl rfl hocc,by simp,hless _ rfl⟩
 ·rw [hha]
  simp only
  cases hv : (s.w v).stack with
  | nil=>exact .inr (.inl ⟨rfl,trivial⟩)
  | cons q rest =>
   right;right
   have hvl : v < s.ws.length:=by
    rcases Nat.lt_or_ge v s.ws.length with g | g
    ·exact g
    ·unfold St.w at hv
     rw [List.getElem?_eq_none g] at hv
     cases hv
   rcases h.wk v hvl with ⟨a,m,hm,hha',hst'⟩ | ⟨_,g2,_⟩
   ·obtain ⟨L0,hp⟩:=front hm
    obtain ⟨L',g1,g2,g3,g4⟩:=(h.perm hp).steal hw hha hv
    refine ⟨L',g1,g2,?_⟩
    have hq : q < s.ts.length:=by
     have : q ∈ stkOf s (a :: m):=by
      have h1 : q ∈ (stkOf s (a :: m)).reverse:=by rw [← hst',hv];exact List.mem_cons_self ..
      simpa using h1
     exact (h.lnk _ hm).stk_lt q this
    have e2:=St.hand_busy hw (some q)
    rw [hha] at e2
    have e3:=St.stk_busy (s:=s.hand w (some q)) (w:=v) (by simpa using hvl) rest
    rw [St.w_hand s _ hw,if_neg (fun z=>g4 z.symm),hv] at e3
    simp only [Option.isSome_none,Option.isSome_some,if_true,List.length_cons] at e2 e3
    have k4 : busy ((s.hand w (some q)).stk v rest) + 1 = busy s + 0:=by
     have : (if false = true then 1 else 0 : Nat) = 0:=rfl
     omega
    exact far_lt (a:=0) (b:=1) (c:=0) (d:=0) (e:=0) (todo_same (fs:=fs) hq rfl) k4 (by rw [g3,mass_perm hp]) (by omega)
   ·rw [g2] at hv;cases hv
end Go.Proofs.YtkmakliebhnhbaaGreat
namespace Go.Proofs.YtkmakliebhnhbaaGreat
open Go.RowKit
structure Inv (fs : List (List Ins)) (nr : Nat) (T : List Ev) (workers : Nat) (s : St) (G : List Nat) (F : Nat) : Prop where
 ok : ∀ t ∈ s.ts,TkOk fs nr T t
 ws : s.ws.length = workers
 pl : (spans fs s.ts ++ G).Perm (List.range' 0 T.length)
 thr : ∃ L,Thr s L ∧ L ≠ [] ∧ far fs s L ≤ F
variable {fs : List (List Ins)} {nr : Nat} {T : List Ev}
theorem Thr.handed {s : St} {L : List Th} (h : Thr s L) {w : Nat} (hw : w < s.ws.length) : (∀ a,(s.w w).hand = some a → a < s.ts.length) ∧ ∀ a,(s.w w).hand = some a → (s.t a).org = .spawn → (s.t a).par < s.ts.length:=by
 have key : ∀ a,(s.w w).hand = some a → ∃ m,(some w,a :: m) ∈ L:=fun a ha=>by
  rcases h.wk w hw with ⟨b,m,g1,g2,_⟩ | ⟨g1,_,_⟩
  ·rw [ha] at g2;injection g2 with g2;rw [g2];exact ⟨m,g1⟩
  ·rw [ha] at g1;cases g1
 refine ⟨fun a ha=>?_,fun a ha hor=>?_⟩
 ·obtain ⟨m,hm⟩:=key a ha
  exact (h.lnk _ hm).lt a (List.mem_cons_self ..)
 ·obtain ⟨m,hm⟩:=key a ha
  have hl:=h.lnk _ hm
  have hal:=hl.lt a (List.mem_cons_self ..)
  cases m with
  | nil =>
   have:=(h.up _ hm hor).2
   simp only [botOf,St.par] at this
   omega
  | cons p m =>
   have h1 : (s.t a).par = p:=hl.2.1
   have h2:=hl.2.2.1
   omega
theorem Thr.stacked {s : St} {L : List Th} (h : Thr s L) (v : Nat) : ∀ q ∈ (s.w v).stack,q < s.ts.length:=fun q hq=>by
 have hvl : v < s.ws.length:=by
  rcases Nat.lt_or_ge v s.ws.length with g | g
  ·exact g
  ·unfold St.w at hq
   rw [List.getElem?_eq_none g] at hq
   cases hq
 rcases h.wk v hvl with ⟨a,m,hm,_,hst⟩ | ⟨_,g2,_⟩
 ·rw [hst] at hq
  exact (h.lnk _ hm).stk_lt q (by simpa using hq)
 ·rw [g2] at hq;cases hq
theorem stepM_ws (s : St) (w v : Nat) : (stepM fs s w v).1.ws.length = s.ws.length:=by
 have hh : ∀ (s : St) (i : Nat) (o : Option Nat),(s.hand i o).ws.length = s.ws.length:=fun s i o=>St.hand_wlen s i o
 unfold stepM
 split
 ·split <;> simp
 ·simp only
  split
  ·simp
  ·split
   ·split
    ·simp
    ·simp
    ·split
     ·simp
     ·split <;> simp
   ·split
    ·simp
    ·split
     ·simp
     ·split
      ·simp [St.hand,St.putW,St.stk,St.putT]
      ·split
       ·simp [St.hand,St.putW,St.putT]
       ·simp
theorem Inv.step (hok : FsOk fs nr) (hl10 : ∀ l ∈ fs,l.length ≤ 10) {workers : Nat} {s : St} {G : List Nat} {F : Nat} (h : Inv fs nr T workers s G F) {w : Nat} (hw : w < workers) (v : Nat) :
  (∀ r n p,(stepM fs s w v).2 = .gave r n p → T[p]? = some ⟨0,r,n⟩) ∧
  ((stepM fs s w v).2 = .done ∧ G.Perm (List.range' 0 T.length) ∨ (stepM fs s w v).2 ≠ .done ∧
   (stepM fs s w v = (s,.failed) ∧ (s.w w).hand = none ∨ 1 ≤ F ∧ Inv fs nr T workers (stepM fs s w v).1 (G ++ (stepM fs s w v).2.places) (F - 1))):=by
 obtain ⟨L,hL,hne,hF⟩:=h.thr
 have hw' : w < s.ws.length:=by rw [h.ws];exact hw
 obtain ⟨k1,k2⟩:=stepM_ok (v:=v) hok hl10 h.ok (hL.handed hw').1 (hL.stacked v) (hL.handed hw').2
 have k3:=stepM_places (v:=v) hok h.ok (hL.handed hw').1 (hL.stacked v) (hL.handed hw').2
 refine ⟨k2,?_⟩
 by_cases hd : (stepM fs s w v).2 = .done
 ·refine .inl ⟨hd,?_⟩
  have:=h.pl
  rw [spans_over (hL.over fs hw' v hd)] at this
  exact this
 ·refine .inr ⟨hd,?_⟩
  rcases hL.goes hok h.ok hw' v with g | g | ⟨L',g1,g2,g3⟩
  ·exact absurd g hd
  ·exact .inl g
  ·refine .inr ⟨by omega,k1,by rw [stepM_ws,h.ws],?_,L',g1,g2,by omega⟩
   refine .trans ?_ h.pl
   refine (List.Perm.append_left _ List.perm_append_comm).trans ?_
   rw [← List.append_assoc]
   exact k3.append_right G
end Go.Proofs.YtkmakliebhnhbaaGreat
namespace Go.Proofs.YtkmakliebhnhbaaGreat
open Go.RowKit
theorem least {P : Nat → Prop} : ∀ n,P n → ∃ m,m ≤ n ∧ P m ∧ ∀ j,j < m → ¬P j:=by
 intro n
 induction n using Nat.strongRecOn with
 | _ n ih =>
  intro h
  by_cases hc : ∃ j,j < n ∧ P j
  ·obtain ⟨j,hj,hp⟩:=hc
   obtain ⟨m,h1,h2,h3⟩:=ih j hj hp
   exact ⟨m,by omega,h2,h3⟩
  ·exact ⟨n,Nat.le_refl _,h,fun j hj hp=>hc ⟨j,hj,hp⟩⟩
theorem turnM_lt {workers : Nat} (hw : 1 ≤ workers) (script : List (Int × Int)) (k : Nat) : (turnM workers script k).1 < workers ∧ (turnM workers script k).2 < workers:=by
 unfold turnM
 split
 ·exact ⟨Nat.mod_lt _ hw,Nat.mod_lt _ hw⟩
 ·exact ⟨Nat.mod_lt _ hw,Nat.mod_lt _ hw⟩
theorem turnM_after {workers : Nat} (script : List (Int × Int)) (i j : Nat) (hj : j < workers) : (turnM workers script (script.length + i * workers + j)).1 = j:=by
 unfold turnM
 rw [List.getElem?_eq_none (by omega)]
 simp only
 rw [show script.length + i * workers + j - script.length = j + i * workers by omega,Nat.add_mul_mod_self_right,Nat.mod_eq_of_lt hj]
variable {fs : List (List Ins)} {nr : Nat} {T : List Ev}
theorem Inv.mono {workers : Nat} {s : St} {G : List Nat} {F F' : Nat} (h : Inv fs nr T workers s G F) (hF : F ≤ F') : Inv fs nr T workers s G F':=by
 obtain ⟨L,h1,h2,h3⟩:=h.thr
 exact ⟨h.ok,h.ws,h.pl,L,h1,h2,by omega⟩
section
variable (fs) (workers : Nat) (script : List (Int × Int)) (seed x : Int)
def stAt (k : Nat) : St:=(runM fs workers script seed x k).1
def rsAt (k : Nat) : Rs:=(stepM fs (stAt fs workers script seed x k) (turnM workers script k).1 (turnM workers script k).2).2
def evAt (k : Nat) : List Rs:=(runM fs workers script seed x k).2
def plAt (k : Nat) : List Nat:=((evAt fs workers script seed x k).map Rs.places).flatten
theorem stAt_succ (k : Nat) : stAt fs workers script seed x (k + 1) = (stepM fs (stAt fs workers script seed x k) (turnM workers script k).1 (turnM workers script k).2).1:=rfl
theorem evAt_succ (k : Nat) : evAt fs workers script seed x (k + 1) = evAt fs workers script seed x k ++ [rsAt fs workers script seed x k]:=rfl
theorem plAt_succ (k : Nat) : plAt fs workers script seed x (k + 1) = plAt fs workers script seed x k ++ (rsAt fs workers script seed x k).places:=by
 unfold plAt
 rw [evAt_succ,List.map_append,List.flatten_append]
 simp
end
section
variable {workers : Nat} {script : List (Int × Int)} {seed x : Int}
theorem inv_on (hok : FsOk fs nr) (hl10 : ∀ l ∈ fs,l.length ≤ 10) (hw : 1 ≤ workers) {k F : Nat} (h : Inv fs nr T workers (stAt fs workers script seed x k) (plAt fs workers script seed x k) F) (hd : rsAt fs workers script seed x k ≠ .done) :
  stAt fs workers script seed x (k + 1) = stAt fs workers script seed x k ∧ ((stAt fs workers script seed x k).w (turnM workers script k).1).hand = none ∧ Inv fs nr T workers (stAt fs workers script seed x (k + 1)) (plAt fs workers script seed x (k + 1)) F ∨
  1 ≤ F ∧ Inv fs nr T workers (stAt fs workers script seed x (k + 1)) (plAt fs workers script seed x (k + 1)) (F - 1):=by
 rcases (h.step hok hl10 (turnM_lt hw script k).1 (turnM workers script k).2).2 with ⟨g,_⟩ | ⟨_,⟨g1,g2⟩ | ⟨g1,g2⟩⟩
 ·exact absurd g hd
 ·refine .inl ⟨?_,g2,?_⟩
  ·rw [stAt_succ,g1]
  ·rw [stAt_succ,plAt_succ]
   unfold rsAt
   rw [g1]
   simpa [Rs.places] using h
 ·refine .inr ⟨g1,?_⟩
  rw [stAt_succ,plAt_succ]
  exact g2
theorem inv_at (hok : FsOk fs nr) (hl10 : ∀ l ∈ fs,l.length ≤ 10) (hw : 1 ≤ workers) {k0 F : Nat} (h : Inv fs nr T workers (stAt fs workers script seed x k0) (plAt fs workers script seed x k0) F) : ∀ j,(∀ i,i < j → rsAt fs workers script seed x (k0 + i) ≠ .done) → Inv fs nr T workers (stAt fs workers script seed x (k0 + j)) (plAt fs workers script seed x (k0 + j)) F
 | 0,_=>h
 | j + 1,hd=>by
  rcases inv_on hok hl10 hw (inv_at hok hl10 hw h j (fun i hi=>hd i (by omega))) (hd j (by omega)) with ⟨_,_,g⟩ | ⟨_,g⟩
  ·exact g
  ·exact g.mono (by omega)
theorem inv_round (hok : FsOk fs nr) (hl10 : ∀ l ∈ fs,l.length ≤ 10) (hw : 1 ≤ workers) {i F : Nat} (h : Inv fs nr T workers (stAt fs workers script seed x (script.length + i * workers)) (plAt fs workers script seed x (script.length + i * workers)) F) :
  ∀ j,j ≤ workers → (∀ l,l < j → rsAt fs workers script seed x (script.length + i * workers + l) ≠ .done) →
   (stAt fs workers script seed x (script.length + i * workers + j) = stAt fs workers script seed x (script.length + i * workers) ∧ ∀ l,l < j → ((stAt fs workers script seed x (script.length + i * workers)).w l).hand = none) ∨
   1 ≤ F ∧ Inv fs nr T workers (stAt fs workers script seed x (script.length + i * workers + j)) (plAt fs workers script seed x (script.length + i * workers + j)) (F - 1)
 | 0,_,_=>.inl ⟨rfl,fun l hl=>by omega⟩
 | j + 1,hj,hd=>by
  have hI:=inv_at hok hl10 hw h j (fun l hl=>hd l (by omega))
  rcases inv_round hok hl10 hw h j (by omega) (fun l hl=>hd l (by omega)) with ⟨g1,g2⟩ | ⟨g1,g2⟩
  ·rcases inv_on hok hl10 hw hI (hd j (by omega)) with ⟨e1,e2,_⟩ | ⟨e1,e2⟩
   ·rw [turnM_after script i j (by omega),g1] at e2
    refine .inl ⟨e1.trans g1,fun l hl=>?_⟩
    rcases Nat.lt_succ_iff_lt_or_eq.1 hl with hl | hl
    ·exact g2 l hl
    ·rw [hl];exact e2
   ·exact .inr ⟨e1,e2⟩
  ·rcases inv_on hok hl10 hw g2 (hd j (by omega)) with ⟨_,_,e⟩ | ⟨_,e⟩
   ·exact .inr ⟨g1,e⟩
   ·exact .inr ⟨g1,e.mono (by omega)⟩
theorem run_done (hok : FsOk fs nr) (hl10 : ∀ l ∈ fs,l.length ≤ 10) (hw : 1 ≤ workers) : ∀ (F i : Nat),Inv fs nr T workers (stAt fs workers script seed x (script.length + i * workers)) (plAt fs workers script seed x (script.length + i * workers)) F →
  ∃ n,n < script.length + (i + F + 1) * workers ∧ rsAt fs workers script seed x n = .done:=by
 intro F
 induction F with
 | zero =>
  intro i h
  refine Classical.byContradiction fun hc=>?_
  have hd : ∀ l,l < workers → rsAt fs workers script seed x (script.length + i * workers + l) ≠ .done:=fun l hl g=>hc ⟨_,by rw [Nat.add_zero,Nat.add_mul];omega,g⟩
  rcases inv_round hok hl10 hw h workers (Nat.le_refl _) hd with ⟨_,g2⟩ | ⟨g1,_⟩
  ·obtain ⟨L,h1,h2,_⟩:=h.thr
   obtain ⟨w,m,hm⟩:=h1.someone h2
   have hwl:=h1.wl w m hm
   rw [h.ws] at hwl
   rcases h1.wk w (h1.wl w m hm) with ⟨a,m',_,e,_⟩ | ⟨_,_,e⟩
   ·rw [g2 w hwl] at e;cases e
   ·exact e m hm
  ·omega
 | succ F ih =>
  intro i h
  refine Classical.byContradiction fun hc=>?_
  have hd : ∀ l,l < workers → rsAt fs workers script seed x (script.length + i * workers + l) ≠ .done:=fun l hl g=>hc ⟨_,by
   rw [show i + (F + 1) + 1 = i + (F + 2) by omega,Nat.add_mul,Nat.add_mul];omega,g⟩
  rcases inv_round hok hl10 hw h workers (Nat.le_refl _) hd with ⟨_,g2⟩ | ⟨_,g2⟩
  ·obtain ⟨L,h1,h2,_⟩:=h.thr
   obtain ⟨w,m,hm⟩:=h1.someone h2
   have hwl:=h1.wl w m hm
   rw [h.ws] at hwl
   rcases h1.wk w (h1.wl w m hm) with ⟨a,m',_,e,_⟩ | ⟨_,_,e⟩
   ·rw [g2 w hwl] at e;cases e
   ·exact e m hm
  ·have e : script.length + i * workers + workers = script.length + (i + 1) * workers:=by rw [Nat.add_mul];omega
   rw [e] at g2
   obtain ⟨n,h1,h2⟩:=ih (i + 1) g2
   exact hc ⟨n,by rw [show i + (F + 1) + 1 = i + 1 + F + 1 by omega];exact h1,h2⟩
theorem inv_start (hok : FsOk fs nr) (hl10 : ∀ l ∈ fs,l.length ≤ 10) (hw : 1 ≤ workers) (h0 : 0 < fs.length) : Inv fs nr (ser fs fs.length 0 x seed) workers (stAt fs workers script seed x 0) (plAt fs workers script seed x 0) (far fs (start fs workers seed x) [(some 0,[0])]):=by
 obtain ⟨l,hl⟩ : ∃ l,fs[0]? = some l:=⟨_,List.getElem?_eq_getElem h0⟩
 have e : serL (ser fs fs.length) x seed 0 l = ser fs fs.length 0 x seed:=by
  rw [← ser_deep hok fs.length 0 x seed (by omega),ser,hl];rfl
 refine ⟨fun t ht=>?_,?_,?_,_,thr_start fs hw seed x,by simp,Nat.le_refl _⟩
 ·have ht' : t = ⟨0,x,seed,0,fs[0]?.getD [],0,0,false,0,.root⟩:=by simpa [stAt,runM,start] using ht
  subst ht'
  refine ⟨h0,?_,?_,by simp,?_⟩
  ·simp only;rw [hl];exact fun i hi=>hok 0 l hl i hi
  ·simp only;rw [hl];simpa using hl10 l (List.mem_of_getElem? hl)
  ·simp only
   rw [hl,Option.getD_some,e,List.drop_zero]
   exact List.prefix_refl _
 ·show (start fs workers seed x).ws.length = workers
  simp [start];omega
 ·show (spans fs (start fs workers seed x).ts ++ []).Perm _
  rw [List.append_nil]
  unfold spans start span
  simp only [List.map_cons,List.map_nil,List.flatten_cons,List.flatten_nil,List.append_nil]
  rw [hl,Option.getD_some,e]
theorem run_whole (hok : FsOk fs nr) (hl10 : ∀ l ∈ fs,l.length ≤ 10) (hw : 1 ≤ workers) (h0 : 0 < fs.length) (script : List (Int × Int)) (seed x : Int) :
  ∃ n,n < script.length + (far fs (start fs workers seed x) [(some 0,[0])] + 1) * workers ∧ rsAt fs workers script seed x n = .done ∧ (∀ j,j < n → rsAt fs workers script seed x j ≠ .done) ∧
   (∀ j,j ≤ n → Inv fs nr (ser fs fs.length 0 x seed) workers (stAt fs workers script seed x j) (plAt fs workers script seed x j) (far fs (start fs workers seed x) [(some 0,[0])])) ∧
   (plAt fs workers script seed x n).Perm (List.range' 0 (ser fs fs.length 0 x seed).length) ∧
   ∀ j,j < n → ∀ r m p,rsAt fs workers script seed x j = .gave r m p → (ser fs fs.length 0 x seed)[p]? = some ⟨0,r,m⟩:=by
 have hI:=inv_start (script:=script) (seed:=seed) (x:=x) hok hl10 hw h0
 have hex : ∃ n,n < script.length + (far fs (start fs workers seed x) [(some 0,[0])] + 1) * workers ∧ rsAt fs workers script seed x n = .done:=by
  by_cases hc : ∃ j,j < script.length ∧ rsAt fs workers script seed x j = .done
  ·obtain ⟨j,h1,h2⟩:=hc
   exact ⟨j,by omega,h2⟩
  ·have:=inv_at hok hl10 hw hI script.length (fun i hi g=>hc ⟨i,hi,by rw [Nat.zero_add] at g;exact g⟩)
   rw [Nat.zero_add] at this
   obtain ⟨n,h1,h2⟩:=run_done hok hl10 hw _ 0 (by rw [Nat.zero_mul,Nat.add_zero];exact this)
   exact ⟨n,by rw [Nat.zero_add] at h1;exact h1,h2⟩
 obtain ⟨n0,hn0,hd0⟩:=hex
 obtain ⟨n,hn,hd,hmin⟩:=least (P:=fun k=>rsAt fs workers script seed x k = .done) n0 hd0
 have hall : ∀ j,j ≤ n → Inv fs nr (ser fs fs.length 0 x seed) workers (stAt fs workers script seed x j) (plAt fs workers script seed x j) (far fs (start fs workers seed x) [(some 0,[0])]):=fun j hj=>by
  have:=inv_at hok hl10 hw hI j (fun i hi=>by rw [Nat.zero_add];exact hmin i (by omega))
  rw [Nat.zero_add] at this
  exact this
 refine ⟨n,by omega,hd,hmin,hall,?_,fun j hj r m p hg=>?_⟩
 ·rcases ((hall n (Nat.le_refl _)).step hok hl10 (turnM_lt hw script n).1 (turnM workers script n).2).2 with ⟨_,g⟩ | ⟨g,_⟩
  ·exact g
  ·exact absurd hd g
 ·exact ((hall j (by omega)).step hok hl10 (turnM_lt hw script j).1 (turnM workers script j).2).1 r m p hg
end
end Go.Proofs.YtkmakliebhnhbaaGreat
namespace Go.Proofs.YtkmakliebhnhbaaGreat
open Go.RowKit
theorem cost_fold {C : Nat → Nat × Nat} {sub : Nat → Nat} {n nr f : Nat} (hs : ∀ g,f < g → g < n → sub g + 4 ≤ 14 * (C g).1) : ∀ (l : List Ins) (c : Nat × Nat),(∀ i ∈ l,mayB n nr f i = true) → (l.map (costW sub)).sum + 14 * c.1 ≤ 14 * (l.foldl (addS C) c).1 + l.length
 | [],c,_=>by simp
 | i :: t,c,hl=>by
  have ih:=cost_fold hs t (addS C c i) (fun j hj=>hl j (List.mem_cons_of_mem _ hj))
  simp only [List.map_cons,List.sum_cons,List.foldl_cons,List.length_cons]
  have key : costW sub i + 14 * c.1 ≤ 14 * (addS C c i).1 + 1:=by
   unfold costW addS
   by_cases h3 : i.op = 3 ∨ i.op = 4
   ·obtain ⟨m,hm,hfm,hmn⟩:=mayB_begins (hl i (List.mem_cons_self ..)) (by unfold begins;simpa using h3)
    rw [if_pos h3,if_neg (by omega),if_pos (by unfold begins;simpa using h3),hm,Int.toNat_natCast]
    have:=hs m hfm hmn
    simp only
    omega
   ·rw [if_neg h3]
    split
    ·simp only;omega
    ·rw [if_neg (by unfold begins;simpa using h3)];omega
  omega
theorem wf_frames {fs : List (List Ins)} {nr : Nat} (hok : FsOk fs nr) (hl10 : ∀ l ∈ fs,l.length ≤ 10) : ∀ (k f d : Nat),k ≤ fs.length → fs.length - k ≤ f → f < fs.length → fs.length ≤ f + d → wf fs d f + 4 ≤ 14 * (sizeF fs k f).1
 | 0,f,_,_,h1,h2,_=>by omega
 | k + 1,f,d,hk,h1,h2,hd=>by
  obtain ⟨l,hl⟩ : ∃ l,fs[f]? = some l:=⟨_,List.getElem?_eq_getElem h2⟩
  by_cases hf : f = fs.length - 1 - k
  ·cases d with
   | zero=>omega
   | succ d =>
    rw [sizeF_step hf hl,if_pos rfl,wf,hl]
    have:=cost_fold (C:=sizeF fs k) (sub:=wf fs d) (n:=fs.length) (nr:=nr) (f:=f) (fun g hg hgl=>wf_frames hok hl10 k g d (by omega) (by omega) hgl (by omega)) l (1,0) (fun i hi=>(hok f l hl i hi).1)
    have hle:=hl10 l (List.mem_of_getElem? hl)
    simp only [Option.getD_some]
    omega
  ·rw [sizeF_step rfl (List.getElem?_eq_getElem (by omega)),if_neg hf]
   exact wf_frames hok hl10 k f d (by omega) (by omega) h2 hd
theorem far_start {fs : List (List Ins)} {nr : Nat} (hok : FsOk fs nr) (hl10 : ∀ l ∈ fs,l.length ≤ 10) (h0 : 0 < fs.length) (workers : Nat) (seed x : Int) : far fs (start fs workers seed x) [(some 0,[0])] + 2 ≤ 14 * framesF fs:=by
 have h1:=wf_frames hok hl10 fs.length 0 (fs.length + 1) (Nat.le_refl _) (by omega) h0 (by omega)
 have h2 : todo fs (start fs workers seed x) = wf fs (fs.length + 1) 0:=by
  unfold todo start wT
  simp only [List.map_cons,List.map_nil,List.sum_cons,List.sum_nil,Nat.add_zero]
  rfl
 have h3 : busy (start fs workers seed x) = 1:=by
  unfold busy start
  have : ∀ n,((List.replicate n wk0).map wK).sum = 0:=fun n=>by
   induction n with
   | zero=>rfl
   | succ n ih=>rw [List.replicate_succ,List.map_cons,List.sum_cons,ih];rfl
  simp only [List.map_cons,List.sum_cons,this]
  rfl
 have h4 : mass [((some 0,[0]) : Th)] = 1:=rfl
 unfold far framesF
 omega
theorem valsZ_who (reds : List Int) : ∀ (l l' : List Ev) (V : Nat → Val),l.length = l'.length → (∀ (p : Nat) (e e' : Ev),l[p]? = some e → l'[p]? = some e' → e.r = e'.r ∧ e.n = e'.n) → l.foldl (putZ reds) V = l'.foldl (putZ reds) V
 | [],[],_,_,_=>rfl
 | [],_ :: _,_,h,_=>by simp at h
 | _ :: _,[],_,h,_=>by simp at h
 | e :: l,e' :: l',V,h,hp=>by
  obtain ⟨h1,h2⟩:=hp 0 e e' rfl rfl
  have hV : putZ reds V e = putZ reds V e':=by unfold putZ;rw [h1,h2]
  simp only [List.foldl_cons]
  rw [hV]
  exact valsZ_who reds l l' _ (by simpa using h) fun p a a' ha ha'=>hp (p + 1) a a' (by simpa using ha) (by simpa using ha')
section
variable (fs : List (List Ins)) (workers : Nat) (script : List (Int × Int)) (seed x : Int)
def Rs.ev (w : Nat) : Rs → List Ev
 | .gave r n _=>[⟨w,r,n⟩]
 | _=>[]
def Rs.put (w : Nat) (o : List Ev) : Rs → List Ev
 | .gave r n p=>o.set p ⟨w,r,n⟩
 | _=>o
def Rs.steal : Rs → Nat
 | .stole=>1
 | _=>0
def Rs.fail : Rs → Nat
 | .failed=>1
 | _=>0
def trAt : Nat → List Ev
 | 0=>[]
 | k + 1=>trAt k ++ (rsAt fs workers script seed x k).ev (turnM workers script k).1
def ordAt : Nat → List Ev
 | 0=>List.replicate (gift fs 0) ⟨0,0,0⟩
 | k + 1=>(rsAt fs workers script seed x k).put (turnM workers script k).1 (ordAt k)
def stealsAt : Nat → Nat
 | 0=>0
 | k + 1=>stealsAt k + (rsAt fs workers script seed x k).steal
def failsAt : Nat → Nat
 | 0=>0
 | k + 1=>failsAt k + (rsAt fs workers script seed x k).fail
def Ends (n : Nat) : Prop:=rsAt fs workers script seed x n = .done ∧ ∀ j,j < n → rsAt fs workers script seed x j ≠ .done
end
section
variable {fs : List (List Ins)} {workers : Nat} {script : List (Int × Int)} {seed x : Int}
theorem Ends.one {n m : Nat} (h : Ends fs workers script seed x n) (h' : Ends fs workers script seed x m) : n = m:=by
 rcases Nat.lt_trichotomy n m with g | g | g
 ·exact absurd h.1 (h'.2 n g)
 ·exact g
 ·exact absurd h'.1 (h.2 m g)
theorem ordAt_len (k : Nat) : (ordAt fs workers script seed x k).length = gift fs 0:=by
 induction k with
 | zero=>simp [ordAt]
 | succ k ih =>
  rw [ordAt]
  cases rsAt fs workers script seed x k <;> simp only [Rs.put,List.length_set] <;> exact ih
theorem ordAt_pl {T : List Ev} {n : Nat} (hg : ∀ j,j < n → ∀ r m p,rsAt fs workers script seed x j = .gave r m p → T[p]? = some ⟨0,r,m⟩) : ∀ k,k ≤ n → ∀ p e,p ∈ plAt fs workers script seed x k → (ordAt fs workers script seed x k)[p]? = some e → ∃ e',T[p]? = some e' ∧ e'.r = e.r ∧ e'.n = e.n
 | 0,_,p,e,hp,_=>by simp [plAt,evAt,runM] at hp
 | k + 1,hk,p,e,hp,he=>by
  have ih:=ordAt_pl hg k (by omega)
  rw [plAt_succ] at hp
  rw [ordAt] at he
  cases hr : rsAt fs workers script seed x k with
  | gave r m q =>
   rw [hr] at hp he
   simp only [Rs.put,Rs.places] at hp he
   have hT:=hg k (by omega) r m q hr
   rw [List.getElem?_set] at he
   by_cases e1 : q = p
   ·rw [if_pos e1] at he
    split at he
    ·injection he with he
     rw [← he,← e1]
     exact ⟨_,hT,rfl,rfl⟩
    ·cases he
   ·rw [if_neg e1] at he
    refine ih p e ?_ he
    rcases List.mem_append.1 hp with hp | hp
    ·exact hp
    ·exact absurd (List.mem_singleton.1 hp).symm e1
  | went=>rw [hr] at hp he;exact ih p e (by simpa [Rs.places] using hp) he
  | stole=>rw [hr] at hp he;exact ih p e (by simpa [Rs.places] using hp) he
  | failed=>rw [hr] at hp he;exact ih p e (by simpa [Rs.places] using hp) he
  | done=>rw [hr] at hp he;exact ih p e (by simpa [Rs.places] using hp) he
theorem run_told {nr : Nat} (hok : FsOk fs nr) (hl10 : ∀ l ∈ fs,l.length ≤ 10) (hw : 1 ≤ workers) (h0 : 0 < fs.length) (script : List (Int × Int)) (seed x : Int) :
  ∃ n,n < script.length + 14 * framesF fs * workers ∧ Ends fs workers script seed x n ∧ ∀ reds,valsZ reds (ordAt fs workers script seed x n) = valsZ reds (ser fs fs.length 0 x seed):=by
 obtain ⟨n,h1,h2,h3,h4,h5,h6⟩:=run_whole hok hl10 hw h0 script seed x
 have hf:=far_start hok hl10 h0 workers seed x
 refine ⟨n,?_,⟨h2,h3⟩,fun reds=>?_⟩
 ·refine Nat.lt_of_lt_of_le h1 (Nat.add_le_add_left (Nat.mul_le_mul_right _ (by omega)) _)
 ·have hlen : (ordAt fs workers script seed x n).length = (ser fs fs.length 0 x seed).length:=by rw [ordAt_len,gift_len hok h0]
  refine valsZ_who reds _ _ _ hlen fun p e e' he he'=>?_
  have hp : p < (ser fs fs.length 0 x seed).length:=by
   rcases Nat.lt_or_ge p (ser fs fs.length 0 x seed).length with g | g
   ·exact g
   ·rw [List.getElem?_eq_none g] at he';cases he'
  have hm : p ∈ plAt fs workers script seed x n:=h5.mem_iff.2 (by rw [List.mem_range'_1];omega)
  obtain ⟨e2,k1,k2,k3⟩:=ordAt_pl h6 n (Nat.le_refl _) p e hm he
  rw [he'] at k1
  injection k1 with k1
  rw [k1]
  exact ⟨k2.symm,k3.symm⟩
end
end Go.Proofs.YtkmakliebhnhbaaGreat
