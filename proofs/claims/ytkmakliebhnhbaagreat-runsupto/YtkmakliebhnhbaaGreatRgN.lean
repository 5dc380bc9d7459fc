import Derived.OrdersHeld
import Derived.Deep.RegionHeld3
import Derived.Test.YtkmakliebhnhbaaGreatMsr
namespace Go.Proofs.YtkmakliebhnhbaaGreat
open Go.RowKit
theorem upon_in {ro : Option Nat} {n : Nat} {P : Program} {o : Oper} {a : Act} {K : Act → World → Prop} {Q : Exit → Act → World → Prop} (r : Result Next) (h : o.upon P a K Q r) : o.uponIn { FW with round:=ro } n P a K Q r:=by
 cases r with
 | ok x w' =>
  cases x <;> simp only [Oper.upon] at h <;> simp only [Oper.uponIn]
  case value=>exact h
  case skip=>exact h
  case defer=>exact h
  case enter f args=>exact ⟨room_none _,callsIn_wide.2 h⟩
  case row row args=>exact ⟨room_none _,fun c cs _=>let ⟨v,w2,r,s⟩:=h c cs;⟨v,w2,r,stepsIn_wide.2 s⟩⟩
 | halt x w' =>
  cases x <;> simp only [Oper.upon] at h <;> simp only [Oper.uponIn]
  exact h
theorem any_in {ro : Option Nat} {n : Nat} {P : Program} {md : Region.Mode} {ops : Array Oper} {Q : Exit → Act → World → Prop} (hlo : ¬ LetsOut Q) (hnd : ∀ (i : Nat) (o : Oper),ops[i]? = some o → ∀ c,o.op ≠ .defer c) : ∀ (fuel : Nat) (listed : Array Bool) (a : Act) (w : World),wpAny P md ops Q fuel listed a w → wpAnyIn { FW with round:=ro } n P md ops Q fuel listed a w
 | 0,_,_,_,h=>h
 | fuel + 1,listed,a,w,h=>by
  refine ⟨h.1,fun i hi=>?_⟩
  have h1:=wpOp_mono (fun a w=>any_in (ro:=ro) (n:=n) hlo hnd fuel _ a w) (h.2 i hi)
  unfold wpOp at h1
  unfold wpOpIn
  cases ho : ops[i]? with
  | none=>rw [ho] at h1;exact h1
  | some o =>
   rw [ho] at h1
   simp only at h1 ⊢
   split
   ·rename_i hw
    rw [if_pos hw] at h1
    rcases h1 with h1 | h1
    ·unfold Oper.wpIn
     refine ⟨fun _ _=>trivial,?_⟩
     rw [Oper.semAt_eq _ _ _ (hnd i o ho)]
     exact upon_in _ h1
    ·exact absurd h1.2 hlo
   ·rename_i hw
    rw [if_neg hw] at h1
    exact ⟨fun _ _=>trivial,h1⟩
theorem region_held_in {ro : Option Nat} {n : Nat} {P : Program} {ops : Array Oper} {Q : Exit → Act → World → Prop} {S : World → Prop} {id : Nat} {a : Act} {w : World} (hm : P.follows .mixedOrders = true) (hlo : ¬ LetsOut Q) (hB : (List.range ops.size).all (plainB ops) = true)
  (h : wpAnyH P .any ops Q S ops.size (Array.replicate ops.size false) a { w with drawn:=w.drawn + 1 }) : (Code.region id ops true).wpIn { FW with round:=ro } n P Q a w:=by
 refine wpIn_region_any hm (any_in hlo (fun i o ho=>?_) _ _ _ _ (wpAny_of_held _ _ _ _ h))
 have hi:=(Array.getElem?_eq_some_iff.1 ho).1
 exact (plain_spec (List.all_eq_true.1 hB i (List.mem_range.2 hi)) ho).2.1
theorem take_at {P : Program} {md : Region.Mode} {ops : Array Oper} {Q : Exit → Act → World → Prop} {S : World → Prop} (i d : Nat) (v : Value) {oi : Oper} {fuel : Nat} {listed : Array Bool} {tmps : Array Value} {ds : List Deferred} {w : World} (hi : ops[i]? = some oi) (hd : oi.dst = some d)
  (hs : Region.noSelect ops = true) (hf : Region.free md ops listed i = true) (hr : (Region.ready md ops listed).contains i = true)
  (hQ : ∀ c a w,Q (.panic c) (a.put oi.dst v) w → Q (.panic c) a w) (hw : Region.wanted oi (yielded ops tmps) = true) (hy : ∀ w,S w → (execOp (Act.eval { tmps:=tmps,defers:=ds }) oi).run P w = .ok (.value v) w) (hS : S w)
  (h : wpAnyH P md ops Q S fuel (listed.setIfInBounds i true) { tmps:=tmps.setIfInBounds d v,defers:=ds } w) : wpAnyH P md ops Q S (fuel + 1) listed { tmps:=tmps,defers:=ds } w :=
 wpAnyH_take hi hs hf hr hQ (.inl ⟨hw,hy⟩) hS (by rw [hd];exact h)
end Go.Proofs.YtkmakliebhnhbaaGreat
