import Derived.Test.YtkmakliebhnhbaaGreatMachT
namespace Go.Proofs.YtkmakliebhnhbaaGreat
open Go.RowKit
theorem hand_stack (s : St) (i : Nat) (o : Option Nat) (k : Nat) : ((s.hand i o).w k).stack = (s.w k).stack:=by
 by_cases hi : i < s.ws.length
 · rw [St.w_hand s o hi k]
  by_cases e : k = i
  · subst e;rw [if_pos rfl]
  · rw [if_neg e]
 · unfold St.hand St.putW
  rw [List.set_eq_of_length_le (by omega)]
theorem stk_stack (s : St) (i : Nat) (l : List Nat) (k : Nat) {K : Nat} (h : (s.w k).stack.length ≤ K) (hl : l.length ≤ K) : ((s.stk i l).w k).stack.length ≤ K:=by
 by_cases hi : i < s.ws.length
 · rw [St.w_stk s l hi k]
  by_cases e : k = i
  · subst e;rw [if_pos rfl];exact hl
  · rw [if_neg e];exact h
 · unfold St.stk St.putW
  rw [List.set_eq_of_length_le (by omega)]
  exact h
theorem deep_step {fs : List (List Ins)} {s : St} {w v K : Nat} (h : ∀ k,(s.w k).stack.length ≤ K) (k : Nat) : ((stepM fs s w v).1.w k).stack.length ≤ K + 1:=by
 have hk:=h k
 have hw:=h w
 have hv:=h v
 unfold stepM
 cases hh : (s.w w).hand with
 | none =>
  simp only
  cases hs : (s.w v).stack with
  | nil=>exact Nat.le_succ_of_le hk
  | cons q rest =>
   rw [hs] at hv
   simp only [List.length_cons] at hv
   exact Nat.le_succ_of_le (stk_stack (s.hand w (some q)) v rest k (by rw [hand_stack];exact hk) (by omega))
 | some a =>
  simp only
  split
  · show (((s.putT a _).hand w none).w k).stack.length ≤ _
   rw [hand_stack];exact Nat.le_succ_of_le hk
  · cases hr : (s.t a).rem with
   | nil =>
    simp only
    cases hor : (s.t a).org with
    | root=>simp only;rw [hand_stack];exact Nat.le_succ_of_le hk
    | call=>simp only;rw [hand_stack];exact Nat.le_succ_of_le hk
    | spawn =>
     simp only
     cases hl : (s.w w).stack.getLast? with
     | some q=>exact Nat.le_succ_of_le (stk_stack (s.hand w (some q)) w _ k (by rw [hand_stack];exact hk) (by rw [List.length_dropLast];omega))
     | none =>
      simp only
      split
      · show (((s.putT _ _).hand w _).w k).stack.length ≤ _
       rw [hand_stack];exact Nat.le_succ_of_le hk
      · show (((s.putT _ _).hand w _).w k).stack.length ≤ _
       rw [hand_stack];exact Nat.le_succ_of_le hk
   | cons i rest =>
    simp only
    split
    · exact Nat.le_succ_of_le hk
    · split
     · exact Nat.le_succ_of_le hk
     · split
      · rw [hand_stack]
       exact stk_stack (s.putT a _) w ((s.w w).stack ++ [a]) k (Nat.le_succ_of_le hk) (by simp;omega)
      · split
       · rw [hand_stack]
        exact Nat.le_succ_of_le hk
       · exact Nat.le_succ_of_le hk
theorem Lean1.mono {fs : List (List Ins)} {nr : Nat} {s : St} {K K' : Nat} (h : Lean1 fs nr s K) (hK : K ≤ K') : Lean1 fs nr s K' :=
 ⟨h.ok,h.hand,h.stack,h.pos,h.join,h.par,fun i hi=>by have:=h.out i hi;omega,fun i hi=>by have:=h.pl i hi;omega,fun k=>by have:=h.deep k;omega⟩
section
variable {fs : List (List Ins)} {workers nr : Nat} {script : List (Int × Int)} {seed x : Int} {T : List Ev} {N F : Nat}
theorem lean_at (hg : ∀ f,gift fs f ≤ 100000000) (hw : 1 ≤ workers) (h : ∀ j,j ≤ N → Inv fs nr T workers (stAt fs workers script seed x j) (plAt fs workers script seed x j) F) : ∀ j,j ≤ N → Bd j (stAt fs workers script seed x j) ∧ ∀ k,((stAt fs workers script seed x j).w k).stack.length ≤ j
 | 0,_=>by
  refine ⟨fun t ht=>?_,fun k=>?_⟩
  · have : t ∈ (start fs workers seed x).ts:=ht
   simp only [start,List.mem_singleton] at this
   subst this
   exact ⟨by simp,by simp,fun g=>absurd rfl g⟩
  · show ((start fs workers seed x).w k).stack.length ≤ 0
   unfold start St.w
   cases k with
   | zero=>simp
   | succ k =>
    simp only [List.getElem?_cons_succ,List.getElem?_replicate]
    split <;> simp [wk0]
 | j + 1,hj=>by
  obtain ⟨hb,hd⟩:=lean_at hg hw h j (by omega)
  obtain ⟨L,ht,_,_⟩:=(h j (by omega)).thr
  have hlt:=turnM_lt hw script j
  have hws:=(h j (by omega)).ws
  rw [stAt_succ]
  refine ⟨hb.step hg (ht.handed (by rw [hws];exact hlt.1)).1 (ht.stacked _) (ht.handed (by rw [hws];exact hlt.1)).2,fun k=>deep_step hd k⟩
theorem lean_all (hg : ∀ f,gift fs f ≤ 100000000) (hw : 1 ≤ workers) (h : ∀ j,j ≤ N → Inv fs nr T workers (stAt fs workers script seed x j) (plAt fs workers script seed x j) F) (j : Nat) (hj : j ≤ N) : Lean1 fs nr (stAt fs workers script seed x j) N:=by
 obtain ⟨hb,hd⟩:=lean_at hg hw h j hj
 exact ((h j hj).lean hb hd).mono hj
theorem trAt_len (k : Nat) : (trAt fs workers script seed x k).length ≤ k:=by
 induction k with
 | zero=>simp [trAt]
 | succ k ih =>
  rw [trAt,List.length_append]
  have : ((rsAt fs workers script seed x k).ev (turnM workers script k).1).length ≤ 1:=by
   cases rsAt fs workers script seed x k <;> simp [Rs.ev]
  omega
theorem stealsAt_le (k : Nat) : stealsAt fs workers script seed x k ≤ k:=by
 induction k with
 | zero=>simp [stealsAt]
 | succ k ih =>
  rw [stealsAt]
  have : (rsAt fs workers script seed x k).steal ≤ 1:=by cases rsAt fs workers script seed x k <;> simp [Rs.steal]
  omega
theorem failsAt_le (k : Nat) : failsAt fs workers script seed x k ≤ k:=by
 induction k with
 | zero=>simp [failsAt]
 | succ k ih =>
  rw [failsAt]
  have : (rsAt fs workers script seed x k).fail ≤ 1:=by cases rsAt fs workers script seed x k <;> simp [Rs.fail]
  omega
end
end Go.Proofs.YtkmakliebhnhbaaGreat
