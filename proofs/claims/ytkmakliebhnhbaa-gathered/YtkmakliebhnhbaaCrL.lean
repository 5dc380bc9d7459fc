import Derived.Test.YtkmakliebhnhbaaCrK
/- Onto a stack that may begin within its row: append. -/
namespace Go.Proofs.Ytkmakliebhnhbaa
open Go.RowKit Go.Shelf

def StkR (W : World) (n₀ : Nat) (v : Value) (us : List Value) : Prop :=
  (v = .slice none 0 0 ∧ us = []) ∨ ∃ sb so cap cs, v = .slice (some ⟨sb, so, none⟩) us.length cap ∧ W.heap[sb]? = some (.cells cs 111 (0, 0)) ∧ n₀ ≤ sb ∧ us.length ≤ cap ∧ cap ≤ maxLen ∧ so + cap ≤ cs.size ∧ ∀ (i : Nat) (u : Value), us[i]? = some u → cs[so + i]? = some u
def tptr (adr : Nat → Nat) (q : Nat) : Value := .pointer (some ⟨adr q, 0, none⟩)
theorem StkV.raw {W : World} {n₀ : Nat} {adr : Nat → Nat} {v : Value} {l : List Nat} (h : StkV W n₀ adr v l) : StkR W n₀ v (l.map (tptr adr)) := by
  rcases h with ⟨h1, h2⟩ | ⟨sb, so, cap, cs, h1, h2, h3, h4, h5, h6, h7⟩
  · exact .inl ⟨h1, by rw [h2]; rfl⟩
  · refine .inr ⟨sb, so, cap, cs, by rw [List.length_map]; exact h1, h2, h3, by rw [List.length_map]; exact h4, h5, h6, fun i u hu => ?_⟩
    rw [List.getElem?_map] at hu
    cases hq : l[i]? with
    | none => rw [hq] at hu; cases hu
    | some q => rw [hq] at hu; injection hu with hu; rw [← hu]; exact h7 i q hq
theorem StkR.cook {W : World} {n₀ : Nat} {adr : Nat → Nat} {v : Value} {l : List Nat} (h : StkR W n₀ v (l.map (tptr adr))) : StkV W n₀ adr v l := by
  rcases h with ⟨h1, h2⟩ | ⟨sb, so, cap, cs, h1, h2, h3, h4, h5, h6, h7⟩
  · exact .inl ⟨h1, by cases l with
      | nil => rfl
      | cons _ _ => cases h2⟩
  · rw [List.length_map] at h1 h4
    exact .inr ⟨sb, so, cap, cs, h1, h2, h3, h4, h5, h6, fun i q hq => h7 i _ (by rw [List.getElem?_map, hq]; rfl)⟩
theorem own_stk {W : World} {n₀ base : Nat} {v : Value} {n : Nat} {us : List Value} (h : W.ownsRow base 111 1 v n us) (hb : n₀ ≤ base) : StkR W n₀ v us ∧ n = us.length := by
  obtain ⟨h0, h⟩ := h
  rw [Nat.mul_one] at h0
  rcases h with ⟨h1, h2⟩ | ⟨g, cap, cur, h1, h2, h3, h4, h5, h6, h7⟩
  · exact ⟨.inl ⟨h1, List.eq_nil_of_length_eq_zero (by omega)⟩, h0.symm⟩
  · refine ⟨.inr ⟨g, 0, cap, cur, by rw [h0]; exact h1, h3, by omega, by omega, h5, by omega, fun i u hu => ?_⟩, h0.symm⟩
    have hi := (List.getElem?_eq_some_iff.1 hu).1
    rw [← h7, List.getElem?_take_of_lt (by omega)] at hu
    rw [Nat.zero_add, ← Array.getElem?_toList]
    exact hu

theorem run_push {P : Program} (w : World) (t ty : TypeId) (i : TypeInfo) (z : Value) (bytes : Nat) (ht : P.underlying t = some (.slice 111)) (hi : P.info? 111 = some i) (hz : i.zero = some z)
    (hsize : i.size = 1) (hby : i.bytes = bytes) (hzs : z.cells.size = 1) (n₀ : Nat) (v : Value) (us : List Value) (hv : StkR w n₀ v us) (u : Value) (hu : u.oneCell' = true) (ad : Addr) (c : Nat) (hsrc : w.cell? ad = some u)
    (hlen : us.length ≤ 1000000) (hb8 : bytes ≤ 1000) (hn₀ : n₀ ≤ w.heap.size) :
    ∃ a' cap' w', (Builtin.append_ #[t, t] ty #[v, .slice (some ad) 1 c]).run P w = .ok (.slice a' (us.length + 1) cap') w' ∧ StkR w' n₀ (.slice a' (us.length + 1) cap') (us ++ [u]) ∧ w.grownBy w' (blkOf v) ∧ (blkOf (.slice a' (us.length + 1) cap') = blkOf v ∨ blkOf (.slice a' (us.length + 1) cap') = some w.heap.size) := by
  have hnews : ∀ (j : Nat) (x : Value), [u][j]? = some x → w.cell? (ad.add j) = some x := fun j x hx => by
    cases j with
    | zero => simp at hx; subst hx; rw [show ad.add 0 = ad by unfold Addr.add; split <;> simp_all]; exact hsrc
    | succ j => simp at hx
  have hmul : (us.length + 1) * bytes ≤ (1000000 + 1) * 1000 := Nat.mul_le_mul (by omega) hb8
  rcases hv with ⟨rfl, rfl⟩ | ⟨sb, so, cap, cs, rfl, h2, h3, h4, h5, h6, h7⟩
  · obtain ⟨a', cap', w', k1, k2, k3, _, k5, _⟩ := run_app2 (P := P) w n₀ t ty 111 i z 1 bytes ht hi hz hsize hby hzs (by decide) (.slice none 0 0) 0 [] (World.ownsRow_nil _ _ _ _) (.slice (some ad) 1 c) 1 [u] (.inr ⟨ad, c, rfl, rfl, hnews⟩) (by simpa using hu) (by unfold maxLen; omega) (by simp at hmul ⊢; omega) hn₀
    obtain ⟨g, cp, ea, _, _⟩ := k2.form (by omega)
    injection ea with ea eb ec
    subst ea ec
    refine ⟨_, _, w', k1, (own_stk k2 (Nat.le_refl _)).1, k3, ?_⟩
    rcases k5 with k5 | k5
    · cases k5
    · exact .inr (by simpa [Value.ownBlock, blkOf] using k5)
  · by_cases hroom : us.length + 1 ≤ cap
    · have hin : so + us.length < cs.size := by omega
      have hcell : w.cell? ⟨sb, so + us.length, none⟩ = cs[so + us.length]? := by simp [World.cell?, h2]
      have hfz : w.frozen? ⟨sb, so + us.length, none⟩ = false := by simp [World.frozen?, h2]
      have hr := run_append_room_cells (P := P) w t ty 111 i ht hi sb so us.length cap ad 1 c [u] (by rw [hsize]; rfl) hnews (by simpa using hu) hroom
        (fun j hj => by
          have : j = 0 := by simpa using hj
          subst this
          rw [hsize, Nat.mul_one, Nat.add_zero, hcell, Array.getElem?_eq_getElem hin]; rfl)
        (fun j hj => by
          have : j = 0 := by simpa using hj
          subst this
          rw [hsize, Nat.mul_one, Nat.add_zero]; exact hfz)
      rw [hsize, Nat.mul_one] at hr
      refine ⟨_, _, _, hr, .inr ⟨sb, so, cap, cs.setIfInBounds (so + us.length) u, by rw [List.length_append]; rfl, heap_set w sb (so + us.length) u cs _ h2, h3, by rw [List.length_append]; exact hroom, h5, by simpa using h6, fun k x hk => ?_⟩, ⟨rfl, rfl, rfl, by simp [World.setCells, World.setCell], fun k _ hk => Below.heap_setCell _ _ _ _ (fun e => hk (by have e : k = sb := e; rw [e]; rfl))⟩, .inl rfl⟩
      by_cases hkl : k < us.length
      · rw [List.getElem?_append_left hkl] at hk
        rw [Array.getElem?_setIfInBounds_ne (by omega)]
        exact h7 k x hk
      · have hk0 := (List.getElem?_eq_some_iff.1 hk).1
        simp only [List.length_append, List.length_singleton] at hk0
        obtain rfl : k = us.length := by omega
        rw [List.getElem?_append_right (Nat.le_refl _), Nat.sub_self] at hk
        injection hk with hk
        subst hk
        rw [Array.getElem?_setIfInBounds_self, if_pos hin]
    · have holds : ∀ (j : Nat) (x : Value), us[j]? = some x → w.cell? ((⟨sb, so, none⟩ : Addr).add j) = some x := fun j x hx => by
        rw [Addr.add_lit]
        simp only [World.cell?, h2]
        exact h7 j x hx
      obtain ⟨v', w', hr, k1, k2⟩ := run_append_arg_grows (P := P) w t ty 111 i z 1 bytes ht hi hz hsize hby hzs (by decide) ⟨sb, so, none⟩ us.length cap us (by rw [Nat.mul_one]) holds ad 1 c [u] rfl hnews (by omega) (by unfold maxLen; omega) (by omega)
      obtain ⟨g, cp, rfl, hg1, _⟩ := k1.form (by omega)
      refine ⟨_, _, w', hr, (own_stk k1 hn₀).1, ⟨k2.os, k2.tape, k2.output, k2.size, fun k hk _ => k2.block k hk (by simp)⟩, .inr ?_⟩
      have hg := run_append_grow (P := P) w t ty 111 i z ht hi hz ⟨sb, so, none⟩ us.length cap us (by rw [hsize, Nat.mul_one]) holds ad 1 c [u] (by rw [hsize]; rfl) hnews (by omega) (by simp only [maxLen] at h5; omega) (growslice_fits (by omega) (by rw [hby]; omega))
      rw [hg] at hr
      injection hr with e1 e2
      injection e1 with e1 _ _
      rw [← e1]
      rfl

theorem wpList_push {P : Program} (w : World) {ops : Array Oper} {rest : List Oper} {o : Oper} {a : Act} {Q : Exit → Act → World → Prop} (hgd : o.guard = none) (s x : Operand) (t : TypeId)
    (ho : o.op = .call { callee := .builtin .append, args := #[s, x], argTypes := #[t, t] })
    (i : TypeInfo) (z : Value) (bytes : Nat) (ht : P.underlying t = some (.slice 111)) (hi : P.info? 111 = some i) (hz : i.zero = some z)
    (hsize : i.size = 1) (hby : i.bytes = bytes) (hzs : z.cells.size = 1) (n₀ : Nat) (v : Value) (us : List Value) (hs : a.eval s = v) (hv : StkR w n₀ v us) (u : Value) (hu : u.oneCell' = true) (ad : Addr) (c : Nat) (hx : a.eval x = .slice (some ad) 1 c) (hsrc : w.cell? ad = some u)
    (hlen : us.length ≤ 1000000) (hb8 : bytes ≤ 1000) (hn₀ : n₀ ≤ w.heap.size)
    (h : ∀ a' cap' w', StkR w' n₀ (.slice a' (us.length + 1) cap') (us ++ [u]) → w.grownBy w' (blkOf v) → (blkOf (.slice a' (us.length + 1) cap') = blkOf v ∨ blkOf (.slice a' (us.length + 1) cap') = some w.heap.size) → wpList P ops Q rest (a.put o.dst (.slice a' (us.length + 1) cap')) w') : wpList P ops Q (o :: rest) a w := by
  refine wpList_plain hgd fun K hK => ?_
  obtain ⟨a', cap', w', hr, h2, h3, h4⟩ := run_push (P := P) w t o.type i z bytes ht hi hz hsize hby hzs n₀ v us hv u hu ad c hsrc hlen hb8 hn₀
  unfold Oper.wp execOp
  simp only [ho, resolve, invoke, builtin, Sem.run_bind, Sem.run_pure, Result.andThen_ok, List.map_toArray, List.map_cons, List.map_nil, hs, hx, hr]
  exact hK _ _ (h a' cap' w' h2 h3 h4)

theorem Try.infoTk : (Try.prog.info? 111).map (fun i => (i.zero, i.size, i.bytes)) = some (some (.pointer none), 1, 8) := by kernel_rfl
end Go.Proofs.Ytkmakliebhnhbaa
