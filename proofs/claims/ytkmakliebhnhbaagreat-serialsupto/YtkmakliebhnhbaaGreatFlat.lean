import Derived.Test.YtkmakliebhnhbaaGreatVals
/- Lists of elements of several cells: flat; 'copy'; what is owned may be read. -/
namespace Go.Proofs.YtkmakliebhnhbaaGreat
open Go.RowKit

def flat {α : Type} (enc : α → List Value) (l : List α) : List Value := l.flatMap enc

theorem flat_len {α : Type} {enc : α → List Value} {size : Nat} (hs : ∀ x, (enc x).length = size) (l : List α) : (flat enc l).length = l.length * size := by
  induction l with
  | nil => simp [flat]
  | cons x t ih => simp only [flat, List.flatMap_cons, List.length_append, List.length_cons] at *; rw [ih, hs]; rw [Nat.add_mul]; omega
theorem flat_get {α : Type} {enc : α → List Value} {size : Nat} (hs : ∀ x, (enc x).length = size) (l : List α) {k j : Nat} {x : α} (hk : l[k]? = some x) (hj : j < size) : (flat enc l)[k * size + j]? = (enc x)[j]? := by
  induction l generalizing k with
  | nil => simp at hk
  | cons y t ih =>
    simp only [flat, List.flatMap_cons]
    cases k with
    | zero =>
      simp at hk; subst hk
      rw [List.getElem?_append_left (by rw [hs]; omega)]; simp
    | succ k =>
      simp at hk
      rw [List.getElem?_append_right (by rw [hs, Nat.add_mul]; omega), hs, show (k + 1) * size + j - size = k * size + j by rw [Nat.add_mul]; omega]
      exact ih hk
theorem flat_append {α : Type} {enc : α → List Value} (a b : List α) : flat enc (a ++ b) = flat enc a ++ flat enc b := by simp [flat]

/-- A block of S that holds v's cells. -/
theorem own_rd {α : Type} {enc : α → List Value} {S : Nat → Prop} {W : World} {base : Nat} {e : TypeId} {size : Nat} {v : Value} {l : List α} (h : W.ownsRow base e size v l.length (flat enc l)) (hs : ∀ x, (enc x).length = size)
    (hS : ∀ b, v.ownBlock = some b → S b) : RdL S W size enc v l := by
  rcases h.2 with ⟨rfl, h0⟩ | ⟨g, cap, cur, rfl, hb, hg, hn, hm, hc, ht⟩
  · exact ⟨none, 0, by rw [h0], by omega, by unfold maxLen; omega, .inl ⟨List.eq_nil_of_length_eq_zero h0, fun _ => rfl⟩⟩
  · refine ⟨_, cap, rfl, hn, hm, .inr ⟨g, 0, rfl, hS g rfl, fun k x hk j u hu => ?_⟩⟩
    have hj : j < size := by have := (List.getElem?_eq_some_iff.1 hu).1; rw [hs] at this; exact this
    have hkl := (List.getElem?_eq_some_iff.1 hk).1
    have hlt : k * size + j < l.length * size := by
      have : (k + 1) * size ≤ l.length * size := Nat.mul_le_mul_right _ hkl
      rw [Nat.add_mul] at this; omega
    rw [Nat.zero_add, World.ownsRow.cellAt h _ hlt, flat_get hs l hk hj, hu]

/-- What lies in memory may be appended. -/
theorem rd_src {α : Type} {enc : α → List Value} {S : Nat → Prop} {W : World} {size : Nat} {v : Value} {l : List α} (h : RdL S W size enc v l) (hs : ∀ x, (enc x).length = size) (hz : 0 < size) :
    AppSrc W size v l.length (flat enc l) := by
  obtain ⟨a, cap, rfl, hc, hm, h⟩ := h
  rcases h with ⟨rfl, hn⟩ | ⟨b, off, rfl, _, h⟩
  · cases a with
    | none => obtain rfl := hn rfl; left; exact ⟨rfl, rfl, rfl⟩
    | some a' => exact .inr ⟨_, _, rfl, by simp [flat], fun j u hu => by simp [flat] at hu⟩
  · refine .inr ⟨_, _, rfl, flat_len hs l, fun j u hu => ?_⟩
    have hjl := (List.getElem?_eq_some_iff.1 hu).1
    rw [flat_len hs] at hjl
    have hk : j / size < l.length := (Nat.div_lt_iff_lt_mul hz).2 hjl
    have hm' : j % size < size := Nat.mod_lt _ hz
    have e : j / size * size + j % size = j := by rw [Nat.mul_comm]; exact Nat.div_add_mod j size
    have hx : l[j / size]? = some l[j / size] := List.getElem?_eq_getElem hk
    have := flat_get hs l hx hm'
    rw [e, hu] at this
    have h2 := h (j / size) _ hx (j % size) u this.symm
    rw [Addr.add_lit, ← h2]
    congr 2
    omega

section
variable {P : Program} (w : World)
/-- 'copy' into a row that is owned, at its head: elements of whatever size. -/
theorem run_copy_sized (dT sT ty elem : TypeId) (size g dLen dCap : Nat) (cur : Array Value) (t : TypeId) (sv : Value) (m : Nat) (news : List Value)
    (hu : P.underlying dT = some (.slice elem)) (hs : (P.info? elem).map (·.size) = some size) (hg : w.heap[g]? = some (.cells cur t (0, 0))) (hsrc : AppSrc w size sv m news) (hm : m ≤ dLen)
    (hfit : news.length ≤ cur.size) (h1 : ∀ v ∈ news, v.oneCell' = true) :
    (Builtin.copy_ #[dT, sT] ty #[.slice (some ⟨g, 0, none⟩) dLen dCap, sv]).run P w = .ok (goInt m) (w.setRow g (news ++ cur.toList.drop news.length).toArray) := by
  rcases hsrc with ⟨rfl, rfl, rfl⟩ | ⟨ad, c, rfl, hl, hc⟩
  · rw [run_copy_nil (P := P) w dT sT ty elem _ dLen dCap hu (by rw [hs]; rfl)]
    simp only [List.nil_append, List.length_nil, List.drop_zero, Array.toArray_toList]
    rw [setRow_self w g cur t (0, 0) hg]
    rfl
  · have hl' := run_loadCells_list (P := P) w ad news hc
    have hst := run_storeCells_at P g 0 t news 0 cur w hg (by simpa using hfit) h1
    have hmin : Nat.min m dLen = m := Nat.min_eq_left hm
    have hmin' : min m dLen = m := Nat.min_eq_left hm
    cases hq : P.info? elem with
    | none => simp [hq] at hs
    | some i =>
      have hi : i.size = size := by simpa [hq] using hs
      simp [Builtin.copy_, run_underlying hu, Builtin.lenOf, Builtin.firstCells, sizeOf, typeInfo, hq, hi, hmin', ← hl, hl', hst]
theorem wpList_copy {ops : Array Oper} {rest : List Oper} {a : Act} {Q : Exit → Act → World → Prop} (d s : Operand) (dT sT : TypeId) {dst : Option Tmp} {ty : TypeId} {pos : String} {after : Array Edge}
    (elem : TypeId) (size base : Nat) (hu : P.underlying dT = some (.slice elem)) (hsz : (P.info? elem).map (·.size) = some size)
    (g n cap : Nat) (xs : List Value) (hd : a.eval d = .slice (some ⟨g, 0, none⟩) n cap) (hown : w.ownsRow base elem size (.slice (some ⟨g, 0, none⟩) n cap) n xs)
    (sv : Value) (m : Nat) (news : List Value) (hs : a.eval s = sv) (hsrc : AppSrc w size sv m news) (hm : m ≤ n) (h1 : ∀ v ∈ news, v.oneCell' = true)
    (h : ∀ w', w'.ownsRow base elem size (.slice (some ⟨g, 0, none⟩) n cap) n (news ++ xs.drop news.length) → w.grownBy w' (some g) → wpList P ops Q rest (a.put dst (goInt m)) w') :
    wpList P ops Q ({ dst := dst, op := .call { callee := .builtin .copy, args := #[d, s], argTypes := #[dT, sT] }, type := ty, pos := pos, after := after, guard := none } :: rest) a w := by
  refine wpList_plain rfl fun K hK => ?_
  have hl := hsrc.len
  obtain ⟨hx, hh⟩ := hown
  rcases hh with ⟨hv, _⟩ | ⟨g', cap', cur, hv, hb, hg, hn, hcm, hcs, htake⟩
  · cases hv
  · cases hv
    have hle : m * size ≤ n * size := Nat.mul_le_mul_right _ hm
    have hle2 : n * size ≤ cap * size := Nat.mul_le_mul_right _ hn
    have hrun := run_copy_sized (P := P) w dT sT ty elem size g n cap cur elem sv m news hu hsz hg hsrc hm (by omega) h1
    unfold Oper.wp
    simp [execOp, resolve, invoke, builtin, hd, hs, hrun, Result.andThen]
    refine hK _ _ (h _ ⟨?_, .inr ⟨g, cap, _, rfl, hb, setRow_heap w g cur _ elem (0, 0) hg, hn, hcm, ?_, ?_⟩⟩ ⟨rfl, rfl, rfl, by simp, fun k _ hk => setRow_other w g k _ (fun e => hk (by simp [e]))⟩)
    · simp only [List.length_append, List.length_drop]; omega
    · simp only [List.size_toArray, List.length_append, List.length_drop, Array.length_toList]; omega
    · rw [← htake]
      simp only [List.take_append, List.drop_take]
      rw [List.take_of_length_le (by omega)]
end
end Go.Proofs.YtkmakliebhnhbaaGreat
