import Derived.Test.YtkmakliebhnhbaaGreatSer
import Derived.Test.YtkmakliebhnhbaaGreatApp
/- What reducers gather, plainly; and how it lies in memory. -/
namespace Go.Proofs.YtkmakliebhnhbaaGreat
open Go.RowKit

structure Val where
  n : Int
  is : Bool
  l : List Int

def ints (l : List Int) : List Value := l.map (Value.int .i64)

/-- One number more. -/
def giveZ (kind n : Int) (v : Val) : Val :=
  if kind = 1 then ⟨wrap64 (v.n + n), true, v.l⟩
  else if kind = 2 then ⟨if v.is = false ∨ v.n < n then n else v.n, true, v.l⟩
  else if kind = 3 then ⟨if v.is = false ∨ n < v.n then n else v.n, true, v.l⟩
  else if kind = 4 then ⟨v.n, true, v.l ++ [n]⟩
  else ⟨n, true, v.l⟩

def val0 : Val := ⟨0, false, []⟩
/-- By all events, reducer by reducer. -/
def putZ (reds : List Int) (V : Nat → Val) (e : Ev) : Nat → Val := fun r => if r = e.r.toNat then giveZ (reds[r]?.getD 0) e.n (V r) else V r
def valsZ (reds : List Int) (evs : List Ev) : Nat → Val := evs.foldl (putZ reds) (fun _ => val0)

theorem giveZ_len (kind n : Int) (v : Val) : (giveZ kind n v).l.length ≤ v.l.length + 1 := by
  unfold giveZ
  repeat' split
  all_goals simp
theorem valsZ_len (reds : List Int) (evs : List Ev) (r : Nat) : (valsZ reds evs r).l.length ≤ evs.length := by
  suffices h : ∀ (evs : List Ev) (V : Nat → Val) (m : Nat), (∀ r, (V r).l.length ≤ m) → ∀ r, (evs.foldl (putZ reds) V r).l.length ≤ m + evs.length by
    have := h evs (fun _ => val0) 0 (fun r => by simp [val0]) r
    simpa [valsZ] using this
  intro evs
  induction evs with
  | nil => intro V m h r; simpa using h r
  | cons e t ih =>
    intro V m h r
    have := ih (putZ reds V e) (m + 1) (fun s => by
      unfold putZ
      split
      · have := giveZ_len (reds[s]?.getD 0) e.n (V s); have := h s; omega
      · have := h s; omega) r
    simp only [List.foldl_cons, List.length_cons]
    omega
theorem valsZ_take {reds : List Int} {evs : List Ev} {k : Nat} {e : Ev} (h : evs[k]? = some e) : valsZ reds (evs.take (k + 1)) = putZ reds (valsZ reds (evs.take k)) e := by
  rw [take_succ_of h, valsZ, List.foldl_append]; rfl

/-- The reducers' values in block g, three cells each; their lists, each owned, apart from one another. -/
structure Gath (W : World) (base g nr : Nat) (tL : TypeId) (V : Nat → Val) (LV : Nat → Value) : Prop where
  lt : g < W.heap.size
  n : ∀ r, r < nr → W.cell? ⟨g, r * 3, none⟩ = some (.int .i64 (V r).n)
  is : ∀ r, r < nr → W.cell? ⟨g, r * 3 + 1, none⟩ = some (.bool (V r).is)
  l : ∀ r, r < nr → W.cell? ⟨g, r * 3 + 2, none⟩ = some (LV r)
  fz : ∀ j, W.frozen? ⟨g, j, none⟩ = false
  own : ∀ r, r < nr → W.ownsRow base tL 1 (LV r) (V r).l.length (ints (V r).l)
  off : ∀ r, r < nr → (LV r).ownBlock ≠ some g
  apart : ∀ r s b, r < nr → s < nr → r ≠ s → (LV r).ownBlock = some b → (LV s).ownBlock ≠ some b

theorem own_turn {w w' : World} {base : Nat} {e : TypeId} {size : Nat} {v : Value} {n : Nat} {xs : List Value} (h : w.ownsRow base e size v n xs) (hb : ∀ b, v.ownBlock = some b → b < w.heap.size → w'.heap[b]? = w.heap[b]?) : w'.ownsRow base e size v n xs := by
  refine ⟨h.1, ?_⟩
  rcases h.2 with hn | ⟨g, cap, cur, rfl, hb', hg, rest⟩
  · exact .inl hn
  · exact .inr ⟨g, cap, cur, rfl, hb', (hb g rfl (Array.getElem?_eq_some_iff.1 hg).1).trans hg, rest⟩

/-- One reducer's value has turned; only block g and its own list's block have been written. -/
theorem Gath.next {W W' : World} {base g nr : Nat} {tL : TypeId} {V V' : Nat → Val} {LV : Nat → Value} (h : Gath W base g nr tL V LV) {r : Nat} (hr : r < nr) (lv : Value)
    (hkeep : ∀ k, k < W.heap.size → k ≠ g → (LV r).ownBlock ≠ some k → W'.heap[k]? = W.heap[k]?) (hsz : W.heap.size ≤ W'.heap.size)
    (hV : ∀ s, s ≠ r → V' s = V s)
    (c0 : W'.cell? ⟨g, r * 3, none⟩ = some (.int .i64 (V' r).n)) (c1 : W'.cell? ⟨g, r * 3 + 1, none⟩ = some (.bool (V' r).is)) (c2 : W'.cell? ⟨g, r * 3 + 2, none⟩ = some lv)
    (ho : ∀ j, j < r * 3 ∨ r * 3 + 2 < j → W'.cell? ⟨g, j, none⟩ = W.cell? ⟨g, j, none⟩) (hf : ∀ j, W'.frozen? ⟨g, j, none⟩ = false)
    (hown : W'.ownsRow base tL 1 lv (V' r).l.length (ints (V' r).l)) (hlv : lv.ownBlock = (LV r).ownBlock ∨ ∃ b, lv.ownBlock = some b ∧ W.heap.size ≤ b) :
    Gath W' base g nr tL V' (fun s => if s = r then lv else LV s) := by
  have hlvb : ∀ s b, s < nr → (LV s).ownBlock = some b → b < W.heap.size := fun s b hs hb => ((h.own s hs).lt b hb).2
  refine ⟨Nat.lt_of_lt_of_le h.lt hsz, ?_, ?_, ?_, hf, ?_, ?_, ?_⟩
  · intro s hs
    by_cases e : s = r
    · subst e; exact c0
    · rw [ho _ (by omega), hV s e]; exact h.n s hs
  · intro s hs
    by_cases e : s = r
    · subst e; exact c1
    · rw [ho _ (by omega), hV s e]; exact h.is s hs
  · intro s hs
    by_cases e : s = r
    · subst e; simpa using c2
    · rw [ho _ (by omega)]; simpa [e] using h.l s hs
  · intro s hs
    by_cases e : s = r
    · subst e; simpa using hown
    · simp only [e, if_false]
      rw [hV s e]
      refine own_turn (h.own s hs) (fun b hb hlt => hkeep b hlt ?_ ?_)
      · intro hg; subst hg; exact h.off s hs hb
      · intro hrb; exact h.apart s r b hs hr e hb hrb
  · intro s hs
    by_cases e : s = r
    · subst e
      simp only [if_true]
      rcases hlv with hlv | ⟨b, hb, hle⟩
      · rw [hlv]; exact h.off s hs
      · rw [hb]; intro hh; injection hh with hh; have := h.lt; omega
    · simpa [e] using h.off s hs
  · intro s t b hs ht hne hb
    by_cases e : s = r
    · subst e
      simp only [if_true] at hb
      have et : ¬ t = s := fun h' => hne h'.symm
      simp only [et, if_false]
      rcases hlv with hlv | ⟨b', hb', hle⟩
      · rw [hlv] at hb; exact h.apart s t b hs ht hne hb
      · rw [hb'] at hb; injection hb with hb; subst hb
        intro hh; have := hlvb t b' ht hh; omega
    · simp only [e, if_false] at hb
      by_cases et : t = r
      · subst et
        simp only [if_true]
        rcases hlv with hlv | ⟨b', hb', hle⟩
        · rw [hlv]; exact h.apart s t b hs ht hne hb
        · rw [hb']; intro hh; injection hh with hh; have := hlvb s b hs hb; omega
      · simp only [et, if_false]; exact h.apart s t b hs ht hne hb

theorem cell3_0 {W : World} {g r : Nat} {a b c : Value} (h : (W.cell? ⟨g, r * 3, none⟩).isSome = true) : (((W.setCell ⟨g, r * 3, none⟩ a).setCell ⟨g, r * 3 + 1, none⟩ b).setCell ⟨g, r * 3 + 2, none⟩ c).cell? ⟨g, r * 3, none⟩ = some a := by
  rw [World.cell?_setCell_other _ _ _ _ (by simp), World.cell?_setCell_other _ _ _ _ (by simp), World.cell?_setCell_same' _ _ _ h]
theorem cell3_1 {W : World} {g r : Nat} {a b c : Value} (h : (W.cell? ⟨g, r * 3 + 1, none⟩).isSome = true) : (((W.setCell ⟨g, r * 3, none⟩ a).setCell ⟨g, r * 3 + 1, none⟩ b).setCell ⟨g, r * 3 + 2, none⟩ c).cell? ⟨g, r * 3 + 1, none⟩ = some b := by
  rw [World.cell?_setCell_other _ _ _ _ (by simp), World.cell?_setCell_same' _ _ _ (by rw [World.cell?_setCell_other _ _ _ _ (by simp)]; exact h)]
theorem cell3_2 {W : World} {g r : Nat} {a b c : Value} (h : (W.cell? ⟨g, r * 3 + 2, none⟩).isSome = true) : (((W.setCell ⟨g, r * 3, none⟩ a).setCell ⟨g, r * 3 + 1, none⟩ b).setCell ⟨g, r * 3 + 2, none⟩ c).cell? ⟨g, r * 3 + 2, none⟩ = some c := by
  rw [World.cell?_setCell_same' _ _ _ (by rw [World.cell?_setCell_other _ _ _ _ (by simp), World.cell?_setCell_other _ _ _ _ (by simp)]; exact h)]
theorem cell3_o {W : World} {g r j : Nat} {a b c : Value} (h : j < r * 3 ∨ r * 3 + 2 < j) : (((W.setCell ⟨g, r * 3, none⟩ a).setCell ⟨g, r * 3 + 1, none⟩ b).setCell ⟨g, r * 3 + 2, none⟩ c).cell? ⟨g, j, none⟩ = W.cell? ⟨g, j, none⟩ := by
  have h0 : (⟨g, r * 3, none⟩ : Addr) ≠ ⟨g, j, none⟩ := by intro e; injection e; omega
  have h1 : (⟨g, r * 3 + 1, none⟩ : Addr) ≠ ⟨g, j, none⟩ := by intro e; injection e; omega
  have h2 : (⟨g, r * 3 + 2, none⟩ : Addr) ≠ ⟨g, j, none⟩ := by intro e; injection e; omega
  rw [World.cell?_setCell_other _ _ _ _ h2, World.cell?_setCell_other _ _ _ _ h1, World.cell?_setCell_other _ _ _ _ h0]

/-- A reducer's value is stored. -/
theorem Gath.put {W W2 : World} {base g nr : Nat} {tL : TypeId} {V V' : Nat → Val} {LV : Nat → Value} (h : Gath W base g nr tL V LV) {r : Nat} (hr : r < nr) (lv : Value) {n : Int} {i : Bool}
    (hkeep : ∀ k, k < W.heap.size → (LV r).ownBlock ≠ some k → W2.heap[k]? = W.heap[k]?) (hsz : W.heap.size ≤ W2.heap.size) (hV : ∀ s, s ≠ r → V' s = V s) (hn : n = (V' r).n) (hi : i = (V' r).is)
    (hown : W2.ownsRow base tL 1 lv (V' r).l.length (ints (V' r).l)) (hlv : lv.ownBlock = (LV r).ownBlock ∨ ∃ b, lv.ownBlock = some b ∧ W.heap.size ≤ b) :
    Gath (((W2.setCell ⟨g, r * 3, none⟩ (.int .i64 n)).setCell ⟨g, r * 3 + 1, none⟩ (.bool i)).setCell ⟨g, r * 3 + 2, none⟩ lv) base g nr tL V' (fun s => if s = r then lv else LV s) := by
  have hg2 : W2.heap[g]? = W.heap[g]? := hkeep g h.lt (h.off r hr)
  have hc : ∀ j, W2.cell? ⟨g, j, none⟩ = W.cell? ⟨g, j, none⟩ := fun j => World.cell?_of_block (w := W) (a := ⟨g, j, none⟩) hg2
  have hf : ∀ j, W2.frozen? ⟨g, j, none⟩ = W.frozen? ⟨g, j, none⟩ := fun j => World.frozen?_of_block (w := W) (a := ⟨g, j, none⟩) hg2
  refine h.next hr lv ?_ (by simpa [World.setCell] using hsz) hV ?_ ?_ ?_ ?_ ?_ ?_ hlv
  · intro k hk hne hb
    rw [Below.heap_setCell _ _ _ _ hne, Below.heap_setCell _ _ _ _ hne, Below.heap_setCell _ _ _ _ hne]
    exact hkeep k hk hb
  · rw [cell3_0 (by rw [hc, h.n r hr]; rfl), hn]
  · rw [cell3_1 (by rw [hc, h.is r hr]; rfl), hi]
  · exact cell3_2 (by rw [hc, h.l r hr]; rfl)
  · intro j hj
    rw [cell3_o hj, hc]
  · intro j
    rw [World.frozen?_setCell, World.frozen?_setCell, World.frozen?_setCell, hf]
    exact h.fz j
  · refine own_turn hown (fun b hb _ => ?_)
    have hne : b ≠ g := by
      intro e
      subst e
      rcases hlv with hlv | ⟨b', hb', hle⟩
      · rw [hlv] at hb; exact h.off r hr hb
      · rw [hb'] at hb; injection hb with hb; have := h.lt; omega
    rw [Below.heap_setCell _ _ _ _ hne, Below.heap_setCell _ _ _ _ hne, Below.heap_setCell _ _ _ _ hne]

theorem Gath.ext {W : World} {base g nr : Nat} {tL : TypeId} {V : Nat → Val} {LV LV' : Nat → Value} (h : Gath W base g nr tL V LV) (he : ∀ s, LV' s = LV s) : Gath W base g nr tL V LV' := by
  obtain rfl : LV' = LV := funext he
  exact h

theorem Gath.below {W W' : World} {base g nr : Nat} {tL : TypeId} {V : Nat → Val} {LV : Nat → Value} (h : Gath W base g nr tL V LV) (hb : Below W.heap.size W W') : Gath W' base g nr tL V LV := by
  have hc : ∀ j, W'.cell? ⟨g, j, none⟩ = W.cell? ⟨g, j, none⟩ := fun j => hb.cell (p := ⟨g, j, none⟩) h.lt
  exact ⟨Nat.lt_of_lt_of_le h.lt hb.size, fun r hr => (hc _).trans (h.n r hr), fun r hr => (hc _).trans (h.is r hr), fun r hr => (hc _).trans (h.l r hr),
    fun j => (hb.frozen (p := ⟨g, j, none⟩) h.lt).trans (h.fz j), fun r hr => own_below (h.own r hr) hb, h.off, h.apart⟩

theorem Gath.alloc {W : World} {base g nr : Nat} {tL : TypeId} {V : Nat → Val} {LV : Nat → Value} (h : Gath W base g nr tL V LV) (o : Obj) : Gath (W.alloc o) base g nr tL V LV := h.below ((Below.refl _ _).alloc (Nat.le_refl _) _)

theorem Gath.putSame {W : World} {base g nr : Nat} {tL : TypeId} {V V' : Nat → Val} {LV : Nat → Value} (h : Gath W base g nr tL V LV) {r : Nat} (hr : r < nr) {lv : Value} {n : Int} {i : Bool} (o : Obj)
    (hV : ∀ s, s ≠ r → V' s = V s) (hlv : LV r = lv) (hn : n = (V' r).n) (hi : i = (V' r).is) (hl : (V' r).l = (V r).l) :
    Gath ((((W.setCell ⟨g, r * 3, none⟩ (.int .i64 n)).setCell ⟨g, r * 3 + 1, none⟩ (.bool i)).setCell ⟨g, r * 3 + 2, none⟩ lv).alloc o) base g nr tL V' (fun s => if s = r then lv else LV s) := by
  subst hlv
  exact (h.put hr (LV r) (fun _ _ _ => rfl) (Nat.le_refl _) hV hn hi (by rw [hl]; exact h.own r hr) (.inl rfl)).alloc o

/-- A list's new number: appended, then stored by way of a variable of its own (block B). -/
theorem Gath.putApp {W w2 : World} {base g nr : Nat} {tL : TypeId} {V V' : Nat → Val} {LV : Nat → Value} (h : Gath W base g nr tL V LV) {r : Nat} (hr : r < nr) {a' : Option Addr} {m cap' : Nat} {n : Int} {i : Bool} {x y : Value} {o1 o2 : Obj} {B j1 j2 H : Nat} (hB : B = W.heap.size) (hH : H = W.heap.size + 1 + 1)
    (hV : ∀ s, s ≠ r → V' s = V s) (hn : n = (V' r).n) (hi : i = (V' r).is) (hg : ((W.alloc o1).alloc o2).grownBy w2 (LV r).ownBlock)
    (hown : w2.ownsRow base tL 1 (.slice a' m cap') (V' r).l.length (ints (V' r).l))
    (hlie : (Value.slice a' m cap').ownBlock = (LV r).ownBlock ∨ (Value.slice a' m cap').ownBlock = some H) :
    Gath (((((w2.setCell ⟨B, j1, none⟩ x).setCell ⟨B, j2, none⟩ y).setCell ⟨g, r * 3, none⟩ (.int .i64 n)).setCell ⟨g, r * 3 + 1, none⟩ (.bool i)).setCell ⟨g, r * 3 + 2, none⟩ (.slice a' m cap')) base g nr tL V' (fun s => if s = r then .slice a' m cap' else LV s) := by
  subst hB
  have hlvb : ∀ b, (LV r).ownBlock = some b → b < W.heap.size := fun b hb => ((h.own r hr).lt b hb).2
  refine h.put hr _ ?_ ?_ hV hn hi ?_ ?_
  · intro k hk hb
    rw [Below.heap_setCell _ _ _ _ (by simp; omega), Below.heap_setCell _ _ _ _ (by simp; omega), hg.block k (by simp; omega) (fun e => hb e.symm), Below.heap_alloc _ _ _ (by simp; omega), Below.heap_alloc _ _ _ hk]
  · have := hg.size
    simp [World.setCell] at this ⊢
    omega
  · refine own_turn hown (fun b hb _ => ?_)
    have hne : b ≠ W.heap.size := by
      rcases hlie with hl | hl
      · rw [hl] at hb; have := hlvb b hb; omega
      · rw [hl] at hb; injection hb with hb; omega
    rw [Below.heap_setCell _ _ _ _ hne, Below.heap_setCell _ _ _ _ hne]
  · rcases hlie with hl | hl
    · exact .inl hl
    · exact .inr ⟨_, hl, by omega⟩

end Go.Proofs.YtkmakliebhnhbaaGreat
