import Derived.Test.YtkmakliebhnhbaaGreatKeep
import Derived.Test.YtkmakliebhnhbaaGreatSerRef
import Derived.Test.YtkmakliebhnhbaaGreatValRef
import Derived.Test.YtkmakliebhnhbaaGreatLawS
/- What the law asks of the program: New, Serial; how programs are kept. -/
namespace Go.Proofs.YtkmakliebhnhbaaGreat
open Go.RowKit

/-- How the program lies in memory is the program's own business: all that is asked: it lies in blocks of S, and whoever leaves those alone leaves it alone. -/
structure Dev where
  P : (Nat → Prop) → World → Value → List (List Ins) → List Int → Prop
  turn : ∀ {S S' : Nat → Prop} {W W' : World} {p : Value} {fs : List (List Ins)} {reds : List Int}, P S W p fs reds → (∀ b, S b → b < W.heap.size → S' b ∧ W'.heap[b]? = W.heap[b]?) → P S' W' p fs reds

def FsWf (fs : List (List Ins)) : Prop := ∀ l ∈ fs, ∀ i ∈ l, i.wf
def Small (fs : List (List Ins)) (reds : List Int) : Prop := fs.length ≤ 2000000 ∧ reds.length ≤ 2000000 ∧ ∀ l ∈ fs, l.length ≤ 2000000

def NewSaid (D : Dev) : Prop := ∀ (fs : List (List Ins)) (reds : List Int) (S : Nat → Prop) (vf vr : Value) (w : World), FsWf fs → Small fs reds → (∀ r ∈ reds, i64 r) → RdF S w vf fs → RdL S w 1 int64s vr reds →
  Calls Tryz.prog 15 #[vf, vr] w fun e w' => ∃ p, e = .returned (.tuple #[p, .int .i64 (check fs reds).1, .int .i64 (check fs reds).2]) ∧ Below w.heap.size w w' ∧
    ((check fs reds).1 = 0 → (∃ b, p = .pointer (some ⟨b, 0, none⟩)) ∧ D.P (fun b => w.heap.size ≤ b ∧ b < w'.heap.size) w' p fs reds) ∧ ((check fs reds).1 ≠ 0 → p = .pointer none)

def SerialSaid (D : Dev) : Prop := ∀ (fs : List (List Ins)) (reds : List Int) (S : Nat → Prop) (p : Value) (seed x : Int) (w : World), FsWf fs → (check fs reds).1 = 0 → u64 seed → i64 x → D.P S w p fs reds →
  Calls Tryz.prog 20 #[p, .int .u64 seed, .int .i64 x] w fun e w' => ∃ lv tv LV xs, e = .returned (.agg #[lv, tv, .int .i64 0, .int .i64 0, .int .i64 0, .int .i64 (framesC fs)]) ∧
    OwnV w' w.heap.size lv reds.length (valsZ reds (traceZ fs seed x)) LV xs ∧ w'.ownsRow w.heap.size 89 3 tv (traceZ fs seed x).length (evCells (traceZ fs seed x)) ∧ Clear lv tv ∧ (∀ r, r < reds.length → Clear (LV r) tv) ∧ Below w.heap.size w w'

/-- A program of the document's, in memory. -/
def RefP (S : Nat → Prop) (W : World) (v : Value) (fs : List (List Ins)) (reds : List Int) : Prop := ∃ rb vf vr, v = .pointer (some ⟨rb, 0, none⟩) ∧ S rb ∧ W.cell? ⟨rb, 0, none⟩ = some vf ∧ W.cell? ⟨rb, 1, none⟩ = some vr ∧ RdF S W vf fs ∧ RdL S W 1 int64s vr reds

theorem RefP.turn {S S' : Nat → Prop} {W W' : World} {v : Value} {fs : List (List Ins)} {reds : List Int} (h : RefP S W v fs reds) (hS : ∀ b, S b → b < W.heap.size → S' b ∧ W'.heap[b]? = W.heap[b]?) : RefP S' W' v fs reds := by
  obtain ⟨rb, vf, vr, hv, hrb, c0, c1, h1, h2⟩ := h
  have hl : rb < W.heap.size := block_lt_of_cell c0
  obtain ⟨s1, s2⟩ := hS rb hrb hl
  exact ⟨rb, vf, vr, hv, s1, (World.cell?_of_block (w := W) (a := ⟨rb, 0, none⟩) s2).trans c0, (World.cell?_of_block (w := W) (a := ⟨rb, 1, none⟩) s2).trans c1, h1.turn hS, h2.turn hS (fun x _ => by simp [int64s])⟩

/-- A program that passed the check. -/
theorem check_ok {fs : List (List Ins)} {reds : List Int} (h : (check fs reds).1 = 0) (hw : FsWf fs) : 0 < fs.length ∧ fs.length ≤ 8 ∧ reds.length ≤ 4 ∧ FsOk fs reds.length ∧ (∀ l ∈ fs, l.length ≤ 10) := by
  by_cases h1 : fs.length < 1 ∨ 8 < fs.length
  · rw [check_1 h1] at h; cases h
  by_cases h2 : 4 < reds.length
  · rw [check_2 h1 h2] at h; cases h
  cases h3 : firstBad (badR reds) reds.length with
  | some r => rw [check_3 h1 h2 h3] at h; cases h
  | none =>
    cases h4 : firstBad (badF fs reds.length) fs.length with
    | some f => rw [check_4 h1 h2 h3 h4] at h; cases h
    | none =>
      have hb : ∀ f, f < fs.length → badF fs reds.length f = false := fun f hf => by
        have := List.find?_eq_none.1 h4 f (List.mem_range.2 hf)
        simpa using this
      obtain ⟨k1, k2⟩ := FsOk_of hb hw
      exact ⟨by omega, by omega, by omega, k1, k2⟩

/-- Reducers of what is given are reducers. -/
theorem oneZ_r {sub : Nat → Int → Int → List Ev} {n nr : Nat} {f : Nat} {x h r : Int} {i : Ins} (hm : mayB n nr f i = true) (hs : ∀ g y k, ∀ e ∈ sub g y k, ∃ q : Nat, e.r = q ∧ q < nr) : ∀ e ∈ oneZ sub x h r i, ∃ q : Nat, e.r = q ∧ q < nr := by
  intro e he
  unfold oneZ at he
  unfold mayB at hm
  split at he
  · rename_i h1
    rw [if_pos h1] at hm
    simp only [Bool.and_eq_true, decide_eq_true_eq] at hm
    rw [List.mem_singleton] at he
    subst he
    exact ⟨i.r.toNat, by simp only; omega, by omega⟩
  · rename_i h1
    rw [if_neg h1] at hm
    split at he
    · rename_i h2
      rw [if_pos h2] at hm
      simp only [Bool.and_eq_true, decide_eq_true_eq] at hm
      rw [List.mem_singleton] at he
      subst he
      exact ⟨i.r.toNat, by simp only; omega, by omega⟩
    · split at he
      · exact hs _ _ _ e he
      · cases he
theorem serL_r {sub : Nat → Int → Int → List Ev} {n nr f : Nat} {x h : Int} (hs : ∀ g y k, ∀ e ∈ sub g y k, ∃ q : Nat, e.r = q ∧ q < nr) : ∀ (l : List Ins) (r : Int), (∀ i ∈ l, mayB n nr f i = true) → ∀ e ∈ serL sub x h r l, ∃ q : Nat, e.r = q ∧ q < nr
  | [], _, _, e, he => by cases he
  | i :: t, r, hl, e, he => by
    simp only [serL, List.mem_append] at he
    rcases he with he | he
    · exact oneZ_r (hl i (List.mem_cons_self ..)) hs e he
    · exact serL_r hs t _ (fun j hj => hl j (List.mem_cons_of_mem _ hj)) e he
theorem ser_r {fs : List (List Ins)} {nr : Nat} (hok : FsOk fs nr) : ∀ d f x h, ∀ e ∈ ser fs d f x h, ∃ q : Nat, e.r = q ∧ q < nr
  | 0, _, _, _, e, he => by simp [ser] at he
  | d + 1, f, x, h, e, he => by
    simp only [ser] at he
    cases hf : fs[f]? with
    | none => rw [hf] at he; simp [serL] at he
    | some l =>
      rw [hf] at he
      exact serL_r (n := fs.length) (f := f) (ser_r hok d) l 0 (fun i hi => (hok f l hf i hi).1) e he
theorem trace_len {fs : List (List Ins)} (hn : fs.length ≤ 8) (hl : ∀ l ∈ fs, l.length ≤ 10) (seed x : Int) : (traceZ fs seed x).length ≤ 100000000 := by
  have h1 := ser_len hl fs.length 0 x seed
  have h2 : 10 ^ fs.length ≤ 10 ^ 8 := Nat.pow_le_pow_right (by omega) hn
  unfold traceZ
  omega
theorem evCells_flat (l : List Ev) : evCells l = flat Ev.vals l := rfl
theorem evvals_len (e : Ev) : e.vals.length = 3 := rfl

theorem OwnV.rd {W : World} {base n : Nat} {lv : Value} {V : Nat → Val} {LV : Nat → Value} {xs : List Value} (h : OwnV W base lv n V LV xs) : RdV W lv V n := by
  rcases h.row.2 with ⟨hv, h0⟩ | ⟨g, cap, cur, hv, hb, hg, hn, hm, hc, ht⟩
  · subst h0; exact ⟨none, 0, hv, by omega, by unfold maxLen; omega, fun r hr => by omega⟩
  · subst hv
    refine ⟨_, cap, rfl, hn, hm, fun r hr => ⟨g, 0, LV r, rfl, ?_, ?_, ?_, own_rd (by rw [← ints_flat]; exact h.own r hr) int64s_len (fun _ _ => trivial)⟩⟩
    · rw [Nat.zero_add, World.ownsRow.cellAt h.row _ (by omega)]; exact h.n0 r hr
    · rw [Nat.zero_add, World.ownsRow.cellAt h.row _ (by omega)]; exact h.n1 r hr
    · rw [Nat.zero_add, World.ownsRow.cellAt h.row _ (by omega)]; exact h.n2 r hr
end Go.Proofs.YtkmakliebhnhbaaGreat
