import Derived.Test.YtkmakliebhnhbaaGreatSaid
import Derived.Test.YtkmakliebhnhbaaGreatLawW
namespace Go.Proofs.YtkmakliebhnhbaaGreat
open Go.RowKit

/-- The document's program while it is made: r's block, its functions so far. N: all of it is new memory from there on. -/
structure RefL (w4 W : World) (rb N : Nat) (fs : List (List Ins)) (reds : List Int) (k : Nat) (fv : Value) (us : List Value) (vr : Value) : Prop where
  below : Below N w4 W
  c0 : W.cell? ⟨rb, 0, none⟩ = some fv
  c1 : W.cell? ⟨rb, 1, none⟩ = some vr
  fz : W.frozen? ⟨rb, 0, none⟩ = false
  rbN : N ≤ rb
  own : W.ownsRow N 46 1 fv k us
  fb : fv.ownBlock ≠ some rb
  rows : ∀ (j : Nat) (u : Value) (l : List Ins), us[j]? = some u → fs[j]? = some l → RdL (fun b => N ≤ b ∧ b ≠ rb ∧ fv.ownBlock ≠ some b) W 5 Ins.vals u l
  rd : RdL (fun b => N ≤ b ∧ b ≠ rb ∧ fv.ownBlock ≠ some b) W 1 int64s vr reds

theorem RefL.next {w4 W w1 w2 : World} {rb N k : Nat} {fs : List (List Ins)} {reds : List Int} {fv vr : Value} {us : List Value} {l : List Ins} {o0 o1 : Obj} {a1 a2 : Option Addr} {n1 c1 c2 H1 : Nat} (h : RefL w4 W rb N fs reds k fv us vr) (hk : us.length = k) (hl : fs[k]? = some l) (hN : N ≤ W.heap.size)
    (e0 : Value) (he0 : e0.ownBlock = some W.heap.size) (g1 : (W.alloc o0).grownBy w1 e0.ownBlock) (ho1 : w1.ownsRow N 45 5 (.slice a1 n1 c1) n1 (flat Ins.vals l)) (hn1 : n1 = l.length)
    (hl1 : (Value.slice a1 n1 c1).ownBlock = e0.ownBlock ∨ (Value.slice a1 n1 c1).ownBlock = some H1) (hH1 : H1 = W.heap.size + 1)
    (g2 : (w1.alloc o1).grownBy w2 fv.ownBlock) (ho2 : w2.ownsRow N 46 1 (.slice a2 (k + 1) c2) (k + 1) (us ++ [.slice a1 n1 c1]))
    (H2 : Nat) (hl2 : (Value.slice a2 (k + 1) c2).ownBlock = fv.ownBlock ∨ (Value.slice a2 (k + 1) c2).ownBlock = some H2) (hH2 : H2 = w1.heap.size + 1) :
    RefL w4 (w2.setCell ⟨rb, 0, none⟩ (.slice a2 (k + 1) c2)) rb N fs reds (k + 1) (.slice a2 (k + 1) c2) (us ++ [.slice a1 n1 c1]) vr := by
  have hrl : rb < W.heap.size := block_lt_of_cell h.c0
  have hs1 : W.heap.size + 1 ≤ w1.heap.size := by have := g1.size; simpa using this
  have hs2 : w1.heap.size + 1 ≤ w2.heap.size := by have := g2.size; simpa using this
  have hfl : ∀ b, fv.ownBlock = some b → b < W.heap.size := fun b hb => (h.own.lt b hb).2
  have old1 : ∀ b, b < W.heap.size → w1.heap[b]? = W.heap[b]? := fun b hb => by
    rw [g1.block b (by simp; omega) (by rw [he0]; intro e; injection e with e; omega), Below.heap_alloc _ _ _ hb]
  have old2 : ∀ b, b < w1.heap.size → fv.ownBlock ≠ some b → w2.heap[b]? = w1.heap[b]? := fun b hb hne => by
    rw [g2.block b (by simp; omega) (fun e => hne e.symm), Below.heap_alloc _ _ _ hb]
  have oldr : ∀ b, b < W.heap.size → b ≠ rb → fv.ownBlock ≠ some b → (w2.setCell ⟨rb, 0, none⟩ (.slice a2 (k + 1) c2)).heap[b]? = W.heap[b]? := fun b hb h1 h2 => by
    rw [Below.heap_setCell _ _ _ _ h1, old2 b (by omega) h2, old1 b hb]
  have hrb2 : w2.heap[rb]? = W.heap[rb]? := by rw [old2 rb (by omega) h.fb, old1 rb hrl]
  have hfb2 : (Value.slice a2 (k + 1) c2).ownBlock ≠ some rb := by
    rcases hl2 with e | e
    · rw [e]; exact h.fb
    · rw [e]; intro e2; injection e2 with e2; omega
  have hnf : ∀ b, b < w1.heap.size → fv.ownBlock ≠ some b → (Value.slice a2 (k + 1) c2).ownBlock ≠ some b := fun b hb hne => by
    rcases hl2 with e | e
    · rw [e]; exact hne
    · rw [e]; intro e2; injection e2 with e2; omega
  have hS : ∀ b, (N ≤ b ∧ b ≠ rb ∧ fv.ownBlock ≠ some b) → b < W.heap.size → (N ≤ b ∧ b ≠ rb ∧ (Value.slice a2 (k + 1) c2).ownBlock ≠ some b) ∧ (w2.setCell ⟨rb, 0, none⟩ (.slice a2 (k + 1) c2)).heap[b]? = W.heap[b]? := fun b hb hlt =>
    ⟨⟨hb.1, hb.2.1, hnf b (by omega) hb.2.2⟩, oldr b hlt hb.2.1 hb.2.2⟩
  refine ⟨?_, ?_, ?_, ?_, h.rbN, ?_, hfb2, ?_, ?_⟩
  · refine Below.setCell (h.below.trans ?_) (p := ⟨rb, 0, none⟩) h.rbN _
    refine ⟨g2.os.trans g1.os, g2.tape.trans g1.tape, g2.output.trans g1.output, by omega, fun b hb => ?_⟩
    rw [old2 b (by omega) (fun e => by have := (h.own.lt b e).1; omega), old1 b (by omega)]
  · rw [World.cell?_setCell_same' _ _ _ (by rw [World.cell?_of_block (w := W) (a := ⟨rb, 0, none⟩) hrb2, h.c0]; rfl)]
  · rw [World.cell?_setCell_other _ _ _ _ (by simp)]
    exact (World.cell?_of_block (w := W) (a := ⟨rb, 1, none⟩) hrb2).trans h.c1
  · rw [World.frozen?_setCell]
    exact (World.frozen?_of_block (w := W) (a := ⟨rb, 0, none⟩) hrb2).trans h.fz
  · exact own_turn ho2 (fun b hb _ => Below.heap_setCell _ _ _ _ (fun e => hfb2 (by rw [hb, e])))
  · intro j u x hj hx
    by_cases hjk : j < k
    · rw [List.getElem?_append_left (by omega)] at hj
      exact (h.rows j u x hj hx).turn hS (fun x _ => List.cons_ne_nil _ _)
    · have hj2 := (List.getElem?_eq_some_iff.1 hj).1
      simp at hj2
      obtain rfl : j = k := by omega
      rw [List.getElem?_append_right (by omega)] at hj
      simp [hk] at hj
      rw [hl] at hx; cases hx
      subst hj
      have hblk : ∀ b, (Value.slice a1 n1 c1).ownBlock = some b → W.heap.size ≤ b ∧ b < w1.heap.size := fun b hb => by
        refine ⟨?_, (ho1.lt b hb).2⟩
        rcases hl1 with e | e
        · rw [e, he0] at hb; injection hb with hb; omega
        · rw [e] at hb; injection hb with hb; omega
      subst hn1
      refine own_rd (base := N) (e := 45) ?_ insvals_len (fun b hb => ?_)
      · refine own_turn ho1 (fun b hb hlt => ?_)
        have hbb := hblk b hb
        rw [Below.heap_setCell _ _ _ _ (show b ≠ rb by omega), old2 b hlt (fun e => by have := hfl b e; omega)]
      · have hbb := hblk b hb
        exact ⟨by omega, by omega, hnf b hbb.2 (fun e => by have := hfl b e; omega)⟩
  · exact h.rd.turn hS (fun x _ => by simp [int64s])

theorem RefL.done {w4 W : World} {rb N k : Nat} {fs : List (List Ins)} {reds : List Int} {fv vr : Value} {us : List Value} (h : RefL w4 W rb N fs reds k fv us vr) (hk : fs.length = k) (hu : us.length = k) : RefP (fun b => N ≤ b) W (.pointer (some ⟨rb, 0, none⟩)) fs reds := by
  refine ⟨rb, fv, vr, rfl, h.rbN, h.c0, h.c1, ⟨us, by omega, ?_, fun j u l hj hl => (h.rows j u l hj hl).turn (fun b hb _ => ⟨hb.1, rfl⟩) (fun x _ => List.cons_ne_nil _ _)⟩, h.rd.turn (fun b hb _ => ⟨hb.1, rfl⟩) (fun x _ => by simp [int64s])⟩
  refine own_rd (base := N) (e := 46) ?_ (fun _ => rfl) (fun b hb => (h.own.lt b hb).1)
  have hf : ∀ l : List Value, flat one l = l := fun l => by
    induction l with
    | nil => rfl
    | cons x t ih => simp only [flat, List.flatMap_cons, one] at *; rw [ih]; rfl
  rw [hf us, hu]
  exact h.own
end Go.Proofs.YtkmakliebhnhbaaGreat
