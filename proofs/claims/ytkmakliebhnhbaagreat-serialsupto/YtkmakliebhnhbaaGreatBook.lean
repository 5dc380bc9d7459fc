import Derived.Test.YtkmakliebhnhbaaGreatFlat
/- The book of lists: what keeping one list more turns. -/
namespace Go.Proofs.YtkmakliebhnhbaaGreat
open Go.RowKit

/-- Only blocks of M, and new ones, have turned. -/
structure Frm (M : Nat → Prop) (W W' : World) : Prop where
  os : W'.os = W.os
  tape : W'.tape = W.tape
  output : W'.output = W.output
  size : W.heap.size ≤ W'.heap.size
  block : ∀ k, k < W.heap.size → ¬ M k → W'.heap[k]? = W.heap[k]?

theorem Frm.refl (M : Nat → Prop) (W : World) : Frm M W W := ⟨rfl, rfl, rfl, Nat.le_refl _, fun _ _ _ => rfl⟩
theorem Frm.trans {M M' : Nat → Prop} {a b c : World} (h : Frm M a b) (k : Frm M' b c) (hM : ∀ i, i < a.heap.size → M' i → M i) : Frm M a c :=
  ⟨k.os.trans h.os, k.tape.trans h.tape, k.output.trans h.output, Nat.le_trans h.size k.size, fun i hi hn => (k.block i (Nat.lt_of_lt_of_le hi h.size) (fun h' => hn (hM i hi h'))).trans (h.block i hi hn)⟩
theorem Frm.mono {M M' : Nat → Prop} {a b : World} (h : Frm M a b) (hM : ∀ i, i < a.heap.size → M i → M' i) : Frm M' a b := ⟨h.os, h.tape, h.output, h.size, fun i hi hn => h.block i hi (fun h' => hn (hM i hi h'))⟩
theorem Frm.of_grown {a b : World} {row : Option Nat} (h : a.grownBy b row) : Frm (fun k => row = some k) a b := ⟨h.os, h.tape, h.output, h.size, fun k hk hn => h.block k hk (fun e => hn e.symm)⟩
theorem Frm.of_below {a b : World} (M : Nat → Prop) (h : Below a.heap.size a b) : Frm M a b := ⟨h.os, h.tape, h.output, h.size, fun k hk _ => h.block k hk⟩
theorem Frm.alloc {M : Nat → Prop} {a b : World} (h : Frm M a b) (o : Obj) : Frm M a (b.alloc o) :=
  h.trans (M' := fun _ => False) ⟨rfl, rfl, rfl, by simp, fun k hk _ => Below.heap_alloc _ _ _ hk⟩ (fun _ _ h => h.elim)
theorem Frm.setCell {M : Nat → Prop} {a b : World} (h : Frm M a b) {p : Addr} (hp : M p.block ∨ a.heap.size ≤ p.block) (u : Value) : Frm M a (b.setCell p u) :=
  ⟨h.os, h.tape, h.output, by simpa [World.setCell] using h.size, fun k hk hn => by
    rw [Below.heap_setCell _ _ _ _ (fun e => by subst e; rcases hp with hp | hp; exact hn hp; omega)]; exact h.block k hk hn⟩
theorem Frm.drewN {M : Nat → Prop} {a b : World} (h : Frm M a b) (n : Nat) : Frm M a (b.drewN n) := ⟨h.os, h.tape, h.output, h.size, h.block⟩
theorem Frm.below {B : Nat} {a b : World} (h : Frm (fun k => B ≤ k) a b) (hB : B ≤ a.heap.size) : Below B a b := ⟨h.os, h.tape, h.output, h.size, fun k hk => h.block k (by omega) (by omega)⟩

structure KS (W0 W : World) (base Bw fi : Nat) (eL eB : TypeId) (size : Nat) (rep : Nat → List Value) (lv nv0 : Value) (ls : List (Value × Nat)) (nv : Value) (us : List Value) : Prop where
  frm : Frm (fun k => k = Bw ∨ nv0.ownBlock = some k ∨ lv.ownBlock = some k) W0 W
  lt : Bw < W0.heap.size
  oth : ∀ j, j ≠ fi → W.cell? ⟨Bw, j, none⟩ = W0.cell? ⟨Bw, j, none⟩
  fz : ∀ j, W.frozen? ⟨Bw, j, none⟩ = W0.frozen? ⟨Bw, j, none⟩
  fld : W.cell? ⟨Bw, fi, none⟩ = some nv
  book : W.ownsRow base eB 1 nv us.length us
  bw : nv.ownBlock ≠ some Bw
  nvb : nv.ownBlock = nv0.ownBlock ∨ ∃ b, nv.ownBlock = some b ∧ W0.heap.size ≤ b
  lists : ∀ p ∈ ls, W.ownsRow base eL size p.1 p.2 (rep p.2) ∧ (p.1.ownBlock = lv.ownBlock ∨ ∃ b, p.1.ownBlock = some b ∧ W0.heap.size ≤ b) ∧ p.1.ownBlock ≠ some Bw ∧ (∀ b, p.1.ownBlock = some b → nv.ownBlock ≠ some b)

section
variable {W0 W w2 : World} {base Bw fi : Nat} {eL eB : TypeId} {size : Nat} {rep : Nat → List Value} {lv nv0 nv : Value} {ls : List (Value × Nat)} {us : List Value}

/-- A list more: the kept one, with marks behind it. -/
theorem KS.addList (h : KS W0 W base Bw fi eL eB size rep lv nv0 ls nv us) (hsz : 0 < size) (hrep : ∀ j m, j ≤ m → (rep m).take (j * size) = rep j) {n m : Nat} (hlv : (lv, n) ∈ ls) (hls : ∀ p ∈ ls, p.2 ≤ n + m) {o : Obj} {a' : Option Addr} {cap' H : Nat} (hH : H = W.heap.size + 1)
    (ho : w2.ownsRow base eL size (.slice a' (n + m) cap') (n + m) (rep (n + m))) (hg : (W.alloc o).grownBy w2 lv.ownBlock) (hlie : (Value.slice a' (n + m) cap').ownBlock = lv.ownBlock ∨ (Value.slice a' (n + m) cap').ownBlock = some H)
    (hway : AppWay (W.alloc o) w2 lv n a' cap') : KS W0 w2 base Bw fi eL eB size rep lv nv0 ((.slice a' (n + m) cap', n + m) :: ls) nv us := by
  obtain ⟨o1, o2, o3, o4⟩ := h.lists _ hlv
  have hbs : Bw < W.heap.size := Nat.lt_of_lt_of_le h.lt h.frm.size
  have hB : w2.heap[Bw]? = W.heap[Bw]? := (hg.block Bw (by simp; omega) (fun e => o3 e.symm)).trans (Below.heap_alloc _ _ _ hbs)
  have hnv : ∀ b, nv.ownBlock = some b → w2.heap[b]? = W.heap[b]? := fun b hb => by
    have hlt := (h.book.lt b hb).2
    exact (hg.block b (by simp; omega) (fun e => o4 b e.symm hb)).trans (Below.heap_alloc _ _ _ hlt)
  refine ⟨?_, h.lt, ?_, ?_, ?_, ?_, h.bw, h.nvb, ?_⟩
  · exact (h.frm.alloc o).trans (Frm.of_grown hg) (fun i _ hi => .inr (.inr hi))
  · intro j hj
    exact (World.cell?_of_block (w := W) (a := ⟨Bw, j, none⟩) hB).trans (h.oth j hj)
  · intro j
    exact (World.frozen?_of_block (w := W) (a := ⟨Bw, j, none⟩) hB).trans (h.fz j)
  · exact (World.cell?_of_block (w := W) (a := ⟨Bw, fi, none⟩) hB).trans h.fld
  · exact own_turn h.book (fun b hb _ => hnv b hb)
  · intro p hp
    rcases List.mem_cons.1 hp with rfl | hp
    · refine ⟨ho, ?_, ?_, ?_⟩
      · rcases hlie with hl | hl
        · rcases o2 with o2 | ⟨b, hb, hle⟩
          · exact .inl hl
          · exact .inl hl
        · exact .inr ⟨_, hl, by have := h.frm.size; omega⟩
      · rcases hlie with hl | hl
        · intro e; exact o3 (hl.symm.trans e)
        · intro e; rw [hl] at e; injection e with e; omega
      · intro b hb
        rcases hlie with hl | hl
        · exact o4 b (hl.symm.trans hb)
        · intro e
          have := (h.book.lt b e).2
          rw [hl] at hb; injection hb with hb; omega
    · obtain ⟨p1, p2, p3, p4⟩ := h.lists p hp
      exact ⟨app_own hsz (o1.alloc o) (p1.alloc o) ho (hrep _ _ (hls p hp)) hg hway (hls p hp), p2, p3, p4⟩

/-- A list is entered. -/
theorem KS.addBook (h : KS W0 W base Bw fi eL eB size rep lv nv0 ls nv us) {o : Obj} {u : Value} {a' : Option Addr} {cap' H q : Nat} (hq : us.length = q) (hH : H = W.heap.size + 1)
    (ho : w2.ownsRow base eB 1 (.slice a' (q + 1) cap') (q + 1) (us ++ [u])) (hg : (W.alloc o).grownBy w2 nv.ownBlock) (hlie : (Value.slice a' (q + 1) cap').ownBlock = nv.ownBlock ∨ (Value.slice a' (q + 1) cap').ownBlock = some H) :
    KS W0 (w2.setCell ⟨Bw, fi, none⟩ (.slice a' (q + 1) cap')) base Bw fi eL eB size rep lv nv0 ls (.slice a' (q + 1) cap') (us ++ [u]) := by
  have hbs : Bw < W.heap.size := Nat.lt_of_lt_of_le h.lt h.frm.size
  have hB : w2.heap[Bw]? = W.heap[Bw]? := (hg.block Bw (by simp; omega) (fun e => h.bw e.symm)).trans (Below.heap_alloc _ _ _ hbs)
  have hbw' : (Value.slice a' (q + 1) cap').ownBlock ≠ some Bw := by
    rcases hlie with hl | hl
    · rw [hl]; exact h.bw
    · rw [hl]; intro e; injection e with e; omega
  refine ⟨?_, h.lt, ?_, ?_, ?_, ?_, hbw', ?_, ?_⟩
  · refine Frm.setCell ?_ (.inl (.inl rfl)) _
    refine (h.frm.alloc o).trans (Frm.of_grown hg) (fun i hi hi2 => ?_)
    rcases h.nvb with hn | ⟨b, hb, hle⟩
    · exact .inr (.inl (hn.symm.trans hi2))
    · rw [hb] at hi2; injection hi2 with hi2; omega
  · intro j hj
    rw [World.cell?_setCell_other _ _ _ _ (by intro e; injection e with _ e; exact hj e.symm)]
    exact (World.cell?_of_block (w := W) (a := ⟨Bw, j, none⟩) hB).trans (h.oth j hj)
  · intro j
    rw [World.frozen?_setCell]
    exact (World.frozen?_of_block (w := W) (a := ⟨Bw, j, none⟩) hB).trans (h.fz j)
  · rw [World.cell?_setCell_same' _ _ _ (by rw [World.cell?_of_block (w := W) (a := ⟨Bw, fi, none⟩) hB, h.fld]; rfl)]
  · have hl : (us ++ [u]).length = q + 1 := by simp [hq]
    rw [hl]
    exact own_turn ho (fun b hb _ => Below.heap_setCell _ _ _ _ (fun e => hbw' (by rw [hb, e])))
  · rcases hlie with hl | hl
    · rw [hl]; exact h.nvb
    · exact .inr ⟨_, hl, by have := h.frm.size; omega⟩
  · intro p hp
    obtain ⟨p1, p2, p3, p4⟩ := h.lists p hp
    refine ⟨?_, p2, p3, ?_⟩
    · refine own_turn p1 (fun b hb hlt => ?_)
      rw [Below.heap_setCell _ _ _ _ (fun e => p3 (by rw [hb, e])), hg.block b (by simp; omega) (fun e => p4 b hb e.symm), Below.heap_alloc _ _ _ hlt]
    · intro b hb
      have hlt := (p1.lt b hb).2
      rcases hlie with hl | hl
      · rw [hl]; exact p4 b hb
      · rw [hl]; intro e; injection e with e; omega

/-- What the store into the book's field wants. -/
theorem KS.store (h : KS W0 W base Bw fi eL eB size rep lv nv0 ls nv us) {o : Obj} (hg : (W.alloc o).grownBy w2 nv.ownBlock) : w2.cell? ⟨Bw, fi, none⟩ = some nv ∧ w2.frozen? ⟨Bw, fi, none⟩ = W0.frozen? ⟨Bw, fi, none⟩ := by
  have hbs : Bw < W.heap.size := Nat.lt_of_lt_of_le h.lt h.frm.size
  have hB : w2.heap[Bw]? = W.heap[Bw]? := (hg.block Bw (by simp; omega) (fun e => h.bw e.symm)).trans (Below.heap_alloc _ _ _ hbs)
  exact ⟨(World.cell?_of_block (w := W) (a := ⟨Bw, fi, none⟩) hB).trans h.fld, (World.frozen?_of_block (w := W) (a := ⟨Bw, fi, none⟩) hB).trans (h.fz fi)⟩

/-- What was kept over a new variable. -/
theorem KS.weaken {w : World} {o : Obj} (h : KS (w.alloc o) W base Bw fi eL eB size rep lv nv0 ls nv us) (hB : Bw < w.heap.size) : KS w W base Bw fi eL eB size rep lv nv0 ls nv us := by
  have hb : (w.alloc o).heap[Bw]? = w.heap[Bw]? := Below.heap_alloc _ _ _ hB
  refine ⟨?_, hB, fun j hj => (h.oth j hj).trans (World.cell?_of_block (w := w) (a := ⟨Bw, j, none⟩) hb), fun j => (h.fz j).trans (World.frozen?_of_block (w := w) (a := ⟨Bw, j, none⟩) hb), h.fld, h.book, h.bw, ?_, ?_⟩
  · exact (Frm.alloc (Frm.refl _ _) o).trans h.frm (fun _ _ h => h)
  · rcases h.nvb with h1 | ⟨b, h1, h2⟩
    · exact .inl h1
    · exact .inr ⟨b, h1, by simp at h2; omega⟩
  · intro p hp
    obtain ⟨p1, p2, p3, p4⟩ := h.lists p hp
    refine ⟨p1, ?_, p3, p4⟩
    rcases p2 with h1 | ⟨b, h1, h2⟩
    · exact .inl h1
    · exact .inr ⟨b, h1, by simp at h2; omega⟩
end

/-- So many marks. -/
def repC (cs : List Value) (j : Nat) : List Value := (List.replicate j cs).flatten
theorem repC_len (cs : List Value) (j : Nat) : (repC cs j).length = j * cs.length := by
  induction j with
  | zero => simp [repC]
  | succ j ih => simp only [repC, List.replicate_succ, List.flatten_cons, List.length_append] at *; rw [ih, Nat.add_mul]; omega
theorem repC_add (cs : List Value) (j m : Nat) : repC cs j ++ repC cs m = repC cs (j + m) := by
  simp only [repC, ← List.replicate_append_replicate, List.flatten_append]
theorem repC_take {cs : List Value} {size : Nat} (hs : cs.length = size) : ∀ j m, j ≤ m → (repC cs m).take (j * size) = repC cs j := by
  intro j m h
  obtain ⟨d, rfl⟩ := Nat.le.dest h
  rw [← repC_add, List.take_append_of_le_length (by rw [repC_len, hs]; omega), ← hs, ← repC_len, List.take_length]
theorem repC_one {cs : List Value} (h1 : ∀ u ∈ cs, u.oneCell' = true) (j : Nat) : ∀ u ∈ repC cs j, u.oneCell' = true := by
  intro u hu
  obtain ⟨l, hl, hu2⟩ := List.mem_flatten.1 hu
  obtain ⟨_, e⟩ := List.mem_replicate.1 hl
  rw [e] at hu2
  exact h1 u hu2
/-- Three cells more are marked. -/
theorem take3_set {zs : List Value} {k n : Nat} {x y z : Value} (hl : zs.length = n * 3) (hk : k < n) (h : zs.take (k * 3) = repC [x, y, z] k) :
    ((((zs.set (k * 3) x).set (k * 3 + 1) y).set (k * 3 + 2) z).take ((k + 1) * 3)) = repC [x, y, z] (k + 1) := by
  rw [← repC_add [x, y, z] k 1, ← h, show (k + 1) * 3 = k * 3 + 1 + 1 + 1 by omega]
  rw [List.take_succ_eq_append_getElem (by simp; omega), List.take_succ_eq_append_getElem (by simp; omega), List.take_succ_eq_append_getElem (by simp; omega)]
  simp [List.take_set_of_le, repC]
theorem srcA (W : World) (cs : Array Value) (t : TypeId) (H _n : Nat) (news : List Value) (hH : W.heap.size = H) (hc : cs.toList = news) (size m : Nat) (hl : news.length = m * size) : AppSrc (W.alloc (.cells cs t)) size (.slice (some ⟨H, 0, none⟩) m m) m news :=
  .inr ⟨_, _, rfl, hl, by subst hH; subst hc; exact World.news_of_block (cs := cs) (fr := (0, 0)) (heap_new W _)⟩

def mkZ (m : Nat) : Int := -1000 - ((m / 4 : Nat) : Int)

end Go.Proofs.YtkmakliebhnhbaaGreat
