import Derived.Deep.RegionHeld3
import Derived.Deep.DrawnRows
import Derived.Deep.QuietTactic
import Derived.BigQuiet
import Derived.Test.YtkmakliebhnhbaaVals
import Derived.Test.YtkmakliebhnhbaaRows
import Derived.Test.YtkmakliebhnhbaaSer
import Derived.Test.YtkmakliebhnhbaaFrames
import Derived.Test.YtkmakliebhnhbaaApp
/- Lists of elements of several cells: flat; 'copy'; what is owned may be read. -/
namespace Go.Proofs.Ytkmakliebhnhbaa
open Go.RowKit

def flat {α : Type} (enc : α → List Value) (l : List α) : List Value := l.flatMap enc

theorem flat_len {α : Type} {enc : α → List Value} {size : Nat} (hs : ∀ x, (enc x).length = size) (l : List α) : (flat enc l).length = l.length * size := by
  induction l with
  | nil => simp [flat]
  | cons x t ih => simp only [flat, List.flatMap_cons, List.length_append, List.length_cons] at *; rw [ih, hs]; rw [Nat.add_mul]; omega
theorem flat_get {α : Type} {enc : α → List Value} {size : Nat} (hs : ∀ x, (enc x).length = size) (l : List α) {k j : Nat} {x : α} (hk : l[k]? = some x) (hj : j < size) : (flat enc l)[k * size + j]? = (enc x)[j]? := by
  induction l generalizing k with
  | nil => simp at hk
  | cons y t ih =>
    simp only [flat, List.flatMap_cons]
    cases k with
    | zero =>
      simp at hk; subst hk
      rw [List.getElem?_append_left (by rw [hs]; omega)]; simp
    | succ k =>
      simp at hk
      rw [List.getElem?_append_right (by rw [hs, Nat.add_mul]; omega), hs, show (k + 1) * size + j - size = k * size + j by rw [Nat.add_mul]; omega]
      exact ih hk
theorem flat_append {α : Type} {enc : α → List Value} (a b : List α) : flat enc (a ++ b) = flat enc a ++ flat enc b := by simp [flat]

/-- A block of S that holds v's cells. -/
theorem own_rd {α : Type} {enc : α → List Value} {S : Nat → Prop} {W : World} {base : Nat} {e : TypeId} {size : Nat} {v : Value} {l : List α} (h : W.ownsRow base e size v l.length (flat enc l)) (hs : ∀ x, (enc x).length = size)
    (hS : ∀ b, v.ownBlock = some b → S b) : RdL S W size enc v l := by
  rcases h.2 with ⟨rfl, h0⟩ | ⟨g, cap, cur, rfl, hb, hg, hn, hm, hc, ht⟩
  · exact ⟨none, 0, by rw [h0], by omega, by unfold maxLen; omega, .inl ⟨List.eq_nil_of_length_eq_zero h0, fun _ => rfl⟩⟩
  · refine ⟨_, cap, rfl, hn, hm, .inr ⟨g, 0, rfl, hS g rfl, fun k x hk j u hu => ?_⟩⟩
    have hj : j < size := by have := (List.getElem?_eq_some_iff.1 hu).1; rw [hs] at this; exact this
    have hkl := (List.getElem?_eq_some_iff.1 hk).1
    have hlt : k * size + j < l.length * size := by
      have : (k + 1) * size ≤ l.length * size := Nat.mul_le_mul_right _ hkl
      rw [Nat.add_mul] at this; omega
    rw [Nat.zero_add, World.ownsRow.cellAt h _ hlt, flat_get hs l hk hj, hu]

/-- What lies in memory may be appended. -/
theorem rd_src {α : Type} {enc : α → List Value} {S : Nat → Prop} {W : World} {size : Nat} {v : Value} {l : List α} (h : RdL S W size enc v l) (hs : ∀ x, (enc x).length = size) (hz : 0 < size) :
    AppSrc W size v l.length (flat enc l) := by
  obtain ⟨a, cap, rfl, hc, hm, h⟩ := h
  rcases h with ⟨rfl, hn⟩ | ⟨b, off, rfl, _, h⟩
  · cases a with
    | none => obtain rfl := hn rfl; left; exact ⟨rfl, rfl, rfl⟩
    | some a' => exact .inr ⟨_, _, rfl, by simp [flat], fun j u hu => by simp [flat] at hu⟩
  · refine .inr ⟨_, _, rfl, flat_len hs l, fun j u hu => ?_⟩
    have hjl := (List.getElem?_eq_some_iff.1 hu).1
    rw [flat_len hs] at hjl
    have hk : j / size < l.length := (Nat.div_lt_iff_lt_mul hz).2 hjl
    have hm' : j % size < size := Nat.mod_lt _ hz
    have e : j / size * size + j % size = j := by rw [Nat.mul_comm]; exact Nat.div_add_mod j size
    have hx : l[j / size]? = some l[j / size] := List.getElem?_eq_getElem hk
    have := flat_get hs l hx hm'
    rw [e, hu] at this
    have h2 := h (j / size) _ hx (j % size) u this.symm
    rw [Addr.add_lit, ← h2]
    congr 2
    omega

section
variable {P : Program} (w : World)
/-- 'copy' into a row that is owned, at its head: elements of whatever size. -/
theorem run_copy_sized (dT sT ty elem : TypeId) (size g dLen dCap : Nat) (cur : Array Value) (t : TypeId) (sv : Value) (m : Nat) (news : List Value)
    (hu : P.underlying dT = some (.slice elem)) (hs : (P.info? elem).map (·.size) = some size) (hg : w.heap[g]? = some (.cells cur t (0, 0))) (hsrc : AppSrc w size sv m news) (hm : m ≤ dLen)
    (hfit : news.length ≤ cur.size) (h1 : ∀ v ∈ news, v.oneCell' = true) :
    (Builtin.copy_ #[dT, sT] ty #[.slice (some ⟨g, 0, none⟩) dLen dCap, sv]).run P w = .ok (goInt m) (w.setRow g (news ++ cur.toList.drop news.length).toArray) := by
  rcases hsrc with ⟨rfl, rfl, rfl⟩ | ⟨ad, c, rfl, hl, hc⟩
  · rw [run_copy_nil (P := P) w dT sT ty elem _ dLen dCap hu (by rw [hs]; rfl)]
    simp only [List.nil_append, List.length_nil, List.drop_zero, Array.toArray_toList]
    rw [setRow_self w g cur t (0, 0) hg]
    rfl
  · have hl' := run_loadCells_list (P := P) w ad news hc
    have hst := run_storeCells_at P g 0 t news 0 cur w hg (by simpa using hfit) h1
    have hmin : Nat.min m dLen = m := Nat.min_eq_left hm
    have hmin' : min m dLen = m := Nat.min_eq_left hm
    cases hq : P.info? elem with
    | none => simp [hq] at hs
    | some i =>
      have hi : i.size = size := by simpa [hq] using hs
      simp [Builtin.copy_, run_underlying hu, Builtin.lenOf, Builtin.firstCells, sizeOf, typeInfo, hq, hi, hmin', ← hl, hl', hst]
theorem wpList_copy {ops : Array Oper} {rest : List Oper} {a : Act} {Q : Exit → Act → World → Prop} (d s : Operand) (dT sT : TypeId) {dst : Option Tmp} {ty : TypeId} {pos : String} {after : Array Edge}
    (elem : TypeId) (size base : Nat) (hu : P.underlying dT = some (.slice elem)) (hsz : (P.info? elem).map (·.size) = some size)
    (g n cap : Nat) (xs : List Value) (hd : a.eval d = .slice (some ⟨g, 0, none⟩) n cap) (hown : w.ownsRow base elem size (.slice (some ⟨g, 0, none⟩) n cap) n xs)
    (sv : Value) (m : Nat) (news : List Value) (hs : a.eval s = sv) (hsrc : AppSrc w size sv m news) (hm : m ≤ n) (h1 : ∀ v ∈ news, v.oneCell' = true)
    (h : ∀ w', w'.ownsRow base elem size (.slice (some ⟨g, 0, none⟩) n cap) n (news ++ xs.drop news.length) → w.grownBy w' (some g) → wpList P ops Q rest (a.put dst (goInt m)) w') :
    wpList P ops Q ({ dst := dst, op := .call { callee := .builtin .copy, args := #[d, s], argTypes := #[dT, sT] }, type := ty, pos := pos, after := after, guard := none } :: rest) a w := by
  refine wpList_plain rfl fun K hK => ?_
  have hl := hsrc.len
  obtain ⟨hx, hh⟩ := hown
  rcases hh with ⟨hv, _⟩ | ⟨g', cap', cur, hv, hb, hg, hn, hcm, hcs, htake⟩
  · cases hv
  · cases hv
    have hle : m * size ≤ n * size := Nat.mul_le_mul_right _ hm
    have hle2 : n * size ≤ cap * size := Nat.mul_le_mul_right _ hn
    have hrun := run_copy_sized (P := P) w dT sT ty elem size g n cap cur elem sv m news hu hsz hg hsrc hm (by omega) h1
    unfold Oper.wp
    simp [execOp, resolve, invoke, builtin, hd, hs, hrun, Result.andThen]
    refine hK _ _ (h _ ⟨?_, .inr ⟨g, cap, _, rfl, hb, setRow_heap w g cur _ elem (0, 0) hg, hn, hcm, ?_, ?_⟩⟩ ⟨rfl, rfl, rfl, by simp, fun k _ hk => setRow_other w g k _ (fun e => hk (by simp [e]))⟩)
    · simp only [List.length_append, List.length_drop]; omega
    · simp only [List.size_toArray, List.length_append, List.length_drop, Array.length_toList]; omega
    · rw [← htake]
      simp only [List.take_append, List.drop_take]
      rw [List.take_of_length_le (by omega)]
end
end Go.Proofs.Ytkmakliebhnhbaa

/- The book of lists: what keeping one list more turns. -/
namespace Go.Proofs.Ytkmakliebhnhbaa
open Go.RowKit

/-- Only blocks of M, and new ones, have turned. -/
structure Frm (M : Nat → Prop) (W W' : World) : Prop where
  os : W'.os = W.os
  tape : W'.tape = W.tape
  output : W'.output = W.output
  size : W.heap.size ≤ W'.heap.size
  block : ∀ k, k < W.heap.size → ¬ M k → W'.heap[k]? = W.heap[k]?

theorem Frm.refl (M : Nat → Prop) (W : World) : Frm M W W := ⟨rfl, rfl, rfl, Nat.le_refl _, fun _ _ _ => rfl⟩
theorem Frm.trans {M M' : Nat → Prop} {a b c : World} (h : Frm M a b) (k : Frm M' b c) (hM : ∀ i, i < a.heap.size → M' i → M i) : Frm M a c :=
  ⟨k.os.trans h.os, k.tape.trans h.tape, k.output.trans h.output, Nat.le_trans h.size k.size, fun i hi hn => (k.block i (Nat.lt_of_lt_of_le hi h.size) (fun h' => hn (hM i hi h'))).trans (h.block i hi hn)⟩
theorem Frm.mono {M M' : Nat → Prop} {a b : World} (h : Frm M a b) (hM : ∀ i, i < a.heap.size → M i → M' i) : Frm M' a b := ⟨h.os, h.tape, h.output, h.size, fun i hi hn => h.block i hi (fun h' => hn (hM i hi h'))⟩
theorem Frm.of_grown {a b : World} {row : Option Nat} (h : a.grownBy b row) : Frm (fun k => row = some k) a b := ⟨h.os, h.tape, h.output, h.size, fun k hk hn => h.block k hk (fun e => hn e.symm)⟩
theorem Frm.of_below {a b : World} (M : Nat → Prop) (h : Below a.heap.size a b) : Frm M a b := ⟨h.os, h.tape, h.output, h.size, fun k hk _ => h.block k hk⟩
theorem Frm.alloc {M : Nat → Prop} {a b : World} (h : Frm M a b) (o : Obj) : Frm M a (b.alloc o) :=
  h.trans (M' := fun _ => False) ⟨rfl, rfl, rfl, by simp, fun k hk _ => Below.heap_alloc _ _ _ hk⟩ (fun _ _ h => h.elim)
theorem Frm.setCell {M : Nat → Prop} {a b : World} (h : Frm M a b) {p : Addr} (hp : M p.block ∨ a.heap.size ≤ p.block) (u : Value) : Frm M a (b.setCell p u) :=
  ⟨h.os, h.tape, h.output, by simpa [World.setCell] using h.size, fun k hk hn => by
    rw [Below.heap_setCell _ _ _ _ (fun e => by subst e; rcases hp with hp | hp; exact hn hp; omega)]; exact h.block k hk hn⟩
theorem Frm.drewN {M : Nat → Prop} {a b : World} (h : Frm M a b) (n : Nat) : Frm M a (b.drewN n) := ⟨h.os, h.tape, h.output, h.size, h.block⟩
theorem Frm.below {B : Nat} {a b : World} (h : Frm (fun k => B ≤ k) a b) (hB : B ≤ a.heap.size) : Below B a b := ⟨h.os, h.tape, h.output, h.size, fun k hk => h.block k (by omega) (by omega)⟩

structure KS (W0 W : World) (base Bw fi : Nat) (eL eB : TypeId) (size : Nat) (rep : Nat → List Value) (lv nv0 : Value) (ls : List (Value × Nat)) (nv : Value) (us : List Value) : Prop where
  frm : Frm (fun k => k = Bw ∨ nv0.ownBlock = some k ∨ lv.ownBlock = some k) W0 W
  lt : Bw < W0.heap.size
  oth : ∀ j, j ≠ fi → W.cell? ⟨Bw, j, none⟩ = W0.cell? ⟨Bw, j, none⟩
  fz : ∀ j, W.frozen? ⟨Bw, j, none⟩ = W0.frozen? ⟨Bw, j, none⟩
  fld : W.cell? ⟨Bw, fi, none⟩ = some nv
  book : W.ownsRow base eB 1 nv us.length us
  bw : nv.ownBlock ≠ some Bw
  nvb : nv.ownBlock = nv0.ownBlock ∨ ∃ b, nv.ownBlock = some b ∧ W0.heap.size ≤ b
  lists : ∀ p ∈ ls, W.ownsRow base eL size p.1 p.2 (rep p.2) ∧ (p.1.ownBlock = lv.ownBlock ∨ ∃ b, p.1.ownBlock = some b ∧ W0.heap.size ≤ b) ∧ p.1.ownBlock ≠ some Bw ∧ (∀ b, p.1.ownBlock = some b → nv.ownBlock ≠ some b)

section
variable {W0 W w2 : World} {base Bw fi : Nat} {eL eB : TypeId} {size : Nat} {rep : Nat → List Value} {lv nv0 nv : Value} {ls : List (Value × Nat)} {us : List Value}

/-- A list more: the kept one, with marks behind it. -/
theorem KS.addList (h : KS W0 W base Bw fi eL eB size rep lv nv0 ls nv us) (hsz : 0 < size) (hrep : ∀ j m, j ≤ m → (rep m).take (j * size) = rep j) {n m : Nat} (hlv : (lv, n) ∈ ls) (hls : ∀ p ∈ ls, p.2 ≤ n + m) {o : Obj} {a' : Option Addr} {cap' H : Nat} (hH : H = W.heap.size + 1)
    (ho : w2.ownsRow base eL size (.slice a' (n + m) cap') (n + m) (rep (n + m))) (hg : (W.alloc o).grownBy w2 lv.ownBlock) (hlie : (Value.slice a' (n + m) cap').ownBlock = lv.ownBlock ∨ (Value.slice a' (n + m) cap').ownBlock = some H)
    (hway : AppWay (W.alloc o) w2 lv n a' cap') : KS W0 w2 base Bw fi eL eB size rep lv nv0 ((.slice a' (n + m) cap', n + m) :: ls) nv us := by
  obtain ⟨o1, o2, o3, o4⟩ := h.lists _ hlv
  have hbs : Bw < W.heap.size := Nat.lt_of_lt_of_le h.lt h.frm.size
  have hB : w2.heap[Bw]? = W.heap[Bw]? := (hg.block Bw (by simp; omega) (fun e => o3 e.symm)).trans (Below.heap_alloc _ _ _ hbs)
  have hnv : ∀ b, nv.ownBlock = some b → w2.heap[b]? = W.heap[b]? := fun b hb => by
    have hlt := (h.book.lt b hb).2
    exact (hg.block b (by simp; omega) (fun e => o4 b e.symm hb)).trans (Below.heap_alloc _ _ _ hlt)
  refine ⟨?_, h.lt, ?_, ?_, ?_, ?_, h.bw, h.nvb, ?_⟩
  · exact (h.frm.alloc o).trans (Frm.of_grown hg) (fun i _ hi => .inr (.inr hi))
  · intro j hj
    exact (World.cell?_of_block (w := W) (a := ⟨Bw, j, none⟩) hB).trans (h.oth j hj)
  · intro j
    exact (World.frozen?_of_block (w := W) (a := ⟨Bw, j, none⟩) hB).trans (h.fz j)
  · exact (World.cell?_of_block (w := W) (a := ⟨Bw, fi, none⟩) hB).trans h.fld
  · exact own_turn h.book (fun b hb _ => hnv b hb)
  · intro p hp
    rcases List.mem_cons.1 hp with rfl | hp
    · refine ⟨ho, ?_, ?_, ?_⟩
      · rcases hlie with hl | hl
        · rcases o2 with o2 | ⟨b, hb, hle⟩
          · exact .inl hl
          · exact .inl hl
        · exact .inr ⟨_, hl, by have := h.frm.size; omega⟩
      · rcases hlie with hl | hl
        · intro e; exact o3 (hl.symm.trans e)
        · intro e; rw [hl] at e; injection e with e; omega
      · intro b hb
        rcases hlie with hl | hl
        · exact o4 b (hl.symm.trans hb)
        · intro e
          have := (h.book.lt b e).2
          rw [hl] at hb; injection hb with hb; omega
    · obtain ⟨p1, p2, p3, p4⟩ := h.lists p hp
      exact ⟨app_own hsz (o1.alloc o) (p1.alloc o) ho (hrep _ _ (hls p hp)) hg hway (hls p hp), p2, p3, p4⟩

/-- A list is entered. -/
theorem KS.addBook (h : KS W0 W base Bw fi eL eB size rep lv nv0 ls nv us) {o : Obj} {u : Value} {a' : Option Addr} {cap' H q : Nat} (hq : us.length = q) (hH : H = W.heap.size + 1)
    (ho : w2.ownsRow base eB 1 (.slice a' (q + 1) cap') (q + 1) (us ++ [u])) (hg : (W.alloc o).grownBy w2 nv.ownBlock) (hlie : (Value.slice a' (q + 1) cap').ownBlock = nv.ownBlock ∨ (Value.slice a' (q + 1) cap').ownBlock = some H) :
    KS W0 (w2.setCell ⟨Bw, fi, none⟩ (.slice a' (q + 1) cap')) base Bw fi eL eB size rep lv nv0 ls (.slice a' (q + 1) cap') (us ++ [u]) := by
  have hbs : Bw < W.heap.size := Nat.lt_of_lt_of_le h.lt h.frm.size
  have hB : w2.heap[Bw]? = W.heap[Bw]? := (hg.block Bw (by simp; omega) (fun e => h.bw e.symm)).trans (Below.heap_alloc _ _ _ hbs)
  have hbw' : (Value.slice a' (q + 1) cap').ownBlock ≠ some Bw := by
    rcases hlie with hl | hl
    · rw [hl]; exact h.bw
    · rw [hl]; intro e; injection e with e; omega
  refine ⟨?_, h.lt, ?_, ?_, ?_, ?_, hbw', ?_, ?_⟩
  · refine Frm.setCell ?_ (.inl (.inl rfl)) _
    refine (h.frm.alloc o).trans (Frm.of_grown hg) (fun i hi hi2 => ?_)
    rcases h.nvb with hn | ⟨b, hb, hle⟩
    · exact .inr (.inl (hn.symm.trans hi2))
    · rw [hb] at hi2; injection hi2 with hi2; omega
  · intro j hj
    rw [World.cell?_setCell_other _ _ _ _ (by intro e; injection e with _ e; exact hj e.symm)]
    exact (World.cell?_of_block (w := W) (a := ⟨Bw, j, none⟩) hB).trans (h.oth j hj)
  · intro j
    rw [World.frozen?_setCell]
    exact (World.frozen?_of_block (w := W) (a := ⟨Bw, j, none⟩) hB).trans (h.fz j)
  · rw [World.cell?_setCell_same' _ _ _ (by rw [World.cell?_of_block (w := W) (a := ⟨Bw, fi, none⟩) hB, h.fld]; rfl)]
  · have hl : (us ++ [u]).length = q + 1 := by simp [hq]
    rw [hl]
    exact own_turn ho (fun b hb _ => Below.heap_setCell _ _ _ _ (fun e => hbw' (by rw [hb, e])))
  · rcases hlie with hl | hl
    · rw [hl]; exact h.nvb
    · exact .inr ⟨_, hl, by have := h.frm.size; omega⟩
  · intro p hp
    obtain ⟨p1, p2, p3, p4⟩ := h.lists p hp
    refine ⟨?_, p2, p3, ?_⟩
    · refine own_turn p1 (fun b hb hlt => ?_)
      rw [Below.heap_setCell _ _ _ _ (fun e => p3 (by rw [hb, e])), hg.block b (by simp; omega) (fun e => p4 b hb e.symm), Below.heap_alloc _ _ _ hlt]
    · intro b hb
      have hlt := (p1.lt b hb).2
      rcases hlie with hl | hl
      · rw [hl]; exact p4 b hb
      · rw [hl]; intro e; injection e with e; omega

/-- What the store into the book's field wants. -/
theorem KS.store (h : KS W0 W base Bw fi eL eB size rep lv nv0 ls nv us) {o : Obj} (hg : (W.alloc o).grownBy w2 nv.ownBlock) : w2.cell? ⟨Bw, fi, none⟩ = some nv ∧ w2.frozen? ⟨Bw, fi, none⟩ = W0.frozen? ⟨Bw, fi, none⟩ := by
  have hbs : Bw < W.heap.size := Nat.lt_of_lt_of_le h.lt h.frm.size
  have hB : w2.heap[Bw]? = W.heap[Bw]? := (hg.block Bw (by simp; omega) (fun e => h.bw e.symm)).trans (Below.heap_alloc _ _ _ hbs)
  exact ⟨(World.cell?_of_block (w := W) (a := ⟨Bw, fi, none⟩) hB).trans h.fld, (World.frozen?_of_block (w := W) (a := ⟨Bw, fi, none⟩) hB).trans (h.fz fi)⟩

/-- What was kept over a new variable. -/
theorem KS.weaken {w : World} {o : Obj} (h : KS (w.alloc o) W base Bw fi eL eB size rep lv nv0 ls nv us) (hB : Bw < w.heap.size) : KS w W base Bw fi eL eB size rep lv nv0 ls nv us := by
  have hb : (w.alloc o).heap[Bw]? = w.heap[Bw]? := Below.heap_alloc _ _ _ hB
  refine ⟨?_, hB, fun j hj => (h.oth j hj).trans (World.cell?_of_block (w := w) (a := ⟨Bw, j, none⟩) hb), fun j => (h.fz j).trans (World.frozen?_of_block (w := w) (a := ⟨Bw, j, none⟩) hb), h.fld, h.book, h.bw, ?_, ?_⟩
  · exact (Frm.alloc (Frm.refl _ _) o).trans h.frm (fun _ _ h => h)
  · rcases h.nvb with h1 | ⟨b, h1, h2⟩
    · exact .inl h1
    · exact .inr ⟨b, h1, by simp at h2; omega⟩
  · intro p hp
    obtain ⟨p1, p2, p3, p4⟩ := h.lists p hp
    refine ⟨p1, ?_, p3, p4⟩
    rcases p2 with h1 | ⟨b, h1, h2⟩
    · exact .inl h1
    · exact .inr ⟨b, h1, by simp at h2; omega⟩
end

/-- So many marks. -/
def repC (cs : List Value) (j : Nat) : List Value := (List.replicate j cs).flatten
theorem repC_len (cs : List Value) (j : Nat) : (repC cs j).length = j * cs.length := by
  induction j with
  | zero => simp [repC]
  | succ j ih => simp only [repC, List.replicate_succ, List.flatten_cons, List.length_append] at *; rw [ih, Nat.add_mul]; omega
theorem repC_add (cs : List Value) (j m : Nat) : repC cs j ++ repC cs m = repC cs (j + m) := by
  simp only [repC, ← List.replicate_append_replicate, List.flatten_append]
theorem repC_take {cs : List Value} {size : Nat} (hs : cs.length = size) : ∀ j m, j ≤ m → (repC cs m).take (j * size) = repC cs j := by
  intro j m h
  obtain ⟨d, rfl⟩ := Nat.le.dest h
  rw [← repC_add, List.take_append_of_le_length (by rw [repC_len, hs]; omega), ← hs, ← repC_len, List.take_length]
theorem repC_one {cs : List Value} (h1 : ∀ u ∈ cs, u.oneCell' = true) (j : Nat) : ∀ u ∈ repC cs j, u.oneCell' = true := by
  intro u hu
  obtain ⟨l, hl, hu2⟩ := List.mem_flatten.1 hu
  obtain ⟨_, e⟩ := List.mem_replicate.1 hl
  rw [e] at hu2
  exact h1 u hu2
/-- Three cells more are marked. -/
theorem take3_set {zs : List Value} {k n : Nat} {x y z : Value} (hl : zs.length = n * 3) (hk : k < n) (h : zs.take (k * 3) = repC [x, y, z] k) :
    ((((zs.set (k * 3) x).set (k * 3 + 1) y).set (k * 3 + 2) z).take ((k + 1) * 3)) = repC [x, y, z] (k + 1) := by
  rw [← repC_add [x, y, z] k 1, ← h, show (k + 1) * 3 = k * 3 + 1 + 1 + 1 by omega]
  rw [List.take_succ_eq_append_getElem (by simp; omega), List.take_succ_eq_append_getElem (by simp; omega), List.take_succ_eq_append_getElem (by simp; omega)]
  simp [List.take_set_of_le, repC]
theorem srcA (W : World) (cs : Array Value) (t : TypeId) (H _n : Nat) (news : List Value) (hH : W.heap.size = H) (hc : cs.toList = news) (size m : Nat) (hl : news.length = m * size) : AppSrc (W.alloc (.cells cs t)) size (.slice (some ⟨H, 0, none⟩) m m) m news :=
  .inr ⟨_, _, rfl, hl, by subst hH; subst hc; exact World.news_of_block (cs := cs) (fr := (0, 0)) (heap_new W _)⟩

def mkZ (m : Nat) : Int := -1000 - ((m / 4 : Nat) : Int)

end Go.Proofs.Ytkmakliebhnhbaa

namespace Go.Proofs.Ytkmakliebhnhbaa
open Go.RowKit

theorem Try.infoInt' : (Try.prog.info? 3).map (fun i => (i.zero, i.size, i.bytes)) = some (some (.int .i64 0), 1, 8) := by kernel_rfl
theorem Try.infoIns : (Try.prog.info? 52).map (fun i => (i.zero, i.size, i.bytes)) = some (some (.agg #[.int .i64 0, .int .i64 0, .int .i64 0, .int .i64 0, .int .i64 0]), 5, 40) := by kernel_rfl
theorem Try.sizeInt : (Try.prog.info? 3).map (·.size) = some 1 := by kernel_rfl
theorem Try.sizeIns : (Try.prog.info? 52).map (·.size) = some 5 := by kernel_rfl

theorem int64s_len (x : Int) : (int64s x).length = 1 := rfl
theorem insvals_len (x : Ins) : x.vals.length = 5 := rfl
theorem flat_int64s_one (l : List Int) : ∀ u ∈ flat int64s l, u.oneCell' = true := by
  intro u hu
  obtain ⟨e, _, he⟩ := List.mem_flatMap.1 hu
  simp only [int64s, List.mem_cons, List.not_mem_nil, or_false] at he
  subst he; rfl
theorem flat_ins_one (l : List Ins) : ∀ u ∈ flat Ins.vals l, u.oneCell' = true := by
  intro u hu
  obtain ⟨e, _, he⟩ := List.mem_flatMap.1 hu
  simp only [Ins.vals, List.mem_cons, List.not_mem_nil, or_false] at he
  rcases he with rfl | rfl | rfl | rfl | rfl <;> rfl

/-- The list with k marks behind it. -/
def mk77 (xs : List Int) (k : Nat) : List Int := xs ++ List.replicate k 77 ++ List.replicate (3 - k) 0

theorem mk77_start (xs : List Int) : flat int64s xs ++ (madeCells #[Value.int .i64 0] (xs.length + 3)).toList.drop (flat int64s xs).length = flat int64s (mk77 xs 0) := by
  rw [toList_madeCells_one, flat_len int64s_len]
  simp [mk77, flat, List.drop_replicate, int64s]

theorem flat1_set (l : List Int) (j : Nat) (z : Int) : (flat int64s l).set j (.int .i64 z) = flat int64s (l.set j z) := by
  have e : ∀ l : List Int, flat int64s l = l.map (Value.int .i64) := fun l => by induction l with
    | nil => rfl
    | cons x t ih => simp only [flat, List.flatMap_cons, List.map_cons] at *; rw [ih]; rfl
  rw [e, e, List.map_set]

theorem mk77_step (xs : List Int) (k : Nat) (hk : k < 3) : (mk77 xs k).set (xs.length + k) 77 = mk77 xs (k + 1) := by
  unfold mk77
  rw [List.append_assoc, List.append_assoc, List.set_append_right _ _ (by omega), show xs.length + k - xs.length = k by omega]
  match k, hk with
  | 0, _ => rfl
  | 1, _ => rfl
  | 2, _ => rfl

def i77 : Ins := ⟨77, 0, 0, 0, 0⟩
def i00 : Ins := ⟨0, 0, 0, 0, 0⟩
def mkc (xs : List Ins) (k : Nat) : List Ins := xs ++ List.replicate k i77 ++ List.replicate (3 - k) i00

theorem made5 (m : Nat) : (madeCells #[Value.int .i64 0, .int .i64 0, .int .i64 0, .int .i64 0, .int .i64 0] m).toList = List.replicate m (.int .i64 0) := by
  apply List.ext_getElem
  · simp [madeCells]
  · intro j h1 h2
    simp only [madeCells, Array.toList_map, List.getElem_map, Array.getElem_toList, Array.getElem_range, List.getElem_replicate]
    have : j % 5 < 5 := Nat.mod_lt _ (by omega)
    match hq : j % 5, this with
    | 0, _ => simp
    | 1, _ => simp
    | 2, _ => simp
    | 3, _ => simp
    | 4, _ => simp

theorem mkc_start (xs : List Ins) : flat Ins.vals xs ++ (madeCells #[Value.int .i64 0, .int .i64 0, .int .i64 0, .int .i64 0, .int .i64 0] ((xs.length + 3) * 5)).toList.drop (flat Ins.vals xs).length = flat Ins.vals (mkc xs 0) := by
  rw [made5, flat_len insvals_len, List.drop_replicate, show (xs.length + 3) * 5 - xs.length * 5 = 15 by omega]
  simp only [mkc, List.replicate_zero, List.append_nil, flat_append]
  rfl

theorem flat5_set : ∀ (l : List Ins) (j : Nat) (x : Ins), j < l.length → ((((((flat Ins.vals l).set (j * 5) (.int .i64 x.op)).set (j * 5 + 1) (.int .i64 x.f)).set (j * 5 + 2) (.int .i64 x.r)).set (j * 5 + 3) (.int .i64 x.k)).set (j * 5 + 4) (.int .i64 x.l)) = flat Ins.vals (l.set j x)
  | [], j, x, h => by simp at h
  | y :: t, 0, x, _ => by simp [flat, Ins.vals]
  | y :: t, j + 1, x, h => by
    have ih := flat5_set t j x (by simpa using h)
    have e : ∀ c u (l : List Value), (y.vals ++ l).set ((j + 1) * 5 + c) u = y.vals ++ l.set (j * 5 + c) u := fun c u l => by
      rw [List.set_append_right _ _ (by rw [insvals_len]; omega), insvals_len, show (j + 1) * 5 + c - 5 = j * 5 + c by omega]
    have e0 := fun u l => e 0 u l
    simp only [Nat.add_zero] at e0
    show ((((((y.vals ++ flat Ins.vals t).set ((j + 1) * 5) _).set ((j + 1) * 5 + 1) _).set ((j + 1) * 5 + 2) _).set ((j + 1) * 5 + 3) _).set ((j + 1) * 5 + 4) _) = y.vals ++ flat Ins.vals (t.set j x)
    rw [e0, e, e, e, e, ih]

theorem mkc_step (xs : List Ins) (k : Nat) (hk : k < 3) : (mkc xs k).set (xs.length + k) i77 = mkc xs (k + 1) := by
  unfold mkc
  rw [List.append_assoc, List.append_assoc, List.set_append_right _ _ (by omega), show xs.length + k - xs.length = k by omega]
  match k, hk with
  | 0, _ => rfl
  | 1, _ => rfl
  | 2, _ => rfl
theorem mkc_len (xs : List Ins) (k : Nat) (hk : k ≤ 3) : (mkc xs k).length = xs.length + 3 := by simp [mkc]; omega
theorem mk77_len (xs : List Int) (k : Nat) (hk : k ≤ 3) : (mk77 xs k).length = xs.length + 3 := by simp [mk77]; omega

theorem own_get5 {W : World} {base g n cap : Nat} {e : TypeId} {l : List Ins} (h : W.ownsRow base e 5 (.slice (some ⟨g, 0, none⟩) n cap) n (flat Ins.vals l)) (hl : l.length = n) {q : Nat} {x : Ins} (hq : l[q]? = some x) :
    W.cell? ⟨g, q * 5, none⟩ = some (.int .i64 x.op) ∧ W.cell? ⟨g, q * 5 + 1, none⟩ = some (.int .i64 x.f) ∧ W.cell? ⟨g, q * 5 + 2, none⟩ = some (.int .i64 x.r) ∧ W.cell? ⟨g, q * 5 + 3, none⟩ = some (.int .i64 x.k) ∧ W.cell? ⟨g, q * 5 + 4, none⟩ = some (.int .i64 x.l) := by
  have hlt := (List.getElem?_eq_some_iff.1 hq).1
  have key : ∀ j, j < 5 → W.cell? ⟨g, q * 5 + j, none⟩ = x.vals[j]? := fun j hj => by
    rw [h.cellAt _ (by omega), flat_get insvals_len l hq hj]
  exact ⟨by simpa [Ins.vals] using key 0 (by omega), key 1 (by omega), key 2 (by omega), key 3 (by omega), key 4 (by omega)⟩

theorem own_set5 {W : World} {base g n cap : Nat} {e : TypeId} {l : List Ins} (h : W.ownsRow base e 5 (.slice (some ⟨g, 0, none⟩) n cap) n (flat Ins.vals l)) {q : Nat} (x : Ins) (hq : q < l.length) :
    (((((W.setCell ⟨g, q * 5, none⟩ (.int .i64 x.op)).setCell ⟨g, q * 5 + 1, none⟩ (.int .i64 x.f)).setCell ⟨g, q * 5 + 2, none⟩ (.int .i64 x.r)).setCell ⟨g, q * 5 + 3, none⟩ (.int .i64 x.k)).setCell ⟨g, q * 5 + 4, none⟩ (.int .i64 x.l)).ownsRow base e 5 (.slice (some ⟨g, 0, none⟩) n cap) n (flat Ins.vals (l.set q x)) := by
  rw [← flat5_set l q x hq]
  exact (((((h.stored _ _).1.stored _ _).1.stored _ _).1.stored _ _).1.stored _ _).1

end Go.Proofs.Ytkmakliebhnhbaa

namespace Go.Proofs.Ytkmakliebhnhbaa
open Go.RowKit

theorem grown_trans {a b c : World} {row : Option Nat} (h : a.grownBy b row) (k : b.grownBy c row) : a.grownBy c row :=
  ⟨k.os.trans h.os, k.tape.trans h.tape, k.output.trans h.output, Nat.le_trans h.size k.size, fun i hi hne => (k.block i (Nat.lt_of_lt_of_le hi h.size) hne).trans (h.block i hi hne)⟩
theorem grown_below {a b : World} (h : Below a.heap.size a b) (row : Option Nat) : a.grownBy b row := ⟨h.os, h.tape, h.output, h.size, fun k hk _ => h.block k hk⟩
theorem grown_drewN {a b : World} {row : Option Nat} (h : a.grownBy b row) (n : Nat) : a.grownBy (b.drewN n) row := grown_trans h ⟨rfl, rfl, rfl, Nat.le_refl _, fun _ _ _ => rfl⟩
theorem grown_set {a b : World} {g j : Nat} (h : a.grownBy b (some g)) (u : Value) : a.grownBy (b.setCell ⟨g, j, none⟩ u) (some g) :=
  grown_trans h ⟨rfl, rfl, rfl, by simp [World.setCell], fun k _ hk => Below.heap_setCell _ _ _ _ (fun e => hk (by simp [e]))⟩
theorem own_drewN {w : World} {base : Nat} {e : TypeId} {size : Nat} {v : Value} {n : Nat} {xs : List Value} (h : w.ownsRow base e size v n xs) (k : Nat) : (w.drewN k).ownsRow base e size v n xs := h

theorem own_set_other {w : World} {base : Nat} {e : TypeId} {size : Nat} {v : Value} {n : Nat} {xs : List Value} (h : w.ownsRow base e size v n xs) {g j : Nat} (hg : v.ownBlock ≠ some g) (u : Value) : (w.setCell ⟨g, j, none⟩ u).ownsRow base e size v n xs :=
  own_turn h (fun b hb _ => Below.heap_setCell _ _ _ _ (fun e => hg (by rw [hb, e])))

theorem own_get1 {W : World} {base g n cap : Nat} {e : TypeId} {l : List Int} (h : W.ownsRow base e 1 (.slice (some ⟨g, 0, none⟩) n cap) n (flat int64s l)) (hl : l.length = n) {q : Nat} {x : Int} (hq : l[q]? = some x) :
    W.cell? ⟨g, q, none⟩ = some (.int .i64 x) := by
  have hlt := (List.getElem?_eq_some_iff.1 hq).1
  have := flat_get int64s_len l hq (j := 0) (by omega)
  rw [h.cellAt _ (by omega)]
  simpa [int64s] using this

end Go.Proofs.Ytkmakliebhnhbaa

namespace Go.Proofs.Ytkmakliebhnhbaa
open Go.RowKit

theorem Try.infoL64 : (Try.prog.info? 40).map (fun i => (i.zero, i.size, i.bytes)) = some (some (.slice none 0 0), 1, 24) := by kernel_rfl
theorem Try.infoI64' : (Try.prog.info? 2).map (fun i => (i.zero, i.size, i.bytes)) = some (some (.int .i64 0), 1, 8) := by kernel_rfl

def repN (mk : Int) (j : Nat) : List Value := List.replicate j (.int .i64 mk)
theorem repN_take (mk : Int) : ∀ j m, j ≤ m → (repN mk m).take (j * 1) = repN mk j := by
  intro j m h; simp [repN, List.take_replicate, Nat.min_eq_left h]
theorem repN_one (mk : Int) (j : Nat) : ∀ u ∈ repN mk j, u.oneCell' = true := by
  intro u hu; obtain ⟨_, rfl⟩ := List.mem_replicate.1 hu; rfl
theorem repN_add (mk : Int) (j m : Nat) : repN mk j ++ repN mk m = repN mk (j + m) := by simp [repN, List.replicate_append_replicate]

end Go.Proofs.Ytkmakliebhnhbaa

/- MADE BY wip/genkeep.py -/
namespace Go.Proofs.Ytkmakliebhnhbaa
open Go.RowKit

theorem Try.infoLE : (Try.prog.info? 34).map (fun i => (i.zero, i.size, i.bytes)) = some (some (.slice none 0 0), 1, 24) := by kernel_rfl
theorem Try.infoE' : (Try.prog.info? 42).map (fun i => (i.zero, i.size, i.bytes)) = some (some (.agg #[.int .i64 0, .int .i64 0, .int .i64 0]), 3, 24) := by kernel_rfl

def evMk (m : Nat) : List Value := [.int .i64 (mkZ m), .int .i64 0, .int .i64 0]

end Go.Proofs.Ytkmakliebhnhbaa

/- MADE BY wip/genwd.py. The statements' World: its books. -/
namespace Go.Proofs.Ytkmakliebhnhbaa
open Go.RowKit

/-- The two lists lie in different blocks. -/
def Clear (v : Value) (u : Value) : Prop := ∀ b, v.ownBlock = some b → u.ownBlock ≠ some b
theorem Clear.symm {v u : Value} (h : Clear v u) : Clear u v := fun b hb hv => h b hv hb

def vaMk (m : Nat) : List Value := [.int .i64 (mkZ m), .bool false, .slice none 0 0]

theorem mkZ_div {m i : Nat} (h : m % 4 = 0) (h1 : m ≤ i) (h2 : i < m + 4) : mkZ i = mkZ m := by
  unfold mkZ
  rw [show i / 4 = m / 4 by omega]

theorem repN_repC (mk : Int) (l : Nat) : repN mk l = repC [.int .i64 mk] l := by
  induction l with
  | zero => rfl
  | succ l ih => simp only [repN, repC, List.replicate_succ, List.flatten_cons] at *; rw [ih]; rfl

/-- A list of marks, owned, is a list to be read. -/
theorem own_marks {S : Nat → Prop} {W : World} {base : Nat} {e : TypeId} {v : Value} {l size : Nat} {cs : List Value} (h : W.ownsRow base e size v l (repC cs l)) (hc : cs.length = size) (hS : ∀ b, v.ownBlock = some b → S b) : RdL S W size id v (List.replicate l cs) := by
  have hf : flat id (List.replicate l cs) = repC cs l := by simp [flat, repC, List.flatMap_id]
  rcases h.2 with ⟨rfl, h0⟩ | ⟨g, cap, cur, rfl, hb, hg, hn, hm, hcs, ht⟩
  · exact ⟨none, 0, by simp [h0], by simp [h0], by unfold maxLen; omega, .inl ⟨by simp [h0], fun _ => rfl⟩⟩
  · refine ⟨_, cap, by simp, by simpa using hn, hm, .inr ⟨g, 0, rfl, hS g rfl, fun k x hk j u hu => ?_⟩⟩
    have hkl := (List.getElem?_eq_some_iff.1 hk).1
    have hx : x = cs := by
      have := (List.getElem?_eq_some_iff.1 hk).2
      simpa using this.symm
    subst hx
    have hj : j < size := by have := (List.getElem?_eq_some_iff.1 hu).1; simp only [id] at this; omega
    have hlt : k * size + j < l * size := by
      have : (k + 1) * size ≤ l * size := Nat.mul_le_mul_right _ (by simp at hkl; omega)
      rw [Nat.add_mul] at this; omega
    have hsp := repC_add x k (l - k)
    rw [show k + (l - k) = l by simp at hkl; omega] at hsp
    rw [Nat.zero_add, World.ownsRow.cellAt h _ hlt, ← hsp]
    rw [List.getElem?_append_right (by rw [repC_len, hc]; omega), repC_len, hc, show k * size + j - k * size = j by omega]
    obtain ⟨d, hd⟩ : ∃ d, l - k = d + 1 := ⟨l - k - 1, by simp at hkl; omega⟩
    rw [hd]
    simp only [repC, List.replicate_succ, List.flatten_cons]
    rw [List.getElem?_append_left (by omega)]
    exact hu

theorem rep_turn {S S' : Nat → Prop} {W W' : World} {size l : Nat} {cs : List Value} {u : Value} (hc : cs ≠ []) (h : RdL S W size id u (List.replicate l cs)) (hS : ∀ b, S b → b < W.heap.size → S' b ∧ W'.heap[b]? = W.heap[b]?) : RdL S' W' size id u (List.replicate l cs) :=
  h.turn hS (fun x hx => by obtain ⟨_, rfl⟩ := List.mem_replicate.1 hx; exact hc)

end Go.Proofs.Ytkmakliebhnhbaa

/- MADE BY wip/genkeep.py -/
namespace Go.Proofs.Ytkmakliebhnhbaa
open Go.RowKit

theorem Try.infoLV : (Try.prog.info? 33).map (fun i => (i.zero, i.size, i.bytes)) = some (some (.slice none 0 0), 1, 24) := by kernel_rfl
theorem Try.infoV' : (Try.prog.info? 44).map (fun i => (i.zero, i.size, i.bytes)) = some (some (.agg #[.int .i64 0, .bool false, .slice none 0 0]), 3, 40) := by kernel_rfl

/-- Values that came out: their row, each list, all apart. -/
structure OwnV (W : World) (base : Nat) (lv : Value) (n : Nat) (V : Nat → Val) (LV : Nat → Value) (xs : List Value) : Prop where
  row : W.ownsRow base 44 3 lv n xs
  n0 : ∀ r, r < n → xs[r * 3]? = some (.int .i64 (V r).n)
  n1 : ∀ r, r < n → xs[r * 3 + 1]? = some (.bool (V r).is)
  n2 : ∀ r, r < n → xs[r * 3 + 2]? = some (LV r)
  own : ∀ r, r < n → W.ownsRow base 2 1 (LV r) (V r).l.length (ints (V r).l)
  off : ∀ r, r < n → Clear (LV r) lv
  apart : ∀ r s, r < n → s < n → r ≠ s → Clear (LV r) (LV s)

end Go.Proofs.Ytkmakliebhnhbaa

namespace Go.Proofs.Ytkmakliebhnhbaa
open Go.RowKit

theorem OwnV.below {W W' : World} {base n : Nat} {lv : Value} {V : Nat → Val} {LV : Nat → Value} {xs : List Value} (h : OwnV W base lv n V LV xs) (hb : Below W.heap.size W W') : OwnV W' base lv n V LV xs :=
  { h with row := own_below h.row hb, own := fun r hr => own_below (h.own r hr) hb }
theorem OwnV.base {W : World} {base base' n : Nat} {lv : Value} {V : Nat → Val} {LV : Nat → Value} {xs : List Value} (h : OwnV W base lv n V LV xs) (hb : base' ≤ base) : OwnV W base' lv n V LV xs :=
  { h with row := own_base h.row hb, own := fun r hr => own_base (h.own r hr) hb }

/-- A list of new memory is clear of one of old. -/
theorem clear_new {w0 w : World} {b0 : Nat} {e e' : TypeId} {size size' : Nat} {u v : Value} {n m : Nat} {xs ys : List Value} (hu : w.ownsRow w0.heap.size e size u n xs) (hv : w0.ownsRow b0 e' size' v m ys) : Clear u v := fun b hb hv' => by
  have := (hu.lt b hb).1; have := (hv.lt b hv').2; omega

end Go.Proofs.Ytkmakliebhnhbaa

/- MADE BY wip/genstill.py -/
namespace Go.Proofs.Ytkmakliebhnhbaa
open Go.RowKit

/-- An entry of a book, in a later world: its cell and its list. -/
theorem book_at {w wr : World} {B : Nat} {e : TypeId} {v : Value} {us : List Value} {i : Nat} {u : Value} (h : w.ownsRow B e 1 v us.length us) (hb : Below w.heap.size w wr) (hu : us[i]? = some u) :
    ∃ g cap, v = .slice (some ⟨g, 0, none⟩) us.length cap ∧ wr.cell? ⟨g, i, none⟩ = some u ∧ g < w.heap.size := by
  have hi := (List.getElem?_eq_some_iff.1 hu).1
  obtain ⟨g, cap, hv, _, hg⟩ := h.form (by omega)
  subst hv
  exact ⟨g, cap, rfl, (hb.cell (p := ⟨g, i, none⟩) hg).trans ((h.cellAt i (by omega)).trans hu), hg⟩

end Go.Proofs.Ytkmakliebhnhbaa

namespace Go.Proofs.Ytkmakliebhnhbaa
open Go.RowKit

end Go.Proofs.Ytkmakliebhnhbaa

namespace Go.Proofs.Ytkmakliebhnhbaa
open Go.RowKit

section
variable {fs : List (List Ins)} {reds : List Int}
theorem check_1 (h : fs.length < 1 ∨ 8 < fs.length) : check fs reds = (1, 0) := by unfold check; rw [if_pos h]
theorem check_2 (h : ¬ (fs.length < 1 ∨ 8 < fs.length)) (h2 : 4 < reds.length) : check fs reds = (2, 0) := by unfold check; rw [if_neg h, if_pos h2]
theorem check_3 (h : ¬ (fs.length < 1 ∨ 8 < fs.length)) (h2 : ¬ 4 < reds.length) {r : Nat} (h3 : firstBad (badR reds) reds.length = some r) : check fs reds = (2, (r : Int)) := by unfold check; rw [if_neg h, if_neg h2, h3]
theorem check_4 (h : ¬ (fs.length < 1 ∨ 8 < fs.length)) (h2 : ¬ 4 < reds.length) (h3 : firstBad (badR reds) reds.length = none) {f : Nat} (h4 : firstBad (badF fs reds.length) fs.length = some f) : check fs reds = (3, (f : Int)) := by
  unfold check; rw [if_neg h, if_neg h2, h3]; simp only [h4]
theorem check_5 (h : ¬ (fs.length < 1 ∨ 8 < fs.length)) (h2 : ¬ 4 < reds.length) (h3 : firstBad (badR reds) reds.length = none) (h4 : firstBad (badF fs reds.length) fs.length = none) : check fs reds = if 300 < framesC fs then (4, 0) else (0, 0) := by
  unfold check; rw [if_neg h, if_neg h2, h3]; simp only [h4]

theorem badF_false {nr f : Nat} {l : List Ins} (hl : fs[f]? = some l) (h1 : l.length ≤ 10) (h2 : ∀ i ∈ l, mayB fs.length nr f i = true) : badF fs nr f = false := by
  unfold badF
  rw [hl]
  simp only [Option.getD_some, Bool.or_eq_false_iff, decide_eq_false_iff_not, List.any_eq_false]
  exact ⟨by omega, fun i hi => by simp [h2 i hi]⟩
theorem badF_long {nr f : Nat} {l : List Ins} (hl : fs[f]? = some l) (h1 : 10 < l.length) : badF fs nr f = true := by
  unfold badF; rw [hl]; simp [h1]
theorem badF_ins {nr f k : Nat} {l : List Ins} {i : Ins} (hl : fs[f]? = some l) (hi : l[k]? = some i) (h1 : mayB fs.length nr f i = false) : badF fs nr f = true := by
  unfold badF; rw [hl]
  simp only [Option.getD_some, Bool.or_eq_true, List.any_eq_true]
  exact .inr ⟨i, List.mem_of_getElem? hi, by simp [h1]⟩
/-- None of the functions is bad: each instruction may be. -/
theorem FsOk_of {nr : Nat} (h : ∀ f, f < fs.length → badF fs nr f = false) (hw : ∀ l ∈ fs, ∀ i ∈ l, i.wf) : FsOk fs nr ∧ ∀ l ∈ fs, l.length ≤ 10 := by
  have key : ∀ (f : Nat) (l : List Ins), fs[f]? = some l → l.length ≤ 10 ∧ ∀ i ∈ l, mayB fs.length nr f i = true := by
    intro f l hl
    have := h f (List.getElem?_eq_some_iff.1 hl).1
    unfold badF at this
    rw [hl] at this
    simp only [Option.getD_some, Bool.or_eq_false_iff, decide_eq_false_iff_not, List.any_eq_false] at this
    exact ⟨by omega, fun i hi => by have := this.2 i hi; simpa using this⟩
  refine ⟨fun f l hl i hi => ⟨(key f l hl).2 i hi, hw l (List.mem_of_getElem? hl) i hi⟩, fun l hl => ?_⟩
  obtain ⟨f, hf⟩ := List.getElem?_of_mem hl
  exact (key f l hf).1
end

end Go.Proofs.Ytkmakliebhnhbaa

namespace Go.Proofs.Ytkmakliebhnhbaa
open Go.RowKit

end Go.Proofs.Ytkmakliebhnhbaa

namespace Go.Proofs.Ytkmakliebhnhbaa
open Go.RowKit
attribute [local go_sem ↓] Go.wp_at_zero Go.wp_at_succ

theorem Try.infoEv : (Try.prog.info? 42).map (fun i => (i.zero, i.size, i.bytes)) = some (some (.agg #[.int .i64 0, .int .i64 0, .int .i64 0]), 3, 24) := by kernel_rfl

theorem one3 (a b c : Int) (j k l : IntKind) : ∀ u ∈ [Value.int j a, .int k b, .int l c], u.oneCell' = true := by simp [Value.oneCell']

/-- The document's trace. -/
def traceZ (fs : List (List Ins)) (seed x : Int) : List Ev := ser fs fs.length 0 x seed

end Go.Proofs.Ytkmakliebhnhbaa

namespace Go.Proofs.Ytkmakliebhnhbaa
open Go.RowKit

theorem Try.infoVal : (Try.prog.info? 44).map (fun i => (i.zero, i.size, i.bytes)) = some (some (.agg #[.int .i64 0, .bool false, .slice none 0 0]), 3, 40) := by kernel_rfl
theorem Try.infoInt64 : (Try.prog.info? 2).map (fun i => (i.zero, i.size, i.bytes)) = some (some (.int .i64 0), 1, 8) := by kernel_rfl

end Go.Proofs.Ytkmakliebhnhbaa

namespace Go.Proofs.Ytkmakliebhnhbaa
open Go.RowKit

/-- Values in memory, to be read. -/
def RdV (W : World) (v : Value) (V : Nat → Val) (n : Nat) : Prop :=
  ∃ a cap, v = .slice a n cap ∧ n ≤ cap ∧ cap ≤ maxLen ∧ ∀ r, r < n → ∃ b off lv, a = some ⟨b, off, none⟩ ∧ W.cell? ⟨b, off + r * 3, none⟩ = some (.int .i64 (V r).n) ∧ W.cell? ⟨b, off + r * 3 + 1, none⟩ = some (.bool (V r).is) ∧
    W.cell? ⟨b, off + r * 3 + 2, none⟩ = some lv ∧ RdL (fun _ => True) W 1 int64s lv (V r).l

theorem ints_flat (l : List Int) : ints l = flat int64s l := by
  induction l with
  | nil => rfl
  | cons x t ih => simp only [ints, flat, List.map_cons, List.flatMap_cons] at *; rw [ih]; rfl

theorem Gath.rd {W : World} {base g nr : Nat} {tL : TypeId} {V : Nat → Val} {LV : Nat → Value} (h : Gath W base g nr tL V LV) (hn : nr ≤ maxLen) : RdV W (.slice (some ⟨g, 0, none⟩) nr nr) V nr :=
  ⟨_, _, rfl, Nat.le_refl _, hn, fun r hr => ⟨g, 0, LV r, rfl, by simpa using h.n r hr, by simpa using h.is r hr, by simpa using h.l r hr, own_rd (by rw [← ints_flat]; exact h.own r hr) int64s_len (fun _ _ => trivial)⟩⟩

theorem RdV.below {W W' : World} {v : Value} {V : Nat → Val} {n : Nat} (h : RdV W v V n) (hb : Below W.heap.size W W') : RdV W' v V n := by
  obtain ⟨a, cap, hv, h1, h2, h⟩ := h
  refine ⟨a, cap, hv, h1, h2, fun r hr => ?_⟩
  obtain ⟨b, off, lv, ha, c0, c1, c2, hl⟩ := h r hr
  have hlt : b < W.heap.size := block_lt_of_cell c0
  have hc : ∀ j, W'.cell? ⟨b, j, none⟩ = W.cell? ⟨b, j, none⟩ := fun j => hb.cell (p := ⟨b, j, none⟩) hlt
  exact ⟨b, off, lv, ha, (hc _).trans c0, (hc _).trans c1, (hc _).trans c2, hl.below hb (fun x _ => by simp [int64s])⟩

end Go.Proofs.Ytkmakliebhnhbaa

/- What the law asks of the program: New, Serial; how programs are kept. -/
namespace Go.Proofs.Ytkmakliebhnhbaa
open Go.RowKit

/-- How the program lies in memory is the program's own business: all that is asked: it lies in blocks of S, and whoever leaves those alone leaves it alone. -/
structure Dev where
  P : (Nat → Prop) → World → Value → List (List Ins) → List Int → Prop
  turn : ∀ {S S' : Nat → Prop} {W W' : World} {p : Value} {fs : List (List Ins)} {reds : List Int}, P S W p fs reds → (∀ b, S b → b < W.heap.size → S' b ∧ W'.heap[b]? = W.heap[b]?) → P S' W' p fs reds

def FsWf (fs : List (List Ins)) : Prop := ∀ l ∈ fs, ∀ i ∈ l, i.wf
def Small (fs : List (List Ins)) (reds : List Int) : Prop := fs.length ≤ 2000000 ∧ reds.length ≤ 2000000 ∧ ∀ l ∈ fs, l.length ≤ 2000000

def NewSaid (D : Dev) : Prop := ∀ (fs : List (List Ins)) (reds : List Int) (S : Nat → Prop) (vf vr : Value) (w : World), FsWf fs → Small fs reds → (∀ r ∈ reds, i64 r) → RdF S w vf fs → RdL S w 1 int64s vr reds →
  Calls Try.prog 15 #[vf, vr] w fun e w' => ∃ p, e = .returned (.tuple #[p, .int .i64 (check fs reds).1, .int .i64 (check fs reds).2]) ∧ Below w.heap.size w w' ∧
    ((check fs reds).1 = 0 → (∃ b, p = .pointer (some ⟨b, 0, none⟩)) ∧ D.P (fun b => w.heap.size ≤ b ∧ b < w'.heap.size) w' p fs reds) ∧ ((check fs reds).1 ≠ 0 → p = .pointer none)

def SerialSaid (D : Dev) : Prop := ∀ (fs : List (List Ins)) (reds : List Int) (S : Nat → Prop) (p : Value) (seed x : Int) (w : World), FsWf fs → (check fs reds).1 = 0 → u64 seed → i64 x → D.P S w p fs reds →
  Calls Try.prog 12 #[p, .int .u64 seed, .int .i64 x] w fun e w' => ∃ lv tv LV xs, e = .returned (.agg #[lv, tv, .int .i64 0, .int .i64 0, .int .i64 0, .int .i64 (framesC fs)]) ∧
    OwnV w' w.heap.size lv reds.length (valsZ reds (traceZ fs seed x)) LV xs ∧ w'.ownsRow w.heap.size 42 3 tv (traceZ fs seed x).length (evCells (traceZ fs seed x)) ∧ Clear lv tv ∧ (∀ r, r < reds.length → Clear (LV r) tv) ∧ Below w.heap.size w w'

/-- A program of the document's, in memory. -/
def RefP (S : Nat → Prop) (W : World) (v : Value) (fs : List (List Ins)) (reds : List Int) : Prop := ∃ rb vf vr, v = .pointer (some ⟨rb, 0, none⟩) ∧ S rb ∧ W.cell? ⟨rb, 0, none⟩ = some vf ∧ W.cell? ⟨rb, 1, none⟩ = some vr ∧ RdF S W vf fs ∧ RdL S W 1 int64s vr reds

theorem RefP.turn {S S' : Nat → Prop} {W W' : World} {v : Value} {fs : List (List Ins)} {reds : List Int} (h : RefP S W v fs reds) (hS : ∀ b, S b → b < W.heap.size → S' b ∧ W'.heap[b]? = W.heap[b]?) : RefP S' W' v fs reds := by
  obtain ⟨rb, vf, vr, hv, hrb, c0, c1, h1, h2⟩ := h
  have hl : rb < W.heap.size := block_lt_of_cell c0
  obtain ⟨s1, s2⟩ := hS rb hrb hl
  exact ⟨rb, vf, vr, hv, s1, (World.cell?_of_block (w := W) (a := ⟨rb, 0, none⟩) s2).trans c0, (World.cell?_of_block (w := W) (a := ⟨rb, 1, none⟩) s2).trans c1, h1.turn hS, h2.turn hS (fun x _ => by simp [int64s])⟩

/-- A program that passed the check. -/
theorem check_ok {fs : List (List Ins)} {reds : List Int} (h : (check fs reds).1 = 0) (hw : FsWf fs) : 0 < fs.length ∧ fs.length ≤ 8 ∧ reds.length ≤ 4 ∧ FsOk fs reds.length ∧ (∀ l ∈ fs, l.length ≤ 10) := by
  by_cases h1 : fs.length < 1 ∨ 8 < fs.length
  · rw [check_1 h1] at h; cases h
  by_cases h2 : 4 < reds.length
  · rw [check_2 h1 h2] at h; cases h
  cases h3 : firstBad (badR reds) reds.length with
  | some r => rw [check_3 h1 h2 h3] at h; cases h
  | none =>
    cases h4 : firstBad (badF fs reds.length) fs.length with
    | some f => rw [check_4 h1 h2 h3 h4] at h; cases h
    | none =>
      have hb : ∀ f, f < fs.length → badF fs reds.length f = false := fun f hf => by
        have := List.find?_eq_none.1 h4 f (List.mem_range.2 hf)
        simpa using this
      obtain ⟨k1, k2⟩ := FsOk_of hb hw
      exact ⟨by omega, by omega, by omega, k1, k2⟩

/-- Reducers of what is given are reducers. -/
theorem oneZ_r {sub : Nat → Int → Int → List Ev} {n nr : Nat} {f : Nat} {x h r : Int} {i : Ins} (hm : mayB n nr f i = true) (hs : ∀ g y k, ∀ e ∈ sub g y k, ∃ q : Nat, e.r = q ∧ q < nr) : ∀ e ∈ oneZ sub x h r i, ∃ q : Nat, e.r = q ∧ q < nr := by
  intro e he
  unfold oneZ at he
  unfold mayB at hm
  split at he
  · rename_i h1
    rw [if_pos h1] at hm
    simp only [Bool.and_eq_true, decide_eq_true_eq] at hm
    rw [List.mem_singleton] at he
    subst he
    exact ⟨i.r.toNat, by simp only; omega, by omega⟩
  · rename_i h1
    rw [if_neg h1] at hm
    split at he
    · rename_i h2
      rw [if_pos h2] at hm
      simp only [Bool.and_eq_true, decide_eq_true_eq] at hm
      rw [List.mem_singleton] at he
      subst he
      exact ⟨i.r.toNat, by simp only; omega, by omega⟩
    · split at he
      · exact hs _ _ _ e he
      · cases he
theorem serL_r {sub : Nat → Int → Int → List Ev} {n nr f : Nat} {x h : Int} (hs : ∀ g y k, ∀ e ∈ sub g y k, ∃ q : Nat, e.r = q ∧ q < nr) : ∀ (l : List Ins) (r : Int), (∀ i ∈ l, mayB n nr f i = true) → ∀ e ∈ serL sub x h r l, ∃ q : Nat, e.r = q ∧ q < nr
  | [], _, _, e, he => by cases he
  | i :: t, r, hl, e, he => by
    simp only [serL, List.mem_append] at he
    rcases he with he | he
    · exact oneZ_r (hl i (List.mem_cons_self ..)) hs e he
    · exact serL_r hs t _ (fun j hj => hl j (List.mem_cons_of_mem _ hj)) e he
theorem ser_r {fs : List (List Ins)} {nr : Nat} (hok : FsOk fs nr) : ∀ d f x h, ∀ e ∈ ser fs d f x h, ∃ q : Nat, e.r = q ∧ q < nr
  | 0, _, _, _, e, he => by simp [ser] at he
  | d + 1, f, x, h, e, he => by
    simp only [ser] at he
    cases hf : fs[f]? with
    | none => rw [hf] at he; simp [serL] at he
    | some l =>
      rw [hf] at he
      exact serL_r (n := fs.length) (f := f) (ser_r hok d) l 0 (fun i hi => (hok f l hf i hi).1) e he
theorem trace_len {fs : List (List Ins)} (hn : fs.length ≤ 8) (hl : ∀ l ∈ fs, l.length ≤ 10) (seed x : Int) : (traceZ fs seed x).length ≤ 100000000 := by
  have h1 := ser_len hl fs.length 0 x seed
  have h2 : 10 ^ fs.length ≤ 10 ^ 8 := Nat.pow_le_pow_right (by omega) hn
  unfold traceZ
  omega
theorem evCells_flat (l : List Ev) : evCells l = flat Ev.vals l := rfl
theorem evvals_len (e : Ev) : e.vals.length = 3 := rfl

theorem OwnV.rd {W : World} {base n : Nat} {lv : Value} {V : Nat → Val} {LV : Nat → Value} {xs : List Value} (h : OwnV W base lv n V LV xs) : RdV W lv V n := by
  rcases h.row.2 with ⟨hv, h0⟩ | ⟨g, cap, cur, hv, hb, hg, hn, hm, hc, ht⟩
  · subst h0; exact ⟨none, 0, hv, by omega, by unfold maxLen; omega, fun r hr => by omega⟩
  · subst hv
    refine ⟨_, cap, rfl, hn, hm, fun r hr => ⟨g, 0, LV r, rfl, ?_, ?_, ?_, own_rd (by rw [← ints_flat]; exact h.own r hr) int64s_len (fun _ _ => trivial)⟩⟩
    · rw [Nat.zero_add, World.ownsRow.cellAt h.row _ (by omega)]; exact h.n0 r hr
    · rw [Nat.zero_add, World.ownsRow.cellAt h.row _ (by omega)]; exact h.n1 r hr
    · rw [Nat.zero_add, World.ownsRow.cellAt h.row _ (by omega)]; exact h.n2 r hr
end Go.Proofs.Ytkmakliebhnhbaa
