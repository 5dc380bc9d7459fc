import Derived.Deep.Slices
import Derived.WalkKit
import Derived.ProofKit
import Derived.OpenShut
import Derived.JoinedCond
import Derived.Carry
import Derived.Test.YtkmakliebhnhbaaSer
import Derived.Test.YtkmakliebhnhbaaPlK
import Derived.Test.YtkmakliebhnhbaaRows
/- A slice that is read, as a list in memory. -/
namespace Go.Proofs.Ytkmakliebhnhbaa
open Go.RowKit Go.Deep Go.WideShapes

section
variable {H : Type} {en : TypeId × Value → H} {P : Program} {w : World} {base : Nat} {spare : Nat → Bool} {held : Bool}

/-- A slice that is read, as a list in memory: what an element is, is given by a reader of its own. -/
theorem open_rd {α : Type} {enc : α → List Value} {good : α → DataW H → Prop} {t e : TypeId} {s fuel : Nat} {cs : List Value} {x : DataW H × List MemPlace} (ht : P.underlying t = some (.slice e)) (hs : P.cellsOf e = s) (hs0 : 0 < s)
    (dec : ∀ n cs' y, cs'.length = s → DataW.trod en P w base spare held n e cs' = some y → ∃ a, cs' = enc a ∧ good a y.1) (h : DataW.trod en P w base spare held fuel t cs = some x) :
    ∃ v l, cs = [v] ∧ RdL (fun _ => True) w s enc v l ∧ ((x.1 = .nil ∧ l = []) ∨ ∃ ds sp, x.1 = .slice ds sp ∧ ds.length = l.length ∧ ∀ (k : Nat) (a : α), l[k]? = some a → ∃ d, ds[k]? = some d ∧ good a d) := by
  rcases open_slice ht h with ⟨rfl, rfl⟩ | ⟨a, len, cap, m, n, D, Pl, rfl, hb, hl, hm, hmm, rfl, hx⟩
  · exact ⟨_, [], rfl, ⟨none, 0, rfl, by simp, by unfold maxLen; omega, .inl ⟨rfl, fun _ => rfl⟩⟩, .inl ⟨rfl, rfl⟩⟩
  have hlm : len ≤ m := by rw [hmm]; split <;> omega
  rw [hs] at hx
  have each : ∀ i, i < len → ∃ q : α, w.cells? base (a.add (i * s)) s = some (enc q) ∧ (enc q).length = s ∧ good q (D i) := by
    intro i hi
    obtain ⟨cs', h1, h2⟩ := hx i (by omega)
    obtain ⟨_, hlen, hcell⟩ := World.cells?_some h1
    obtain ⟨q, rfl, hg⟩ := dec n cs' _ hlen h2
    exact ⟨q, h1, hlen, hg⟩
  obtain ⟨b, off, spot⟩ := a
  by_cases h0 : len = 0
  · subst h0
    exact ⟨_, [], rfl, ⟨_, cap, rfl, by simp, hm, .inl ⟨rfl, fun h => by cases h⟩⟩, .inr ⟨_, _, rfl, rfl, fun k q hk => by simp at hk⟩⟩
  obtain ⟨q0, hq0, _⟩ := each 0 (by omega)
  haveI : Inhabited α := ⟨q0⟩
  obtain ⟨q, hq⟩ := choose_lt each
  obtain rfl : spot = none := by
    obtain ⟨_, hlen, hcell⟩ := World.cells?_some hq0
    have h1 := hcell 0 hs0
    cases spot with
    | none => rfl
    | some z =>
      exfalso
      have h2 : (enc q0)[0]? ≠ none := by rw [List.getElem?_eq_getElem (by omega)]; simp
      apply h2
      rw [← h1]
      simp [World.cell?, Addr.add]
      split <;> simp
  refine ⟨_, (List.range len).map q, rfl, ⟨_, cap, by simp, by simpa using hl, hm, .inr ⟨b, off, rfl, trivial, fun k y hk j u hu => ?_⟩⟩, .inr ⟨_, _, rfl, by simp, fun k y hk => ?_⟩⟩
  · have hk' : k < len := by have := (List.getElem?_eq_some_iff.1 hk).1; simpa using this
    rw [List.getElem?_map, List.getElem?_range hk'] at hk
    simp at hk
    subst hk
    obtain ⟨_, hlen, hcell⟩ := World.cells?_some (hq k hk').1
    have hj : j < s := by have := (List.getElem?_eq_some_iff.1 hu).1; omega
    have h1 := hcell j hj
    rw [add_add, add_plain, ← Nat.add_assoc] at h1
    rw [h1]
    exact hu
  · have hk' : k < len := by have := (List.getElem?_eq_some_iff.1 hk).1; simpa using this
    rw [List.getElem?_map, List.getElem?_range hk'] at hk
    simp at hk
    subst hk
    exact ⟨D k, by rw [List.getElem?_map, List.getElem?_range hk']; rfl, (hq k hk').2.2⟩
end
end Go.Proofs.Ytkmakliebhnhbaa

/- Rows over plans: a plan and lists of picks, read. -/
namespace Go.Proofs.Ytkmakliebhnhbaa
open Go.ChangeShapes Go.WideShapes Go.ChangeAt Go.RowKit Go.Deep

theorem Try.own : ownKnob Try.prog.godebug = none := by kernel_rfl
theorem Try.laidOut : laidOutB Try.prog = true := by kernel_rfl
theorem cells_int : Try.prog.cellsOf 3 = 1 := by kernel_rfl
theorem cells_int64 : Try.prog.cellsOf 2 = 1 := by kernel_rfl
theorem cells_line : Try.prog.cellsOf 86 = 5 := by kernel_rfl
theorem cells_lline : Try.prog.cellsOf 22 = 1 := by kernel_rfl
theorem cells_a4l : Try.prog.cellsOf 23 = 4 := by kernel_rfl
theorem cells_a4i : Try.prog.cellsOf 24 = 4 := by kernel_rfl
theorem cells_plan : Try.prog.cellsOf 26 = 8 := by kernel_rfl
theorem cells_pick : Try.prog.cellsOf 79 = 2 := by kernel_rfl

theorem wf_i64 {n : Int} (h : (Lit.int .i64 n).wf = true) : i64 n := by
  have h1 : (decide (IntKind.i64.min ≤ n) && decide (n ≤ IntKind.i64.max)) = true := h
  rw [Bool.and_eq_true, decide_eq_true_eq, decide_eq_true_eq] at h1
  exact h1
theorem wf_u64 {n : Int} (h : (Lit.int .u64 n).wf = true) : u64 n := by
  have h1 : (decide (IntKind.u64.min ≤ n) && decide (n ≤ IntKind.u64.max)) = true := h
  rw [Bool.and_eq_true, decide_eq_true_eq, decide_eq_true_eq] at h1
  have h2 : IntKind.u64.max = 18446744073709551615 := by kernel_rfl
  have h3 : IntKind.u64.min = 0 := by kernel_rfl
  rw [h2, h3] at h1
  unfold u64
  omega

section
variable {H : Type} {en : TypeId × Value → H} {w : World} {base : Nat} {spare : Nat → Bool} {held : Bool}

set_option maxRecDepth 100000 in
theorem dec_line : ∀ n cs' (y : DataW H × List MemPlace), cs'.length = 5 → DataW.trod en Try.prog w base spare held n 86 cs' = some y → ∃ a : Ins, cs' = a.vals ∧ (fun (a : Ins) (_ : DataW H) => a.wf) a y.1 := by
  intro n cs' y hl h
  obtain ⟨xs, m, _, _, _, hx, hf⟩ := DataW.trod_struct Try.underlying86 h
  match xs, hx, cs', hl with
  | [y0, y1, y2, y3, y4], _, [v0, v1, v2, v3, v4], _ =>
    have g0 := hf 0 _ rfl
    have g1 := hf 1 _ rfl
    have g2 := hf 2 _ rfl
    have g3 := hf 3 _ rfl
    have g4 := hf 4 _ rfl
    simp [cells_int, cells_int64] at g0 g1 g2 g3 g4
    obtain ⟨a0, e0, _, w0⟩ := DataW.trod_int Try.underlying3 g0
    obtain ⟨a1, e1, _, w1⟩ := DataW.trod_int Try.underlying3 g1
    obtain ⟨a2, e2, _, w2⟩ := DataW.trod_int Try.underlying3 g2
    obtain ⟨a3, e3, _, w3⟩ := DataW.trod_int Try.underlying2 g3
    obtain ⟨a4, e4, _, w4⟩ := DataW.trod_int Try.underlying2 g4
    cases e0
    cases e1
    cases e2
    cases e3
    cases e4
    exact ⟨⟨a0, a1, a2, a3, a4⟩, rfl, wf_i64 w0, wf_i64 w1, wf_i64 w2, wf_i64 w3, wf_i64 w4⟩
set_option maxRecDepth 100000 in
theorem dec_pick : ∀ n cs' (y : DataW H × List MemPlace), cs'.length = 2 → DataW.trod en Try.prog w base spare held n 79 cs' = some y → ∃ a : Int × Int, cs' = pickV a ∧ (fun (a : Int × Int) (_ : DataW H) => i64 a.1 ∧ i64 a.2) a y.1 := by
  intro n cs' y hl h
  obtain ⟨xs, m, _, _, _, hx, hf⟩ := DataW.trod_struct Try.underlying79 h
  match xs, hx, cs', hl with
  | [y0, y1], _, [v0, v1], _ =>
    have g0 := hf 0 _ rfl
    have g1 := hf 1 _ rfl
    simp [cells_int] at g0 g1
    obtain ⟨a0, e0, _, w0⟩ := DataW.trod_int Try.underlying3 g0
    obtain ⟨a1, e1, _, w1⟩ := DataW.trod_int Try.underlying3 g1
    cases e0
    cases e1
    exact ⟨⟨a0, a1⟩, rfl, wf_i64 w0, wf_i64 w1⟩
theorem open_lines (n : Nat) (cs : List Value) (y : DataW H × List MemPlace) (h : DataW.trod en Try.prog w base spare held n 22 cs = some y) :
    ∃ v l, cs = [v] ∧ RdL (fun _ => True) w 5 Ins.vals v l ∧ ∀ i ∈ l, i.wf := by
  obtain ⟨v, l, hv, hl, hh⟩ := open_rd (good := fun (a : Ins) (_ : DataW H) => a.wf) (enc := Ins.vals) Try.underlying22 cells_line (by omega) dec_line h
  refine ⟨v, l, hv, hl, ?_⟩
  rcases hh with ⟨_, rfl⟩ | ⟨ds, sp, _, _, hk⟩
  · simp
  · intro r hr
    obtain ⟨k, hk'⟩ := List.getElem?_of_mem hr
    obtain ⟨d, _, hg⟩ := hk k r hk'
    exact hg
theorem open_picks (n : Nat) (cs : List Value) (y : DataW H × List MemPlace) (h : DataW.trod en Try.prog w base spare held n 56 cs = some y) :
    ∃ v l, cs = [v] ∧ RdL (fun _ => True) w 2 pickV v l ∧ ∀ q ∈ l, i64 q.1 ∧ i64 q.2 := by
  obtain ⟨v, l, hv, hl, hh⟩ := open_rd (good := fun (a : Int × Int) (_ : DataW H) => i64 a.1 ∧ i64 a.2) (enc := pickV) Try.underlying56 cells_pick (by omega) dec_pick h
  refine ⟨v, l, hv, hl, ?_⟩
  rcases hh with ⟨_, rfl⟩ | ⟨ds, sp, _, _, hk⟩
  · simp
  · intro r hr
    obtain ⟨k, hk'⟩ := List.getElem?_of_mem hr
    obtain ⟨d, _, hg⟩ := hk k r hk'
    exact hg

set_option maxRecDepth 100000 in
theorem open_plan (n : Nat) (cs : List Value) (y : DataW H × List MemPlace) (hl : cs.length = 8) (h : DataW.trod en Try.prog w base spare held n 26 cs = some y) :
    ∃ (sa : Nat → Option Addr) (sn sc : Nat → Nat) (ks : Nat → Int) (ls : Nat → List Ins), cs = [.slice (sa 0) (sn 0) (sc 0), .slice (sa 1) (sn 1) (sc 1), .slice (sa 2) (sn 2) (sc 2), .slice (sa 3) (sn 3) (sc 3), .int .i64 (ks 0), .int .i64 (ks 1), .int .i64 (ks 2), .int .i64 (ks 3)] ∧ PlRd (fun _ => True) w sa sn sc ls ∧ LsWf ls ∧ ∀ r, r < 4 → i64 (ks r) := by
  obtain ⟨xs, m, _, _, _, hx, hf⟩ := DataW.trod_struct Try.underlying26 h
  match xs, hx, cs, hl with
  | [y0, y1], _, [v0, v1, v2, v3, v4, v5, v6, v7], _ =>
    have g0 := hf 0 _ rfl
    have g1 := hf 1 _ rfl
    simp [cells_a4l, cells_a4i] at g0 g1
    obtain ⟨aas, m2, _, _, _, ha, hfa⟩ := DataW.trod_array Try.underlying23 g0
    obtain ⟨bs, m3, _, _, _, hb, hfb⟩ := DataW.trod_array Try.underlying24 g1
    match aas, ha, bs, hb with
    | [a0, a1, a2, a3], _, [b0, b1, b2, b3], _ =>
      have p0 := hfa 0 (by omega)
      have p1 := hfa 1 (by omega)
      have p2 := hfa 2 (by omega)
      have p3 := hfa 3 (by omega)
      have q0 := hfb 0 (by omega)
      have q1 := hfb 1 (by omega)
      have q2 := hfb 2 (by omega)
      have q3 := hfb 3 (by omega)
      simp [cells_lline, cells_int] at p0 p1 p2 p3 q0 q1 q2 q3
      obtain ⟨_, l0, e0, r0, w0⟩ := open_lines _ _ _ p0
      obtain ⟨_, l1, e1, r1, w1⟩ := open_lines _ _ _ p1
      obtain ⟨_, l2, e2, r2, w2⟩ := open_lines _ _ _ p2
      obtain ⟨_, l3, e3, r3, w3⟩ := open_lines _ _ _ p3
      cases e0
      cases e1
      cases e2
      cases e3
      obtain ⟨k0, f0, _, z0⟩ := DataW.trod_int Try.underlying3 q0
      obtain ⟨k1, f1, _, z1⟩ := DataW.trod_int Try.underlying3 q1
      obtain ⟨k2, f2, _, z2⟩ := DataW.trod_int Try.underlying3 q2
      obtain ⟨k3, f3, _, z3⟩ := DataW.trod_int Try.underlying3 q3
      cases f0
      cases f1
      cases f2
      cases f3
      obtain ⟨s0, c0, rfl, _, _⟩ := r0.form
      obtain ⟨s1, c1, rfl, _, _⟩ := r1.form
      obtain ⟨s2, c2, rfl, _, _⟩ := r2.form
      obtain ⟨s3, c3, rfl, _, _⟩ := r3.form
      refine ⟨fun f => match f with | 0 => s0 | 1 => s1 | 2 => s2 | _ => s3, fun f => match f with | 0 => l0.length | 1 => l1.length | 2 => l2.length | _ => l3.length, fun f => match f with | 0 => c0 | 1 => c1 | 2 => c2 | _ => c3,
        fun f => match f with | 0 => k0 | 1 => k1 | 2 => k2 | _ => k3, fun f => match f with | 0 => l0 | 1 => l1 | 2 => l2 | _ => l3, rfl, ?_, ?_, ?_⟩
      · intro f hf
        match f, hf with
        | 0, _ => exact r0
        | 1, _ => exact r1
        | 2, _ => exact r2
        | 3, _ => exact r3
      · intro f hf
        match f, hf with
        | 0, _ => exact w0
        | 1, _ => exact w1
        | 2, _ => exact w2
        | 3, _ => exact w3
      · intro f hf
        match f, hf with
        | 0, _ => exact wf_i64 z0
        | 1, _ => exact wf_i64 z1
        | 2, _ => exact wf_i64 z2
        | 3, _ => exact wf_i64 z3
end
end Go.Proofs.Ytkmakliebhnhbaa
