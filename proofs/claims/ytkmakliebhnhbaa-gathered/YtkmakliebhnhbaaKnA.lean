import Derived.Test.YtkmakliebhnhbaaDrP
import Derived.Test.YtkmakliebhnhbaaRuC
/- known: the document's second example, run. -/
namespace Go.Proofs.Ytkmakliebhnhbaa
open Go.RowKit Go.Shelf

/-- A list that lies in a block of its own. -/
theorem rd_block {α : Type} {W : World} {b size : Nat} {enc : α → List Value} {cs : Array Value} {t : TypeId} (l : List α) (hs : ∀ x, (enc x).length = size) (hb : W.heap[b]? = some (.cells cs t (0, 0))) (hc : cs.toList = flat enc l) (hl : l.length ≤ 1000000) : RdL (fun k => k = b) W size enc (.slice (some ⟨b, 0, none⟩) l.length l.length) l := by
  refine ⟨_, _, rfl, Nat.le_refl _, by unfold maxLen; omega, .inr ⟨b, 0, rfl, rfl, fun k x hk j u hu => ?_⟩⟩
  have hj : j < size := by have := (List.getElem?_eq_some_iff.1 hu).1; rw [hs] at this; exact this
  have h1 := flat_get hs l hk hj
  rw [← hc, Array.getElem?_toList, hu] at h1
  unfold World.cell?
  simp only [hb, Nat.zero_add]
  exact h1

theorem RdL.any {α : Type} {S : Nat → Prop} {W : World} {size : Nat} {enc : α → List Value} {v : Value} {l : List α} (h : RdL S W size enc v l) : RdL (fun _ => True) W size enc v l := by
  obtain ⟨a, cap, h1, h2, h3, h4⟩ := h
  refine ⟨a, cap, h1, h2, h3, ?_⟩
  rcases h4 with h4 | ⟨b, off, h5, _, h6⟩
  · exact .inl h4
  · exact .inr ⟨b, off, h5, trivial, h6⟩
theorem pickv_len (p : Int × Int) : (pickV p).length = 2 := rfl
theorem one_len (u : Value) : (one u).length = 1 := rfl

abbrev kW1 (w : World) : World := (((w.alloc (.cells #[.int .i64 3, .int .i64 1, .int .i64 0, .int .i64 1, .int .i64 0, .int .i64 1, .int .i64 0, .int .i64 0, .int .i64 2, .int .i64 0, .int .i64 5, .int .i64 0, .int .i64 0, .int .i64 0, .int .i64 0, .int .i64 1, .int .i64 0, .int .i64 0, .int .i64 3, .int .i64 0] 52)).alloc (.cells #[.int .i64 1, .int .i64 0, .int .i64 0, .int .i64 0, .int .i64 1] 52)).alloc (.cells #[.slice (some ⟨w.heap.size, 0, none⟩) 4 4, .slice (some ⟨w.heap.size + 1, 0, none⟩) 1 1] 53)).alloc (.cells #[.int .i64 4] 3)

theorem newK (w : World) : Calls Try.prog 15 #[.slice (some ⟨w.heap.size + 1 + 1, 0, none⟩) 2 2, .slice (some ⟨w.heap.size + 1 + 1 + 1, 0, none⟩) 1 1] (kW1 w) fun e w' => ∃ pb, e = .returned (.tuple #[.pointer (some ⟨pb, 0, none⟩), .int .i64 0, .int .i64 0]) ∧ Below w.heap.size w w' ∧ ∃ S, dev.P S w' (.pointer (some ⟨pb, 0, none⟩)) fsK redsK := by
  have hbw : Below w.heap.size w (kW1 w) := ((((Below.refl _ w).alloc (Nat.le_refl _) _).alloc (by simp) _).alloc (by simp; omega) _).alloc (by simp; omega) _
  have h0 : (kW1 w).heap[w.heap.size]? = some (.cells #[.int .i64 3, .int .i64 1, .int .i64 0, .int .i64 1, .int .i64 0, .int .i64 1, .int .i64 0, .int .i64 0, .int .i64 2, .int .i64 0, .int .i64 5, .int .i64 0, .int .i64 0, .int .i64 0, .int .i64 0, .int .i64 1, .int .i64 0, .int .i64 0, .int .i64 3, .int .i64 0] 52 (0, 0)) := (Below.heap_alloc _ _ _ (by simp; omega)).trans ((Below.heap_alloc _ _ _ (by simp; omega)).trans ((Below.heap_alloc _ _ _ (by simp)).trans (World.alloc_heap_new w _)))
  have h1 : (kW1 w).heap[w.heap.size + 1]? = some (.cells #[.int .i64 1, .int .i64 0, .int .i64 0, .int .i64 0, .int .i64 1] 52 (0, 0)) := by
    refine (Below.heap_alloc _ _ _ (by simp)).trans ((Below.heap_alloc _ _ _ (by simp)).trans ?_)
    have := World.alloc_heap_new (w.alloc (.cells #[.int .i64 3, .int .i64 1, .int .i64 0, .int .i64 1, .int .i64 0, .int .i64 1, .int .i64 0, .int .i64 0, .int .i64 2, .int .i64 0, .int .i64 5, .int .i64 0, .int .i64 0, .int .i64 0, .int .i64 0, .int .i64 1, .int .i64 0, .int .i64 0, .int .i64 3, .int .i64 0] 52)) (.cells #[.int .i64 1, .int .i64 0, .int .i64 0, .int .i64 0, .int .i64 1] 52)
    rw [World.size_alloc] at this
    exact this
  have h2 : (kW1 w).heap[w.heap.size + 1 + 1]? = some (.cells #[.slice (some ⟨w.heap.size, 0, none⟩) 4 4, .slice (some ⟨w.heap.size + 1, 0, none⟩) 1 1] 53 (0, 0)) := by
    refine (Below.heap_alloc _ _ _ (by simp)).trans ?_
    have := World.alloc_heap_new ((w.alloc (.cells #[.int .i64 3, .int .i64 1, .int .i64 0, .int .i64 1, .int .i64 0, .int .i64 1, .int .i64 0, .int .i64 0, .int .i64 2, .int .i64 0, .int .i64 5, .int .i64 0, .int .i64 0, .int .i64 0, .int .i64 0, .int .i64 1, .int .i64 0, .int .i64 0, .int .i64 3, .int .i64 0] 52)).alloc (.cells #[.int .i64 1, .int .i64 0, .int .i64 0, .int .i64 0, .int .i64 1] 52)) (.cells #[.slice (some ⟨w.heap.size, 0, none⟩) 4 4, .slice (some ⟨w.heap.size + 1, 0, none⟩) 1 1] 53)
    rw [World.size_alloc, World.size_alloc] at this
    exact this
  have h3 : (kW1 w).heap[w.heap.size + 1 + 1 + 1]? = some (.cells #[.int .i64 4] 3 (0, 0)) := by
    have := World.alloc_heap_new (((w.alloc (.cells #[.int .i64 3, .int .i64 1, .int .i64 0, .int .i64 1, .int .i64 0, .int .i64 1, .int .i64 0, .int .i64 0, .int .i64 2, .int .i64 0, .int .i64 5, .int .i64 0, .int .i64 0, .int .i64 0, .int .i64 0, .int .i64 1, .int .i64 0, .int .i64 0, .int .i64 3, .int .i64 0] 52)).alloc (.cells #[.int .i64 1, .int .i64 0, .int .i64 0, .int .i64 0, .int .i64 1] 52)).alloc (.cells #[.slice (some ⟨w.heap.size, 0, none⟩) 4 4, .slice (some ⟨w.heap.size + 1, 0, none⟩) 1 1] 53)) (.cells #[.int .i64 4] 3)
    rw [World.size_alloc, World.size_alloc, World.size_alloc] at this
    exact this
  have hF : RdF (fun _ => True) (kW1 w) (.slice (some ⟨w.heap.size + 1 + 1, 0, none⟩) 2 2) fsK := by
    refine ⟨[.slice (some ⟨w.heap.size, 0, none⟩) 4 4, .slice (some ⟨w.heap.size + 1, 0, none⟩) 1 1], rfl, (rd_block (enc := one) [.slice (some ⟨w.heap.size, 0, none⟩) 4 4, .slice (some ⟨w.heap.size + 1, 0, none⟩) 1 1] one_len h2 rfl (by simp)).any, fun k u x hu hx => ?_⟩
    match k, hu, hx with
    | 0, hu, hx => cases hu; cases hx; exact (rd_block (enc := Ins.vals) [⟨3, 1, 0, 1, 0⟩, ⟨1, 0, 0, 2, 0⟩, ⟨5, 0, 0, 0, 0⟩, ⟨1, 0, 0, 3, 0⟩] insvals_len h0 rfl (by simp)).any
    | 1, hu, hx => cases hu; cases hx; exact (rd_block (enc := Ins.vals) [⟨1, 0, 0, 0, 1⟩] insvals_len h1 rfl (by simp)).any
    | k + 2, hu, _ => simp at hu
  have hR : RdL (fun _ => True) (kW1 w) 1 int64s (.slice (some ⟨w.heap.size + 1 + 1 + 1, 0, none⟩) 1 1) redsK := (rd_block (enc := int64s) [4] int64s_len h3 rfl (by simp)).any
  refine (new_said fsK redsK (fun _ => True) _ _ (kW1 w) fsK_wf ⟨by decide, by decide, by decide⟩ (fun r hr => by
    have : r = 4 := by simpa [redsK] using hr
    subst this
    unfold i64
    omega) hF hR).mono ?_
  rintro e w' ⟨p, he, hb, hok, _⟩
  rw [fsK_check] at he hok
  obtain ⟨⟨b, rfl⟩, hP⟩ := hok rfl
  exact ⟨b, he, hbw.trans (hb.mono (by simp; omega)), _, hP⟩

abbrev kPicks : Array Value := #[.int .i64 0, .int .i64 0, .int .i64 1, .int .i64 0, .int .i64 1, .int .i64 0, .int .i64 1, .int .i64 0, .int .i64 0, .int .i64 0, .int .i64 0, .int .i64 0, .int .i64 1, .int .i64 0, .int .i64 1, .int .i64 0]

theorem runK (w : World) (pb : Nat) (S : Nat → Prop) (hP : dev.P S w (.pointer (some ⟨pb, 0, none⟩)) fsK redsK) : Calls Try.prog 17 #[.pointer (some ⟨pb, 0, none⟩), .int .u64 0, .int .i64 0, .int .i64 2, .slice (some ⟨w.heap.size, 0, none⟩) 8 8] (w.alloc (.cells kPicks 79)) fun e w' => Below w.heap.size w w' ∧ ∃ vb tb lb vc tc lc, e = .returned (.tuple #[.agg #[.slice (some ⟨vb, 0, none⟩) 1 vc, .slice (some ⟨tb, 0, none⟩) 3 tc, .int .i64 13, .int .i64 1, .int .i64 4, .int .i64 2], .int .i64 0]) ∧
    w'.cell? ⟨vb, 2, none⟩ = some (.slice (some ⟨lb, 0, none⟩) 3 lc) ∧ w'.cell? ⟨lb, 0, none⟩ = some (.int .i64 1) ∧ w'.cell? ⟨lb, 1, none⟩ = some (.int .i64 2) ∧ w'.cell? ⟨lb, 2, none⟩ = some (.int .i64 3) ∧
    w'.cell? ⟨tb, 0, none⟩ = some (.int .i64 1) ∧ w'.cell? ⟨tb, 2, none⟩ = some (.int .i64 2) ∧ w'.cell? ⟨tb, 5, none⟩ = some (.int .i64 1) ∧ w'.cell? ⟨tb, 8, none⟩ = some (.int .i64 3) := by
  have hb0 : Below w.heap.size w (w.alloc (.cells kPicks 79)) := (Below.refl _ w).alloc (Nat.le_refl _) _
  have hsv : RdL (fun _ => True) (w.alloc (.cells kPicks 79)) 2 pickV (.slice (some ⟨w.heap.size, 0, none⟩) 8 8) scriptK := (rd_block (enc := pickV) [(0, 0), (1, 0), (1, 0), (1, 0), (0, 0), (0, 0), (1, 0), (1, 0)] pickv_len (World.alloc_heap_new w _) rfl (by simp)).any
  have hsc : ∀ q ∈ scriptK, i64 q.1 ∧ i64 q.2 := fun q hq => by
    simp only [scriptK, List.mem_cons, List.not_mem_nil, or_false] at hq
    rcases hq with rfl | rfl | rfl | rfl | rfl | rfl | rfl | rfl <;> (unfold i64; simp)
  refine (run_said fsK redsK S (fun _ => True) _ 0 0 2 scriptK _ _ fsK_wf (by rw [fsK_check]) hsc (dev.turn hP (fun b hb hlt => ⟨hb, hb0.block b hlt⟩)) hsv).mono ?_
  rintro e w' ⟨hb, _, hok⟩
  obtain ⟨N, lv, tv, LV, xs, hen, he, hV, hT, _, _⟩ := hok rfl
  have hN : N = 12 := hen.one fsK_ends
  subst hN
  have hT' : w'.ownsRow (w.alloc (.cells kPicks 79)).heap.size 42 3 tv 3 (evCells [⟨1, 0, 2⟩, ⟨0, 0, 1⟩, ⟨0, 0, 3⟩]) := by
    have := hT
    rw [show ((2 : Int).toNat) = 2 from rfl, fsK_tr] at this
    exact this
  obtain ⟨tb, tc, rfl, _, _⟩ := hT'.form (by omega)
  obtain ⟨vb, vc, rfl, _, _⟩ := hV.row.form (by decide)
  have hL := hV.own 0 (by decide)
  rw [fsK_va] at hL
  obtain ⟨lb, lc, hle, _, _⟩ := hL.form (by simp)
  rw [hle] at hL
  refine ⟨hb0.trans (hb.mono (by simp)), vb, tb, lb, vc, tc, lc, ?_, ?_, ?_, ?_, ?_, ?_, ?_, ?_, ?_⟩
  · rw [he, show ((2 : Int).toNat) = 2 from rfl, fsK_st, fsK_fa, fsK_fr]; rfl
  · rw [World.ownsRow.cellAt hV.row 2 (by decide)]
    have := hV.n2 0 (by decide)
    rw [this, hle]; rfl
  · rw [World.ownsRow.cellAt hL 0 (by decide)]; rfl
  · rw [World.ownsRow.cellAt hL 1 (by decide)]; rfl
  · rw [World.ownsRow.cellAt hL 2 (by decide)]; rfl
  · rw [World.ownsRow.cellAt hT' 0 (by decide)]; rfl
  · rw [World.ownsRow.cellAt hT' 2 (by decide)]; rfl
  · rw [World.ownsRow.cellAt hT' 5 (by decide)]; rfl
  · rw [World.ownsRow.cellAt hT' 8 (by decide)]; rfl

set_option maxRecDepth 4000 in
set_option maxHeartbeats 4000000 in
theorem known_calls (w : World) : Calls Try.prog 14 #[] w fun e w' => e = .returned (.bool true) ∧ Below w.heap.size w w' := by
  go_enter Try.func14, Try.ntmps14
  go_wp2_with (first
    | (go_at_call 15; refine (newK w).mono ?_; rintro e w2 ⟨pb, rfl, hb2, S2, hP2⟩)
    | (go_at_call 17; refine (runK w2 pb S2 hP2).mono ?_; rintro e w3 ⟨hb3, vb, tb, lb, vc, tc, lc, rfl, r0, r1, r2, r3, r4, r5, r6, r7⟩
       have hv3 := block_lt_of_cell r0
       have hl3 := block_lt_of_cell r1
       have ht3 := block_lt_of_cell r4
       simp only at hv3 hl3 ht3))
  go_ret
  exact ⟨rfl, (hb2.trans (hb3.mono hb2.size)).alloc (Nat.le_trans hb2.size hb3.size) _⟩
end Go.Proofs.Ytkmakliebhnhbaa
