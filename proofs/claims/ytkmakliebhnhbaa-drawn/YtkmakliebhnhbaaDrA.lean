import Derived.Deep.QuietTactic
import Derived.BigQuiet
import Derived.Test.YtkmakliebhnhbaaDrP
import Derived.Test.YtkmakliebhnhbaaKnA
/- Drawn, walked. -/
namespace Go.Proofs.Ytkmakliebhnhbaa
open Go.RowKit Go.Shelf

abbrev gW1 (c0 c1 : Array Value) (n0 n1 : Nat) (w : World) : World := (((w.alloc (.cells c0 52)).alloc (.cells c1 52)).alloc (.cells #[.slice (some ⟨w.heap.size, 0, none⟩) n0 n0, .slice (some ⟨w.heap.size + 1, 0, none⟩) n1 n1] 53)).alloc (.cells #[.int .i64 4] 3)

theorem newG (l0 l1 : List Ins) (c0 c1 : Array Value) (n0 n1 : Nat) (hn0 : l0.length = n0) (hn1 : l1.length = n1) (e0 : c0.toList = flat Ins.vals l0) (e1 : c1.toList = flat Ins.vals l1) (hl0 : n0 ≤ 10) (hl1 : n1 ≤ 10) (hwf : FsWf [l0, l1]) (hch : check [l0, l1] redsK = (0, 0)) (w : World) : Calls Try.prog 15 #[.slice (some ⟨w.heap.size + 1 + 1, 0, none⟩) 2 2, .slice (some ⟨w.heap.size + 1 + 1 + 1, 0, none⟩) 1 1] (gW1 c0 c1 n0 n1 w) fun e w' => ∃ pb, e = .returned (.tuple #[.pointer (some ⟨pb, 0, none⟩), .int .i64 0, .int .i64 0]) ∧ Below w.heap.size w w' ∧ dev.P (fun b => w.heap.size ≤ b ∧ b < w'.heap.size) w' (.pointer (some ⟨pb, 0, none⟩)) [l0, l1] redsK := by
  subst hn0 hn1
  have hbw : Below w.heap.size w (gW1 c0 c1 l0.length l1.length w) := ((((Below.refl _ w).alloc (Nat.le_refl _) _).alloc (by simp) _).alloc (by simp; omega) _).alloc (by simp; omega) _
  have h0 : (gW1 c0 c1 l0.length l1.length w).heap[w.heap.size]? = some (.cells c0 52 (0, 0)) := (Below.heap_alloc _ _ _ (by simp; omega)).trans ((Below.heap_alloc _ _ _ (by simp; omega)).trans ((Below.heap_alloc _ _ _ (by simp)).trans (World.alloc_heap_new w _)))
  have h1 : (gW1 c0 c1 l0.length l1.length w).heap[w.heap.size + 1]? = some (.cells c1 52 (0, 0)) := by
    refine (Below.heap_alloc _ _ _ (by simp)).trans ((Below.heap_alloc _ _ _ (by simp)).trans ?_)
    have := World.alloc_heap_new (w.alloc (.cells c0 52)) (.cells c1 52)
    rw [World.size_alloc] at this
    exact this
  have h2 : (gW1 c0 c1 l0.length l1.length w).heap[w.heap.size + 1 + 1]? = some (.cells #[.slice (some ⟨w.heap.size, 0, none⟩) l0.length l0.length, .slice (some ⟨w.heap.size + 1, 0, none⟩) l1.length l1.length] 53 (0, 0)) := by
    refine (Below.heap_alloc _ _ _ (by simp)).trans ?_
    have := World.alloc_heap_new ((w.alloc (.cells c0 52)).alloc (.cells c1 52)) (.cells #[.slice (some ⟨w.heap.size, 0, none⟩) l0.length l0.length, .slice (some ⟨w.heap.size + 1, 0, none⟩) l1.length l1.length] 53)
    rw [World.size_alloc, World.size_alloc] at this
    exact this
  have h3 : (gW1 c0 c1 l0.length l1.length w).heap[w.heap.size + 1 + 1 + 1]? = some (.cells #[.int .i64 4] 3 (0, 0)) := by
    have := World.alloc_heap_new (((w.alloc (.cells c0 52)).alloc (.cells c1 52)).alloc (.cells #[.slice (some ⟨w.heap.size, 0, none⟩) l0.length l0.length, .slice (some ⟨w.heap.size + 1, 0, none⟩) l1.length l1.length] 53)) (.cells #[.int .i64 4] 3)
    rw [World.size_alloc, World.size_alloc, World.size_alloc] at this
    exact this
  have hF : RdF (fun _ => True) (gW1 c0 c1 l0.length l1.length w) (.slice (some ⟨w.heap.size + 1 + 1, 0, none⟩) 2 2) [l0, l1] := by
    refine ⟨[.slice (some ⟨w.heap.size, 0, none⟩) l0.length l0.length, .slice (some ⟨w.heap.size + 1, 0, none⟩) l1.length l1.length], rfl, (rd_block (enc := one) [.slice (some ⟨w.heap.size, 0, none⟩) l0.length l0.length, .slice (some ⟨w.heap.size + 1, 0, none⟩) l1.length l1.length] one_len h2 rfl (by simp)).any, fun k u x hu hx => ?_⟩
    match k, hu, hx with
    | 0, hu, hx => cases hu; cases hx; exact (rd_block (enc := Ins.vals) l0 insvals_len h0 e0 (by omega)).any
    | 1, hu, hx => cases hu; cases hx; exact (rd_block (enc := Ins.vals) l1 insvals_len h1 e1 (by omega)).any
    | k + 2, hu, _ => simp at hu
  have hR : RdL (fun _ => True) (gW1 c0 c1 l0.length l1.length w) 1 int64s (.slice (some ⟨w.heap.size + 1 + 1 + 1, 0, none⟩) 1 1) redsK := (rd_block (enc := int64s) [4] int64s_len h3 rfl (by simp)).any
  refine (new_said [l0, l1] redsK (fun _ => True) _ _ (gW1 c0 c1 l0.length l1.length w) hwf ⟨by simp, by decide, fun l hl => by
    simp only [List.mem_cons, List.not_mem_nil, or_false] at hl
    rcases hl with rfl | rfl <;> omega⟩ (fun r hr => by
    have : r = 4 := by simpa [redsK] using hr
    subst this
    unfold i64
    omega) hF hR).mono ?_
  rintro e w' ⟨p, he, hb, hok, _⟩
  rw [hch] at he hok
  obtain ⟨⟨b, rfl⟩, hP⟩ := hok rfl
  refine ⟨b, he, hbw.trans (hb.mono (by simp; omega)), dev.turn hP fun b hb _ => ⟨⟨?_, hb.2⟩, rfl⟩⟩
  have := hb.1
  simp at this
  omega


theorem newA (k : Int) (h0 : 0 < k) (h1 : i64 k) (w : World) : Calls Try.prog 15 #[.slice (some ⟨w.heap.size + 1 + 1, 0, none⟩) 2 2, .slice (some ⟨w.heap.size + 1 + 1 + 1, 0, none⟩) 1 1] (gW1 #[.int .i64 2, .int .i64 0, .int .i64 0, .int .i64 k, .int .i64 0, .int .i64 3, .int .i64 1, .int .i64 0, .int .i64 0, .int .i64 0, .int .i64 2, .int .i64 0, .int .i64 0, .int .i64 k, .int .i64 0, .int .i64 5, .int .i64 0, .int .i64 0, .int .i64 0, .int .i64 0, .int .i64 2, .int .i64 0, .int .i64 0, .int .i64 k, .int .i64 0] #[.int .i64 2, .int .i64 0, .int .i64 0, .int .i64 k, .int .i64 0] 5 1 w) fun e w' => ∃ pb, e = .returned (.tuple #[.pointer (some ⟨pb, 0, none⟩), .int .i64 0, .int .i64 0]) ∧ Below w.heap.size w w' ∧ dev.P (fun b => w.heap.size ≤ b ∧ b < w'.heap.size) w' (.pointer (some ⟨pb, 0, none⟩)) (fsA k) redsK :=
  newG [⟨2, 0, 0, k, 0⟩, ⟨3, 1, 0, 0, 0⟩, ⟨2, 0, 0, k, 0⟩, ⟨5, 0, 0, 0, 0⟩, ⟨2, 0, 0, k, 0⟩] [⟨2, 0, 0, k, 0⟩] _ _ 5 1 rfl rfl rfl rfl (by omega) (by omega) (fsA_wf h1) (fsA_check h0) w

theorem newB (k : Int) (h0 : 0 < k) (h1 : i64 k) (w : World) : Calls Try.prog 15 #[.slice (some ⟨w.heap.size + 1 + 1, 0, none⟩) 2 2, .slice (some ⟨w.heap.size + 1 + 1 + 1, 0, none⟩) 1 1] (gW1 #[.int .i64 2, .int .i64 0, .int .i64 0, .int .i64 k, .int .i64 0, .int .i64 1, .int .i64 0, .int .i64 0, .int .i64 5, .int .i64 0, .int .i64 4, .int .i64 1, .int .i64 0, .int .i64 0, .int .i64 0, .int .i64 1, .int .i64 0, .int .i64 0, .int .i64 0, .int .i64 1, .int .i64 2, .int .i64 0, .int .i64 0, .int .i64 k, .int .i64 0, .int .i64 5, .int .i64 0, .int .i64 0, .int .i64 0, .int .i64 0, .int .i64 2, .int .i64 0, .int .i64 0, .int .i64 k, .int .i64 0] #[.int .i64 2, .int .i64 0, .int .i64 0, .int .i64 k, .int .i64 0] 7 1 w) fun e w' => ∃ pb, e = .returned (.tuple #[.pointer (some ⟨pb, 0, none⟩), .int .i64 0, .int .i64 0]) ∧ Below w.heap.size w w' ∧ dev.P (fun b => w.heap.size ≤ b ∧ b < w'.heap.size) w' (.pointer (some ⟨pb, 0, none⟩)) (fsB k) redsK :=
  newG [⟨2, 0, 0, k, 0⟩, ⟨1, 0, 0, 5, 0⟩, ⟨4, 1, 0, 0, 0⟩, ⟨1, 0, 0, 0, 1⟩, ⟨2, 0, 0, k, 0⟩, ⟨5, 0, 0, 0, 0⟩, ⟨2, 0, 0, k, 0⟩] [⟨2, 0, 0, k, 0⟩] _ _ 7 1 rfl rfl rfl rfl (by omega) (by omega) (fsB_wf h1) (fsB_check h0) w

/-- A trace that lies in a row of its own, number by number. -/
theorem serG (fs : List (List Ins)) (S : Nat → Prop) (pb : Nat) (seed x : Int) (w : World) (tr : List Ev) (hwf : FsWf fs) (hch : check fs redsK = (0, 0)) (hs : u64 seed) (hx : i64 x) (hP : dev.P S w (.pointer (some ⟨pb, 0, none⟩)) fs redsK) (htr : traceZ fs seed x = tr) (hne : 0 < tr.length) :
    Calls Try.prog 12 #[.pointer (some ⟨pb, 0, none⟩), .int .u64 seed, .int .i64 x] w fun e w' => ∃ vb vc tb tc, e = .returned (.agg #[.slice (some ⟨vb, 0, none⟩) 1 vc, .slice (some ⟨tb, 0, none⟩) tr.length tc, .int .i64 0, .int .i64 0, .int .i64 0, .int .i64 (framesC fs)]) ∧
      w.heap.size ≤ tb ∧ tb < w'.heap.size ∧ (∀ i e, tr[i]? = some e → w'.cell? ⟨tb, 3 * i + 2, none⟩ = some (.int .i64 e.n)) ∧ Below w.heap.size w w' := by
  refine (serial_said fs redsK S _ seed x w hwf (by rw [hch]) hs hx hP).mono ?_
  rintro e w' ⟨lv, tv, LV, xs, he, hV, hT, _, _, hb⟩
  rw [htr] at hT
  obtain ⟨vb, vc, rfl, _, _⟩ := hV.row.form (by decide)
  obtain ⟨tb, tc, rfl, h1, h2⟩ := hT.form hne
  refine ⟨vb, vc, tb, tc, he, h1, h2, fun i e hi => ?_, hb⟩
  have hlt := (List.getElem?_eq_some_iff.1 hi).1
  rw [World.ownsRow.cellAt hT (3 * i + 2) (by omega)]
  have := flat_get evvals_len tr hi (j := 2) (by omega)
  rw [evCells_flat, show 3 * i + 2 = i * 3 + 2 by omega]
  exact this

theorem out_cell {w4 w5 : World} {cs : Array Value} {t : TypeId} (hb5 : Below (w4.alloc (.cells cs t)).heap.size (w4.alloc (.cells cs t)) w5) (i : Nat) (v : Value) (h : cs[i]? = some v) : w5.cell? ⟨w4.heap.size, i, none⟩ = some v := by
  rw [World.cell?_of_block (hb5.block w4.heap.size (by rw [World.size_alloc]; omega))]
  unfold World.cell?
  have := World.alloc_heap_new w4 (.cells cs t)
  rw [this]
  exact h

theorem below_drn {B : Nat} {a w : World} (n : Nat) (h : Below B a w) : Below B a (w.drewN n) := ⟨h.os, h.tape, h.output, h.size, h.block⟩
theorem below_all {w w1 w2 w3 w4 w5 : World} {o o' : Obj} (n : Nat) (h1 : Below w.heap.size w w1) (h2 : Below w1.heap.size w1 w2) (h3 : Below w2.heap.size w2 w3) (h4 : Below w3.heap.size w3 w4) (h5 : Below (w4.alloc o).heap.size (w4.alloc o) w5) : Below w.heap.size w ((w5.alloc o').drewN n) := by
  have s1 := h1.size
  have s2 := h2.size
  have s3 := h3.size
  have s4 := h4.size
  have s5 := h5.size
  rw [World.size_alloc] at s5
  refine below_drn n (Below.alloc ?_ (by omega) _)
  refine (h1.trans ((h2.trans ((h3.trans (h4.mono s3)).mono s2)).mono s1)).trans ?_
  exact ((Below.refl _ w4).alloc (by omega) o).trans (h5.mono (by rw [World.size_alloc]; omega))
end Go.Proofs.Ytkmakliebhnhbaa
