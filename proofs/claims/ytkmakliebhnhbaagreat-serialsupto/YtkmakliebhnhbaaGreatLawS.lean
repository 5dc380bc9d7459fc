import Derived.Deep.QuietTactic
import Derived.BigQuiet
import Derived.Test.YtkmakliebhnhbaaGreatLawA
namespace Go.Proofs.YtkmakliebhnhbaaGreat
open Go.RowKit

set_option maxRecDepth 100000 in
set_option maxHeartbeats 1000000 in
theorem sameEvents_any (evs : List Ev) (S S' : Nat → Prop) (va vb : Value) (w : World) (hA : RdL S w 3 Ev.vals va evs) (hB : RdL S' w 3 Ev.vals vb evs) :
    Calls Tryz.prog 22 #[va, vb] w fun e w' => e = .returned (.bool true) ∧ Below w.heap.size w w' := by
  have HA := hide hA
  have HB := hide hB
  obtain ⟨a, ca, rfl, hca, hma⟩ := hA.form
  obtain ⟨b, cb, rfl, hcb, hmb⟩ := hB.form
  obtain ⟨n, hN⟩ : ∃ n, evs.length = n := ⟨_, rfl⟩
  have HN := hide hN
  rw [hN] at HA HB hca hcb ⊢
  unfold maxLen at hma hmb
  clear hA hB hN
  go_enter Tryz.func22, Tryz.ntmps22
  go_wp2
  go_loopw [5] (fun i wr => (∃ k : Nat, k ≤ n ∧ i = .int .i64 k) ∧ Below w.heap.size w wr) (fun i _ => n - (intOf i).toNat)
  case atStart => exact ⟨⟨0, Nat.zero_le _, rfl⟩, Below.refl _ _⟩
  case round =>
    obtain ⟨⟨k, hk, rfl⟩, hBk⟩ := hrel
    have HBk := hide hBk
    by_cases hlt : k < n
    · obtain ⟨e, he⟩ : ∃ e, evs[k]? = some e := ⟨evs[k]'(by have := HN.out; omega), by simp⟩
      obtain ⟨b1, o1, rfl, _, h1⟩ := HA.out.at he
      obtain ⟨b2, o2, rfl, _, h2⟩ := HB.out.at he
      have c0 := h1 0 _ rfl
      have c1 := h1 1 _ rfl
      have c2 := h1 2 _ rfl
      have d0 := h2 0 _ rfl
      have d1 := h2 1 _ rfl
      have d2 := h2 2 _ rfl
      have l1 := block_lt_of_cell c0
      have l2 := block_lt_of_cell d0
      simp only [Nat.add_zero] at l1 l2 c0 d0
      have p0 := (hBk.cell (p := ⟨b1, o1 + k * 3, none⟩) l1).trans c0
      have p1 := (hBk.cell (p := ⟨b1, o1 + k * 3 + 1, none⟩) l1).trans c1
      have p2 := (hBk.cell (p := ⟨b1, o1 + k * 3 + 2, none⟩) l1).trans c2
      have q0 := (hBk.cell (p := ⟨b2, o2 + k * 3, none⟩) l2).trans d0
      have q1 := (hBk.cell (p := ⟨b2, o2 + k * 3 + 1, none⟩) l2).trans d1
      have q2 := (hBk.cell (p := ⟨b2, o2 + k * 3 + 2, none⟩) l2).trans d2
      have hki : (k : Int) < n := by omega
      clear c0 c1 c2 d0 d1 d2 h1 h2 he hBk
      obtain ⟨x0, x1, x2⟩ := e
      simp only at p0 p1 p2 q0 q1 q2
      go_wp2
      go_quiet (fail)
      go_wp2
      go_roundw
      case rel => exact ⟨⟨k + 1, by omega, by go_num⟩, below_drewN HBk.out _⟩
      case measure => simp [intOf]; omega
    · clear hBk
      go_wp2
      go_ret
      exact ⟨rfl, HBk.out⟩

/-- Values in memory, to be read. -/
def RdV (W : World) (v : Value) (V : Nat → Val) (n : Nat) : Prop :=
  ∃ a cap, v = .slice a n cap ∧ n ≤ cap ∧ cap ≤ maxLen ∧ ∀ r, r < n → ∃ b off lv, a = some ⟨b, off, none⟩ ∧ W.cell? ⟨b, off + r * 3, none⟩ = some (.int .i64 (V r).n) ∧ W.cell? ⟨b, off + r * 3 + 1, none⟩ = some (.bool (V r).is) ∧
    W.cell? ⟨b, off + r * 3 + 2, none⟩ = some lv ∧ RdL (fun _ => True) W 1 int64s lv (V r).l

theorem ints_flat (l : List Int) : ints l = flat int64s l := by
  induction l with
  | nil => rfl
  | cons x t ih => simp only [ints, flat, List.map_cons, List.flatMap_cons] at *; rw [ih]; rfl

theorem Gath.rd {W : World} {base g nr : Nat} {tL : TypeId} {V : Nat → Val} {LV : Nat → Value} (h : Gath W base g nr tL V LV) (hn : nr ≤ maxLen) : RdV W (.slice (some ⟨g, 0, none⟩) nr nr) V nr :=
  ⟨_, _, rfl, Nat.le_refl _, hn, fun r hr => ⟨g, 0, LV r, rfl, by simpa using h.n r hr, by simpa using h.is r hr, by simpa using h.l r hr, own_rd (by rw [← ints_flat]; exact h.own r hr) int64s_len (fun _ _ => trivial)⟩⟩

theorem RdV.below {W W' : World} {v : Value} {V : Nat → Val} {n : Nat} (h : RdV W v V n) (hb : Below W.heap.size W W') : RdV W' v V n := by
  obtain ⟨a, cap, hv, h1, h2, h⟩ := h
  refine ⟨a, cap, hv, h1, h2, fun r hr => ?_⟩
  obtain ⟨b, off, lv, ha, c0, c1, c2, hl⟩ := h r hr
  have hlt : b < W.heap.size := block_lt_of_cell c0
  have hc : ∀ j, W'.cell? ⟨b, j, none⟩ = W.cell? ⟨b, j, none⟩ := fun j => hb.cell (p := ⟨b, j, none⟩) hlt
  exact ⟨b, off, lv, ha, (hc _).trans c0, (hc _).trans c1, (hc _).trans c2, hl.below hb (fun x _ => by simp [int64s])⟩

set_option maxRecDepth 100000 in
set_option maxHeartbeats 3000000 in
theorem sameValues_any (n : Nat) (V : Nat → Val) (va vb : Value) (w : World) (hA : RdV w va V n) (hB : RdV w vb V n) :
    Calls Tryz.prog 23 #[va, vb] w fun e w' => e = .returned (.bool true) ∧ Below w.heap.size w w' := by
  obtain ⟨a, ca, rfl, hca, hma, hA⟩ := hA
  obtain ⟨b, cb, rfl, hcb, hmb, hB⟩ := hB
  unfold maxLen at hma hmb
  have HA := hide hA
  have HB := hide hB
  clear hA hB
  go_enter Tryz.func23, Tryz.ntmps23
  go_wp2
  go_loopw [5] (fun i wr => (∃ k : Nat, k ≤ n ∧ i = .int .i64 k) ∧ Below w.heap.size w wr) (fun i _ => n - (intOf i).toNat)
  case atStart => exact ⟨⟨0, Nat.zero_le _, rfl⟩, Below.refl _ _⟩
  case round =>
    obtain ⟨wo, rfl⟩ : ∃ wo : World, wo = wr := ⟨_, rfl⟩
    obtain ⟨⟨k, hk, rfl⟩, hBk⟩ := hrel
    have HBk := hide hBk
    by_cases hlt : k < n
    · obtain ⟨b1, o1, l1, rfl, c0, c1, c2, hl1⟩ := HA.out k hlt
      obtain ⟨b2, o2, l2, rfl, d0, d1, d2, hl2⟩ := HB.out k hlt
      have k1 := block_lt_of_cell c0
      have k2 := block_lt_of_cell d0
      simp only at k1 k2
      have HL1 := hide hl1
      have HL2 := hide hl2
      obtain ⟨la, lca, rfl, hlca, hlma⟩ := hl1.form
      obtain ⟨lb, lcb, rfl, hlcb, hlmb⟩ := hl2.form
      unfold maxLen at hlma hlmb
      obtain ⟨L, hL⟩ : ∃ L, (V k).l.length = L := ⟨_, rfl⟩
      rw [hL] at hlca hlcb c2 d2 HL1 HL2
      have HL := hide hL
      have p0 := (hBk.cell (p := ⟨b1, o1 + k * 3, none⟩) k1).trans c0
      have p1 := (hBk.cell (p := ⟨b1, o1 + k * 3 + 1, none⟩) k1).trans c1
      have p2 := (hBk.cell (p := ⟨b1, o1 + k * 3 + 2, none⟩) k1).trans c2
      have q0 := (hBk.cell (p := ⟨b2, o2 + k * 3, none⟩) k2).trans d0
      have q1 := (hBk.cell (p := ⟨b2, o2 + k * 3 + 1, none⟩) k2).trans d1
      have q2 := (hBk.cell (p := ⟨b2, o2 + k * 3 + 2, none⟩) k2).trans d2
      obtain ⟨vn, hvn⟩ : ∃ vn, (V k).n = vn := ⟨_, rfl⟩
      obtain ⟨vi, hvi⟩ : ∃ vi, (V k).is = vi := ⟨_, rfl⟩
      rw [hvn] at p0 q0
      rw [hvi] at p1 q1
      have hki : (k : Int) < n := by omega
      have C2 := hide c2
      have D2 := hide d2
      have t0 : (vn != vn) = false := by simp
      have t1 : (vi != vi) = false := by simp
      have t2 : ((L : Int) != L) = false := by simp
      clear c0 c1 c2 d0 d1 d2 hl1 hl2 hBk hvn hvi hL
      go_wp2
      go_quiet (fail)
      go_wp2
      go_loopw [6] (fun i wr => (∃ j : Nat, j ≤ L ∧ i = .int .i64 j) ∧ Below w.heap.size w wr) (fun i _ => L - (intOf i).toNat)
      case atStart => exact ⟨⟨0, Nat.zero_le _, rfl⟩, below_drewN HBk.out _⟩
      case round =>
        clear p0 p1 p2 q0 q1 q2
        obtain ⟨⟨j, hj, rfl⟩, hBj⟩ := hrel
        have HBj := hide hBj
        have p2 := (hBj.cell (p := ⟨b1, o1 + k * 3 + 2, none⟩) k1).trans C2.out
        have q2 := (hBj.cell (p := ⟨b2, o2 + k * 3 + 2, none⟩) k2).trans D2.out
        by_cases hjL : j < L
        · obtain ⟨x, hx⟩ : ∃ x, (V k).l[j]? = some x := ⟨(V k).l[j]'(by have := HL.out; omega), by simp⟩
          obtain ⟨e1, f1, rfl, _, h1⟩ := HL1.out.at hx
          obtain ⟨e2, f2, rfl, _, h2⟩ := HL2.out.at hx
          have c0 := h1 0 _ rfl
          have d0 := h2 0 _ rfl
          have m1 := block_lt_of_cell c0
          have m2 := block_lt_of_cell d0
          simp only [Nat.mul_one, Nat.add_zero] at m1 m2 c0 d0
          have r0 := (hBj.cell (p := ⟨e1, f1 + j, none⟩) m1).trans c0
          have r1 := (hBj.cell (p := ⟨e2, f2 + j, none⟩) m2).trans d0
          have hji : (j : Int) < L := by omega
          have tx : (x != x) = false := by simp
          clear c0 d0 h1 h2 hx hBj
          go_wp2
          go_quiet (fail)
          go_wp2
          go_roundw
          case rel => exact ⟨⟨j + 1, by omega, by go_num⟩, below_drewN HBj.out _⟩
          case measure => simp [intOf]; omega
        · clear hBj
          go_wp2
          go_roundw
          case rel => exact ⟨⟨k + 1, by omega, by go_num⟩, HBj.out⟩
          case measure => simp [intOf]; omega
    · clear hBk
      go_wp2
      go_ret
      exact ⟨rfl, HBk.out⟩
end Go.Proofs.YtkmakliebhnhbaaGreat
