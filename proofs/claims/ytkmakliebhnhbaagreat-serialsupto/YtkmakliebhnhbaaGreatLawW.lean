import Derived.Deep.QuietTactic
import Derived.BigQuiet
import Derived.Test.YtkmakliebhnhbaaGreatLawA
namespace Go.Proofs.YtkmakliebhnhbaaGreat
open Go.RowKit

theorem grown_trans {a b c : World} {row : Option Nat} (h : a.grownBy b row) (k : b.grownBy c row) : a.grownBy c row :=
  ⟨k.os.trans h.os, k.tape.trans h.tape, k.output.trans h.output, Nat.le_trans h.size k.size, fun i hi hne => (k.block i (Nat.lt_of_lt_of_le hi h.size) hne).trans (h.block i hi hne)⟩
theorem grown_below {a b : World} (h : Below a.heap.size a b) (row : Option Nat) : a.grownBy b row := ⟨h.os, h.tape, h.output, h.size, fun k hk _ => h.block k hk⟩
theorem grown_drewN {a b : World} {row : Option Nat} (h : a.grownBy b row) (n : Nat) : a.grownBy (b.drewN n) row := grown_trans h ⟨rfl, rfl, rfl, Nat.le_refl _, fun _ _ _ => rfl⟩
theorem grown_set {a b : World} {g j : Nat} (h : a.grownBy b (some g)) (u : Value) : a.grownBy (b.setCell ⟨g, j, none⟩ u) (some g) :=
  grown_trans h ⟨rfl, rfl, rfl, by simp [World.setCell], fun k _ hk => Below.heap_setCell _ _ _ _ (fun e => hk (by simp [e]))⟩
theorem own_drewN {w : World} {base : Nat} {e : TypeId} {size : Nat} {v : Value} {n : Nat} {xs : List Value} (h : w.ownsRow base e size v n xs) (k : Nat) : (w.drewN k).ownsRow base e size v n xs := h

theorem own_set_other {w : World} {base : Nat} {e : TypeId} {size : Nat} {v : Value} {n : Nat} {xs : List Value} (h : w.ownsRow base e size v n xs) {g j : Nat} (hg : v.ownBlock ≠ some g) (u : Value) : (w.setCell ⟨g, j, none⟩ u).ownsRow base e size v n xs :=
  own_turn h (fun b hb _ => Below.heap_setCell _ _ _ _ (fun e => hg (by rw [hb, e])))

theorem own_get1 {W : World} {base g n cap : Nat} {e : TypeId} {l : List Int} (h : W.ownsRow base e 1 (.slice (some ⟨g, 0, none⟩) n cap) n (flat int64s l)) (hl : l.length = n) {q : Nat} {x : Int} (hq : l[q]? = some x) :
    W.cell? ⟨g, q, none⟩ = some (.int .i64 x) := by
  have hlt := (List.getElem?_eq_some_iff.1 hq).1
  have := flat_get int64s_len l hq (j := 0) (by omega)
  rw [h.cellAt _ (by omega)]
  simpa [int64s] using this

set_option maxRecDepth 100000 in
set_option maxHeartbeats 400000 in
theorem wholeNumbers_any (xs : List Int) (S : Nat → Prop) (v : Value) (g cap base : Nat) (w : World) (hR : RdL S w 1 int64s v xs) (hn : xs.length ≤ 2000000)
    (hown : w.ownsRow base 3 1 (.slice (some ⟨g, 0, none⟩) (xs.length + 3) cap) (xs.length + 3) (flat int64s (mk77 xs 3))) :
    Calls Tryz.prog 17 #[.slice (some ⟨g, 0, none⟩) (xs.length + 3) cap, v] w fun e w' => e = .returned (.bool true) ∧ w.grownBy w' (some g) := by
  have HC := hide (numbers_any xs S v w hR hn)
  have HOW := hide hown
  have hg : g < w.heap.size := (hown.lt g rfl).2
  have hlen := mk77_len xs 3 (Nat.le_refl _)
  obtain ⟨n, hN⟩ : ∃ n, xs.length + 3 = n := ⟨_, rfl⟩
  rw [hN] at HC HOW hlen ⊢
  obtain ⟨ys, hys⟩ : ∃ ys, mk77 xs 3 = ys := ⟨_, rfl⟩
  rw [hys] at HC HOW hlen
  have hn' : n ≤ 2000003 := by omega
  have HY := hide hlen
  clear hN hR hown hys hn hlen
  go_enter Tryz.func17, Tryz.ntmps17
  go_wp2_with fail
  refine HC.out.mono ?_
  rintro e w1 ⟨rfl, ho1, hb1⟩
  have HO1 := hide ho1
  have HB1 := hide hb1
  have hw1 : w.heap.size < w1.heap.size := (ho1.lt _ rfl).2
  have HW1 := hide hw1
  clear HC ho1 hb1 hw1
  go_wp2
  go_loopw [6, 7] (fun ok i wr => ok = .bool true ∧ (∃ (k : Nat) (zs : List Int), k ≤ n ∧ i = .int .i64 k ∧ zs.length = n ∧ wr.ownsRow base 3 1 (.slice (some ⟨g, 0, none⟩) n cap) n (flat int64s zs) ∧ (∀ j, k ≤ j → zs[j]? = ys[j]?)) ∧
      wr.ownsRow w.heap.size 3 1 (.slice (some ⟨w.heap.size, 0, none⟩) n n) n (flat int64s ys) ∧ w.grownBy wr (some g))
    (fun _ i _ => n - (intOf i).toNat)
  case atStart => exact ⟨by simp, ⟨0, ys, Nat.zero_le _, rfl, HY.out, own_below HOW.out HB1.out, fun _ _ => rfl⟩, HO1.out, grown_below HB1.out _⟩
  case round =>
    obtain ⟨rfl, ⟨k, zs, hk, rfl, hz, hoz, hzy⟩, how, hgr⟩ := hrel
    have HOZ := hide hoz
    have HOW2 := hide how
    have HGR := hide hgr
    by_cases hlt : k < n
    · obtain ⟨y, hy⟩ : ∃ y, ys[k]? = some y := ⟨ys[k]'(by have := HY.out; omega), by simp⟩
      have c0 := own_get1 hoz hz ((hzy k (Nat.le_refl _)).trans hy)
      have c1 := own_get1 how HY.out hy
      have f0 := hoz.frozenAt k
      have hki : (k : Int) < n := by omega
      have HZ := hide hzy
      have HZL := hide hz
      clear hoz how hgr hzy hy hz
      go_wp2
      go_quiet (fail)
      go_wp2
      go_roundw
      case rel =>
        refine ⟨by simp, ⟨k + 1, zs.set k (-99), by omega, by go_num, by simpa using HZL.out, ?_, fun j hj => by rw [List.getElem?_set_ne (by omega)]; exact HZ.out j (by omega)⟩, ?_, ?_⟩
        · rw [← flat1_set]; exact (HOZ.out.stored k _).1
        · exact own_drewN (own_set_other HOW2.out (by simp [Value.ownBlock]; omega) _) _
        · exact grown_drewN (grown_set HGR.out _) _
      case measure => simp [intOf]; omega
    · clear hoz how hgr hzy hz
      go_wp2
      go_ret
      exact ⟨rfl, HGR.out⟩
set_option maxRecDepth 100000 in
set_option maxHeartbeats 3000000 in
theorem wholeCode_any (xs : List Ins) (S : Nat → Prop) (v : Value) (g cap base : Nat) (w : World) (hR : RdL S w 5 Ins.vals v xs) (hn : xs.length ≤ 2000000)
    (hown : w.ownsRow base 45 5 (.slice (some ⟨g, 0, none⟩) (xs.length + 3) cap) (xs.length + 3) (flat Ins.vals (mkc xs 3))) :
    Calls Tryz.prog 18 #[.slice (some ⟨g, 0, none⟩) (xs.length + 3) cap, v] w fun e w' => e = .returned (.bool true) ∧ w.grownBy w' (some g) := by
  have HC := hide (code_any xs S v w hR hn)
  have HOW := hide hown
  have hg : g < w.heap.size := (hown.lt g rfl).2
  have hlen := mkc_len xs 3 (Nat.le_refl _)
  obtain ⟨n, hN⟩ : ∃ n, xs.length + 3 = n := ⟨_, rfl⟩
  rw [hN] at HC HOW hlen ⊢
  obtain ⟨ys, hys⟩ : ∃ ys, mkc xs 3 = ys := ⟨_, rfl⟩
  rw [hys] at HC HOW hlen
  have hn' : n ≤ 2000003 := by omega
  have HY := hide hlen
  clear hN hR hown hys hn hlen
  go_enter Tryz.func18, Tryz.ntmps18
  go_wp2_with fail
  refine HC.out.mono ?_
  rintro e w1 ⟨rfl, ho1, hb1⟩
  have HO1 := hide ho1
  have HB1 := hide hb1
  have hw1 : w.heap.size < w1.heap.size := (ho1.lt _ rfl).2
  have HW1 := hide hw1
  clear HC ho1 hb1 hw1
  go_wp2
  go_loopw [6, 7] (fun ok i wr => ok = .bool true ∧ (∃ (k : Nat) (zs : List Ins), k ≤ n ∧ i = .int .i64 k ∧ zs.length = n ∧ wr.ownsRow base 45 5 (.slice (some ⟨g, 0, none⟩) n cap) n (flat Ins.vals zs) ∧ (∀ j, k ≤ j → zs[j]? = ys[j]?)) ∧
      wr.ownsRow w.heap.size 45 5 (.slice (some ⟨w.heap.size, 0, none⟩) n n) n (flat Ins.vals ys) ∧ w.grownBy wr (some g))
    (fun _ i _ => n - (intOf i).toNat)
  case atStart => exact ⟨by simp, ⟨0, ys, Nat.zero_le _, rfl, HY.out, own_below HOW.out HB1.out, fun _ _ => rfl⟩, HO1.out, grown_below HB1.out _⟩
  case round =>
    obtain ⟨rfl, ⟨k, zs, hk, rfl, hz, hoz, hzy⟩, how, hgr⟩ := hrel
    have HOZ := hide hoz
    have HOW2 := hide how
    have HGR := hide hgr
    by_cases hlt : k < n
    · obtain ⟨y, hy⟩ : ∃ y, ys[k]? = some y := ⟨ys[k]'(by have := HY.out; omega), by simp⟩
      obtain ⟨c0, c1, c2, c3, c4⟩ := own_get5 hoz hz ((hzy k (Nat.le_refl _)).trans hy)
      obtain ⟨d0, d1, d2, d3, d4⟩ := own_get5 how HY.out hy
      have f0 := hoz.frozenAt (k * 5)
      have f1 := hoz.frozenAt (k * 5 + 1)
      have f2 := hoz.frozenAt (k * 5 + 2)
      have f3 := hoz.frozenAt (k * 5 + 3)
      have f4 := hoz.frozenAt (k * 5 + 4)
      have hki : (k : Int) < n := by omega
      have HZ := hide hzy
      have HZL := hide hz
      clear hoz how hgr hzy hy hz
      obtain ⟨y0, y1, y2, y3, y4⟩ := y
      simp only at c0 c1 c2 c3 c4 d0 d1 d2 d3 d4
      go_wp2
      go_quiet (fail)
      go_wp2
      go_roundw
      case rel =>
        refine ⟨by simp, ⟨k + 1, zs.set k ⟨-99, 0, 0, 0, 0⟩, by omega, by go_num, by simpa using HZL.out, ?_, fun j hj => by rw [List.getElem?_set_ne (by omega)]; exact HZ.out j (by omega)⟩, ?_, ?_⟩
        · exact own_drewN (own_set5 HOZ.out ⟨-99, 0, 0, 0, 0⟩ (by have := HZL.out; omega)) _
        · have hne : (Value.slice (some ⟨w.heap.size, 0, none⟩) n n).ownBlock ≠ some g := by simp [Value.ownBlock]; omega
          exact own_drewN (own_set_other (j := k * 5 + 4) (own_set_other (j := k * 5 + 3) (own_set_other (j := k * 5 + 2) (own_set_other (j := k * 5 + 1) (own_set_other (j := k * 5) HOW2.out hne (.int .i64 (-99))) hne (.int .i64 0)) hne (.int .i64 0)) hne (.int .i64 0)) hne (.int .i64 0)) _
        · exact grown_drewN (grown_set (j := k * 5 + 4) (grown_set (j := k * 5 + 3) (grown_set (j := k * 5 + 2) (grown_set (j := k * 5 + 1) (grown_set (j := k * 5) HGR.out (.int .i64 (-99))) (.int .i64 0)) (.int .i64 0)) (.int .i64 0)) (.int .i64 0)) _
      case measure => simp [intOf]; omega
    · clear hoz how hgr hzy hz
      go_wp2
      go_ret
      exact ⟨rfl, HGR.out⟩
end Go.Proofs.YtkmakliebhnhbaaGreat
