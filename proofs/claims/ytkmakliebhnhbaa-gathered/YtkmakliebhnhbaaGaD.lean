import Derived.Deep.RegionWith
import Derived.Test.YtkmakliebhnhbaaGaC
/- Gathered: gathered walked, of some numbers, kind 1. (Written by wip/gengab.py.) -/
namespace Go.Proofs.Ytkmakliebhnhbaa
open Go.RowKit Go.Shelf

set_option maxHeartbeats 8000000 in
set_option maxRecDepth 100000 in
theorem gathered_1 (l : List Int) (v : Int) (is : Bool) (S' : Nat → Prop) (la ga : Option Addr) (ln n lc gc : Nat) (w : World) (hg : RdL S' w 1 int64s (.slice ga n gc) l) (hn0 : 0 < n)
    (hq : v = sumZ l) :
    Calls Try.prog 13 #[.int .i64 1, .agg #[.int .i64 v, .bool is, .slice la ln lc], .slice ga n gc] w fun e w' => e = .returned (.bool true) ∧ Below w.heap.size w w' := by
  obtain ⟨hn, hn64⟩ := ints_len hg
  have HG := hide hg
  have HN := hide hn
  have HQ := hide hq
  have HB := hide ((Below.refl _ w).alloc (Nat.le_refl _) (.cells #[.int .i64 v, .bool is, .slice la ln lc] 44))
  have HX := hide (heap_new w (.cells #[.int .i64 v, .bool is, .slice la ln lc] 44))
  obtain ⟨c0, c1, c2⟩ := box3 HX.out
  have hni : ¬ (n : Int) = 0 := by omega
  have hnd : ((n : Int) == 0) = false := by simpa using hni
  have hnn : ¬ n = 0 := by omega
  clear hg hn hq
  go_enter Try.func13, Try.ntmps13
  go_wp2
  clear c0 c1 c2
  generalize w.alloc (.cells #[.int .i64 v, .bool is, .slice la ln lc] 44) = W1 at HB HX ⊢
  go_loopw [8, 9, 10] (fun s am i wr => ∃ k : Nat, k ≤ n ∧ i = .int .i64 k ∧ s = .int .i64 (sumZ (l.take k)) ∧ am = .bool ((l.take k).any (· == v)) ∧ wr.heap[w.heap.size]? = W1.heap[w.heap.size]? ∧ Below w.heap.size w wr) (fun _ _ i _ => n - (intOf i).toNat)
  case atStart => exact ⟨0, by omega, rfl, rfl, rfl, rfl, HB.out⟩
  case round =>
    obtain ⟨k, hkn, rfl, rfl, rfl, hx, hbl⟩ := hrel
    obtain ⟨c0, c1, c2⟩ := box3 (hx.trans HX.out)
    by_cases hlt : k < n
    · have hki : (k : Int) < n := by omega
      obtain ⟨x, hxx⟩ : ∃ x, l[k]? = some x := ⟨_, List.getElem?_eq_getElem (by have := HN.out; omega)⟩
      obtain ⟨b2, o2, rfl, m2, e2⟩ := ints_at HG.out hxx
      have p2 := (hbl.cell (p := ⟨b2, o2 + k, none⟩) m2).trans e2
      have HS := hide (sumZ_take hxx)
      have HA := hide (any_take (n := v) hxx)
      obtain ⟨s, hs⟩ : ∃ s, sumZ (l.take k) = s := ⟨_, rfl⟩
      obtain ⟨b, hbe⟩ : ∃ b, (l.take k).any (· == v) = b := ⟨_, rfl⟩
      rw [hs] at HS ⊢
      rw [hbe] at HA ⊢
      have HBL := hide hbl
      have HXX := hide hx
      clear hbl hx e2 hxx hs hbe
      cases b with
      | true =>
        go_wp2
        go_quiet (fail)
        go_wp2
        go_quiet (fail)
        go_wp2
        go_roundw
        case rel => exact ⟨k + 1, by omega, by go_num, by rw [HS.out], by rw [HA.out]; rfl, HXX.out, below_drewN HBL.out _⟩
        case measure => simp [intOf]; omega
      | false =>
        obtain ⟨y, hy⟩ : ∃ y, (x == v) = y := ⟨_, rfl⟩
        rw [hy] at HA
        cases y with
        | true =>
          have hyd : decide (x = v) = true := by simpa using hy
          go_wp2
          go_quiet (fail)
          go_wp2
          go_quiet (fail)
          go_wp2
          go_roundw
          case rel => exact ⟨k + 1, by omega, by go_num, by rw [HS.out], by rw [HA.out]; rfl, HXX.out, below_drewN HBL.out _⟩
          case measure => simp [intOf]; omega
        | false =>
          have hyd : decide (x = v) = false := by simpa using hy
          go_wp2
          go_quiet (fail)
          go_wp2
          go_quiet (fail)
          go_wp2
          go_roundw
          case rel => exact ⟨k + 1, by omega, by go_num, by rw [HS.out], by rw [HA.out]; rfl, HXX.out, below_drewN HBL.out _⟩
          case measure => simp [intOf]; omega
    · have hki : ¬ (k : Int) < n := by omega
      obtain rfl : k = n := by omega
      have HBL := hide hbl
      have hfull : l.take k = l := List.take_of_length_le (by have := HN.out; omega)
      rw [hfull]
      rw [← HQ.out]
      clear hbl hx hfull
      go_wp2
      go_ret
      exact ⟨by simp, HBL.out⟩
end Go.Proofs.Ytkmakliebhnhbaa

/- Gathered: gathered walked, of some numbers, kind 2. (Written by wip/gengab.py.) -/
namespace Go.Proofs.Ytkmakliebhnhbaa
open Go.RowKit Go.Shelf

set_option maxHeartbeats 8000000 in
set_option maxRecDepth 100000 in
theorem gathered_2 (l : List Int) (v : Int) (is : Bool) (S' : Nat → Prop) (la ga : Option Addr) (ln n lc gc : Nat) (w : World) (hg : RdL S' w 1 int64s (.slice ga n gc) l) (hn0 : 0 < n)
    (hq : (∀ x ∈ l, ¬ v < x) ∧ l.any (· == v) = true) :
    Calls Try.prog 13 #[.int .i64 2, .agg #[.int .i64 v, .bool is, .slice la ln lc], .slice ga n gc] w fun e w' => e = .returned (.bool true) ∧ Below w.heap.size w w' := by
  obtain ⟨hn, hn64⟩ := ints_len hg
  have HG := hide hg
  have HN := hide hn
  have HQ := hide hq
  have HB := hide ((Below.refl _ w).alloc (Nat.le_refl _) (.cells #[.int .i64 v, .bool is, .slice la ln lc] 44))
  have HX := hide (heap_new w (.cells #[.int .i64 v, .bool is, .slice la ln lc] 44))
  obtain ⟨c0, c1, c2⟩ := box3 HX.out
  have hni : ¬ (n : Int) = 0 := by omega
  have hnd : ((n : Int) == 0) = false := by simpa using hni
  have hnn : ¬ n = 0 := by omega
  clear hg hn hq
  go_enter Try.func13, Try.ntmps13
  go_wp2
  clear c0 c1 c2
  generalize w.alloc (.cells #[.int .i64 v, .bool is, .slice la ln lc] 44) = W1 at HB HX ⊢
  go_loopw [8, 9, 10] (fun s am i wr => ∃ k : Nat, k ≤ n ∧ i = .int .i64 k ∧ s = .int .i64 (sumZ (l.take k)) ∧ am = .bool ((l.take k).any (· == v)) ∧ wr.heap[w.heap.size]? = W1.heap[w.heap.size]? ∧ Below w.heap.size w wr) (fun _ _ i _ => n - (intOf i).toNat)
  case atStart => exact ⟨0, by omega, rfl, rfl, rfl, rfl, HB.out⟩
  case round =>
    obtain ⟨k, hkn, rfl, rfl, rfl, hx, hbl⟩ := hrel
    obtain ⟨c0, c1, c2⟩ := box3 (hx.trans HX.out)
    by_cases hlt : k < n
    · have hki : (k : Int) < n := by omega
      obtain ⟨x, hxx⟩ : ∃ x, l[k]? = some x := ⟨_, List.getElem?_eq_getElem (by have := HN.out; omega)⟩
      obtain ⟨b2, o2, rfl, m2, e2⟩ := ints_at HG.out hxx
      have p2 := (hbl.cell (p := ⟨b2, o2 + k, none⟩) m2).trans e2
      have HS := hide (sumZ_take hxx)
      have HA := hide (any_take (n := v) hxx)
      have f2 : ¬ v < x := by have := HQ.out.1 x (List.mem_of_getElem? hxx); omega
      have f3 : x ≤ v := by omega
      have f4 : decide (v < x) = false := by simpa using f2
      have f5 : ¬ x > v := by omega
      have f6 : decide (x > v) = false := by simpa using f3
      obtain ⟨s, hs⟩ : ∃ s, sumZ (l.take k) = s := ⟨_, rfl⟩
      obtain ⟨b, hbe⟩ : ∃ b, (l.take k).any (· == v) = b := ⟨_, rfl⟩
      rw [hs] at HS ⊢
      rw [hbe] at HA ⊢
      have HBL := hide hbl
      have HXX := hide hx
      clear hbl hx e2 hxx hs hbe
      cases b with
      | true =>
        go_wp2
        go_quiet (fail)
        go_wp2
        go_quiet (fail)
        go_wp2
        go_roundw
        case rel => exact ⟨k + 1, by omega, by go_num, by rw [HS.out], by rw [HA.out]; rfl, HXX.out, below_drewN HBL.out _⟩
        case measure => simp [intOf]; omega
      | false =>
        obtain ⟨y, hy⟩ : ∃ y, (x == v) = y := ⟨_, rfl⟩
        rw [hy] at HA
        cases y with
        | true =>
          have hyd : decide (x = v) = true := by simpa using hy
          go_wp2
          go_quiet (fail)
          go_wp2
          go_quiet (fail)
          go_wp2
          go_roundw
          case rel => exact ⟨k + 1, by omega, by go_num, by rw [HS.out], by rw [HA.out]; rfl, HXX.out, below_drewN HBL.out _⟩
          case measure => simp [intOf]; omega
        | false =>
          have hyd : decide (x = v) = false := by simpa using hy
          go_wp2
          go_quiet (fail)
          go_wp2
          go_quiet (fail)
          go_wp2
          go_roundw
          case rel => exact ⟨k + 1, by omega, by go_num, by rw [HS.out], by rw [HA.out]; rfl, HXX.out, below_drewN HBL.out _⟩
          case measure => simp [intOf]; omega
    · have hki : ¬ (k : Int) < n := by omega
      obtain rfl : k = n := by omega
      have HBL := hide hbl
      have hfull : l.take k = l := List.take_of_length_le (by have := HN.out; omega)
      rw [hfull]
      rw [HQ.out.2]
      clear hbl hx hfull
      go_wp2
      go_ret
      exact ⟨rfl, HBL.out⟩
end Go.Proofs.Ytkmakliebhnhbaa

/- Gathered: gathered walked, of some numbers, kind 3. (Written by wip/gengab.py.) -/
namespace Go.Proofs.Ytkmakliebhnhbaa
open Go.RowKit Go.Shelf

set_option maxHeartbeats 8000000 in
set_option maxRecDepth 100000 in
theorem gathered_3 (l : List Int) (v : Int) (is : Bool) (S' : Nat → Prop) (la ga : Option Addr) (ln n lc gc : Nat) (w : World) (hg : RdL S' w 1 int64s (.slice ga n gc) l) (hn0 : 0 < n)
    (hq : (∀ x ∈ l, ¬ x < v) ∧ l.any (· == v) = true) :
    Calls Try.prog 13 #[.int .i64 3, .agg #[.int .i64 v, .bool is, .slice la ln lc], .slice ga n gc] w fun e w' => e = .returned (.bool true) ∧ Below w.heap.size w w' := by
  obtain ⟨hn, hn64⟩ := ints_len hg
  have HG := hide hg
  have HN := hide hn
  have HQ := hide hq
  have HB := hide ((Below.refl _ w).alloc (Nat.le_refl _) (.cells #[.int .i64 v, .bool is, .slice la ln lc] 44))
  have HX := hide (heap_new w (.cells #[.int .i64 v, .bool is, .slice la ln lc] 44))
  obtain ⟨c0, c1, c2⟩ := box3 HX.out
  have hni : ¬ (n : Int) = 0 := by omega
  have hnd : ((n : Int) == 0) = false := by simpa using hni
  have hnn : ¬ n = 0 := by omega
  clear hg hn hq
  go_enter Try.func13, Try.ntmps13
  go_wp2
  clear c0 c1 c2
  generalize w.alloc (.cells #[.int .i64 v, .bool is, .slice la ln lc] 44) = W1 at HB HX ⊢
  go_loopw [8, 9, 10] (fun s am i wr => ∃ k : Nat, k ≤ n ∧ i = .int .i64 k ∧ s = .int .i64 (sumZ (l.take k)) ∧ am = .bool ((l.take k).any (· == v)) ∧ wr.heap[w.heap.size]? = W1.heap[w.heap.size]? ∧ Below w.heap.size w wr) (fun _ _ i _ => n - (intOf i).toNat)
  case atStart => exact ⟨0, by omega, rfl, rfl, rfl, rfl, HB.out⟩
  case round =>
    obtain ⟨k, hkn, rfl, rfl, rfl, hx, hbl⟩ := hrel
    obtain ⟨c0, c1, c2⟩ := box3 (hx.trans HX.out)
    by_cases hlt : k < n
    · have hki : (k : Int) < n := by omega
      obtain ⟨x, hxx⟩ : ∃ x, l[k]? = some x := ⟨_, List.getElem?_eq_getElem (by have := HN.out; omega)⟩
      obtain ⟨b2, o2, rfl, m2, e2⟩ := ints_at HG.out hxx
      have p2 := (hbl.cell (p := ⟨b2, o2 + k, none⟩) m2).trans e2
      have HS := hide (sumZ_take hxx)
      have HA := hide (any_take (n := v) hxx)
      have f2 : ¬ x < v := by have := HQ.out.1 x (List.mem_of_getElem? hxx); omega
      obtain ⟨s, hs⟩ : ∃ s, sumZ (l.take k) = s := ⟨_, rfl⟩
      obtain ⟨b, hbe⟩ : ∃ b, (l.take k).any (· == v) = b := ⟨_, rfl⟩
      rw [hs] at HS ⊢
      rw [hbe] at HA ⊢
      have HBL := hide hbl
      have HXX := hide hx
      clear hbl hx e2 hxx hs hbe
      cases b with
      | true =>
        go_wp2
        go_quiet (fail)
        go_wp2
        go_quiet (fail)
        go_wp2
        go_roundw
        case rel => exact ⟨k + 1, by omega, by go_num, by rw [HS.out], by rw [HA.out]; rfl, HXX.out, below_drewN HBL.out _⟩
        case measure => simp [intOf]; omega
      | false =>
        obtain ⟨y, hy⟩ : ∃ y, (x == v) = y := ⟨_, rfl⟩
        rw [hy] at HA
        cases y with
        | true =>
          have hyd : decide (x = v) = true := by simpa using hy
          go_wp2
          go_quiet (fail)
          go_wp2
          go_quiet (fail)
          go_wp2
          go_roundw
          case rel => exact ⟨k + 1, by omega, by go_num, by rw [HS.out], by rw [HA.out]; rfl, HXX.out, below_drewN HBL.out _⟩
          case measure => simp [intOf]; omega
        | false =>
          have hyd : decide (x = v) = false := by simpa using hy
          go_wp2
          go_quiet (fail)
          go_wp2
          go_quiet (fail)
          go_wp2
          go_roundw
          case rel => exact ⟨k + 1, by omega, by go_num, by rw [HS.out], by rw [HA.out]; rfl, HXX.out, below_drewN HBL.out _⟩
          case measure => simp [intOf]; omega
    · have hki : ¬ (k : Int) < n := by omega
      obtain rfl : k = n := by omega
      have HBL := hide hbl
      have hfull : l.take k = l := List.take_of_length_le (by have := HN.out; omega)
      rw [hfull]
      rw [HQ.out.2]
      clear hbl hx hfull
      go_wp2
      go_ret
      exact ⟨rfl, HBL.out⟩
end Go.Proofs.Ytkmakliebhnhbaa

/- Gathered: gathered walked, of some numbers, kind 5. (Written by wip/gengab.py.) -/
namespace Go.Proofs.Ytkmakliebhnhbaa
open Go.RowKit Go.Shelf

set_option maxHeartbeats 8000000 in
set_option maxRecDepth 100000 in
theorem gathered_5 (l : List Int) (v : Int) (is : Bool) (S' : Nat → Prop) (la ga : Option Addr) (ln n lc gc : Nat) (w : World) (hg : RdL S' w 1 int64s (.slice ga n gc) l) (hn0 : 0 < n)
    (hq : l[n - 1]? = some v) :
    Calls Try.prog 13 #[.int .i64 5, .agg #[.int .i64 v, .bool is, .slice la ln lc], .slice ga n gc] w fun e w' => e = .returned (.bool true) ∧ Below w.heap.size w w' := by
  obtain ⟨hn, hn64⟩ := ints_len hg
  have HG := hide hg
  have HN := hide hn
  have HQ := hide hq
  have HB := hide ((Below.refl _ w).alloc (Nat.le_refl _) (.cells #[.int .i64 v, .bool is, .slice la ln lc] 44))
  have HX := hide (heap_new w (.cells #[.int .i64 v, .bool is, .slice la ln lc] 44))
  obtain ⟨c0, c1, c2⟩ := box3 HX.out
  have hni : ¬ (n : Int) = 0 := by omega
  have hnd : ((n : Int) == 0) = false := by simpa using hni
  have hnn : ¬ n = 0 := by omega
  clear hg hn hq
  go_enter Try.func13, Try.ntmps13
  go_wp2
  clear c0 c1 c2
  generalize w.alloc (.cells #[.int .i64 v, .bool is, .slice la ln lc] 44) = W1 at HB HX ⊢
  go_loopw [8, 9, 10] (fun s am i wr => ∃ k : Nat, k ≤ n ∧ i = .int .i64 k ∧ s = .int .i64 (sumZ (l.take k)) ∧ am = .bool ((l.take k).any (· == v)) ∧ wr.heap[w.heap.size]? = W1.heap[w.heap.size]? ∧ Below w.heap.size w wr) (fun _ _ i _ => n - (intOf i).toNat)
  case atStart => exact ⟨0, by omega, rfl, rfl, rfl, rfl, HB.out⟩
  case round =>
    obtain ⟨k, hkn, rfl, rfl, rfl, hx, hbl⟩ := hrel
    obtain ⟨c0, c1, c2⟩ := box3 (hx.trans HX.out)
    by_cases hlt : k < n
    · have hki : (k : Int) < n := by omega
      obtain ⟨x, hxx⟩ : ∃ x, l[k]? = some x := ⟨_, List.getElem?_eq_getElem (by have := HN.out; omega)⟩
      obtain ⟨b2, o2, rfl, m2, e2⟩ := ints_at HG.out hxx
      have p2 := (hbl.cell (p := ⟨b2, o2 + k, none⟩) m2).trans e2
      have HS := hide (sumZ_take hxx)
      have HA := hide (any_take (n := v) hxx)
      obtain ⟨s, hs⟩ : ∃ s, sumZ (l.take k) = s := ⟨_, rfl⟩
      obtain ⟨b, hbe⟩ : ∃ b, (l.take k).any (· == v) = b := ⟨_, rfl⟩
      rw [hs] at HS ⊢
      rw [hbe] at HA ⊢
      have HBL := hide hbl
      have HXX := hide hx
      clear hbl hx e2 hxx hs hbe
      cases b with
      | true =>
        go_wp2
        go_quiet (fail)
        go_wp2
        go_quiet (fail)
        go_wp2
        go_roundw
        case rel => exact ⟨k + 1, by omega, by go_num, by rw [HS.out], by rw [HA.out]; rfl, HXX.out, below_drewN HBL.out _⟩
        case measure => simp [intOf]; omega
      | false =>
        obtain ⟨y, hy⟩ : ∃ y, (x == v) = y := ⟨_, rfl⟩
        rw [hy] at HA
        cases y with
        | true =>
          have hyd : decide (x = v) = true := by simpa using hy
          go_wp2
          go_quiet (fail)
          go_wp2
          go_quiet (fail)
          go_wp2
          go_roundw
          case rel => exact ⟨k + 1, by omega, by go_num, by rw [HS.out], by rw [HA.out]; rfl, HXX.out, below_drewN HBL.out _⟩
          case measure => simp [intOf]; omega
        | false =>
          have hyd : decide (x = v) = false := by simpa using hy
          go_wp2
          go_quiet (fail)
          go_wp2
          go_quiet (fail)
          go_wp2
          go_roundw
          case rel => exact ⟨k + 1, by omega, by go_num, by rw [HS.out], by rw [HA.out]; rfl, HXX.out, below_drewN HBL.out _⟩
          case measure => simp [intOf]; omega
    · have hki : ¬ (k : Int) < n := by omega
      obtain rfl : k = n := by omega
      have HBL := hide hbl
      have hfull : l.take k = l := List.take_of_length_le (by have := HN.out; omega)
      rw [hfull]
      have hlast := HQ.out
      obtain ⟨b2, o2, rfl, m2, e2⟩ := ints_at HG.out hlast
      have p2 := (hbl.cell (p := ⟨b2, o2 + (k - 1), none⟩) m2).trans e2
      have hk1 : ((k : Int) - 1).toNat = k - 1 := by omega
      have hvv : (v == v) = true := by simp
      clear hbl hx hfull e2 hlast
      go_wp2
      go_quiet (fail)
      go_wp2
      go_ret
      exact ⟨by simp, below_drewN HBL.out _⟩
end Go.Proofs.Ytkmakliebhnhbaa

/- Gathered: gathered of what a reducer was given. -/
namespace Go.Proofs.Ytkmakliebhnhbaa
open Go.RowKit Go.Shelf

theorem gathered_fz (kind : Int) (hk : 1 ≤ kind ∧ kind ≤ 5) (G : List Int) (S S' : Nat → Prop) (la ga : Option Addr) (lc gc : Nat) (w : World) (hl : RdL S w 1 int64s (.slice la (fz kind G).l.length lc) (fz kind G).l) (hg : RdL S' w 1 int64s (.slice ga G.length gc) G) :
    Calls Try.prog 13 #[.int .i64 kind, .agg #[.int .i64 (fz kind G).n, .bool (fz kind G).is, .slice la (fz kind G).l.length lc], .slice ga G.length gc] w fun e w' => e = .returned (.bool true) ∧ Below w.heap.size w w' := by
  by_cases h4 : kind = 4
  · subst h4
    obtain ⟨e1, e2⟩ := fz_list G
    rw [e1] at hl ⊢
    rw [e2]
    exact gathered_list G _ S S' la ga _ lc gc w hl hg
  have hk' : kind = 1 ∨ kind = 2 ∨ kind = 3 ∨ kind = 5 := by omega
  by_cases h0 : G.length = 0
  · obtain rfl := List.eq_nil_of_length_eq_zero h0
    exact gathered_none kind hk' _ la ga _ lc gc w
  have hpos : 0 < G.length := by omega
  have hany : ∀ v, v ∈ G → G.any (· == v) = true := fun v hv => List.any_eq_true.2 ⟨v, hv, by simp⟩
  rcases hk' with rfl | rfl | rfl | rfl
  · exact gathered_1 G _ _ S' la ga _ _ lc gc w hg hpos (fz_sum G)
  · exact gathered_2 G _ _ S' la ga _ _ lc gc w hg hpos ⟨(fz_most G).1, hany _ ((fz_most G).2 hpos)⟩
  · exact gathered_3 G _ _ S' la ga _ _ lc gc w hg hpos ⟨(fz_least G).1, hany _ ((fz_least G).2 hpos)⟩
  · refine gathered_5 G _ _ S' la ga _ _ lc gc w hg hpos ?_
    obtain ⟨l', n, rfl⟩ : ∃ l' n, G = l' ++ [n] := ⟨_, _, (List.dropLast_concat_getLast (List.ne_nil_of_length_pos hpos)).symm⟩
    rw [fz_last]
    simp

theorem given_take {T : List Ev} {j : Nat} {e : Ev} (h : T[j]? = some e) (r : Nat) : givenZ (T.take (j + 1)) r = givenZ (T.take j) r ++ (if e.r = (r : Int) then [e.n] else []) := by
  rw [take_succ_of h]
  unfold givenZ
  rw [List.filter_append, List.map_append]
  by_cases hr : e.r = (r : Int)
  · rw [if_pos hr]
    simp [hr]
  · rw [if_neg hr]
    have : (e.r == (r : Int)) = false := by simpa using hr
    simp [this]
theorem given_len (T : List Ev) (r : Nat) : (givenZ T r).length ≤ T.length := by
  unfold givenZ
  rw [List.length_map]
  exact List.length_filter_le _ _

/-- A plan's trace: its reducers are none below 0. -/
theorem plTrace {ls : Nat → List Ins} {ks : Nat → Int} (hw : LsWf ls) (seed x : Int) : (∀ e ∈ traceZ (codeN ls) seed x, 0 ≤ e.r) ∧ (traceZ (codeN ls) seed x).length ≤ 100000000 := by
  have hck : (check (codeN ls) (kindsN ks)).1 = 0 := by rw [codeN_check ks hw]
  obtain ⟨c1, c2, c3, c4, c5⟩ := check_ok hck (codeN_wf hw)
  refine ⟨fun e he => ?_, trace_len c2 c5 seed x⟩
  obtain ⟨q, hq, _⟩ := ser_r c4 _ _ _ _ e he
  omega

set_option maxHeartbeats 8000000 in
set_option maxRecDepth 100000 in
theorem gathered_walk (sa : Nat → Option Addr) (sn sc : Nat → Nat) (ks : Nat → Int) (ls : Nat → List Ins) (S : Nat → Prop) (seed x : Int) (w : World) (hw : LsWf ls) (hk : ∀ r, r < 4 → i64 (ks r)) (hR : PlRd S w sa sn sc ls) (hs : u64 seed) (hx : i64 x) :
    Calls Try.prog 3 #[.agg #[.slice (sa 0) (sn 0) (sc 0), .slice (sa 1) (sn 1) (sc 1), .slice (sa 2) (sn 2) (sc 2), .slice (sa 3) (sn 3) (sc 3), .int .i64 (ks 0), .int .i64 (ks 1), .int .i64 (ks 2), .int .i64 (ks 3)], .int .u64 seed, .int .i64 x] w fun e w' => e = .returned (.bool true) ∧ Below w.heap.size w w' := by
  have hn := World.alloc_heap_new w (.cells #[.slice (sa 0) (sn 0) (sc 0), .slice (sa 1) (sn 1) (sc 1), .slice (sa 2) (sn 2) (sc 2), .slice (sa 3) (sn 3) (sc 3), .int .i64 (ks 0), .int .i64 (ks 1), .int .i64 (ks 2), .int .i64 (ks 3)] 26)
  have hb := (Below.refl _ w).alloc (Nat.le_refl _) (.cells #[.slice (sa 0) (sn 0) (sc 0), .slice (sa 1) (sn 1) (sc 1), .slice (sa 2) (sn 2) (sc 2), .slice (sa 3) (sn 3) (sc 3), .int .i64 (ks 0), .int .i64 (ks 1), .int .i64 (ks 2), .int .i64 (ks 3)] 26)
  obtain ⟨q0, q1, q2, q3, q4, q5, q6, q7⟩ := box8 hn
  have HNN := hide hn
  have HB := hide hb
  have HM := hide (fun W (hb : Below w.heap.size w W) => made_calls sa sn sc ks ls S W hw hk (hR.below hb))
  have HK := hide (fun W hb => kindsK sa sn sc ks w W hk hb)
  have HSE := hide (fun B pb W hP => plSerial ls ks B pb seed x W hw hs hx hP)
  obtain ⟨hT0, hTn⟩ := plTrace (ks := ks) hw seed x
  obtain ⟨f, hfe⟩ : ∃ f, framesC (codeN ls) = f := ⟨_, rfl⟩
  rw [hfe] at HSE
  obtain ⟨T, hT⟩ : ∃ T, traceZ (codeN ls) seed x = T := ⟨_, rfl⟩
  rw [hT] at HSE hT0 hTn
  obtain ⟨n, hNe⟩ : ∃ n, T.length = n := ⟨_, rfl⟩
  rw [hNe] at HSE hTn
  have HN := hide hNe
  have HT0 := hide hT0
  clear hw hk hR hs hx hn hb hfe hT hNe hT0
  go_enter Try.func3, Try.ntmps3
  go_wp2_with (first
    | (go_at_call 10
       refine (HM.out _ HB.out).mono ?_
       rintro e w1 ⟨pb, rfl, hP1, hb1⟩
       obtain ⟨p0, p1, p2, p3, p4, p5, p6, p7⟩ := box8 ((hb1.block _ (by simp)).trans HNN.out)
       have hbA := Below.up HB.out hb1 HB.out.size)
    | (go_at_call 11
       refine (HK.out _ hbA).mono ?_
       rintro e wk ⟨ka, kc, rfl, hK1, hbk⟩
       have hP1' := PlP.below hP1 hbk
       have hbA' := Below.up hbA hbk hbA.size)
    | (go_at_call 12
       refine (HSE.out _ _ _ hP1').mono ?_
       rintro e w2 ⟨la, lc, ta, tc, rfl, hV2, hT2, hb2⟩))
  obtain ⟨W2, hW2⟩ : ∃ W2, w2.alloc (.cells #[.slice la 4 lc, .slice ta n tc, .int .i64 0, .int .i64 0, .int .i64 0, .int .i64 (f : Int)] 38) = W2 := ⟨_, rfl⟩
  have hnb : Below w2.heap.size w2 W2 := by rw [← hW2]; exact new_below w2 _
  have HY := hide (show W2.heap[w2.heap.size]? = some (.cells #[.slice la 4 lc, .slice ta n tc, .int .i64 0, .int .i64 0, .int .i64 0, .int .i64 (f : Int)] 38 (0, 0)) by rw [← hW2]; exact heap_new w2 _)
  have HV := hide (hV2.below hnb)
  have HT := hide (hT2.below hnb (fun x _ => List.cons_ne_nil _ _))
  have HKK := hide ((hK1.below hb2 (fun x _ => by simp [int64s])).below hnb (fun x _ => by simp [int64s]))
  have HBW := hide (Below.up (Below.up hbA' hb2 hbA'.size) hnb (Nat.le_trans hbA'.size hb2.size))
  have hs2 : w2.heap.size < W2.heap.size := (Array.getElem?_eq_some_iff.1 HY.out).1
  rw [hW2]
  clear hW2 hnb hV2 hT2 hK1 hb2 hbA' hbk hP1' hbA hP1 hb1 HM HK HSE p0 p1 p2 p3 p4 p5 p6 p7 q0 q1 q2 q3 q4 q5 q6 q7 HB HNN
  obtain ⟨i0, hi0, hz0, hz1, hz2⟩ := info_parts Try.infoI64
  go_loopw [11] (fun i wr => ∃ r : Nat, r ≤ 4 ∧ i = .int .i64 r ∧ Below W2.heap.size W2 wr) (fun i _ => 4 - (intOf i).toNat)
  case atStart => exact ⟨0, by omega, rfl, Below.refl _ _⟩
  case round =>
    obtain ⟨r, hr, rfl, hbl⟩ := hrel
    obtain ⟨wo, hwo⟩ : ∃ wo, wo = wr := ⟨_, rfl⟩
    subst hwo
    by_cases hlt : r < 4
    · have hri : (r : Int) < 4 := by omega
      have HBL := hide hbl
      clear hbl
      go_wp2
      go_loopw [12, 13] (fun gv i wr => ∃ j : Nat, j ≤ n ∧ i = .int .i64 j ∧ Below wo.heap.size wo wr ∧ wr.ownsRow wo.heap.size 2 1 gv (givenZ (T.take j) r).length (flat int64s (givenZ (T.take j) r))) (fun _ i _ => n - (intOf i).toNat)
      case atStart => exact ⟨0, by omega, rfl, Below.refl _ _, World.ownsRow_nil _ _ _ _⟩
      case round =>
        obtain ⟨j, hj, rfl, hbx, hown⟩ := hrel
        have hbz := Below.up HBL.out hbx HBL.out.size
        have c1 := cell_blk (i := 1) ((hbz.block _ hs2).trans HY.out) rfl
        have c0 := cell_blk (i := 0) ((hbz.block _ hs2).trans HY.out) rfl
        obtain ⟨ga, gc, rfl⟩ := own_form hown
        have hsz : wo.heap.size ≤ wr.heap.size := hbx.size
        by_cases hjn : j < n
        · have hji : (j : Int) < n := by omega
          obtain ⟨e, he⟩ : ∃ e, T[j]? = some e := ⟨_, List.getElem?_eq_getElem (by have := HN.out; omega)⟩
          obtain ⟨b3, f3, rfl, _, hc⟩ := HT.out.at he
          have hl3 := block_lt_of_cell (hc 0 _ rfl)
          simp only at hl3
          have p1 := (hbz.cell (p := ⟨b3, f3 + j * 3 + 1, none⟩) hl3).trans (hc 1 _ rfl)
          have p2 := (hbz.cell (p := ⟨b3, f3 + j * 3 + 2, none⟩) hl3).trans (hc 2 _ rfl)
          have HGT := hide (given_take he r)
          have hgl := given_len (T.take j) r
          have hglj : (givenZ (T.take j) r).length ≤ 100000000 := by
            have : (T.take j).length ≤ j := by simp; omega
            omega
          have HBX := hide hbx
          have HOWN := hide hown
          obtain ⟨G, hG⟩ : ∃ G, givenZ (T.take j) r = G := ⟨_, rfl⟩
          rw [hG] at HGT HOWN hglj ⊢
          obtain ⟨gl, hgle⟩ : ∃ gl, G.length = gl := ⟨_, rfl⟩
          rw [hgle] at HOWN hglj ⊢
          have HGLE := hide hgle
          obtain ⟨y0, y1, y2⟩ := e
          simp only at p1 p2 HGT
          clear hbx hown hbz hc he hgl hG hgle
          by_cases hre : y1 = (r : Int)
          · rw [if_pos hre] at HGT
            have hd : (y1 == (r : Int)) = true := by simpa using hre
            have hd2 : decide (y1 = (r : Int)) = true := by simpa using hre
            clear hre
            go_wp2_with (at_builtin; refine wpList_app2 _ rfl _ _ 40 rfl wo.heap.size 2 i0 _ 1 8 Try.underlying40 hi0 hz0 hz1 hz2 rfl (by decide) _ _ _ rfl (HOWN.out.alloc _) _ 1 [.int .i64 y2] rfl ?hsrc (by simp [Value.oneCell']) ?h63 ?hbytes ?hbase ?_)
            case hsrc => exact cells1 _ _ _ _ rfl
            case h63 => unfold maxLen; omega
            case hbytes => omega
            case hbase => simp; omega
            intro a7 c7 w7 ho7 hg7 _ _ _
            have hb7 : Below wo.heap.size wo w7 := (HBX.out.alloc hsz _).grown hg7 (by simp; omega) (fun q hq => (HOWN.out.lt q hq).1)
            have HO7 := hide ho7
            have HB7 := hide hb7
            clear ho7 hg7 hb7
            go_wp2
            go_roundw
            case rel =>
              refine ⟨j + 1, by omega, by go_num, HB7.out, ?_⟩
              rw [HGT.out, flat_append, List.length_append, HGLE.out]
              exact HO7.out
            case measure => simp [intOf]; omega
          · rw [if_neg hre, List.append_nil] at HGT
            have hd : (y1 == (r : Int)) = false := by simpa using hre
            have hd2 : decide (y1 = (r : Int)) = false := by simpa using hre
            go_wp2
            go_roundw
            case rel =>
              refine ⟨j + 1, by omega, by go_num, HBX.out, ?_⟩
              rw [HGT.out, HGLE.out]
              exact HOWN.out
            case measure => simp [intOf]; omega
        · obtain rfl : j = n := by omega
          have hji : ¬ (j : Int) < j := by omega
          have hfull : T.take j = T := List.take_of_length_le (by have := HN.out; omega)
          rw [hfull] at hown ⊢
          have hkr := kindsN_at ks hlt
          have hkm := kindsN_ok ks _ (List.mem_of_getElem? hkr)
          obtain ⟨kind, hkd⟩ : ∃ kind, 1 + pickN (ks r) 5 = kind := ⟨_, rfl⟩
          rw [hkd] at hkr hkm
          obtain ⟨kb, ko, rfl, kl, ke⟩ := ints_at HKK.out hkr
          have k0 := (hbz.cell (p := ⟨kb, ko + r, none⟩) kl).trans ke
          have hvz := valsZ_fz HT0.out hkr
          obtain ⟨_, _, hve, _, _, hvv⟩ := HV.out
          obtain ⟨vb, vo, lv, hva, v0, v1, v2, hlv⟩ := hvv r hlt
          injection hve with e1 e2 e3
          rw [← e1] at hva
          rw [hvz] at v0 v1 hlv
          obtain ⟨va, vc, rfl, _, _⟩ := hlv.form
          have hvl := block_lt_of_cell v0
          simp only at hvl
          have p0 := (hbz.cell (p := ⟨vb, vo + r * 3, none⟩) hvl).trans v0
          have p1 := (hbz.cell (p := ⟨vb, vo + r * 3 + 1, none⟩) hvl).trans v1
          have p2 := (hbz.cell (p := ⟨vb, vo + r * 3 + 2, none⟩) hvl).trans v2
          have hlv' := (hlv.below HBL.out (fun x _ => by simp [int64s])).below hbx (fun x _ => by simp [int64s])
          obtain ⟨G, hG⟩ : ∃ G, givenZ T r = G := ⟨_, rfl⟩
          rw [hG] at hown p0 p1 p2 hlv' ⊢
          have hgr := own_rd (S := fun _ => True) hown int64s_len (fun _ _ => trivial)
          have HGA := hide (fun W (hb : Below wr.heap.size wr W) => gathered_fz kind hkm G _ _ va ga vc gc W (hlv'.below hb (fun x _ => by simp [int64s])) (hgr.below hb (fun x _ => by simp [int64s])))
          have hvis := fz_is kind G
          have hnl : kind ≠ 4 → (fz kind G).l.length = 0 := fun h => by rw [fz_none h G]; rfl
          have hgl : G.length ≤ 100000000 := by
            have := given_len T r
            rw [hG] at this
            have := HN.out
            omega
          obtain ⟨vn, hvn⟩ : ∃ vn, (fz kind G).n = vn := ⟨_, rfl⟩
          obtain ⟨vis, hvise⟩ : ∃ vis, (fz kind G).is = vis := ⟨_, rfl⟩
          obtain ⟨ln, hln⟩ : ∃ ln, (fz kind G).l.length = ln := ⟨_, rfl⟩
          obtain ⟨gl, hgle⟩ : ∃ gl, G.length = gl := ⟨_, rfl⟩
          rw [hvn] at HGA p0
          rw [hvise] at HGA p1 hvis
          rw [hln] at HGA p2 hnl
          rw [hgle] at HGA hvis hgl ⊢
          have k1 : ∀ o, (wr.alloc o).cell? ⟨kb, ko + r, none⟩ = some (.int .i64 kind) := fun o => alloc_cell k0
          have hbo : Hid (∀ o W, Below wr.heap.size (wr.alloc o).drew W → Below W2.heap.size W2 W) := fun o W h => by
            refine Below.up hbz (Below.trans ?_ h) hbz.size
            exact ⟨rfl, rfl, rfl, by show wr.heap.size ≤ (wr.alloc o).heap.size; simp, fun b hb => Below.heap_alloc _ _ _ hb⟩
          have hbd : Hid (∀ o, Below wr.heap.size wr (wr.alloc o).drew) := fun o => ⟨rfl, rfl, rfl, by show wr.heap.size ≤ (wr.alloc o).heap.size; simp, fun b hb => Below.heap_alloc _ _ _ hb⟩
          subst hva
          clear hown hbx hbz hkr hkd ke hvz hvv v0 v1 v2 hlv hvl hlv' hgr hvn hvise hln hgle hG e1 e2 e3 hfull hkm hi0 hz0 hz1 hz2
          cases vis with
          | true =>
            have hgp : 0 < gl := by simpa using hvis.symm
            have hgi : (0 : Int) < gl := by omega
            clear hvis
            by_cases h4 : kind = 4
            · subst h4
              clear hnl
              go_wp2
              go_region_with
                (go_at_call 13
                 refine (HGA.out _ (hbd.out _)).mono ?_
                 rintro e w9 ⟨rfl, hb9⟩
                 have HB9 := hide (hbo.out _ _ (hb9.mono (hbd.out _).size))
                 clear hb9)
              all_goals
                go_wp2
                go_roundw
                case rel => exact ⟨r + 1, by omega, by go_num, HB9.out⟩
                case measure => simp [intOf]; omega
            · obtain rfl : ln = 0 := hnl h4
              have h4b : (kind == 4) = false := by simpa using h4
              have h4c : decide (kind = 4) = false := by simpa using h4
              have h4d : (kind != 4) = true := by simpa using h4
              clear hnl
              go_wp2
              go_region_with
                (go_at_call 13
                 refine (HGA.out _ (hbd.out _)).mono ?_
                 rintro e w9 ⟨rfl, hb9⟩
                 have HB9 := hide (hbo.out _ _ (hb9.mono (hbd.out _).size))
                 clear hb9)
              all_goals
                go_wp2
                go_roundw
                case rel => exact ⟨r + 1, by omega, by go_num, HB9.out⟩
                case measure => simp [intOf]; omega
          | false =>
            obtain rfl : gl = 0 := by simpa using hvis.symm
            clear hvis
            by_cases h4 : kind = 4
            · subst h4
              clear hnl
              go_wp2
              go_region_with
                (go_at_call 13
                 refine (HGA.out _ (hbd.out _)).mono ?_
                 rintro e w9 ⟨rfl, hb9⟩
                 have HB9 := hide (hbo.out _ _ (hb9.mono (hbd.out _).size))
                 clear hb9)
              all_goals
                go_wp2
                go_roundw
                case rel => exact ⟨r + 1, by omega, by go_num, HB9.out⟩
                case measure => simp [intOf]; omega
            · obtain rfl : ln = 0 := hnl h4
              have h4b : (kind == 4) = false := by simpa using h4
              have h4c : decide (kind = 4) = false := by simpa using h4
              have h4d : (kind != 4) = true := by simpa using h4
              clear hnl
              go_wp2
              go_region_with
                (go_at_call 13
                 refine (HGA.out _ (hbd.out _)).mono ?_
                 rintro e w9 ⟨rfl, hb9⟩
                 have HB9 := hide (hbo.out _ _ (hb9.mono (hbd.out _).size))
                 clear hb9)
              all_goals
                go_wp2
                go_roundw
                case rel => exact ⟨r + 1, by omega, by go_num, HB9.out⟩
                case measure => simp [intOf]; omega
    · have hri : ¬ (r : Int) < 4 := by omega
      have HBX := hide (Below.up HBW.out hbl HBW.out.size)
      clear hbl
      go_wp2
      go_ret
      exact ⟨rfl, HBX.out⟩
end Go.Proofs.Ytkmakliebhnhbaa
