import Derived.Deep.RegionHeld3
import Derived.Deep.DrawnRows
import Derived.Test.YtkmakliebhnhbaaGreatRows
import Derived.Test.YtkmakliebhnhbaaGreatFlat
namespace Go.Proofs.YtkmakliebhnhbaaGreat
open Go.RowKit

theorem Tryz.infoInt' : (Tryz.prog.info? 3).map (fun i => (i.zero, i.size, i.bytes)) = some (some (.int .i64 0), 1, 8) := by kernel_rfl
theorem Tryz.infoIns : (Tryz.prog.info? 45).map (fun i => (i.zero, i.size, i.bytes)) = some (some (.agg #[.int .i64 0, .int .i64 0, .int .i64 0, .int .i64 0, .int .i64 0]), 5, 40) := by kernel_rfl
theorem Tryz.sizeInt : (Tryz.prog.info? 3).map (·.size) = some 1 := by kernel_rfl
theorem Tryz.sizeIns : (Tryz.prog.info? 45).map (·.size) = some 5 := by kernel_rfl

theorem int64s_len (x : Int) : (int64s x).length = 1 := rfl
theorem insvals_len (x : Ins) : x.vals.length = 5 := rfl
theorem flat_int64s_one (l : List Int) : ∀ u ∈ flat int64s l, u.oneCell' = true := by
  intro u hu
  obtain ⟨e, _, he⟩ := List.mem_flatMap.1 hu
  simp only [int64s, List.mem_cons, List.not_mem_nil, or_false] at he
  subst he; rfl
theorem flat_ins_one (l : List Ins) : ∀ u ∈ flat Ins.vals l, u.oneCell' = true := by
  intro u hu
  obtain ⟨e, _, he⟩ := List.mem_flatMap.1 hu
  simp only [Ins.vals, List.mem_cons, List.not_mem_nil, or_false] at he
  rcases he with rfl | rfl | rfl | rfl | rfl <;> rfl

/-- The list with k marks behind it. -/
def mk77 (xs : List Int) (k : Nat) : List Int := xs ++ List.replicate k 77 ++ List.replicate (3 - k) 0

theorem mk77_start (xs : List Int) : flat int64s xs ++ (madeCells #[Value.int .i64 0] (xs.length + 3)).toList.drop (flat int64s xs).length = flat int64s (mk77 xs 0) := by
  rw [toList_madeCells_one, flat_len int64s_len]
  simp [mk77, flat, List.drop_replicate, int64s]

theorem flat1_set (l : List Int) (j : Nat) (z : Int) : (flat int64s l).set j (.int .i64 z) = flat int64s (l.set j z) := by
  have e : ∀ l : List Int, flat int64s l = l.map (Value.int .i64) := fun l => by induction l with
    | nil => rfl
    | cons x t ih => simp only [flat, List.flatMap_cons, List.map_cons] at *; rw [ih]; rfl
  rw [e, e, List.map_set]

theorem mk77_step (xs : List Int) (k : Nat) (hk : k < 3) : (mk77 xs k).set (xs.length + k) 77 = mk77 xs (k + 1) := by
  unfold mk77
  rw [List.append_assoc, List.append_assoc, List.set_append_right _ _ (by omega), show xs.length + k - xs.length = k by omega]
  match k, hk with
  | 0, _ => rfl
  | 1, _ => rfl
  | 2, _ => rfl

def i77 : Ins := ⟨77, 0, 0, 0, 0⟩
def i00 : Ins := ⟨0, 0, 0, 0, 0⟩
def mkc (xs : List Ins) (k : Nat) : List Ins := xs ++ List.replicate k i77 ++ List.replicate (3 - k) i00

theorem made5 (m : Nat) : (madeCells #[Value.int .i64 0, .int .i64 0, .int .i64 0, .int .i64 0, .int .i64 0] m).toList = List.replicate m (.int .i64 0) := by
  apply List.ext_getElem
  · simp [madeCells]
  · intro j h1 h2
    simp only [madeCells, Array.toList_map, List.getElem_map, Array.getElem_toList, Array.getElem_range, List.getElem_replicate]
    have : j % 5 < 5 := Nat.mod_lt _ (by omega)
    match hq : j % 5, this with
    | 0, _ => simp
    | 1, _ => simp
    | 2, _ => simp
    | 3, _ => simp
    | 4, _ => simp

theorem mkc_start (xs : List Ins) : flat Ins.vals xs ++ (madeCells #[Value.int .i64 0, .int .i64 0, .int .i64 0, .int .i64 0, .int .i64 0] ((xs.length + 3) * 5)).toList.drop (flat Ins.vals xs).length = flat Ins.vals (mkc xs 0) := by
  rw [made5, flat_len insvals_len, List.drop_replicate, show (xs.length + 3) * 5 - xs.length * 5 = 15 by omega]
  simp only [mkc, List.replicate_zero, List.append_nil, flat_append]
  rfl

theorem flat5_set : ∀ (l : List Ins) (j : Nat) (x : Ins), j < l.length → ((((((flat Ins.vals l).set (j * 5) (.int .i64 x.op)).set (j * 5 + 1) (.int .i64 x.f)).set (j * 5 + 2) (.int .i64 x.r)).set (j * 5 + 3) (.int .i64 x.k)).set (j * 5 + 4) (.int .i64 x.l)) = flat Ins.vals (l.set j x)
  | [], j, x, h => by simp at h
  | y :: t, 0, x, _ => by simp [flat, Ins.vals]
  | y :: t, j + 1, x, h => by
    have ih := flat5_set t j x (by simpa using h)
    have e : ∀ c u (l : List Value), (y.vals ++ l).set ((j + 1) * 5 + c) u = y.vals ++ l.set (j * 5 + c) u := fun c u l => by
      rw [List.set_append_right _ _ (by rw [insvals_len]; omega), insvals_len, show (j + 1) * 5 + c - 5 = j * 5 + c by omega]
    have e0 := fun u l => e 0 u l
    simp only [Nat.add_zero] at e0
    show ((((((y.vals ++ flat Ins.vals t).set ((j + 1) * 5) _).set ((j + 1) * 5 + 1) _).set ((j + 1) * 5 + 2) _).set ((j + 1) * 5 + 3) _).set ((j + 1) * 5 + 4) _) = y.vals ++ flat Ins.vals (t.set j x)
    rw [e0, e, e, e, e, ih]

theorem mkc_step (xs : List Ins) (k : Nat) (hk : k < 3) : (mkc xs k).set (xs.length + k) i77 = mkc xs (k + 1) := by
  unfold mkc
  rw [List.append_assoc, List.append_assoc, List.set_append_right _ _ (by omega), show xs.length + k - xs.length = k by omega]
  match k, hk with
  | 0, _ => rfl
  | 1, _ => rfl
  | 2, _ => rfl
theorem mkc_len (xs : List Ins) (k : Nat) (hk : k ≤ 3) : (mkc xs k).length = xs.length + 3 := by simp [mkc]; omega
theorem mk77_len (xs : List Int) (k : Nat) (hk : k ≤ 3) : (mk77 xs k).length = xs.length + 3 := by simp [mk77]; omega

theorem own_get5 {W : World} {base g n cap : Nat} {e : TypeId} {l : List Ins} (h : W.ownsRow base e 5 (.slice (some ⟨g, 0, none⟩) n cap) n (flat Ins.vals l)) (hl : l.length = n) {q : Nat} {x : Ins} (hq : l[q]? = some x) :
    W.cell? ⟨g, q * 5, none⟩ = some (.int .i64 x.op) ∧ W.cell? ⟨g, q * 5 + 1, none⟩ = some (.int .i64 x.f) ∧ W.cell? ⟨g, q * 5 + 2, none⟩ = some (.int .i64 x.r) ∧ W.cell? ⟨g, q * 5 + 3, none⟩ = some (.int .i64 x.k) ∧ W.cell? ⟨g, q * 5 + 4, none⟩ = some (.int .i64 x.l) := by
  have hlt := (List.getElem?_eq_some_iff.1 hq).1
  have key : ∀ j, j < 5 → W.cell? ⟨g, q * 5 + j, none⟩ = x.vals[j]? := fun j hj => by
    rw [h.cellAt _ (by omega), flat_get insvals_len l hq hj]
  exact ⟨by simpa [Ins.vals] using key 0 (by omega), key 1 (by omega), key 2 (by omega), key 3 (by omega), key 4 (by omega)⟩

theorem own_set5 {W : World} {base g n cap : Nat} {e : TypeId} {l : List Ins} (h : W.ownsRow base e 5 (.slice (some ⟨g, 0, none⟩) n cap) n (flat Ins.vals l)) {q : Nat} (x : Ins) (hq : q < l.length) :
    (((((W.setCell ⟨g, q * 5, none⟩ (.int .i64 x.op)).setCell ⟨g, q * 5 + 1, none⟩ (.int .i64 x.f)).setCell ⟨g, q * 5 + 2, none⟩ (.int .i64 x.r)).setCell ⟨g, q * 5 + 3, none⟩ (.int .i64 x.k)).setCell ⟨g, q * 5 + 4, none⟩ (.int .i64 x.l)).ownsRow base e 5 (.slice (some ⟨g, 0, none⟩) n cap) n (flat Ins.vals (l.set q x)) := by
  rw [← flat5_set l q x hq]
  exact (((((h.stored _ _).1.stored _ _).1.stored _ _).1.stored _ _).1.stored _ _).1

set_option maxRecDepth 100000 in
set_option maxHeartbeats 400000 in
theorem numbers_any (xs : List Int) (S : Nat → Prop) (v : Value) (w : World) (hR : RdL S w 1 int64s v xs) (hn : xs.length ≤ 2000000) :
    Calls Tryz.prog 14 #[v] w fun e w' => e = .returned (.slice (some ⟨w.heap.size, 0, none⟩) (xs.length + 3) (xs.length + 3)) ∧
      w'.ownsRow w.heap.size 3 1 (.slice (some ⟨w.heap.size, 0, none⟩) (xs.length + 3) (xs.length + 3)) (xs.length + 3) (flat int64s (mk77 xs 3)) ∧ Below w.heap.size w w' := by
  have HSRC := hide (rd_src hR int64s_len (by omega))
  obtain ⟨a, cap, rfl, hc, hm⟩ := hR.form
  obtain ⟨i0, hii, hz0, hz1, hz2⟩ := info_parts Tryz.infoInt'
  obtain ⟨n, hN⟩ : ∃ n, xs.length = n := ⟨_, rfl⟩
  have HN := hide hN
  rw [hN] at hn hc HSRC ⊢
  clear hR hN
  unfold maxLen at hm
  obtain ⟨news, hnews⟩ : ∃ news, flat int64s xs = news := ⟨_, rfl⟩
  rw [hnews] at HSRC
  have HNW := hide hnews
  have HON : Hid (∀ u ∈ news, u.oneCell' = true) := by unfold Hid; rw [← hnews]; exact flat_int64s_one xs
  clear hnews
  go_enter Tryz.func14, Tryz.ntmps14
  go_wp2_with (at_make; refine wpList_make_full _ rfl _ _ 30 rfl w.heap.size 3 i0 _ 1 Tryz.underlying30 hii hz0 hz1 _ _ _ _ (n + 3) rfl rfl (by simp) (by simp) (by rw [hz2]; omega) (by unfold maxLen; omega) (Nat.le_refl _) ?_)
  intro w1 hown hgrow
  obtain ⟨g, hg⟩ : ∃ g, g = w.heap.size := ⟨_, rfl⟩
  have HB1 := hide ((Below.refl _ w).grown hgrow (Nat.le_refl _) (by simp))
  have HSRC1 : Hid (AppSrc w1 1 (.slice a n cap) n news) := by
    rcases HSRC.out with h | ⟨ad, c, e, h1, h2⟩
    · exact .inl h
    · exact .inr ⟨ad, c, e, h1, fun j u hu => hgrow.cell (h2 j u hu) (by simp)⟩
  have HOW := hide hown
  rw [← hg] at HOW ⊢
  have HG := hide hg
  clear hown hgrow hg HSRC
  go_wp2_with (with_reducible refine wpList_copy _ _ _ 30 30 3 1 g Tryz.underlying30 Tryz.sizeInt g (n + 3) (n + 3) _ ?hd HOW.out (.slice a n cap) n news ?hs HSRC1.out ?hm HON.out ?_)
  case hd => rfl
  case hs => rfl
  case hm => omega
  intro w2 hown hgrow
  have HB2 := hide (HB1.out.grown hgrow HB1.out.size (by intro q hq; injection hq with hq; have := HG.out; omega))
  have HOW2 : Hid (w2.ownsRow g 3 1 (.slice (some ⟨g, 0, none⟩) (n + 3) (n + 3)) (n + 3) (flat int64s (mk77 xs 0))) := by
    unfold Hid; rw [← mk77_start, HN.out, HNW.out]; exact hown
  clear hown hgrow HOW HSRC1 HB1 hii hz0 hz1 hz2
  go_wp2
  go_loopw [4] (fun i wr => (∃ k : Nat, k ≤ 3 ∧ i = .int .i64 (↑n + ↑k) ∧ wr.ownsRow g 3 1 (.slice (some ⟨g, 0, none⟩) (n + 3) (n + 3)) (n + 3) (flat int64s (mk77 xs k))) ∧ Below w.heap.size w wr)
    (fun i _ => n + 3 - (intOf i).toNat)
  case atStart => exact ⟨⟨0, by omega, by simp, HOW2.out⟩, HB2.out⟩
  case round =>
    obtain ⟨⟨k, hk, rfl, hown⟩, hBk⟩ := hrel
    have HOW := hide hown
    have HBk := hide hBk
    by_cases hlt : k < 3
    · have hnk : n + k < n + 3 := by omega
      have c0 := hown.cellAt (n + k) (by omega)
      have f0 := hown.frozenAt (n + k)
      obtain ⟨u, hu⟩ : ∃ u, (flat int64s (mk77 xs k))[n + k]? = some u := ⟨(flat int64s (mk77 xs k))[n + k]'(by rw [hown.1]; omega), by simp⟩
      rw [hu] at c0
      have hcast : (n : Int) + k = ((n + k : Nat) : Int) := by omega
      have HC := hide hcast
      rw [hcast]
      have hi0 : (0 : Int) ≤ ((n + k : Nat) : Int) := by omega
      have hi1 : ((n + k : Nat) : Int) < ((n + 3 : Nat) : Int) := by omega
      obtain ⟨q, hq⟩ : ∃ q, n + k = q := ⟨_, rfl⟩
      rw [hq] at c0 f0 hi0 hi1 ⊢
      have HQ := hide hq
      have hi2 : (q : Int) < (n : Int) + 3 := by omega
      clear hown hBk hu hcast hq hnk
      go_wp2
      go_roundw
      case rel =>
        refine ⟨⟨k + 1, by omega, by have := HQ.out; go_num, ?_⟩, HBk.out.setCell (p := ⟨g, q, none⟩) (by have := HG.out; simp; omega) _⟩
        rw [← mk77_step xs k hlt, HN.out, HQ.out, ← flat1_set]
        exact (HOW.out.stored q _).1
      case measure => have := HQ.out; simp [intOf]; omega
    · obtain rfl : k = 3 := by omega
      clear hown hBk
      go_wp2
      go_ret
      have HB' := HBk.out
      rw [← HG.out] at HB' ⊢
      exact ⟨rfl, HOW.out, HB'⟩
set_option maxRecDepth 100000 in
set_option maxHeartbeats 400000 in
theorem code_any (xs : List Ins) (S : Nat → Prop) (v : Value) (w : World) (hR : RdL S w 5 Ins.vals v xs) (hn : xs.length ≤ 2000000) :
    Calls Tryz.prog 13 #[v] w fun e w' => e = .returned (.slice (some ⟨w.heap.size, 0, none⟩) (xs.length + 3) (xs.length + 3)) ∧
      w'.ownsRow w.heap.size 45 5 (.slice (some ⟨w.heap.size, 0, none⟩) (xs.length + 3) (xs.length + 3)) (xs.length + 3) (flat Ins.vals (mkc xs 3)) ∧ Below w.heap.size w w' := by
  have HSRC := hide (rd_src hR insvals_len (by omega))
  obtain ⟨a, cap, rfl, hc, hm⟩ := hR.form
  obtain ⟨i0, hii, hz0, hz1, hz2⟩ := info_parts Tryz.infoIns
  obtain ⟨n, hN⟩ : ∃ n, xs.length = n := ⟨_, rfl⟩
  have HN := hide hN
  rw [hN] at hn hc HSRC ⊢
  clear hR hN
  unfold maxLen at hm
  obtain ⟨news, hnews⟩ : ∃ news, flat Ins.vals xs = news := ⟨_, rfl⟩
  rw [hnews] at HSRC
  have HNW := hide hnews
  have HON : Hid (∀ u ∈ news, u.oneCell' = true) := by unfold Hid; rw [← hnews]; exact flat_ins_one xs
  clear hnews
  go_enter Tryz.func13, Tryz.ntmps13
  go_wp2_with (at_make; refine wpList_make_full _ rfl _ _ 46 rfl w.heap.size 45 i0 _ 5 Tryz.underlying46 hii hz0 hz1 _ _ _ _ (n + 3) rfl rfl (by simp) (by simp) (by rw [hz2]; omega) (by unfold maxLen; omega) (Nat.le_refl _) ?_)
  intro w1 hown hgrow
  obtain ⟨g, hg⟩ : ∃ g, g = w.heap.size := ⟨_, rfl⟩
  have HB1 := hide ((Below.refl _ w).grown hgrow (Nat.le_refl _) (by simp))
  have HSRC1 : Hid (AppSrc w1 5 (.slice a n cap) n news) := by
    rcases HSRC.out with h | ⟨ad, c, e, h1, h2⟩
    · exact .inl h
    · exact .inr ⟨ad, c, e, h1, fun j u hu => hgrow.cell (h2 j u hu) (by simp)⟩
  have HOW := hide hown
  rw [← hg] at HOW ⊢
  have HG := hide hg
  clear hown hgrow hg HSRC
  go_wp2_with (with_reducible refine wpList_copy _ _ _ 46 46 45 5 g Tryz.underlying46 Tryz.sizeIns g (n + 3) (n + 3) _ ?hd HOW.out (.slice a n cap) n news ?hs HSRC1.out ?hm HON.out ?_)
  case hd => rfl
  case hs => rfl
  case hm => omega
  intro w2 hown hgrow
  have HB2 := hide (HB1.out.grown hgrow HB1.out.size (by intro q hq; injection hq with hq; have := HG.out; omega))
  have HOW2 : Hid (w2.ownsRow g 45 5 (.slice (some ⟨g, 0, none⟩) (n + 3) (n + 3)) (n + 3) (flat Ins.vals (mkc xs 0))) := by
    unfold Hid; rw [← mkc_start, HN.out, HNW.out]; exact hown
  clear hown hgrow HOW HSRC1 HB1 hii hz0 hz1 hz2
  go_wp2
  go_loopw [4] (fun i wr => (∃ k : Nat, k ≤ 3 ∧ i = .int .i64 (↑n + ↑k) ∧ wr.ownsRow g 45 5 (.slice (some ⟨g, 0, none⟩) (n + 3) (n + 3)) (n + 3) (flat Ins.vals (mkc xs k))) ∧ Below w.heap.size w wr)
    (fun i _ => n + 3 - (intOf i).toNat)
  case atStart => exact ⟨⟨0, by omega, by simp, HOW2.out⟩, HB2.out⟩
  case round =>
    obtain ⟨⟨k, hk, rfl, hown⟩, hBk⟩ := hrel
    have HOW := hide hown
    have HBk := hide hBk
    by_cases hlt : k < 3
    · have hnk : n + k < n + 3 := by omega
      obtain ⟨u, hu⟩ : ∃ u, (mkc xs k)[n + k]? = some u := ⟨(mkc xs k)[n + k]'(by rw [mkc_len _ _ hk, HN.out]; omega), by simp⟩
      obtain ⟨c0, c1, c2, c3, c4⟩ := own_get5 hown (by rw [mkc_len _ _ hk, HN.out]) hu
      have f0 := hown.frozenAt ((n + k) * 5)
      have f1 := hown.frozenAt ((n + k) * 5 + 1)
      have f2 := hown.frozenAt ((n + k) * 5 + 2)
      have f3 := hown.frozenAt ((n + k) * 5 + 3)
      have f4 := hown.frozenAt ((n + k) * 5 + 4)
      have hcast : (n : Int) + k = ((n + k : Nat) : Int) := by omega
      have HC := hide hcast
      rw [hcast]
      have hi0 : (0 : Int) ≤ ((n + k : Nat) : Int) := by omega
      have hi1 : ((n + k : Nat) : Int) < ((n + 3 : Nat) : Int) := by omega
      obtain ⟨q, hq⟩ : ∃ q, n + k = q := ⟨_, rfl⟩
      rw [hq] at c0 c1 c2 c3 c4 f0 f1 f2 f3 f4 hi0 hi1 ⊢
      have HQ := hide hq
      have hi2 : (q : Int) < (n : Int) + 3 := by omega
      clear hown hBk hu hcast hq hnk
      go_wp2
      go_roundw
      case rel =>
        have hgb : w.heap.size ≤ g := by have := HG.out; omega
        refine ⟨⟨k + 1, by omega, by have := HQ.out; go_num, ?_⟩, ((((HBk.out.setCell (p := ⟨g, _, none⟩) hgb _).setCell (p := ⟨g, _, none⟩) hgb _).setCell (p := ⟨g, _, none⟩) hgb _).setCell (p := ⟨g, _, none⟩) hgb _).setCell (p := ⟨g, _, none⟩) hgb _⟩
        rw [← mkc_step xs k hlt, HN.out, HQ.out]
        exact own_set5 HOW.out i77 (by rw [mkc_len _ _ hk, HN.out]; have := HQ.out; omega)
      case measure => have := HQ.out; simp [intOf]; omega
    · obtain rfl : k = 3 := by omega
      clear hown hBk
      go_wp2
      go_ret
      have HB' := HBk.out
      rw [← HG.out] at HB' ⊢
      exact ⟨rfl, HOW.out, HB'⟩
end Go.Proofs.YtkmakliebhnhbaaGreat
