import Derived.Test.YtkmakliebhnhbaaMsr
import Derived.Test.YtkmakliebhnhbaaFrA
import Derived.Test.YtkmakliebhnhbaaSaid
import Derived.Test.YtkmakliebhnhbaaCopyA
import Derived.Test.YtkmakliebhnhbaaItV
/- Plans: a program by raw numbers: pick, ins. -/
namespace Go.Proofs.Ytkmakliebhnhbaa
open Go.RowKit Go.Shelf

def pickN (c n : Int) : Int := (if c < 0 then -(c + 1) else c).tmod n
theorem pickN_lt {c n : Int} (hn : 0 < n) : 0 ≤ pickN c n ∧ pickN c n < n := by
  unfold pickN
  exact ⟨Int.tmod_nonneg _ (by split <;> omega), Int.tmod_lt_of_pos _ hn⟩
def opN (l : Ins) (f : Int) : Int := if f = 3 ∧ (1 + pickN l.op 5 = 3 ∨ 1 + pickN l.op 5 = 4) then 1 else 1 + pickN l.op 5
def drK (k : Int) : Int := if k < 1 then 1 - k.tmod 1000 else k
def insN (l : Ins) (f : Int) : Ins :=
  if opN l f = 1 then ⟨1, 0, pickN l.r 4, l.k, l.l⟩
  else if opN l f = 2 then ⟨2, 0, pickN l.r 4, drK l.k, 0⟩
  else if opN l f = 5 then ⟨5, 0, 0, 0, 0⟩
  else ⟨opN l f, f + 1 + pickN l.f (3 - f), 0, l.k, l.l⟩

theorem i64_wrap {z : Int} (h : i64 z) : wrap64 z = z := by unfold wrap64; unfold i64 at h; omega

theorem pick_calls (c n : Int) (w : World) (hc : i64 c) (hn : 0 < n) (hn1 : n ≤ 1000) : Calls Try.prog 16 #[.int .i64 c, .int .i64 n] w fun e w' => e = .returned (.int .i64 (pickN c n)) ∧ w' = w := by
  unfold i64 at hc
  have h0 : ¬ n = 0 := by omega
  have h1 : ¬ n = -1 := by omega
  by_cases h : c < 0
  · have e : pickN c n = (-(c + 1)).tmod n := by unfold pickN; rw [if_pos h]
    go_enter Try.func16, Try.ntmps16
    go_wp2
    go_ret
    exact ⟨by rw [e, Int.neg_tmod]; rfl, rfl⟩
  · have e : pickN c n = c.tmod n := by unfold pickN; rw [if_neg h]
    go_enter Try.func16, Try.ntmps16
    go_wp2
    go_ret
    exact ⟨by rw [Int.tmod_eq_emod_of_nonneg (by omega)]; rfl, rfl⟩

theorem two_new (w : World) (c1 c2 : Array Value) (t1 t2 : TypeId) : ((w.alloc (.cells c1 t1)).alloc (.cells c2 t2)).heap[w.heap.size]? = some (.cells c1 t1 (0, 0)) ∧ ((w.alloc (.cells c1 t1)).alloc (.cells c2 t2)).heap[w.heap.size + 1]? = some (.cells c2 t2 (0, 0)) ∧ ((w.alloc (.cells c1 t1)).alloc (.cells c2 t2)).heap.size = w.heap.size + 2 ∧ Below w.heap.size w ((w.alloc (.cells c1 t1)).alloc (.cells c2 t2)) := by
  refine ⟨(Below.heap_alloc _ _ _ (by simp)).trans (World.alloc_heap_new _ _), ?_, by simp, ((Below.refl _ w).alloc (Nat.le_refl _) _).alloc (by simp) _⟩
  have := World.alloc_heap_new (w.alloc (.cells c1 t1)) (.cells c2 t2)
  rw [World.size_alloc] at this
  exact this
theorem cell_blk {W : World} {b i : Nat} {cs : Array Value} {t : TypeId} {v : Value} (h : W.heap[b]? = some (.cells cs t (0, 0))) (hi : cs[i]? = some v) : W.cell? ⟨b, i, none⟩ = some v := by
  unfold World.cell?
  simp only [h]
  exact hi
theorem frz_blk {W : World} {b : Nat} {cs : Array Value} {t : TypeId} (i : Nat) (h : W.heap[b]? = some (.cells cs t (0, 0))) : W.frozen? ⟨b, i, none⟩ = false := by
  unfold World.frozen?
  simp [h]

theorem set_blk {W : World} {b : Nat} {cs : Array Value} {t : TypeId} (h : W.heap[b]? = some (.cells cs t (0, 0))) (i : Nat) (v : Value) : (W.setCell ⟨b, i, none⟩ v).heap[b]? = some (.cells (cs.setIfInBounds i v) t (0, 0)) := by
  simp only [World.setCell, Array.getElem?_modify, h]
  simp
theorem five_put {W : World} {b : Nat} {t : TypeId} {a0 a1 a2 a3 a4 : Value} (h : W.heap[b]? = some (.cells #[a0, a1, a2, a3, a4] t (0, 0))) (v0 v1 v2 v3 v4 : Value) : (((((W.setCell ⟨b, 0, none⟩ v0).setCell ⟨b, 1, none⟩ v1).setCell ⟨b, 2, none⟩ v2).setCell ⟨b, 3, none⟩ v3).setCell ⟨b, 4, none⟩ v4).heap[b]? = some (.cells #[v0, v1, v2, v3, v4] t (0, 0)) :=
  set_blk (set_blk (set_blk (set_blk (set_blk h 0 v0) 1 v1) 2 v2) 3 v3) 4 v4

set_option maxHeartbeats 4000000 in
theorem ins_put (l : Ins) (f : Nat) (o : Int) (w : World) (hl : l.wf) (hf : f < 4) (ho : pickN l.op 5 = o) (h : o = 0 ∨ (f = 3 ∧ (o = 2 ∨ o = 3))) : Calls Try.prog 30 #[l.agg, .int .i64 (f : Int)] w fun e w' => e = .returned (Ins.agg ⟨1, 0, pickN l.r 4, l.k, l.l⟩) ∧ Below w.heap.size w w' := by
  obtain ⟨op, F, R, K, L⟩ := l
  obtain ⟨h1, h2, h3, h4, h5⟩ := hl
  simp only at h1 h2 h3 h4 h5 ho
  have hmix : Try.prog.follows .mixedOrders = true := by kernel_rfl
  have HP := hide (fun w => ho ▸ pick_calls op 5 w h1 (by omega) (by omega))
  have HR := hide (fun w => pick_calls R 4 w h3 (by omega) (by omega))
  obtain ⟨r, hr⟩ : ∃ r, pickN R 4 = r := ⟨_, rfl⟩
  simp only [Ins.agg]
  rw [hr] at HR ⊢
  clear hr
  rcases h with rfl | ⟨rfl, rfl | rfl⟩
  · by_cases hf3 : f = 3
    · subst hf3
      go_enter Try.func30, Try.ntmps30
      go_wp2_with (go_at_call 16; refine (HP.out _).mono ?_; rintro e w' ⟨rfl, rfl⟩)
      rename_i K1 hK1 K0 hK0
      obtain ⟨k1, k2, k3, k4⟩ := two_new w #[.int .i64 op, .int .i64 F, .int .i64 R, .int .i64 K, .int .i64 L] #[.int .i64 0, .int .i64 0, .int .i64 0, .int .i64 0, .int .i64 0] 86 52
      generalize (w.alloc (.cells #[.int .i64 op, .int .i64 F, .int .i64 R, .int .i64 K, .int .i64 L] 86)).alloc (.cells #[.int .i64 0, .int .i64 0, .int .i64 0, .int .i64 0, .int .i64 0] 52) = W5 at k1 k2 k3 k4 ⊢
      have c2 := cell_blk (i := 2) k1 rfl
      have c3 := cell_blk (i := 3) k1 rfl
      have c4 := cell_blk (i := 4) k1 rfl
      refine (wpIn_wide (n := 9)).1 ?_
      refine region_split (F := FW) (C := fun w' => ∃ n, w' = W5.drewN n) (ro := none) (k := 9) (r := 1) hmix rfl (by kernel_rfl) (by kernel_rfl) ⟨1, rfl⟩ ?_
      simp only [List.take_succ_cons, List.take_zero]
      repeat (gi_big_quiet_step (fail))
      refine BigFrame.wpQuietIn_want (fun _ _ _ _ => trivial) rfl ?_
      intro KK hKK
      gi_big_quiet_op
      apply Exists.intro
      refine ⟨fun _ => ?_, ?_⟩
      · exact (callsIn_wide.2 (HR.out _)).mono (fun e w' he => ⟨he.1, _, he.2⟩)
      go_big_quiet_on
      repeat (gi_big_quiet_step (fail))
      refine wpQuietIn_nil ?_
      intro _ hw'
      obtain ⟨nq, hw''⟩ := hw'
      subst hw''
      refine wpAnyIn_ready (rs := [9]) (by kernel_rfl) (by simp) ?_
      refine AllReadyIn.cons rfl (fun KK hKK => ?_) AllReadyIn.nil
      have u0 := cell_blk (i := 0) k2 rfl
      have u1 := cell_blk (i := 1) k2 rfl
      have u2 := cell_blk (i := 2) k2 rfl
      have u3 := cell_blk (i := 3) k2 rfl
      have u4 := cell_blk (i := 4) k2 rfl
      have v0 := frz_blk 0 k2
      have v1 := frz_blk 1 k2
      have v2 := frz_blk 2 k2
      have v3 := frz_blk 3 k2
      have v4 := frz_blk 4 k2
      go_simp
      refine hKK _ _ ?_
      clear hKK KK
      refine wpAnyIn_done (by kernel_rfl) ?_ _
      refine hK0 _ _ ?_
      clear hK0 hK1
      have k6 := five_put (W := W5.drewN nq) k2 (.int .i64 1) (.int .i64 0) (.int .i64 r) (.int .i64 K) (.int .i64 L)
      have k7 : Below w.heap.size w (((((((W5.drewN nq).setCell ⟨w.heap.size + 1, 0, none⟩ (.int .i64 1)).setCell ⟨w.heap.size + 1, 1, none⟩ (.int .i64 0)).setCell ⟨w.heap.size + 1, 2, none⟩ (.int .i64 r)).setCell ⟨w.heap.size + 1, 3, none⟩ (.int .i64 K)).setCell ⟨w.heap.size + 1, 4, none⟩ (.int .i64 L))) := (((((below_drewN k4 nq).setCell (p := ⟨w.heap.size + 1, 0, none⟩) (Nat.le_succ _) _).setCell (p := ⟨w.heap.size + 1, 1, none⟩) (Nat.le_succ _) _).setCell (p := ⟨w.heap.size + 1, 2, none⟩) (Nat.le_succ _) _).setCell (p := ⟨w.heap.size + 1, 3, none⟩) (Nat.le_succ _) _).setCell (p := ⟨w.heap.size + 1, 4, none⟩) (Nat.le_succ _) _
      generalize ((((((W5.drewN nq).setCell ⟨w.heap.size + 1, 0, none⟩ (.int .i64 1)).setCell ⟨w.heap.size + 1, 1, none⟩ (.int .i64 0)).setCell ⟨w.heap.size + 1, 2, none⟩ (.int .i64 r)).setCell ⟨w.heap.size + 1, 3, none⟩ (.int .i64 K)).setCell ⟨w.heap.size + 1, 4, none⟩ (.int .i64 L)) = W6 at k6 k7 ⊢
      clear u0 u1 u2 u3 u4 v0 v1 v2 v3 v4
      have hc0 := cell_blk (i := 0) k6 rfl
      have hc1 := cell_blk (i := 1) k6 rfl
      have hc2 := cell_blk (i := 2) k6 rfl
      have hc3 := cell_blk (i := 3) k6 rfl
      have hc4 := cell_blk (i := 4) k6 rfl
      go_wp2
      refine bodyPost_ret (v := .agg #[.int .i64 1, .int .i64 0, .int .i64 r, .int .i64 K, .int .i64 L]) (by simp only [results, Try.f30, go_sem]; simp [go_sem, hc0, hc1, hc2, hc3, hc4]; done) rfl ⟨rfl, k7⟩
    · have hfd : decide ((f : Int) = 3) = false := by simp; omega
      go_enter Try.func30, Try.ntmps30
      go_wp2_with (go_at_call 16; refine (HP.out _).mono ?_; rintro e w' ⟨rfl, rfl⟩)
      rename_i K1 hK1 K0 hK0
      obtain ⟨k1, k2, k3, k4⟩ := two_new w #[.int .i64 op, .int .i64 F, .int .i64 R, .int .i64 K, .int .i64 L] #[.int .i64 0, .int .i64 0, .int .i64 0, .int .i64 0, .int .i64 0] 86 52
      generalize (w.alloc (.cells #[.int .i64 op, .int .i64 F, .int .i64 R, .int .i64 K, .int .i64 L] 86)).alloc (.cells #[.int .i64 0, .int .i64 0, .int .i64 0, .int .i64 0, .int .i64 0] 52) = W5 at k1 k2 k3 k4 ⊢
      have c2 := cell_blk (i := 2) k1 rfl
      have c3 := cell_blk (i := 3) k1 rfl
      have c4 := cell_blk (i := 4) k1 rfl
      refine (wpIn_wide (n := 9)).1 ?_
      refine region_split (F := FW) (C := fun w' => ∃ n, w' = W5.drewN n) (ro := none) (k := 9) (r := 1) hmix rfl (by kernel_rfl) (by kernel_rfl) ⟨1, rfl⟩ ?_
      simp only [List.take_succ_cons, List.take_zero]
      repeat (gi_big_quiet_step (fail))
      refine BigFrame.wpQuietIn_want (fun _ _ _ _ => trivial) rfl ?_
      intro KK hKK
      gi_big_quiet_op
      apply Exists.intro
      refine ⟨fun _ => ?_, ?_⟩
      · exact (callsIn_wide.2 (HR.out _)).mono (fun e w' he => ⟨he.1, _, he.2⟩)
      go_big_quiet_on
      repeat (gi_big_quiet_step (fail))
      refine wpQuietIn_nil ?_
      intro _ hw'
      obtain ⟨nq, hw''⟩ := hw'
      subst hw''
      refine wpAnyIn_ready (rs := [9]) (by kernel_rfl) (by simp) ?_
      refine AllReadyIn.cons rfl (fun KK hKK => ?_) AllReadyIn.nil
      have u0 := cell_blk (i := 0) k2 rfl
      have u1 := cell_blk (i := 1) k2 rfl
      have u2 := cell_blk (i := 2) k2 rfl
      have u3 := cell_blk (i := 3) k2 rfl
      have u4 := cell_blk (i := 4) k2 rfl
      have v0 := frz_blk 0 k2
      have v1 := frz_blk 1 k2
      have v2 := frz_blk 2 k2
      have v3 := frz_blk 3 k2
      have v4 := frz_blk 4 k2
      go_simp
      refine hKK _ _ ?_
      clear hKK KK
      refine wpAnyIn_done (by kernel_rfl) ?_ _
      refine hK0 _ _ ?_
      clear hK0 hK1
      have k6 := five_put (W := W5.drewN nq) k2 (.int .i64 1) (.int .i64 0) (.int .i64 r) (.int .i64 K) (.int .i64 L)
      have k7 : Below w.heap.size w (((((((W5.drewN nq).setCell ⟨w.heap.size + 1, 0, none⟩ (.int .i64 1)).setCell ⟨w.heap.size + 1, 1, none⟩ (.int .i64 0)).setCell ⟨w.heap.size + 1, 2, none⟩ (.int .i64 r)).setCell ⟨w.heap.size + 1, 3, none⟩ (.int .i64 K)).setCell ⟨w.heap.size + 1, 4, none⟩ (.int .i64 L))) := (((((below_drewN k4 nq).setCell (p := ⟨w.heap.size + 1, 0, none⟩) (Nat.le_succ _) _).setCell (p := ⟨w.heap.size + 1, 1, none⟩) (Nat.le_succ _) _).setCell (p := ⟨w.heap.size + 1, 2, none⟩) (Nat.le_succ _) _).setCell (p := ⟨w.heap.size + 1, 3, none⟩) (Nat.le_succ _) _).setCell (p := ⟨w.heap.size + 1, 4, none⟩) (Nat.le_succ _) _
      generalize ((((((W5.drewN nq).setCell ⟨w.heap.size + 1, 0, none⟩ (.int .i64 1)).setCell ⟨w.heap.size + 1, 1, none⟩ (.int .i64 0)).setCell ⟨w.heap.size + 1, 2, none⟩ (.int .i64 r)).setCell ⟨w.heap.size + 1, 3, none⟩ (.int .i64 K)).setCell ⟨w.heap.size + 1, 4, none⟩ (.int .i64 L)) = W6 at k6 k7 ⊢
      clear u0 u1 u2 u3 u4 v0 v1 v2 v3 v4
      have hc0 := cell_blk (i := 0) k6 rfl
      have hc1 := cell_blk (i := 1) k6 rfl
      have hc2 := cell_blk (i := 2) k6 rfl
      have hc3 := cell_blk (i := 3) k6 rfl
      have hc4 := cell_blk (i := 4) k6 rfl
      go_wp2
      refine bodyPost_ret (v := .agg #[.int .i64 1, .int .i64 0, .int .i64 r, .int .i64 K, .int .i64 L]) (by simp only [results, Try.f30, go_sem]; simp [go_sem, hc0, hc1, hc2, hc3, hc4]; done) rfl ⟨rfl, k7⟩
  · go_enter Try.func30, Try.ntmps30
    go_wp2_with (go_at_call 16; refine (HP.out _).mono ?_; rintro e w' ⟨rfl, rfl⟩)
    rename_i K1 hK1 K0 hK0
    obtain ⟨k1, k2, k3, k4⟩ := two_new w #[.int .i64 op, .int .i64 F, .int .i64 R, .int .i64 K, .int .i64 L] #[.int .i64 0, .int .i64 0, .int .i64 0, .int .i64 0, .int .i64 0] 86 52
    generalize (w.alloc (.cells #[.int .i64 op, .int .i64 F, .int .i64 R, .int .i64 K, .int .i64 L] 86)).alloc (.cells #[.int .i64 0, .int .i64 0, .int .i64 0, .int .i64 0, .int .i64 0] 52) = W5 at k1 k2 k3 k4 ⊢
    have c2 := cell_blk (i := 2) k1 rfl
    have c3 := cell_blk (i := 3) k1 rfl
    have c4 := cell_blk (i := 4) k1 rfl
    refine (wpIn_wide (n := 9)).1 ?_
    refine region_split (F := FW) (C := fun w' => ∃ n, w' = W5.drewN n) (ro := none) (k := 9) (r := 1) hmix rfl (by kernel_rfl) (by kernel_rfl) ⟨1, rfl⟩ ?_
    simp only [List.take_succ_cons, List.take_zero]
    repeat (gi_big_quiet_step (fail))
    refine BigFrame.wpQuietIn_want (fun _ _ _ _ => trivial) rfl ?_
    intro KK hKK
    gi_big_quiet_op
    apply Exists.intro
    refine ⟨fun _ => ?_, ?_⟩
    · exact (callsIn_wide.2 (HR.out _)).mono (fun e w' he => ⟨he.1, _, he.2⟩)
    go_big_quiet_on
    repeat (gi_big_quiet_step (fail))
    refine wpQuietIn_nil ?_
    intro _ hw'
    obtain ⟨nq, hw''⟩ := hw'
    subst hw''
    refine wpAnyIn_ready (rs := [9]) (by kernel_rfl) (by simp) ?_
    refine AllReadyIn.cons rfl (fun KK hKK => ?_) AllReadyIn.nil
    have u0 := cell_blk (i := 0) k2 rfl
    have u1 := cell_blk (i := 1) k2 rfl
    have u2 := cell_blk (i := 2) k2 rfl
    have u3 := cell_blk (i := 3) k2 rfl
    have u4 := cell_blk (i := 4) k2 rfl
    have v0 := frz_blk 0 k2
    have v1 := frz_blk 1 k2
    have v2 := frz_blk 2 k2
    have v3 := frz_blk 3 k2
    have v4 := frz_blk 4 k2
    go_simp
    refine hKK _ _ ?_
    clear hKK KK
    refine wpAnyIn_done (by kernel_rfl) ?_ _
    refine hK0 _ _ ?_
    clear hK0 hK1
    have k6 := five_put (W := W5.drewN nq) k2 (.int .i64 1) (.int .i64 0) (.int .i64 r) (.int .i64 K) (.int .i64 L)
    have k7 : Below w.heap.size w (((((((W5.drewN nq).setCell ⟨w.heap.size + 1, 0, none⟩ (.int .i64 1)).setCell ⟨w.heap.size + 1, 1, none⟩ (.int .i64 0)).setCell ⟨w.heap.size + 1, 2, none⟩ (.int .i64 r)).setCell ⟨w.heap.size + 1, 3, none⟩ (.int .i64 K)).setCell ⟨w.heap.size + 1, 4, none⟩ (.int .i64 L))) := (((((below_drewN k4 nq).setCell (p := ⟨w.heap.size + 1, 0, none⟩) (Nat.le_succ _) _).setCell (p := ⟨w.heap.size + 1, 1, none⟩) (Nat.le_succ _) _).setCell (p := ⟨w.heap.size + 1, 2, none⟩) (Nat.le_succ _) _).setCell (p := ⟨w.heap.size + 1, 3, none⟩) (Nat.le_succ _) _).setCell (p := ⟨w.heap.size + 1, 4, none⟩) (Nat.le_succ _) _
    generalize ((((((W5.drewN nq).setCell ⟨w.heap.size + 1, 0, none⟩ (.int .i64 1)).setCell ⟨w.heap.size + 1, 1, none⟩ (.int .i64 0)).setCell ⟨w.heap.size + 1, 2, none⟩ (.int .i64 r)).setCell ⟨w.heap.size + 1, 3, none⟩ (.int .i64 K)).setCell ⟨w.heap.size + 1, 4, none⟩ (.int .i64 L)) = W6 at k6 k7 ⊢
    clear u0 u1 u2 u3 u4 v0 v1 v2 v3 v4
    have hc0 := cell_blk (i := 0) k6 rfl
    have hc1 := cell_blk (i := 1) k6 rfl
    have hc2 := cell_blk (i := 2) k6 rfl
    have hc3 := cell_blk (i := 3) k6 rfl
    have hc4 := cell_blk (i := 4) k6 rfl
    go_wp2
    refine bodyPost_ret (v := .agg #[.int .i64 1, .int .i64 0, .int .i64 r, .int .i64 K, .int .i64 L]) (by simp only [results, Try.f30, go_sem]; simp [go_sem, hc0, hc1, hc2, hc3, hc4]; done) rfl ⟨rfl, k7⟩
  · go_enter Try.func30, Try.ntmps30
    go_wp2_with (go_at_call 16; refine (HP.out _).mono ?_; rintro e w' ⟨rfl, rfl⟩)
    rename_i K1 hK1 K0 hK0
    obtain ⟨k1, k2, k3, k4⟩ := two_new w #[.int .i64 op, .int .i64 F, .int .i64 R, .int .i64 K, .int .i64 L] #[.int .i64 0, .int .i64 0, .int .i64 0, .int .i64 0, .int .i64 0] 86 52
    generalize (w.alloc (.cells #[.int .i64 op, .int .i64 F, .int .i64 R, .int .i64 K, .int .i64 L] 86)).alloc (.cells #[.int .i64 0, .int .i64 0, .int .i64 0, .int .i64 0, .int .i64 0] 52) = W5 at k1 k2 k3 k4 ⊢
    have c2 := cell_blk (i := 2) k1 rfl
    have c3 := cell_blk (i := 3) k1 rfl
    have c4 := cell_blk (i := 4) k1 rfl
    refine (wpIn_wide (n := 9)).1 ?_
    refine region_split (F := FW) (C := fun w' => ∃ n, w' = W5.drewN n) (ro := none) (k := 9) (r := 1) hmix rfl (by kernel_rfl) (by kernel_rfl) ⟨1, rfl⟩ ?_
    simp only [List.take_succ_cons, List.take_zero]
    repeat (gi_big_quiet_step (fail))
    refine BigFrame.wpQuietIn_want (fun _ _ _ _ => trivial) rfl ?_
    intro KK hKK
    gi_big_quiet_op
    apply Exists.intro
    refine ⟨fun _ => ?_, ?_⟩
    · exact (callsIn_wide.2 (HR.out _)).mono (fun e w' he => ⟨he.1, _, he.2⟩)
    go_big_quiet_on
    repeat (gi_big_quiet_step (fail))
    refine wpQuietIn_nil ?_
    intro _ hw'
    obtain ⟨nq, hw''⟩ := hw'
    subst hw''
    refine wpAnyIn_ready (rs := [9]) (by kernel_rfl) (by simp) ?_
    refine AllReadyIn.cons rfl (fun KK hKK => ?_) AllReadyIn.nil
    have u0 := cell_blk (i := 0) k2 rfl
    have u1 := cell_blk (i := 1) k2 rfl
    have u2 := cell_blk (i := 2) k2 rfl
    have u3 := cell_blk (i := 3) k2 rfl
    have u4 := cell_blk (i := 4) k2 rfl
    have v0 := frz_blk 0 k2
    have v1 := frz_blk 1 k2
    have v2 := frz_blk 2 k2
    have v3 := frz_blk 3 k2
    have v4 := frz_blk 4 k2
    go_simp
    refine hKK _ _ ?_
    clear hKK KK
    refine wpAnyIn_done (by kernel_rfl) ?_ _
    refine hK0 _ _ ?_
    clear hK0 hK1
    have k6 := five_put (W := W5.drewN nq) k2 (.int .i64 1) (.int .i64 0) (.int .i64 r) (.int .i64 K) (.int .i64 L)
    have k7 : Below w.heap.size w (((((((W5.drewN nq).setCell ⟨w.heap.size + 1, 0, none⟩ (.int .i64 1)).setCell ⟨w.heap.size + 1, 1, none⟩ (.int .i64 0)).setCell ⟨w.heap.size + 1, 2, none⟩ (.int .i64 r)).setCell ⟨w.heap.size + 1, 3, none⟩ (.int .i64 K)).setCell ⟨w.heap.size + 1, 4, none⟩ (.int .i64 L))) := (((((below_drewN k4 nq).setCell (p := ⟨w.heap.size + 1, 0, none⟩) (Nat.le_succ _) _).setCell (p := ⟨w.heap.size + 1, 1, none⟩) (Nat.le_succ _) _).setCell (p := ⟨w.heap.size + 1, 2, none⟩) (Nat.le_succ _) _).setCell (p := ⟨w.heap.size + 1, 3, none⟩) (Nat.le_succ _) _).setCell (p := ⟨w.heap.size + 1, 4, none⟩) (Nat.le_succ _) _
    generalize ((((((W5.drewN nq).setCell ⟨w.heap.size + 1, 0, none⟩ (.int .i64 1)).setCell ⟨w.heap.size + 1, 1, none⟩ (.int .i64 0)).setCell ⟨w.heap.size + 1, 2, none⟩ (.int .i64 r)).setCell ⟨w.heap.size + 1, 3, none⟩ (.int .i64 K)).setCell ⟨w.heap.size + 1, 4, none⟩ (.int .i64 L)) = W6 at k6 k7 ⊢
    clear u0 u1 u2 u3 u4 v0 v1 v2 v3 v4
    have hc0 := cell_blk (i := 0) k6 rfl
    have hc1 := cell_blk (i := 1) k6 rfl
    have hc2 := cell_blk (i := 2) k6 rfl
    have hc3 := cell_blk (i := 3) k6 rfl
    have hc4 := cell_blk (i := 4) k6 rfl
    go_wp2
    refine bodyPost_ret (v := .agg #[.int .i64 1, .int .i64 0, .int .i64 r, .int .i64 K, .int .i64 L]) (by simp only [results, Try.f30, go_sem]; simp [go_sem, hc0, hc1, hc2, hc3, hc4]; done) rfl ⟨rfl, k7⟩
end Go.Proofs.Ytkmakliebhnhbaa

/- Plans: ins, the other kinds. -/
namespace Go.Proofs.Ytkmakliebhnhbaa
open Go.RowKit Go.Shelf

theorem drK_neg {k : Int} (hk : i64 k) (h : k < 1) : wrap64 (1 - k.tmod 1000) = drK k ∧ 0 < drK k ∧ i64 (drK k) := by
  unfold drK
  rw [if_pos h]
  unfold i64 at hk
  have hn : (-k).tmod 1000 = -(k.tmod 1000) := Int.neg_tmod _ _
  have hb1 := Int.tmod_lt_of_pos (-k) (b := 1000) (by omega)
  have hb2 : 0 ≤ (-k).tmod 1000 := Int.tmod_nonneg _ (by omega)
  exact ⟨i64_wrap (by unfold i64; omega), by omega, by unfold i64; omega⟩

set_option maxHeartbeats 4000000 in
theorem ins_sync (l : Ins) (f : Nat) (w : World) (hl : l.wf) (_hf : f < 4) (ho : pickN l.op 5 = 4) : Calls Try.prog 30 #[l.agg, .int .i64 (f : Int)] w fun e w' => e = .returned (Ins.agg ⟨5, 0, 0, 0, 0⟩) ∧ Below w.heap.size w w' := by
  obtain ⟨op, F, R, K, L⟩ := l
  obtain ⟨h1, h2, h3, h4, h5⟩ := hl
  simp only at h1 h2 h3 h4 h5 ho
  have HP := hide (fun w => ho ▸ pick_calls op 5 w h1 (by omega) (by omega))
  simp only [Ins.agg]
  by_cases hf3 : f = 3
  · subst hf3
    go_enter Try.func30, Try.ntmps30
    go_wp2_with (first | (go_at_call_of 16 (Value.int IntKind.i64 op); refine (HP.out _).mono ?_; rintro e w' ⟨rfl, rfl⟩))
    obtain ⟨_, k6, _, k7⟩ := two_new w #[.int .i64 op, .int .i64 F, .int .i64 R, .int .i64 K, .int .i64 L] #[.int .i64 5, .int .i64 0, .int .i64 0, .int .i64 0, .int .i64 0] 86 52
    generalize (w.alloc (.cells #[.int .i64 op, .int .i64 F, .int .i64 R, .int .i64 K, .int .i64 L] 86)).alloc (.cells #[.int .i64 5, .int .i64 0, .int .i64 0, .int .i64 0, .int .i64 0] 52) = W6 at k6 k7 ⊢
    have hc0 := cell_blk (i := 0) k6 rfl
    have hc1 := cell_blk (i := 1) k6 rfl
    have hc2 := cell_blk (i := 2) k6 rfl
    have hc3 := cell_blk (i := 3) k6 rfl
    have hc4 := cell_blk (i := 4) k6 rfl
    refine bodyPost_ret (v := .agg #[.int .i64 5, .int .i64 0, .int .i64 0, .int .i64 0, .int .i64 0]) (by simp only [results, Try.f30, go_sem]; simp [go_sem, hc0, hc1, hc2, hc3, hc4]; done) rfl ⟨rfl, k7⟩
  · have hfd : decide ((f : Int) = 3) = false := by simp; omega
    go_enter Try.func30, Try.ntmps30
    go_wp2_with (first | (go_at_call_of 16 (Value.int IntKind.i64 op); refine (HP.out _).mono ?_; rintro e w' ⟨rfl, rfl⟩))
    obtain ⟨_, k6, _, k7⟩ := two_new w #[.int .i64 op, .int .i64 F, .int .i64 R, .int .i64 K, .int .i64 L] #[.int .i64 5, .int .i64 0, .int .i64 0, .int .i64 0, .int .i64 0] 86 52
    generalize (w.alloc (.cells #[.int .i64 op, .int .i64 F, .int .i64 R, .int .i64 K, .int .i64 L] 86)).alloc (.cells #[.int .i64 5, .int .i64 0, .int .i64 0, .int .i64 0, .int .i64 0] 52) = W6 at k6 k7 ⊢
    have hc0 := cell_blk (i := 0) k6 rfl
    have hc1 := cell_blk (i := 1) k6 rfl
    have hc2 := cell_blk (i := 2) k6 rfl
    have hc3 := cell_blk (i := 3) k6 rfl
    have hc4 := cell_blk (i := 4) k6 rfl
    refine bodyPost_ret (v := .agg #[.int .i64 5, .int .i64 0, .int .i64 0, .int .i64 0, .int .i64 0]) (by simp only [results, Try.f30, go_sem]; simp [go_sem, hc0, hc1, hc2, hc3, hc4]; done) rfl ⟨rfl, k7⟩

set_option maxHeartbeats 4000000 in
theorem ins_draw (l : Ins) (f : Nat) (w : World) (hl : l.wf) (_hf : f < 4) (ho : pickN l.op 5 = 1) : Calls Try.prog 30 #[l.agg, .int .i64 (f : Int)] w fun e w' => e = .returned (Ins.agg ⟨2, 0, pickN l.r 4, drK l.k, 0⟩) ∧ Below w.heap.size w w' := by
  obtain ⟨op, F, R, K, L⟩ := l
  obtain ⟨h1, h2, h3, h4, h5⟩ := hl
  simp only at h1 h2 h3 h4 h5 ho
  have HP := hide (fun w => ho ▸ pick_calls op 5 w h1 (by omega) (by omega))
  have HR := hide (fun w => pick_calls R 4 w h3 (by omega) (by omega))
  obtain ⟨r, hr⟩ : ∃ r, pickN R 4 = r := ⟨_, rfl⟩
  simp only [Ins.agg]
  rw [hr] at HR ⊢
  clear hr
  by_cases hk : K < 1
  · obtain ⟨e1, _, _⟩ := drK_neg h4 hk
    by_cases hf3 : f = 3
    · subst hf3
      go_enter Try.func30, Try.ntmps30
      go_wp2_with (first | (go_at_call_of 16 (Value.int IntKind.i64 op); refine (HP.out _).mono ?_; rintro e w' ⟨rfl, rfl⟩) | (go_at_call_of 16 (Value.int IntKind.i64 R); refine (HR.out _).mono ?_; rintro e w' ⟨rfl, rfl⟩))
      obtain ⟨_, k6, _, k7⟩ := two_new w #[.int .i64 op, .int .i64 F, .int .i64 R, .int .i64 K, .int .i64 L] #[.int .i64 2, .int .i64 0, .int .i64 r, .int .i64 (drK K), .int .i64 0] 86 52
      generalize (w.alloc (.cells #[.int .i64 op, .int .i64 F, .int .i64 R, .int .i64 K, .int .i64 L] 86)).alloc (.cells #[.int .i64 2, .int .i64 0, .int .i64 r, .int .i64 (drK K), .int .i64 0] 52) = W6 at k6 k7 ⊢
      have hc0 := cell_blk (i := 0) k6 rfl
      have hc1 := cell_blk (i := 1) k6 rfl
      have hc2 := cell_blk (i := 2) k6 rfl
      have hc3 := cell_blk (i := 3) k6 rfl
      have hc4 := cell_blk (i := 4) k6 rfl
      refine bodyPost_ret (v := .agg #[.int .i64 2, .int .i64 0, .int .i64 r, .int .i64 (drK K), .int .i64 0]) (by simp only [results, Try.f30, go_sem]; simp [go_sem, hc0, hc1, hc2, hc3, hc4]; done) rfl ⟨rfl, k7⟩
    · have hfd : decide ((f : Int) = 3) = false := by simp; omega
      go_enter Try.func30, Try.ntmps30
      go_wp2_with (first | (go_at_call_of 16 (Value.int IntKind.i64 op); refine (HP.out _).mono ?_; rintro e w' ⟨rfl, rfl⟩) | (go_at_call_of 16 (Value.int IntKind.i64 R); refine (HR.out _).mono ?_; rintro e w' ⟨rfl, rfl⟩))
      obtain ⟨_, k6, _, k7⟩ := two_new w #[.int .i64 op, .int .i64 F, .int .i64 R, .int .i64 K, .int .i64 L] #[.int .i64 2, .int .i64 0, .int .i64 r, .int .i64 (drK K), .int .i64 0] 86 52
      generalize (w.alloc (.cells #[.int .i64 op, .int .i64 F, .int .i64 R, .int .i64 K, .int .i64 L] 86)).alloc (.cells #[.int .i64 2, .int .i64 0, .int .i64 r, .int .i64 (drK K), .int .i64 0] 52) = W6 at k6 k7 ⊢
      have hc0 := cell_blk (i := 0) k6 rfl
      have hc1 := cell_blk (i := 1) k6 rfl
      have hc2 := cell_blk (i := 2) k6 rfl
      have hc3 := cell_blk (i := 3) k6 rfl
      have hc4 := cell_blk (i := 4) k6 rfl
      refine bodyPost_ret (v := .agg #[.int .i64 2, .int .i64 0, .int .i64 r, .int .i64 (drK K), .int .i64 0]) (by simp only [results, Try.f30, go_sem]; simp [go_sem, hc0, hc1, hc2, hc3, hc4]; done) rfl ⟨rfl, k7⟩
  · have e1 : drK K = K := by unfold drK; rw [if_neg hk]
    rw [e1]
    by_cases hf3 : f = 3
    · subst hf3
      go_enter Try.func30, Try.ntmps30
      go_wp2_with (first | (go_at_call_of 16 (Value.int IntKind.i64 op); refine (HP.out _).mono ?_; rintro e w' ⟨rfl, rfl⟩) | (go_at_call_of 16 (Value.int IntKind.i64 R); refine (HR.out _).mono ?_; rintro e w' ⟨rfl, rfl⟩))
      obtain ⟨_, k6, _, k7⟩ := two_new w #[.int .i64 op, .int .i64 F, .int .i64 R, .int .i64 K, .int .i64 L] #[.int .i64 2, .int .i64 0, .int .i64 r, .int .i64 K, .int .i64 0] 86 52
      generalize (w.alloc (.cells #[.int .i64 op, .int .i64 F, .int .i64 R, .int .i64 K, .int .i64 L] 86)).alloc (.cells #[.int .i64 2, .int .i64 0, .int .i64 r, .int .i64 K, .int .i64 0] 52) = W6 at k6 k7 ⊢
      have hc0 := cell_blk (i := 0) k6 rfl
      have hc1 := cell_blk (i := 1) k6 rfl
      have hc2 := cell_blk (i := 2) k6 rfl
      have hc3 := cell_blk (i := 3) k6 rfl
      have hc4 := cell_blk (i := 4) k6 rfl
      refine bodyPost_ret (v := .agg #[.int .i64 2, .int .i64 0, .int .i64 r, .int .i64 K, .int .i64 0]) (by simp only [results, Try.f30, go_sem]; simp [go_sem, hc0, hc1, hc2, hc3, hc4]; done) rfl ⟨rfl, k7⟩
    · have hfd : decide ((f : Int) = 3) = false := by simp; omega
      go_enter Try.func30, Try.ntmps30
      go_wp2_with (first | (go_at_call_of 16 (Value.int IntKind.i64 op); refine (HP.out _).mono ?_; rintro e w' ⟨rfl, rfl⟩) | (go_at_call_of 16 (Value.int IntKind.i64 R); refine (HR.out _).mono ?_; rintro e w' ⟨rfl, rfl⟩))
      obtain ⟨_, k6, _, k7⟩ := two_new w #[.int .i64 op, .int .i64 F, .int .i64 R, .int .i64 K, .int .i64 L] #[.int .i64 2, .int .i64 0, .int .i64 r, .int .i64 K, .int .i64 0] 86 52
      generalize (w.alloc (.cells #[.int .i64 op, .int .i64 F, .int .i64 R, .int .i64 K, .int .i64 L] 86)).alloc (.cells #[.int .i64 2, .int .i64 0, .int .i64 r, .int .i64 K, .int .i64 0] 52) = W6 at k6 k7 ⊢
      have hc0 := cell_blk (i := 0) k6 rfl
      have hc1 := cell_blk (i := 1) k6 rfl
      have hc2 := cell_blk (i := 2) k6 rfl
      have hc3 := cell_blk (i := 3) k6 rfl
      have hc4 := cell_blk (i := 4) k6 rfl
      refine bodyPost_ret (v := .agg #[.int .i64 2, .int .i64 0, .int .i64 r, .int .i64 K, .int .i64 0]) (by simp only [results, Try.f30, go_sem]; simp [go_sem, hc0, hc1, hc2, hc3, hc4]; done) rfl ⟨rfl, k7⟩
end Go.Proofs.Ytkmakliebhnhbaa

/- Plans: ins, Spawn and Call; ins whole. -/
namespace Go.Proofs.Ytkmakliebhnhbaa
open Go.RowKit Go.Shelf

set_option maxHeartbeats 4000000 in
theorem ins_spawn (l : Ins) (f : Nat) (w : World) (hl : l.wf) (hf : f < 3) (ho : pickN l.op 5 = 2) : Calls Try.prog 30 #[l.agg, .int .i64 (f : Int)] w fun e w' => e = .returned (Ins.agg ⟨3, (f : Int) + 1 + pickN l.f (3 - (f : Int)), 0, l.k, l.l⟩) ∧ Below w.heap.size w w' := by
  obtain ⟨op, F, R, K, L⟩ := l
  obtain ⟨h1, h2, h3, h4, h5⟩ := hl
  simp only at h1 h2 h3 h4 h5 ho
  have hmix : Try.prog.follows .mixedOrders = true := by kernel_rfl
  have HP := hide (fun w => ho ▸ pick_calls op 5 w h1 (by omega) (by omega))
  have HR := hide (fun w => pick_calls F (3 - (f : Int)) w h2 (by omega) (by omega))
  obtain ⟨r0, r1⟩ := pickN_lt (c := F) (n := 3 - (f : Int)) (by omega)
  simp only [Ins.agg]
  obtain ⟨r, hr⟩ : ∃ r, pickN F (3 - (f : Int)) = r := ⟨_, rfl⟩
  rw [hr] at HR r0 r1 ⊢
  clear hr
  have hfd : decide ((f : Int) = 3) = false := by simp; omega
  have hs3 : (0 : Int) ≤ 3 - (f : Int) := by omega
  go_enter Try.func30, Try.ntmps30
  go_wp2_with (go_at_call_of 16 (Value.int IntKind.i64 op); refine (HP.out _).mono ?_; rintro e w' ⟨rfl, rfl⟩)
  rename_i K0 hK0
  obtain ⟨k1, k2, k3, k4⟩ := two_new w #[.int .i64 op, .int .i64 F, .int .i64 R, .int .i64 K, .int .i64 L] #[.int .i64 0, .int .i64 0, .int .i64 0, .int .i64 0, .int .i64 0] 86 52
  generalize (w.alloc (.cells #[.int .i64 op, .int .i64 F, .int .i64 R, .int .i64 K, .int .i64 L] 86)).alloc (.cells #[.int .i64 0, .int .i64 0, .int .i64 0, .int .i64 0, .int .i64 0] 52) = W5 at k1 k2 k3 k4 ⊢
  have c1 := cell_blk (i := 1) k1 rfl
  have c3 := cell_blk (i := 3) k1 rfl
  have c4 := cell_blk (i := 4) k1 rfl
  refine (wpIn_wide (n := 9)).1 ?_
  refine region_split (F := FW) (C := fun w' => ∃ n, w' = W5.drewN n) (ro := none) (k := 14) (r := 1) hmix rfl (by kernel_rfl) (by kernel_rfl) ⟨1, rfl⟩ ?_
  simp only [List.take_succ_cons, List.take_zero]
  repeat (gi_big_quiet_step (fail))
  refine BigFrame.wpQuietIn_want (fun _ _ _ _ => trivial) rfl ?_
  intro KK hKK
  gi_big_quiet_op
  apply Exists.intro
  refine ⟨fun _ => ?_, ?_⟩
  · exact (callsIn_wide.2 (HR.out _)).mono (fun e w' he => ⟨he.1, _, he.2⟩)
  go_big_quiet_on
  repeat (gi_big_quiet_step (fail))
  refine wpQuietIn_nil ?_
  intro _ hw'
  obtain ⟨nq, hw''⟩ := hw'
  subst hw''
  refine wpAnyIn_ready (rs := [14]) (by kernel_rfl) (by simp) ?_
  refine AllReadyIn.cons rfl (fun KK hKK => ?_) AllReadyIn.nil
  have u0 := cell_blk (i := 0) k2 rfl
  have u1 := cell_blk (i := 1) k2 rfl
  have u2 := cell_blk (i := 2) k2 rfl
  have u3 := cell_blk (i := 3) k2 rfl
  have u4 := cell_blk (i := 4) k2 rfl
  have v0 := frz_blk 0 k2
  have v1 := frz_blk 1 k2
  have v2 := frz_blk 2 k2
  have v3 := frz_blk 3 k2
  have v4 := frz_blk 4 k2
  go_simp
  refine hKK _ _ ?_
  clear hKK KK
  refine wpAnyIn_done (by kernel_rfl) ?_ _
  refine hK0 _ _ ?_
  clear hK0
  have k6 := five_put (W := W5.drewN nq) k2 (.int .i64 3) (.int .i64 ((f : Int) + 1 + r)) (.int .i64 0) (.int .i64 K) (.int .i64 L)
  have k7 : Below w.heap.size w (((((((W5.drewN nq).setCell ⟨w.heap.size + 1, 0, none⟩ (.int .i64 3)).setCell ⟨w.heap.size + 1, 1, none⟩ (.int .i64 ((f : Int) + 1 + r))).setCell ⟨w.heap.size + 1, 2, none⟩ (.int .i64 0)).setCell ⟨w.heap.size + 1, 3, none⟩ (.int .i64 K)).setCell ⟨w.heap.size + 1, 4, none⟩ (.int .i64 L))) := (((((below_drewN k4 nq).setCell (p := ⟨w.heap.size + 1, 0, none⟩) (Nat.le_succ _) _).setCell (p := ⟨w.heap.size + 1, 1, none⟩) (Nat.le_succ _) _).setCell (p := ⟨w.heap.size + 1, 2, none⟩) (Nat.le_succ _) _).setCell (p := ⟨w.heap.size + 1, 3, none⟩) (Nat.le_succ _) _).setCell (p := ⟨w.heap.size + 1, 4, none⟩) (Nat.le_succ _) _
  generalize ((((((W5.drewN nq).setCell ⟨w.heap.size + 1, 0, none⟩ (.int .i64 3)).setCell ⟨w.heap.size + 1, 1, none⟩ (.int .i64 ((f : Int) + 1 + r))).setCell ⟨w.heap.size + 1, 2, none⟩ (.int .i64 0)).setCell ⟨w.heap.size + 1, 3, none⟩ (.int .i64 K)).setCell ⟨w.heap.size + 1, 4, none⟩ (.int .i64 L)) = W6 at k6 k7 ⊢
  clear u0 u1 u2 u3 u4 v0 v1 v2 v3 v4
  have hc0 := cell_blk (i := 0) k6 rfl
  have hc1 := cell_blk (i := 1) k6 rfl
  have hc2 := cell_blk (i := 2) k6 rfl
  have hc3 := cell_blk (i := 3) k6 rfl
  have hc4 := cell_blk (i := 4) k6 rfl
  go_wp2
  refine bodyPost_ret (v := .agg #[.int .i64 3, .int .i64 ((f : Int) + 1 + r), .int .i64 0, .int .i64 K, .int .i64 L]) (by simp only [results, Try.f30, go_sem]; simp [go_sem, hc0, hc1, hc2, hc3, hc4]; done) rfl ⟨rfl, k7⟩

set_option maxHeartbeats 4000000 in
theorem ins_call (l : Ins) (f : Nat) (w : World) (hl : l.wf) (hf : f < 3) (ho : pickN l.op 5 = 3) : Calls Try.prog 30 #[l.agg, .int .i64 (f : Int)] w fun e w' => e = .returned (Ins.agg ⟨4, (f : Int) + 1 + pickN l.f (3 - (f : Int)), 0, l.k, l.l⟩) ∧ Below w.heap.size w w' := by
  obtain ⟨op, F, R, K, L⟩ := l
  obtain ⟨h1, h2, h3, h4, h5⟩ := hl
  simp only at h1 h2 h3 h4 h5 ho
  have hmix : Try.prog.follows .mixedOrders = true := by kernel_rfl
  have HP := hide (fun w => ho ▸ pick_calls op 5 w h1 (by omega) (by omega))
  have HR := hide (fun w => pick_calls F (3 - (f : Int)) w h2 (by omega) (by omega))
  obtain ⟨r0, r1⟩ := pickN_lt (c := F) (n := 3 - (f : Int)) (by omega)
  simp only [Ins.agg]
  obtain ⟨r, hr⟩ : ∃ r, pickN F (3 - (f : Int)) = r := ⟨_, rfl⟩
  rw [hr] at HR r0 r1 ⊢
  clear hr
  have hfd : decide ((f : Int) = 3) = false := by simp; omega
  have hs3 : (0 : Int) ≤ 3 - (f : Int) := by omega
  go_enter Try.func30, Try.ntmps30
  go_wp2_with (go_at_call_of 16 (Value.int IntKind.i64 op); refine (HP.out _).mono ?_; rintro e w' ⟨rfl, rfl⟩)
  rename_i K0 hK0
  obtain ⟨k1, k2, k3, k4⟩ := two_new w #[.int .i64 op, .int .i64 F, .int .i64 R, .int .i64 K, .int .i64 L] #[.int .i64 0, .int .i64 0, .int .i64 0, .int .i64 0, .int .i64 0] 86 52
  generalize (w.alloc (.cells #[.int .i64 op, .int .i64 F, .int .i64 R, .int .i64 K, .int .i64 L] 86)).alloc (.cells #[.int .i64 0, .int .i64 0, .int .i64 0, .int .i64 0, .int .i64 0] 52) = W5 at k1 k2 k3 k4 ⊢
  have c1 := cell_blk (i := 1) k1 rfl
  have c3 := cell_blk (i := 3) k1 rfl
  have c4 := cell_blk (i := 4) k1 rfl
  refine (wpIn_wide (n := 9)).1 ?_
  refine region_split (F := FW) (C := fun w' => ∃ n, w' = W5.drewN n) (ro := none) (k := 14) (r := 1) hmix rfl (by kernel_rfl) (by kernel_rfl) ⟨1, rfl⟩ ?_
  simp only [List.take_succ_cons, List.take_zero]
  repeat (gi_big_quiet_step (fail))
  refine BigFrame.wpQuietIn_want (fun _ _ _ _ => trivial) rfl ?_
  intro KK hKK
  gi_big_quiet_op
  apply Exists.intro
  refine ⟨fun _ => ?_, ?_⟩
  · exact (callsIn_wide.2 (HR.out _)).mono (fun e w' he => ⟨he.1, _, he.2⟩)
  go_big_quiet_on
  repeat (gi_big_quiet_step (fail))
  refine wpQuietIn_nil ?_
  intro _ hw'
  obtain ⟨nq, hw''⟩ := hw'
  subst hw''
  refine wpAnyIn_ready (rs := [14]) (by kernel_rfl) (by simp) ?_
  refine AllReadyIn.cons rfl (fun KK hKK => ?_) AllReadyIn.nil
  have u0 := cell_blk (i := 0) k2 rfl
  have u1 := cell_blk (i := 1) k2 rfl
  have u2 := cell_blk (i := 2) k2 rfl
  have u3 := cell_blk (i := 3) k2 rfl
  have u4 := cell_blk (i := 4) k2 rfl
  have v0 := frz_blk 0 k2
  have v1 := frz_blk 1 k2
  have v2 := frz_blk 2 k2
  have v3 := frz_blk 3 k2
  have v4 := frz_blk 4 k2
  go_simp
  refine hKK _ _ ?_
  clear hKK KK
  refine wpAnyIn_done (by kernel_rfl) ?_ _
  refine hK0 _ _ ?_
  clear hK0
  have k6 := five_put (W := W5.drewN nq) k2 (.int .i64 4) (.int .i64 ((f : Int) + 1 + r)) (.int .i64 0) (.int .i64 K) (.int .i64 L)
  have k7 : Below w.heap.size w (((((((W5.drewN nq).setCell ⟨w.heap.size + 1, 0, none⟩ (.int .i64 4)).setCell ⟨w.heap.size + 1, 1, none⟩ (.int .i64 ((f : Int) + 1 + r))).setCell ⟨w.heap.size + 1, 2, none⟩ (.int .i64 0)).setCell ⟨w.heap.size + 1, 3, none⟩ (.int .i64 K)).setCell ⟨w.heap.size + 1, 4, none⟩ (.int .i64 L))) := (((((below_drewN k4 nq).setCell (p := ⟨w.heap.size + 1, 0, none⟩) (Nat.le_succ _) _).setCell (p := ⟨w.heap.size + 1, 1, none⟩) (Nat.le_succ _) _).setCell (p := ⟨w.heap.size + 1, 2, none⟩) (Nat.le_succ _) _).setCell (p := ⟨w.heap.size + 1, 3, none⟩) (Nat.le_succ _) _).setCell (p := ⟨w.heap.size + 1, 4, none⟩) (Nat.le_succ _) _
  generalize ((((((W5.drewN nq).setCell ⟨w.heap.size + 1, 0, none⟩ (.int .i64 4)).setCell ⟨w.heap.size + 1, 1, none⟩ (.int .i64 ((f : Int) + 1 + r))).setCell ⟨w.heap.size + 1, 2, none⟩ (.int .i64 0)).setCell ⟨w.heap.size + 1, 3, none⟩ (.int .i64 K)).setCell ⟨w.heap.size + 1, 4, none⟩ (.int .i64 L)) = W6 at k6 k7 ⊢
  clear u0 u1 u2 u3 u4 v0 v1 v2 v3 v4
  have hc0 := cell_blk (i := 0) k6 rfl
  have hc1 := cell_blk (i := 1) k6 rfl
  have hc2 := cell_blk (i := 2) k6 rfl
  have hc3 := cell_blk (i := 3) k6 rfl
  have hc4 := cell_blk (i := 4) k6 rfl
  go_wp2
  refine bodyPost_ret (v := .agg #[.int .i64 4, .int .i64 ((f : Int) + 1 + r), .int .i64 0, .int .i64 K, .int .i64 L]) (by simp only [results, Try.f30, go_sem]; simp [go_sem, hc0, hc1, hc2, hc3, hc4]; done) rfl ⟨rfl, k7⟩

theorem ins_calls (l : Ins) (f : Nat) (w : World) (hl : l.wf) (hf : f < 4) : Calls Try.prog 30 #[l.agg, .int .i64 (f : Int)] w fun e w' => e = .returned (insN l (f : Int)).agg ∧ Below w.heap.size w w' := by
  obtain ⟨o0, o1⟩ := pickN_lt (c := l.op) (n := 5) (by omega)
  obtain ⟨o, ho⟩ : ∃ o, pickN l.op 5 = o := ⟨_, rfl⟩
  rw [ho] at o0 o1
  obtain rfl | rfl | rfl | rfl | rfl : o = 0 ∨ o = 1 ∨ o = 2 ∨ o = 3 ∨ o = 4 := by omega
  · have e : opN l (f : Int) = 1 := by unfold opN; rw [ho]; exact if_neg (by omega)
    have e2 : insN l (f : Int) = ⟨1, 0, pickN l.r 4, l.k, l.l⟩ := by unfold insN; rw [e]; rfl
    rw [e2]
    exact ins_put l f 0 w hl hf ho (.inl rfl)
  · have e : opN l (f : Int) = 2 := by unfold opN; rw [ho]; exact if_neg (by omega)
    have e2 : insN l (f : Int) = ⟨2, 0, pickN l.r 4, drK l.k, 0⟩ := by unfold insN; rw [e]; rfl
    rw [e2]
    exact ins_draw l f w hl hf ho
  · by_cases h3 : f = 3
    · have e : opN l (f : Int) = 1 := by unfold opN; rw [ho]; exact if_pos (by omega)
      have e2 : insN l (f : Int) = ⟨1, 0, pickN l.r 4, l.k, l.l⟩ := by unfold insN; rw [e]; rfl
      rw [e2]
      exact ins_put l f 2 w hl hf ho (.inr ⟨h3, .inl rfl⟩)
    · have e : opN l (f : Int) = 3 := by unfold opN; rw [ho]; exact if_neg (by omega)
      have e2 : insN l (f : Int) = ⟨3, (f : Int) + 1 + pickN l.f (3 - (f : Int)), 0, l.k, l.l⟩ := by unfold insN; rw [e]; rfl
      rw [e2]
      exact ins_spawn l f w hl (by omega) ho
  · by_cases h3 : f = 3
    · have e : opN l (f : Int) = 1 := by unfold opN; rw [ho]; exact if_pos (by omega)
      have e2 : insN l (f : Int) = ⟨1, 0, pickN l.r 4, l.k, l.l⟩ := by unfold insN; rw [e]; rfl
      rw [e2]
      exact ins_put l f 3 w hl hf ho (.inr ⟨h3, .inr rfl⟩)
    · have e : opN l (f : Int) = 4 := by unfold opN; rw [ho]; exact if_neg (by omega)
      have e2 : insN l (f : Int) = ⟨4, (f : Int) + 1 + pickN l.f (3 - (f : Int)), 0, l.k, l.l⟩ := by unfold insN; rw [e]; rfl
      rw [e2]
      exact ins_call l f w hl (by omega) ho
  · have e : opN l (f : Int) = 5 := by unfold opN; rw [ho]; exact if_neg (by omega)
    have e2 : insN l (f : Int) = ⟨5, 0, 0, 0, 0⟩ := by unfold insN; rw [e]; rfl
    rw [e2]
    exact ins_sync l f w hl hf ho
end Go.Proofs.Ytkmakliebhnhbaa

/- Plans: the program that a plan makes may be. -/
namespace Go.Proofs.Ytkmakliebhnhbaa
open Go.RowKit Go.Shelf

theorem drK_ok {k : Int} (h : i64 k) : 1 ≤ drK k ∧ i64 (drK k) := by
  unfold drK
  unfold i64 at h ⊢
  split
  · rename_i hk
    rcases Int.lt_or_eq_of_le (show k ≤ 0 by omega) with h0 | h0
    · have h1 : k.tmod 1000 = -((-k).tmod 1000) := by rw [Int.neg_tmod]; omega
      have h2 := Int.tmod_nonneg 1000 (show 0 ≤ -k by omega)
      have h3 := Int.tmod_lt_of_pos (-k) (show (0 : Int) < 1000 by omega)
      omega
    · subst h0
      decide
  · omega
theorem opN_of (l : Ins) (f : Nat) (hf : f < 4) : opN l f = 1 ∨ opN l f = 2 ∨ opN l f = 5 ∨ ((opN l f = 3 ∨ opN l f = 4) ∧ f < 3) := by
  have := pickN_lt (c := l.op) (n := 5) (by omega)
  unfold opN
  split <;> omega
theorem insN_may (l : Ins) (f : Nat) (hl : l.wf) (hf : f < 4) : mayB 4 4 f (insN l f) = true ∧ (insN l f).wf := by
  obtain ⟨h1, h2, h3, h4, h5⟩ := hl
  have hr := pickN_lt (c := l.r) (n := 4) (by omega)
  have hd := drK_ok h4
  rcases opN_of l f hf with h | h | h | ⟨h, hf3⟩
  · have e : insN l f = ⟨1, 0, pickN l.r 4, l.k, l.l⟩ := by unfold insN; rw [if_pos h]
    rw [e]
    refine ⟨?_, ?_⟩
    · unfold mayB; simp; omega
    · refine ⟨?_, ?_, ?_, h4, h5⟩ <;> simp only <;> unfold i64 <;> omega
  · have e : insN l f = ⟨2, 0, pickN l.r 4, drK l.k, 0⟩ := by unfold insN; rw [if_neg (by omega), if_pos h]
    rw [e]
    refine ⟨?_, ?_⟩
    · unfold mayB; simp; omega
    · refine ⟨?_, ?_, ?_, hd.2, ?_⟩ <;> simp only <;> unfold i64 <;> omega
  · have e : insN l f = ⟨5, 0, 0, 0, 0⟩ := by unfold insN; rw [if_neg (by omega), if_neg (by omega), if_pos h]
    rw [e]
    refine ⟨?_, ?_⟩
    · unfold mayB; simp
    · refine ⟨?_, ?_, ?_, ?_, ?_⟩ <;> simp only <;> unfold i64 <;> omega
  · have e : insN l f = ⟨opN l f, f + 1 + pickN l.f (3 - f), 0, l.k, l.l⟩ := by unfold insN; rw [if_neg (by omega), if_neg (by omega), if_neg (by omega)]
    have hp := pickN_lt (c := l.f) (n := 3 - (f : Int)) (by omega)
    rw [e]
    refine ⟨?_, ?_⟩
    · unfold mayB
      rw [if_neg (by simp only; omega), if_neg (by simp only; omega), if_pos h]
      simp; omega
    · refine ⟨?_, ?_, ?_, h4, h5⟩ <;> simp only <;> unfold i64 <;> omega

def codeF (l : List Ins) (f : Nat) : List Ins := (l.take 6).map (insN · f)
def codeN (ls : Nat → List Ins) : List (List Ins) := (List.range 4).map fun f => codeF (ls f) f
def kindsN (ks : Nat → Int) : List Int := (List.range 4).map fun r => 1 + pickN (ks r) 5
def LsWf (ls : Nat → List Ins) : Prop := ∀ f, f < 4 → ∀ i ∈ ls f, i.wf
theorem codeN_len (ls : Nat → List Ins) : (codeN ls).length = 4 := by simp [codeN]
theorem kindsN_len (ks : Nat → Int) : (kindsN ks).length = 4 := by simp [kindsN]
theorem codeN_at (ls : Nat → List Ins) {f : Nat} (hf : f < 4) : (codeN ls)[f]? = some (codeF (ls f) f) := by
  unfold codeN
  rw [List.getElem?_map, List.getElem?_range hf]
  rfl
theorem kindsN_at (ks : Nat → Int) {r : Nat} (hr : r < 4) : (kindsN ks)[r]? = some (1 + pickN (ks r) 5) := by
  unfold kindsN
  rw [List.getElem?_map, List.getElem?_range hr]
  rfl
theorem codeF_len (l : List Ins) (f : Nat) : (codeF l f).length ≤ 6 := by simp [codeF]; omega
theorem codeF_mem {l : List Ins} {f : Nat} (hf : f < 4) (hl : ∀ i ∈ l, i.wf) : ∀ i ∈ codeF l f, mayB 4 4 f i = true ∧ i.wf := by
  intro i hi
  obtain ⟨j, hj, rfl⟩ := List.mem_map.1 hi
  exact insN_may j f (hl j (List.mem_of_mem_take hj)) hf
theorem codeN_mem {ls : Nat → List Ins} {l : List Ins} (hl : l ∈ codeN ls) : ∃ f, f < 4 ∧ l = codeF (ls f) f := by
  obtain ⟨f, hf, rfl⟩ := List.mem_map.1 hl
  exact ⟨f, List.mem_range.1 hf, rfl⟩
theorem codeN_wf {ls : Nat → List Ins} (h : LsWf ls) : FsWf (codeN ls) := by
  intro l hl i hi
  obtain ⟨f, hf, rfl⟩ := codeN_mem hl
  exact (codeF_mem hf (h f hf) i hi).2
theorem codeN_small (ls : Nat → List Ins) (ks : Nat → Int) : Small (codeN ls) (kindsN ks) := by
  refine ⟨by rw [codeN_len]; omega, by rw [kindsN_len]; omega, fun l hl => ?_⟩
  obtain ⟨f, hf, rfl⟩ := codeN_mem hl
  have := codeF_len (ls f) f
  omega
theorem kindsN_ok (ks : Nat → Int) : ∀ r ∈ kindsN ks, 1 ≤ r ∧ r ≤ 5 := by
  intro r hr
  obtain ⟨j, _, rfl⟩ := List.mem_map.1 hr
  have := pickN_lt (c := ks j) (n := 5) (by omega)
  omega

theorem capN_self (m : Nat) : capN m ≤ m := by unfold capN; split <;> omega
theorem foldC_bd (C : Nat → Nat) (B : Nat) (hC : ∀ x, C x ≤ B) (l : List Ins) (c : Nat) : l.foldl (addC C) c ≤ c + l.length * B := by
  induction l generalizing c with
  | nil => simp
  | cons i t ih =>
    refine Nat.le_trans (ih _) ?_
    have h1 : addC C c i ≤ c + B := by
      unfold addC
      refine Nat.le_trans (capN_self _) ?_
      split
      · have := hC i.f.toNat; omega
      · omega
    rw [List.length_cons, Nat.add_mul]
    omega
theorem cntsC_bd {fs : List (List Ins)} (hl : ∀ l ∈ fs, l.length ≤ 6) {j B : Nat} (hB : ∀ x, cntsC fs j x ≤ B) : ∀ x, cntsC fs (j + 1) x ≤ 1 + 6 * B := by
  intro x
  unfold cntsC
  split
  · refine Nat.le_trans (foldC_bd _ B hB _ 1) ?_
    have : (fs[fs.length - 1 - j]?.getD []).length ≤ 6 := by
      cases h : fs[fs.length - 1 - j]? with
      | none => simp
      | some l => exact hl l (List.mem_of_getElem? h)
    have := Nat.mul_le_mul_right B this
    omega
  · have := hB x; omega
theorem codeN_check {ls : Nat → List Ins} (ks : Nat → Int) (h : LsWf ls) : check (codeN ls) (kindsN ks) = (0, 0) := by
  have h4 := codeN_len ls
  have hr := kindsN_len ks
  have hl : ∀ l ∈ codeN ls, l.length ≤ 6 := fun l hl => by
    obtain ⟨f, _, rfl⟩ := codeN_mem hl
    exact codeF_len _ _
  rw [check_5 (by omega) (by omega)
    (firstBad_none fun j hj => by
      obtain ⟨r, hr'⟩ : ∃ r, (kindsN ks)[j]? = some r := ⟨_, List.getElem?_eq_getElem hj⟩
      have := kindsN_ok ks r (List.mem_of_getElem? hr')
      unfold badR
      rw [hr']
      simp; omega)
    (firstBad_none fun f hf => by
      rw [h4] at hf
      refine badF_false (codeN_at ls hf) (by have := codeF_len (ls f) f; omega) (fun i hi => ?_)
      rw [h4, hr]
      exact (codeF_mem hf (h f hf) i hi).1)]
  have b0 : ∀ x, cntsC (codeN ls) 0 x ≤ 0 := fun x => by simp [cntsC]
  have b4 := cntsC_bd hl (cntsC_bd hl (cntsC_bd hl (cntsC_bd hl b0)))
  have : framesC (codeN ls) ≤ 300 := by
    unfold framesC
    rw [h4]
    exact Nat.le_trans (b4 0) (by omega)
  rw [if_neg (by omega)]
end Go.Proofs.Ytkmakliebhnhbaa

/- Plans: kinds walked. -/
namespace Go.Proofs.Ytkmakliebhnhbaa
open Go.RowKit Go.Shelf

/-- A plan's cells. -/
def plC (sl : Nat → Value) (ks : Nat → Int) : Array Value := #[sl 0, sl 1, sl 2, sl 3, .int .i64 (ks 0), .int .i64 (ks 1), .int .i64 (ks 2), .int .i64 (ks 3)]
theorem plC_k {W : World} {b : Nat} {sl : Nat → Value} {ks : Nat → Int} {t : TypeId} (h : W.heap[b]? = some (.cells (plC sl ks) t (0, 0))) {r : Nat} (hr : r < 4) : W.cell? ⟨b, 4 + r, none⟩ = some (.int .i64 (ks r)) := by
  refine cell_blk h ?_
  match r, hr with
  | 0, _ => rfl
  | 1, _ => rfl
  | 2, _ => rfl
  | 3, _ => rfl
theorem plC_s {W : World} {b : Nat} {sl : Nat → Value} {ks : Nat → Int} {t : TypeId} (h : W.heap[b]? = some (.cells (plC sl ks) t (0, 0))) {f : Nat} (hf : f < 4) : W.cell? ⟨b, f, none⟩ = some (sl f) := by
  refine cell_blk h ?_
  match f, hf with
  | 0, _ => rfl
  | 1, _ => rfl
  | 2, _ => rfl
  | 3, _ => rfl

theorem app_keeps {w W W' : World} {n : Nat} {xs : List Value} {e : TypeId} {size : Nat} {v : Value} {o ox : Obj} (hb : Below w.heap.size w W) (hr : W.ownsRow (w.heap.size + 1) e size v n xs) (hs : w.heap.size < W.heap.size) (hx : W.heap[w.heap.size]? = some ox) (hg : (W.alloc o).grownBy W' v.ownBlock) : Below w.heap.size w W' ∧ W'.heap[w.heap.size]? = some ox := by
  refine ⟨(hb.alloc hb.size o).grown hg (by simp; omega) (fun q hq => ?_), ?_⟩
  · have := (hr.lt q hq).1
    omega
  · rw [hg.block _ (by simp; omega) (fun h => ?_), Below.heap_alloc _ _ _ hs]
    · exact hx
    · have := (hr.lt _ h.symm).1
      omega

set_option maxHeartbeats 4000000 in
set_option maxRecDepth 100000 in
theorem plKinds_calls (s0 s1 s2 s3 : Option Addr) (n0 n1 n2 n3 c0 c1 c2 c3 : Nat) (ks : Nat → Int) (w : World) (hk : ∀ r, r < 4 → i64 (ks r)) :
    Calls Try.prog 11 #[.agg #[.slice s0 n0 c0, .slice s1 n1 c1, .slice s2 n2 c2, .slice s3 n3 c3, .int .i64 (ks 0), .int .i64 (ks 1), .int .i64 (ks 2), .int .i64 (ks 3)]] w fun e w' => ∃ v, e = .returned v ∧ w'.ownsRow w.heap.size 3 1 v 4 (flat int64s (kindsN ks)) ∧ Below w.heap.size w w' := by
  obtain ⟨i2, hi2, hy0, hy1, hy2⟩ := info_parts Try.infoInt2
  have hsl : ∃ sl : Nat → Value, sl 0 = .slice s0 n0 c0 ∧ sl 1 = .slice s1 n1 c1 ∧ sl 2 = .slice s2 n2 c2 ∧ sl 3 = .slice s3 n3 c3 := ⟨fun f => if f = 0 then .slice s0 n0 c0 else if f = 1 then .slice s1 n1 c1 else if f = 2 then .slice s2 n2 c2 else .slice s3 n3 c3, rfl, rfl, rfl, rfl⟩
  obtain ⟨sl, e0, e1, e2, e3⟩ := hsl
  have hpl : plC sl ks = #[.slice s0 n0 c0, .slice s1 n1 c1, .slice s2 n2 c2, .slice s3 n3 c3, .int .i64 (ks 0), .int .i64 (ks 1), .int .i64 (ks 2), .int .i64 (ks 3)] := by unfold plC; rw [e0, e1, e2, e3]
  have HN := hide (World.alloc_heap_new w (.cells (plC sl ks) 26))
  have HB := hide ((Below.refl _ w).alloc (Nat.le_refl _) (.cells (plC sl ks) 26))
  rw [hpl] at HN HB
  have HPL := hide hpl
  have Hk := hide hk
  clear e0 e1 e2 e3 hk hpl
  go_enter Try.func11, Try.ntmps11
  go_wp2
  generalize w.alloc (.cells #[.slice s0 n0 c0, .slice s1 n1 c1, .slice s2 n2 c2, .slice s3 n3 c3, .int .i64 (ks 0), .int .i64 (ks 1), .int .i64 (ks 2), .int .i64 (ks 3)] 26) = W1 at HN HB ⊢
  rw [← HPL.out] at HN
  go_loopw [3, 4] (fun out i wr => ∃ k : Nat, k ≤ 4 ∧ i = .int .i64 k ∧ wr.ownsRow (w.heap.size + 1) 3 1 out k (flat int64s ((kindsN ks).take k)) ∧ wr.heap[w.heap.size]? = some (.cells (plC sl ks) 26 (0, 0)) ∧ Below w.heap.size w wr) (fun _ i _ => 4 - (intOf i).toNat)
  case atStart => exact ⟨0, by omega, rfl, World.ownsRow_nil _ _ _ _, HN.out, HB.out⟩
  case round =>
    obtain ⟨k, hk4, rfl, hrow, hbx, hbl⟩ := hrel
    obtain ⟨va, vc, rfl⟩ := own_form hrow
    by_cases hlt : k < 4
    · have q := plC_k hbx hlt
      have hkr := kindsN_at ks hlt
      have HP := hide (pick_calls (ks k) 5 wr (Hk.out k hlt) (by omega) (by omega))
      have hpk := pickN_lt (c := ks k) (n := 5) (by omega)
      obtain ⟨z, hz⟩ : ∃ z, pickN (ks k) 5 = z := ⟨_, rfl⟩
      rw [hz] at HP hkr hpk
      clear hz
      have hki : (k : Int) < 4 := by omega
      have hsz : w.heap.size < wr.heap.size := (Array.getElem?_eq_some_iff.1 hbx).1
      have HROW := hide hrow
      have HBX := hide hbx
      have HBL := hide hbl
      have HKR := hide hkr
      clear hrow hbx hbl hkr
      go_wp2_with (first
        | (go_at_call 16; refine HP.out.mono ?_; rintro e w' ⟨rfl, rfl⟩)
        | (at_builtin; refine wpList_app2 _ rfl _ _ 31 rfl (w.heap.size + 1) 3 i2 _ 1 8 Try.underlying31 hi2 hy0 hy1 hy2 rfl (by decide) _ _ _ rfl (HROW.out.alloc _) _ 1 [.int .i64 (1 + z)] rfl ?hsrc (by simp [Value.oneCell']) ?h63 ?hbytes ?hbase ?_))
      case hsrc => exact cells1 _ _ _ _ rfl
      case h63 => unfold maxLen; omega
      case hbytes => omega
      case hbase => simp; omega
      intro a7 c7 w7 ho7 hg7 _ _ _
      obtain ⟨hb7, hx7⟩ := app_keeps HBL.out HROW.out hsz HBX.out hg7
      have HO7 := hide ho7
      have HB7 := hide hb7
      have HX7 := hide hx7
      clear ho7 hg7 hb7 hx7 q hi2 hy0 hy1 hy2
      go_wp2
      go_roundw
      case rel =>
        refine ⟨k + 1, by omega, by go_num, ?_, HX7.out, HB7.out⟩
        rw [take_succ_of HKR.out, flat_append]
        exact HO7.out
      case measure => simp [intOf]; omega
    · obtain rfl : k = 4 := by omega
      have HROW := hide hrow
      have HBL := hide hbl
      clear hrow hbl hbx
      go_wp2
      go_ret
      refine ⟨_, rfl, ?_, HBL.out⟩
      have := HROW.out
      rw [List.take_of_length_le (by rw [kindsN_len]; omega)] at this
      exact own_base this (by omega)
end Go.Proofs.Ytkmakliebhnhbaa

/- Plans: code walked. -/
namespace Go.Proofs.Ytkmakliebhnhbaa
open Go.RowKit Go.Shelf

/-- Rows of two types lie in two blocks. -/
theorem own_apart {W : World} {b1 b2 s1 s2 n1 n2 : Nat} {e1 e2 : TypeId} {v1 v2 : Value} {x1 x2 : List Value} (h1 : W.ownsRow b1 e1 s1 v1 n1 x1) (h2 : W.ownsRow b2 e2 s2 v2 n2 x2) (he : e1 ≠ e2) : v1.ownBlock = none ∨ v1.ownBlock ≠ v2.ownBlock := by
  rcases h1.2 with ⟨rfl, _⟩ | ⟨g, c, cur, rfl, _, hg, _⟩
  · exact .inl rfl
  · refine .inr fun h => ?_
    rcases h2.2 with ⟨rfl, _⟩ | ⟨g2, c2, cur2, rfl, _, hg2, _⟩
    · simp [Value.ownBlock] at h
    · obtain rfl : g = g2 := by simpa [Value.ownBlock] using h
      rw [hg] at hg2
      cases hg2
      exact he rfl

/-- While a plan's code is made: k functions are there. -/
structure PlCode (w W : World) (bx : Array Value) (ls : Nat → List Ins) (out : Value) (k : Nat) : Prop where
  below : Below w.heap.size w W
  box : W.heap[w.heap.size]? = some (.cells bx 26 (0, 0))
  own : ∃ us, us.length = k ∧ W.ownsRow (w.heap.size + 1) 53 1 out k us ∧ ∀ (j : Nat) (u : Value), us[j]? = some u → W.ownsRow (w.heap.size + 1) 52 5 u (codeF (ls j) j).length (flat Ins.vals (codeF (ls j) j))

theorem PlCode.lt {w W : World} {bx : Array Value} {ls : Nat → List Ins} {out : Value} {k : Nat} (h : PlCode w W bx ls out k) : w.heap.size < W.heap.size := (Array.getElem?_eq_some_iff.1 h.box).1
theorem PlCode.turn {w W W' : World} {bx : Array Value} {ls : Nat → List Ins} {out : Value} {k : Nat} (h : PlCode w W bx ls out k) (hb : Below W.heap.size W W') : PlCode w W' bx ls out k := by
  obtain ⟨us, h1, h2, h3⟩ := h.own
  exact ⟨h.below.trans (hb.mono h.below.size), (hb.block _ h.lt).trans h.box, us, h1, own_below h2 hb, fun j u hj => own_below (h3 j u hj) hb⟩
theorem PlCode.next {w W W' : World} {bx : Array Value} {ls : Nat → List Ins} {out l out' : Value} {k : Nat} {o : Obj} {us : List Value} (h : PlCode w W bx ls out k) (h1 : us.length = k) (h2 : W.ownsRow (w.heap.size + 1) 53 1 out k us) (h3 : ∀ (j : Nat) (u : Value), us[j]? = some u → W.ownsRow (w.heap.size + 1) 52 5 u (codeF (ls j) j).length (flat Ins.vals (codeF (ls j) j)))
    (hl : W.ownsRow (w.heap.size + 1) 52 5 l (codeF (ls k) k).length (flat Ins.vals (codeF (ls k) k))) (hg : (W.alloc o).grownBy W' out.ownBlock) (ho : W'.ownsRow (w.heap.size + 1) 53 1 out' (k + 1) (us ++ [l])) : PlCode w W' bx ls out' (k + 1) := by
  obtain ⟨k1, k2⟩ := app_keeps h.below h2 h.lt h.box hg
  have tr : ∀ {u : Value} {n : Nat} {xs : List Value}, W.ownsRow (w.heap.size + 1) 52 5 u n xs → W'.ownsRow (w.heap.size + 1) 52 5 u n xs := fun hu => (hu.alloc o).kept hg (own_apart hu h2 (by decide))
  refine ⟨k1, k2, us ++ [l], by simp [h1], ho, fun j u hj => ?_⟩
  by_cases hjk : j < k
  · rw [List.getElem?_append_left (by omega)] at hj
    exact tr (h3 j u hj)
  · have hj2 := (List.getElem?_eq_some_iff.1 hj).1
    simp at hj2
    obtain rfl : j = k := by omega
    rw [List.getElem?_append_right (by omega)] at hj
    simp [h1] at hj
    subst hj
    exact tr hl
theorem PlCode.done {w W : World} {bx : Array Value} {ls : Nat → List Ins} {out : Value} (h : PlCode w W bx ls out 4) : RdF (fun b => w.heap.size ≤ b) W out (codeN ls) := by
  obtain ⟨us, h1, h2, h3⟩ := h.own
  refine ⟨us, by rw [codeN_len, h1], ?_, fun j u l hj hl => ?_⟩
  · refine own_rd (base := w.heap.size + 1) (e := 53) ?_ (fun _ => rfl) (fun b hb => by have := (h2.lt b hb).1; omega)
    have hf : ∀ l : List Value, flat one l = l := fun l => by
      induction l with
      | nil => rfl
      | cons x t ih => simp only [flat, List.flatMap_cons, one] at *; rw [ih]; rfl
    rw [hf us, h1]
    exact h2
  · have hj4 : j < 4 := by have := (List.getElem?_eq_some_iff.1 hj).1; omega
    rw [codeN_at ls hj4] at hl
    cases hl
    exact own_rd (base := w.heap.size + 1) (e := 52) (h3 j u hj) insvals_len (fun b hb => by have := ((h3 j u hj).lt b hb).1; omega)

set_option maxHeartbeats 4000000 in
set_option maxRecDepth 100000 in
theorem plCode_calls (sa : Nat → Option Addr) (sn sc : Nat → Nat) (ks : Nat → Int) (ls : Nat → List Ins) (S : Nat → Prop) (w : World) (hw : LsWf ls) (hR : ∀ f, f < 4 → RdL S w 5 Ins.vals (.slice (sa f) (sn f) (sc f)) (ls f)) :
    Calls Try.prog 22 #[.agg #[.slice (sa 0) (sn 0) (sc 0), .slice (sa 1) (sn 1) (sc 1), .slice (sa 2) (sn 2) (sc 2), .slice (sa 3) (sn 3) (sc 3), .int .i64 (ks 0), .int .i64 (ks 1), .int .i64 (ks 2), .int .i64 (ks 3)]] w fun e w' => ∃ v, e = .returned v ∧ RdF (fun b => w.heap.size ≤ b) w' v (codeN ls) ∧ Below w.heap.size w w' := by
  obtain ⟨i6, hi6, hy0, hy1, hy2⟩ := info_parts Try.infoIns2
  obtain ⟨ii, hii, hz0, hz1, hz2⟩ := info_parts Try.infoLIns
  obtain ⟨bx, hbx⟩ : ∃ bx, plC (fun f => .slice (sa f) (sn f) (sc f)) ks = bx := ⟨_, rfl⟩
  have HN := hide (World.alloc_heap_new w (.cells #[.slice (sa 0) (sn 0) (sc 0), .slice (sa 1) (sn 1) (sc 1), .slice (sa 2) (sn 2) (sc 2), .slice (sa 3) (sn 3) (sc 3), .int .i64 (ks 0), .int .i64 (ks 1), .int .i64 (ks 2), .int .i64 (ks 3)] 26))
  have HB := hide ((Below.refl _ w).alloc (Nat.le_refl _) (.cells #[.slice (sa 0) (sn 0) (sc 0), .slice (sa 1) (sn 1) (sc 1), .slice (sa 2) (sn 2) (sc 2), .slice (sa 3) (sn 3) (sc 3), .int .i64 (ks 0), .int .i64 (ks 1), .int .i64 (ks 2), .int .i64 (ks 3)] 26))
  have HBX := hide hbx
  have HR := hide hR
  have Hw := hide hw
  clear hR hw hbx
  go_enter Try.func22, Try.ntmps22
  go_wp2
  generalize w.alloc (.cells #[.slice (sa 0) (sn 0) (sc 0), .slice (sa 1) (sn 1) (sc 1), .slice (sa 2) (sn 2) (sc 2), .slice (sa 3) (sn 3) (sc 3), .int .i64 (ks 0), .int .i64 (ks 1), .int .i64 (ks 2), .int .i64 (ks 3)] 26) = W1 at HN HB ⊢
  go_loopw [3, 4] (fun out i wr => ∃ k : Nat, k ≤ 4 ∧ i = .int .i64 k ∧ PlCode w wr bx ls out k) (fun _ i _ => 4 - (intOf i).toNat)
  case atStart => exact ⟨0, by omega, rfl, HB.out, by rw [← HBX.out]; exact HN.out, [], rfl, World.ownsRow_nil _ _ _ _, fun j u hj => by simp at hj⟩
  case round =>
    obtain ⟨k, hk4, rfl, hrow⟩ := hrel
    obtain ⟨wo, hwo⟩ : ∃ wo, wo = wr := ⟨_, rfl⟩
    subst hwo
    obtain ⟨us, hu1, hu2, hu3⟩ := hrow.own
    obtain ⟨va, vc, rfl⟩ := own_form hu2
    by_cases hlt : k < 4
    · have HROW := hide hrow
      have hki : (k : Int) < 4 := by omega
      have hsz := hrow.lt
      have hx := HR.out k hlt
      obtain ⟨xa, xc, he, hc, hm⟩ := hx.form
      have hx2 := hx.below hrow.below (fun x _ => List.cons_ne_nil _ _)
      injection he with e1 e2 e3
      have HX := hide hx2
      have HE := hide e2
      have hm2 : sn k ≤ 9223372036854775807 := by unfold maxLen at hm; omega
      have HU := hide (And.intro hu1 (And.intro hu2 hu3))
      clear hx hx2 e1 e2 e3 hc hm hrow hu1 hu2 hu3
      go_wp2
      go_loopw [5, 6] (fun l i wx => ∃ j : Nat, j ≤ (codeF (ls k) k).length ∧ i = .int .i64 j ∧ Below wo.heap.size wo wx ∧ wx.ownsRow wo.heap.size 52 5 l j (flat Ins.vals ((codeF (ls k) k).take j))) (fun _ i _ => 6 - (intOf i).toNat)
      case atStart => exact ⟨0, by omega, rfl, Below.refl _ _, World.ownsRow_nil _ _ _ _⟩
      case round =>
        obtain ⟨j, hj, rfl, hbl, hl⟩ := hrel
        obtain ⟨la, lc, rfl⟩ := own_form hl
        have hs : wo.heap.size ≤ wr.heap.size := hbl.size
        have q : wr.cell? ⟨w.heap.size, k, none⟩ = some (.slice (sa k) (sn k) (sc k)) := plC_s (sl := fun f => .slice (sa f) (sn f) (sc f)) (ks := ks) (t := 26) (by rw [HBX.out]; exact (HROW.out.turn hbl).box) hlt
        have hlen : (codeF (ls k) k).length = min 6 (ls k).length := by simp [codeF]
        rw [← HE.out] at hlen
        by_cases hjl : j < (codeF (ls k) k).length
        · have hjn : (j : Int) < sn k := by omega
          have hj6 : (j : Int) < 6 := by omega
          obtain ⟨i, hi⟩ : ∃ i, (ls k)[j]? = some i := ⟨_, List.getElem?_eq_getElem (by have := HE.out; omega)⟩
          have hci : (codeF (ls k) k)[j]? = some (insN i k) := by
            unfold codeF
            rw [List.getElem?_map, List.getElem?_take_of_lt (by omega), hi]
            rfl
          obtain ⟨b, off, hsa, _, g0, g1, g2, g3, g4⟩ := (HX.out.below hbl (fun x _ => List.cons_ne_nil _ _)).ins hi
          rw [hsa] at q
          have HI := hide (ins_calls i k wr (Hw.out k hlt i (List.mem_of_getElem? hi)) hlt)
          obtain ⟨y, hy⟩ : ∃ y, insN i k = y := ⟨_, rfl⟩
          rw [hy] at HI hci
          clear hy
          obtain ⟨y0, y1, y2, y3, y4⟩ := y
          simp only [Ins.agg] at HI
          have HCI := hide hci
          have HL := hide hl
          have HBL := hide hbl
          clear hci hl hbl hlen hsa hi
          go_wp2_with (first
            | (go_at_call 30; refine HI.out.mono ?_; rintro e w6 ⟨rfl, hb6⟩)
            | (at_builtin; refine wpList_app2 _ rfl _ _ 53 rfl wo.heap.size 52 i6 _ 5 40 Try.underlying53 hi6 hy0 hy1 hy2 rfl (by decide) _ _ _ rfl ((own_below HL.out hb6).alloc _) _ 1 (Ins.vals ⟨y0, y1, y2, y3, y4⟩) rfl ?hsrc (by simp [Ins.vals, Value.oneCell']) ?h63 ?hbytes ?hbase ?_))
          case hsrc => exact srcA _ _ _ _ 0 _ rfl rfl _ _ rfl
          case h63 => unfold maxLen; omega
          case hbytes => omega
          case hbase => have := hb6.size; simp; omega
          intro a7 c7 w7 ho7 hg7 _ _ _
          have hs6 := hb6.size
          have hb7 : Below wo.heap.size wo w7 := ((HBL.out.trans (hb6.mono hs)).alloc (by omega) _).grown hg7 (by simp; omega) (fun q hq => (HL.out.lt q hq).1)
          have HO7 := hide ho7
          have HB7 := hide hb7
          clear ho7 hg7 hb7 q
          go_wp2
          go_roundw
          case rel =>
            refine ⟨j + 1, by omega, by go_num, HB7.out, ?_⟩
            rw [take_succ_of HCI.out, flat_append]
            exact HO7.out
          case measure => simp [intOf]; omega
        · obtain rfl : j = (codeF (ls k) k).length := by omega
          have HP := hide (HROW.out.turn hbl)
          have HL := hide (own_base hl HROW.out.lt)
          rw [List.take_length] at HL
          obtain ⟨us, hu1, hu2, hu3⟩ := HP.out.own
          have hus : us.length = k := hu1
          have HU2 := hide hu2
          have HU3 := hide hu3
          have hend : ¬ ((codeF (ls k) k).length : Int) < sn k ∨ ¬ ((codeF (ls k) k).length : Int) < 6 := by omega
          clear hbl hl hu1 hu2 hu3
          obtain ⟨m, hm⟩ : ∃ m, (codeF (ls k) k).length = m := ⟨_, rfl⟩
          rw [hm] at hend HL ⊢
          have hm6 : m ≤ 6 := by omega
          have hcase : ((m : Int) < sn k ∧ ¬ (m : Int) < 6) ∨ ¬ (m : Int) < sn k := by omega
          have HM := hide hm
          clear hm hend hlen hj hjl hs
          rcases hcase with ⟨h6, h66⟩ | h6
          all_goals
            go_wp2_with (at_builtin; refine wpList_app2 _ rfl _ _ 54 rfl (w.heap.size + 1) 53 ii _ 1 24 Try.underlying54 hii hz0 hz1 hz2 rfl (by decide) _ _ _ rfl (HU2.out.alloc _) _ 1 [.slice la m lc] rfl ?hsrc (by simp [Value.oneCell']) ?h63 ?hbytes ?hbase ?_)
            case hsrc => exact cells1 _ _ _ _ rfl
            case h63 => unfold maxLen; omega
            case hbytes => omega
            case hbase => have := HP.out.lt; simp; omega
            intro a7 c7 w7 ho7 hg7 _ _ _
            have HN7 := hide (HP.out.next hus HU2.out HU3.out (by rw [HM.out]; exact HL.out) hg7 ho7)
            clear ho7 hg7 q
            go_wp2
            go_roundw
            case rel => exact ⟨k + 1, by omega, by go_num, HN7.out⟩
            case measure => simp [intOf]; omega
    · obtain rfl : k = 4 := by omega
      have HD := hide hrow.done
      have HBL := hide hrow.below
      clear hrow hu1 hu2 hu3
      go_wp2
      go_ret
      exact ⟨_, rfl, HD.out, HBL.out⟩
end Go.Proofs.Ytkmakliebhnhbaa
