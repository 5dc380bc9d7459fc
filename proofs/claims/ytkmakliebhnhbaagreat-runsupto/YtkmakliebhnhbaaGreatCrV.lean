import Derived.Test.YtkmakliebhnhbaaGreatCrU
/- The program's worker.step, by the plain machine. -/
namespace Go.Proofs.YtkmakliebhnhbaaGreat
open Go.RowKit Go.Shelf

section
variable {W : World} {n₀ wb workers : Nat} {s : St} {adr : Nat → Nat} {stk : Nat → Value} {fs : List (List Ins)} {nr K : Nat}

theorem step_not_mut (cs : Array Value) : ¬ isMut (.cells cs 140 (0, 0)) := fun h => by
  unfold isMut at h
  simp only at h
  rcases h with h | h | h <;> exact absurd h (by decide)

/-- What a step's callee says, and what becomes of it. -/
def Sub (n₀ wb workers : Nat) (s' : St) (W : World) (v : Value) (e : Ending) (W' : World) : Prop := e = .returned v ∧ ∃ adr' stk', Crew W' n₀ wb workers s' adr' stk' ∧ Kept n₀ W W'

theorem Sub.fin {s' : St} {W w3 : World} {v : Value} {e : Ending} (hn : n₀ ≤ W.heap.size) (o0 : Array Value) (h : Sub n₀ wb workers s' (W.alloc (.cells o0 140)) v e w3) : w3.heap[W.heap.size]? = some (.cells o0 140 (0, 0)) ∧ ∀ W6 : World, (∀ b, b ≠ W.heap.size → W6.heap[b]? = w3.heap[b]?) → W6.os = w3.os → W6.tape = w3.tape → W6.output = w3.output → w3.heap.size ≤ W6.heap.size → ∃ adr' stk', Crew W6 n₀ wb workers s' adr' stk' ∧ Kept n₀ W W6 := by
  obtain ⟨_, adr', stk', hc, hk⟩ := h
  have hr : w3.heap[W.heap.size]? = some (.cells o0 140 (0, 0)) := hk.keep _ _ (World.alloc_heap_new W _) (step_not_mut _)
  refine ⟨hr, fun W6 hot h1 h2 h3 h4 => ⟨adr', stk', hc.keep (fun b o hb ho => (hot b (fun e => ?_)).trans hb), ⟨⟨h1.trans hk.below.os, h2.trans hk.below.tape, h3.trans hk.below.output, Nat.le_trans (by have := hk.below.size; simp at this; omega) h4, fun b hb => ?_⟩, fun b o hb ho => ?_⟩⟩⟩
  · subst e
    rw [hr] at hb
    cases hb
    rcases ho with ho | ho
    · exact step_not_mut _ ho
    · exact absurd (show (140 : Nat) = 45 from ho) (by decide)
  · rw [hot b (by omega), hk.below.block b hb, Below.heap_alloc _ _ _ (by omega)]
  · have hbl := (Array.getElem?_eq_some_iff.1 hb).1
    exact (hot b (by omega)).trans (hk.keep b o ((Below.heap_alloc _ _ _ hbl).trans hb) ho)

set_option maxRecDepth 4000 in
set_option maxHeartbeats 4000000 in
theorem crew_step {reds : List Int} {cb : Nat} (h : Crew W n₀ wb workers s adr stk) (L : Lean1 fs nr s K) (hK : K ≤ 50000) (hC : CodeP (Lt n₀) W cb fs reds) (hg : ∀ f, gift fs f ≤ 100000000) (hl10 : ∀ l ∈ fs, l.length ≤ 10) {w v : Nat} (hw : w < workers) (hv : v < workers) :
    Calls Tryz.prog 79 #[.pointer (some ⟨wb, 3 * w, none⟩), .pointer (some ⟨cb, 0, none⟩), .pointer (some ⟨wb, 3 * v, none⟩)] W fun e W' => e = .returned (rsV w (stepM fs s w v).2) ∧ ∃ adr' stk', Crew W' n₀ wb workers (stepM fs s w v).1 adr' stk' ∧ Kept n₀ W W' := by
  obtain ⟨cw0, cw1, cw2⟩ := h.wcell hw
  have hwlt : wb < W.heap.size := block_lt_of_cell cw0
  have hlo := h.lo
  have hnW : n₀ ≤ W.heap.size := by omega
  obtain ⟨W0, hW0⟩ : ∃ W0, W.alloc (.cells #[.int .i64 0, .int .i64 0, .int .i64 0, .int .i64 0, .int .i64 0] 140) = W0 := ⟨_, rfl⟩
  have hb0 : Below W.heap.size W W0 := by rw [← hW0]; exact (Below.refl _ W).alloc (Nat.le_refl _) _
  have h0 : Crew W0 n₀ wb workers s adr stk := h.below hb0
  have hC0 : CodeP (Lt n₀) W0 cb fs reds := hC.turn (fun b hb hlt => ⟨hb, hb0.block b hlt⟩)
  have hh0 := (h0.wcell hw).2.1
  obtain ⟨c0, hc0⟩ : ∃ c, (stepM fs s w v).2.k = c := ⟨_, rfl⟩
  obtain ⟨c1, hc1⟩ : ∃ c, (stepM fs s w v).2.w w = c := ⟨_, rfl⟩
  obtain ⟨c2, hc2⟩ : ∃ c, (stepM fs s w v).2.r = c := ⟨_, rfl⟩
  obtain ⟨c3, hc3⟩ : ∃ c, (stepM fs s w v).2.n = c := ⟨_, rfl⟩
  obtain ⟨c4, hc4⟩ : ∃ c, (stepM fs s w v).2.p = c := ⟨_, rfl⟩
  have hrs : rsV w (stepM fs s w v).2 = .agg #[.int .i64 c0, .int .i64 c1, .int .i64 c2, .int .i64 c3, .int .i64 c4] := by unfold rsV; rw [hc0, hc1, hc2, hc3, hc4]
  have HFIN : Hid (∀ e w3, Sub n₀ wb workers (stepM fs s w v).1 W0 (.agg #[.int .i64 c0, .int .i64 c1, .int .i64 c2, .int .i64 c3, .int .i64 c4]) e w3 → w3.heap[W.heap.size]? = some (.cells #[.int .i64 0, .int .i64 0, .int .i64 0, .int .i64 0, .int .i64 0] 140 (0, 0)) ∧ ∀ W6 : World, (∀ b, b ≠ W.heap.size → W6.heap[b]? = w3.heap[b]?) → W6.os = w3.os → W6.tape = w3.tape → W6.output = w3.output → w3.heap.size ≤ W6.heap.size → ∃ adr' stk', Crew W6 n₀ wb workers (stepM fs s w v).1 adr' stk' ∧ Kept n₀ W W6) := fun e w3 hs => by
    rw [← hW0] at hs
    exact hs.fin hnW _
  have HC4 : Hid (∀ w4 : World, w4.heap[W.heap.size]? = some (.cells #[.int .i64 0, .int .i64 0, .int .i64 0, .int .i64 0, .int .i64 0] 140 (0, 0)) → ∀ j u, ((#[.int .i64 0, .int .i64 0, .int .i64 0, .int .i64 0, .int .i64 0] : Array Value))[j]? = some u → w4.cell? ⟨W.heap.size, j, none⟩ = some u ∧ w4.frozen? ⟨W.heap.size, j, none⟩ = false) := fun w4 h4 j u hu => ⟨by simp only [World.cell?, h4]; exact hu, by simp [World.frozen?, h4]⟩
  rw [hrs]
  obtain ⟨sN, hsN⟩ : ∃ sN, (stepM fs s w v).1 = sN := ⟨_, rfl⟩
  rw [hsN] at HFIN ⊢
  cases hn : (s.w w).hand with
  | none =>
    rw [hn] at cw1
    have HS : Hid (Calls Tryz.prog 103 #[.pointer (some ⟨wb, 3 * w, none⟩), .pointer (some ⟨wb, 3 * v, none⟩)] W0 (Sub n₀ wb workers sN W0 (.agg #[.int .i64 c0, .int .i64 c1, .int .i64 c2, .int .i64 c3, .int .i64 c4]))) := by
      have := crew_steal h0 L (by omega) hw hv hn
      rw [hrs, hsN] at this
      exact this
    simp only [ptrO] at cw1
    have HW0 := hide hW0
    clear hW0 h h0 hC hC0 hb0 L hg hl10 hrs hsN hc0 hc1 hc2 hc3 hc4 cw0 cw2 hh0
    go_enter Tryz.func79, Tryz.ntmps79
    go_wp2_with (go_at_call 103
                 rw [HW0.out]
                 refine HS.out.mono ?_
                 intro e w3 hsub
                 have hfin := HFIN.out e w3 hsub
                 obtain ⟨rfl, _⟩ := hsub
                 obtain ⟨hr3, hfin⟩ := hfin
                 obtain ⟨s0, f0⟩ := HC4.out w3 hr3 0 _ rfl
                 obtain ⟨s1, f1⟩ := HC4.out w3 hr3 1 _ rfl
                 obtain ⟨s2, f2⟩ := HC4.out w3 hr3 2 _ rfl
                 obtain ⟨s3, f3⟩ := HC4.out w3 hr3 3 _ rfl
                 obtain ⟨s4, f4⟩ := HC4.out w3 hr3 4 _ rfl
                 have HR3 := hide hr3
                 have HF := hide hfin
                 clear hr3 hfin)
    have h5 := heap_set _ W.heap.size 4 (.int .i64 c4) _ _ (heap_set _ W.heap.size 3 (.int .i64 c3) _ _ (heap_set _ W.heap.size 2 (.int .i64 c2) _ _ (heap_set _ W.heap.size 1 (.int .i64 c1) _ _ (heap_set _ W.heap.size 0 (.int .i64 c0) _ _ HR3.out))))
    have hot : ∀ b, b ≠ W.heap.size → (((((w3.setCell ⟨W.heap.size, 0, none⟩ (.int .i64 c0)).setCell ⟨W.heap.size, 1, none⟩ (.int .i64 c1)).setCell ⟨W.heap.size, 2, none⟩ (.int .i64 c2)).setCell ⟨W.heap.size, 3, none⟩ (.int .i64 c3)).setCell ⟨W.heap.size, 4, none⟩ (.int .i64 c4)).heap[b]? = w3.heap[b]? := fun b q2 => by
      rw [Below.heap_setCell _ _ _ _ q2, Below.heap_setCell _ _ _ _ q2, Below.heap_setCell _ _ _ _ q2, Below.heap_setCell _ _ _ _ q2, Below.heap_setCell _ _ _ _ q2]
    have hend := HF.out (((((w3.setCell ⟨W.heap.size, 0, none⟩ (.int .i64 c0)).setCell ⟨W.heap.size, 1, none⟩ (.int .i64 c1)).setCell ⟨W.heap.size, 2, none⟩ (.int .i64 c2)).setCell ⟨W.heap.size, 3, none⟩ (.int .i64 c3)).setCell ⟨W.heap.size, 4, none⟩ (.int .i64 c4)) hot rfl rfl rfl (by simp [World.setCell])
    generalize (((((w3.setCell ⟨W.heap.size, 0, none⟩ (.int .i64 c0)).setCell ⟨W.heap.size, 1, none⟩ (.int .i64 c1)).setCell ⟨W.heap.size, 2, none⟩ (.int .i64 c2)).setCell ⟨W.heap.size, 3, none⟩ (.int .i64 c3)).setCell ⟨W.heap.size, 4, none⟩ (.int .i64 c4)) = W6 at h5 hend ⊢
    have y0 : W6.cell? ⟨W.heap.size, 0, none⟩ = some (.int .i64 c0) := by simp [World.cell?, h5]
    have y1 : W6.cell? ⟨W.heap.size, 1, none⟩ = some (.int .i64 c1) := by simp [World.cell?, h5]
    have y2 : W6.cell? ⟨W.heap.size, 2, none⟩ = some (.int .i64 c2) := by simp [World.cell?, h5]
    have y3 : W6.cell? ⟨W.heap.size, 3, none⟩ = some (.int .i64 c3) := by simp [World.cell?, h5]
    have y4 : W6.cell? ⟨W.heap.size, 4, none⟩ = some (.int .i64 c4) := by simp [World.cell?, h5]
    refine bodyPost_ret (v := .agg #[.int .i64 c0, .int .i64 c1, .int .i64 c2, .int .i64 c3, .int .i64 c4]) (by simp only [results, Tryz.f79, go_sem]; simp [go_sem, y0, y1, y2, y3, y4]) rfl ⟨rfl, hend⟩
  | some a =>
    rw [hn] at cw1
    simp only [ptrO] at cw1
    have ha := L.hand w a hn
    obtain ⟨⟨av, ta, ra⟩, la⟩ := h0.tks a ha
    have HMW := hide (mustWait_calls _ (adr a) (s.t a) _ av W0 ta ra)
    have HW0 := hide hW0
    cases hwt : waits (s.t a) with
    | true =>
      rw [hwt] at HMW
      have HS : Hid (Calls Tryz.prog 105 #[.pointer (some ⟨wb, 3 * w, none⟩)] W0 (Sub n₀ wb workers sN W0 (.agg #[.int .i64 c0, .int .i64 c1, .int .i64 c2, .int .i64 c3, .int .i64 c4]))) := by
        have := crew_aside (v := v) h0 L hw hn hwt
        rw [hrs, hsN] at this
        exact this
      clear hW0 h h0 hC hC0 hb0 L hg hl10 hrs hsN hc0 hc1 hc2 hc3 hc4 cw0 cw2 hh0
      clear ta ra
      go_enter Tryz.func79, Tryz.ntmps79
      go_wp2_with (first
              | (go_at_call 104
                 rw [HW0.out]
                 refine HMW.out.mono ?_
                 rintro e w' ⟨rfl, rfl⟩
                 rw [← HW0.out])
              | (go_at_call 105
                 rw [HW0.out]
                 refine HS.out.mono ?_
                 intro e w3 hsub
                 have hfin := HFIN.out e w3 hsub
                 obtain ⟨rfl, _⟩ := hsub
                 obtain ⟨hr3, hfin⟩ := hfin
                 obtain ⟨s0, f0⟩ := HC4.out w3 hr3 0 _ rfl
                 obtain ⟨s1, f1⟩ := HC4.out w3 hr3 1 _ rfl
                 obtain ⟨s2, f2⟩ := HC4.out w3 hr3 2 _ rfl
                 obtain ⟨s3, f3⟩ := HC4.out w3 hr3 3 _ rfl
                 obtain ⟨s4, f4⟩ := HC4.out w3 hr3 4 _ rfl
                 have HR3 := hide hr3
                 have HF := hide hfin
                 clear hr3 hfin))
      have h5 := heap_set _ W.heap.size 4 (.int .i64 c4) _ _ (heap_set _ W.heap.size 3 (.int .i64 c3) _ _ (heap_set _ W.heap.size 2 (.int .i64 c2) _ _ (heap_set _ W.heap.size 1 (.int .i64 c1) _ _ (heap_set _ W.heap.size 0 (.int .i64 c0) _ _ HR3.out))))
      have hot : ∀ b, b ≠ W.heap.size → (((((w3.setCell ⟨W.heap.size, 0, none⟩ (.int .i64 c0)).setCell ⟨W.heap.size, 1, none⟩ (.int .i64 c1)).setCell ⟨W.heap.size, 2, none⟩ (.int .i64 c2)).setCell ⟨W.heap.size, 3, none⟩ (.int .i64 c3)).setCell ⟨W.heap.size, 4, none⟩ (.int .i64 c4)).heap[b]? = w3.heap[b]? := fun b q2 => by
        rw [Below.heap_setCell _ _ _ _ q2, Below.heap_setCell _ _ _ _ q2, Below.heap_setCell _ _ _ _ q2, Below.heap_setCell _ _ _ _ q2, Below.heap_setCell _ _ _ _ q2]
      have hend := HF.out (((((w3.setCell ⟨W.heap.size, 0, none⟩ (.int .i64 c0)).setCell ⟨W.heap.size, 1, none⟩ (.int .i64 c1)).setCell ⟨W.heap.size, 2, none⟩ (.int .i64 c2)).setCell ⟨W.heap.size, 3, none⟩ (.int .i64 c3)).setCell ⟨W.heap.size, 4, none⟩ (.int .i64 c4)) hot rfl rfl rfl (by simp [World.setCell])
      generalize (((((w3.setCell ⟨W.heap.size, 0, none⟩ (.int .i64 c0)).setCell ⟨W.heap.size, 1, none⟩ (.int .i64 c1)).setCell ⟨W.heap.size, 2, none⟩ (.int .i64 c2)).setCell ⟨W.heap.size, 3, none⟩ (.int .i64 c3)).setCell ⟨W.heap.size, 4, none⟩ (.int .i64 c4)) = W6 at h5 hend ⊢
      have y0 : W6.cell? ⟨W.heap.size, 0, none⟩ = some (.int .i64 c0) := by simp [World.cell?, h5]
      have y1 : W6.cell? ⟨W.heap.size, 1, none⟩ = some (.int .i64 c1) := by simp [World.cell?, h5]
      have y2 : W6.cell? ⟨W.heap.size, 2, none⟩ = some (.int .i64 c2) := by simp [World.cell?, h5]
      have y3 : W6.cell? ⟨W.heap.size, 3, none⟩ = some (.int .i64 c3) := by simp [World.cell?, h5]
      have y4 : W6.cell? ⟨W.heap.size, 4, none⟩ = some (.int .i64 c4) := by simp [World.cell?, h5]
      refine bodyPost_ret (v := .agg #[.int .i64 c0, .int .i64 c1, .int .i64 c2, .int .i64 c3, .int .i64 c4]) (by simp only [results, Tryz.f79, go_sem]; simp [go_sem, y0, y1, y2, y3, y4]) rfl ⟨rfl, hend⟩
    | false =>
      rw [hwt] at HMW
      obtain ⟨aa, acap, hav, hca, _⟩ := ra.form
      subst hav
      have HAE := hide (atEnd_calls (adr a) (s.t a) _ aa (s.t a).rem.length acap W0 ta)
      cases hrem : (s.t a).rem with
      | nil =>
        rw [hrem] at HAE
        simp only [List.length_nil, decide_true] at HAE
        have HS : Hid (Calls Tryz.prog 107 #[.pointer (some ⟨wb, 3 * w, none⟩)] W0 (Sub n₀ wb workers sN W0 (.agg #[.int .i64 c0, .int .i64 c1, .int .i64 c2, .int .i64 c3, .int .i64 c4]))) := by
          have := crew_end (v := v) h0 L (by omega) hw hn hwt hrem
          rw [hrs, hsN] at this
          exact this
        clear hW0 h h0 hC hC0 hb0 L hg hl10 hrs hsN hc0 hc1 hc2 hc3 hc4 cw0 cw2 hh0
        clear ta ra hca
        go_enter Tryz.func79, Tryz.ntmps79
        go_wp2_with (first
              | (go_at_call 104
                 rw [HW0.out]
                 refine HMW.out.mono ?_
                 rintro e w' ⟨rfl, rfl⟩
                 rw [← HW0.out])
              | (go_at_call 106
                 rw [HW0.out]
                 refine HAE.out.mono ?_
                 rintro e w' ⟨rfl, rfl⟩
                 rw [← HW0.out])
              | (go_at_call 107
                 rw [HW0.out]
                 refine HS.out.mono ?_
                 intro e w3 hsub
                 have hfin := HFIN.out e w3 hsub
                 obtain ⟨rfl, _⟩ := hsub
                 obtain ⟨hr3, hfin⟩ := hfin
                 obtain ⟨s0, f0⟩ := HC4.out w3 hr3 0 _ rfl
                 obtain ⟨s1, f1⟩ := HC4.out w3 hr3 1 _ rfl
                 obtain ⟨s2, f2⟩ := HC4.out w3 hr3 2 _ rfl
                 obtain ⟨s3, f3⟩ := HC4.out w3 hr3 3 _ rfl
                 obtain ⟨s4, f4⟩ := HC4.out w3 hr3 4 _ rfl
                 have HR3 := hide hr3
                 have HF := hide hfin
                 clear hr3 hfin))
        have h5 := heap_set _ W.heap.size 4 (.int .i64 c4) _ _ (heap_set _ W.heap.size 3 (.int .i64 c3) _ _ (heap_set _ W.heap.size 2 (.int .i64 c2) _ _ (heap_set _ W.heap.size 1 (.int .i64 c1) _ _ (heap_set _ W.heap.size 0 (.int .i64 c0) _ _ HR3.out))))
        have hot : ∀ b, b ≠ W.heap.size → (((((w3.setCell ⟨W.heap.size, 0, none⟩ (.int .i64 c0)).setCell ⟨W.heap.size, 1, none⟩ (.int .i64 c1)).setCell ⟨W.heap.size, 2, none⟩ (.int .i64 c2)).setCell ⟨W.heap.size, 3, none⟩ (.int .i64 c3)).setCell ⟨W.heap.size, 4, none⟩ (.int .i64 c4)).heap[b]? = w3.heap[b]? := fun b q2 => by
          rw [Below.heap_setCell _ _ _ _ q2, Below.heap_setCell _ _ _ _ q2, Below.heap_setCell _ _ _ _ q2, Below.heap_setCell _ _ _ _ q2, Below.heap_setCell _ _ _ _ q2]
        have hend := HF.out (((((w3.setCell ⟨W.heap.size, 0, none⟩ (.int .i64 c0)).setCell ⟨W.heap.size, 1, none⟩ (.int .i64 c1)).setCell ⟨W.heap.size, 2, none⟩ (.int .i64 c2)).setCell ⟨W.heap.size, 3, none⟩ (.int .i64 c3)).setCell ⟨W.heap.size, 4, none⟩ (.int .i64 c4)) hot rfl rfl rfl (by simp [World.setCell])
        generalize (((((w3.setCell ⟨W.heap.size, 0, none⟩ (.int .i64 c0)).setCell ⟨W.heap.size, 1, none⟩ (.int .i64 c1)).setCell ⟨W.heap.size, 2, none⟩ (.int .i64 c2)).setCell ⟨W.heap.size, 3, none⟩ (.int .i64 c3)).setCell ⟨W.heap.size, 4, none⟩ (.int .i64 c4)) = W6 at h5 hend ⊢
        have y0 : W6.cell? ⟨W.heap.size, 0, none⟩ = some (.int .i64 c0) := by simp [World.cell?, h5]
        have y1 : W6.cell? ⟨W.heap.size, 1, none⟩ = some (.int .i64 c1) := by simp [World.cell?, h5]
        have y2 : W6.cell? ⟨W.heap.size, 2, none⟩ = some (.int .i64 c2) := by simp [World.cell?, h5]
        have y3 : W6.cell? ⟨W.heap.size, 3, none⟩ = some (.int .i64 c3) := by simp [World.cell?, h5]
        have y4 : W6.cell? ⟨W.heap.size, 4, none⟩ = some (.int .i64 c4) := by simp [World.cell?, h5]
        refine bodyPost_ret (v := .agg #[.int .i64 c0, .int .i64 c1, .int .i64 c2, .int .i64 c3, .int .i64 c4]) (by simp only [results, Tryz.f79, go_sem]; simp [go_sem, y0, y1, y2, y3, y4]) rfl ⟨rfl, hend⟩
      | cons i rest =>
        rw [hrem] at HAE
        simp only [List.length_cons, Nat.add_one_ne_zero, decide_false] at HAE
        have HS : Hid (Calls Tryz.prog 108 #[.pointer (some ⟨wb, 3 * w, none⟩), .pointer (some ⟨cb, 0, none⟩)] W0 (Sub n₀ wb workers sN W0 (.agg #[.int .i64 c0, .int .i64 c1, .int .i64 c2, .int .i64 c3, .int .i64 c4]))) := by
          have := crew_do (v := v) h0 L hK hC0 hg hl10 hw hn hwt hrem
          rw [hrs, hsN] at this
          exact this
        clear hW0 h h0 hC hC0 hb0 L hg hl10 hrs hsN hc0 hc1 hc2 hc3 hc4 cw0 cw2 hh0
        clear ta ra hca
        go_enter Tryz.func79, Tryz.ntmps79
        go_wp2_with (first
              | (go_at_call 104
                 rw [HW0.out]
                 refine HMW.out.mono ?_
                 rintro e w' ⟨rfl, rfl⟩
                 rw [← HW0.out])
              | (go_at_call 106
                 rw [HW0.out]
                 refine HAE.out.mono ?_
                 rintro e w' ⟨rfl, rfl⟩
                 rw [← HW0.out])
              | (go_at_call 108
                 rw [HW0.out]
                 refine HS.out.mono ?_
                 intro e w3 hsub
                 have hfin := HFIN.out e w3 hsub
                 obtain ⟨rfl, _⟩ := hsub
                 obtain ⟨hr3, hfin⟩ := hfin
                 obtain ⟨s0, f0⟩ := HC4.out w3 hr3 0 _ rfl
                 obtain ⟨s1, f1⟩ := HC4.out w3 hr3 1 _ rfl
                 obtain ⟨s2, f2⟩ := HC4.out w3 hr3 2 _ rfl
                 obtain ⟨s3, f3⟩ := HC4.out w3 hr3 3 _ rfl
                 obtain ⟨s4, f4⟩ := HC4.out w3 hr3 4 _ rfl
                 have HR3 := hide hr3
                 have HF := hide hfin
                 clear hr3 hfin))
        have h5 := heap_set _ W.heap.size 4 (.int .i64 c4) _ _ (heap_set _ W.heap.size 3 (.int .i64 c3) _ _ (heap_set _ W.heap.size 2 (.int .i64 c2) _ _ (heap_set _ W.heap.size 1 (.int .i64 c1) _ _ (heap_set _ W.heap.size 0 (.int .i64 c0) _ _ HR3.out))))
        have hot : ∀ b, b ≠ W.heap.size → (((((w3.setCell ⟨W.heap.size, 0, none⟩ (.int .i64 c0)).setCell ⟨W.heap.size, 1, none⟩ (.int .i64 c1)).setCell ⟨W.heap.size, 2, none⟩ (.int .i64 c2)).setCell ⟨W.heap.size, 3, none⟩ (.int .i64 c3)).setCell ⟨W.heap.size, 4, none⟩ (.int .i64 c4)).heap[b]? = w3.heap[b]? := fun b q2 => by
          rw [Below.heap_setCell _ _ _ _ q2, Below.heap_setCell _ _ _ _ q2, Below.heap_setCell _ _ _ _ q2, Below.heap_setCell _ _ _ _ q2, Below.heap_setCell _ _ _ _ q2]
        have hend := HF.out (((((w3.setCell ⟨W.heap.size, 0, none⟩ (.int .i64 c0)).setCell ⟨W.heap.size, 1, none⟩ (.int .i64 c1)).setCell ⟨W.heap.size, 2, none⟩ (.int .i64 c2)).setCell ⟨W.heap.size, 3, none⟩ (.int .i64 c3)).setCell ⟨W.heap.size, 4, none⟩ (.int .i64 c4)) hot rfl rfl rfl (by simp [World.setCell])
        generalize (((((w3.setCell ⟨W.heap.size, 0, none⟩ (.int .i64 c0)).setCell ⟨W.heap.size, 1, none⟩ (.int .i64 c1)).setCell ⟨W.heap.size, 2, none⟩ (.int .i64 c2)).setCell ⟨W.heap.size, 3, none⟩ (.int .i64 c3)).setCell ⟨W.heap.size, 4, none⟩ (.int .i64 c4)) = W6 at h5 hend ⊢
        have y0 : W6.cell? ⟨W.heap.size, 0, none⟩ = some (.int .i64 c0) := by simp [World.cell?, h5]
        have y1 : W6.cell? ⟨W.heap.size, 1, none⟩ = some (.int .i64 c1) := by simp [World.cell?, h5]
        have y2 : W6.cell? ⟨W.heap.size, 2, none⟩ = some (.int .i64 c2) := by simp [World.cell?, h5]
        have y3 : W6.cell? ⟨W.heap.size, 3, none⟩ = some (.int .i64 c3) := by simp [World.cell?, h5]
        have y4 : W6.cell? ⟨W.heap.size, 4, none⟩ = some (.int .i64 c4) := by simp [World.cell?, h5]
        refine bodyPost_ret (v := .agg #[.int .i64 c0, .int .i64 c1, .int .i64 c2, .int .i64 c3, .int .i64 c4]) (by simp only [results, Tryz.f79, go_sem]; simp [go_sem, y0, y1, y2, y3, y4]) rfl ⟨rfl, hend⟩
end
end Go.Proofs.YtkmakliebhnhbaaGreat
