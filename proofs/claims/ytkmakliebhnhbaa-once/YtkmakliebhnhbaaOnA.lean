import Derived.Deep.QuietTactic
import Derived.BigQuiet
import Derived.Test.YtkmakliebhnhbaaSer
import Derived.Test.YtkmakliebhnhbaaLoA
/- Once, plainly: what is not used yet. -/
namespace Go.Proofs.Ytkmakliebhnhbaa

/-- Those of a list that are not marked. -/
def rem {α : Type} : List α → List Bool → List α
  | x :: t, u :: us => if u then rem t us else x :: rem t us
  | _, _ => []
theorem rem_set {α : Type} : ∀ {T : List α} {us : List Bool} {k : Nat} {e : α}, T[k]? = some e → us[k]? = some false → (rem T us).Perm (e :: rem T (us.set k true))
  | x :: t, u :: us, 0, e, h1, h2 => by
    simp at h1 h2
    subst h1 h2
    simp [rem]
  | x :: t, u :: us, k + 1, e, h1, h2 => by
    have ih := rem_set (T := t) (us := us) (k := k) (e := e) (by simpa using h1) (by simpa using h2)
    simp only [rem, List.set_cons_succ]
    split
    · exact ih
    · exact (ih.cons x).trans (List.Perm.swap e x _)
  | [], _, _, _, h1, _ => by simp at h1
  | _ :: _, [], _, _, _, h2 => by simp at h2
theorem rem_mem {α : Type} : ∀ {T : List α} {us : List Bool} {e : α}, e ∈ rem T us → ∃ k : Nat, T[k]? = some e ∧ us[k]? = some false
  | x :: t, u :: us, e, h => by
    simp only [rem] at h
    split at h
    · obtain ⟨k, h1, h2⟩ := rem_mem h
      exact ⟨k + 1, by simpa using h1, by simpa using h2⟩
    · rcases List.mem_cons.1 h with rfl | h
      · exact ⟨0, rfl, by simp_all⟩
      · obtain ⟨k, h1, h2⟩ := rem_mem h
        exact ⟨k + 1, by simpa using h1, by simpa using h2⟩
  | [], _, _, h => by simp [rem] at h
  | _ :: _, [], _, h => by simp [rem] at h
theorem rem_none {α : Type} : ∀ (T : List α), rem T (List.replicate T.length false) = T
  | [] => rfl
  | x :: t => by
    simp only [List.length_cons, List.replicate_succ, rem]
    rw [rem_none t]
    simp

/-- Marks in memory. -/
def UArr (W : World) (g : Nat) (us : List Bool) : Prop := ∀ (x : Nat) (b : Bool), us[x]? = some b → W.cell? ⟨g, x, none⟩ = some (.bool b) ∧ W.frozen? ⟨g, x, none⟩ = false
theorem UArr.set {W : World} {g : Nat} {us : List Bool} (h : UArr W g us) {k : Nat} (hk : k < us.length) : UArr (W.setCell ⟨g, k, none⟩ (.bool true)) g (us.set k true) := by
  intro x b hx
  have hxl : x < us.length := by have := (List.getElem?_eq_some_iff.1 hx).1; simpa using this
  rw [World.frozen?_setCell]
  by_cases e : x = k
  · subst e
    rw [List.getElem?_set_self hk] at hx
    cases hx
    obtain ⟨h1, h2⟩ := h x _ (List.getElem?_eq_getElem hxl)
    exact ⟨World.cell?_setCell_same' _ _ _ (by rw [h1]; rfl), h2⟩
  · rw [List.getElem?_set_ne (fun h => e h.symm)] at hx
    obtain ⟨h1, h2⟩ := h x b hx
    refine ⟨?_, h2⟩
    rw [World.cell?_setCell_other _ _ _ _ (by intro hh; injection hh with _ h3; exact e h3.symm)]
    exact h1
theorem UArr.turn {W W' : World} {g : Nat} {us : List Bool} (h : UArr W g us) (hb : W'.heap[g]? = W.heap[g]?) : UArr W' g us := fun x b hx =>
  ⟨(World.cell?_of_block (w := W) (a := ⟨g, x, none⟩) hb).trans (h x b hx).1, (World.frozen?_of_block (w := W) (a := ⟨g, x, none⟩) hb).trans (h x b hx).2⟩
end Go.Proofs.Ytkmakliebhnhbaa

/- Once: the walk. -/
namespace Go.Proofs.Ytkmakliebhnhbaa
open Go.RowKit Go.Shelf

theorem Try.infoBool : (Try.prog.info? 4).map (fun i => (i.zero, i.size, i.bytes)) = some (some (.bool false), 1, 1) := by kernel_rfl

theorem plOnce (ls : Nat → List Ins) (ks : Nat → Int) (B pb : Nat) (seed x wk : Int) (script : List (Int × Int)) (S : Nat → Prop) (sv : Value) (W : World) (hw : LsWf ls) (h1 : 1 ≤ wk) (h8 : wk ≤ 8) (hl : script.length ≤ 4000) (hsc : ∀ q ∈ script, i64 q.1 ∧ i64 q.2) (hP : PlP B W pb ls ks) (hS : RdL S W 2 pickV sv script) :
    Calls Try.prog 17 #[.pointer (some ⟨pb, 0, none⟩), .int .u64 seed, .int .i64 x, .int .i64 wk, sv] W fun e w' => ∃ la lc ta tc s0 s1 s2 s3 tr, e = .returned (.tuple #[.agg #[.slice la 4 lc, .slice ta (traceZ (codeN ls) seed x).length tc, .int .i64 s0, .int .i64 s1, .int .i64 s2, .int .i64 s3], .int .i64 0]) ∧
      RdL (fun _ => True) w' 3 Ev.vals (.slice ta (traceZ (codeN ls) seed x).length tc) tr ∧ (tr.map Ev.rn).Perm ((traceZ (codeN ls) seed x).map Ev.rn) ∧ (∀ e ∈ tr, 0 ≤ e.w ∧ e.w < wk) ∧ (traceZ (codeN ls) seed x).length ≤ 100000000 ∧ Below W.heap.size W w' := by
  refine (plRun ls ks B pb seed x wk script S sv W hw h1 h8 hl hsc hP hS).mono ?_
  rintro e w' ⟨N, la, lc, ta, tc, hN, rfl, hV, hT, hb⟩
  have hck : (check (codeN ls) (kindsN ks)).1 = 0 := by rw [codeN_check ks hw]
  obtain ⟨c1, c2, c3, c4, c5⟩ := check_ok hck (codeN_wf hw)
  obtain ⟨wn, rfl⟩ : ∃ wn : Nat, wk = wn := ⟨wk.toNat, by omega⟩
  simp only [Int.toNat_natCast] at hN hT ⊢
  have hp := run_once c4 c5 (show 1 ≤ wn by omega) c1 hN
  have hlen : (trAt (codeN ls) wn script seed x N).length = (traceZ (codeN ls) seed x).length := by
    have := hp.length_eq
    rw [List.length_map, List.length_map] at this
    exact this
  rw [hlen] at hT
  refine ⟨la, lc, ta, tc, _, _, _, _, trAt (codeN ls) wn script seed x N, by rw [hlen], hT, hp, fun e he => ?_, trace_len c2 c5 seed x, hb⟩
  obtain ⟨q, hq1, hq2⟩ := trAt_w (show 1 ≤ wn by omega) N e he
  rw [hq1]
  omega

set_option maxHeartbeats 8000000 in
set_option maxRecDepth 100000 in
theorem once_walk (sa : Nat → Option Addr) (sn sc : Nat → Nat) (ks : Nat → Int) (ls : Nat → List Ins) (S S4 : Nat → Prop) (seed x wk : Int) (a4 : Option Addr) (n4 c4 : Nat) (l4 : List (Int × Int)) (w : World) (hw : LsWf ls) (hk : ∀ r, r < 4 → i64 (ks r)) (hR : PlRd S w sa sn sc ls)
    (hs : u64 seed) (hx : i64 x) (hwk : i64 wk) (h4 : ∀ q ∈ l4, i64 q.1 ∧ i64 q.2) (r4 : RdL S4 w 2 pickV (.slice a4 n4 c4) l4) :
    Calls Try.prog 6 #[.agg #[.slice (sa 0) (sn 0) (sc 0), .slice (sa 1) (sn 1) (sc 1), .slice (sa 2) (sn 2) (sc 2), .slice (sa 3) (sn 3) (sc 3), .int .i64 (ks 0), .int .i64 (ks 1), .int .i64 (ks 2), .int .i64 (ks 3)], .int .u64 seed, .int .i64 x, .int .i64 wk, .slice a4 n4 c4] w fun e w' => e = .returned (.bool true) ∧ Below w.heap.size w w' := by
  have hn := World.alloc_heap_new w (.cells #[.slice (sa 0) (sn 0) (sc 0), .slice (sa 1) (sn 1) (sc 1), .slice (sa 2) (sn 2) (sc 2), .slice (sa 3) (sn 3) (sc 3), .int .i64 (ks 0), .int .i64 (ks 1), .int .i64 (ks 2), .int .i64 (ks 3)] 26)
  have hb := (Below.refl _ w).alloc (Nat.le_refl _) (.cells #[.slice (sa 0) (sn 0) (sc 0), .slice (sa 1) (sn 1) (sc 1), .slice (sa 2) (sn 2) (sc 2), .slice (sa 3) (sn 3) (sc 3), .int .i64 (ks 0), .int .i64 (ks 1), .int .i64 (ks 2), .int .i64 (ks 3)] 26)
  obtain ⟨q0, q1, q2, q3, q4, q5, q6, q7⟩ := box8 hn
  have HB := hide hb
  have HM := hide (fun W (hb : Below w.heap.size w W) => made_calls sa sn sc ks ls S W hw hk (hR.below hb))
  have hz := pickN_lt (c := wk) (n := 8) (by omega)
  have HP1 := hide (fun W => pick_calls wk 8 W hwk (by omega) (by omega))
  obtain ⟨z, hze⟩ : ∃ z, pickN wk 8 = z := ⟨_, rfl⟩
  rw [hze] at HP1 hz
  have HSE := hide (fun B pb W hP => plSerial ls ks B pb seed x W hw hs hx hP)
  have HR1 := hide (fun B pb sv W hP hS => plOnce ls ks B pb seed x (1 + z) (l4.take 4000) S4 sv W hw (by omega) (by omega) take_len (take_pick h4) hP hS)
  obtain ⟨f, hfe⟩ : ∃ f, framesC (codeN ls) = f := ⟨_, rfl⟩
  rw [hfe] at HSE
  obtain ⟨T, hT⟩ : ∃ T, traceZ (codeN ls) seed x = T := ⟨_, rfl⟩
  rw [hT] at HSE HR1
  obtain ⟨n, hNe⟩ : ∃ n, T.length = n := ⟨_, rfl⟩
  rw [hNe] at HSE HR1
  have HN := hide hNe
  have R4 := hide r4
  obtain ⟨ib, hib, hb0, hb1', hb2'⟩ := info_parts Try.infoBool
  clear hw hk hR hs hx h4 r4 hn hb hfe hT hze hwk hNe
  go_enter Try.func6, Try.ntmps6
  go_wp2_with (first
    | (go_at_call 10; refine (HM.out _ HB.out).mono ?_; rintro e w1 ⟨pb, rfl, hP1, hb1⟩)
    | (go_at_call 16; refine (HP1.out _).mono ?_; rintro e w' ⟨rfl, rfl⟩)
    | (go_at_call 12
       refine (HSE.out _ _ _ hP1).mono ?_
       rintro e w2 ⟨la, lc, ta, tc, rfl, hV2, hT2, hb2⟩
       have hbA := Below.up HB.out hb1 HB.out.size
       have hbB := Below.up hbA hb2 hbA.size
       have hP2 := PlP.below hP1 hb2)
    | (go_at_call 18; refine (short_calls l4 S4 _ _ _ _ (R4.out.below (Below.up hbB (new_below _ _) hbB.size) (fun x _ => pick_ne x))).mono ?_; rintro e w' ⟨⟨m4, rfl, s4⟩, rfl⟩)
    | (go_at_call 17
       refine (HR1.out _ _ _ _ (hP2.below (new_below _ _)) s4).mono ?_
       rintro e w3 ⟨la3, lc3, ta3, tc3, s0, s1, s2, s3, tr, rfl, hT3, hpm, hww, hnn, hb3⟩
       have hbC := Below.up (Below.up hbB (new_below _ _) hbB.size) hb3 (Nat.le_trans hbB.size (new_below _ _).size)
       have o2 := obj_keep hb3
       have d3 := cell_new (i := 1) o2 rfl
       have T2 := hide ((hT2.below (new_below _ _) (fun x _ => List.cons_ne_nil _ _)).below hb3 (fun x _ => List.cons_ne_nil _ _))
       have T3 := hide hT3
       have HBD := hide hbC
       have O2 := hide o2
       have HPM := hide hpm
       have HWW := hide hww
       have hs2 : w2.heap.size < w3.heap.size := by have := hb3.size; simp at this; omega
       clear hV2 hT2 hT3 hb1 hb2 hb3 hbA hbB hbC hP1 hP2 o2 hpm hww)
    | (at_make; go_loud (refine wpList_make_full _ rfl _ _ 63 rfl (w3.heap.size + 1) 4 ib (.bool false) 1 Try.underlying63 hib hb0 hb1' _ _ _ _ n rfl rfl rfl rfl (by rw [hb2']; omega) (by unfold maxLen; omega) (by simp) ?_)))
  intro w5 hown hgrow
  obtain ⟨w4, hw4⟩ : ∃ w4, w3.alloc (.cells #[.slice la3 4 lc3, .slice ta3 n tc3, .int .i64 s0, .int .i64 s1, .int .i64 s2, .int .i64 s3] 38) = w4 := ⟨_, rfl⟩
  have hsz4 : w4.heap.size = w3.heap.size + 1 := by rw [← hw4]; simp
  have y3 : w4.heap[w3.heap.size]? = some (.cells #[.slice la3 4 lc3, .slice ta3 n tc3, .int .i64 s0, .int .i64 s1, .int .i64 s2, .int .i64 s3] 38 (0, 0)) := by rw [← hw4]; exact heap_new w3 _
  have hb34 : Below w3.heap.size w3 w4 := by rw [← hw4]; exact new_below w3 _
  have y2 := (hb34.block _ hs2).trans O2.out
  have T2' := hide (T2.out.below hb34 (fun x _ => List.cons_ne_nil _ _))
  have T3' := hide (T3.out.below hb34 (fun x _ => List.cons_ne_nil _ _))
  have HBE := hide (Below.up HBD.out hb34 HBD.out.size)
  have hB5 : Below w4.heap.size w4 w5 := by rw [hw4] at hgrow; exact (Below.refl _ w4).grown hgrow (Nat.le_refl _) (by simp)
  have hU5 : UArr w5 (w3.heap.size + 1) (List.replicate n false) := by
    intro x b hx
    have hxn : x < n := by have := (List.getElem?_eq_some_iff.1 hx).1; simpa using this
    rw [List.getElem?_replicate, if_pos hxn] at hx
    cases hx
    refine ⟨?_, hown.frozenAt x⟩
    rw [hown.cellAt x (by omega), toList_madeCells_one]
    simp [hxn]
  have HY2 := hide y2
  have HY3 := hide y3
  have HB5 := hide hB5
  have HU5 := hide hU5
  obtain ⟨g, hg⟩ : ∃ g, g = w3.heap.size + 1 := ⟨_, rfl⟩
  rw [← hg] at HU5 hsz4 ⊢
  clear hown hgrow hw4 y3 hb34 y2 hB5 hU5 T2 T3 HBD O2 HM HP1 HSE HR1 R4 q0 q1 q2 q3 q4 q5 q6 q7 HB s4 d3 hib hb0 hb1' hb2'
  have hs34 : w3.heap.size < w4.heap.size := by omega
  have hs24 : w2.heap.size < w4.heap.size := by omega
  have hgi : g = w4.heap.size := hsz4.symm
  clear hg hsz4
  have HGI := hide hgi
  clear hgi
  go_wp2
  go_loopw [18] (fun i wr => ∃ (m : Nat) (us : List Bool), m ≤ n ∧ i = .int .i64 m ∧ us.length = n ∧ (rem (T.map Ev.rn) us).Perm ((tr.map Ev.rn).drop m) ∧ UArr wr g us ∧ Below w4.heap.size w4 wr) (fun i _ => n - (intOf i).toNat)
  case atStart => exact ⟨0, _, by omega, rfl, by simp, by
    have h1 := rem_none (T.map Ev.rn)
    rw [List.length_map, HN.out] at h1
    rw [h1]
    exact HPM.out.symm, HU5.out, HB5.out⟩
  case round =>
    obtain ⟨m, us, hm, rfl, hul, hpr, hua, hbl⟩ := hrel
    obtain ⟨wo, hwo⟩ : ∃ wo, wo = wr := ⟨_, rfl⟩
    subst hwo
    have hc3 := cell_blk (i := 1) ((hbl.block _ hs34).trans HY3.out) rfl
    by_cases hlt : m < n
    · have hmi : (m : Int) < n := by omega
      have htl : tr.length = n := by
        have := HPM.out.length_eq
        rw [List.length_map, List.length_map, HN.out] at this
        exact this
      obtain ⟨e, he⟩ : ∃ e, tr[m]? = some e := ⟨_, List.getElem?_eq_getElem (by omega)⟩
      have hdr : (tr.map Ev.rn).drop m = e.rn :: (tr.map Ev.rn).drop (m + 1) := by
        rw [List.drop_eq_getElem_cons (by simp; omega)]
        congr 1
        have := List.getElem?_map (f := Ev.rn) (l := tr) (i := m)
        rw [he, List.getElem?_eq_getElem (by simp; omega)] at this
        simpa using this
      rw [hdr] at hpr
      obtain ⟨b3, f3, rfl, _, hc⟩ := T3'.out.at he
      obtain ⟨hw0, hw1⟩ := HWW.out e (List.mem_of_getElem? he)
      have HPR := hide hpr
      have HUA := hide hua
      have HBL := hide hbl
      have HC0 := hide (hc 0 _ rfl)
      have HC1 := hide (hc 1 _ rfl)
      have HC2 := hide (hc 2 _ rfl)
      have hl3 := block_lt_of_cell HC0.out
      simp only at hl3
      clear hpr hua hbl hc he hdr htl
      go_wp2
      go_loopw [19, 20] (fun fd k wr => ∃ j : Nat, j ≤ n ∧ k = .int .i64 j ∧ Below w4.heap.size w4 wr ∧ ((fd = .bool false ∧ UArr wr g us ∧ ∀ i, i < j → us[i]? = some false → (T.map Ev.rn)[i]? ≠ some e.rn) ∨ (fd = .bool true ∧ ∃ p : Nat, (T.map Ev.rn)[p]? = some e.rn ∧ us[p]? = some false ∧ UArr wr g (us.set p true)))) (fun _ k _ => n - (intOf k).toNat)
      case atStart => exact ⟨0, by omega, rfl, HBL.out, .inl ⟨rfl, HUA.out, fun i hi => by omega⟩⟩
      case round =>
        clear hc3
        obtain ⟨j, hj, rfl, hbl, hrest⟩ := hrel
        have c2 := cell_blk (i := 1) ((hbl.block _ hs24).trans HY2.out) rfl
        have c3 := cell_blk (i := 1) ((hbl.block _ hs34).trans HY3.out) rfl
        have p0 := (hbl.cell (p := ⟨b3, f3 + m * 3, none⟩) hl3).trans HC0.out
        have p1 := (hbl.cell (p := ⟨b3, f3 + m * 3 + 1, none⟩) hl3).trans HC1.out
        have p2 := (hbl.cell (p := ⟨b3, f3 + m * 3 + 2, none⟩) hl3).trans HC2.out
        rcases hrest with ⟨rfl, hua, hno⟩ | ⟨rfl, p, hp1, hp2, hua⟩
        · by_cases hjn : j < n
          · have hji : (j : Int) < n := by omega
            obtain ⟨s, hse⟩ : ∃ s, T[j]? = some s := ⟨_, List.getElem?_eq_getElem (by have := HN.out; omega)⟩
            obtain ⟨u, hu⟩ : ∃ u, us[j]? = some u := ⟨_, List.getElem?_eq_getElem (by omega)⟩
            obtain ⟨u0, uf⟩ := hua j u hu
            obtain ⟨b2, f2, rfl, _, hc⟩ := T2'.out.at hse
            have hl2 := block_lt_of_cell (hc 0 _ rfl)
            simp only at hl2
            have r0 := (hbl.cell (p := ⟨b2, f2 + j * 3, none⟩) hl2).trans (hc 0 _ rfl)
            have r1 := (hbl.cell (p := ⟨b2, f2 + j * 3 + 1, none⟩) hl2).trans (hc 1 _ rfl)
            have r2 := (hbl.cell (p := ⟨b2, f2 + j * 3 + 2, none⟩) hl2).trans (hc 2 _ rfl)
            have HBX := hide hbl
            have HUX := hide hua
            have HNO := hide hno
            have HSE := hide hse
            have HU := hide hu
            obtain ⟨x0, x1, x2⟩ := s
            obtain ⟨y0, y1, y2⟩ := e
            simp only at r0 r1 r2 p0 p1 p2
            clear hbl hua hno hse hu hc
            have hdr : ∀ nq, UArr (wr.drewN nq) g us := fun nq => HUX.out
            have HDR := hide hdr
            clear hdr
            cases u with
            | true =>
              have hno' : Hid (∀ i, i < j + 1 → us[i]? = some false → (T.map Ev.rn)[i]? ≠ some (Ev.rn ⟨y0, y1, y2⟩)) := fun i hi hf => by
                by_cases hij : i = j
                · subst hij
                  rw [HU.out] at hf
                  cases hf
                · exact HNO.out i (by omega) hf
              go_wp2
              go_quiet (fail)
              go_wp2
              go_roundw
              case rel => exact ⟨j + 1, by omega, by go_num, below_drewN HBX.out _, .inl ⟨rfl, HDR.out _, hno'.out⟩⟩
              case measure => simp [intOf]; omega
            | false =>
              by_cases h1 : x1 = y1
              · subst h1
                by_cases h2 : x2 = y2
                · subst h2
                  have HSE2 : Hid ((T.map Ev.rn)[j]? = some (Ev.rn ⟨y0, x1, x2⟩)) := by
                    unfold Hid
                    rw [List.getElem?_map, HSE.out]
                    rfl
                  have hset : Hid (∀ nq, UArr ((wr.drewN nq).setCell ⟨g, j, none⟩ (.bool true)) g (us.set j true)) := fun nq => (HDR.out nq).set (by omega)
                  have hbs : Hid (∀ nq, Below w4.heap.size w4 ((wr.drewN nq).setCell ⟨g, j, none⟩ (.bool true))) := fun nq => (below_drewN HBX.out nq).setCell (p := ⟨g, j, none⟩) (by have := HGI.out; simp only; omega) _
                  go_wp2
                  go_quiet (fail)
                  go_wp2
                  go_roundw
                  case rel => exact ⟨j + 1, by omega, by go_num, hbs.out _, .inr ⟨rfl, j, HSE2.out, HU.out, hset.out _⟩⟩
                  case measure => simp [intOf]; omega
                · have d2 : (x2 == y2) = false := by simpa using h2
                  have e2 : decide (x2 = y2) = false := by simpa using h2
                  have hno' : Hid (∀ i, i < j + 1 → us[i]? = some false → (T.map Ev.rn)[i]? ≠ some (Ev.rn ⟨y0, x1, y2⟩)) := fun i hi hf => by
                    by_cases hij : i = j
                    · subst hij
                      rw [List.getElem?_map, HSE.out]
                      intro h
                      simp [Ev.rn] at h
                      exact h2 h
                    · exact HNO.out i (by omega) hf
                  go_wp2
                  go_quiet (fail)
                  go_wp2
                  go_roundw
                  case rel => exact ⟨j + 1, by omega, by go_num, below_drewN HBX.out _, .inl ⟨rfl, HDR.out _, hno'.out⟩⟩
                  case measure => simp [intOf]; omega
              · have d1 : (x1 == y1) = false := by simpa using h1
                have e1 : decide (x1 = y1) = false := by simpa using h1
                have hno' : Hid (∀ i, i < j + 1 → us[i]? = some false → (T.map Ev.rn)[i]? ≠ some (Ev.rn ⟨y0, y1, y2⟩)) := fun i hi hf => by
                  by_cases hij : i = j
                  · subst hij
                    rw [List.getElem?_map, HSE.out]
                    intro h
                    simp [Ev.rn] at h
                    exact h1 h.1
                  · exact HNO.out i (by omega) hf
                go_wp2
                go_quiet (fail)
                go_wp2
                go_roundw
                case rel => exact ⟨j + 1, by omega, by go_num, below_drewN HBX.out _, .inl ⟨rfl, HDR.out _, hno'.out⟩⟩
                case measure => simp [intOf]; omega
          · exfalso
            obtain ⟨k, k1, k2⟩ := rem_mem (HPR.out.mem_iff.2 (List.mem_cons_self ..))
            have hkl := (List.getElem?_eq_some_iff.1 k2).1
            exact hno k (by omega) k2 k1
        · have hpr2 : Hid ((rem (T.map Ev.rn) (us.set p true)).Perm ((tr.map Ev.rn).drop (m + 1))) := ((rem_set hp1 hp2).symm.trans HPR.out).cons_inv
          have HUX := hide hua
          have HBX := hide hbl
          obtain ⟨y0, y1, y2⟩ := e
          simp only at p0 p1 p2 hw0 hw1
          have hn0 : ¬ y0 < 0 := by omega
          have hn1 : ¬ 1 + z ≤ y0 := by omega
          clear hua hbl hp1 hp2
          by_cases hjn : (j : Int) < n
          all_goals
            go_wp2
            go_roundw
            case rel => exact ⟨m + 1, us.set p true, by omega, by go_num, by simp [hul], hpr2.out, HUX.out, HBX.out⟩
            case measure => simp [intOf]; omega
    · have HBX := hide (Below.up HBE.out hbl HBE.out.size)
      clear hbl hua hpr
      have hmi : ¬ (m : Int) < n := by omega
      go_wp2
      go_ret
      exact ⟨rfl, HBX.out⟩
end Go.Proofs.Ytkmakliebhnhbaa
