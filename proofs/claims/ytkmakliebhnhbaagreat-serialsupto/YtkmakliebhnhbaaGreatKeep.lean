import Derived.Test.YtkmakliebhnhbaaGreatKeepV
namespace Go.Proofs.YtkmakliebhnhbaaGreat
open Go.RowKit

/-- The books behind what leaves old memory alone. -/
theorem Bk.below {W W' : World} {B Bw : Nat} {S : Nat → Prop} {pv rv nv ev vv : Value} {pu ru nu eu vu : List Value} (h : Bk W B Bw S pv rv nv ev vv pu ru nu eu vu) (hb : Below W.heap.size W W') : Bk W' B Bw S pv rv nv ev vv pu ru nu eu vu := by
  have hc : ∀ j, W'.cell? ⟨Bw, j, none⟩ = W.cell? ⟨Bw, j, none⟩ := fun j => hb.cell (p := ⟨Bw, j, none⟩) h.lt
  have hS : ∀ b, S b → b < W.heap.size → S b ∧ W'.heap[b]? = W.heap[b]? := fun b h1 h2 => ⟨h1, hb.block b h2⟩
  exact { h with
    lt := Nat.lt_of_lt_of_le h.lt hb.size
    c0 := (hc 0).trans h.c0
    c1 := (hc 1).trans h.c1
    c2 := (hc 2).trans h.c2
    c3 := (hc 3).trans h.c3
    c4 := (hc 4).trans h.c4
    c5 := (hc 5).trans h.c5
    fz := fun j => (hb.frozen (p := ⟨Bw, j, none⟩) h.lt).trans (h.fz j)
    op := own_below h.op hb
    or := own_below h.or hb
    on := own_below h.on hb
    oe := own_below h.oe hb
    ov := own_below h.ov hb
    st := fun b hb' => ⟨Nat.lt_of_lt_of_le (h.st b hb').1 hb.size, (h.st b hb').2⟩
    mn := fun i u hu => by obtain ⟨l, hl⟩ := h.mn i u hu; exact ⟨l, rep_turn (List.cons_ne_nil _ _) hl hS⟩
    me := fun i u hu => by obtain ⟨l, hl⟩ := h.me i u hu; exact ⟨l, rep_turn (List.cons_ne_nil _ _) hl hS⟩
    mv := fun i u hu => by obtain ⟨l, hl⟩ := h.mv i u hu; exact ⟨l, rep_turn (List.cons_ne_nil _ _) hl hS⟩ }

theorem OwnV.below {W W' : World} {base n : Nat} {lv : Value} {V : Nat → Val} {LV : Nat → Value} {xs : List Value} (h : OwnV W base lv n V LV xs) (hb : Below W.heap.size W W') : OwnV W' base lv n V LV xs :=
  { h with row := own_below h.row hb, own := fun r hr => own_below (h.own r hr) hb }
theorem OwnV.base {W : World} {base base' n : Nat} {lv : Value} {V : Nat → Val} {LV : Nat → Value} {xs : List Value} (h : OwnV W base lv n V LV xs) (hb : base' ≤ base) : OwnV W base' lv n V LV xs :=
  { h with row := own_base h.row hb, own := fun r hr => own_base (h.own r hr) hb }

/-- A list of new memory is clear of one of old. -/
theorem clear_new {w0 w : World} {b0 : Nat} {e e' : TypeId} {size size' : Nat} {u v : Value} {n m : Nat} {xs ys : List Value} (hu : w.ownsRow w0.heap.size e size u n xs) (hv : w0.ownsRow b0 e' size' v m ys) : Clear u v := fun b hb hv' => by
  have := (hu.lt b hb).1; have := (hv.lt b hv').2; omega

set_option maxRecDepth 100000 in
set_option maxHeartbeats 1000000 in
theorem keep_any (B Bw n nt : Nat) (S : Nat → Prop) (lv tv pv rv nv ev vv : Value) (pu ru nu eu vu xs es : List Value) (V : Nat → Val) (LV : Nat → Value) (s0 s1 s2 s3 : Int) (w0 w : World) (hn : n ≤ 4) (hnt : nt ≤ 200000000) (hnu : nu.length ≤ 100000000) (heu : eu.length ≤ 200000000) (hvu : vu.length ≤ 200000000) (hll : ∀ r, r < n → (V r).l.length ≤ 200000000)
    (hBk : Bk w0 B Bw S pv rv nv ev vv pu ru nu eu vu) (hb : Below w0.heap.size w0 w) (hO : OwnV w w0.heap.size lv n V LV xs) (hT : w.ownsRow w0.heap.size 89 3 tv nt es) (hlt : Clear lv tv) (hLt : ∀ r, r < n → Clear (LV r) tv) :
    Calls Tryz.prog 26 #[.pointer (some ⟨Bw, 0, none⟩), .agg #[lv, tv, .int .i64 s0, .int .i64 s1, .int .i64 s2, .int .i64 s3]] w fun e w' => ∃ S2 nv2 ev2 vv2 nu2 eu2 vu2, e = .returned (.tuple #[]) ∧ Bk w' B Bw S2 pv rv nv2 ev2 vv2 pu ru nu2 eu2 vu2 ∧
      Frm (fun k => k = Bw ∨ nv.ownBlock = some k ∨ ev.ownBlock = some k ∨ vv.ownBlock = some k) w0 w' ∧ (∀ b, S b → S2 b) ∧ nu2.length = nu.length + 4 * n ∧ eu2.length = eu.length + 4 ∧ vu2.length = vu.length + 4 ∧
      Frm (fun k => k = Bw ∨ nv.ownBlock = some k ∨ ev.ownBlock = some k ∨ vv.ownBlock = some k ∨ lv.ownBlock = some k ∨ tv.ownBlock = some k ∨ ∃ r, r < n ∧ (LV r).ownBlock = some k) w w' := by
  have hBs : B ≤ w0.heap.size := Nat.le_trans hBk.bw (Nat.le_of_lt hBk.lt)
  obtain ⟨la, lc, rfl⟩ := own_form hO.row
  obtain ⟨ta, tc, rfl⟩ := own_form hT
  have hnew : ∀ b, (Value.slice la n lc).ownBlock = some b → w0.heap.size ≤ b := fun b h => (hO.row.lt b h).1
  have hnewL : ∀ r, r < n → ∀ b, (LV r).ownBlock = some b → w0.heap.size ≤ b := fun r hr b h => ((hO.own r hr).lt b h).1
  have hnewT : ∀ b, (Value.slice ta nt tc).ownBlock = some b → w0.heap.size ≤ b := fun b h => (hT.lt b h).1
  obtain ⟨o, ho⟩ : ∃ o, Obj.cells #[.slice la n lc, .slice ta nt tc, .int .i64 s0, .int .i64 s1, .int .i64 s2, .int .i64 s3] 69 = o := ⟨_, rfl⟩
  have hba : Below w0.heap.size w0 (w.alloc o) := hb.alloc hb.size o
  have hBk1 := hBk.below hba
  have hO1 := (hO.base hBs).below ((Below.refl _ w).alloc (Nat.le_refl _) o)
  have hT1 : (w.alloc o).ownsRow B 89 3 (.slice ta nt tc) nt es := (own_base hT hBs).alloc o
  have HC := hide (keepValues_any B Bw n S (.slice la n lc) pv rv nv ev vv pu ru nu eu vu xs V LV (w.alloc o) hn hnu hvu (Nat.le_trans hBs hba.size) hll hBk1 hO1
    (fun h => by have := hnew _ h; have := hBk.lt; omega) (clear_new hO.row hBk.op) (clear_new hO.row hBk.or) (clear_new hO.row hBk.on) (clear_new hO.row hBk.oe) (clear_new hO.row hBk.ov) (fun b hS h => by have := hnew b h; have := (hBk.st b hS).1; omega)
    (fun r hr h => by have := hnewL r hr _ h; have := hBk.lt; omega) (fun r hr => clear_new (hO.own r hr) hBk.op) (fun r hr => clear_new (hO.own r hr) hBk.or) (fun r hr => clear_new (hO.own r hr) hBk.on) (fun r hr => clear_new (hO.own r hr) hBk.oe) (fun r hr => clear_new (hO.own r hr) hBk.ov) (fun r hr b hS h => by have := hnewL r hr b h; have := (hBk.st b hS).1; omega))
  have HK2 : Hid (∀ (w2 : World) (S2 : Nat → Prop) (nv2 vv2 : Value) (nu2 vu2 : List Value), Bk w2 B Bw S2 pv rv nv2 ev vv2 pu ru nu2 eu vu2 →
      Frm (fun k => k = Bw ∨ nv.ownBlock = some k ∨ vv.ownBlock = some k ∨ (Value.slice la n lc).ownBlock = some k ∨ ∃ r, r < n ∧ (LV r).ownBlock = some k) (w.alloc o) w2 → (∀ b, S b → S2 b) →
      (∀ b, S2 b → S b ∨ (Value.slice la n lc).ownBlock = some b ∨ (∃ r, r < n ∧ (LV r).ownBlock = some b) ∨ (w.alloc o).heap.size ≤ b) →
      (nv2.ownBlock = nv.ownBlock ∨ ∃ b, nv2.ownBlock = some b ∧ (w.alloc o).heap.size ≤ b) → (vv2.ownBlock = vv.ownBlock ∨ ∃ b, vv2.ownBlock = some b ∧ (w.alloc o).heap.size ≤ b) →
      Calls Tryz.prog 40 #[.pointer (some ⟨Bw, 0, none⟩), .slice ta nt tc] w2 fun e w' => ∃ S3 ev3 eu3, e = .returned (.tuple #[]) ∧ Bk w' B Bw S3 pv rv nv2 ev3 vv2 pu ru nu2 eu3 vu2 ∧
        Frm (fun k => k = Bw ∨ nv.ownBlock = some k ∨ ev.ownBlock = some k ∨ vv.ownBlock = some k) w0 w' ∧ (∀ b, S b → S3 b) ∧ eu3.length = eu.length + 4 ∧
        Frm (fun k => k = Bw ∨ nv.ownBlock = some k ∨ ev.ownBlock = some k ∨ vv.ownBlock = some k ∨ (Value.slice la n lc).ownBlock = some k ∨ (Value.slice ta nt tc).ownBlock = some k ∨ ∃ r, r < n ∧ (LV r).ownBlock = some k) w w') := by
    intro w2 S2 nv2 vv2 nu2 vu2 hB2 hF2 hsub hsup hn2 hv2
    have hown : w2.ownsRow B 89 3 (.slice ta nt tc) nt es := own_turn hT1 (fun b hb' hl => hF2.block b hl (fun h => by
      rcases h with h | h | h | h | ⟨r, hr, h⟩
      · have := hnewT b hb'; have := hBk.lt; omega
      · have := hnewT b hb'; have := (hBk.on.lt b h).2; omega
      · have := hnewT b hb'; have := (hBk.ov.lt b h).2; omega
      · exact hlt b h hb'
      · exact hLt r hr b h hb'))
    have hz : ∀ u u0 : Value, Clear (.slice ta nt tc) u0 → (u.ownBlock = u0.ownBlock ∨ ∃ b, u.ownBlock = some b ∧ (w.alloc o).heap.size ≤ b) → Clear (.slice ta nt tc) u := fun u u0 h0 hu b hb' h => by
      rcases hu with h1 | ⟨b', h1, hle⟩
      · exact h0 b hb' (h1.symm.trans h)
      · rw [h1] at h; injection h with h; have := (hT1.lt b hb').2; omega
    have zp : Clear (.slice ta nt tc) pv := clear_new hT hBk.op
    have zr : Clear (.slice ta nt tc) rv := clear_new hT hBk.or
    have zn := hz nv2 nv (clear_new hT hBk.on) hn2
    have ze : Clear (.slice ta nt tc) ev := clear_new hT hBk.oe
    have zv := hz vv2 vv (clear_new hT hBk.ov) hv2
    have htB : (Value.slice ta nt tc).ownBlock ≠ some Bw := fun h => by have := hnewT _ h; have := hBk.lt; omega
    have hS2 : ∀ b, S2 b → (Value.slice ta nt tc).ownBlock ≠ some b := fun b hb' h => by
      rcases hsup b hb' with h1 | h1 | ⟨r, hr, h1⟩ | h1
      · have := hnewT b h; have := (hBk.st b h1).1; omega
      · exact hlt b h1 h
      · exact hLt r hr b h1 h
      · have := (hT1.lt b h).2; omega
    refine (keepEvents_any B Bw nt (.slice ta nt tc) ev es eu w2 hnt heu hB2.lt (Nat.le_trans (Nat.le_trans hBs hba.size) hF2.size) hB2.c3 (hB2.fz 3) hB2.oe hown hB2.be htB ze).mono ?_
    rintro e w3 ⟨a, b, c, ev3, rfl, K⟩
    refine ⟨_, ev3, _, rfl, hB2.keepE K zp zr zn ze zv hS2, ?_, fun b hb' => .inl (hsub b hb'), by simp, ?_⟩
    rotate_left
    · refine ((Frm.refl _ w).alloc o |>.trans hF2 (fun k hk h => ?_)).trans K.frm (fun k hk h => ?_)
      · rcases h with h | h | h | h | h
        · exact .inl h
        · exact .inr (.inl h)
        · exact .inr (.inr (.inr (.inl h)))
        · exact .inr (.inr (.inr (.inr (.inl h))))
        · exact .inr (.inr (.inr (.inr (.inr (.inr h)))))
      · rcases h with h | h | h
        · exact .inl h
        · exact .inr (.inr (.inl h))
        · exact .inr (.inr (.inr (.inr (.inr (.inl h)))))
    refine ((Frm.of_below _ hba).trans hF2 (fun k hk h => ?_)).trans K.frm (fun k hk h => ?_)
    · rcases h with h | h | h | h | ⟨r, hr, h⟩
      · exact .inl h
      · exact .inr (.inl h)
      · exact .inr (.inr (.inr h))
      · have := hnew k h; omega
      · have := hnewL r hr k h; omega
    · rcases h with h | h | h
      · exact .inl h
      · exact .inr (.inr (.inl h))
      · have := hnewT k h; omega
  have hoc : ∀ w2 : World, Frm (fun k => k = Bw ∨ nv.ownBlock = some k ∨ vv.ownBlock = some k ∨ (Value.slice la n lc).ownBlock = some k ∨ ∃ r, r < n ∧ (LV r).ownBlock = some k) (w.alloc o) w2 → w2.cell? ⟨w.heap.size, 1, none⟩ = some (.slice ta nt tc) := fun w2 hF2 => by
    have hbk : w2.heap[w.heap.size]? = (w.alloc o).heap[w.heap.size]? := hF2.block _ (by simp) (fun h => by
      rcases h with h | h | h | h | ⟨r, hr, h⟩
      · have := hBk.lt; have := hb.size; omega
      · have := (hBk.on.lt _ h).2; have := hb.size; omega
      · have := (hBk.ov.lt _ h).2; have := hb.size; omega
      · have := (hO.row.lt _ h).2; omega
      · have := ((hO.own r hr).lt _ h).2; omega)
    rw [World.cell?_of_block (w := w.alloc o) (a := ⟨w.heap.size, 1, none⟩) hbk]
    subst ho
    exact cell_of_row _ w.heap.size 1 _ _ (0, 0) (heap_new w _)
  have HOC := hide hoc
  have HOO := hide ho
  clear hBk hb hO hT hlt hLt hnew hnewL hnewT hba hBk1 hO1 hT1 hoc ho
  go_enter Tryz.func26, Tryz.ntmps26
  go_wp2_with fail
  rw [HOO.out]
  refine HC.out.mono ?_
  rintro e w2 ⟨S2, nv2, vv2, nu2, vu2, rfl, hB2, hF2, hsub, hsup, hln, hlv, hn2, hv2⟩
  have HK := hide (HK2.out w2 S2 nv2 vv2 nu2 vu2 hB2 hF2 hsub hsup hn2 hv2)
  have c1 := HOC.out w2 hF2
  have HLN := hide hln
  have HLV := hide hlv
  clear hB2 hF2 hsub hsup hln hlv hn2 hv2 HC HK2 HOC
  go_wp2_with fail
  refine HK.out.mono ?_
  rintro e w3 ⟨S3, ev3, eu3, rfl, hB3, hF3, hsub3, hle3, hfr3⟩
  have HR := hide (⟨S3, nv2, ev3, vv2, nu2, eu3, vu2, hB3, hF3, hsub3, HLN.out, hle3, HLV.out, hfr3⟩ : ∃ S2 nv2 ev2 vv2 nu2 eu2 vu2, Bk w3 B Bw S2 pv rv nv2 ev2 vv2 pu ru nu2 eu2 vu2 ∧
      Frm (fun k => k = Bw ∨ nv.ownBlock = some k ∨ ev.ownBlock = some k ∨ vv.ownBlock = some k) w0 w3 ∧ (∀ b, S b → S2 b) ∧ nu2.length = nu.length + 4 * n ∧ eu2.length = eu.length + 4 ∧ vu2.length = vu.length + 4 ∧
      Frm (fun k => k = Bw ∨ nv.ownBlock = some k ∨ ev.ownBlock = some k ∨ vv.ownBlock = some k ∨ (Value.slice la n lc).ownBlock = some k ∨ (Value.slice ta nt tc).ownBlock = some k ∨ ∃ r, r < n ∧ (LV r).ownBlock = some k) w w3)
  clear hB3 hF3 hsub3 hle3 hfr3 HK
  go_wp2
  go_end0
  obtain ⟨S4, nv4, ev4, vv4, nu4, eu4, vu4, hr⟩ := HR.out
  exact ⟨S4, nv4, ev4, vv4, nu4, eu4, vu4, rfl, hr⟩
end Go.Proofs.YtkmakliebhnhbaaGreat

/- MADE BY wip/genstill.py -/
namespace Go.Proofs.YtkmakliebhnhbaaGreat
open Go.RowKit

/-- An entry of a book, in a later world: its cell and its list. -/
theorem book_at {w wr : World} {B : Nat} {e : TypeId} {v : Value} {us : List Value} {i : Nat} {u : Value} (h : w.ownsRow B e 1 v us.length us) (hb : Below w.heap.size w wr) (hu : us[i]? = some u) :
    ∃ g cap, v = .slice (some ⟨g, 0, none⟩) us.length cap ∧ wr.cell? ⟨g, i, none⟩ = some u ∧ g < w.heap.size := by
  have hi := (List.getElem?_eq_some_iff.1 hu).1
  obtain ⟨g, cap, hv, _, hg⟩ := h.form (by omega)
  subst hv
  exact ⟨g, cap, rfl, (hb.cell (p := ⟨g, i, none⟩) hg).trans ((h.cellAt i (by omega)).trans hu), hg⟩

set_option maxRecDepth 100000 in
set_option maxHeartbeats 4000000 in
theorem still_any (B Bw : Nat) (S : Nat → Prop) (pv rv nv ev vv : Value) (pu ru nu eu vu : List Value) (w : World) (hnu : nu.length ≤ 200000000) (heu : eu.length ≤ 200000000) (hvu : vu.length ≤ 200000000) (hBk : Bk w B Bw S pv rv nv ev vv pu ru nu eu vu) :
    Calls Tryz.prog 12 #[.pointer (some ⟨Bw, 0, none⟩)] w fun e w' => e = .returned (.bool true) ∧ Below w.heap.size w w' := by
  have HBk := hide hBk
  have hBl := hBk.lt
  obtain ⟨nn, hnn⟩ : ∃ nn, nu.length = nn := ⟨_, rfl⟩
  obtain ⟨ne, hne⟩ : ∃ ne, eu.length = ne := ⟨_, rfl⟩
  obtain ⟨nw, hnw⟩ : ∃ nw, vu.length = nw := ⟨_, rfl⟩
  obtain ⟨na, nc, hnv⟩ := own_form hBk.on
  obtain ⟨ea, ec, hev⟩ := own_form hBk.oe
  obtain ⟨va, vc, hvv⟩ := own_form hBk.ov
  have k2 := hBk.c2
  have k3 := hBk.c3
  have k4 := hBk.c4
  have k5 := hBk.c5
  rw [hnv, hnn] at k2
  rw [hev, hne] at k3
  rw [hvv, hnw] at k4
  rw [hnn] at hnu
  rw [hne] at heu
  rw [hnw] at hvu
  have HNN := hide hnn
  have HNE := hide hne
  have HNW := hide hnw
  have HNV := hide hnv
  have HEV := hide hev
  have HVV := hide hvv
  have K2 := hide k2
  have K3 := hide k3
  have K4 := hide k4
  have K5 := hide k5
  clear hBk hnn hne hnw hnv hev hvv k2 k3 k4 k5
  go_enter Tryz.func12, Tryz.ntmps12
  go_wp2
  go_loopw [3] (fun i wr => (∃ k : Nat, k ≤ nn ∧ i = .int .i64 k) ∧ Below w.heap.size w wr) (fun i _ => nn - (intOf i).toNat)
  case atStart => exact ⟨⟨0, Nat.zero_le _, rfl⟩, Below.refl _ _⟩
  case round =>
    obtain ⟨⟨k, hk, rfl⟩, hB⟩ := hrel
    have HB := hide hB
    have q2 := (hB.cell (p := ⟨Bw, 2, none⟩) hBl).trans K2.out
    have hs := hB.size
    by_cases hlt : k < nn
    · obtain ⟨u, hu⟩ : ∃ u, nu[k]? = some u := ⟨nu[k]'(by have := HNN.out; omega), by simp⟩
      obtain ⟨g, cap, hv, hcu, hgl⟩ := book_at HBk.out.on hB hu
      rw [HNV.out, HNN.out] at hv
      obtain ⟨L, hL⟩ := HBk.out.mn k u hu
      obtain ⟨a1, c1, hu2, hc1, hm1⟩ := hL.form
      rw [List.length_replicate] at hu2 hc1
      obtain ⟨rfl, rfl⟩ : na = some ⟨g, 0, none⟩ ∧ nc = cap := by cases hv; exact ⟨rfl, rfl⟩
      subst hu2
      have HL := hide hL
      have HCU : Hid (∀ wx : World, Below w.heap.size w wx → wx.cell? ⟨g, k, none⟩ = some (.slice a1 L c1)) := fun wx hx => by
        obtain ⟨g', cap', hv', hcu', _⟩ := book_at HBk.out.on hx hu
        rw [HNV.out] at hv'
        cases hv'
        exact hcu'
      have hki : (k : Int) < nn := by omega
      unfold maxLen at hm1
      clear hB hu hv hL hcu
      obtain ⟨wo, hwo⟩ : ∃ wo, wo = wr := ⟨_, rfl⟩
      rw [← hwo] at HB q2 hs ⊢
      clear hwo
      go_wp2
      go_loopw [4] (fun i wr => (∃ j : Nat, j ≤ L ∧ i = .int .i64 j) ∧ Below w.heap.size w wr) (fun i _ => L - (intOf i).toNat)
      case atStart => exact ⟨⟨0, Nat.zero_le _, rfl⟩, HB.out⟩
      case round =>
        clear q2 hs
        obtain ⟨⟨j, hj, rfl⟩, hBj⟩ := hrel
        have HBj := hide hBj
        have q2 := (hBj.cell (p := ⟨Bw, 2, none⟩) hBl).trans K2.out
        have q3 := HCU.out wr hBj
        have hsj := hBj.size
        by_cases hjL : j < L
        · obtain ⟨b1, o1, rfl, _, hc⟩ := HL.out.at (k := j) (x := _) (by rw [List.getElem?_replicate, if_pos hjL])
          have e0 := hc 0 _ rfl
          have hb1 := block_lt_of_cell e0
          simp only [Nat.mul_one, Nat.add_zero] at hb1 e0
          have r0 := (hBj.cell (p := ⟨b1, o1 + j, none⟩) hb1).trans e0
          have hmk : mkZ k = -1000 - (k : Int) / 4 := by unfold mkZ; simp only [Int.natCast_ediv]; rfl
          rw [hmk] at r0
          have hji : (j : Int) < L := by omega
          have hq0 : (0 : Int) ≤ (k : Int) / 4 := by omega
          have hq1 : (k : Int) / 4 ≤ 200000000 := by omega
          clear e0 hc hBj hmk
          go_wp2
          go_roundw
          case rel => exact ⟨⟨j + 1, by omega, by go_num⟩, HBj.out⟩
          case measure => simp [intOf]; omega
        · clear hBj
          go_wp2
          go_roundw
          case rel => exact ⟨⟨k + 1, by omega, by go_num⟩, HBj.out⟩
          case measure => simp [intOf]; omega
    · obtain rfl : nn = k := by omega
      clear hB
      go_wp2
      have HB2 := HB
      go_loopw [5] (fun i wr => (∃ k : Nat, k ≤ ne ∧ i = .int .i64 k) ∧ Below w.heap.size w wr) (fun i _ => ne - (intOf i).toNat)
      case atStart => exact ⟨⟨0, Nat.zero_le _, rfl⟩, HB2.out⟩
      case round =>
        obtain ⟨⟨k, hk, rfl⟩, hB⟩ := hrel
        have HB := hide hB
        have q2 := (hB.cell (p := ⟨Bw, 3, none⟩) hBl).trans K3.out
        have hs := hB.size
        by_cases hlt : k < ne
        · obtain ⟨u, hu⟩ : ∃ u, eu[k]? = some u := ⟨eu[k]'(by have := HNE.out; omega), by simp⟩
          obtain ⟨g, cap, hv, hcu, hgl⟩ := book_at HBk.out.oe hB hu
          rw [HEV.out, HNE.out] at hv
          obtain ⟨L, hL⟩ := HBk.out.me k u hu
          obtain ⟨a1, c1, hu2, hc1, hm1⟩ := hL.form
          rw [List.length_replicate] at hu2 hc1
          obtain ⟨rfl, rfl⟩ : ea = some ⟨g, 0, none⟩ ∧ ec = cap := by cases hv; exact ⟨rfl, rfl⟩
          subst hu2
          have HL := hide hL
          have HCU : Hid (∀ wx : World, Below w.heap.size w wx → wx.cell? ⟨g, k, none⟩ = some (.slice a1 L c1)) := fun wx hx => by
            obtain ⟨g', cap', hv', hcu', _⟩ := book_at HBk.out.oe hx hu
            rw [HEV.out] at hv'
            cases hv'
            exact hcu'
          have hki : (k : Int) < ne := by omega
          unfold maxLen at hm1
          clear hB hu hv hL hcu
          obtain ⟨wo, hwo⟩ : ∃ wo, wo = wr := ⟨_, rfl⟩
          rw [← hwo] at HB q2 hs ⊢
          clear hwo
          go_wp2
          go_loopw [6] (fun i wr => (∃ j : Nat, j ≤ L ∧ i = .int .i64 j) ∧ Below w.heap.size w wr) (fun i _ => L - (intOf i).toNat)
          case atStart => exact ⟨⟨0, Nat.zero_le _, rfl⟩, HB.out⟩
          case round =>
            clear q2 hs
            obtain ⟨⟨j, hj, rfl⟩, hBj⟩ := hrel
            have HBj := hide hBj
            have q2 := (hBj.cell (p := ⟨Bw, 3, none⟩) hBl).trans K3.out
            have q3 := HCU.out wr hBj
            have hsj := hBj.size
            by_cases hjL : j < L
            · obtain ⟨b1, o1, rfl, _, hc⟩ := HL.out.at (k := j) (x := _) (by rw [List.getElem?_replicate, if_pos hjL])
              have e0 := hc 0 _ rfl
              have e1 := hc 1 _ rfl
              have e2 := hc 2 _ rfl
              have hb1 := block_lt_of_cell e0
              simp only [Nat.add_zero] at hb1 e0
              have r0 := (hBj.cell (p := ⟨b1, o1 + j * 3, none⟩) hb1).trans e0
              have r1 := (hBj.cell (p := ⟨b1, o1 + j * 3 + 1, none⟩) hb1).trans e1
              have r2 := (hBj.cell (p := ⟨b1, o1 + j * 3 + 2, none⟩) hb1).trans e2
              clear e1 e2
              have hmk : mkZ k = -1000 - (k : Int) / 4 := by unfold mkZ; simp only [Int.natCast_ediv]; rfl
              rw [hmk] at r0
              have hji : (j : Int) < L := by omega
              have hq0 : (0 : Int) ≤ (k : Int) / 4 := by omega
              have hq1 : (k : Int) / 4 ≤ 200000000 := by omega
              clear e0 hc hBj hmk
              go_wp2
              go_roundw
              case rel => exact ⟨⟨j + 1, by omega, by go_num⟩, HBj.out⟩
              case measure => simp [intOf]; omega
            · clear hBj
              go_wp2
              go_roundw
              case rel => exact ⟨⟨k + 1, by omega, by go_num⟩, HBj.out⟩
              case measure => simp [intOf]; omega
        · obtain rfl : ne = k := by omega
          clear hB
          go_wp2
          have HB3 := HB
          go_loopw [7] (fun i wr => (∃ k : Nat, k ≤ nw ∧ i = .int .i64 k) ∧ Below w.heap.size w wr) (fun i _ => nw - (intOf i).toNat)
          case atStart => exact ⟨⟨0, Nat.zero_le _, rfl⟩, HB3.out⟩
          case round =>
            obtain ⟨⟨k, hk, rfl⟩, hB⟩ := hrel
            have HB := hide hB
            have q2 := (hB.cell (p := ⟨Bw, 4, none⟩) hBl).trans K4.out
            have hs := hB.size
            by_cases hlt : k < nw
            · obtain ⟨u, hu⟩ : ∃ u, vu[k]? = some u := ⟨vu[k]'(by have := HNW.out; omega), by simp⟩
              obtain ⟨g, cap, hv, hcu, hgl⟩ := book_at HBk.out.ov hB hu
              rw [HVV.out, HNW.out] at hv
              obtain ⟨L, hL⟩ := HBk.out.mv k u hu
              obtain ⟨a1, c1, hu2, hc1, hm1⟩ := hL.form
              rw [List.length_replicate] at hu2 hc1
              obtain ⟨rfl, rfl⟩ : va = some ⟨g, 0, none⟩ ∧ vc = cap := by cases hv; exact ⟨rfl, rfl⟩
              subst hu2
              have HL := hide hL
              have HCU : Hid (∀ wx : World, Below w.heap.size w wx → wx.cell? ⟨g, k, none⟩ = some (.slice a1 L c1)) := fun wx hx => by
                obtain ⟨g', cap', hv', hcu', _⟩ := book_at HBk.out.ov hx hu
                rw [HVV.out] at hv'
                cases hv'
                exact hcu'
              have hki : (k : Int) < nw := by omega
              unfold maxLen at hm1
              clear hB hu hv hL hcu
              obtain ⟨wo, hwo⟩ : ∃ wo, wo = wr := ⟨_, rfl⟩
              rw [← hwo] at HB q2 hs ⊢
              clear hwo
              go_wp2
              go_loopw [8] (fun i wr => (∃ j : Nat, j ≤ L ∧ i = .int .i64 j) ∧ Below w.heap.size w wr) (fun i _ => L - (intOf i).toNat)
              case atStart => exact ⟨⟨0, Nat.zero_le _, rfl⟩, HB.out⟩
              case round =>
                clear q2 hs
                obtain ⟨⟨j, hj, rfl⟩, hBj⟩ := hrel
                have HBj := hide hBj
                have q2 := (hBj.cell (p := ⟨Bw, 4, none⟩) hBl).trans K4.out
                have q3 := HCU.out wr hBj
                have hsj := hBj.size
                by_cases hjL : j < L
                · obtain ⟨b1, o1, rfl, _, hc⟩ := HL.out.at (k := j) (x := _) (by rw [List.getElem?_replicate, if_pos hjL])
                  have e0 := hc 0 _ rfl
                  have e1 := hc 1 _ rfl
                  have e2 := hc 2 _ rfl
                  have hb1 := block_lt_of_cell e0
                  simp only [Nat.add_zero] at hb1 e0
                  have r0 := (hBj.cell (p := ⟨b1, o1 + j * 3, none⟩) hb1).trans e0
                  have r1 := (hBj.cell (p := ⟨b1, o1 + j * 3 + 1, none⟩) hb1).trans e1
                  have r2 := (hBj.cell (p := ⟨b1, o1 + j * 3 + 2, none⟩) hb1).trans e2
                  clear e1 e2
                  have hmk : mkZ k = -1000 - (k : Int) / 4 := by unfold mkZ; simp only [Int.natCast_ediv]; rfl
                  rw [hmk] at r0
                  have hji : (j : Int) < L := by omega
                  have hq0 : (0 : Int) ≤ (k : Int) / 4 := by omega
                  have hq1 : (k : Int) / 4 ≤ 200000000 := by omega
                  clear e0 hc hBj hmk
                  go_wp2
                  go_roundw
                  case rel => exact ⟨⟨j + 1, by omega, by go_num⟩, HBj.out.alloc hsj _⟩
                  case measure => simp [intOf]; omega
                · clear hBj
                  go_wp2
                  go_roundw
                  case rel => exact ⟨⟨k + 1, by omega, by go_num⟩, HBj.out⟩
                  case measure => simp [intOf]; omega
            · obtain rfl : nw = k := by omega
              clear hB
              go_wp2
              have q5 := (HB.out.cell (p := ⟨Bw, 5, none⟩) hBl).trans K5.out
              go_wp2
              go_loop [10] (fun i => i = .int .i64 0) (fun _ => 0)
              case atStart => rfl
              case round =>
                subst hrel
                go_wp2
                go_ret
                exact ⟨rfl, HB.out⟩
end Go.Proofs.YtkmakliebhnhbaaGreat
