import Derived.Test.YtkmakliebhnhbaaGreatWd
/- MADE BY wip/genkeep.py -/
namespace Go.Proofs.YtkmakliebhnhbaaGreat
open Go.RowKit

theorem Tryz.infoLV : (Tryz.prog.info? 64).map (fun i => (i.zero, i.size, i.bytes)) = some (some (.slice none 0 0), 1, 24) := by kernel_rfl
theorem Tryz.infoV' : (Tryz.prog.info? 91).map (fun i => (i.zero, i.size, i.bytes)) = some (some (.agg #[.int .i64 0, .bool false, .slice none 0 0]), 3, 40) := by kernel_rfl

/-- Values that came out: their row, each list, all apart. -/
structure OwnV (W : World) (base : Nat) (lv : Value) (n : Nat) (V : Nat → Val) (LV : Nat → Value) (xs : List Value) : Prop where
  row : W.ownsRow base 91 3 lv n xs
  n0 : ∀ r, r < n → xs[r * 3]? = some (.int .i64 (V r).n)
  n1 : ∀ r, r < n → xs[r * 3 + 1]? = some (.bool (V r).is)
  n2 : ∀ r, r < n → xs[r * 3 + 2]? = some (LV r)
  own : ∀ r, r < n → W.ownsRow base 2 1 (LV r) (V r).l.length (ints (V r).l)
  off : ∀ r, r < n → Clear (LV r) lv
  apart : ∀ r s, r < n → s < n → r ≠ s → Clear (LV r) (LV s)

/-- The loop over the values' lists: where it stands. -/
structure KV (w wr : World) (base Bw : Nat) (S S' : Nat → Prop) (pv rv nv nv' ev vv : Value) (pu ru nu nu' eu vu : List Value) (LV : Nat → Value) (i : Nat) : Prop where
  bk : Bk wr base Bw S' pv rv nv' ev vv pu ru nu' eu vu
  frm : Frm (fun k => k = Bw ∨ nv.ownBlock = some k ∨ ∃ r, r < i ∧ (LV r).ownBlock = some k) w wr
  sub : ∀ b, S b → S' b
  sup : ∀ b, S' b → S b ∨ (∃ r, r < i ∧ (LV r).ownBlock = some b) ∨ w.heap.size ≤ b
  len : nu'.length = nu.length + 4 * i
  nvb : nv'.ownBlock = nv.ownBlock ∨ ∃ b, nv'.ownBlock = some b ∧ w.heap.size ≤ b

theorem KV.next {w wr w2 : World} {base Bw n : Nat} {S S' : Nat → Prop} {pv rv nv nv' nv2 ev vv a b c : Value} {pu ru nu nu' eu vu : List Value} {LV : Nat → Value} {i : Nat}
    (h : KV w wr base Bw S S' pv rv nv nv' ev vv pu ru nu nu' eu vu LV i) (K : KS wr w2 base Bw 2 2 87 1 (repN (mkZ nu'.length)) (LV i) nv' [(c, n + 3), (b, n + 2), (a, n + 1), (LV i, n)] nv2 (nu' ++ [LV i] ++ [a] ++ [b] ++ [c]))
    (hlt : ∀ k, (LV i).ownBlock = some k → k < w.heap.size) (zp : Clear (LV i) pv) (zr : Clear (LV i) rv) (zn : Clear (LV i) nv') (ze : Clear (LV i) ev) (zv : Clear (LV i) vv) (hS : ∀ b, S b → (LV i).ownBlock ≠ some b) (hap : ∀ r, r < i → Clear (LV i) (LV r)) :
    ∃ S2, KV w w2 base Bw S S2 pv rv nv nv2 ev vv pu ru nu (nu' ++ [LV i] ++ [a] ++ [b] ++ [c]) eu vu LV (i + 1) := by
  have hS' : ∀ b, S' b → (LV i).ownBlock ≠ some b := fun b hb hl => by
    rcases h.sup b hb with h1 | ⟨r, hr, h1⟩ | h1
    · exact hS b h1 hl
    · exact hap r hr b hl h1
    · have := hlt b hl; omega
  have hnew : ∀ x : Value, (x.ownBlock = (LV i).ownBlock ∨ ∃ b, x.ownBlock = some b ∧ wr.heap.size ≤ b) → ∀ k, x.ownBlock = some k → S k ∨ (∃ r, r < i + 1 ∧ (LV r).ownBlock = some k) ∨ w.heap.size ≤ k := fun x hx k hk => by
    rcases hx with hx | ⟨b', hb', hle⟩
    · exact .inr (.inl ⟨i, by omega, hx.symm.trans hk⟩)
    · rw [hb'] at hk; injection hk with hk; have := h.frm.size; exact .inr (.inr (by omega))
  refine ⟨_, h.bk.keepN K zp zr zn ze zv hS', ?_, fun b hb => .inl (h.sub b hb), ?_, ?_, ?_⟩
  · refine (h.frm.mono (fun k _ hk => ?_)).trans K.frm (fun k hk hk2 => ?_)
    · rcases hk with hk | hk | ⟨r, hr, hk⟩
      · exact .inl hk
      · exact .inr (.inl hk)
      · exact .inr (.inr ⟨r, by omega, hk⟩)
    · rcases hk2 with hk2 | hk2 | hk2
      · exact .inl hk2
      · rcases h.nvb with h1 | ⟨b', hb', hle⟩
        · exact .inr (.inl (h1.symm.trans hk2))
        · rw [hb'] at hk2; injection hk2 with hk2; omega
      · exact .inr (.inr ⟨i, by omega, hk2⟩)
  · intro k hk
    rcases hk with hk | hk | hk | hk | hk
    · rcases h.sup k hk with h1 | ⟨r, hr, h1⟩ | h1
      · exact .inl h1
      · exact .inr (.inl ⟨r, by omega, h1⟩)
      · exact .inr (.inr h1)
    · exact .inr (.inl ⟨i, by omega, hk⟩)
    · exact hnew _ (K.lists (a, n + 1) (by simp)).2.1 k hk
    · exact hnew _ (K.lists (b, n + 2) (by simp)).2.1 k hk
    · exact hnew _ (K.lists (c, n + 3) (by simp)).2.1 k hk
  · simp [h.len]; omega
  · rcases K.nvb with h1 | ⟨b', hb', hle⟩
    · rcases h.nvb with h2 | ⟨b2, hb2, hle2⟩
      · exact .inl (h1.trans h2)
      · exact .inr ⟨b2, h1.trans hb2, hle2⟩
    · exact .inr ⟨b', hb', by have := h.frm.size; omega⟩

theorem KV.finish {w wr w2 : World} {base Bw n q : Nat} {S S' : Nat → Prop} {pv rv nv nv' ev vv vv2 lv a b c : Value} {pu ru nu nu' eu us : List Value} {LV : Nat → Value}
    (h : KV w wr base Bw S S' pv rv nv nv' ev vv pu ru nu nu' eu us LV n) (K : KS wr w2 base Bw 4 91 64 3 (repC (vaMk us.length)) lv vv [(c, q + 3), (b, q + 2), (a, q + 1), (lv, q)] vv2 (us ++ [lv] ++ [a] ++ [b] ++ [c]))
    (hlt : ∀ k, lv.ownBlock = some k → k < w.heap.size) (zp : Clear lv pv) (zr : Clear lv rv) (zn : Clear lv nv) (ze : Clear lv ev) (zv : Clear lv vv) (hS : ∀ b, S b → lv.ownBlock ≠ some b) (hap : ∀ r, r < n → Clear (LV r) lv) :
    ∃ S2 nv2 vv2 nu2 vu2, Bk w2 base Bw S2 pv rv nv2 ev vv2 pu ru nu2 eu vu2 ∧
      Frm (fun k => k = Bw ∨ nv.ownBlock = some k ∨ vv.ownBlock = some k ∨ lv.ownBlock = some k ∨ ∃ r, r < n ∧ (LV r).ownBlock = some k) w w2 ∧ (∀ b, S b → S2 b) ∧
      (∀ b, S2 b → S b ∨ lv.ownBlock = some b ∨ (∃ r, r < n ∧ (LV r).ownBlock = some b) ∨ w.heap.size ≤ b) ∧ nu2.length = nu.length + 4 * n ∧ vu2.length = us.length + 4 ∧
      (nv2.ownBlock = nv.ownBlock ∨ ∃ b, nv2.ownBlock = some b ∧ w.heap.size ≤ b) ∧ (vv2.ownBlock = vv.ownBlock ∨ ∃ b, vv2.ownBlock = some b ∧ w.heap.size ≤ b) := by
  have zn2 : Clear lv nv' := fun k hk hv => by
    rcases h.nvb with h1 | ⟨b', h1, hle⟩
    · exact zn k hk (h1.symm.trans hv)
    · rw [h1] at hv; injection hv with hv; have := hlt k hk; omega
  have hS2 : ∀ k, S' k → lv.ownBlock ≠ some k := fun k hk hl => by
    rcases h.sup k hk with h1 | ⟨r, hr, h1⟩ | h1
    · exact hS k h1 hl
    · exact hap r hr k h1 hl
    · have := hlt k hl; omega
  have hnew : ∀ x : Value, (x.ownBlock = lv.ownBlock ∨ ∃ b, x.ownBlock = some b ∧ wr.heap.size ≤ b) → ∀ k, x.ownBlock = some k → S k ∨ lv.ownBlock = some k ∨ (∃ r, r < n ∧ (LV r).ownBlock = some k) ∨ w.heap.size ≤ k := fun x hx k hk => by
    rcases hx with hx | ⟨b', hb', hle⟩
    · exact .inr (.inl (hx.symm.trans hk))
    · rw [hb'] at hk; injection hk with hk; have := h.frm.size; exact .inr (.inr (.inr (by omega)))
  refine ⟨_, nv', vv2, nu', _, h.bk.keepV K zp zr zn2 ze zv hS2, ?_, fun b hb => .inl (h.sub b hb), ?_, h.len, by simp, h.nvb, ?_⟩
  · refine (h.frm.mono (fun k _ hk => ?_)).trans K.frm (fun k hk hk2 => ?_)
    · rcases hk with hk | hk | hk
      · exact .inl hk
      · exact .inr (.inl hk)
      · exact .inr (.inr (.inr (.inr hk)))
    · rcases hk2 with hk2 | hk2 | hk2
      · exact .inl hk2
      · exact .inr (.inr (.inl hk2))
      · exact .inr (.inr (.inr (.inl hk2)))
  · intro k hk
    rcases hk with hk | hk | hk | hk | hk
    · rcases h.sup k hk with h1 | h1 | h1
      · exact .inl h1
      · exact .inr (.inr (.inl h1))
      · exact .inr (.inr (.inr h1))
    · exact .inr (.inl hk)
    · exact hnew _ (K.lists (a, q + 1) (by simp)).2.1 k hk
    · exact hnew _ (K.lists (b, q + 2) (by simp)).2.1 k hk
    · exact hnew _ (K.lists (c, q + 3) (by simp)).2.1 k hk
  · rcases K.nvb with h1 | ⟨b', hb', hle⟩
    · exact .inl h1
    · exact .inr ⟨b', hb', by have := h.frm.size; omega⟩

set_option maxRecDepth 100000 in
set_option maxHeartbeats 3000000 in
theorem keepValues_any (base Bw n : Nat) (S : Nat → Prop) (lv pv rv nv ev vv : Value) (pu ru nu eu us xs : List Value) (V : Nat → Val) (LV : Nat → Value) (w : World) (hn : n ≤ 4) (hnu : nu.length ≤ 100000000) (hm : us.length ≤ 200000000) (hbase : base ≤ w.heap.size) (hll : ∀ r, r < n → (V r).l.length ≤ 200000000)
    (hBk : Bk w base Bw S pv rv nv ev vv pu ru nu eu us) (hO : OwnV w base lv n V LV xs) (hlb : lv.ownBlock ≠ some Bw)
    (zp : Clear lv pv) (zr : Clear lv rv) (zn : Clear lv nv) (ze : Clear lv ev) (zv : Clear lv vv) (hS : ∀ b, S b → lv.ownBlock ≠ some b)
    (hb' : ∀ r, r < n → (LV r).ownBlock ≠ some Bw) (zp' : ∀ r, r < n → Clear (LV r) pv) (zr' : ∀ r, r < n → Clear (LV r) rv) (zn' : ∀ r, r < n → Clear (LV r) nv) (ze' : ∀ r, r < n → Clear (LV r) ev) (zv' : ∀ r, r < n → Clear (LV r) vv) (hS' : ∀ r, r < n → ∀ b, S b → (LV r).ownBlock ≠ some b) :
    Calls Tryz.prog 39 #[.pointer (some ⟨Bw, 0, none⟩), lv] w fun e w' => ∃ S2 nv2 vv2 nu2 vu2, e = .returned (.tuple #[]) ∧ Bk w' base Bw S2 pv rv nv2 ev vv2 pu ru nu2 eu vu2 ∧
      Frm (fun k => k = Bw ∨ nv.ownBlock = some k ∨ vv.ownBlock = some k ∨ lv.ownBlock = some k ∨ ∃ r, r < n ∧ (LV r).ownBlock = some k) w w' ∧ (∀ b, S b → S2 b) ∧
      (∀ b, S2 b → S b ∨ lv.ownBlock = some b ∨ (∃ r, r < n ∧ (LV r).ownBlock = some b) ∨ w.heap.size ≤ b) ∧ nu2.length = nu.length + 4 * n ∧ vu2.length = us.length + 4 ∧
      (nv2.ownBlock = nv.ownBlock ∨ ∃ b, nv2.ownBlock = some b ∧ w.heap.size ≤ b) ∧ (vv2.ownBlock = vv.ownBlock ∨ ∃ b, vv2.ownBlock = some b ∧ w.heap.size ≤ b) := by
  obtain ⟨la, lc, rfl⟩ := own_form hO.row
  have HK := hide (⟨hBk, Frm.refl _ _, fun _ h => h, fun _ h => .inl h, by simp, .inl rfl⟩ : KV w w base Bw S S pv rv nv nv ev vv pu ru nu nu eu us LV 0)
  have HBk := hide hBk
  have HO := hide hO
  have Hlb := hide hlb
  have Hzp := hide zp
  have Hzr := hide zr
  have Hzn := hide zn
  have Hze := hide ze
  have Hzv := hide zv
  have HS := hide hS
  have Hb' := hide hb'
  have Hzp' := hide zp'
  have Hzr' := hide zr'
  have Hzn' := hide zn'
  have Hze' := hide ze'
  have Hzv' := hide zv'
  have HS' := hide hS'
  have Hll := hide hll
  clear hBk hO hlb zp zr zn ze zv hS hb' zp' zr' zn' ze' zv' hS' hll
  go_enter Tryz.func39, Tryz.ntmps39
  go_wp2
  go_loopw [4] (fun i wr => ∃ (k : Nat) (S2 : Nat → Prop) (nv2 : Value) (nu2 : List Value), k ≤ n ∧ i = .int .i64 k ∧ KV w wr base Bw S S2 pv rv nv nv2 ev vv pu ru nu nu2 eu us LV k) (fun i _ => n - (intOf i).toNat)
  case atStart => exact ⟨0, S, nv, nu, Nat.zero_le _, rfl, HK.out⟩
  case round =>
    obtain ⟨k, S2, nv2, nu2, hk, rfl, hKV⟩ := hrel
    have HKV := hide hKV
    have hrow : wr.ownsRow base 91 3 (.slice la n lc) n xs := own_turn HO.out.row (fun b hb hlt => hKV.frm.block b hlt (fun h => by
      rcases h with h | h | ⟨r, hr, h⟩
      · exact Hlb.out (h ▸ hb)
      · exact Hzn.out b hb h
      · exact HO.out.off r (by omega) b h hb))
    have HROW := hide hrow
    by_cases hlt : k < n
    · obtain ⟨g, cap', hv', hbg, hgl⟩ := hrow.form (by omega)
      cases hv'
      have c2 := hrow.cellAt (k * 3 + 2) (by omega)
      rw [HO.out.n2 k hlt] at c2
      have hown : wr.ownsRow base 2 1 (LV k) (V k).l.length (ints (V k).l) := own_turn (HO.out.own k hlt) (fun b hb hlt2 => hKV.frm.block b hlt2 (fun h => by
        rcases h with h | h | ⟨r, hr, h⟩
        · exact Hb'.out k hlt (h ▸ hb)
        · exact Hzn'.out k hlt b hb h
        · exact HO.out.apart k r hlt (by omega) (by omega) b hb h))
      have hlvlt : ∀ b, (LV k).ownBlock = some b → b < w.heap.size := fun b hb => ((HO.out.own k hlt).lt b hb).2
      have hzn2 : Clear (LV k) nv2 := fun b hb hv => by
        rcases hKV.nvb with h | ⟨b2, h, hle⟩
        · exact Hzn'.out k hlt b hb (h.symm.trans hv)
        · rw [h] at hv; injection hv with hv; have := hlvlt b hb; omega
      have HC := hide (keepNums_any base Bw (V k).l.length (LV k) nv2 (ints (V k).l) nu2 wr (Hll.out k hlt) (by have := hKV.len; omega) hKV.bk.lt (by have := hKV.frm.size; omega) hKV.bk.c2 (hKV.bk.fz 2) hKV.bk.on hown hKV.bk.bn (Hb'.out k hlt) hzn2)
      have HZ2 := hide hzn2
      have HLL := hide hlvlt
      have hki : (k : Int) < n := by omega
      obtain ⟨lk, hlk⟩ : ∃ lk, LV k = lk := ⟨_, rfl⟩
      rw [hlk] at c2 HC
      have HLK := hide hlk
      obtain ⟨ka, kn, kc, hke⟩ : ∃ ka kn kc, lk = .slice ka kn kc := by
        obtain ⟨q1, q2, q3⟩ := own_form hown
        exact ⟨q1, _, q2, by rw [← hlk]; exact q3⟩
      subst hke
      clear hKV hrow hown hlvlt hzn2 hlk
      go_wp2_with fail
      refine HC.out.mono ?_
      rintro e w2 ⟨a, b, c, nv3, rfl, hKS⟩
      have HKS := hide hKS
      clear hKS HC
      go_wp2
      go_roundw
      case rel =>
        have hKS := HKS.out
        rw [← HLK.out] at hKS
        obtain ⟨S3, hn3⟩ := HKV.out.next hKS HLL.out (Hzp'.out k hlt) (Hzr'.out k hlt) HZ2.out (Hze'.out k hlt) (Hzv'.out k hlt) (HS'.out k hlt) (fun r hr => HO.out.apart k r hlt (by omega) (by omega))
        exact ⟨k + 1, S3, nv3, _, by omega, by go_num, hn3⟩
      case measure => simp [intOf]; omega
    · obtain rfl : n = k := by omega
      obtain ⟨wk, hwk⟩ : ∃ wk, wr = wk := ⟨_, rfl⟩
      subst hwk
      clear hKV hrow hlt
      obtain ⟨na, nc, hvv⟩ := own_form HKV.out.bk.ov
      have HNV' := hide HKV.out.bk.ov
      have hf := HKV.out.bk.c4
      have hfz := HKV.out.bk.fz 4
      rw [hvv] at HNV' hf
      have HVV := hide hvv
      obtain ⟨ib, hib, hb0, hb1, hb2⟩ := info_parts Tryz.infoLV
      obtain ⟨il, hil, hl0, hl1, hl2⟩ := info_parts Tryz.infoV'
      obtain ⟨m, hM⟩ : ∃ m, us.length = m := ⟨_, rfl⟩
      have HM := hide hM
      have hm' : m ≤ 200000000 := by omega
      rw [hM] at hf
      have hB := HKV.out.bk.lt
      have hbase2 : base ≤ wr.heap.size := by have := HKV.out.frm.size; omega
      have HLN : Hid (Clear (.slice la n lc) (.slice na us.length nc)) := by unfold Hid; rw [← hvv]; exact Hzv.out
      have HNB : Hid ((Value.slice na us.length nc).ownBlock ≠ some Bw) := by unfold Hid; rw [← hvv]; exact HKV.out.bk.bv
      have HLB := Hlb
      clear hM hvv hm
      go_wp2
      obtain ⟨mk, hmk⟩ : ∃ mk : Int, -1000 - (m : Int) / 4 = mk := ⟨_, rfl⟩
      have HMK : Hid (mkZ us.length = mk) := by unfold Hid mkZ; rw [HM.out]; simp only [Int.natCast_ediv]; exact hmk
      rw [hmk]
      clear hmk
      obtain ⟨o0, ho0⟩ : ∃ o0, Obj.cells #[.int .i64 mk, .bool false, .slice none 0 0] 91 = o0 := ⟨_, rfl⟩
      rw [ho0]
      obtain ⟨w0, hw0⟩ : ∃ w0, wr.alloc o0 = w0 := ⟨_, rfl⟩
      have HW0 := hide hw0
      obtain ⟨mb, hmb⟩ : ∃ mb, wr.heap.size = mb := ⟨_, rfl⟩
      have hnew : w0.heap[mb]? = some o0 := by rw [← hw0, ← hmb]; exact heap_new wr o0
      have m0 : w0.cell? ⟨mb, 0, none⟩ = some (.int .i64 mk) := by simp [World.cell?, hnew, ← ho0]
      have m1 : w0.cell? ⟨mb, 1, none⟩ = some (.bool false) := by simp [World.cell?, hnew, ← ho0]
      have m2 : w0.cell? ⟨mb, 2, none⟩ = some (.slice none 0 0) := by simp [World.cell?, hnew, ← ho0]
      have hmlt : mb < w0.heap.size := by rw [← hw0, ← hmb]; simp
      have hBb : w0.heap[Bw]? = wr.heap[Bw]? := by rw [← hw0]; exact Below.heap_alloc _ _ _ hB
      have HB0 : Hid (Bw < w0.heap.size) := by unfold Hid; omega
      have HMB : Hid (mb ≠ Bw) := by unfold Hid; omega
      have HML : Hid (¬ (Value.slice la n lc).ownBlock = some mb) := fun h => by have := (HROW.out.lt mb h).2; omega
      have HMN : Hid (¬ (Value.slice na us.length nc).ownBlock = some mb) := fun h => by have := (HNV'.out.lt mb h).2; omega
      have HLV : Hid (w0.ownsRow base 91 3 (.slice la n lc) n xs) := by unfold Hid; rw [← hw0]; exact HROW.out.alloc _
      have HNV : Hid (w0.ownsRow base 64 1 (.slice na us.length nc) us.length us) := by unfold Hid; rw [← hw0]; exact HNV'.out.alloc _
      have hf0 : w0.cell? ⟨Bw, 4, none⟩ = some (.slice na m nc) := (World.cell?_of_block (w := wr) (a := ⟨Bw, 4, none⟩) hBb).trans hf
      have HFZ : Hid (w0.frozen? ⟨Bw, 4, none⟩ = false) := (World.frozen?_of_block (w := wr) (a := ⟨Bw, 4, none⟩) hBb).trans hfz
      have hbs0 : base ≤ w0.heap.size := by omega
      have HWB := hide hB
      rw [hw0, hmb]
      clear hw0 hmb hnew ho0 hBb hf hfz HNV' hB
      obtain ⟨wl, hwl⟩ : ∃ wl, wr = wl := ⟨_, rfl⟩
      rw [hwl] at HKV HW0 HWB HROW hbase2
      clear hwl
      go_loopw [6] (fun i wr => (∃ (k : Nat) (zs : List Value), k ≤ n ∧ i = .int .i64 k ∧ wr.ownsRow base 91 3 (.slice la n lc) n zs ∧ zs.take (k * 3) = repC [.int .i64 mk, .bool false, .slice none 0 0] k) ∧ Frm (fun k => (Value.slice la n lc).ownBlock = some k) w0 wr)
        (fun i _ => n - (intOf i).toNat)
      case atStart => exact ⟨⟨0, xs, Nat.zero_le _, rfl, HLV.out, by simp [repC]⟩, Frm.refl _ _⟩
      case round =>
        obtain ⟨⟨k, zs, hk, rfl, hoz, hzk⟩, hfr⟩ := hrel
        have HOZ := hide hoz
        have HFR := hide hfr
        have HZK := hide hzk
        have hmb : wr.heap[mb]? = w0.heap[mb]? := hfr.block mb hmlt HML.out
        have r0 := (World.cell?_of_block (w := w0) (a := ⟨mb, 0, none⟩) hmb).trans m0
        have r1 := (World.cell?_of_block (w := w0) (a := ⟨mb, 1, none⟩) hmb).trans m1
        have r2 := (World.cell?_of_block (w := w0) (a := ⟨mb, 2, none⟩) hmb).trans m2
        have hmlr : mb < wr.heap.size := Nat.lt_of_lt_of_le hmlt hfr.size
        by_cases hlt : k < n
        · obtain ⟨g, cap', hv', hbg, hgl⟩ := hoz.form (by omega)
          cases hv'
          have hzl := hoz.1
          obtain ⟨u0, hu0⟩ : ∃ u, zs[k * 3]? = some u := ⟨zs[k * 3]'(by omega), by simp⟩
          obtain ⟨u1, hu1⟩ : ∃ u, zs[k * 3 + 1]? = some u := ⟨zs[k * 3 + 1]'(by omega), by simp⟩
          obtain ⟨u2, hu2⟩ : ∃ u, zs[k * 3 + 2]? = some u := ⟨zs[k * 3 + 2]'(by omega), by simp⟩
          have c0 := hoz.cellAt (k * 3) (by omega)
          have c1 := hoz.cellAt (k * 3 + 1) (by omega)
          have c2 := hoz.cellAt (k * 3 + 2) (by omega)
          rw [hu0] at c0
          rw [hu1] at c1
          rw [hu2] at c2
          have f0 := hoz.frozenAt (k * 3)
          have f1 := hoz.frozenAt (k * 3 + 1)
          have f2 := hoz.frozenAt (k * 3 + 2)
          have hki : (k : Int) < n := by omega
          have HZL := hide hzl
          clear hoz hfr hzk hu0 hu1 hu2 hmb hzl m0 m1 m2 hf0
          go_wp2
          go_roundw
          case rel =>
            refine ⟨⟨k + 1, ((zs.set (k * 3) (.int .i64 mk)).set (k * 3 + 1) (.bool false)).set (k * 3 + 2) (.slice none 0 0), by omega, by go_num, (((HOZ.out.stored (k * 3) (.int .i64 mk)).1.stored (k * 3 + 1) (.bool false)).1.stored (k * 3 + 2) (.slice none 0 0)).1, take3_set HZL.out hlt HZK.out⟩, ((HFR.out.setCell (p := ⟨g, k * 3, none⟩) (.inl rfl) (.int .i64 mk)).setCell (p := ⟨g, k * 3 + 1, none⟩) (.inl rfl) (.bool false)).setCell (p := ⟨g, k * 3 + 2, none⟩) (.inl rfl) (.slice none 0 0)⟩
          case measure => simp [intOf]; omega
        · obtain rfl : n = k := by omega
          have hzl : zs.length = n * 3 := hoz.1
          have hzs : zs = repC [.int .i64 mk, .bool false, .slice none 0 0] n := by rw [← hzk, ← hzl, List.take_length]
          subst hzs
          have hBB : wr.heap[Bw]? = w0.heap[Bw]? := hfr.block Bw HB0.out HLB.out
          have K0 : Hid (KS w0 wr base Bw 4 91 64 3 (repC [.int .i64 mk, .bool false, .slice none 0 0]) (.slice la n lc) (.slice na us.length nc) [(.slice la n lc, n)] (.slice na us.length nc) us) := by
            refine ⟨hfr.mono (fun i _ h => .inr (.inr h)), HB0.out, fun j _ => World.cell?_of_block (w := w0) (a := ⟨Bw, j, none⟩) hBB, fun j => World.frozen?_of_block (w := w0) (a := ⟨Bw, j, none⟩) hBB, ?_, ?_, HNB.out, .inl rfl, ?_⟩
            · rw [HM.out]; exact (World.cell?_of_block (w := w0) (a := ⟨Bw, 4, none⟩) hBB).trans hf0
            · exact own_turn HNV.out (fun b hb hlt => hfr.block b hlt (fun h => HLN.out b h hb))
            · intro p hp
              rw [List.mem_singleton] at hp
              subst hp
              exact ⟨hoz, .inl rfl, HLB.out, HLN.out⟩
          have hws := hfr.size
          have HMM : Hid (∀ (nv' : Value) (us' : List Value) (ls : List (Value × Nat)) (W : World), KS w0 W base Bw 4 91 64 3 (repC [.int .i64 mk, .bool false, .slice none 0 0]) (.slice la n lc) (.slice na us.length nc) ls nv' us' → W.cell? ⟨mb, 0, none⟩ = some (.int .i64 mk) ∧ W.cell? ⟨mb, 1, none⟩ = some (.bool false) ∧ W.cell? ⟨mb, 2, none⟩ = some (.slice none 0 0) ∧ mb < W.heap.size) := by
            intro nv' us' ls W hK
            have hb : W.heap[mb]? = w0.heap[mb]? := hK.frm.block mb hmlt (fun h => by rcases h with h | h | h; exact HMB.out h; exact HMN.out h; exact HML.out h)
            exact ⟨(World.cell?_of_block (w := w0) (a := ⟨mb, 0, none⟩) hb).trans m0, (World.cell?_of_block (w := w0) (a := ⟨mb, 1, none⟩) hb).trans m1, (World.cell?_of_block (w := w0) (a := ⟨mb, 2, none⟩) hb).trans m2, Nat.lt_of_lt_of_le hmlt hK.frm.size⟩
          have HONE : Hid (∀ u ∈ ([.int .i64 mk, .bool false, .slice none 0 0] : List Value), u.oneCell' = true) := by unfold Hid; simp [Value.oneCell']
          clear hoz hfr hzk hBB hzl HOZ HFR HZK hf0 m0 m1 m2 hmb
          go_wp2_with (at_builtin; refine wpList_app2 _ rfl _ _ 64 rfl base 91 il _ 3 40 Tryz.underlying64 hil hl0 hl1 hl2 rfl (by decide) _ _ _ rfl ((K0.out.lists (.slice la n lc, n) (by simp)).1.alloc _) (.slice (some ⟨wr.heap.size, 0, none⟩) 1 1) 1 (repC [.int .i64 mk, .bool false, .slice none 0 0] 1) rfl (srcA _ _ _ _ 0 _ rfl rfl 3 1 rfl) (repC_one HONE.out _) ?h63 ?hbytes ?hbase ?_)
          case h63 => unfold maxLen; omega
          case hbytes => omega
          case hbase => simp; omega
          intro a1 c1 w1 ho hg _ hlie hway
          rw [repC_add] at ho
          have K1 := hide (K0.out.addList (by omega) (repC_take rfl) (n := n) (m := 1) (by simp) (by intro p hp; simp at hp; rcases hp with rfl <;> simp) rfl ho hg hlie hway)
          have hw1 : wr.heap.size ≤ w1.heap.size := by have := hg.size; simp at this; omega
          clear r0 r1 r2 hmlr
          obtain ⟨r0, r1, r2, hmlr⟩ := HMM.out _ _ _ _ K1.out
          clear ho hg hlie hway
          go_wp2_with (at_builtin; refine wpList_app2 _ rfl _ _ 64 rfl base 91 il _ 3 40 Tryz.underlying64 hil hl0 hl1 hl2 rfl (by decide) _ _ _ rfl ((K1.out.lists (.slice la n lc, n) (by simp)).1.alloc _) (.slice (some ⟨w1.heap.size, 0, none⟩) 2 2) 2 (repC [.int .i64 mk, .bool false, .slice none 0 0] 2) rfl (srcA _ _ _ _ 0 _ rfl rfl 3 2 rfl) (repC_one HONE.out _) ?h63 ?hbytes ?hbase ?_)
          case h63 => unfold maxLen; omega
          case hbytes => omega
          case hbase => simp; omega
          intro a2 c2 w2 ho hg _ hlie hway
          rw [repC_add] at ho
          have K2 := hide (K1.out.addList (by omega) (repC_take rfl) (n := n) (m := 2) (by simp) (by intro p hp; simp at hp; rcases hp with rfl | rfl <;> simp) rfl ho hg hlie hway)
          have hw2 : w1.heap.size ≤ w2.heap.size := by have := hg.size; simp at this; omega
          clear r0 r1 r2 hmlr
          obtain ⟨r0, r1, r2, hmlr⟩ := HMM.out _ _ _ _ K2.out
          clear ho hg hlie hway
          go_wp2_with (at_builtin; refine wpList_app2 _ rfl _ _ 64 rfl base 91 il _ 3 40 Tryz.underlying64 hil hl0 hl1 hl2 rfl (by decide) _ _ _ rfl ((K2.out.lists (.slice la n lc, n) (by simp)).1.alloc _) (.slice (some ⟨w2.heap.size, 0, none⟩) 3 3) 3 (repC [.int .i64 mk, .bool false, .slice none 0 0] 3) rfl (srcA _ _ _ _ 0 _ rfl rfl 3 3 rfl) (repC_one HONE.out _) ?h63 ?hbytes ?hbase ?_)
          case h63 => unfold maxLen; omega
          case hbytes => omega
          case hbase => simp; omega
          intro a3 c3 w3 ho hg _ hlie hway
          rw [repC_add] at ho
          have K3 := hide (K2.out.addList (by omega) (repC_take rfl) (n := n) (m := 3) (by simp) (by intro p hp; simp at hp; rcases hp with rfl | rfl | rfl <;> simp) rfl ho hg hlie hway)
          have hw3 : w2.heap.size ≤ w3.heap.size := by have := hg.size; simp at this; omega
          clear r0 r1 r2 hmlr
          obtain ⟨r0, r1, r2, hmlr⟩ := HMM.out _ _ _ _ K3.out
          clear ho hg hlie hway
          rw [HM.out] at K3
          have B0 : Hid (w3.ownsRow base 64 1 (.slice na m nc) m us) := by have := K3.out.book; rw [HM.out] at this; exact this
          have fc := K3.out.fld
          have hbw3 : Bw < w3.heap.size := by have := HB0.out; omega
          clear r0 r1 r2 hmlr
          go_wp2_with (at_builtin; refine wpList_app2 _ rfl _ _ 39 rfl base 64 ib _ 1 24 Tryz.underlying39 hib hb0 hb1 hb2 rfl (by decide) _ m _ rfl (B0.out.alloc _) (.slice (some ⟨w3.heap.size, 0, none⟩) 1 1) 1 [.slice la n lc] rfl (srcA _ _ _ _ 0 _ (by simp) rfl 1 1 rfl) ?h1 ?h63 ?hbytes ?hbase ?_)
          case h1 => simp [Value.oneCell']
          case h63 => unfold maxLen; omega
          case hbytes => omega
          case hbase => simp; omega
          intro p1 d1 x1 ho hg _ hlie _
          obtain ⟨s0, s1⟩ := K3.out.store hg
          rw [HFZ.out] at s1
          have K4 := hide (K3.out.addBook (u := .slice la n lc) (q := m) (H := w3.heap.size + 1) (by simp [HM.out]) rfl ho hg hlie)
          have B1 : Hid ((x1.setCell ⟨Bw, 4, none⟩ (.slice p1 (m + 1) d1)).ownsRow base 64 1 (.slice p1 (m + 1) d1) (m + 1) (us ++ [.slice la n lc])) := by have := K4.out.book; simp only [List.length_append, List.length_cons, List.length_nil, HM.out] at this; exact this
          have hx1 : w3.heap.size ≤ x1.heap.size := by have := hg.size; simp at this; omega
          have hbx1 : Bw < x1.heap.size := by omega
          clear ho hg hlie fc
          go_wp2_with (at_builtin; refine wpList_app2 _ rfl _ _ 39 rfl base 64 ib _ 1 24 Tryz.underlying39 hib hb0 hb1 hb2 rfl (by decide) _ (m + 1) _ rfl (B1.out.alloc _) (.slice (some ⟨x1.heap.size, 0, none⟩) 1 1) 1 [.slice a1 (n + 1) c1] rfl (srcA _ _ _ _ 0 _ (by simp) rfl 1 1 rfl) ?h1 ?h63 ?hbytes ?hbase ?_)
          case h1 => simp [Value.oneCell']
          case h63 => unfold maxLen; omega
          case hbytes => omega
          case hbase => simp; omega
          intro p2 d2 x2 ho hg _ hlie _
          obtain ⟨s0, s1⟩ := K4.out.store hg
          rw [HFZ.out] at s1
          have K5 := hide (K4.out.addBook (u := .slice a1 (n + 1) c1) (q := (m + 1)) (H := x1.heap.size + 1) (by simp [HM.out]) (by simp [World.setCell]) (by simpa using ho) hg hlie)
          have B2 : Hid ((x2.setCell ⟨Bw, 4, none⟩ (.slice p2 ((m + 1) + 1) d2)).ownsRow base 64 1 (.slice p2 ((m + 1) + 1) d2) ((m + 1) + 1) (us ++ [.slice la n lc] ++ [.slice a1 (n + 1) c1])) := by have := K5.out.book; simp only [List.length_append, List.length_cons, List.length_nil, HM.out] at this; exact this
          have hx2 : x1.heap.size ≤ x2.heap.size := by have := hg.size; simp at this; omega
          have hbx2 : Bw < x2.heap.size := by omega
          clear ho hg hlie 
          go_wp2_with (at_builtin; refine wpList_app2 _ rfl _ _ 39 rfl base 64 ib _ 1 24 Tryz.underlying39 hib hb0 hb1 hb2 rfl (by decide) _ (m + 1 + 1) _ rfl (B2.out.alloc _) (.slice (some ⟨x2.heap.size, 0, none⟩) 1 1) 1 [.slice a2 (n + 2) c2] rfl (srcA _ _ _ _ 0 _ (by simp) rfl 1 1 rfl) ?h1 ?h63 ?hbytes ?hbase ?_)
          case h1 => simp [Value.oneCell']
          case h63 => unfold maxLen; omega
          case hbytes => omega
          case hbase => simp; omega
          intro p3 d3 x3 ho hg _ hlie _
          obtain ⟨s0, s1⟩ := K5.out.store hg
          rw [HFZ.out] at s1
          have K6 := hide (K5.out.addBook (u := .slice a2 (n + 2) c2) (q := (m + 1 + 1)) (H := x2.heap.size + 1) (by simp [HM.out]) (by simp [World.setCell]) (by simpa using ho) hg hlie)
          have B3 : Hid ((x3.setCell ⟨Bw, 4, none⟩ (.slice p3 ((m + 1 + 1) + 1) d3)).ownsRow base 64 1 (.slice p3 ((m + 1 + 1) + 1) d3) ((m + 1 + 1) + 1) (us ++ [.slice la n lc] ++ [.slice a1 (n + 1) c1] ++ [.slice a2 (n + 2) c2])) := by have := K6.out.book; simp only [List.length_append, List.length_cons, List.length_nil, HM.out] at this; exact this
          have hx3 : x2.heap.size ≤ x3.heap.size := by have := hg.size; simp at this; omega
          have hbx3 : Bw < x3.heap.size := by omega
          clear ho hg hlie 
          go_wp2_with (at_builtin; refine wpList_app2 _ rfl _ _ 39 rfl base 64 ib _ 1 24 Tryz.underlying39 hib hb0 hb1 hb2 rfl (by decide) _ (m + 1 + 1 + 1) _ rfl (B3.out.alloc _) (.slice (some ⟨x3.heap.size, 0, none⟩) 1 1) 1 [.slice a3 (n + 3) c3] rfl (srcA _ _ _ _ 0 _ (by simp) rfl 1 1 rfl) ?h1 ?h63 ?hbytes ?hbase ?_)
          case h1 => simp [Value.oneCell']
          case h63 => unfold maxLen; omega
          case hbytes => omega
          case hbase => simp; omega
          intro p4 d4 x4 ho hg _ hlie _
          obtain ⟨s0, s1⟩ := K6.out.store hg
          rw [HFZ.out] at s1
          have K7 := hide (K6.out.addBook (u := .slice a3 (n + 3) c3) (q := (m + 1 + 1 + 1)) (H := x3.heap.size + 1) (by simp [HM.out]) (by simp [World.setCell]) (by simpa using ho) hg hlie)
          have B4 : Hid ((x4.setCell ⟨Bw, 4, none⟩ (.slice p4 ((m + 1 + 1 + 1) + 1) d4)).ownsRow base 64 1 (.slice p4 ((m + 1 + 1 + 1) + 1) d4) ((m + 1 + 1 + 1) + 1) (us ++ [.slice la n lc] ++ [.slice a1 (n + 1) c1] ++ [.slice a2 (n + 2) c2] ++ [.slice a3 (n + 3) c3])) := by have := K7.out.book; simp only [List.length_append, List.length_cons, List.length_nil, HM.out] at this; exact this
          have hx4 : x3.heap.size ≤ x4.heap.size := by have := hg.size; simp at this; omega
          have hbx4 : Bw < x4.heap.size := by omega
          clear ho hg hlie 
          go_wp2
          go_end0
          have hK := K7.out
          rw [← HW0.out] at hK
          have hK2 := hK.weaken HWB.out
          have hvm : vaMk us.length = [.int .i64 mk, .bool false, .slice none 0 0] := by unfold vaMk; rw [HMK.out]
          have hvv2 : Value.slice na m nc = vv := by rw [HVV.out, HM.out]
          rw [← hvm, hvv2] at hK2
          obtain ⟨S9, nv9, vv9, nu9, vu9, hfin⟩ := HKV.out.finish hK2 (fun k hk => (HO.out.row.lt k hk).2) Hzp.out Hzr.out Hzn.out Hze.out Hzv.out HS.out HO.out.off
          exact ⟨S9, nv9, vv9, nu9, vu9, rfl, hfin⟩
end Go.Proofs.YtkmakliebhnhbaaGreat
