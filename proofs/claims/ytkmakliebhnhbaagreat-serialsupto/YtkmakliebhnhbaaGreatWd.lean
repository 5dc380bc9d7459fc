import Derived.Test.YtkmakliebhnhbaaGreatBook
import Derived.Test.YtkmakliebhnhbaaGreatKeepN
import Derived.Test.YtkmakliebhnhbaaGreatKeepE
/- MADE BY wip/genwd.py. The statements' World: its books. -/
namespace Go.Proofs.YtkmakliebhnhbaaGreat
open Go.RowKit

/-- The two lists lie in different blocks. -/
def Clear (v : Value) (u : Value) : Prop := ∀ b, v.ownBlock = some b → u.ownBlock ≠ some b
theorem Clear.symm {v u : Value} (h : Clear v u) : Clear u v := fun b hb hv => h b hv hb

def vaMk (m : Nat) : List Value := [.int .i64 (mkZ m), .bool false, .slice none 0 0]

/-- The books: five lists in the World's six fields (the last stays nil). S: the blocks that nobody writes any more. -/
structure Bk (W : World) (B Bw : Nat) (S : Nat → Prop) (pv rv nv ev vv : Value) (pu ru nu eu vu : List Value) : Prop where
  bw : B ≤ Bw
  lt : Bw < W.heap.size
  c0 : W.cell? ⟨Bw, 0, none⟩ = some pv
  c1 : W.cell? ⟨Bw, 1, none⟩ = some rv
  c2 : W.cell? ⟨Bw, 2, none⟩ = some nv
  c3 : W.cell? ⟨Bw, 3, none⟩ = some ev
  c4 : W.cell? ⟨Bw, 4, none⟩ = some vv
  c5 : W.cell? ⟨Bw, 5, none⟩ = some (.slice none 0 0)
  fz : ∀ j, W.frozen? ⟨Bw, j, none⟩ = false
  op : W.ownsRow B 48 1 pv pu.length pu
  or : W.ownsRow B 49 1 rv ru.length ru
  on : W.ownsRow B 87 1 nv nu.length nu
  oe : W.ownsRow B 65 1 ev eu.length eu
  ov : W.ownsRow B 64 1 vv vu.length vu
  bp : pv.ownBlock ≠ some Bw
  br : rv.ownBlock ≠ some Bw
  bn : nv.ownBlock ≠ some Bw
  be : ev.ownBlock ≠ some Bw
  bv : vv.ownBlock ≠ some Bw
  pr : Clear pv rv
  pn : Clear pv nv
  pe : Clear pv ev
  pvv : Clear pv vv
  rn : Clear rv nv
  re : Clear rv ev
  rvv : Clear rv vv
  ne : Clear nv ev
  nvv : Clear nv vv
  evv : Clear ev vv
  st : ∀ b, S b → b < W.heap.size ∧ b ≠ Bw ∧ pv.ownBlock ≠ some b ∧ rv.ownBlock ≠ some b ∧ nv.ownBlock ≠ some b ∧ ev.ownBlock ≠ some b ∧ vv.ownBlock ≠ some b
  n4 : nu.length % 4 = 0
  e4 : eu.length % 4 = 0
  v4 : vu.length % 4 = 0
  mn : ∀ i u, nu[i]? = some u → ∃ l, RdL S W 1 id u (List.replicate l [.int .i64 (mkZ i)])
  me : ∀ i u, eu[i]? = some u → ∃ l, RdL S W 3 id u (List.replicate l (evMk i))
  mv : ∀ i u, vu[i]? = some u → ∃ l, RdL S W 3 id u (List.replicate l (vaMk i))

theorem mkZ_div {m i : Nat} (h : m % 4 = 0) (h1 : m ≤ i) (h2 : i < m + 4) : mkZ i = mkZ m := by
  unfold mkZ
  rw [show i / 4 = m / 4 by omega]

theorem repN_repC (mk : Int) (l : Nat) : repN mk l = repC [.int .i64 mk] l := by
  induction l with
  | zero => rfl
  | succ l ih => simp only [repN, repC, List.replicate_succ, List.flatten_cons] at *; rw [ih]; rfl

/-- A list of marks, owned, is a list to be read. -/
theorem own_marks {S : Nat → Prop} {W : World} {base : Nat} {e : TypeId} {v : Value} {l size : Nat} {cs : List Value} (h : W.ownsRow base e size v l (repC cs l)) (hc : cs.length = size) (hS : ∀ b, v.ownBlock = some b → S b) : RdL S W size id v (List.replicate l cs) := by
  have hf : flat id (List.replicate l cs) = repC cs l := by simp [flat, repC, List.flatMap_id]
  rcases h.2 with ⟨rfl, h0⟩ | ⟨g, cap, cur, rfl, hb, hg, hn, hm, hcs, ht⟩
  · exact ⟨none, 0, by simp [h0], by simp [h0], by unfold maxLen; omega, .inl ⟨by simp [h0], fun _ => rfl⟩⟩
  · refine ⟨_, cap, by simp, by simpa using hn, hm, .inr ⟨g, 0, rfl, hS g rfl, fun k x hk j u hu => ?_⟩⟩
    have hkl := (List.getElem?_eq_some_iff.1 hk).1
    have hx : x = cs := by
      have := (List.getElem?_eq_some_iff.1 hk).2
      simpa using this.symm
    subst hx
    have hj : j < size := by have := (List.getElem?_eq_some_iff.1 hu).1; simp only [id] at this; omega
    have hlt : k * size + j < l * size := by
      have : (k + 1) * size ≤ l * size := Nat.mul_le_mul_right _ (by simp at hkl; omega)
      rw [Nat.add_mul] at this; omega
    have hsp := repC_add x k (l - k)
    rw [show k + (l - k) = l by simp at hkl; omega] at hsp
    rw [Nat.zero_add, World.ownsRow.cellAt h _ hlt, ← hsp]
    rw [List.getElem?_append_right (by rw [repC_len, hc]; omega), repC_len, hc, show k * size + j - k * size = j by omega]
    obtain ⟨d, hd⟩ : ∃ d, l - k = d + 1 := ⟨l - k - 1, by simp at hkl; omega⟩
    rw [hd]
    simp only [repC, List.replicate_succ, List.flatten_cons]
    rw [List.getElem?_append_left (by omega)]
    exact hu

theorem rep_turn {S S' : Nat → Prop} {W W' : World} {size l : Nat} {cs : List Value} {u : Value} (hc : cs ≠ []) (h : RdL S W size id u (List.replicate l cs)) (hS : ∀ b, S b → b < W.heap.size → S' b ∧ W'.heap[b]? = W.heap[b]?) : RdL S' W' size id u (List.replicate l cs) :=
  h.turn hS (fun x hx => by obtain ⟨_, rfl⟩ := List.mem_replicate.1 hx; exact hc)

/-- Behind keepN. -/
theorem Bk.keepN {W W' : World} {B Bw n : Nat} {S : Nat → Prop} {pv rv nv ev vv nv' lv a b c : Value} {pu ru nu eu vu : List Value} (h : Bk W B Bw S pv rv nv ev vv pu ru nu eu vu)
    (K : KS W W' B Bw 2 2 87 1 (repN (mkZ nu.length)) lv nv [(c, n + 3), (b, n + 2), (a, n + 1), (lv, n)] nv' (nu ++ [lv] ++ [a] ++ [b] ++ [c]))
    (zp : Clear lv pv) (zr : Clear lv rv) (_zn : Clear lv nv) (ze : Clear lv ev) (zv : Clear lv vv) (hS : ∀ b, S b → lv.ownBlock ≠ some b) :
    Bk W' B Bw (fun k => S k ∨ lv.ownBlock = some k ∨ a.ownBlock = some k ∨ b.ownBlock = some k ∨ c.ownBlock = some k) pv rv nv' ev vv pu ru (nu ++ [lv] ++ [a] ++ [b] ++ [c]) eu vu := by
  have hlt := K.frm.size
  have keep : ∀ (u : Value) (e : TypeId) (m : Nat) (xs : List Value), W.ownsRow B e 1 u m xs → u.ownBlock ≠ some Bw → Clear u nv → Clear lv u → W'.ownsRow B e 1 u m xs := fun u e m xs ho h1 h2 h3 =>
    own_turn ho (fun k hk hkl => K.frm.block k hkl (fun hh => by
      rcases hh with hh | hh | hh
      · exact h1 (hh ▸ hk)
      · exact h2 k hk hh
      · exact h3 k hh hk))
  have hst : ∀ k, S k → k < W.heap.size → (S k ∨ lv.ownBlock = some k ∨ a.ownBlock = some k ∨ b.ownBlock = some k ∨ c.ownBlock = some k) ∧ W'.heap[k]? = W.heap[k]? := fun k hk hkl => by
    obtain ⟨q0, q1, qp, qr, qn, qe, qv⟩ := h.st k hk
    refine ⟨.inl hk, K.frm.block k hkl (fun hh => ?_)⟩
    rcases hh with hh | hh | hh
    · exact q1 hh
    · exact qn hh
    · exact hS k hk hh
  obtain ⟨lc1, lc2, lc3, lc4⟩ := K.lists (c, n + 3) (by simp)
  obtain ⟨lb1, lb2, lb3, lb4⟩ := K.lists (b, n + 2) (by simp)
  obtain ⟨la1, la2, la3, la4⟩ := K.lists (a, n + 1) (by simp)
  obtain ⟨ll1, ll2, ll3, ll4⟩ := K.lists (lv, n) (by simp)
  have newc : ∀ u : Value, u.ownBlock ≠ some Bw → Clear lv u → (∀ k, u.ownBlock = some k → k < W.heap.size) → ∀ x : Value, (x.ownBlock = lv.ownBlock ∨ ∃ b, x.ownBlock = some b ∧ W.heap.size ≤ b) → ∀ k, x.ownBlock = some k → u.ownBlock ≠ some k := fun u _ h2 h3 x hx k hk hu => by
    rcases hx with hx | ⟨b', hb', hle⟩
    · exact h2 k (hx.symm.trans hk) hu
    · rw [hb'] at hk; injection hk with hk; have := h3 k hu; omega
  have xn : ∀ u : Value, u.ownBlock ≠ some Bw → Clear u nv → (∀ k, u.ownBlock = some k → k < W.heap.size) → Clear u nv' := fun u _ h2 h3 k hk hv => by
    rcases K.nvb with hn | ⟨b', hb', hle⟩
    · exact h2 k hk (hn.symm.trans hv)
    · rw [hb'] at hv; injection hv with hv; have := h3 k hk; omega
  have cell : ∀ j, j ≠ 2 → W'.cell? ⟨Bw, j, none⟩ = W.cell? ⟨Bw, j, none⟩ := K.oth
  have nul : (nu ++ [lv] ++ [a] ++ [b] ++ [c]).length = nu.length + 4 := by simp
  have plt : ∀ q, pv.ownBlock = some q → q < W.heap.size := fun q hq => (h.op.lt q hq).2
  have rlt : ∀ q, rv.ownBlock = some q → q < W.heap.size := fun q hq => (h.or.lt q hq).2
  have elt : ∀ q, ev.ownBlock = some q → q < W.heap.size := fun q hq => (h.oe.lt q hq).2
  have vlt : ∀ q, vv.ownBlock = some q → q < W.heap.size := fun q hq => (h.ov.lt q hq).2
  exact {
    bw := h.bw
    lt := Nat.lt_of_lt_of_le h.lt hlt
    c0 := (cell 0 (by omega)).trans h.c0
    c1 := (cell 1 (by omega)).trans h.c1
    c2 := K.fld
    c3 := (cell 3 (by omega)).trans h.c3
    c4 := (cell 4 (by omega)).trans h.c4
    c5 := (cell 5 (by omega)).trans h.c5
    fz := fun j => (K.fz j).trans (h.fz j)
    op := keep _ _ _ _ h.op h.bp (h.pn) zp
    or := keep _ _ _ _ h.or h.br (h.rn) zr
    on := K.book
    oe := keep _ _ _ _ h.oe h.be (h.ne.symm) ze
    ov := keep _ _ _ _ h.ov h.bv (h.nvv.symm) zv
    bp := h.bp
    br := h.br
    bn := K.bw
    be := h.be
    bv := h.bv
    pr := h.pr
    pn := xn _ h.bp (h.pn) plt
    pe := h.pe
    pvv := h.pvv
    rn := xn _ h.br (h.rn) rlt
    re := h.re
    rvv := h.rvv
    ne := (xn _ h.be (h.ne.symm) elt).symm
    nvv := (xn _ h.bv (h.nvv.symm) vlt).symm
    evv := h.evv
    st := fun k hk => by
      rcases hk with hk | hk | hk | hk | hk
      · obtain ⟨q0, q1, qp, qr, qn, qe, qv⟩ := h.st k hk
        refine ⟨Nat.lt_of_lt_of_le q0 hlt, q1, qp, qr, fun hv => ?_, qe, qv⟩
        rcases K.nvb with hn | ⟨b', hb', hle⟩
        · exact qn (hn.symm.trans hv)
        · rw [hb'] at hv; injection hv with hv; omega
      · exact ⟨(ll1.lt k hk).2, fun e => ll3 (e ▸ hk), newc _ h.bp zp plt _ ll2 k hk, newc _ h.br zr rlt _ ll2 k hk, ll4 k hk, newc _ h.be ze elt _ ll2 k hk, newc _ h.bv zv vlt _ ll2 k hk⟩
      · exact ⟨(la1.lt k hk).2, fun e => la3 (e ▸ hk), newc _ h.bp zp plt _ la2 k hk, newc _ h.br zr rlt _ la2 k hk, la4 k hk, newc _ h.be ze elt _ la2 k hk, newc _ h.bv zv vlt _ la2 k hk⟩
      · exact ⟨(lb1.lt k hk).2, fun e => lb3 (e ▸ hk), newc _ h.bp zp plt _ lb2 k hk, newc _ h.br zr rlt _ lb2 k hk, lb4 k hk, newc _ h.be ze elt _ lb2 k hk, newc _ h.bv zv vlt _ lb2 k hk⟩
      · exact ⟨(lc1.lt k hk).2, fun e => lc3 (e ▸ hk), newc _ h.bp zp plt _ lc2 k hk, newc _ h.br zr rlt _ lc2 k hk, lc4 k hk, newc _ h.be ze elt _ lc2 k hk, newc _ h.bv zv vlt _ lc2 k hk⟩
    n4 := by rw [nul]; have := h.n4; omega
    e4 := h.e4
    v4 := h.v4
    mn := fun i u hu => by
      by_cases hi : i < nu.length
      · rw [List.append_assoc, List.append_assoc, List.append_assoc, List.getElem?_append_left hi] at hu
        obtain ⟨l, hl⟩ := h.mn i u hu
        exact ⟨l, rep_turn (List.cons_ne_nil _ _) hl hst⟩
      · have hi2 := (List.getElem?_eq_some_iff.1 hu).1
        rw [nul] at hi2
        have hmk := mkZ_div h.n4 (show nu.length ≤ i by omega) hi2
        rw [List.append_assoc, List.append_assoc, List.append_assoc, List.getElem?_append_right (by omega)] at hu
        obtain ⟨d, hd⟩ : ∃ d, i - nu.length = d := ⟨_, rfl⟩
        rw [hd] at hu
        have hd4 : d < 4 := by omega
        rw [hmk]
        match d, hd4, hu with
        | 0, _, hu => (simp at hu; subst hu; exact ⟨n, own_marks (by rw [← repN_repC]; exact ll1) rfl (fun k hk => .inr (.inl hk))⟩)
        | 1, _, hu => (simp at hu; subst hu; exact ⟨n + 1, own_marks (by rw [← repN_repC]; exact la1) rfl (fun k hk => .inr (.inr (.inl hk)))⟩)
        | 2, _, hu => (simp at hu; subst hu; exact ⟨n + 2, own_marks (by rw [← repN_repC]; exact lb1) rfl (fun k hk => .inr (.inr (.inr (.inl hk))))⟩)
        | 3, _, hu => (simp at hu; subst hu; exact ⟨n + 3, own_marks (by rw [← repN_repC]; exact lc1) rfl (fun k hk => .inr (.inr (.inr (.inr hk))))⟩)
    me := fun i u hu => by
      obtain ⟨l, hl⟩ := h.me i u hu
      exact ⟨l, rep_turn (List.cons_ne_nil _ _) hl hst⟩
    mv := fun i u hu => by
      obtain ⟨l, hl⟩ := h.mv i u hu
      exact ⟨l, rep_turn (List.cons_ne_nil _ _) hl hst⟩
  }

/-- Behind keepE. -/
theorem Bk.keepE {W W' : World} {B Bw n : Nat} {S : Nat → Prop} {pv rv nv ev vv ev' lv a b c : Value} {pu ru nu eu vu : List Value} (h : Bk W B Bw S pv rv nv ev vv pu ru nu eu vu)
    (K : KS W W' B Bw 3 89 65 3 (repC (evMk eu.length)) lv ev [(c, n + 3), (b, n + 2), (a, n + 1), (lv, n)] ev' (eu ++ [lv] ++ [a] ++ [b] ++ [c]))
    (zp : Clear lv pv) (zr : Clear lv rv) (zn : Clear lv nv) (_ze : Clear lv ev) (zv : Clear lv vv) (hS : ∀ b, S b → lv.ownBlock ≠ some b) :
    Bk W' B Bw (fun k => S k ∨ lv.ownBlock = some k ∨ a.ownBlock = some k ∨ b.ownBlock = some k ∨ c.ownBlock = some k) pv rv nv ev' vv pu ru nu (eu ++ [lv] ++ [a] ++ [b] ++ [c]) vu := by
  have hlt := K.frm.size
  have keep : ∀ (u : Value) (e : TypeId) (m : Nat) (xs : List Value), W.ownsRow B e 1 u m xs → u.ownBlock ≠ some Bw → Clear u ev → Clear lv u → W'.ownsRow B e 1 u m xs := fun u e m xs ho h1 h2 h3 =>
    own_turn ho (fun k hk hkl => K.frm.block k hkl (fun hh => by
      rcases hh with hh | hh | hh
      · exact h1 (hh ▸ hk)
      · exact h2 k hk hh
      · exact h3 k hh hk))
  have hst : ∀ k, S k → k < W.heap.size → (S k ∨ lv.ownBlock = some k ∨ a.ownBlock = some k ∨ b.ownBlock = some k ∨ c.ownBlock = some k) ∧ W'.heap[k]? = W.heap[k]? := fun k hk hkl => by
    obtain ⟨q0, q1, qp, qr, qn, qe, qv⟩ := h.st k hk
    refine ⟨.inl hk, K.frm.block k hkl (fun hh => ?_)⟩
    rcases hh with hh | hh | hh
    · exact q1 hh
    · exact qe hh
    · exact hS k hk hh
  obtain ⟨lc1, lc2, lc3, lc4⟩ := K.lists (c, n + 3) (by simp)
  obtain ⟨lb1, lb2, lb3, lb4⟩ := K.lists (b, n + 2) (by simp)
  obtain ⟨la1, la2, la3, la4⟩ := K.lists (a, n + 1) (by simp)
  obtain ⟨ll1, ll2, ll3, ll4⟩ := K.lists (lv, n) (by simp)
  have newc : ∀ u : Value, u.ownBlock ≠ some Bw → Clear lv u → (∀ k, u.ownBlock = some k → k < W.heap.size) → ∀ x : Value, (x.ownBlock = lv.ownBlock ∨ ∃ b, x.ownBlock = some b ∧ W.heap.size ≤ b) → ∀ k, x.ownBlock = some k → u.ownBlock ≠ some k := fun u _ h2 h3 x hx k hk hu => by
    rcases hx with hx | ⟨b', hb', hle⟩
    · exact h2 k (hx.symm.trans hk) hu
    · rw [hb'] at hk; injection hk with hk; have := h3 k hu; omega
  have xn : ∀ u : Value, u.ownBlock ≠ some Bw → Clear u ev → (∀ k, u.ownBlock = some k → k < W.heap.size) → Clear u ev' := fun u _ h2 h3 k hk hv => by
    rcases K.nvb with hn | ⟨b', hb', hle⟩
    · exact h2 k hk (hn.symm.trans hv)
    · rw [hb'] at hv; injection hv with hv; have := h3 k hk; omega
  have cell : ∀ j, j ≠ 3 → W'.cell? ⟨Bw, j, none⟩ = W.cell? ⟨Bw, j, none⟩ := K.oth
  have eul : (eu ++ [lv] ++ [a] ++ [b] ++ [c]).length = eu.length + 4 := by simp
  have plt : ∀ q, pv.ownBlock = some q → q < W.heap.size := fun q hq => (h.op.lt q hq).2
  have rlt : ∀ q, rv.ownBlock = some q → q < W.heap.size := fun q hq => (h.or.lt q hq).2
  have nlt : ∀ q, nv.ownBlock = some q → q < W.heap.size := fun q hq => (h.on.lt q hq).2
  have vlt : ∀ q, vv.ownBlock = some q → q < W.heap.size := fun q hq => (h.ov.lt q hq).2
  exact {
    bw := h.bw
    lt := Nat.lt_of_lt_of_le h.lt hlt
    c0 := (cell 0 (by omega)).trans h.c0
    c1 := (cell 1 (by omega)).trans h.c1
    c2 := (cell 2 (by omega)).trans h.c2
    c3 := K.fld
    c4 := (cell 4 (by omega)).trans h.c4
    c5 := (cell 5 (by omega)).trans h.c5
    fz := fun j => (K.fz j).trans (h.fz j)
    op := keep _ _ _ _ h.op h.bp (h.pe) zp
    or := keep _ _ _ _ h.or h.br (h.re) zr
    on := keep _ _ _ _ h.on h.bn (h.ne) zn
    oe := K.book
    ov := keep _ _ _ _ h.ov h.bv (h.evv.symm) zv
    bp := h.bp
    br := h.br
    bn := h.bn
    be := K.bw
    bv := h.bv
    pr := h.pr
    pn := h.pn
    pe := xn _ h.bp (h.pe) plt
    pvv := h.pvv
    rn := h.rn
    re := xn _ h.br (h.re) rlt
    rvv := h.rvv
    ne := xn _ h.bn (h.ne) nlt
    nvv := h.nvv
    evv := (xn _ h.bv (h.evv.symm) vlt).symm
    st := fun k hk => by
      rcases hk with hk | hk | hk | hk | hk
      · obtain ⟨q0, q1, qp, qr, qn, qe, qv⟩ := h.st k hk
        refine ⟨Nat.lt_of_lt_of_le q0 hlt, q1, qp, qr, qn, fun hv => ?_, qv⟩
        rcases K.nvb with hn | ⟨b', hb', hle⟩
        · exact qe (hn.symm.trans hv)
        · rw [hb'] at hv; injection hv with hv; omega
      · exact ⟨(ll1.lt k hk).2, fun e => ll3 (e ▸ hk), newc _ h.bp zp plt _ ll2 k hk, newc _ h.br zr rlt _ ll2 k hk, newc _ h.bn zn nlt _ ll2 k hk, ll4 k hk, newc _ h.bv zv vlt _ ll2 k hk⟩
      · exact ⟨(la1.lt k hk).2, fun e => la3 (e ▸ hk), newc _ h.bp zp plt _ la2 k hk, newc _ h.br zr rlt _ la2 k hk, newc _ h.bn zn nlt _ la2 k hk, la4 k hk, newc _ h.bv zv vlt _ la2 k hk⟩
      · exact ⟨(lb1.lt k hk).2, fun e => lb3 (e ▸ hk), newc _ h.bp zp plt _ lb2 k hk, newc _ h.br zr rlt _ lb2 k hk, newc _ h.bn zn nlt _ lb2 k hk, lb4 k hk, newc _ h.bv zv vlt _ lb2 k hk⟩
      · exact ⟨(lc1.lt k hk).2, fun e => lc3 (e ▸ hk), newc _ h.bp zp plt _ lc2 k hk, newc _ h.br zr rlt _ lc2 k hk, newc _ h.bn zn nlt _ lc2 k hk, lc4 k hk, newc _ h.bv zv vlt _ lc2 k hk⟩
    n4 := h.n4
    e4 := by rw [eul]; have := h.e4; omega
    v4 := h.v4
    mn := fun i u hu => by
      obtain ⟨l, hl⟩ := h.mn i u hu
      exact ⟨l, rep_turn (List.cons_ne_nil _ _) hl hst⟩
    me := fun i u hu => by
      by_cases hi : i < eu.length
      · rw [List.append_assoc, List.append_assoc, List.append_assoc, List.getElem?_append_left hi] at hu
        obtain ⟨l, hl⟩ := h.me i u hu
        exact ⟨l, rep_turn (List.cons_ne_nil _ _) hl hst⟩
      · have hi2 := (List.getElem?_eq_some_iff.1 hu).1
        rw [eul] at hi2
        have hmk := mkZ_div h.e4 (show eu.length ≤ i by omega) hi2
        rw [List.append_assoc, List.append_assoc, List.append_assoc, List.getElem?_append_right (by omega)] at hu
        obtain ⟨d, hd⟩ : ∃ d, i - eu.length = d := ⟨_, rfl⟩
        rw [hd] at hu
        have hd4 : d < 4 := by omega
        unfold evMk; rw [hmk]
        match d, hd4, hu with
        | 0, _, hu => (simp at hu; subst hu; exact ⟨n, own_marks ll1 rfl (fun k hk => .inr (.inl hk))⟩)
        | 1, _, hu => (simp at hu; subst hu; exact ⟨n + 1, own_marks la1 rfl (fun k hk => .inr (.inr (.inl hk)))⟩)
        | 2, _, hu => (simp at hu; subst hu; exact ⟨n + 2, own_marks lb1 rfl (fun k hk => .inr (.inr (.inr (.inl hk))))⟩)
        | 3, _, hu => (simp at hu; subst hu; exact ⟨n + 3, own_marks lc1 rfl (fun k hk => .inr (.inr (.inr (.inr hk))))⟩)
    mv := fun i u hu => by
      obtain ⟨l, hl⟩ := h.mv i u hu
      exact ⟨l, rep_turn (List.cons_ne_nil _ _) hl hst⟩
  }

/-- Behind keepV. -/
theorem Bk.keepV {W W' : World} {B Bw n : Nat} {S : Nat → Prop} {pv rv nv ev vv vv' lv a b c : Value} {pu ru nu eu vu : List Value} (h : Bk W B Bw S pv rv nv ev vv pu ru nu eu vu)
    (K : KS W W' B Bw 4 91 64 3 (repC (vaMk vu.length)) lv vv [(c, n + 3), (b, n + 2), (a, n + 1), (lv, n)] vv' (vu ++ [lv] ++ [a] ++ [b] ++ [c]))
    (zp : Clear lv pv) (zr : Clear lv rv) (zn : Clear lv nv) (ze : Clear lv ev) (_zv : Clear lv vv) (hS : ∀ b, S b → lv.ownBlock ≠ some b) :
    Bk W' B Bw (fun k => S k ∨ lv.ownBlock = some k ∨ a.ownBlock = some k ∨ b.ownBlock = some k ∨ c.ownBlock = some k) pv rv nv ev vv' pu ru nu eu (vu ++ [lv] ++ [a] ++ [b] ++ [c]) := by
  have hlt := K.frm.size
  have keep : ∀ (u : Value) (e : TypeId) (m : Nat) (xs : List Value), W.ownsRow B e 1 u m xs → u.ownBlock ≠ some Bw → Clear u vv → Clear lv u → W'.ownsRow B e 1 u m xs := fun u e m xs ho h1 h2 h3 =>
    own_turn ho (fun k hk hkl => K.frm.block k hkl (fun hh => by
      rcases hh with hh | hh | hh
      · exact h1 (hh ▸ hk)
      · exact h2 k hk hh
      · exact h3 k hh hk))
  have hst : ∀ k, S k → k < W.heap.size → (S k ∨ lv.ownBlock = some k ∨ a.ownBlock = some k ∨ b.ownBlock = some k ∨ c.ownBlock = some k) ∧ W'.heap[k]? = W.heap[k]? := fun k hk hkl => by
    obtain ⟨q0, q1, qp, qr, qn, qe, qv⟩ := h.st k hk
    refine ⟨.inl hk, K.frm.block k hkl (fun hh => ?_)⟩
    rcases hh with hh | hh | hh
    · exact q1 hh
    · exact qv hh
    · exact hS k hk hh
  obtain ⟨lc1, lc2, lc3, lc4⟩ := K.lists (c, n + 3) (by simp)
  obtain ⟨lb1, lb2, lb3, lb4⟩ := K.lists (b, n + 2) (by simp)
  obtain ⟨la1, la2, la3, la4⟩ := K.lists (a, n + 1) (by simp)
  obtain ⟨ll1, ll2, ll3, ll4⟩ := K.lists (lv, n) (by simp)
  have newc : ∀ u : Value, u.ownBlock ≠ some Bw → Clear lv u → (∀ k, u.ownBlock = some k → k < W.heap.size) → ∀ x : Value, (x.ownBlock = lv.ownBlock ∨ ∃ b, x.ownBlock = some b ∧ W.heap.size ≤ b) → ∀ k, x.ownBlock = some k → u.ownBlock ≠ some k := fun u _ h2 h3 x hx k hk hu => by
    rcases hx with hx | ⟨b', hb', hle⟩
    · exact h2 k (hx.symm.trans hk) hu
    · rw [hb'] at hk; injection hk with hk; have := h3 k hu; omega
  have xn : ∀ u : Value, u.ownBlock ≠ some Bw → Clear u vv → (∀ k, u.ownBlock = some k → k < W.heap.size) → Clear u vv' := fun u _ h2 h3 k hk hv => by
    rcases K.nvb with hn | ⟨b', hb', hle⟩
    · exact h2 k hk (hn.symm.trans hv)
    · rw [hb'] at hv; injection hv with hv; have := h3 k hk; omega
  have cell : ∀ j, j ≠ 4 → W'.cell? ⟨Bw, j, none⟩ = W.cell? ⟨Bw, j, none⟩ := K.oth
  have vul : (vu ++ [lv] ++ [a] ++ [b] ++ [c]).length = vu.length + 4 := by simp
  have plt : ∀ q, pv.ownBlock = some q → q < W.heap.size := fun q hq => (h.op.lt q hq).2
  have rlt : ∀ q, rv.ownBlock = some q → q < W.heap.size := fun q hq => (h.or.lt q hq).2
  have nlt : ∀ q, nv.ownBlock = some q → q < W.heap.size := fun q hq => (h.on.lt q hq).2
  have elt : ∀ q, ev.ownBlock = some q → q < W.heap.size := fun q hq => (h.oe.lt q hq).2
  exact {
    bw := h.bw
    lt := Nat.lt_of_lt_of_le h.lt hlt
    c0 := (cell 0 (by omega)).trans h.c0
    c1 := (cell 1 (by omega)).trans h.c1
    c2 := (cell 2 (by omega)).trans h.c2
    c3 := (cell 3 (by omega)).trans h.c3
    c4 := K.fld
    c5 := (cell 5 (by omega)).trans h.c5
    fz := fun j => (K.fz j).trans (h.fz j)
    op := keep _ _ _ _ h.op h.bp (h.pvv) zp
    or := keep _ _ _ _ h.or h.br (h.rvv) zr
    on := keep _ _ _ _ h.on h.bn (h.nvv) zn
    oe := keep _ _ _ _ h.oe h.be (h.evv) ze
    ov := K.book
    bp := h.bp
    br := h.br
    bn := h.bn
    be := h.be
    bv := K.bw
    pr := h.pr
    pn := h.pn
    pe := h.pe
    pvv := xn _ h.bp (h.pvv) plt
    rn := h.rn
    re := h.re
    rvv := xn _ h.br (h.rvv) rlt
    ne := h.ne
    nvv := xn _ h.bn (h.nvv) nlt
    evv := xn _ h.be (h.evv) elt
    st := fun k hk => by
      rcases hk with hk | hk | hk | hk | hk
      · obtain ⟨q0, q1, qp, qr, qn, qe, qv⟩ := h.st k hk
        refine ⟨Nat.lt_of_lt_of_le q0 hlt, q1, qp, qr, qn, qe, fun hv => ?_⟩
        rcases K.nvb with hn | ⟨b', hb', hle⟩
        · exact qv (hn.symm.trans hv)
        · rw [hb'] at hv; injection hv with hv; omega
      · exact ⟨(ll1.lt k hk).2, fun e => ll3 (e ▸ hk), newc _ h.bp zp plt _ ll2 k hk, newc _ h.br zr rlt _ ll2 k hk, newc _ h.bn zn nlt _ ll2 k hk, newc _ h.be ze elt _ ll2 k hk, ll4 k hk⟩
      · exact ⟨(la1.lt k hk).2, fun e => la3 (e ▸ hk), newc _ h.bp zp plt _ la2 k hk, newc _ h.br zr rlt _ la2 k hk, newc _ h.bn zn nlt _ la2 k hk, newc _ h.be ze elt _ la2 k hk, la4 k hk⟩
      · exact ⟨(lb1.lt k hk).2, fun e => lb3 (e ▸ hk), newc _ h.bp zp plt _ lb2 k hk, newc _ h.br zr rlt _ lb2 k hk, newc _ h.bn zn nlt _ lb2 k hk, newc _ h.be ze elt _ lb2 k hk, lb4 k hk⟩
      · exact ⟨(lc1.lt k hk).2, fun e => lc3 (e ▸ hk), newc _ h.bp zp plt _ lc2 k hk, newc _ h.br zr rlt _ lc2 k hk, newc _ h.bn zn nlt _ lc2 k hk, newc _ h.be ze elt _ lc2 k hk, lc4 k hk⟩
    n4 := h.n4
    e4 := h.e4
    v4 := by rw [vul]; have := h.v4; omega
    mn := fun i u hu => by
      obtain ⟨l, hl⟩ := h.mn i u hu
      exact ⟨l, rep_turn (List.cons_ne_nil _ _) hl hst⟩
    me := fun i u hu => by
      obtain ⟨l, hl⟩ := h.me i u hu
      exact ⟨l, rep_turn (List.cons_ne_nil _ _) hl hst⟩
    mv := fun i u hu => by
      by_cases hi : i < vu.length
      · rw [List.append_assoc, List.append_assoc, List.append_assoc, List.getElem?_append_left hi] at hu
        obtain ⟨l, hl⟩ := h.mv i u hu
        exact ⟨l, rep_turn (List.cons_ne_nil _ _) hl hst⟩
      · have hi2 := (List.getElem?_eq_some_iff.1 hu).1
        rw [vul] at hi2
        have hmk := mkZ_div h.v4 (show vu.length ≤ i by omega) hi2
        rw [List.append_assoc, List.append_assoc, List.append_assoc, List.getElem?_append_right (by omega)] at hu
        obtain ⟨d, hd⟩ : ∃ d, i - vu.length = d := ⟨_, rfl⟩
        rw [hd] at hu
        have hd4 : d < 4 := by omega
        unfold vaMk; rw [hmk]
        match d, hd4, hu with
        | 0, _, hu => (simp at hu; subst hu; exact ⟨n, own_marks ll1 rfl (fun k hk => .inr (.inl hk))⟩)
        | 1, _, hu => (simp at hu; subst hu; exact ⟨n + 1, own_marks la1 rfl (fun k hk => .inr (.inr (.inl hk)))⟩)
        | 2, _, hu => (simp at hu; subst hu; exact ⟨n + 2, own_marks lb1 rfl (fun k hk => .inr (.inr (.inr (.inl hk))))⟩)
        | 3, _, hu => (simp at hu; subst hu; exact ⟨n + 3, own_marks lc1 rfl (fun k hk => .inr (.inr (.inr (.inr hk))))⟩)
  }
end Go.Proofs.YtkmakliebhnhbaaGreat
