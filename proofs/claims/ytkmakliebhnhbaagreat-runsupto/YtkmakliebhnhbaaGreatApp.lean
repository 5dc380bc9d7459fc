import Derived.Deep.AppendLies
import Derived.Test.YtkmakliebhnhbaaGreatSer
/- 'append', whatever is appended: what was owned is still owned, and what came out too. -/
namespace Go.Proofs.YtkmakliebhnhbaaGreat
open Go.RowKit

/-- What is appended: nothing, or m elements out of memory. -/
def AppSrc (w : World) (size : Nat) (xv : Value) (m : Nat) (news : List Value) : Prop :=
  (xv = .slice none 0 0 ∧ m = 0 ∧ news = []) ∨ ∃ ad c, xv = .slice (some ad) m c ∧ news.length = m * size ∧ ∀ j u, news[j]? = some u → w.cell? (ad.add j) = some u

theorem AppSrc.len {w : World} {size : Nat} {xv : Value} {m : Nat} {news : List Value} (h : AppSrc w size xv m news) : news.length = m * size := by
  rcases h with ⟨_, rfl, rfl⟩ | ⟨_, _, _, h, _⟩
  · simp
  · exact h

theorem own_form {w : World} {base : Nat} {e : TypeId} {size : Nat} {v : Value} {n : Nat} {xs : List Value} (h : w.ownsRow base e size v n xs) : ∃ a cap, v = .slice a n cap := by
  rcases h.2 with ⟨hv, h0⟩ | ⟨g, c, _, hv, _⟩
  · exact ⟨none, 0, by rw [hv, h0]⟩
  · exact ⟨_, _, hv⟩

theorem own_below {w w' : World} {base : Nat} {e : TypeId} {size : Nat} {v : Value} {n : Nat} {xs : List Value} (h : w.ownsRow base e size v n xs) (hb : Below w.heap.size w w') : w'.ownsRow base e size v n xs := by
  refine ⟨h.1, ?_⟩
  rcases h.2 with hn | ⟨g, cap, cur, rfl, hb', hg, rest⟩
  · exact .inl hn
  · exact .inr ⟨g, cap, cur, rfl, hb', (hb.block g (Array.getElem?_eq_some_iff.1 hg).1).trans hg, rest⟩

theorem own_base {w : World} {base base' : Nat} {e : TypeId} {size : Nat} {v : Value} {n : Nat} {xs : List Value} (h : w.ownsRow base e size v n xs) (hb : base' ≤ base) : w.ownsRow base' e size v n xs := by
  refine ⟨h.1, ?_⟩
  rcases h.2 with hn | ⟨g, cap, cur, rfl, hb', rest⟩
  · exact .inl hn
  · exact .inr ⟨g, cap, cur, rfl, by omega, rest⟩

/-- What is owned may be appended elsewhere. -/
theorem own_src {w : World} {base : Nat} {e : TypeId} {size : Nat} {v : Value} {n : Nat} {xs : List Value} (h : w.ownsRow base e size v n xs) : AppSrc w size v n xs := by
  rcases h.2 with ⟨rfl, rfl⟩ | ⟨g, cap, cur, rfl, hb', rest⟩
  · exact .inl ⟨rfl, rfl, List.eq_nil_of_length_eq_zero (by simpa using h.1)⟩
  · exact .inr ⟨_, _, rfl, h.1, h.cells (g := g) rfl⟩

theorem heap_new (W : World) (o : Obj) : (W.alloc o).heap[W.heap.size]? = some o := by
  show (W.heap.push o)[W.heap.size]? = _
  rw [Array.getElem?_push, if_pos rfl]
theorem cells1 (W : World) (a : Value) (t : TypeId) (H : Nat) (hH : W.heap.size = H) : AppSrc (W.alloc (.cells #[a] t)) 1 (.slice (some ⟨H, 0, none⟩) 1 1) 1 [a] :=
  .inr ⟨_, _, rfl, rfl, by subst hH; exact World.news_of_block (cs := #[a]) (fr := (0, 0)) (heap_new W _)⟩
theorem cells3 (W : World) (a b c : Value) (t : TypeId) (H : Nat) (hH : W.heap.size = H) : AppSrc (W.alloc (.cells #[a, b, c] t)) 3 (.slice (some ⟨H, 0, none⟩) 1 1) 1 [a, b, c] :=
  .inr ⟨_, _, rfl, rfl, by subst hH; exact World.news_of_block (cs := #[a, b, c]) (fr := (0, 0)) (heap_new W _)⟩

/-- How an append went: in place, or nothing old has turned. -/
def AppWay (w w' : World) (v : Value) (n : Nat) (a' : Option Addr) (cap' : Nat) : Prop := (∃ g, v = .slice (some ⟨g, 0, none⟩) n cap' ∧ a' = some ⟨g, 0, none⟩) ∨ ∀ k, k < w.heap.size → w'.heap[k]? = w.heap[k]?

section
variable {P : Program} (w : World)

theorem ownsRow_setRow_app {w : World} {base : Nat} {e : TypeId} {size g n cap : Nat} {cur : Array Value} {xs news : List Value} (hbg : base ≤ g) (hg : w.heap[g]? = some (.cells cur e (0, 0))) (hcm : cap ≤ maxLen) (hcs : cur.size = cap * size)
    (hx : xs.length = n * size) (htake : cur.toList.take (n * size) = xs) (m : Nat) (hl : news.length = m * size) (hroom : n + m ≤ cap) :
    (w.setRow g (cur.toList.take (n * size) ++ news ++ cur.toList.drop (n * size + news.length)).toArray).ownsRow base e size (.slice (some ⟨g, 0, none⟩) (n + m) cap) (n + m) (xs ++ news) ∧
    (w.setRow g (cur.toList.take (n * size) ++ news ++ cur.toList.drop (n * size + news.length)).toArray).ownsRow base e size (.slice (some ⟨g, 0, none⟩) n cap) n xs := by
  have hsz : (cur.toList.take (n * size) ++ news ++ cur.toList.drop (n * size + news.length)).toArray.size = cap * size := by
    have : (n + m) * size ≤ cap * size := Nat.mul_le_mul_right _ hroom
    rw [Nat.add_mul] at this
    simp only [List.size_toArray, List.length_append, List.length_take, List.length_drop, Array.length_toList]
    omega
  have hg' := setRow_heap w g cur (cur.toList.take (n * size) ++ news ++ cur.toList.drop (n * size + news.length)).toArray e (0, 0) hg
  refine ⟨⟨by rw [List.length_append, hx, hl, Nat.add_mul], .inr ⟨g, cap, _, rfl, hbg, hg', hroom, hcm, hsz, ?_⟩⟩, ⟨hx, .inr ⟨g, cap, _, rfl, hbg, hg', by omega, hcm, hsz, ?_⟩⟩⟩
  · rw [htake]
    have : (xs ++ news).length = (n + m) * size := by rw [List.length_append, hx, hl, Nat.add_mul]
    rw [← this]
    exact List.take_left
  · rw [htake, ← hx]
    simp only [List.append_assoc]
    exact List.take_left

theorem run_app2 (base : Nat) (t ty e : TypeId) (i : TypeInfo) (z : Value) (size bytes : Nat) (ht : P.underlying t = some (.slice e)) (hi : P.info? e = some i) (hz : i.zero = some z)
    (hsize : i.size = size) (hby : i.bytes = bytes) (hzs : z.cells.size = size) (hsz : 0 < size)
    (v : Value) (n : Nat) (xs : List Value) (hown : w.ownsRow base e size v n xs)
    (xv : Value) (m : Nat) (news : List Value) (hsrc : AppSrc w size xv m news) (h1 : ∀ u ∈ news, u.oneCell' = true)
    (h63 : n + m ≤ maxLen) (hbytes : (n + m) * bytes ≤ 140737488355328) (hbase : base ≤ w.heap.size) :
    ∃ a' cap' w', (Builtin.append_ #[t, t] ty #[v, xv]).run P w = .ok (.slice a' (n + m) cap') w' ∧ w'.ownsRow base e size (.slice a' (n + m) cap') (n + m) (xs ++ news) ∧ w.grownBy w' v.ownBlock ∧ w'.ownsRow base e size v n xs ∧
      ((Value.slice a' (n + m) cap').ownBlock = v.ownBlock ∨ (Value.slice a' (n + m) cap').ownBlock = some w.heap.size) ∧ AppWay w w' v n a' cap' := by
  rcases hsrc with ⟨rfl, rfl, rfl⟩ | ⟨ad, c, rfl, hl, hnews⟩
  · have hr := run_append_owned_none (P := P) w base t ty e i size ht hi v n xs hown
    rcases hown.2 with ⟨rfl, rfl⟩ | ⟨g, cap, cur, rfl, _⟩
    · exact ⟨none, 0, w, hr, by simpa using hown, World.grownBy.refl _ _, hown, .inl rfl, .inr fun _ _ => rfl⟩
    · exact ⟨some ⟨g, 0, none⟩, cap, w, hr, by simpa using hown, World.grownBy.refl _ _, hown, .inl rfl, .inr fun _ _ => rfl⟩
  · rcases Nat.eq_zero_or_pos m with rfl | hm
    · -- nothing is appended, out of memory
      obtain rfl : news = [] := List.eq_nil_of_length_eq_zero (by simpa using hl)
      obtain ⟨v', w', hr, h2, h3, h4⟩ := run_append_own (P := P) w base t ty e i z size bytes ht hi hz hsize hby hzs hsz v n xs hown ad 0 c [] hl hnews h1 h63 hbytes hbase
      rcases hown.2 with ⟨rfl, rfl⟩ | ⟨g, cap, cur, rfl, hbg, hg, hnc, hcm, hcs, htake⟩
      · obtain rfl := h4.2 ⟨rfl, rfl⟩
        exact ⟨none, 0, w', hr, h2, h3, ⟨hown.1, .inl ⟨rfl, rfl⟩⟩, .inl rfl, .inr fun k hk => h3.block k hk (by simp [Value.ownBlock])⟩
      · subst hsize
        have hr' := run_append_room (P := P) w t ty e i ht hi g n cap cur hg ad 0 c [] hl hnews h1 (by simpa using hnc) (by rw [hcs]; simpa using Nat.mul_le_mul_right _ hnc)
        have hh := ownsRow_setRow_app (news := []) hbg hg hcm hcs hown.1 htake 0 (by simp) (by simpa using hnc)
        exact ⟨_, _, _, hr', hh.1, ⟨rfl, rfl, rfl, by simp, fun k _ hk => setRow_other w g k _ (fun e => hk (by simp [Value.ownBlock, e]))⟩, hh.2, .inl rfl, .inl ⟨g, rfl, rfl⟩⟩
    · subst hsize
      subst hby
      have hsmall : n + m ≤ 9223372036854775807 := by simp only [maxLen] at h63; omega
      rcases hown.2 with ⟨rfl, rfl⟩ | ⟨g, cap, cur, rfl, hbg, hg, hnc, hcm, hcs, htake⟩
      · obtain ⟨g', cap', w', hr, h2, h3, h4, h5⟩ := run_append_lies (P := P) w t ty base e i z i.size i.bytes ht hi hz rfl rfl hzs hsz _ 0 xs hown ad m c news hl hnews h1 hm h63 hbytes hbase w.heap.size rfl
        refine ⟨_, _, w', hr, h2, h3, ⟨hown.1, .inl ⟨rfl, rfl⟩⟩, ?_, .inr fun k hk => h3.block k hk (by simp [Value.ownBlock])⟩
        rcases h4 with h4 | h4
        · cases h4
        · exact .inr (by simp [Value.ownBlock, h4])
      · by_cases hroom : n + m ≤ cap
        · have hfit : n * i.size + news.length ≤ cur.size := by rw [hl, hcs, ← Nat.add_mul]; exact Nat.mul_le_mul_right _ hroom
          have hr := run_append_room (P := P) w t ty e i ht hi g n cap cur hg ad m c news hl hnews h1 hroom hfit
          have hh := ownsRow_setRow_app hbg hg hcm hcs hown.1 htake m hl hroom
          exact ⟨_, _, _, hr, hh.1, ⟨rfl, rfl, rfl, by simp, fun k _ hk => setRow_other w g k _ (fun e => hk (by simp [Value.ownBlock, e]))⟩, hh.2, .inl rfl, .inl ⟨g, rfl, rfl⟩⟩
        · have holds : ∀ j u, xs[j]? = some u → w.cell? ((⟨g, 0, none⟩ : Addr).add j) = some u := hown.cells (g := g) rfl
          have hr := run_append_grow (P := P) w t ty e i z ht hi hz ⟨g, 0, none⟩ n cap xs hown.1 holds ad m c news hl hnews (by omega) (by omega) (growslice_fits (by omega) hbytes)
          obtain ⟨g', cap', w', hr2, h2, h3, h4, h5⟩ := run_append_lies (P := P) w t ty base e i z i.size i.bytes ht hi hz rfl rfl hzs hsz _ n xs hown ad m c news hl hnews h1 hm h63 hbytes hbase w.heap.size rfl
          rw [hr] at hr2
          injection hr2 with e1 e2
          injection e1 with e1 _ e3
          obtain rfl : g' = w.heap.size := by injection e1 with e1; injection e1 with e1; exact e1.symm
          subst e3
          refine ⟨_, _, w', by rw [hr, e2], h2, h3, ?_, .inr rfl, .inr fun k hk => by rw [← e2]; exact Below.heap_alloc w.drew _ k hk⟩
          rw [← e2]
          have hgn : w.grownBy (w.drew.alloc (.cells (xs.toArray ++ news.toArray ++ Builtin.zeroCells z.cells (grownCap w (n + m) cap e - (n + m))) e)) none :=
            ⟨rfl, rfl, rfl, by simp, fun k hk _ => Below.heap_alloc w.drew _ k hk⟩
          exact hown.kept hgn (.inr (by simp [Value.ownBlock]))

theorem wpList_app {ops : Array Oper} {rest : List Oper} {o : Oper} {a : Act} {Q : Exit → Act → World → Prop} (hgd : o.guard = none) (s x : Operand) (t : TypeId)
    (ho : o.op = .call { callee := .builtin .append, args := #[s, x], argTypes := #[t, t] })
    (base : Nat) (e : TypeId) (i : TypeInfo) (z : Value) (size bytes : Nat) (ht : P.underlying t = some (.slice e)) (hi : P.info? e = some i) (hz : i.zero = some z)
    (hsize : i.size = size) (hby : i.bytes = bytes) (hzs : z.cells.size = size) (hsz : 0 < size)
    (v : Value) (n : Nat) (xs : List Value) (hs : a.eval s = v) (hown : w.ownsRow base e size v n xs)
    (xv : Value) (m : Nat) (news : List Value) (hx : a.eval x = xv) (hsrc : AppSrc w size xv m news) (h1 : ∀ u ∈ news, u.oneCell' = true)
    (h63 : n + m ≤ maxLen) (hbytes : (n + m) * bytes ≤ 140737488355328) (hbase : base ≤ w.heap.size)
    (h : ∀ a' cap' w', w'.ownsRow base e size (.slice a' (n + m) cap') (n + m) (xs ++ news) → w.grownBy w' v.ownBlock → w'.ownsRow base e size v n xs →
      ((Value.slice a' (n + m) cap').ownBlock = v.ownBlock ∨ (Value.slice a' (n + m) cap').ownBlock = some w.heap.size) → wpList P ops Q rest (a.put o.dst (.slice a' (n + m) cap')) w') : wpList P ops Q (o :: rest) a w := by
  refine wpList_plain hgd fun K hK => ?_
  obtain ⟨a', cap', w', hr, h2, h3, h4, h5, _⟩ := run_app2 (P := P) w base t o.type e i z size bytes ht hi hz hsize hby hzs hsz v n xs hown xv m news hsrc h1 h63 hbytes hbase
  unfold Oper.wp execOp
  simp only [ho, resolve, invoke, builtin, Sem.run_bind, Sem.run_pure, Result.andThen_ok, List.map_toArray, List.map_cons, List.map_nil, hs, hx, hr]
  exact hK _ _ (h a' cap' w' h2 h3 h4 h5)
theorem wpList_app2 {ops : Array Oper} {rest : List Oper} {o : Oper} {a : Act} {Q : Exit → Act → World → Prop} (hgd : o.guard = none) (s x : Operand) (t : TypeId)
    (ho : o.op = .call { callee := .builtin .append, args := #[s, x], argTypes := #[t, t] })
    (base : Nat) (e : TypeId) (i : TypeInfo) (z : Value) (size bytes : Nat) (ht : P.underlying t = some (.slice e)) (hi : P.info? e = some i) (hz : i.zero = some z)
    (hsize : i.size = size) (hby : i.bytes = bytes) (hzs : z.cells.size = size) (hsz : 0 < size)
    (v : Value) (n : Nat) (xs : List Value) (hs : a.eval s = v) (hown : w.ownsRow base e size v n xs)
    (xv : Value) (m : Nat) (news : List Value) (hx : a.eval x = xv) (hsrc : AppSrc w size xv m news) (h1 : ∀ u ∈ news, u.oneCell' = true)
    (h63 : n + m ≤ maxLen) (hbytes : (n + m) * bytes ≤ 140737488355328) (hbase : base ≤ w.heap.size)
    (h : ∀ a' cap' w', w'.ownsRow base e size (.slice a' (n + m) cap') (n + m) (xs ++ news) → w.grownBy w' v.ownBlock → w'.ownsRow base e size v n xs →
      ((Value.slice a' (n + m) cap').ownBlock = v.ownBlock ∨ (Value.slice a' (n + m) cap').ownBlock = some w.heap.size) → AppWay w w' v n a' cap' → wpList P ops Q rest (a.put o.dst (.slice a' (n + m) cap')) w') : wpList P ops Q (o :: rest) a w := by
  refine wpList_plain hgd fun K hK => ?_
  obtain ⟨a', cap', w', hr, h2, h3, h4, h5, h6⟩ := run_app2 (P := P) w base t o.type e i z size bytes ht hi hz hsize hby hzs hsz v n xs hown xv m news hsrc h1 h63 hbytes hbase
  unfold Oper.wp execOp
  simp only [ho, resolve, invoke, builtin, Sem.run_bind, Sem.run_pure, Result.andThen_ok, List.map_toArray, List.map_cons, List.map_nil, hs, hx, hr]
  exact hK _ _ (h a' cap' w' h2 h3 h4 h5 h6)
/-- The same at a step of a region that draws its order. -/
theorem step_app2 {ops : Array Oper} {o : Oper} {a : Act} {K : Act → World → Prop} {Q : Exit → Act → World → Prop} {E : Prop} (hgd : o.guard = none) (s x : Operand) (t : TypeId)
    (ho : o.op = .call { callee := .builtin .append, args := #[s, x], argTypes := #[t, t] })
    (base : Nat) (e : TypeId) (i : TypeInfo) (z : Value) (size bytes : Nat) (ht : P.underlying t = some (.slice e)) (hi : P.info? e = some i) (hz : i.zero = some z)
    (hsize : i.size = size) (hby : i.bytes = bytes) (hzs : z.cells.size = size) (hsz : 0 < size)
    (v : Value) (n : Nat) (xs : List Value) (hs : a.eval s = v) (hown : w.ownsRow base e size v n xs)
    (xv : Value) (m : Nat) (news : List Value) (hx : a.eval x = xv) (hsrc : AppSrc w size xv m news) (h1 : ∀ u ∈ news, u.oneCell' = true)
    (h63 : n + m ≤ maxLen) (hbytes : (n + m) * bytes ≤ 140737488355328) (hbase : base ≤ w.heap.size)
    (h : ∀ a' cap' w', w'.ownsRow base e size (.slice a' (n + m) cap') (n + m) (xs ++ news) → w.grownBy w' v.ownBlock → w'.ownsRow base e size v n xs →
      ((Value.slice a' (n + m) cap').ownBlock = v.ownBlock ∨ (Value.slice a' (n + m) cap').ownBlock = some w.heap.size) → AppWay w w' v n a' cap' → K (a.put o.dst (.slice a' (n + m) cap')) w') :
    if Region.wanted o (yielded ops a.tmps) = true then Oper.wp P o a w K Q else E := by
  have hw : Region.wanted o (yielded ops a.tmps) = true := by simp [Region.wanted, hgd]
  rw [if_pos hw]
  obtain ⟨a', cap', w', hr, h2, h3, h4, h5, h6⟩ := run_app2 (P := P) w base t o.type e i z size bytes ht hi hz hsize hby hzs hsz v n xs hown xv m news hsrc h1 h63 hbytes hbase
  unfold Oper.wp execOp
  simp only [ho, resolve, invoke, builtin, Sem.run_bind, Sem.run_pure, Result.andThen_ok, List.map_toArray, List.map_cons, List.map_nil, hs, hx, hr]
  exact h a' cap' w' h2 h3 h4 h5 h6
end
/-- A list that lies in the same row, or elsewhere, still reads so behind an append, if the row's head says the same. -/
theorem app_own {w w' : World} {base : Nat} {e : TypeId} {size : Nat} (hsz : 0 < size) {v x : Value} {n m j : Nat} {ys zs all : List Value} {a' : Option Addr} {cap' : Nat} (hv : w.ownsRow base e size v n ys) (hx : w.ownsRow base e size x j zs)
    (hv' : w'.ownsRow base e size (.slice a' (n + m) cap') (n + m) all) (hall : all.take (j * size) = zs)
    (hg : w.grownBy w' v.ownBlock) (hway : AppWay w w' v n a' cap') (hj : j ≤ n + m) : w'.ownsRow base e size x j zs := by
  by_cases hb : x.ownBlock = v.ownBlock ∧ x.ownBlock ≠ none
  · rcases hway with ⟨g, rfl, rfl⟩ | hway
    · obtain ⟨hb, _⟩ := hb
      rcases hx.2 with ⟨rfl, rfl⟩ | ⟨gx, cx, cur, rfl, hbx, hgx, hnx, hcmx, hcsx, htx⟩
      · simp [Value.ownBlock] at hb
      · obtain rfl : gx = g := by simpa [Value.ownBlock] using hb
        rcases hv.2 with ⟨h0, _⟩ | ⟨g2, c2, cur2, h0, hb2, hg2, hn2, hcm2, hcs2, ht2⟩
        · cases h0
        · cases h0
          rw [hgx] at hg2
          cases hg2
          have hcc : cx = cap' := Nat.eq_of_mul_eq_mul_right hsz (hcsx.symm.trans hcs2)
          subst hcc
          rcases hv'.2 with ⟨h0, _⟩ | ⟨g3, c3, cur3, h0, hb3, hg3, hn3, hcm3, hcs3, ht3⟩
          · cases h0
          · cases h0
            refine ⟨hx.1, .inr ⟨gx, cx, cur3, rfl, hb3, hg3, hnx, hcmx, hcs3, ?_⟩⟩
            have hle : j * size ≤ (n + m) * size := Nat.mul_le_mul_right _ hj
            have h1 : cur3.toList.take (j * size) = (cur3.toList.take ((n + m) * size)).take (j * size) := by rw [List.take_take, Nat.min_eq_left hle]
            rw [h1, ht3, hall]
    · refine ⟨hx.1, ?_⟩
      rcases hx.2 with hn | ⟨gx, cx, cur, rfl, hbx, hgx, rest⟩
      · exact .inl hn
      · exact .inr ⟨gx, cx, cur, rfl, hbx, (hway gx (Array.getElem?_eq_some_iff.1 hgx).1).trans hgx, rest⟩
  · refine hx.kept hg ?_
    by_cases h0 : x.ownBlock = none
    · exact .inl h0
    · exact .inr (fun h => hb ⟨h, h0⟩)
end Go.Proofs.YtkmakliebhnhbaaGreat
