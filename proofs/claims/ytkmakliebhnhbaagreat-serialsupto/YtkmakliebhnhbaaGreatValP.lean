import Derived.OwnWalkIn
import Derived.RangeFuncNested
import Derived.Test.YtkmakliebhnhbaaGreatApp
import Derived.Test.YtkmakliebhnhbaaGreatGiv
import Derived.Test.YtkmakliebhnhbaaGreatKeep
/- The append law, inside a fence. -/
namespace Go.Proofs.YtkmakliebhnhbaaGreat
open Go.RowKit

theorem wpListIn_app2 {F : Fence} {nn : Nat} {P : Program} (w : World) {ops : Array Oper} {rest : List Oper} {o : Oper} {a : Act} {Q : Exit → Act → World → Prop} (hgd : o.guard = none) (s x : Operand) (t : TypeId)
    (ho : o.op = .call { callee := .builtin .append, args := #[s, x], argTypes := #[t, t] })
    (base : Nat) (e : TypeId) (i : TypeInfo) (z : Value) (size bytes : Nat) (ht : P.underlying t = some (.slice e)) (hi : P.info? e = some i) (hz : i.zero = some z)
    (hsize : i.size = size) (hby : i.bytes = bytes) (hzs : z.cells.size = size) (hsz : 0 < size)
    (v : Value) (n : Nat) (xs : List Value) (hs : a.eval s = v) (hown : w.ownsRow base e size v n xs)
    (xv : Value) (m : Nat) (news : List Value) (hx : a.eval x = xv) (hsrc : AppSrc w size xv m news) (h1 : ∀ u ∈ news, u.oneCell' = true)
    (h63 : n + m ≤ maxLen) (hbytes : (n + m) * bytes ≤ 140737488355328) (hbase : base ≤ w.heap.size)
    (h : ∀ a' cap' w', w'.ownsRow base e size (.slice a' (n + m) cap') (n + m) (xs ++ news) → w.grownBy w' v.ownBlock → w'.ownsRow base e size v n xs →
      ((Value.slice a' (n + m) cap').ownBlock = v.ownBlock ∨ (Value.slice a' (n + m) cap').ownBlock = some w.heap.size) → AppWay w w' v n a' cap' → wpListIn F nn P ops Q rest (a.put o.dst (.slice a' (n + m) cap')) w') : wpListIn F nn P ops Q (o :: rest) a w := by
  refine wpListIn_plain hgd fun K hK => ?_
  obtain ⟨a', cap', w', hr, h2, h3, h4, h5, h6⟩ := run_app2 (P := P) w base t o.type e i z size bytes ht hi hz hsize hby hzs hsz v n xs hown xv m news hsrc h1 h63 hbytes hbase
  unfold Oper.wpIn
  refine ⟨?_, ?_⟩
  · simp [Oper.about, ho, resolve, Target.leads, Sem.run_pure]
  · rw [Oper.semAt_plain F _ _ (by rw [ho]; intro c hc'; cases hc')]
    unfold execOp
    simp only [ho, resolve, invoke, builtin, Sem.run_bind, Sem.run_pure, Result.andThen_ok, List.map_toArray, List.map_cons, List.map_nil, hs, hx, hr]
    exact hK _ _ (h a' cap' w' h2 h3 h4 h5 h6)
end Go.Proofs.YtkmakliebhnhbaaGreat

/- The program's gather.Values. -/
namespace Go.Proofs.YtkmakliebhnhbaaGreat
open Go.RowKit Go.Shelf
attribute [local go_sem] Oper.semAt_some

/-- What a reducer of that number and kind makes of all. -/
def redV (evs : List Ev) (p : Nat × Int) : Val := evs.foldl (fun v e => if e.r = (p.1 : Int) then giveZ p.2 e.n v else v) val0
theorem redV_take {evs : List Ev} {p : Nat × Int} {k : Nat} {e : Ev} (h : evs[k]? = some e) : redV (evs.take (k + 1)) p = if e.r = (p.1 : Int) then giveZ p.2 e.n (redV (evs.take k) p) else redV (evs.take k) p := by
  rw [take_succ_of h, redV, List.foldl_append]; rfl
theorem redV_len (evs : List Ev) (p : Nat × Int) : (redV evs p).l.length ≤ evs.length := by
  suffices h : ∀ (evs : List Ev) (v : Val), (evs.foldl (fun v e => if e.r = (p.1 : Int) then giveZ p.2 e.n v else v) v).l.length ≤ v.l.length + evs.length by
    have := h evs val0
    simpa [redV, val0] using this
  intro evs
  induction evs with
  | nil => intro v; simp
  | cons e t ih =>
    intro v
    have := ih (if e.r = (p.1 : Int) then giveZ p.2 e.n v else v)
    have h2 : (if e.r = (p.1 : Int) then giveZ p.2 e.n v else v).l.length ≤ v.l.length + 1 := by
      split
      · exact giveZ_len _ _ _
      · omega
    simp only [List.foldl_cons, List.length_cons]
    omega
theorem redV_vals {reds : List Int} {evs : List Ev} {r : Nat} {k : Int} (hr : reds[r]? = some k) (hn : ∀ e ∈ evs, ∃ q : Nat, e.r = q) : redV evs (r, k) = valsZ reds evs r := by
  suffices h : ∀ (evs : List Ev) (V : Nat → Val), (∀ e ∈ evs, ∃ q : Nat, e.r = q) → evs.foldl (fun v e => if e.r = ((r, k).1 : Int) then giveZ (r, k).2 e.n v else v) (V r) = evs.foldl (putZ reds) V r from h evs (fun _ => val0) hn
  intro evs
  induction evs with
  | nil => intro V _; rfl
  | cons e t ih =>
    intro V h
    simp only [List.foldl_cons]
    rw [← ih (putZ reds V e) (fun e he => h e (List.mem_cons_of_mem _ he))]
    congr 1
    obtain ⟨q, hq⟩ := h e (List.mem_cons_self ..)
    unfold putZ
    rw [hq, Int.toNat_natCast]
    by_cases e1 : q = r
    · subst e1; rw [if_pos rfl, if_pos rfl, hr]; rfl
    · rw [if_neg (fun h => e1 (by exact_mod_cast h)), if_neg (fun h => e1 h.symm)]

abbrev KindW := { p : Nat × Int // 1 ≤ p.2 ∧ p.2 ≤ 5 }
def preV (evs : List Ev) (pre : List KindW) (r : Nat) : Val := match pre[r]? with
  | some x => redV evs x.1
  | none => val0

theorem own_keep {W W' : World} {row : Option Nat} {base : Nat} {e : TypeId} {size : Nat} {v : Value} {n : Nat} {xs : List Value} (h : W.ownsRow base e size v n xs) (hg : W.grownBy W' row) (hr : ∀ r, row = some r → ∃ o : Obj, W.heap[r]? = some o ∧ o.isCells = false) : W'.ownsRow base e size v n xs := by
  refine ⟨h.1, ?_⟩
  rcases h.2 with hn | ⟨g, cap, cur, rfl, hb', hgg, rest⟩
  · exact .inl hn
  · refine .inr ⟨g, cap, cur, rfl, hb', (hg.block g (Array.getElem?_eq_some_iff.1 hgg).1 (fun e => ?_)).trans hgg, rest⟩
    obtain ⟨o, ho, hc⟩ := hr g e.symm
    rw [hgg] at ho; cases ho; cases hc
theorem ownV_keep {W W' : World} {row : Option Nat} {base n : Nat} {lv : Value} {V : Nat → Val} {LV : Nat → Value} {xs : List Value} (h : OwnV W base lv n V LV xs) (hg : W.grownBy W' row) (hr : ∀ r, row = some r → ∃ o : Obj, W.heap[r]? = some o ∧ o.isCells = false) : OwnV W' base lv n V LV xs :=
  ⟨own_keep h.row hg hr, h.n0, h.n1, h.n2, fun r hr' => own_keep (h.own r hr') hg hr, h.off, h.apart⟩

/-- Between two reducers. -/
structure ValI (w : World) (Bg Bo : Nat) (gv : Value) (evs : List Ev) (pre : List KindW) (W : World) : Prop where
  out : ∃ v LV xs, Boxed W Bo 64 v ∧ OwnV W w.heap.size v pre.length (preV evs pre) LV xs ∧ v.ownBlock ≠ some Bo ∧ ∀ r, r < pre.length → (LV r).ownBlock ≠ some Bo
  giv : Boxed W Bg 65 gv
  bel : Below w.heap.size w W
theorem ValI.own {w : World} {Bg Bo B : Nat} {gv : Value} {evs : List Ev} (hB : w.heap.size ≤ B) : OwnFrom B (ValI w Bg Bo gv evs) := fun s X Y row hs hg hr => by
  obtain ⟨⟨v, LV, xs, h1, h2, h3, h4⟩, h5, h6⟩ := hs
  have hc : ∀ r, row = some r → ∃ o : Obj, X.heap[r]? = some o ∧ o.isCells = false := fun r e => (hr r e).2
  exact ⟨⟨v, LV, xs, boxed_own (β := Unit) _ _ (fun _ => _) () X Y row h1 hg hc, ownV_keep h2 hg hc, h3, h4⟩, boxed_own (β := Unit) _ _ (fun _ => _) () X Y row h5 hg hc, ownFrom_below (β := Unit) (Nat.le_refl _) hB () X Y row h6 hg hr⟩

theorem ownV_snoc {Wb wr w2 : World} {base Bo n : Nat} {v lv : Value} {V V' : Nat → Val} {LV : Nat → Value} {xs : List Value} {val : Val} {a' : Option Addr} {cap' : Nat} {o : Obj} (h : OwnV wr base v n V LV xs) (hlen : xs.length = n * 3)
    (hv : ∀ b, v.ownBlock = some b → b < Wb.heap.size) (hL : ∀ r b, r < n → (LV r).ownBlock = some b → b < Wb.heap.size) (hsz : Wb.heap.size ≤ wr.heap.size) (hlv : ∀ b, lv.ownBlock = some b → Wb.heap.size ≤ b) (hBo : Bo < Wb.heap.size) (hvo : v.ownBlock ≠ some Bo) (hLo : ∀ r, r < n → (LV r).ownBlock ≠ some Bo)
    (hown : wr.ownsRow base 2 1 lv val.l.length (ints val.l)) (ho : w2.ownsRow base 91 3 (.slice a' (n + 1) cap') (n + 1) (xs ++ [.int .i64 val.n, .bool val.is, lv])) (hg : (wr.alloc o).grownBy w2 v.ownBlock)
    (hloc : (Value.slice a' (n + 1) cap').ownBlock = v.ownBlock ∨ (Value.slice a' (n + 1) cap').ownBlock = some (wr.heap.size + 1)) (hV : ∀ r, r < n → V' r = V r) (hVn : V' n = val) :
    OwnV (w2.setCell ⟨Bo, 0, none⟩ (.slice a' (n + 1) cap')) base (.slice a' (n + 1) cap') (n + 1) V' (fun r => if r = n then lv else LV r) (xs ++ [.int .i64 val.n, .bool val.is, lv]) ∧ (Value.slice a' (n + 1) cap').ownBlock ≠ some Bo ∧ ∀ r, r < n + 1 → (if r = n then lv else LV r).ownBlock ≠ some Bo := by
  have hnew : (Value.slice a' (n + 1) cap').ownBlock ≠ some Bo := by
    rcases hloc with e | e
    · rw [e]; exact hvo
    · rw [e]; intro h; injection h with h; omega
  have old : ∀ b, b < wr.heap.size → v.ownBlock ≠ some b → b ≠ Bo → (w2.setCell ⟨Bo, 0, none⟩ (.slice a' (n + 1) cap')).heap[b]? = wr.heap[b]? := fun b hb h1 h2 => by
    rw [Below.heap_setCell _ _ _ _ h2, hg.block b (by simp; omega) (fun e => h1 e.symm), Below.heap_alloc _ _ _ hb]
  have hlvo : lv.ownBlock ≠ some Bo := fun e => by have := hlv Bo e; omega
  have hlvv : ∀ b, lv.ownBlock = some b → v.ownBlock ≠ some b := fun b hb e => by have := hlv b hb; have := hv b e; omega
  have hlvl : ∀ b, lv.ownBlock = some b → b < wr.heap.size := fun b hb => (hown.lt b hb).2
  refine ⟨⟨own_turn ho (fun b hb _ => Below.heap_setCell _ _ _ _ (fun e => hnew (by rw [hb, e]))), ?_, ?_, ?_, ?_, ?_, ?_⟩, hnew, ?_⟩
  · intro r hr
    by_cases e : r = n
    · subst e; rw [List.getElem?_append_right (by omega), hlen, Nat.sub_self, hVn]; rfl
    · rw [List.getElem?_append_left (by omega), hV r (by omega)]; exact h.n0 r (by omega)
  · intro r hr
    by_cases e : r = n
    · subst e; rw [List.getElem?_append_right (by omega), hlen, show r * 3 + 1 - r * 3 = 1 by omega, hVn]; rfl
    · rw [List.getElem?_append_left (by omega), hV r (by omega)]; exact h.n1 r (by omega)
  · intro r hr
    by_cases e : r = n
    · subst e; rw [List.getElem?_append_right (by omega), hlen, show r * 3 + 2 - r * 3 = 2 by omega, if_pos rfl]; rfl
    · rw [List.getElem?_append_left (by omega), if_neg e]; exact h.n2 r (by omega)
  · intro r hr
    by_cases e : r = n
    · subst e; rw [if_pos rfl, hVn]; exact own_turn hown (fun b hb hlt => old b hlt (hlvv b hb) (fun e => hlvo (by rw [hb, e])))
    · rw [if_neg e, hV r (by omega)]
      exact own_turn (h.own r (by omega)) (fun b hb hlt => old b hlt (h.off r (by omega) b hb) (fun e => hLo r (by omega) (by rw [hb, e])))
  · intro r hr b hb
    by_cases e : r = n
    · rw [if_pos e] at hb
      rcases hloc with e2 | e2
      · rw [e2]; exact hlvv b hb
      · rw [e2]; intro h'; injection h' with h'; have := hlvl b hb; omega
    · rw [if_neg e] at hb
      rcases hloc with e2 | e2
      · rw [e2]; exact h.off r (by omega) b hb
      · rw [e2]; intro h'; injection h' with h'; have := hL r b (by omega) hb; omega
  · intro r s hr hs hne b hb
    by_cases e : r = n
    · rw [if_pos e] at hb
      rw [if_neg (by omega)]
      intro e2; have := hlv b hb; have := hL s b (by omega) e2; omega
    · rw [if_neg e] at hb
      by_cases e' : s = n
      · rw [if_pos e']; intro e2; have := hlv b e2; have := hL r b (by omega) hb; omega
      · rw [if_neg e']; exact h.apart r s (by omega) (by omega) hne b hb
  · intro r hr
    by_cases e : r = n
    · rw [if_pos e]; exact hlvo
    · rw [if_neg e]; exact hLo r (by omega)
end Go.Proofs.YtkmakliebhnhbaaGreat
