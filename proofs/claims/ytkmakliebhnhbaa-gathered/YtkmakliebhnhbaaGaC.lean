import Derived.Deep.QuietTactic
import Derived.BigQuiet
import Derived.Test.YtkmakliebhnhbaaSaid
import Derived.Test.YtkmakliebhnhbaaPlK
/- Gathered, plainly: a reducer's value out of what it was given. -/
namespace Go.Proofs.Ytkmakliebhnhbaa
open Go.RowKit

def fz (kind : Int) (l : List Int) : Val := l.foldl (fun v n => giveZ kind n v) val0
def sumZ (l : List Int) : Int := l.foldl (fun s n => wrap64 (s + n)) 0
/-- What reducer r was given. -/
def givenZ (evs : List Ev) (r : Nat) : List Int := (evs.filter (fun e => e.r == (r : Int))).map Ev.n

theorem valsZ_given (reds : List Int) (r : Nat) : ∀ (evs : List Ev) (V : Nat → Val), (∀ e ∈ evs, 0 ≤ e.r) → (evs.foldl (putZ reds) V) r = (givenZ evs r).foldl (fun v n => giveZ (reds[r]?.getD 0) n v) (V r)
  | [], V, _ => rfl
  | e :: t, V, h => by
    have he := h e (List.mem_cons_self ..)
    rw [List.foldl_cons, valsZ_given reds r t _ (fun x hx => h x (List.mem_cons_of_mem _ hx))]
    unfold givenZ putZ
    by_cases hr : r = e.r.toNat
    · have hb : (e.r == (r : Int)) = true := by simp; omega
      rw [List.filter_cons_of_pos (p := fun e : Ev => e.r == (r : Int)) hb, List.map_cons, List.foldl_cons, if_pos hr]
    · have hb : ¬ (e.r == (r : Int)) = true := by simp; omega
      rw [List.filter_cons_of_neg (p := fun e : Ev => e.r == (r : Int)) hb, if_neg hr]
theorem valsZ_fz {reds : List Int} {evs : List Ev} (h : ∀ e ∈ evs, 0 ≤ e.r) {r : Nat} {kind : Int} (hk : reds[r]? = some kind) : valsZ reds evs r = fz kind (givenZ evs r) := by
  unfold valsZ fz
  rw [valsZ_given reds r evs _ h, hk]
  rfl

theorem fz_snoc (kind : Int) (l : List Int) (n : Int) : fz kind (l ++ [n]) = giveZ kind n (fz kind l) := by
  unfold fz
  rw [List.foldl_append]
  rfl
theorem rev_ind {p : List Int → Prop} (h0 : p []) (h1 : ∀ l n, p l → p (l ++ [n])) (l : List Int) : p l := by
  have : ∀ l : List Int, p l.reverse := fun l => by
    induction l with
    | nil => exact h0
    | cons x t ih => rw [List.reverse_cons]; exact h1 _ _ ih
  have := this l.reverse
  rwa [List.reverse_reverse] at this

theorem fz_is (kind : Int) (l : List Int) : (fz kind l).is = decide (0 < l.length) := by
  refine rev_ind (p := fun l => (fz kind l).is = decide (0 < l.length)) rfl (fun l n _ => ?_) l
  rw [fz_snoc]
  unfold giveZ
  repeat' split
  all_goals simp
theorem fz_list (l : List Int) : (fz 4 l).l = l ∧ (fz 4 l).n = 0 := by
  refine rev_ind (p := fun l => (fz 4 l).l = l ∧ (fz 4 l).n = 0) ⟨rfl, rfl⟩ (fun l n h => ?_) l
  rw [fz_snoc]
  simp [giveZ, h.1, h.2]
theorem fz_none {kind : Int} (hk : kind ≠ 4) (l : List Int) : (fz kind l).l = [] := by
  refine rev_ind (p := fun l => (fz kind l).l = []) rfl (fun l n h => ?_) l
  rw [fz_snoc]
  unfold giveZ
  repeat' split
  all_goals first | exact h | contradiction
theorem fz_sum (l : List Int) : (fz 1 l).n = sumZ l := by
  refine rev_ind (p := fun l => (fz 1 l).n = sumZ l) rfl (fun l n h => ?_) l
  rw [fz_snoc]
  unfold sumZ at *
  rw [List.foldl_append]
  simp [giveZ, h]
theorem fz_last (l : List Int) (n : Int) : (fz 5 (l ++ [n])).n = n := by
  rw [fz_snoc]
  simp [giveZ]
theorem fz_most (l : List Int) : (∀ x ∈ l, ¬ (fz 2 l).n < x) ∧ (0 < l.length → (fz 2 l).n ∈ l) := by
  refine rev_ind (p := fun l => (∀ x ∈ l, ¬ (fz 2 l).n < x) ∧ (0 < l.length → (fz 2 l).n ∈ l)) ⟨by simp, by simp⟩ (fun l n h => ?_) l
  have hi := fz_is 2 l
  rw [fz_snoc]
  simp only [giveZ, Int.reduceEq, if_false, if_true]
  by_cases hc : (fz 2 l).is = false ∨ (fz 2 l).n < n
  · rw [if_pos hc]
    refine ⟨fun x hx => ?_, fun _ => by simp⟩
    rcases List.mem_append.1 hx with hx | hx
    · rcases hc with hc | hc
      · rw [hi] at hc
        have : 0 < l.length := List.length_pos_of_mem hx
        rw [decide_eq_false_iff_not] at hc
        exact absurd this hc
      · have := h.1 x hx
        omega
    · simp at hx
      omega
  · rw [if_neg hc]
    have hc1 : ¬ (fz 2 l).is = false := fun h => hc (.inl h)
    have hc2 : ¬ (fz 2 l).n < n := fun h => hc (.inr h)
    have hl : 0 < l.length := by
      rw [hi, decide_eq_false_iff_not] at hc1
      omega
    refine ⟨fun x hx => ?_, fun _ => List.mem_append_left _ (h.2 hl)⟩
    rcases List.mem_append.1 hx with hx | hx
    · exact h.1 x hx
    · simp at hx
      omega
theorem fz_least (l : List Int) : (∀ x ∈ l, ¬ x < (fz 3 l).n) ∧ (0 < l.length → (fz 3 l).n ∈ l) := by
  refine rev_ind (p := fun l => (∀ x ∈ l, ¬ x < (fz 3 l).n) ∧ (0 < l.length → (fz 3 l).n ∈ l)) ⟨by simp, by simp⟩ (fun l n h => ?_) l
  have hi := fz_is 3 l
  rw [fz_snoc]
  simp only [giveZ, Int.reduceEq, if_false, if_true]
  by_cases hc : (fz 3 l).is = false ∨ n < (fz 3 l).n
  · rw [if_pos hc]
    refine ⟨fun x hx => ?_, fun _ => by simp⟩
    rcases List.mem_append.1 hx with hx | hx
    · rcases hc with hc | hc
      · rw [hi] at hc
        have : 0 < l.length := List.length_pos_of_mem hx
        rw [decide_eq_false_iff_not] at hc
        exact absurd this hc
      · have := h.1 x hx
        omega
    · simp at hx
      omega
  · rw [if_neg hc]
    have hc1 : ¬ (fz 3 l).is = false := fun h => hc (.inl h)
    have hc2 : ¬ n < (fz 3 l).n := fun h => hc (.inr h)
    have hl : 0 < l.length := by
      rw [hi, decide_eq_false_iff_not] at hc1
      omega
    refine ⟨fun x hx => ?_, fun _ => List.mem_append_left _ (h.2 hl)⟩
    rcases List.mem_append.1 hx with hx | hx
    · exact h.1 x hx
    · simp at hx
      omega
theorem sumZ_i64 (l : List Int) : i64 (sumZ l) := by
  refine rev_ind (p := fun l => i64 (sumZ l)) (by unfold i64 sumZ; simp) (fun l n _ => ?_) l
  unfold sumZ
  rw [List.foldl_append]
  simp only [List.foldl_cons, List.foldl_nil]
  unfold wrap64 i64
  omega
end Go.Proofs.Ytkmakliebhnhbaa

/- Gathered: gathered walked. -/
namespace Go.Proofs.Ytkmakliebhnhbaa
open Go.RowKit Go.Shelf

theorem box3 {W : World} {b : Nat} {t : TypeId} {v0 v1 v2 : Value} (h : W.heap[b]? = some (.cells #[v0, v1, v2] t (0, 0))) : W.cell? ⟨b, 0, none⟩ = some v0 ∧ W.cell? ⟨b, 1, none⟩ = some v1 ∧ W.cell? ⟨b, 2, none⟩ = some v2 :=
  ⟨cell_blk h rfl, cell_blk h rfl, cell_blk h rfl⟩
theorem ints_at {S : Nat → Prop} {W : World} {a : Option Addr} {n c : Nat} {l : List Int} (h : RdL S W 1 int64s (.slice a n c) l) {k : Nat} {x : Int} (hk : l[k]? = some x) : ∃ b off, a = some ⟨b, off, none⟩ ∧ b < W.heap.size ∧ W.cell? ⟨b, off + k, none⟩ = some (.int .i64 x) := by
  obtain ⟨b, off, ha, _, hc⟩ := h.at hk
  have h0 := hc 0 _ rfl
  have hl := block_lt_of_cell h0
  simp only [Nat.mul_one, Nat.add_zero] at h0 hl
  exact ⟨b, off, ha, hl, h0⟩
theorem ints_len {S : Nat → Prop} {W : World} {a : Option Addr} {n c : Nat} {l : List Int} (h : RdL S W 1 int64s (.slice a n c) l) : l.length = n ∧ n ≤ 9223372036854775807 := by
  obtain ⟨a', c', he, h1, h2⟩ := h.form
  injection he with e1 e2 e3
  unfold maxLen at h2
  omega

set_option maxHeartbeats 4000000 in
set_option maxRecDepth 100000 in
theorem gathered_list (l : List Int) (is : Bool) (S S' : Nat → Prop) (la ga : Option Addr) (n lc gc : Nat) (w : World) (hl : RdL S w 1 int64s (.slice la n lc) l) (hg : RdL S' w 1 int64s (.slice ga n gc) l) :
    Calls Try.prog 13 #[.int .i64 4, .agg #[.int .i64 0, .bool is, .slice la n lc], .slice ga n gc] w fun e w' => e = .returned (.bool true) ∧ Below w.heap.size w w' := by
  obtain ⟨hn, hn64⟩ := ints_len hl
  have HL := hide hl
  have HG := hide hg
  have HN := hide hn
  have HB := hide ((Below.refl _ w).alloc (Nat.le_refl _) (.cells #[.int .i64 0, .bool is, .slice la n lc] 44))
  have HX := hide (heap_new w (.cells #[.int .i64 0, .bool is, .slice la n lc] 44))
  obtain ⟨c0, c1, c2⟩ := box3 HX.out
  clear hl hg hn
  go_enter Try.func13, Try.ntmps13
  go_wp2
  clear c0 c1 c2
  generalize w.alloc (.cells #[.int .i64 0, .bool is, .slice la n lc] 44) = W1 at HB HX ⊢
  go_loopw [7] (fun i wr => ∃ k : Nat, k ≤ n ∧ i = .int .i64 k ∧ wr.heap[w.heap.size]? = W1.heap[w.heap.size]? ∧ Below w.heap.size w wr) (fun i _ => n - (intOf i).toNat)
  case atStart => exact ⟨0, by omega, rfl, rfl, HB.out⟩
  case round =>
    obtain ⟨k, hk, rfl, hx, hbl⟩ := hrel
    obtain ⟨c0, c1, c2⟩ := box3 (hx.trans HX.out)
    by_cases hlt : k < n
    · have hki : (k : Int) < n := by omega
      obtain ⟨x, hxx⟩ : ∃ x, l[k]? = some x := ⟨_, List.getElem?_eq_getElem (by have := HN.out; omega)⟩
      obtain ⟨b1, o1, rfl, m1, e1⟩ := ints_at HL.out hxx
      obtain ⟨b2, o2, rfl, m2, e2⟩ := ints_at HG.out hxx
      have p1 := (hbl.cell (p := ⟨b1, o1 + k, none⟩) m1).trans e1
      have p2 := (hbl.cell (p := ⟨b2, o2 + k, none⟩) m2).trans e2
      have tx : (x != x) = false := by simp
      have HBL := hide hbl
      have HXX := hide hx
      clear hbl hx e1 e2 hxx
      go_wp2
      go_quiet (fail)
      go_wp2
      go_roundw
      case rel => exact ⟨k + 1, by omega, by go_num, HXX.out, below_drewN HBL.out _⟩
      case measure => simp [intOf]; omega
    · have hki : ¬ (k : Int) < n := by omega
      have HBL := hide hbl
      clear hbl hx
      go_wp2
      go_ret
      exact ⟨rfl, HBL.out⟩

set_option maxHeartbeats 4000000 in
set_option maxRecDepth 100000 in
theorem gathered_none (kind : Int) (hk : kind = 1 ∨ kind = 2 ∨ kind = 3 ∨ kind = 5) (is : Bool) (la ga : Option Addr) (ln lc gc : Nat) (w : World) :
    Calls Try.prog 13 #[.int .i64 kind, .agg #[.int .i64 0, .bool is, .slice la ln lc], .slice ga 0 gc] w fun e w' => e = .returned (.bool true) ∧ Below w.heap.size w w' := by
  have HB := hide ((Below.refl _ w).alloc (Nat.le_refl _) (.cells #[.int .i64 0, .bool is, .slice la ln lc] 44))
  obtain ⟨c0, c1, c2⟩ := box3 (heap_new w (.cells #[.int .i64 0, .bool is, .slice la ln lc] 44))
  rcases hk with rfl | rfl | rfl | rfl
  all_goals
    go_enter Try.func13, Try.ntmps13
    go_wp2
    go_ret
    exact ⟨rfl, HB.out⟩
end Go.Proofs.Ytkmakliebhnhbaa

/- Gathered: gathered walked, of some numbers, by no list. (Written by wip/gengab.py.) -/
namespace Go.Proofs.Ytkmakliebhnhbaa
open Go.RowKit Go.Shelf

theorem sumZ_take {l : List Int} {k : Nat} {x : Int} (h : l[k]? = some x) : sumZ (l.take (k + 1)) = wrap64 (sumZ (l.take k) + x) := by
  rw [take_succ_of h]
  unfold sumZ
  rw [List.foldl_append]
  rfl
theorem any_take {l : List Int} {k : Nat} {x n : Int} (h : l[k]? = some x) : (l.take (k + 1)).any (· == n) = ((l.take k).any (· == n) || (x == n)) := by
  rw [take_succ_of h]
  simp
end Go.Proofs.Ytkmakliebhnhbaa
