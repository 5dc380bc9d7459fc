import Derived.Deep.QuietTactic
import Derived.BigQuiet
import Derived.Deep.RegionHeld3
import Derived.Test.YtkmakliebhnhbaaRows
import Derived.Test.YtkmakliebhnhbaaSer
namespace Go.Proofs.Ytkmakliebhnhbaa
open Go.RowKit

theorem Try.infoInt : (Try.prog.info? 3).map (fun i => (i.zero, i.size, i.bytes)) = some (some (.int .i64 0), 1, 8) := by kernel_rfl

/-- A program whose instructions may be. -/
def FsOk (fs : List (List Ins)) (nr : Nat) : Prop := ∀ (f : Nat) (l : List Ins), fs[f]? = some l → ∀ i ∈ l, mayB fs.length nr f i = true ∧ i.wf

theorem fold_addC {C : Nat → Nat} {l : List Ins} {k : Nat} {i : Ins} (hi : l[k]? = some i) : (l.take (k + 1)).foldl (addC C) 1 = addC C ((l.take k).foldl (addC C) 1) i := by
  rw [take_succ_of hi, List.foldl_append]; rfl

section
variable {C : Nat → Nat} {l : List Ins} {k g n f : Nat} {i : Ins} {W : World}
theorem arr_A {c d : Nat} {o : Obj} (hA : Arr W g n (fun x => if x = f then (l.take k).foldl (addC C) 1 else C x)) (hi : l[k]? = some i) (hc : (l.take k).foldl (addC C) 1 = c) (hb : begins i = true) (hd : C i.f.toNat = d) (h : 300 < (c : Int) + d) :
    Arr (((W.setCell ⟨g, f, none⟩ (.int .i64 (↑c + ↑d))).setCell ⟨g, f, none⟩ (.int .i64 301)).alloc o).drew g n (fun x => if x = f then (l.take (k + 1)).foldl (addC C) 1 else C x) := by
  refine Arr.drew (Arr.alloc (Arr.set (C := fun x => if x = f then c + d else C x) (Arr.set hA (by simp) (by intro x hx; simp [hx])) ?_ (by intro x hx; simp [hx])) o)
  rw [if_pos rfl, fold_addC hi, addC, hb, hc, hd, capN, if_pos rfl, if_pos (by omega)]
  rfl
theorem arr_B {c d : Nat} {o : Obj} (hA : Arr W g n (fun x => if x = f then (l.take k).foldl (addC C) 1 else C x)) (hi : l[k]? = some i) (hc : (l.take k).foldl (addC C) 1 = c) (hb : begins i = true) (hd : C i.f.toNat = d) (h : (c : Int) + d ≤ 300) :
    Arr ((W.setCell ⟨g, f, none⟩ (.int .i64 (↑c + ↑d))).alloc o).drew g n (fun x => if x = f then (l.take (k + 1)).foldl (addC C) 1 else C x) := by
  refine Arr.drew (Arr.alloc (Arr.set hA ?_ (by intro x hx; simp [hx])) o)
  rw [if_pos rfl, fold_addC hi, addC, hb, hc, hd, capN, if_pos rfl, if_neg (by omega)]
  omega
theorem arr_C {c : Nat} {o : Obj} (hA : Arr W g n (fun x => if x = f then (l.take k).foldl (addC C) 1 else C x)) (hi : l[k]? = some i) (hc : (l.take k).foldl (addC C) 1 = c) (hb : begins i = false) (h : 300 < (c : Int)) :
    Arr ((W.setCell ⟨g, f, none⟩ (.int .i64 301)).alloc o) g n (fun x => if x = f then (l.take (k + 1)).foldl (addC C) 1 else C x) := by
  refine Arr.alloc (Arr.set hA ?_ (by intro x hx; simp [hx])) o
  rw [if_pos rfl, fold_addC hi, addC, hb, hc]
  simp only [Bool.false_eq_true, if_false]
  unfold capN
  rw [if_pos (by omega)]
  rfl
theorem cntsC_step {fs : List (List Ins)} {n f : Nat} {l : List Ins} {W : World} {g : Nat} (hn : fs.length = n) (hf : f < n) (hl : fs[f]? = some l) (hA : Arr W g n (fun x => if x = f then (l.take l.length).foldl (addC (cntsC fs (n - 1 - f))) 1 else cntsC fs (n - 1 - f) x)) :
    Arr W g n (cntsC fs (n - 1 - f + 1)) := by
  refine hA.ext fun x => ?_
  show (if x = fs.length - 1 - (n - 1 - f) then _ else _) = _
  rw [hn, show n - 1 - (n - 1 - f) = f by omega, hl, List.take_length]
  rfl
theorem arr_D {c : Nat} {o : Obj} (hA : Arr W g n (fun x => if x = f then (l.take k).foldl (addC C) 1 else C x)) (hi : l[k]? = some i) (hc : (l.take k).foldl (addC C) 1 = c) (hb : begins i = false) (h : (c : Int) ≤ 300) :
    Arr (W.alloc o) g n (fun x => if x = f then (l.take (k + 1)).foldl (addC C) 1 else C x) := by
  refine Arr.alloc (hA.ext ?_) o
  intro x
  by_cases e : x = f
  · simp only [e, if_true]
    rw [fold_addC hi, addC, hb, hc]
    simp only [Bool.false_eq_true, if_false]
    unfold capN
    rw [if_neg (by omega)]
  · simp [e]
end

end Go.Proofs.Ytkmakliebhnhbaa
