import Derived.Test.YtkmakliebhnhbaaMachN
import Derived.Test.YtkmakliebhnhbaaSaid
import Derived.Test.YtkmakliebhnhbaaFrA
/- The document's second example, by the plain machine. -/
namespace Go.Proofs.Ytkmakliebhnhbaa
open Go.RowKit

def fsK : List (List Ins) := [[⟨3, 1, 0, 1, 0⟩, ⟨1, 0, 0, 2, 0⟩, ⟨5, 0, 0, 0, 0⟩, ⟨1, 0, 0, 3, 0⟩], [⟨1, 0, 0, 0, 1⟩]]
def redsK : List Int := [4]
def scriptK : List (Int × Int) := [(0, 0), (1, 0), (1, 0), (1, 0), (0, 0), (0, 0), (1, 0), (1, 0)]

theorem fsK_check : check fsK redsK = (0, 0) := by decide
theorem fsK_wf : FsWf fsK := by
  intro l hl i hi
  simp only [fsK, List.mem_cons, List.not_mem_nil, or_false] at hl
  rcases hl with rfl | rfl
  · simp only [List.mem_cons, List.not_mem_nil, or_false] at hi
    rcases hi with rfl | rfl | rfl | rfl <;> (unfold Ins.wf i64; simp)
  · simp only [List.mem_cons, List.not_mem_nil, or_false] at hi
    subst hi
    unfold Ins.wf i64; simp
def Rs.over : Rs → Bool
  | .done => true
  | _ => false
theorem fsK_ends : Ends fsK 2 scriptK 0 0 12 := by
  refine ⟨rfl, fun j hj e => ?_⟩
  have h : (List.range 12).all (fun j => !(rsAt fsK 2 scriptK 0 0 j).over) = true := by decide
  have h1 := List.all_eq_true.1 h j (List.mem_range.2 hj)
  rw [e] at h1
  cases h1
theorem fsK_tr : trAt fsK 2 scriptK 0 0 12 = [⟨1, 0, 2⟩, ⟨0, 0, 1⟩, ⟨0, 0, 3⟩] := by kernel_rfl
theorem fsK_st : stealsAt fsK 2 scriptK 0 0 12 = 1 := by rfl
theorem fsK_fa : failsAt fsK 2 scriptK 0 0 12 = 4 := by rfl
theorem fsK_fr : framesC fsK = 2 := by rfl
theorem fsK_va : valsZ redsK (traceZ fsK 0 0) 0 = ⟨0, true, [1, 2, 3]⟩ := by kernel_rfl
end Go.Proofs.Ytkmakliebhnhbaa

/- Drawn: two programs and what they give. -/
namespace Go.Proofs.Ytkmakliebhnhbaa
open Go.RowKit

def fsA (k : Int) : List (List Ins) := [[⟨2, 0, 0, k, 0⟩, ⟨3, 1, 0, 0, 0⟩, ⟨2, 0, 0, k, 0⟩, ⟨5, 0, 0, 0, 0⟩, ⟨2, 0, 0, k, 0⟩], [⟨2, 0, 0, k, 0⟩]]
def fsB (k : Int) : List (List Ins) := [[⟨2, 0, 0, k, 0⟩, ⟨1, 0, 0, 5, 0⟩, ⟨4, 1, 0, 0, 0⟩, ⟨1, 0, 0, 0, 1⟩, ⟨2, 0, 0, k, 0⟩, ⟨5, 0, 0, 0, 0⟩, ⟨2, 0, 0, k, 0⟩], [⟨2, 0, 0, k, 0⟩]]

theorem fsA_frames (k : Int) : framesC (fsA k) = 2 := by rfl
theorem fsB_frames (k : Int) : framesC (fsB k) = 2 := by rfl
theorem fsA_check {k : Int} (h : 0 < k) : check (fsA k) redsK = (0, 0) := by
  have h1 : firstBad (badR redsK) redsK.length = none := by decide
  have h2 : firstBad (badF (fsA k) redsK.length) (fsA k).length = none := firstBad_none fun j hj => by
    match j, hj with
    | 0, _ => simp [badF, fsA, mayB, redsK]; omega
    | 1, _ => simp [badF, fsA, mayB, redsK]; omega
  unfold check
  rw [h1, h2, fsA_frames]
  rfl
theorem fsB_check {k : Int} (h : 0 < k) : check (fsB k) redsK = (0, 0) := by
  have h1 : firstBad (badR redsK) redsK.length = none := by decide
  have h2 : firstBad (badF (fsB k) redsK.length) (fsB k).length = none := firstBad_none fun j hj => by
    match j, hj with
    | 0, _ => simp [badF, fsB, mayB, redsK]; omega
    | 1, _ => simp [badF, fsB, mayB, redsK]; omega
  unfold check
  rw [h1, h2, fsB_frames]
  rfl
theorem fsA_wf {k : Int} (h : i64 k) : FsWf (fsA k) := by
  intro l hl i hi
  unfold i64 at h
  simp only [fsA, List.mem_cons, List.not_mem_nil, or_false] at hl
  rcases hl with rfl | rfl
  · simp only [List.mem_cons, List.not_mem_nil, or_false] at hi
    rcases hi with rfl | rfl | rfl | rfl | rfl <;> (unfold Ins.wf i64; simp; try exact h)
  · simp only [List.mem_cons, List.not_mem_nil, or_false] at hi
    subst hi
    unfold Ins.wf i64; simp; exact h
theorem fsB_wf {k : Int} (h : i64 k) : FsWf (fsB k) := by
  intro l hl i hi
  unfold i64 at h
  simp only [fsB, List.mem_cons, List.not_mem_nil, or_false] at hl
  rcases hl with rfl | rfl
  · simp only [List.mem_cons, List.not_mem_nil, or_false] at hi
    rcases hi with rfl | rfl | rfl | rfl | rfl | rfl | rfl <;> (unfold Ins.wf i64; simp; try exact h)
  · simp only [List.mem_cons, List.not_mem_nil, or_false] at hi
    subst hi
    unfold Ins.wf i64; simp; exact h
theorem fsA_tr (k seed x : Int) : traceZ (fsA k) seed x = [⟨0, 0, drawnZ seed 0 k⟩, ⟨0, 0, drawnZ (stepZ seed 1) 0 k⟩, ⟨0, 0, drawnZ seed 2 k⟩, ⟨0, 0, drawnZ seed 4 k⟩] := by
  simp [traceZ, ser, serL, oneZ, rankZ, fsA]
theorem wrap_of {z : Int} (h : i64 z) : wrap64 z = z := by unfold wrap64; unfold i64 at h; omega
theorem fsB_tr (k seed x : Int) (h : i64 x) : traceZ (fsB k) seed x = [⟨0, 0, drawnZ seed 0 k⟩, ⟨0, 0, 5⟩, ⟨0, 0, drawnZ (stepZ seed 1) 0 k⟩, ⟨0, 0, x⟩, ⟨0, 0, drawnZ seed 2 k⟩, ⟨0, 0, drawnZ seed 4 k⟩] := by
  have h1 : wrap64 x = x := wrap_of h
  have h2 : wrap64 0 = 0 := wrap_of (by unfold i64; omega)
  have h3 : wrap64 5 = 5 := wrap_of (by unfold i64; omega)
  simp [traceZ, ser, serL, oneZ, rankZ, fsB, numZ, h1, h2, h3]

theorem xor_u64 (a b : Int) : u64 (bits BinOp.xor IntKind.u64 a b) := by
  unfold bits
  exact u64_wrap _
theorem drawnZ_lt {h r k : Int} (k0 : 0 < k) (k1 : k < 9223372036854775808) : 0 ≤ drawnZ h r k ∧ drawnZ h r k < k := by
  unfold drawnZ
  obtain ⟨z, hz⟩ : ∃ z, mixC (mixB (mixA (stepZ h r))) = z := ⟨_, rfl⟩
  have hu : u64 z := by rw [← hz]; unfold mixC; exact xor_u64 _ _
  rw [hz]
  have h1 := Int.tmod_lt_of_pos z k0
  have h2 : 0 ≤ z.tmod k := Int.tmod_nonneg _ hu.1
  rw [wrap_of (by unfold i64; omega)]
  exact ⟨h2, h1⟩
end Go.Proofs.Ytkmakliebhnhbaa
