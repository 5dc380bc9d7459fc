import Derived.WalkKit
import Derived.ProofKit
import Derived.OpenShut
import Derived.Test.YtkmakliebhnhbaaRows
import Derived.Test.YtkmakliebhnhbaaDrB
import Derived.Test.YtkmakliebhnhbaaDrC
/- Drawn: the row. -/
namespace Go.Proofs.Ytkmakliebhnhbaa
open Go.ChangeShapes Go.WideShapes Go.ChangeAt Go.RowKit

theorem drawn_own : ownKnob Try.prog.godebug = none := by kernel_rfl

theorem drawn_i64 {n : Int} (h : (Lit.int .i64 n).wf = true) : i64 n := by
  have h1 : (decide (IntKind.i64.min ≤ n) && decide (n ≤ IntKind.i64.max)) = true := h
  rw [Bool.and_eq_true, decide_eq_true_eq, decide_eq_true_eq] at h1
  exact h1
theorem drawn_u64 {n : Int} (h : (Lit.int .u64 n).wf = true) : u64 n := by
  have h1 : (decide (IntKind.u64.min ≤ n) && decide (n ≤ IntKind.u64.max)) = true := h
  rw [Bool.and_eq_true, decide_eq_true_eq, decide_eq_true_eq] at h1
  have h2 : IntKind.u64.max = 18446744073709551615 := by kernel_rfl
  have h3 : IntKind.u64.min = 0 := by kernel_rfl
  rw [h2, h3] at h1
  unfold u64
  omega

theorem drawn_walk (a0 a1 a2 : Int) (w0 : (Lit.int .u64 a0).wf = true) (w1 : (Lit.int .i64 a1).wf = true) (w2 : (Lit.int .i64 a2).wf = true) (w : World) :
    Calls Try.prog 4 #[.int .u64 a0, .int .i64 a1, .int .i64 a2] w fun e w' => e = .returned (.bool true) ∧ Below w.heap.size w w' := by
  have h0 := drawn_u64 w0
  have h1 := drawn_i64 w1
  have h2 := drawn_i64 w2
  by_cases hz : a1 < 1
  · unfold i64 at h1
    have hn : (-a1).tmod 1000 = -(a1.tmod 1000) := Int.neg_tmod _ _
    have hb1 := Int.tmod_lt_of_pos (-a1) (b := 1000) (by omega)
    have hb2 : 0 ≤ (-a1).tmod 1000 := Int.tmod_nonneg _ (by omega)
    exact drawn_neg a0 a1 (1 - a1.tmod 1000) a2 w h0 hz (wrap_of (by unfold i64; omega)) (by omega) (by omega) h2
  · exact drawn_pos a0 a1 a2 w h0 (by omega) (by unfold i64 at h1; omega) h2

set_option maxRecDepth 100000 in
theorem drawn_lifted (os : Os) (started : os.Started) (H : Type) (enc : TypeId × Value → H) :
    ReturnsInHanded {} Try.checked os 4 .any (Rows.drawnSpec.pre6 enc Try.prog Try.f4 Rows.drawnRow.domain false) (Rows.drawnSpec.post enc Try.prog Try.f4 false true false false) := by
  refine returnsInHanded_of_change (C := Try.checked) drawn_own started (by kernel_rfl) Try.func4
    (ChangeSpec.witness6 (enc := enc) (C := Try.checked) false ⟨#[], #[.int .u64 0, .int .i64 0, .int .i64 0], []⟩ 8 (by kernel_rfl) (by kernel_rfl) (by kernel_rfl) (by kernel_rfl)) ?_
  intro W base args ds gs before hval0 hW hcnd _
  have hval : ∀ (j : Nat) t v, Try.f4.params[j]? = some t → args[j]? = some v → Value.okWide Try.prog W .any base t v := hval0
  have hW' := hW
  obtain ⟨p, q, hA0, hV, rfl, hfz, hnd⟩ := hW
  have hA : DataW.TrodAll enc Try.prog W 0 (fun _ => true) true Try.f4.params.toList args.toList ds p := hA0
  rw [Try.params4] at hA hval
  obtain ⟨v0, vs0, d0, ds0, p0, q0, hargs, rfl, rfl, h0, r0⟩ := trodAll_cons hA
  obtain ⟨v1, vs1, d1, ds1, p1, q1, rfl, rfl, rfl, h1, r1⟩ := trodAll_cons r0
  obtain ⟨v2, vs2, d2, ds2, p2, q2, rfl, rfl, rfl, h2, r2⟩ := trodAll_cons r1
  obtain ⟨rfl, rfl, rfl⟩ := trodAll_nil r2
  obtain rfl : args = #[v0, v1, v2] := by cases args; simp_all
  obtain ⟨rfl, rfl⟩ := trodVars_none hV
  obtain ⟨a0, rfl, rfl, rfl, w0⟩ := open_int Try.underlying27 (hval 0 27 v0 rfl rfl) h0
  obtain ⟨a1, rfl, rfl, rfl, w1⟩ := open_int Try.underlying2 (hval 1 2 v1 rfl rfl) h1
  obtain ⟨a2, rfl, rfl, rfl, w2⟩ := open_int Try.underlying2 (hval 2 2 v2 rfl rfl) h2
  clear hA0 hval0 hfz hnd hcnd
  simp only [List.append_nil] at hW'
  refine (drawn_walk a0 a1 a2 w0 w1 w2 W).mono fun e W' ⟨he, hg⟩ => ?_
  subst he
  exact ⟨_, rfl, _, [], [], [], [], [], hW', trodAll_cons_mk (shut_bool Try.underlying4 _) trodAll_mk0, trodAll_cons_mk (shut_int Try.underlying27 w0) (trodAll_cons_mk (shut_int Try.underlying2 w1) (trodAll_cons_mk (shut_int Try.underlying2 w2) trodAll_mk0)), rfl, hg.frame _, fun h => by cases h⟩

theorem drawn_over : Rows.drawnRow.holds Try.pinned (OpenSpec.ofChange Rows.drawnSpec) :=
  OpenClaim.holds_of_wide 4 Try.f4 rfl rfl rfl rfl rfl rfl rfl ⟨rfl, rfl, rfl, rfl, rfl⟩ rfl rfl rfl rfl rfl (by kernel_rfl) Try.func4 (by kernel_rfl)
    (of_decide_eq_true (by kernel_rfl)) (by unfold Func.isWrapper; first | (rw [if_pos (by decide +kernel)]; kernel_rfl) | (rw [if_neg (by decide +kernel)]; exact ⟨rfl, rfl⟩))
    (fun os started H enc _ => drawn_lifted os started H enc)

/-- The statement. -/
theorem drawn_proved : Rows.DrawnSaid :=
  drawn_over
#print axioms drawn_proved
end Go.Proofs.Ytkmakliebhnhbaa
