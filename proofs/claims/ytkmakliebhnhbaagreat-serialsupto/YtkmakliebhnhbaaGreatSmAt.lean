import Derived.Test.YtkmakliebhnhbaaGreatPlays
namespace Go.Proofs.YtkmakliebhnhbaaGreat
open Go.RowKit

/-- A program of the World's, where it lies. -/
theorem Sm.look {D : Dev} {w W : World} {Bw k : Nat} {S : Nat → Prop} {pv rv nv ev vv : Value} {pu ru nu eu vu : List Value} (h : Sm D w W Bw k S pv rv nv ev vv pu ru nu eu vu) :
    ∃ pb pc rb rc, pv = .slice (some ⟨pb, 0, none⟩) pu.length pc ∧ rv = .slice (some ⟨rb, 0, none⟩) pu.length rc ∧ pu.length ≤ pc ∧ pu.length ≤ rc ∧ pc ≤ maxLen ∧ rc ≤ maxLen ∧ pb < W.heap.size ∧ rb < W.heap.size ∧
      ∀ i, i < pu.length → ∃ p r, pu[i]? = some p ∧ ru[i]? = some r ∧ W.cell? ⟨pb, i, none⟩ = some p ∧ W.cell? ⟨rb, i, none⟩ = some r := by
  have h1 := h.one
  have h2 := h.same
  rcases h.bk.op.2 with ⟨hv, h0⟩ | ⟨g, cap, cur, hv, hb, hg, hn, hm, hc, ht⟩
  · omega
  rcases h.bk.or.2 with ⟨hv', h0⟩ | ⟨g', cap', cur', hv', hb', hg', hn', hm', hc', ht'⟩
  · omega
  refine ⟨g, cap, g', cap', hv, by rw [h2]; exact hv', hn, by omega, hm, hm', (h.bk.op.lt g (by rw [hv]; rfl)).2, (h.bk.or.lt g' (by rw [hv']; rfl)).2, fun i hi => ⟨pu[i], ru[i]'(by omega), List.getElem?_eq_getElem hi, List.getElem?_eq_getElem (by omega), ?_, ?_⟩⟩
  · have := h.bk.op
    rw [hv] at this
    rw [World.ownsRow.cellAt this _ (by omega)]
    exact List.getElem?_eq_getElem hi
  · have := h.bk.or
    rw [hv'] at this
    rw [World.ownsRow.cellAt this _ (by omega)]
    exact List.getElem?_eq_getElem (by omega)

/-- A step that runs a program through by one alone. -/
theorem Sm.doSerial {D : Dev} (hSer : SerialSaid D) {w W : World} {Bw k : Nat} {S : Nat → Prop} {pv rv nv ev vv : Value} {pu ru nu eu vu : List Value} (h : Sm D w W Bw k S pv rv nv ev vv pu ru nu eu vu) (hk : k ≤ 2000000) (i : Nat) (p r : Value) (hp : pu[i]? = some p) (hr : ru[i]? = some r)
    (kind at_ seed x wk : Int) (vF vR vS : Value) (ha : ∃ a n c, vF = .slice a n c) (hb : ∃ a n c, vR = .slice a n c) (hc : ∃ a n c, vS = .slice a n c) (hsd : u64 seed) (hx : i64 x) :
    Calls Tryz.prog 8 #[.pointer (some ⟨Bw, 0, none⟩), p, r, .agg #[.int .i64 kind, .int .i64 at_, vF, vR, .int .u64 seed, .int .i64 x, .int .i64 wk, vS]] W fun e W' => e = .returned (.bool true) ∧
      ∃ S2 nv2 ev2 vv2 nu2 eu2 vu2, Sm D w W' Bw (k + 1) S2 pv rv nv2 ev2 vv2 pu ru nu2 eu2 vu2 ∧ Frm (fun q => q = Bw ∨ nv.ownBlock = some q ∨ ev.ownBlock = some q ∨ vv.ownBlock = some q) W W' := by
  obtain ⟨fs, reds, h1, h2, h3, h4⟩ := h.prog i p r hp hr
  obtain ⟨_, _, hr4, _, _⟩ := check_ok h2 h1
  have l1 := h.ln
  have l2 := h.le
  have l3 := h.lv
  refine (lawSerial_any D hSer w.heap.size Bw S pv rv nv ev vv p r pu ru nu eu vu fs reds W kind at_ seed x wk vF vR vS ha hb hc hsd hx (by omega) (by omega) (by omega) h.bk h3 h4 h1 h2).mono ?_
  rintro e W' ⟨S2, nv2, ev2, vv2, nu2, eu2, vu2, rfl, hB, hf, hs, n1, n2, n3⟩
  exact ⟨rfl, S2, nv2, ev2, vv2, nu2, eu2, vu2, h.serial hB hf hs hr4 n1 n2 n3, hf⟩

/-- A step that makes a program. -/
theorem Sm.doMade {D : Dev} (hNew : NewSaid D) {w W : World} {Bw k : Nat} {S S0 : Nat → Prop} {pv rv nv ev vv vF vR : Value} {pu ru nu eu vu : List Value} {fs : List (List Ins)} {reds : List Int} (h : Sm D w W Bw k S pv rv nv ev vv pu ru nu eu vu) (hk : k ≤ 2000000)
    (hF : RdF S0 W vF fs) (hR : RdL S0 W 1 int64s vR reds) (hw : FsWf fs) (hsm : Small fs reds) (hri : ∀ r ∈ reds, i64 r) :
    Calls Tryz.prog 7 #[.pointer (some ⟨Bw, 0, none⟩), vF, vR] W fun e W' => e = .returned (.bool true) ∧
      ∃ S2 pv2 rv2 pu2 ru2, Sm D w W' Bw (k + 1) S2 pv2 rv2 nv ev vv pu2 ru2 nu eu vu := by
  have l1 := h.lp
  have l2 := h.same
  refine (made_any D hNew w.heap.size Bw S S0 pv rv nv ev vv vF vR pu ru nu eu vu fs reds W hF hR hw hsm hri (by omega) (by omega) h.bk).mono ?_
  rintro e W' ⟨rfl, ⟨_, _, hb⟩ | ⟨hc, p, r, pv2, rv2, S2, hB, hP, hR, hf, hs⟩⟩
  · exact ⟨rfl, S, pv, rv, pu, ru, (h.step hb).next⟩
  · exact ⟨rfl, S2, pv2, rv2, _, _, h.made hB hf hs hw hc hP hR⟩

/-- The look behind a step. -/
theorem Sm.doStill {D : Dev} {w W : World} {Bw k : Nat} {S : Nat → Prop} {pv rv nv ev vv : Value} {pu ru nu eu vu : List Value} (h : Sm D w W Bw k S pv rv nv ev vv pu ru nu eu vu) (hk : k ≤ 2000000) :
    Calls Tryz.prog 12 #[.pointer (some ⟨Bw, 0, none⟩)] W fun e W' => e = .returned (.bool true) ∧ Sm D w W' Bw k S pv rv nv ev vv pu ru nu eu vu := by
  have l1 := h.ln
  have l2 := h.le
  have l3 := h.lv
  refine (still_any w.heap.size Bw S pv rv nv ev vv pu ru nu eu vu W (by omega) (by omega) (by omega) h.bk).mono ?_
  rintro e W' ⟨rfl, hb⟩
  exact ⟨rfl, h.step hb⟩
end Go.Proofs.YtkmakliebhnhbaaGreat
