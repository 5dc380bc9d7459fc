import Derived.Test.YtkmakliebhnhbaaGreatRowC
namespace Go.Proofs.YtkmakliebhnhbaaGreat
open Go.RowKit Go.Deep Go.WideShapes

section
variable {H : Type} {en : TypeId × Value → H} {w : World} {base : Nat} {spare : Nat → Bool} {held : Bool}

/-- An Op's eight cells, read. -/
def GoodOp (w : World) (a : List Value) (d : DataW H) (o : OpZ) : Prop := 8 ≤ Rows.uptoBulk d ∧ ∃ vF vR vS, a = [.int .i64 o.kind, .int .i64 o.at_, vF, vR, .int .u64 o.seed, .int .i64 o.x, .int .i64 o.wk, vS] ∧ (∃ sa sn sc, vS = .slice sa sn sc) ∧ RdF (fun _ => True) w vF o.fs ∧ RdL (fun _ => True) w 1 int64s vR o.reds ∧
  i64 o.kind ∧ i64 o.at_ ∧ u64 o.seed ∧ i64 o.x ∧ FsWf o.fs ∧ (∀ r ∈ o.reds, i64 r) ∧ o.fs.length ≤ Rows.uptoBulk d ∧ o.reds.length ≤ Rows.uptoBulk d ∧ ∀ l ∈ o.fs, l.length ≤ Rows.uptoBulk d

set_option maxRecDepth 100000 in
theorem dec_op : ∀ n cs' (y : DataW H × List MemPlace), cs'.length = 8 → DataW.trod en Tryz.prog w base spare held n 33 cs' = some y → ∃ a, cs' = id a ∧ (fun (a : List Value) (d : DataW H) => ∃ o, GoodOp w a d o) a y.1 := by
  intro n cs' y hl h
  obtain ⟨xs, m, _, hy, _, hx, hf⟩ := DataW.trod_struct Tryz.underlying33 h
  match xs, hx, cs', hl with
  | [y0, y1, y2, y3, y4, y5, y6, y7], _, [v0, v1, v2, v3, v4, v5, v6, v7], _ =>
    have g0 := hf 0 _ rfl
    have g1 := hf 1 _ rfl
    have g2 := hf 2 _ rfl
    have g3 := hf 3 _ rfl
    have g4 := hf 4 _ rfl
    have g5 := hf 5 _ rfl
    have g6 := hf 6 _ rfl
    have g7 := hf 7 _ rfl
    simp [cells_int, cells_int64, cells_uint64, cells_llins, cells_lint, cells_lpick] at g0 g1 g2 g3 g4 g5 g6 g7
    obtain ⟨a0, e0, _, w0⟩ := DataW.trod_int Tryz.underlying3 g0
    obtain ⟨a1, e1, _, w1⟩ := DataW.trod_int Tryz.underlying3 g1
    obtain ⟨vF, fs, e2, hF, hw, hf1, hf2⟩ := open_funcs _ _ _ g2
    obtain ⟨vR, rs, e3, hR, hri, hr1⟩ := open_ints _ _ _ g3
    obtain ⟨a4, e4, _, w4⟩ := DataW.trod_int Tryz.underlying31 g4
    obtain ⟨a5, e5, _, w5⟩ := DataW.trod_int Tryz.underlying2 g5
    obtain ⟨a6, e6, _, w6⟩ := DataW.trod_int Tryz.underlying3 g6
    have hS : ∃ sa sn sc, v7 = .slice sa sn sc := by
      rcases open_slice Tryz.underlying28 g7 with ⟨e, _⟩ | ⟨a, len, cap, _, _, _, _, e, _⟩
      · cases e; exact ⟨_, _, _, rfl⟩
      · cases e; exact ⟨_, _, _, rfl⟩
    cases e0
    cases e1
    cases e2
    cases e3
    cases e4
    cases e5
    cases e6
    have b0 := bulk_one y0.1
    have b1 := bulk_one y1.1
    have b2 := bulk_one y2.1
    have b3 := bulk_one y3.1
    have b4 := bulk_one y4.1
    have b5 := bulk_one y5.1
    have b6 := bulk_one y6.1
    have b7 := bulk_one y7.1
    have hb : Rows.uptoBulk y.1 = Rows.uptoBulk y0.1 + (Rows.uptoBulk y1.1 + (Rows.uptoBulk y2.1 + (Rows.uptoBulk y3.1 + (Rows.uptoBulk y4.1 + (Rows.uptoBulk y5.1 + (Rows.uptoBulk y6.1 + (Rows.uptoBulk y7.1 + 0))))))) + 1 := by
      rw [hy]; simp only [List.map_cons, List.map_nil, Rows.uptoBulk, Rows.uptoBulkAll]
    refine ⟨_, rfl, ⟨a0, a1, fs, rs, a4, a5, a6⟩, by omega, _, _, v7, rfl, hS, hF, hR, wf_i64 w0, wf_i64 w1, wf_u64 w4, wf_i64 w5, hw, hri, by simp only; omega, by simp only; omega, fun l hl => ?_⟩
    have := hf2 l hl
    omega

/-- THE SCRIPT, READ. -/
theorem open_ops (n : Nat) (cs : List Value) (y : DataW H × List MemPlace) (h : DataW.trod en Tryz.prog w base spare held n 22 cs = some y) (hb : Rows.uptoBulk y.1 ≤ 1048576) :
    ∃ v l, cs = [v] ∧ RdOps (fun _ => True) w v l ∧ (∀ o ∈ l, o.ok) ∧ l.length ≤ 1000000 := by
  obtain ⟨v, us, hv, hl, hh⟩ := open_rd (good := fun (a : List Value) (d : DataW H) => ∃ o, GoodOp w a d o) (enc := id) Tryz.underlying22 cells_op (by omega) dec_op h
  obtain ⟨a, cap, rfl, h1, h2, h3⟩ := hl
  rcases hh with ⟨_, rfl⟩ | ⟨ds, sp, e, hlen, hk⟩
  · exact ⟨_, [], hv, ⟨a, cap, rfl, by simp, h2, fun k o hk => by simp at hk⟩, by simp, by simp⟩
  rw [e] at hb
  simp only [Rows.uptoBulk] at hb
  haveI : Inhabited OpZ := ⟨⟨0, 0, [], [], 0, 0, 0⟩⟩
  have each : ∀ k, k < us.length → ∃ o : OpZ, ∃ d, ds[k]? = some d ∧ ∀ u, us[k]? = some u → GoodOp w u d o := by
    intro k hk'
    obtain ⟨d, hd, o, ho⟩ := hk k us[k] (List.getElem?_eq_getElem hk')
    refine ⟨o, d, hd, fun u hu => ?_⟩
    rw [List.getElem?_eq_getElem hk'] at hu
    cases hu
    exact ho
  have h8 : 8 * ds.length ≤ Rows.uptoBulkAll ds := bulk_len 8 ds (fun d hd => by
    obtain ⟨k, hk'⟩ := List.getElem?_of_mem hd
    have hk2 : k < us.length := by have := (List.getElem?_eq_some_iff.1 hk').1; omega
    obtain ⟨o, d', hd', ho⟩ := each k hk2
    rw [hk'] at hd'
    cases hd'
    exact (ho _ (List.getElem?_eq_getElem hk2)).1)
  obtain ⟨f, hf⟩ := choose_lt each
  refine ⟨_, (List.range us.length).map f, hv, ⟨a, cap, by simp, by simpa using h1, h2, fun k o hko => ?_⟩, fun o ho => ?_, by simp; omega⟩
  · have hk2 : k < us.length := by have := (List.getElem?_eq_some_iff.1 hko).1; simpa using this
    rw [List.getElem?_map, List.getElem?_range hk2] at hko
    simp at hko
    subst hko
    obtain ⟨d, hd, ho⟩ := hf k hk2
    obtain ⟨_, vF, vR, vS, hu, hS, hF, hR, _⟩ := ho _ (List.getElem?_eq_getElem hk2)
    rcases h3 with ⟨h3, _⟩ | ⟨b, off, ha, _, hc⟩
    · subst h3; simp at hk2
    have hcell : ∀ j u, (us[k])[j]? = some u → w.cell? ⟨b, off + k * 8 + j, none⟩ = some u := fun j u hj => hc k us[k] (List.getElem?_eq_getElem hk2) j u hj
    rw [hu] at hcell
    exact ⟨b, off, vF, vR, vS, ha, hcell 0 _ rfl, hcell 1 _ rfl, hcell 2 _ rfl, hcell 3 _ rfl, hcell 4 _ rfl, hcell 5 _ rfl, hcell 6 _ rfl, hcell 7 _ rfl, hS, hF, hR⟩
  · obtain ⟨k, hk', rfl⟩ := List.mem_map.1 ho
    have hk2 := List.mem_range.1 hk'
    obtain ⟨d, hd, ho⟩ := hf k hk2
    obtain ⟨_, vF, vR, vS, _, _, _, _, q1, q2, q3, q4, q5, q6, q7, q8, q9⟩ := ho _ (List.getElem?_eq_getElem hk2)
    have hbd := bulk_at ds k d hd
    exact ⟨q1, q2, q3, q4, q5, ⟨by omega, by omega, fun l hl => by have := q9 l hl; omega⟩, q6⟩
end
end Go.Proofs.YtkmakliebhnhbaaGreat
