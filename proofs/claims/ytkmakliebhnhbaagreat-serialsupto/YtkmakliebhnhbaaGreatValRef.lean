import Derived.Deep.RegionHeld3
import Derived.Deep.DrawnRows
import Derived.Test.YtkmakliebhnhbaaGreatRows
import Derived.Test.YtkmakliebhnhbaaGreatVals
namespace Go.Proofs.YtkmakliebhnhbaaGreat
open Go.RowKit

theorem Tryz.infoVal : (Tryz.prog.info? 91).map (fun i => (i.zero, i.size, i.bytes)) = some (some (.agg #[.int .i64 0, .bool false, .slice none 0 0]), 3, 40) := by kernel_rfl
theorem Tryz.infoInt64 : (Tryz.prog.info? 2).map (fun i => (i.zero, i.size, i.bytes)) = some (some (.int .i64 0), 1, 8) := by kernel_rfl

set_option maxRecDepth 100000 in
set_option maxHeartbeats 1000000 in
theorem values_ref (reds : List Int) (evs : List Ev) (S : Nat → Prop) (vr ve : Value) (w : World) (hnr : reds.length ≤ 4) (hne : evs.length ≤ 100000000)
    (hR : RdL S w 1 int64s vr reds) (hE : RdL S w 3 Ev.vals ve evs) (hr : ∀ e ∈ evs, ∃ r : Nat, e.r = r ∧ r < reds.length) :
    Calls Tryz.prog 24 #[vr, ve] w fun e w' => ∃ LV, e = .returned (.slice (some ⟨w.heap.size, 0, none⟩) reds.length reds.length) ∧
      Gath w' w.heap.size w.heap.size reds.length 2 (valsZ reds evs) LV ∧ Below w.heap.size w w' := by
  have HR := hide hR
  have HE := hide hE
  obtain ⟨ra, rcap, rfl, hrc, hrm⟩ := hR.form
  obtain ⟨ea, ecap, rfl, hec, hem⟩ := hE.form
  obtain ⟨iv, hiv, hv0, hv1, hv2⟩ := info_parts Tryz.infoVal
  obtain ⟨il, hil, hl0, hl1, hl2⟩ := info_parts Tryz.infoInt64
  obtain ⟨nr, hNR⟩ : ∃ nr, reds.length = nr := ⟨_, rfl⟩
  obtain ⟨ne, hNE⟩ : ∃ ne, evs.length = ne := ⟨_, rfl⟩
  have HRR := hide hr
  have HNR := hide hNR
  have HNE := hide hNE
  rw [hNR] at hrc hnr ⊢
  rw [hNE] at hec hne
  rw [hNR] at HR
  rw [hNE] at HE
  rw [hNE]
  unfold maxLen at hrm hem
  clear hR hE hNR hNE hr
  go_enter Tryz.func24, Tryz.ntmps24
  go_wp2_with (at_make; refine wpList_make_full _ rfl _ _ 64 rfl w.heap.size 91 iv _ 3 Tryz.underlying64 hiv hv0 hv1 _ _ _ _ nr rfl rfl rfl rfl (by rw [hv2]; omega) (by unfold maxLen; omega) (Nat.le_refl _) ?_)
  intro w1 hown hgrow
  obtain ⟨g, hg⟩ : ∃ g, g = w.heap.size := ⟨_, rfl⟩
  have hB1 := hide ((Below.refl _ w).grown hgrow (Nat.le_refl _) (by simp))
  have hG1 : Hid (Gath w1 w.heap.size g nr 2 (valsZ reds []) (fun _ => .slice none 0 0)) := by
    subst hg
    obtain ⟨hl3, hh⟩ := hown
    have hlt : w.heap.size < w1.heap.size := by
      rcases hh with ⟨hv, _⟩ | ⟨g, c, cur, hv, _, hgg, _⟩
      · cases hv
      · cases hv; exact (Array.getElem?_eq_some_iff.1 hgg).1
    have hcell : ∀ j, j < nr * 3 → w1.cell? ⟨w.heap.size, j, none⟩ = (madeCells (Value.agg #[.int .i64 0, .bool false, .slice none 0 0]).cells (nr * 3)).toList[j]? := fun j hj => World.ownsRow.cellAt ⟨hl3, hh⟩ j hj
    have hval : ∀ r j (u : Value), r < nr → j < 3 → [Value.int .i64 0, .bool false, .slice none 0 0][j]? = some u → w1.cell? ⟨w.heap.size, r * 3 + j, none⟩ = some u := by
      intro r j u hr hj hu
      rw [hcell _ (by omega)]
      simp only [madeCells, Value.cells]
      have hmod : (r * 3 + j) % 3 = j := by omega
      have : r * 3 + j < nr * 3 := by omega
      simp [this, hmod]
      match j, hj, hu with
      | 0, _, hu => simpa using hu
      | 1, _, hu => simpa using hu
      | 2, _, hu => simpa using hu
    refine ⟨hlt, fun r hr => hval r 0 _ hr (by omega) rfl, fun r hr => hval r 1 _ hr (by omega) rfl, fun r hr => hval r 2 _ hr (by omega) rfl, fun j => World.ownsRow.frozenAt ⟨hl3, hh⟩ j, fun r hr => World.ownsRow_nil _ _ _ _, fun r hr => by simp [Value.ownBlock], fun r s b _ _ _ hb => by simp [Value.ownBlock] at hb⟩
  rw [← hg]
  have HG := hide hg
  clear hown hgrow hg hiv hv0 hv1 hv2
  go_wp2
  go_loopw [6] (fun i wr => (∃ k : Nat, k ≤ ne ∧ i = .int .i64 k ∧ ∃ LV, Gath wr w.heap.size g nr 2 (valsZ reds (evs.take k)) LV) ∧ Below w.heap.size w wr)
    (fun i _ => ne - (intOf i).toNat)
  case atStart => exact ⟨⟨0, Nat.zero_le _, rfl, _, by simpa using hG1.out⟩, hB1.out⟩
  case round =>
    obtain ⟨⟨k, hk, rfl, LV, hGk⟩, hBk⟩ := hrel
    have HGk := hide hGk
    have HBk := hide hBk
    have hsz := hBk.size
    by_cases hlt : k < ne
    · have hlti : (k : Int) < ne := by omega
      obtain ⟨e, he⟩ : ∃ e, evs[k]? = some e := ⟨evs[k]'(by have := HNE.out; omega), by simp⟩
      obtain ⟨b, off, rfl, _, hce⟩ := HE.out.at he
      have e1 := hce 1 _ rfl
      have e2 := hce 2 _ rfl
      have hbe := block_lt_of_cell e1
      simp only at hbe
      have q1 := (hBk.cell (p := ⟨b, off + k * 3 + 1, none⟩) hbe).trans e1
      have q2 := (hBk.cell (p := ⟨b, off + k * 3 + 2, none⟩) hbe).trans e2
      obtain ⟨r, hrE, hrn⟩ := HRR.out e (List.mem_of_getElem? he)
      rw [hrE] at q1
      have hrn' : r < nr := by have := HNR.out; omega
      have hri : (r : Int) < nr := by omega
      obtain ⟨kd, hkd⟩ : ∃ kd, reds[r]? = some kd := ⟨reds[r]'hrn, by simp⟩
      obtain ⟨b2, o2, rfl, _, hce2⟩ := HR.out.at hkd
      have e3 := hce2 0 _ rfl
      have hbr := block_lt_of_cell e3
      simp only [Nat.mul_one, Nat.add_zero] at hbr e3
      have q3 := (hBk.cell (p := ⟨b2, o2 + r, none⟩) hbr).trans e3
      have hbe' : b < wr.heap.size := Nat.lt_of_lt_of_le hbe hsz
      have hbr' : b2 < wr.heap.size := Nat.lt_of_lt_of_le hbr hsz
      have HVT := hide (valsZ_take (reds := reds) he)
      have hlen := valsZ_len reds (evs.take k) r
      rw [List.length_take] at hlen
      obtain ⟨V, hV⟩ : ∃ V, valsZ reds (evs.take k) = V := ⟨_, rfl⟩
      rw [hV] at HVT HGk hGk hlen
      have g0 := hGk.n r hrn'
      have g1 := hGk.is r hrn'
      have g2 := hGk.l r hrn'
      have f0 := hGk.fz (r * 3)
      have f1 := hGk.fz (r * 3 + 1)
      have f2 := hGk.fz (r * 3 + 2)
      have hglt := hGk.lt
      have HOWN := hide (hGk.own r hrn')
      obtain ⟨ln, lcap, hLV⟩ := own_form HOWN.out
      rw [hLV] at g2
      have HLV := hide hLV
      have HHE := hide he
      have HKD := hide hkd
      have HrE := hide hrE
      obtain ⟨ll, hll⟩ : ∃ ll, (V r).l = ll := ⟨_, rfl⟩
      rw [hll] at g2 hlen
      have HLL := hide hll
      obtain ⟨vn, hvn⟩ : ∃ vn, (V r).n = vn := ⟨_, rfl⟩
      obtain ⟨vi, hvi⟩ : ∃ vi, (V r).is = vi := ⟨_, rfl⟩
      rw [hvn] at g0
      rw [hvi] at g1
      have HVN := hide hvn
      have HVI := hide hvi
      have hlen' : ll.length ≤ 100000000 := by omega
      obtain ⟨x, hx⟩ : ∃ x, e.n = x := ⟨_, rfl⟩
      rw [hx] at q2
      have HXX := hide hx
      clear hce e1 e2 he hGk hBk hce2 e3 hkd hV hLV hrE hrn hbe hbr hll hvn hvi hlen hx
      have HPZ : Hid (∀ s, s ≠ r → putZ reds V e s = V s) := by
        intro s hs
        unfold putZ
        rw [if_neg (by rw [HrE.out]; simpa using hs)]
      have HPR : Hid (putZ reds V e r = giveZ kd x (V r)) := by
        unfold Hid putZ
        rw [if_pos (by rw [HrE.out]; simp), HKD.out, HXX.out]; rfl
      have hgb := HG.out
      have HBg : Hid (w.heap.size ≤ g) := by unfold Hid; omega
      clear hgb
      by_cases k1 : kd = 1
      · subst k1
        have HZ : Hid (giveZ 1 x (V r) = ⟨wrap64 (vn + x), true, (V r).l⟩) := by
          unfold Hid; simp [giveZ, HVN.out, *]
        go_wp2
        go_roundw
        case rel =>
          refine ⟨⟨k + 1, by omega, by go_num, _, by rw [HVT.out]; exact HGk.out.putSame hrn' _ HPZ.out (by rw [HLV.out, HLL.out]) (by rw [HPR.out, HZ.out]) (by rw [HPR.out, HZ.out]) (by rw [HPR.out, HZ.out])⟩, ?_⟩
          exact (((HBk.out.setCell (p := ⟨g, _, none⟩) HBg.out _).setCell (p := ⟨g, _, none⟩) HBg.out _).setCell (p := ⟨g, _, none⟩) HBg.out _).alloc (by simpa [World.setCell] using hsz) _
        case measure => simp [intOf]; omega
      by_cases k2 : kd = 2
      · subst k2
        cases vi with
        | false =>
          have HZ : Hid (giveZ 2 x (V r) = ⟨x, true, (V r).l⟩) := by
            unfold Hid; simp [giveZ, HVN.out, HVI.out, *]
          go_wp2
          go_roundw
          case rel =>
            refine ⟨⟨k + 1, by omega, by go_num, _, by rw [HVT.out]; exact HGk.out.putSame hrn' _ HPZ.out (by rw [HLV.out, HLL.out]) (by rw [HPR.out, HZ.out]) (by rw [HPR.out, HZ.out]) (by rw [HPR.out, HZ.out])⟩, ?_⟩
            exact (((HBk.out.setCell (p := ⟨g, _, none⟩) HBg.out _).setCell (p := ⟨g, _, none⟩) HBg.out _).setCell (p := ⟨g, _, none⟩) HBg.out _).alloc (by simpa [World.setCell] using hsz) _
          case measure => simp [intOf]; omega
        | true =>
          by_cases hx : vn < x
          · have HZ : Hid (giveZ 2 x (V r) = ⟨x, true, (V r).l⟩) := by
              unfold Hid; simp [giveZ, HVN.out, HVI.out, *]
            go_wp2
            go_roundw
            case rel =>
              refine ⟨⟨k + 1, by omega, by go_num, _, by rw [HVT.out]; exact HGk.out.putSame hrn' _ HPZ.out (by rw [HLV.out, HLL.out]) (by rw [HPR.out, HZ.out]) (by rw [HPR.out, HZ.out]) (by rw [HPR.out, HZ.out])⟩, ?_⟩
              exact (((HBk.out.setCell (p := ⟨g, _, none⟩) HBg.out _).setCell (p := ⟨g, _, none⟩) HBg.out _).setCell (p := ⟨g, _, none⟩) HBg.out _).alloc (by simpa [World.setCell] using hsz) _
            case measure => simp [intOf]; omega
          · have HZ : Hid (giveZ 2 x (V r) = ⟨vn, true, (V r).l⟩) := by
              unfold Hid; simp [giveZ, HVN.out, HVI.out, *]
            go_wp2
            go_roundw
            case rel =>
              refine ⟨⟨k + 1, by omega, by go_num, _, by rw [HVT.out]; exact HGk.out.putSame hrn' _ HPZ.out (by rw [HLV.out, HLL.out]) (by rw [HPR.out, HZ.out]) (by rw [HPR.out, HZ.out]) (by rw [HPR.out, HZ.out])⟩, ?_⟩
              exact (((HBk.out.setCell (p := ⟨g, _, none⟩) HBg.out _).setCell (p := ⟨g, _, none⟩) HBg.out _).setCell (p := ⟨g, _, none⟩) HBg.out _).alloc (by simpa [World.setCell] using hsz) _
            case measure => simp [intOf]; omega
      by_cases k3 : kd = 3
      · subst k3
        cases vi with
        | false =>
          have HZ : Hid (giveZ 3 x (V r) = ⟨x, true, (V r).l⟩) := by
            unfold Hid; simp [giveZ, HVN.out, HVI.out, *]
          go_wp2
          go_roundw
          case rel =>
            refine ⟨⟨k + 1, by omega, by go_num, _, by rw [HVT.out]; exact HGk.out.putSame hrn' _ HPZ.out (by rw [HLV.out, HLL.out]) (by rw [HPR.out, HZ.out]) (by rw [HPR.out, HZ.out]) (by rw [HPR.out, HZ.out])⟩, ?_⟩
            exact (((HBk.out.setCell (p := ⟨g, _, none⟩) HBg.out _).setCell (p := ⟨g, _, none⟩) HBg.out _).setCell (p := ⟨g, _, none⟩) HBg.out _).alloc (by simpa [World.setCell] using hsz) _
          case measure => simp [intOf]; omega
        | true =>
          by_cases hx : x < vn
          · have HZ : Hid (giveZ 3 x (V r) = ⟨x, true, (V r).l⟩) := by
              unfold Hid; simp [giveZ, HVN.out, HVI.out, *]
            go_wp2
            go_roundw
            case rel =>
              refine ⟨⟨k + 1, by omega, by go_num, _, by rw [HVT.out]; exact HGk.out.putSame hrn' _ HPZ.out (by rw [HLV.out, HLL.out]) (by rw [HPR.out, HZ.out]) (by rw [HPR.out, HZ.out]) (by rw [HPR.out, HZ.out])⟩, ?_⟩
              exact (((HBk.out.setCell (p := ⟨g, _, none⟩) HBg.out _).setCell (p := ⟨g, _, none⟩) HBg.out _).setCell (p := ⟨g, _, none⟩) HBg.out _).alloc (by simpa [World.setCell] using hsz) _
            case measure => simp [intOf]; omega
          · have HZ : Hid (giveZ 3 x (V r) = ⟨vn, true, (V r).l⟩) := by
              unfold Hid; simp [giveZ, HVN.out, HVI.out, *]
            go_wp2
            go_roundw
            case rel =>
              refine ⟨⟨k + 1, by omega, by go_num, _, by rw [HVT.out]; exact HGk.out.putSame hrn' _ HPZ.out (by rw [HLV.out, HLL.out]) (by rw [HPR.out, HZ.out]) (by rw [HPR.out, HZ.out]) (by rw [HPR.out, HZ.out])⟩, ?_⟩
              exact (((HBk.out.setCell (p := ⟨g, _, none⟩) HBg.out _).setCell (p := ⟨g, _, none⟩) HBg.out _).setCell (p := ⟨g, _, none⟩) HBg.out _).alloc (by simpa [World.setCell] using hsz) _
            case measure => simp [intOf]; omega
      by_cases k4 : kd = 4
      · subst k4
        have HZ : Hid (giveZ 4 x (V r) = ⟨vn, true, ll ++ [x]⟩) := by
          unfold Hid; simp [giveZ, HVN.out, HLL.out]
        have HOW2 : Hid (wr.ownsRow w.heap.size 2 1 (.slice ln ll.length lcap) ll.length (ints ll)) := by
          unfold Hid; rw [← HLL.out, ← HLV.out]; exact HOWN.out
        go_wp2_with (at_builtin; refine wpList_app _ rfl _ _ 87 rfl w.heap.size 2 il _ 1 8 Tryz.underlying87 hil hl0 hl1 hl2 rfl (by decide) _ _ _ rfl ((HOW2.out.alloc _).alloc _) (.slice (some ⟨wr.heap.size + 1, 0, none⟩) 1 1) 1 [_] rfl (cells1 _ _ _ _ (by simp)) ?h1 ?h63 ?hbytes ?hbase ?_)
        case h1 => simp [Value.oneCell']
        case h63 => unfold maxLen; omega
        case hbytes => omega
        case hbase => simp; omega
        intro a' cap' w2 ho hg _ hlie
        have hrow : ∀ k, (Value.slice ln ll.length lcap).ownBlock = some k → k < wr.heap.size := fun k hk => (HOW2.out.lt k hk).2
        have hvb : some wr.heap.size ≠ (Value.slice ln ll.length lcap).ownBlock := by intro e; have := hrow _ e.symm; omega
        have hgo : some g ≠ (Value.slice ln ll.length lcap).ownBlock := by rw [← HLL.out, ← HLV.out]; exact fun e => HGk.out.off r hrn' e.symm
        have v0 : w2.cell? ⟨wr.heap.size, 0, none⟩ = some (.int .i64 vn) := by rw [hg.cell_far ⟨wr.heap.size, 0, none⟩ (by simp; omega) hvb]; simp [go_sem]
        have v1 : w2.cell? ⟨wr.heap.size, 1, none⟩ = some (.bool vi) := by rw [hg.cell_far ⟨wr.heap.size, 1, none⟩ (by simp; omega) hvb]; simp [go_sem]
        have v2 : w2.cell? ⟨wr.heap.size, 2, none⟩ = some (.slice ln ll.length lcap) := by rw [hg.cell_far ⟨wr.heap.size, 2, none⟩ (by simp; omega) hvb]; simp [go_sem]
        have vf : ∀ j, w2.frozen? ⟨wr.heap.size, j, none⟩ = false := by intro j; rw [hg.frozen_far ⟨wr.heap.size, j, none⟩ (by simp; omega) hvb]; simp [go_sem]
        have vf1 := vf 1
        have vf2 := vf 2
        have hgc : ∀ j, w2.cell? ⟨g, j, none⟩ = wr.cell? ⟨g, j, none⟩ := by intro j; rw [hg.cell_far ⟨g, j, none⟩ (by simp; omega) hgo]; simp [go_sem, hglt]
        have hgf : ∀ j, w2.frozen? ⟨g, j, none⟩ = false := by intro j; rw [hg.frozen_far ⟨g, j, none⟩ (by simp; omega) hgo]; simp [go_sem, hglt]; exact HGk.out.fz j
        have u0 := (hgc (r * 3)).trans g0
        have u1 := (hgc (r * 3 + 1)).trans g1
        have u2 := (hgc (r * 3 + 2)).trans g2
        have uf0 := hgf (r * 3)
        have uf1 := hgf (r * 3 + 1)
        have uf2 := hgf (r * 3 + 2)
        have hs2 : wr.heap.size + 2 ≤ w2.heap.size := by have := hg.size; simp at this; omega
        have HO2 := hide ho
        have HG2 := hide hg
        have HLIE := hide hlie
        have HGO := hide hgo
        have hgv : ¬ g = wr.heap.size := by omega
        have hgv' : ¬ wr.heap.size = g := by omega
        clear ho hg hlie vf hgc hgf g0 g1 g2 f0 f1 f2 q1 q2 q3 hvb hgo hrow
        go_wp2
        go_roundw
        case rel =>
          refine ⟨⟨k + 1, by omega, by go_num, _, by rw [HVT.out]; exact HGk.out.putApp hrn' rfl rfl HPZ.out (by rw [HPR.out, HZ.out]) (by rw [HPR.out, HZ.out]) (by rw [HLV.out, HLL.out]; exact HG2.out) (by rw [HPR.out, HZ.out]; simpa [ints] using HO2.out) (by rw [HLV.out, HLL.out]; exact HLIE.out)⟩, ?_⟩
          have hB2 : Below w.heap.size w w2 := ((HBk.out.alloc hsz _).alloc (by simp; omega) _).grown HG2.out (by simp; omega) (fun q hq => (HOW2.out.lt q hq).1)
          exact ((((hB2.setCell (p := ⟨wr.heap.size, _, none⟩) hsz _).setCell (p := ⟨wr.heap.size, _, none⟩) hsz _).setCell (p := ⟨g, _, none⟩) HBg.out _).setCell (p := ⟨g, _, none⟩) HBg.out _).setCell (p := ⟨g, _, none⟩) HBg.out _
        case measure => simp [intOf]; omega
      · have HZ : Hid (giveZ kd x (V r) = ⟨x, true, (V r).l⟩) := by
          unfold Hid; simp [giveZ, k1, k2, k3, k4]
        have p1 : (kd == 1) = false := by simpa using k1
        have p2 : (kd == 2) = false := by simpa using k2
        have p3 : (kd == 3) = false := by simpa using k3
        have p4 : (kd == 4) = false := by simpa using k4
        clear k1 k2 k3 k4
        go_wp2
        go_roundw
        case rel =>
          refine ⟨⟨k + 1, by omega, by go_num, _, by rw [HVT.out]; exact HGk.out.putSame hrn' _ HPZ.out (by rw [HLV.out, HLL.out]) (by rw [HPR.out, HZ.out]) (by rw [HPR.out, HZ.out]) (by rw [HPR.out, HZ.out])⟩, ?_⟩
          exact (((HBk.out.setCell (p := ⟨g, _, none⟩) HBg.out _).setCell (p := ⟨g, _, none⟩) HBg.out _).setCell (p := ⟨g, _, none⟩) HBg.out _).alloc (by simpa [World.setCell] using hsz) _
        case measure => simp [intOf]; omega
    · obtain rfl : ne = k := by omega
      have e1 : evs.take ne = evs := by rw [← HNE.out, List.take_length]
      rw [e1] at HGk
      clear e1 hGk hBk
      go_wp2
      go_ret
      refine ⟨LV, by rw [HG.out]; rfl, by rw [← HG.out]; rw [HG.out] at HGk ⊢; exact HGk.out, HBk.out⟩
end Go.Proofs.YtkmakliebhnhbaaGreat
