import Derived.Test.YtkmakliebhnhbaaGreatBook
import Derived.Test.YtkmakliebhnhbaaGreatLawW
namespace Go.Proofs.YtkmakliebhnhbaaGreat
open Go.RowKit

theorem Tryz.infoL64 : (Tryz.prog.info? 87).map (fun i => (i.zero, i.size, i.bytes)) = some (some (.slice none 0 0), 1, 24) := by kernel_rfl
theorem Tryz.infoI64' : (Tryz.prog.info? 2).map (fun i => (i.zero, i.size, i.bytes)) = some (some (.int .i64 0), 1, 8) := by kernel_rfl

def repN (mk : Int) (j : Nat) : List Value := List.replicate j (.int .i64 mk)
theorem repN_take (mk : Int) : ∀ j m, j ≤ m → (repN mk m).take (j * 1) = repN mk j := by
  intro j m h; simp [repN, List.take_replicate, Nat.min_eq_left h]
theorem repN_one (mk : Int) (j : Nat) : ∀ u ∈ repN mk j, u.oneCell' = true := by
  intro u hu; obtain ⟨_, rfl⟩ := List.mem_replicate.1 hu; rfl
theorem repN_add (mk : Int) (j m : Nat) : repN mk j ++ repN mk m = repN mk (j + m) := by simp [repN, List.replicate_append_replicate]

set_option maxRecDepth 100000 in
set_option maxHeartbeats 2000000 in
theorem keepNums_any (base Bw n : Nat) (lv nv : Value) (xs us : List Value) (w : World) (hn : n ≤ 200000000) (hm : us.length ≤ 200000000) (hB : Bw < w.heap.size) (hbase : base ≤ w.heap.size)
    (hf : w.cell? ⟨Bw, 2, none⟩ = some nv) (hfz : w.frozen? ⟨Bw, 2, none⟩ = false) (hnv : w.ownsRow base 87 1 nv us.length us) (hlv : w.ownsRow base 2 1 lv n xs)
    (hnb : nv.ownBlock ≠ some Bw) (hlb : lv.ownBlock ≠ some Bw) (hln : ∀ b, lv.ownBlock = some b → nv.ownBlock ≠ some b) :
    Calls Tryz.prog 55 #[.pointer (some ⟨Bw, 0, none⟩), lv] w fun e w' => ∃ a b c nv', e = .returned (.tuple #[]) ∧
      KS w w' base Bw 2 2 87 1 (repN (mkZ us.length)) lv nv [(c, n + 3), (b, n + 2), (a, n + 1), (lv, n)] nv' (us ++ [lv] ++ [a] ++ [b] ++ [c]) := by
  obtain ⟨la, lc, rfl⟩ := own_form hlv
  obtain ⟨na, nc, rfl⟩ := own_form hnv
  obtain ⟨ib, hib, hb0, hb1, hb2⟩ := info_parts Tryz.infoL64
  obtain ⟨il, hil, hl0, hl1, hl2⟩ := info_parts Tryz.infoI64'
  have HNV := hide hnv
  have HLV := hide hlv
  have HLN := hide hln
  have HNB := hide hnb
  have HLB := hide hlb
  obtain ⟨m, hM⟩ : ∃ m, us.length = m := ⟨_, rfl⟩
  have HM := hide hM
  have hm' : m ≤ 200000000 := by omega
  rw [hM] at hf
  clear hnv hlv hln hnb hlb hM hm
  go_enter Tryz.func55, Tryz.ntmps55
  go_wp2
  obtain ⟨mk, hmk⟩ : ∃ mk : Int, -1000 - (m : Int) / 4 = mk := ⟨_, rfl⟩
  have HMK : Hid (mkZ us.length = mk) := by unfold Hid mkZ; rw [HM.out]; simp only [Int.natCast_ediv]; exact hmk
  rw [hmk]
  clear hmk
  go_loopw [5] (fun i wr => (∃ (k : Nat) (zs : List Value), k ≤ n ∧ i = .int .i64 k ∧ wr.ownsRow base 2 1 (.slice la n lc) n zs ∧ zs.take k = repN mk k) ∧ Frm (fun k => (Value.slice la n lc).ownBlock = some k) w wr)
    (fun i _ => n - (intOf i).toNat)
  case atStart => exact ⟨⟨0, xs, Nat.zero_le _, rfl, HLV.out, by simp [repN]⟩, Frm.refl _ _⟩
  case round =>
    obtain ⟨⟨k, zs, hk, rfl, hoz, hzk⟩, hfr⟩ := hrel
    have HOZ := hide hoz
    have HFR := hide hfr
    have HZK := hide hzk
    by_cases hlt : k < n
    · obtain ⟨g, cap', hv', hbg, hgl⟩ := hoz.form (by omega)
      cases hv'
      obtain ⟨u, hu⟩ : ∃ u, zs[k]? = some u := ⟨zs[k]'(by rw [hoz.1]; omega), by simp⟩
      have c0 := hoz.cellAt k (by omega)
      rw [hu] at c0
      have f0 := hoz.frozenAt k
      have hki : (k : Int) < n := by omega
      clear hoz hfr hzk hu
      go_wp2
      go_roundw
      case rel =>
        refine ⟨⟨k + 1, zs.set k (.int .i64 mk), by omega, by go_num, (HOZ.out.stored k _).1, ?_⟩, HFR.out.setCell (p := ⟨g, k, none⟩) (.inl rfl) _⟩
        have hzl : zs.length = n := by have := HOZ.out.1; omega
        rw [List.take_succ_eq_append_getElem (by simp; omega), List.take_set_of_le (Nat.le_refl _), HZK.out]
        simp [repN, List.replicate_succ']
      case measure => simp [intOf]; omega
    · obtain rfl : n = k := by omega
      have hzl : zs.length = n := by have := hoz.1; omega
      have hzs : zs = repN mk n := by rw [← hzk, ← hzl, List.take_length]
      subst hzs
      have hBB : wr.heap[Bw]? = w.heap[Bw]? := hfr.block Bw hB HLB.out
      have K0 : Hid (KS w wr base Bw 2 2 87 1 (repN mk) (.slice la n lc) (.slice na us.length nc) [(.slice la n lc, n)] (.slice na us.length nc) us) := by
        refine ⟨hfr.mono (fun i _ h => .inr (.inr h)), hB, fun j _ => World.cell?_of_block (w := w) (a := ⟨Bw, j, none⟩) hBB, fun j => World.frozen?_of_block (w := w) (a := ⟨Bw, j, none⟩) hBB, ?_, ?_, HNB.out, .inl rfl, ?_⟩
        · rw [HM.out]; exact (World.cell?_of_block (w := w) (a := ⟨Bw, 2, none⟩) hBB).trans hf
        · exact own_turn HNV.out (fun b hb hlt => hfr.block b hlt (fun h => HLN.out b h hb))
        · intro p hp
          rw [List.mem_singleton] at hp
          subst hp
          exact ⟨hoz, .inl rfl, HLB.out, HLN.out⟩
      have hw0 := hfr.size
      have HFZ := hide hfz
      clear hoz hfr hzk hBB hzl HOZ HFR HZK hf hfz
      -- list w1
      go_wp2_with (at_builtin; refine wpList_app2 _ rfl _ _ 87 rfl base 2 il _ 1 8 Tryz.underlying87 hil hl0 hl1 hl2 rfl (by decide) _ _ _ rfl ((K0.out.lists (.slice la n lc, n) (by simp)).1.alloc _) (.slice (some ⟨wr.heap.size, 0, none⟩) 1 1) 1 (repN mk 1) rfl (srcA _ _ _ _ 0 _ rfl rfl 1 1 rfl) (repN_one _ _) ?h63 ?hbytes ?hbase ?_)
      case h63 => unfold maxLen; omega
      case hbytes => omega
      case hbase => simp; omega
      intro a1 c1 w1 ho hg _ hlie hway
      rw [repN_add] at ho
      have K1 := hide (K0.out.addList (by omega) (repN_take mk) (n := n) (m := 1) (by simp) (by intro p hp; simp at hp; rcases hp with rfl <;> simp) rfl ho hg hlie hway)
      have hw1 : wr.heap.size ≤ w1.heap.size := by have := hg.size; simp at this; omega
      clear ho hg hlie hway
      -- list w2
      go_wp2_with (at_builtin; refine wpList_app2 _ rfl _ _ 87 rfl base 2 il _ 1 8 Tryz.underlying87 hil hl0 hl1 hl2 rfl (by decide) _ _ _ rfl ((K1.out.lists (.slice la n lc, n) (by simp)).1.alloc _) (.slice (some ⟨w1.heap.size, 0, none⟩) 2 2) 2 (repN mk 2) rfl (srcA _ _ _ _ 0 _ rfl rfl 1 2 rfl) (repN_one _ _) ?h63 ?hbytes ?hbase ?_)
      case h63 => unfold maxLen; omega
      case hbytes => omega
      case hbase => simp; omega
      intro a2 c2 w2 ho hg _ hlie hway
      rw [repN_add] at ho
      have K2 := hide (K1.out.addList (by omega) (repN_take mk) (n := n) (m := 2) (by simp) (by intro p hp; simp at hp; rcases hp with rfl | rfl <;> simp) rfl ho hg hlie hway)
      have hw2 : w1.heap.size ≤ w2.heap.size := by have := hg.size; simp at this; omega
      clear ho hg hlie hway
      -- list w3
      go_wp2_with (at_builtin; refine wpList_app2 _ rfl _ _ 87 rfl base 2 il _ 1 8 Tryz.underlying87 hil hl0 hl1 hl2 rfl (by decide) _ _ _ rfl ((K2.out.lists (.slice la n lc, n) (by simp)).1.alloc _) (.slice (some ⟨w2.heap.size, 0, none⟩) 3 3) 3 (repN mk 3) rfl (srcA _ _ _ _ 0 _ rfl rfl 1 3 rfl) (repN_one _ _) ?h63 ?hbytes ?hbase ?_)
      case h63 => unfold maxLen; omega
      case hbytes => omega
      case hbase => simp; omega
      intro a3 c3 w3 ho hg _ hlie hway
      rw [repN_add] at ho
      have K3 := hide (K2.out.addList (by omega) (repN_take mk) (n := n) (m := 3) (by simp) (by intro p hp; simp at hp; rcases hp with rfl | rfl | rfl <;> simp) rfl ho hg hlie hway)
      have hw3 : w2.heap.size ≤ w3.heap.size := by have := hg.size; simp at this; omega
      clear ho hg hlie hway
      rw [HM.out] at K3
      have B0 : Hid (w3.ownsRow base 87 1 (.slice na m nc) m us) := by have := K3.out.book; rw [HM.out] at this; exact this
      have fc := K3.out.fld
      have hbw3 : Bw < w3.heap.size := by omega
      go_wp2_with (at_builtin; refine wpList_app2 _ rfl _ _ 37 rfl base 87 ib _ 1 24 Tryz.underlying37 hib hb0 hb1 hb2 rfl (by decide) _ m _ rfl (B0.out.alloc _) (.slice (some ⟨w3.heap.size, 0, none⟩) 1 1) 1 [.slice la n lc] rfl (srcA _ _ _ _ 0 _ (by simp) rfl 1 1 rfl) ?h1 ?h63 ?hbytes ?hbase ?_)
      case h1 => simp [Value.oneCell']
      case h63 => unfold maxLen; omega
      case hbytes => omega
      case hbase => simp; omega
      intro p1 d1 x1 ho hg _ hlie _
      obtain ⟨s0, s1⟩ := K3.out.store hg
      rw [HFZ.out] at s1
      have K4 := hide (K3.out.addBook (q := m) (H := w3.heap.size + 1) (by simp [HM.out]) rfl ho hg hlie)
      have B1 : Hid ((x1.setCell ⟨Bw, 2, none⟩ (.slice p1 (m + 1) d1)).ownsRow base 87 1 (.slice p1 (m + 1) d1) (m + 1) (us ++ [.slice la n lc])) := by have := K4.out.book; simp only [List.length_append, List.length_cons, List.length_nil, HM.out] at this; exact this
      have hx1 : w3.heap.size ≤ x1.heap.size := by have := hg.size; simp at this; omega
      have hbx1 : Bw < x1.heap.size := by omega
      clear ho hg hlie fc
      go_wp2_with (at_builtin; refine wpList_app2 _ rfl _ _ 37 rfl base 87 ib _ 1 24 Tryz.underlying37 hib hb0 hb1 hb2 rfl (by decide) _ (m + 1) _ rfl (B1.out.alloc _) (.slice (some ⟨x1.heap.size, 0, none⟩) 1 1) 1 [.slice a1 (n + 1) c1] rfl (srcA _ _ _ _ 0 _ (by simp) rfl 1 1 rfl) ?h1 ?h63 ?hbytes ?hbase ?_)
      case h1 => simp [Value.oneCell']
      case h63 => unfold maxLen; omega
      case hbytes => omega
      case hbase => simp; omega
      intro p2 d2 x2 ho hg _ hlie _
      obtain ⟨s0, s1⟩ := K4.out.store hg
      rw [HFZ.out] at s1
      have K5 := hide (K4.out.addBook (u := .slice a1 (n + 1) c1) (q := (m + 1)) (H := x1.heap.size + 1) (by simp [HM.out]) (by simp [World.setCell]) (by simpa using ho) hg hlie)
      have B2 : Hid ((x2.setCell ⟨Bw, 2, none⟩ (.slice p2 ((m + 1) + 1) d2)).ownsRow base 87 1 (.slice p2 ((m + 1) + 1) d2) ((m + 1) + 1) (us ++ [.slice la n lc] ++ [.slice a1 (n + 1) c1])) := by have := K5.out.book; simp only [List.length_append, List.length_cons, List.length_nil, HM.out] at this; exact this
      have hx2 : x1.heap.size ≤ x2.heap.size := by have := hg.size; simp at this; omega
      have hbx2 : Bw < x2.heap.size := by omega
      clear ho hg hlie 
      go_wp2_with (at_builtin; refine wpList_app2 _ rfl _ _ 37 rfl base 87 ib _ 1 24 Tryz.underlying37 hib hb0 hb1 hb2 rfl (by decide) _ (m + 1 + 1) _ rfl (B2.out.alloc _) (.slice (some ⟨x2.heap.size, 0, none⟩) 1 1) 1 [.slice a2 (n + 2) c2] rfl (srcA _ _ _ _ 0 _ (by simp) rfl 1 1 rfl) ?h1 ?h63 ?hbytes ?hbase ?_)
      case h1 => simp [Value.oneCell']
      case h63 => unfold maxLen; omega
      case hbytes => omega
      case hbase => simp; omega
      intro p3 d3 x3 ho hg _ hlie _
      obtain ⟨s0, s1⟩ := K5.out.store hg
      rw [HFZ.out] at s1
      have K6 := hide (K5.out.addBook (u := .slice a2 (n + 2) c2) (q := (m + 1 + 1)) (H := x2.heap.size + 1) (by simp [HM.out]) (by simp [World.setCell]) (by simpa using ho) hg hlie)
      have B3 : Hid ((x3.setCell ⟨Bw, 2, none⟩ (.slice p3 ((m + 1 + 1) + 1) d3)).ownsRow base 87 1 (.slice p3 ((m + 1 + 1) + 1) d3) ((m + 1 + 1) + 1) (us ++ [.slice la n lc] ++ [.slice a1 (n + 1) c1] ++ [.slice a2 (n + 2) c2])) := by have := K6.out.book; simp only [List.length_append, List.length_cons, List.length_nil, HM.out] at this; exact this
      have hx3 : x2.heap.size ≤ x3.heap.size := by have := hg.size; simp at this; omega
      have hbx3 : Bw < x3.heap.size := by omega
      clear ho hg hlie 
      go_wp2_with (at_builtin; refine wpList_app2 _ rfl _ _ 37 rfl base 87 ib _ 1 24 Tryz.underlying37 hib hb0 hb1 hb2 rfl (by decide) _ (m + 1 + 1 + 1) _ rfl (B3.out.alloc _) (.slice (some ⟨x3.heap.size, 0, none⟩) 1 1) 1 [.slice a3 (n + 3) c3] rfl (srcA _ _ _ _ 0 _ (by simp) rfl 1 1 rfl) ?h1 ?h63 ?hbytes ?hbase ?_)
      case h1 => simp [Value.oneCell']
      case h63 => unfold maxLen; omega
      case hbytes => omega
      case hbase => simp; omega
      intro p4 d4 x4 ho hg _ hlie _
      obtain ⟨s0, s1⟩ := K6.out.store hg
      rw [HFZ.out] at s1
      have K7 := hide (K6.out.addBook (u := .slice a3 (n + 3) c3) (q := (m + 1 + 1 + 1)) (H := x3.heap.size + 1) (by simp [HM.out]) (by simp [World.setCell]) (by simpa using ho) hg hlie)
      have B4 : Hid ((x4.setCell ⟨Bw, 2, none⟩ (.slice p4 ((m + 1 + 1 + 1) + 1) d4)).ownsRow base 87 1 (.slice p4 ((m + 1 + 1 + 1) + 1) d4) ((m + 1 + 1 + 1) + 1) (us ++ [.slice la n lc] ++ [.slice a1 (n + 1) c1] ++ [.slice a2 (n + 2) c2] ++ [.slice a3 (n + 3) c3])) := by have := K7.out.book; simp only [List.length_append, List.length_cons, List.length_nil, HM.out] at this; exact this
      have hx4 : x3.heap.size ≤ x4.heap.size := by have := hg.size; simp at this; omega
      have hbx4 : Bw < x4.heap.size := by omega
      clear ho hg hlie 
      go_wp2
      go_end0
      exact ⟨_, _, _, _, rfl, by rw [HMK.out, HM.out]; exact K7.out⟩
end Go.Proofs.YtkmakliebhnhbaaGreat
