import Derived.Test.YtkmakliebhnhbaaGreatBook
import Derived.Test.YtkmakliebhnhbaaGreatLawW
/- MADE BY wip/genkeep.py -/
namespace Go.Proofs.YtkmakliebhnhbaaGreat
open Go.RowKit

theorem Tryz.infoLE : (Tryz.prog.info? 65).map (fun i => (i.zero, i.size, i.bytes)) = some (some (.slice none 0 0), 1, 24) := by kernel_rfl
theorem Tryz.infoE' : (Tryz.prog.info? 89).map (fun i => (i.zero, i.size, i.bytes)) = some (some (.agg #[.int .i64 0, .int .i64 0, .int .i64 0]), 3, 24) := by kernel_rfl

def evMk (m : Nat) : List Value := [.int .i64 (mkZ m), .int .i64 0, .int .i64 0]

set_option maxRecDepth 100000 in
set_option maxHeartbeats 3000000 in
theorem keepEvents_any (base Bw n : Nat) (lv nv : Value) (xs us : List Value) (w : World) (hn : n ≤ 200000000) (hm : us.length ≤ 200000000) (hB : Bw < w.heap.size) (hbase : base ≤ w.heap.size)
    (hf : w.cell? ⟨Bw, 3, none⟩ = some nv) (hfz : w.frozen? ⟨Bw, 3, none⟩ = false) (hnv : w.ownsRow base 65 1 nv us.length us) (hlv : w.ownsRow base 89 3 lv n xs)
    (hnb : nv.ownBlock ≠ some Bw) (hlb : lv.ownBlock ≠ some Bw) (hln : ∀ b, lv.ownBlock = some b → nv.ownBlock ≠ some b) :
    Calls Tryz.prog 40 #[.pointer (some ⟨Bw, 0, none⟩), lv] w fun e w' => ∃ a b c nv', e = .returned (.tuple #[]) ∧
      KS w w' base Bw 3 89 65 3 (repC (evMk us.length)) lv nv [(c, n + 3), (b, n + 2), (a, n + 1), (lv, n)] nv' (us ++ [lv] ++ [a] ++ [b] ++ [c]) := by
  obtain ⟨la, lc, rfl⟩ := own_form hlv
  obtain ⟨na, nc, rfl⟩ := own_form hnv
  obtain ⟨ib, hib, hb0, hb1, hb2⟩ := info_parts Tryz.infoLE
  obtain ⟨il, hil, hl0, hl1, hl2⟩ := info_parts Tryz.infoE'
  have HLN := hide hln
  have HNB := hide hnb
  have HLB := hide hlb
  obtain ⟨m, hM⟩ : ∃ m, us.length = m := ⟨_, rfl⟩
  have HM := hide hM
  have hm' : m ≤ 200000000 := by omega
  rw [hM] at hf
  have HNV' := hide hnv
  have HLV' := hide hlv
  clear hnv hlv hln hnb hlb hM hm
  go_enter Tryz.func40, Tryz.ntmps40
  go_wp2
  obtain ⟨mk, hmk⟩ : ∃ mk : Int, -1000 - (m : Int) / 4 = mk := ⟨_, rfl⟩
  have HMK : Hid (mkZ us.length = mk) := by unfold Hid mkZ; rw [HM.out]; simp only [Int.natCast_ediv]; exact hmk
  rw [hmk]
  clear hmk
  obtain ⟨o0, ho0⟩ : ∃ o0, Obj.cells #[.int .i64 mk, .int .i64 0, .int .i64 0] 89 = o0 := ⟨_, rfl⟩
  rw [ho0]
  obtain ⟨w0, hw0⟩ : ∃ w0, w.alloc o0 = w0 := ⟨_, rfl⟩
  have HW0 := hide hw0
  obtain ⟨mb, hmb⟩ : ∃ mb, w.heap.size = mb := ⟨_, rfl⟩
  have hnew : w0.heap[mb]? = some o0 := by rw [← hw0, ← hmb]; exact heap_new w o0
  have m0 : w0.cell? ⟨mb, 0, none⟩ = some (.int .i64 mk) := by simp [World.cell?, hnew, ← ho0]
  have m1 : w0.cell? ⟨mb, 1, none⟩ = some (.int .i64 0) := by simp [World.cell?, hnew, ← ho0]
  have m2 : w0.cell? ⟨mb, 2, none⟩ = some (.int .i64 0) := by simp [World.cell?, hnew, ← ho0]
  have hmlt : mb < w0.heap.size := by rw [← hw0, ← hmb]; simp
  have hBb : w0.heap[Bw]? = w.heap[Bw]? := by rw [← hw0]; exact Below.heap_alloc _ _ _ hB
  have HB0 : Hid (Bw < w0.heap.size) := by unfold Hid; omega
  have HMB : Hid (mb ≠ Bw) := by unfold Hid; omega
  have HML : Hid (¬ (Value.slice la n lc).ownBlock = some mb) := fun h => by have := (HLV'.out.lt mb h).2; omega
  have HMN : Hid (¬ (Value.slice na us.length nc).ownBlock = some mb) := fun h => by have := (HNV'.out.lt mb h).2; omega
  have HLV : Hid (w0.ownsRow base 89 3 (.slice la n lc) n xs) := by unfold Hid; rw [← hw0]; exact HLV'.out.alloc _
  have HNV : Hid (w0.ownsRow base 65 1 (.slice na us.length nc) us.length us) := by unfold Hid; rw [← hw0]; exact HNV'.out.alloc _
  have hf0 : w0.cell? ⟨Bw, 3, none⟩ = some (.slice na m nc) := (World.cell?_of_block (w := w) (a := ⟨Bw, 3, none⟩) hBb).trans hf
  have HFZ : Hid (w0.frozen? ⟨Bw, 3, none⟩ = false) := (World.frozen?_of_block (w := w) (a := ⟨Bw, 3, none⟩) hBb).trans hfz
  have hbs0 : base ≤ w0.heap.size := by omega
  have HWB := hide hB
  rw [hw0, hmb]
  clear hw0 hmb hnew ho0 hBb hf hfz HLV' HNV' hB
  go_loopw [5] (fun i wr => (∃ (k : Nat) (zs : List Value), k ≤ n ∧ i = .int .i64 k ∧ wr.ownsRow base 89 3 (.slice la n lc) n zs ∧ zs.take (k * 3) = repC [.int .i64 mk, .int .i64 0, .int .i64 0] k) ∧ Frm (fun k => (Value.slice la n lc).ownBlock = some k) w0 wr)
    (fun i _ => n - (intOf i).toNat)
  case atStart => exact ⟨⟨0, xs, Nat.zero_le _, rfl, HLV.out, by simp [repC]⟩, Frm.refl _ _⟩
  case round =>
    obtain ⟨⟨k, zs, hk, rfl, hoz, hzk⟩, hfr⟩ := hrel
    have HOZ := hide hoz
    have HFR := hide hfr
    have HZK := hide hzk
    have hmb : wr.heap[mb]? = w0.heap[mb]? := hfr.block mb hmlt HML.out
    have r0 := (World.cell?_of_block (w := w0) (a := ⟨mb, 0, none⟩) hmb).trans m0
    have r1 := (World.cell?_of_block (w := w0) (a := ⟨mb, 1, none⟩) hmb).trans m1
    have r2 := (World.cell?_of_block (w := w0) (a := ⟨mb, 2, none⟩) hmb).trans m2
    have hmlr : mb < wr.heap.size := Nat.lt_of_lt_of_le hmlt hfr.size
    by_cases hlt : k < n
    · obtain ⟨g, cap', hv', hbg, hgl⟩ := hoz.form (by omega)
      cases hv'
      have hzl := hoz.1
      obtain ⟨u0, hu0⟩ : ∃ u, zs[k * 3]? = some u := ⟨zs[k * 3]'(by omega), by simp⟩
      obtain ⟨u1, hu1⟩ : ∃ u, zs[k * 3 + 1]? = some u := ⟨zs[k * 3 + 1]'(by omega), by simp⟩
      obtain ⟨u2, hu2⟩ : ∃ u, zs[k * 3 + 2]? = some u := ⟨zs[k * 3 + 2]'(by omega), by simp⟩
      have c0 := hoz.cellAt (k * 3) (by omega)
      have c1 := hoz.cellAt (k * 3 + 1) (by omega)
      have c2 := hoz.cellAt (k * 3 + 2) (by omega)
      rw [hu0] at c0
      rw [hu1] at c1
      rw [hu2] at c2
      have f0 := hoz.frozenAt (k * 3)
      have f1 := hoz.frozenAt (k * 3 + 1)
      have f2 := hoz.frozenAt (k * 3 + 2)
      have hki : (k : Int) < n := by omega
      have HZL := hide hzl
      clear hoz hfr hzk hu0 hu1 hu2 hmb hzl m0 m1 m2 hf0
      go_wp2
      go_roundw
      case rel =>
        refine ⟨⟨k + 1, ((zs.set (k * 3) (.int .i64 mk)).set (k * 3 + 1) (.int .i64 0)).set (k * 3 + 2) (.int .i64 0), by omega, by go_num, (((HOZ.out.stored (k * 3) (.int .i64 mk)).1.stored (k * 3 + 1) (.int .i64 0)).1.stored (k * 3 + 2) (.int .i64 0)).1, take3_set HZL.out hlt HZK.out⟩, ((HFR.out.setCell (p := ⟨g, k * 3, none⟩) (.inl rfl) (.int .i64 mk)).setCell (p := ⟨g, k * 3 + 1, none⟩) (.inl rfl) (.int .i64 0)).setCell (p := ⟨g, k * 3 + 2, none⟩) (.inl rfl) (.int .i64 0)⟩
      case measure => simp [intOf]; omega
    · obtain rfl : n = k := by omega
      have hzl : zs.length = n * 3 := hoz.1
      have hzs : zs = repC [.int .i64 mk, .int .i64 0, .int .i64 0] n := by rw [← hzk, ← hzl, List.take_length]
      subst hzs
      have hBB : wr.heap[Bw]? = w0.heap[Bw]? := hfr.block Bw HB0.out HLB.out
      have K0 : Hid (KS w0 wr base Bw 3 89 65 3 (repC [.int .i64 mk, .int .i64 0, .int .i64 0]) (.slice la n lc) (.slice na us.length nc) [(.slice la n lc, n)] (.slice na us.length nc) us) := by
        refine ⟨hfr.mono (fun i _ h => .inr (.inr h)), HB0.out, fun j _ => World.cell?_of_block (w := w0) (a := ⟨Bw, j, none⟩) hBB, fun j => World.frozen?_of_block (w := w0) (a := ⟨Bw, j, none⟩) hBB, ?_, ?_, HNB.out, .inl rfl, ?_⟩
        · rw [HM.out]; exact (World.cell?_of_block (w := w0) (a := ⟨Bw, 3, none⟩) hBB).trans hf0
        · exact own_turn HNV.out (fun b hb hlt => hfr.block b hlt (fun h => HLN.out b h hb))
        · intro p hp
          rw [List.mem_singleton] at hp
          subst hp
          exact ⟨hoz, .inl rfl, HLB.out, HLN.out⟩
      have hws := hfr.size
      have HMM : Hid (∀ (nv' : Value) (us' : List Value) (ls : List (Value × Nat)) (W : World), KS w0 W base Bw 3 89 65 3 (repC [.int .i64 mk, .int .i64 0, .int .i64 0]) (.slice la n lc) (.slice na us.length nc) ls nv' us' → W.cell? ⟨mb, 0, none⟩ = some (.int .i64 mk) ∧ W.cell? ⟨mb, 1, none⟩ = some (.int .i64 0) ∧ W.cell? ⟨mb, 2, none⟩ = some (.int .i64 0) ∧ mb < W.heap.size) := by
        intro nv' us' ls W hK
        have hb : W.heap[mb]? = w0.heap[mb]? := hK.frm.block mb hmlt (fun h => by rcases h with h | h | h; exact HMB.out h; exact HMN.out h; exact HML.out h)
        exact ⟨(World.cell?_of_block (w := w0) (a := ⟨mb, 0, none⟩) hb).trans m0, (World.cell?_of_block (w := w0) (a := ⟨mb, 1, none⟩) hb).trans m1, (World.cell?_of_block (w := w0) (a := ⟨mb, 2, none⟩) hb).trans m2, Nat.lt_of_lt_of_le hmlt hK.frm.size⟩
      have HONE : Hid (∀ u ∈ ([.int .i64 mk, .int .i64 0, .int .i64 0] : List Value), u.oneCell' = true) := by unfold Hid; simp [Value.oneCell']
      clear hoz hfr hzk hBB hzl HOZ HFR HZK hf0 m0 m1 m2 hmb
      go_wp2_with (at_builtin; refine wpList_app2 _ rfl _ _ 65 rfl base 89 il _ 3 24 Tryz.underlying65 hil hl0 hl1 hl2 rfl (by decide) _ _ _ rfl ((K0.out.lists (.slice la n lc, n) (by simp)).1.alloc _) (.slice (some ⟨wr.heap.size, 0, none⟩) 1 1) 1 (repC [.int .i64 mk, .int .i64 0, .int .i64 0] 1) rfl (srcA _ _ _ _ 0 _ rfl rfl 3 1 rfl) (repC_one HONE.out _) ?h63 ?hbytes ?hbase ?_)
      case h63 => unfold maxLen; omega
      case hbytes => omega
      case hbase => simp; omega
      intro a1 c1 w1 ho hg _ hlie hway
      rw [repC_add] at ho
      have K1 := hide (K0.out.addList (by omega) (repC_take rfl) (n := n) (m := 1) (by simp) (by intro p hp; simp at hp; rcases hp with rfl <;> simp) rfl ho hg hlie hway)
      have hw1 : wr.heap.size ≤ w1.heap.size := by have := hg.size; simp at this; omega
      clear r0 r1 r2 hmlr
      obtain ⟨r0, r1, r2, hmlr⟩ := HMM.out _ _ _ _ K1.out
      clear ho hg hlie hway
      go_wp2_with (at_builtin; refine wpList_app2 _ rfl _ _ 65 rfl base 89 il _ 3 24 Tryz.underlying65 hil hl0 hl1 hl2 rfl (by decide) _ _ _ rfl ((K1.out.lists (.slice la n lc, n) (by simp)).1.alloc _) (.slice (some ⟨w1.heap.size, 0, none⟩) 2 2) 2 (repC [.int .i64 mk, .int .i64 0, .int .i64 0] 2) rfl (srcA _ _ _ _ 0 _ rfl rfl 3 2 rfl) (repC_one HONE.out _) ?h63 ?hbytes ?hbase ?_)
      case h63 => unfold maxLen; omega
      case hbytes => omega
      case hbase => simp; omega
      intro a2 c2 w2 ho hg _ hlie hway
      rw [repC_add] at ho
      have K2 := hide (K1.out.addList (by omega) (repC_take rfl) (n := n) (m := 2) (by simp) (by intro p hp; simp at hp; rcases hp with rfl | rfl <;> simp) rfl ho hg hlie hway)
      have hw2 : w1.heap.size ≤ w2.heap.size := by have := hg.size; simp at this; omega
      clear r0 r1 r2 hmlr
      obtain ⟨r0, r1, r2, hmlr⟩ := HMM.out _ _ _ _ K2.out
      clear ho hg hlie hway
      go_wp2_with (at_builtin; refine wpList_app2 _ rfl _ _ 65 rfl base 89 il _ 3 24 Tryz.underlying65 hil hl0 hl1 hl2 rfl (by decide) _ _ _ rfl ((K2.out.lists (.slice la n lc, n) (by simp)).1.alloc _) (.slice (some ⟨w2.heap.size, 0, none⟩) 3 3) 3 (repC [.int .i64 mk, .int .i64 0, .int .i64 0] 3) rfl (srcA _ _ _ _ 0 _ rfl rfl 3 3 rfl) (repC_one HONE.out _) ?h63 ?hbytes ?hbase ?_)
      case h63 => unfold maxLen; omega
      case hbytes => omega
      case hbase => simp; omega
      intro a3 c3 w3 ho hg _ hlie hway
      rw [repC_add] at ho
      have K3 := hide (K2.out.addList (by omega) (repC_take rfl) (n := n) (m := 3) (by simp) (by intro p hp; simp at hp; rcases hp with rfl | rfl | rfl <;> simp) rfl ho hg hlie hway)
      have hw3 : w2.heap.size ≤ w3.heap.size := by have := hg.size; simp at this; omega
      clear r0 r1 r2 hmlr
      obtain ⟨r0, r1, r2, hmlr⟩ := HMM.out _ _ _ _ K3.out
      clear ho hg hlie hway
      rw [HM.out] at K3
      have B0 : Hid (w3.ownsRow base 65 1 (.slice na m nc) m us) := by have := K3.out.book; rw [HM.out] at this; exact this
      have fc := K3.out.fld
      have hbw3 : Bw < w3.heap.size := by have := HB0.out; omega
      clear r0 r1 r2 hmlr
      go_wp2_with (at_builtin; refine wpList_app2 _ rfl _ _ 38 rfl base 65 ib _ 1 24 Tryz.underlying38 hib hb0 hb1 hb2 rfl (by decide) _ m _ rfl (B0.out.alloc _) (.slice (some ⟨w3.heap.size, 0, none⟩) 1 1) 1 [.slice la n lc] rfl (srcA _ _ _ _ 0 _ (by simp) rfl 1 1 rfl) ?h1 ?h63 ?hbytes ?hbase ?_)
      case h1 => simp [Value.oneCell']
      case h63 => unfold maxLen; omega
      case hbytes => omega
      case hbase => simp; omega
      intro p1 d1 x1 ho hg _ hlie _
      obtain ⟨s0, s1⟩ := K3.out.store hg
      rw [HFZ.out] at s1
      have K4 := hide (K3.out.addBook (u := .slice la n lc) (q := m) (H := w3.heap.size + 1) (by simp [HM.out]) rfl ho hg hlie)
      have B1 : Hid ((x1.setCell ⟨Bw, 3, none⟩ (.slice p1 (m + 1) d1)).ownsRow base 65 1 (.slice p1 (m + 1) d1) (m + 1) (us ++ [.slice la n lc])) := by have := K4.out.book; simp only [List.length_append, List.length_cons, List.length_nil, HM.out] at this; exact this
      have hx1 : w3.heap.size ≤ x1.heap.size := by have := hg.size; simp at this; omega
      have hbx1 : Bw < x1.heap.size := by omega
      clear ho hg hlie fc
      go_wp2_with (at_builtin; refine wpList_app2 _ rfl _ _ 38 rfl base 65 ib _ 1 24 Tryz.underlying38 hib hb0 hb1 hb2 rfl (by decide) _ (m + 1) _ rfl (B1.out.alloc _) (.slice (some ⟨x1.heap.size, 0, none⟩) 1 1) 1 [.slice a1 (n + 1) c1] rfl (srcA _ _ _ _ 0 _ (by simp) rfl 1 1 rfl) ?h1 ?h63 ?hbytes ?hbase ?_)
      case h1 => simp [Value.oneCell']
      case h63 => unfold maxLen; omega
      case hbytes => omega
      case hbase => simp; omega
      intro p2 d2 x2 ho hg _ hlie _
      obtain ⟨s0, s1⟩ := K4.out.store hg
      rw [HFZ.out] at s1
      have K5 := hide (K4.out.addBook (u := .slice a1 (n + 1) c1) (q := (m + 1)) (H := x1.heap.size + 1) (by simp [HM.out]) (by simp [World.setCell]) (by simpa using ho) hg hlie)
      have B2 : Hid ((x2.setCell ⟨Bw, 3, none⟩ (.slice p2 ((m + 1) + 1) d2)).ownsRow base 65 1 (.slice p2 ((m + 1) + 1) d2) ((m + 1) + 1) (us ++ [.slice la n lc] ++ [.slice a1 (n + 1) c1])) := by have := K5.out.book; simp only [List.length_append, List.length_cons, List.length_nil, HM.out] at this; exact this
      have hx2 : x1.heap.size ≤ x2.heap.size := by have := hg.size; simp at this; omega
      have hbx2 : Bw < x2.heap.size := by omega
      clear ho hg hlie 
      go_wp2_with (at_builtin; refine wpList_app2 _ rfl _ _ 38 rfl base 65 ib _ 1 24 Tryz.underlying38 hib hb0 hb1 hb2 rfl (by decide) _ (m + 1 + 1) _ rfl (B2.out.alloc _) (.slice (some ⟨x2.heap.size, 0, none⟩) 1 1) 1 [.slice a2 (n + 2) c2] rfl (srcA _ _ _ _ 0 _ (by simp) rfl 1 1 rfl) ?h1 ?h63 ?hbytes ?hbase ?_)
      case h1 => simp [Value.oneCell']
      case h63 => unfold maxLen; omega
      case hbytes => omega
      case hbase => simp; omega
      intro p3 d3 x3 ho hg _ hlie _
      obtain ⟨s0, s1⟩ := K5.out.store hg
      rw [HFZ.out] at s1
      have K6 := hide (K5.out.addBook (u := .slice a2 (n + 2) c2) (q := (m + 1 + 1)) (H := x2.heap.size + 1) (by simp [HM.out]) (by simp [World.setCell]) (by simpa using ho) hg hlie)
      have B3 : Hid ((x3.setCell ⟨Bw, 3, none⟩ (.slice p3 ((m + 1 + 1) + 1) d3)).ownsRow base 65 1 (.slice p3 ((m + 1 + 1) + 1) d3) ((m + 1 + 1) + 1) (us ++ [.slice la n lc] ++ [.slice a1 (n + 1) c1] ++ [.slice a2 (n + 2) c2])) := by have := K6.out.book; simp only [List.length_append, List.length_cons, List.length_nil, HM.out] at this; exact this
      have hx3 : x2.heap.size ≤ x3.heap.size := by have := hg.size; simp at this; omega
      have hbx3 : Bw < x3.heap.size := by omega
      clear ho hg hlie 
      go_wp2_with (at_builtin; refine wpList_app2 _ rfl _ _ 38 rfl base 65 ib _ 1 24 Tryz.underlying38 hib hb0 hb1 hb2 rfl (by decide) _ (m + 1 + 1 + 1) _ rfl (B3.out.alloc _) (.slice (some ⟨x3.heap.size, 0, none⟩) 1 1) 1 [.slice a3 (n + 3) c3] rfl (srcA _ _ _ _ 0 _ (by simp) rfl 1 1 rfl) ?h1 ?h63 ?hbytes ?hbase ?_)
      case h1 => simp [Value.oneCell']
      case h63 => unfold maxLen; omega
      case hbytes => omega
      case hbase => simp; omega
      intro p4 d4 x4 ho hg _ hlie _
      obtain ⟨s0, s1⟩ := K6.out.store hg
      rw [HFZ.out] at s1
      have K7 := hide (K6.out.addBook (u := .slice a3 (n + 3) c3) (q := (m + 1 + 1 + 1)) (H := x3.heap.size + 1) (by simp [HM.out]) (by simp [World.setCell]) (by simpa using ho) hg hlie)
      have B4 : Hid ((x4.setCell ⟨Bw, 3, none⟩ (.slice p4 ((m + 1 + 1 + 1) + 1) d4)).ownsRow base 65 1 (.slice p4 ((m + 1 + 1 + 1) + 1) d4) ((m + 1 + 1 + 1) + 1) (us ++ [.slice la n lc] ++ [.slice a1 (n + 1) c1] ++ [.slice a2 (n + 2) c2] ++ [.slice a3 (n + 3) c3])) := by have := K7.out.book; simp only [List.length_append, List.length_cons, List.length_nil, HM.out] at this; exact this
      have hx4 : x3.heap.size ≤ x4.heap.size := by have := hg.size; simp at this; omega
      have hbx4 : Bw < x4.heap.size := by omega
      clear ho hg hlie 
      go_wp2
      go_end0
      refine ⟨.slice a1 (n + 1) c1, .slice a2 (n + 2) c2, .slice a3 (n + 3) c3, .slice p4 (m + 1 + 1 + 1 + 1) d4, rfl, ?_⟩
      have hK := K7.out
      rw [← HW0.out] at hK
      unfold evMk
      rw [HMK.out, HM.out]
      exact hK.weaken HWB.out
end Go.Proofs.YtkmakliebhnhbaaGreat
