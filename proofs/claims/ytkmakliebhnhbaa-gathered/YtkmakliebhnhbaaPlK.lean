import Derived.Deep.RegionWith
import Derived.Deep.QuietTactic
import Derived.BigQuiet
import Derived.Test.YtkmakliebhnhbaaPlF
import Derived.Test.YtkmakliebhnhbaaKnA
import Derived.Test.YtkmakliebhnhbaaItV
import Derived.Test.YtkmakliebhnhbaaMachT
import Derived.Test.YtkmakliebhnhbaaMsr
import Derived.Test.YtkmakliebhnhbaaSaid
import Derived.Test.YtkmakliebhnhbaaRestA
import Derived.Test.YtkmakliebhnhbaaCrW
/- Plans: made walked. -/
namespace Go.Proofs.Ytkmakliebhnhbaa
open Go.RowKit Go.Shelf

/-- A plan, read in memory. -/
def PlRd (S : Nat → Prop) (W : World) (sa : Nat → Option Addr) (sn sc : Nat → Nat) (ls : Nat → List Ins) : Prop := ∀ f, f < 4 → RdL S W 5 Ins.vals (.slice (sa f) (sn f) (sc f)) (ls f)
theorem PlRd.below {S : Nat → Prop} {W W' : World} {sa : Nat → Option Addr} {sn sc : Nat → Nat} {ls : Nat → List Ins} (h : PlRd S W sa sn sc ls) (hb : Below W.heap.size W W') : PlRd S W' sa sn sc ls := fun f hf => (h f hf).below hb (fun _ _ => List.cons_ne_nil _ _)
def plV (sa : Nat → Option Addr) (sn sc : Nat → Nat) (ks : Nat → Int) : Array Value := #[.slice (sa 0) (sn 0) (sc 0), .slice (sa 1) (sn 1) (sc 1), .slice (sa 2) (sn 2) (sc 2), .slice (sa 3) (sn 3) (sc 3), .int .i64 (ks 0), .int .i64 (ks 1), .int .i64 (ks 2), .int .i64 (ks 3)]

theorem box8 {W : World} {b : Nat} {t : TypeId} {v0 v1 v2 v3 v4 v5 v6 v7 : Value} (h : W.heap[b]? = some (.cells #[v0, v1, v2, v3, v4, v5, v6, v7] t (0, 0))) : W.cell? ⟨b, 0, none⟩ = some v0 ∧ W.cell? ⟨b, 1, none⟩ = some v1 ∧ W.cell? ⟨b, 2, none⟩ = some v2 ∧ W.cell? ⟨b, 3, none⟩ = some v3 ∧ W.cell? ⟨b, 4, none⟩ = some v4 ∧ W.cell? ⟨b, 5, none⟩ = some v5 ∧ W.cell? ⟨b, 6, none⟩ = some v6 ∧ W.cell? ⟨b, 7, none⟩ = some v7 :=
  ⟨cell_blk h rfl, cell_blk h rfl, cell_blk h rfl, cell_blk h rfl, cell_blk h rfl, cell_blk h rfl, cell_blk h rfl, cell_blk h rfl⟩

theorem codeK (sa : Nat → Option Addr) (sn sc : Nat → Nat) (ks : Nat → Int) (ls : Nat → List Ins) (S : Nat → Prop) (w W : World) (hw : LsWf ls) (hR : PlRd S w sa sn sc ls) (hb : Below w.heap.size w W) :
    Calls Try.prog 22 #[.agg #[.slice (sa 0) (sn 0) (sc 0), .slice (sa 1) (sn 1) (sc 1), .slice (sa 2) (sn 2) (sc 2), .slice (sa 3) (sn 3) (sc 3), .int .i64 (ks 0), .int .i64 (ks 1), .int .i64 (ks 2), .int .i64 (ks 3)]] W fun e w' => ∃ a n c, e = .returned (.slice a n c) ∧ RdF (fun b => w.heap.size ≤ b) w' (.slice a n c) (codeN ls) ∧ Below W.heap.size W w' := by
  refine (plCode_calls sa sn sc ks ls S W hw (hR.below hb)).mono ?_
  rintro e w' ⟨v, rfl, h1, h2⟩
  obtain ⟨us, h3, h4, h5⟩ := h1
  obtain ⟨a, c, rfl, _, _⟩ := h4.form
  refine ⟨a, _, c, rfl, ?_, h2⟩
  exact RdF.turn ⟨us, h3, h4, h5⟩ (fun b hb' _ => ⟨Nat.le_trans hb.size hb', rfl⟩)
theorem kindsK (sa : Nat → Option Addr) (sn sc : Nat → Nat) (ks : Nat → Int) (w W : World) (hk : ∀ r, r < 4 → i64 (ks r)) (hb : Below w.heap.size w W) :
    Calls Try.prog 11 #[.agg #[.slice (sa 0) (sn 0) (sc 0), .slice (sa 1) (sn 1) (sc 1), .slice (sa 2) (sn 2) (sc 2), .slice (sa 3) (sn 3) (sc 3), .int .i64 (ks 0), .int .i64 (ks 1), .int .i64 (ks 2), .int .i64 (ks 3)]] W fun e w' => ∃ a c, e = .returned (.slice a 4 c) ∧ RdL (fun b => w.heap.size ≤ b) w' 1 int64s (.slice a 4 c) (kindsN ks) ∧ Below W.heap.size W w' := by
  refine (plKinds_calls _ _ _ _ _ _ _ _ _ _ _ _ ks W hk).mono ?_
  rintro e w' ⟨v, rfl, h1, h2⟩
  obtain ⟨a, c, rfl⟩ := own_form h1
  refine ⟨a, c, rfl, ?_, h2⟩
  exact own_rd (base := W.heap.size) (e := 3) (by rw [kindsN_len]; exact h1) int64s_len (fun b hb' => Nat.le_trans hb.size (h1.lt b hb').1)
theorem newP (ks : Nat → Int) (ls : Nat → List Ins) (w W : World) (hw : LsWf ls) {v1 v2 : Value} (hb : Below w.heap.size w W) (h1 : RdF (fun b => w.heap.size ≤ b) W v1 (codeN ls)) (h2 : RdL (fun b => w.heap.size ≤ b) W 1 int64s v2 (kindsN ks)) :
    Calls Try.prog 15 #[v1, v2] W fun e w' => ∃ pb, e = .returned (.tuple #[.pointer (some ⟨pb, 0, none⟩), .int .i64 0, .int .i64 0]) ∧ dev.P (fun b => w.heap.size ≤ b) w' (.pointer (some ⟨pb, 0, none⟩)) (codeN ls) (kindsN ks) ∧ Below w.heap.size w w' := by
  have hck := codeN_check ks hw
  refine (new_said _ _ _ v1 v2 W (codeN_wf hw) (codeN_small ls ks) (fun r hr => by have := kindsN_ok ks r hr; unfold i64; omega) h1 h2).mono ?_
  rintro e w' ⟨p, rfl, hb2, hp, _⟩
  obtain ⟨⟨pb, rfl⟩, hP⟩ := hp (by rw [hck])
  rw [hck]
  exact ⟨pb, rfl, dev.turn hP (fun b hb' _ => ⟨Nat.le_trans hb.size hb'.1, rfl⟩), hb.trans (hb2.mono hb.size)⟩

set_option maxHeartbeats 4000000 in
set_option maxRecDepth 100000 in
theorem made_calls (sa : Nat → Option Addr) (sn sc : Nat → Nat) (ks : Nat → Int) (ls : Nat → List Ins) (S : Nat → Prop) (w : World) (hw : LsWf ls) (hk : ∀ r, r < 4 → i64 (ks r)) (hR : PlRd S w sa sn sc ls) :
    Calls Try.prog 10 #[.agg #[.slice (sa 0) (sn 0) (sc 0), .slice (sa 1) (sn 1) (sc 1), .slice (sa 2) (sn 2) (sc 2), .slice (sa 3) (sn 3) (sc 3), .int .i64 (ks 0), .int .i64 (ks 1), .int .i64 (ks 2), .int .i64 (ks 3)]] w fun e w' => ∃ pb, e = .returned (.tuple #[.pointer (some ⟨pb, 0, none⟩), .bool true]) ∧ dev.P (fun b => w.heap.size ≤ b) w' (.pointer (some ⟨pb, 0, none⟩)) (codeN ls) (kindsN ks) ∧ Below w.heap.size w w' := by
  have HN := hide (World.alloc_heap_new w (.cells #[.slice (sa 0) (sn 0) (sc 0), .slice (sa 1) (sn 1) (sc 1), .slice (sa 2) (sn 2) (sc 2), .slice (sa 3) (sn 3) (sc 3), .int .i64 (ks 0), .int .i64 (ks 1), .int .i64 (ks 2), .int .i64 (ks 3)] 26))
  have HB := hide ((Below.refl _ w).alloc (Nat.le_refl _) (.cells #[.slice (sa 0) (sn 0) (sc 0), .slice (sa 1) (sn 1) (sc 1), .slice (sa 2) (sn 2) (sc 2), .slice (sa 3) (sn 3) (sc 3), .int .i64 (ks 0), .int .i64 (ks 1), .int .i64 (ks 2), .int .i64 (ks 3)] 26))
  have HC := hide (fun W hb => codeK sa sn sc ks ls S w W hw hR hb)
  have HK := hide (fun W hb => kindsK sa sn sc ks w W hk hb)
  have HP := hide (fun W v1 v2 hb h1 h2 => newP ks ls w W hw (v1 := v1) (v2 := v2) hb h1 h2)
  clear hw hk hR
  go_enter Try.func10, Try.ntmps10
  go_wp2_with (go_at_call 14; refine (known_calls _).mono ?_; rintro e w1 ⟨rfl, hb1⟩)
  have hs0 : w.heap.size < w1.heap.size := by have := hb1.size; simp at this; omega
  have hbw1 : Below w.heap.size w w1 := HB.out.trans (hb1.mono HB.out.size)
  have hx1 := (hb1.block w.heap.size (by simp)).trans HN.out
  obtain ⟨k0, k1, k2, k3, k4, k5, k6, k7⟩ := box8 hx1
  have HX1 := hide hx1
  have HB1 : Hid (Below w.heap.size w w1.drew) := ⟨hbw1.os, hbw1.tape, hbw1.output, hbw1.size, hbw1.block⟩
  clear hb1 hbw1 hx1
  go_region_with (first
    | (go_at_call 22
       refine (HC.out _ HB1.out).mono ?_
       rintro e w2 ⟨a2, n2, c2, rfl, hF2, hb2⟩
       have hs2 : w.heap.size < w2.heap.size := Nat.lt_of_lt_of_le hs0 hb2.size
       have hx2 := (hb2.block w.heap.size hs0).trans HX1.out
       obtain ⟨q0, q1, q2, q3, q4, q5, q6, q7⟩ := box8 hx2
       have HB2 := hide (HB1.out.trans (hb2.mono (Nat.le_of_lt hs0)))
       have HF2 := hide hF2
       clear hF2 hb2 hx2)
    | (go_at_call 11
       refine (HK.out _ HB2.out).mono ?_
       rintro e w3 ⟨a3, c3, rfl, hK3, hb3⟩
       have HB3 := hide (HB2.out.trans (hb3.mono (Nat.le_of_lt hs2)))
       have HK3 := hide hK3
       have HF3 := hide (HF2.out.below hb3)
       clear hK3 hb3)
    | (go_at_call 15
       refine (HP.out _ _ _ HB3.out HF3.out HK3.out).mono ?_
       rintro e w4 ⟨pb, rfl, hP4, hb4⟩
       have HP4 := hide hP4
       have HB4 := hide hb4
       clear hP4 hb4))
  all_goals
    go_wp2
    go_ret2
    exact ⟨_, rfl, HP4.out, HB4.out⟩
end Go.Proofs.Ytkmakliebhnhbaa

/- Plans: steps and spawns walked: instructions and Spawns of a function, with all that it begins. -/
namespace Go.Proofs.Ytkmakliebhnhbaa
open Go.RowKit Go.Shelf

theorem sum_bd {α : Type} (p : α → Nat) (B : Nat) : ∀ (l : List α), (∀ x ∈ l, p x ≤ B) → (l.map p).sum ≤ l.length * B
  | [], _ => by simp
  | x :: t, h => by
    have h1 := sum_bd p B t (fun y hy => h y (List.mem_cons_of_mem _ hy))
    have h2 := h x (List.mem_cons_self ..)
    simp only [List.map_cons, List.sum_cons, List.length_cons, Nat.add_mul]
    omega
theorem wfC_bd {fs : List (List Ins)} {own : Ins → Nat} (ho : ∀ i, own i ≤ 1) (hl : ∀ l ∈ fs, l.length ≤ 10) : ∀ d f, wfC fs own d f + 1 ≤ 20 ^ d
  | 0, f => by simp [wfC]
  | d + 1, f => by
    have hlen : (fs[f]?.getD []).length ≤ 10 := by
      cases h : fs[f]? with
      | none => simp
      | some l => exact hl l (List.mem_of_getElem? h)
    have h1 := sum_bd (priceC own (wfC fs own d)) (20 ^ d) (fs[f]?.getD []) (fun i _ => by
      have h2 := wfC_bd ho hl d i.f.toNat
      have h3 := ho i
      unfold priceC
      split <;> omega)
    have h4 := Nat.mul_le_mul_right (20 ^ d) hlen
    have h5 : 1 ≤ 20 ^ d := Nat.pow_pos (by omega)
    simp only [wfC]
    rw [Nat.pow_succ]
    omega
theorem sum_take {α : Type} {p : α → Nat} {l : List α} {k : Nat} {x : α} (h : l[k]? = some x) : ((l.take (k + 1)).map p).sum = ((l.take k).map p).sum + p x := by
  rw [take_succ_of h]
  simp
theorem sum_take_le {α : Type} (p : α → Nat) (l : List α) (k : Nat) : ((l.take k).map p).sum ≤ (l.map p).sum := by
  have : (l.map p).sum = ((l.take k).map p).sum + ((l.drop k).map p).sum := by rw [← List.sum_append, ← List.map_append, List.take_append_drop]
  omega

/-- A row of a program's functions. -/
theorem RdF.fn {S : Nat → Prop} {W : World} {a : Option Addr} {n c : Nat} {fs : List (List Ins)} (h : RdF S W (.slice a n c) fs) {f : Nat} {l : List Ins} (hl : fs[f]? = some l) :
    n = fs.length ∧ n ≤ 9223372036854775807 ∧ ∃ b off x xc, a = some ⟨b, off, none⟩ ∧ W.cell? ⟨b, off + f, none⟩ = some (.slice x l.length xc) ∧ l.length ≤ 9223372036854775807 ∧ RdL S W 5 Ins.vals (.slice x l.length xc) l := by
  obtain ⟨us, hul, hu, hfs⟩ := h
  obtain ⟨a', cap, he, hc, hm⟩ := hu.form
  injection he with e1 e2 e3
  subst e1 e2 e3
  have hfl := (List.getElem?_eq_some_iff.1 hl).1
  obtain ⟨u, huf⟩ : ∃ u, us[f]? = some u := ⟨us[f]'(by omega), by simp⟩
  have hx := hfs f u l huf hl
  obtain ⟨x, xc, rfl, hxc, hxm⟩ := hx.form
  obtain ⟨b, off, ha, _, hcu⟩ := hu.at huf
  have h0 := hcu 0 _ rfl
  simp only [Nat.mul_one, Nat.add_zero] at h0
  unfold maxLen at hm hxm
  exact ⟨hul, by omega, b, off, x, xc, ha, h0, by omega, hx⟩

set_option maxHeartbeats 4000000 in
set_option maxRecDepth 100000 in
theorem plSteps_calls {fs : List (List Ins)} {nr : Nat} {S : Nat → Prop} {va : Option Addr} {vn vc : Nat} (hok : FsOk fs nr) (hl10 : ∀ l ∈ fs, l.length ≤ 10) (h8 : fs.length ≤ 8) : ∀ (d f : Nat) (w : World), d ≤ 8 → fs.length ≤ f + d → f < fs.length → RdF S w (.slice va vn vc) fs →
    Calls Try.prog 21 #[.slice va vn vc, .int .i64 (f : Int)] w fun e w' => e = .returned (.int .i64 ((wfC fs (fun _ => 1) d f : Nat) : Int)) ∧ w' = w
  | 0, f, w, _, h1, h2, _ => by omega
  | d + 1, f, w, hd, h1, h2, hF => by
    obtain ⟨l, hl⟩ : ∃ l, fs[f]? = some l := ⟨_, List.getElem?_eq_getElem h2⟩
    obtain ⟨e1, e2, b, off, x, xc, rfl, c0, e3, hX⟩ := hF.fn hl
    have hbd := wfC_bd (own := fun _ => 1) (fun _ => Nat.le_refl _) hl10 (d + 1) f
    have hpw : 20 ^ (d + 1) ≤ 20 ^ 8 := Nat.pow_le_pow_right (by omega) hd
    have hq : wfC fs (fun _ => 1) (d + 1) f = (l.map (priceC (fun _ => 1) (wfC fs (fun _ => 1) d))).sum := by simp only [wfC]; rw [hl]; rfl
    have Hrec : Hid (∀ g : Nat, f < g → g < fs.length → Calls Try.prog 21 #[.slice (some ⟨b, off, none⟩) vn vc, .int .i64 (g : Int)] w fun e w' => e = .returned (.int .i64 ((wfC fs (fun _ => 1) d g : Nat) : Int)) ∧ w' = w) := fun g hg hg2 => plSteps_calls hok hl10 h8 d g w (by omega) (by omega) hg2 hF
    obtain ⟨Q, hQ⟩ : ∃ Q, wfC fs (fun _ => 1) (d + 1) f = Q := ⟨_, rfl⟩
    rw [hQ] at hq hbd ⊢
    have hQ64 : Q ≤ 9000000000000 := by omega
    have Hq := hide hq
    have HL := hide hl
    have HX := hide hX
    have Hok := hide (hok f l hl)
    have hfi : (f : Int) < vn := by omega
    obtain ⟨n, hn⟩ : ∃ n, l.length = n := ⟨_, rfl⟩
    rw [hn] at c0 e3 HX
    have HN := hide hn
    clear hQ hq hbd hpw hl hX hF hn hok e1
    go_enter Try.func21, Try.ntmps21
    go_wp2
    go_loopw [5, 6] (fun s i wr => wr = w ∧ ∃ k : Nat, k ≤ n ∧ i = .int .i64 k ∧ s = .int .i64 ((((l.take k).map (priceC (fun _ => 1) (wfC fs (fun _ => 1) d))).sum : Nat) : Int)) (fun _ i _ => n - (intOf i).toNat)
    case atStart => exact ⟨rfl, 0, by omega, rfl, by simp⟩
    case round =>
      obtain ⟨hwr, k, hk, rfl, rfl⟩ := hrel
      subst hwr
      by_cases hlt : k < n
      · have hki : (k : Int) < n := by omega
        obtain ⟨i, hi⟩ : ∃ i, l[k]? = some i := ⟨_, List.getElem?_eq_getElem (by have := HN.out; omega)⟩
        obtain ⟨ib, io, rfl, _, g0, g1, g2, g3, g4⟩ := HX.out.ins hi
        have hs := sum_take (p := priceC (fun _ => 1) (wfC fs (fun _ => 1) d)) hi
        have hs2 := sum_take_le (priceC (fun _ => 1) (wfC fs (fun _ => 1) d)) l (k + 1)
        rw [← Hq.out] at hs2
        obtain ⟨s, hse⟩ : ∃ s, ((l.take k).map (priceC (fun _ => 1) (wfC fs (fun _ => 1) d))).sum = s := ⟨_, rfl⟩
        rw [hse] at hs ⊢
        obtain ⟨hm, _⟩ := Hok.out i (List.mem_of_getElem? hi)
        by_cases hb : i.op = 3 ∨ i.op = 4
        · obtain ⟨m, hm1, hm2, hm3⟩ := mayB_begins hm (by unfold begins; simpa using hb)
          have hpr : priceC (fun _ => 1) (wfC fs (fun _ => 1) d) i = 1 + wfC fs (fun _ => 1) d m := by unfold priceC; rw [if_pos hb, hm1]; rfl
          have HC := hide (Hrec.out m hm2 hm3)
          rw [hm1] at g1
          obtain ⟨q, hqe⟩ : ∃ q, wfC fs (fun _ => 1) d m = q := ⟨_, rfl⟩
          rw [hqe] at HC hpr
          have HS := hide hs
          have HPR := hide hpr
          have hle : s + (1 + q) ≤ Q := by omega
          clear hs hpr hs2 hse hqe hm hm1
          rcases hb with hb | hb
          all_goals
            rw [hb] at g0
            go_wp2_with (go_at_call 21; refine HC.out.mono ?_; rintro e w' ⟨rfl, rfl⟩)
            go_roundw
            case rel => exact ⟨trivial, k + 1, by omega, by go_num, by rw [HS.out, HPR.out]; go_num⟩
            case measure => simp [intOf]; omega
        · have hpr : priceC (fun _ => 1) (wfC fs (fun _ => 1) d) i = 1 := by unfold priceC; rw [if_neg hb]
          have h3 : ¬ i.op = 3 := fun h => hb (.inl h)
          have h4 : ¬ i.op = 4 := fun h => hb (.inr h)
          have d3 : (i.op == 3) = false := by simpa using h3
          have d4 : (i.op == 4) = false := by simpa using h4
          have e3 : decide (i.op = 3) = false := by simpa using h3
          have e4 : decide (i.op = 4) = false := by simpa using h4
          have HS := hide hs
          have HPR := hide hpr
          have hle : s + 1 ≤ Q := by omega
          clear hs hpr hs2 hse hm hb
          go_wp2
          go_roundw
          case rel => exact ⟨trivial, k + 1, by omega, by go_num, by rw [HS.out, HPR.out]; go_num⟩
          case measure => simp [intOf]; omega
      · obtain rfl : k = n := by omega
        have hfull : ((l.take k).map (priceC (fun _ => 1) (wfC fs (fun _ => 1) d))).sum = Q := by rw [← HN.out, List.take_length]; exact Hq.out.symm
        rw [hfull]
        go_wp2
        go_ret
        exact ⟨rfl, rfl⟩
end Go.Proofs.Ytkmakliebhnhbaa

/- Plans: spawns walked. -/
namespace Go.Proofs.Ytkmakliebhnhbaa
open Go.RowKit Go.Shelf

set_option maxHeartbeats 4000000 in
set_option maxRecDepth 100000 in
theorem plSpawns_calls {fs : List (List Ins)} {nr : Nat} {S : Nat → Prop} {va : Option Addr} {vn vc : Nat} (hok : FsOk fs nr) (hl10 : ∀ l ∈ fs, l.length ≤ 10) (h8 : fs.length ≤ 8) : ∀ (d f : Nat) (w : World), d ≤ 8 → fs.length ≤ f + d → f < fs.length → RdF S w (.slice va vn vc) fs →
    Calls Try.prog 23 #[.slice va vn vc, .int .i64 (f : Int)] w fun e w' => e = .returned (.int .i64 ((wfC fs spawnO d f : Nat) : Int)) ∧ w' = w
  | 0, f, w, _, h1, h2, _ => by omega
  | d + 1, f, w, hd, h1, h2, hF => by
    obtain ⟨l, hl⟩ : ∃ l, fs[f]? = some l := ⟨_, List.getElem?_eq_getElem h2⟩
    obtain ⟨e1, e2, b, off, x, xc, rfl, c0, e3, hX⟩ := hF.fn hl
    have hbd := wfC_bd (own := spawnO) (fun i => by unfold spawnO; split <;> omega) hl10 (d + 1) f
    have hpw : 20 ^ (d + 1) ≤ 20 ^ 8 := Nat.pow_le_pow_right (by omega) hd
    have hq : wfC fs spawnO (d + 1) f = (l.map (priceC spawnO (wfC fs spawnO d))).sum := by simp only [wfC]; rw [hl]; rfl
    have Hrec : Hid (∀ g : Nat, f < g → g < fs.length → Calls Try.prog 23 #[.slice (some ⟨b, off, none⟩) vn vc, .int .i64 (g : Int)] w fun e w' => e = .returned (.int .i64 ((wfC fs spawnO d g : Nat) : Int)) ∧ w' = w) := fun g hg hg2 => plSpawns_calls hok hl10 h8 d g w (by omega) (by omega) hg2 hF
    obtain ⟨Q, hQ⟩ : ∃ Q, wfC fs spawnO (d + 1) f = Q := ⟨_, rfl⟩
    rw [hQ] at hq hbd ⊢
    have hQ64 : Q ≤ 9000000000000 := by omega
    have Hq := hide hq
    have HL := hide hl
    have HX := hide hX
    have Hok := hide (hok f l hl)
    have hfi : (f : Int) < vn := by omega
    obtain ⟨n, hn⟩ : ∃ n, l.length = n := ⟨_, rfl⟩
    rw [hn] at c0 e3 HX
    have HN := hide hn
    clear hQ hq hbd hpw hl hX hF hn hok e1
    go_enter Try.func23, Try.ntmps23
    go_wp2
    go_loopw [5, 6] (fun s i wr => wr = w ∧ ∃ k : Nat, k ≤ n ∧ i = .int .i64 k ∧ s = .int .i64 ((((l.take k).map (priceC spawnO (wfC fs spawnO d))).sum : Nat) : Int)) (fun _ i _ => n - (intOf i).toNat)
    case atStart => exact ⟨rfl, 0, by omega, rfl, by simp⟩
    case round =>
      obtain ⟨hwr, k, hk, rfl, rfl⟩ := hrel
      subst hwr
      by_cases hlt : k < n
      · have hki : (k : Int) < n := by omega
        obtain ⟨i, hi⟩ : ∃ i, l[k]? = some i := ⟨_, List.getElem?_eq_getElem (by have := HN.out; omega)⟩
        obtain ⟨ib, io, rfl, _, g0, g1, g2, g3, g4⟩ := HX.out.ins hi
        have hs := sum_take (p := priceC spawnO (wfC fs spawnO d)) hi
        have hs2 := sum_take_le (priceC spawnO (wfC fs spawnO d)) l (k + 1)
        rw [← Hq.out] at hs2
        obtain ⟨s, hse⟩ : ∃ s, ((l.take k).map (priceC spawnO (wfC fs spawnO d))).sum = s := ⟨_, rfl⟩
        rw [hse] at hs ⊢
        obtain ⟨hm, _⟩ := Hok.out i (List.mem_of_getElem? hi)
        by_cases hb : i.op = 3 ∨ i.op = 4
        · obtain ⟨m, hm1, hm2, hm3⟩ := mayB_begins hm (by unfold begins; simpa using hb)
          have hpr : priceC spawnO (wfC fs spawnO d) i = spawnO i + wfC fs spawnO d m := by unfold priceC; rw [if_pos hb, hm1]; rfl
          have HC := hide (Hrec.out m hm2 hm3)
          rw [hm1] at g1
          obtain ⟨q, hqe⟩ : ∃ q, wfC fs spawnO d m = q := ⟨_, rfl⟩
          rw [hqe] at HC hpr
          rcases hb with hb | hb
          · have hown : spawnO i = 1 := by unfold spawnO; rw [if_pos hb]
            rw [hown] at hpr
            have HS := hide hs
            have HPR := hide hpr
            have hle : s + (1 + q) ≤ Q := by omega
            clear hs hpr hs2 hse hqe hm hm1 hown
            rw [hb] at g0
            go_wp2_with (go_at_call 23; refine HC.out.mono ?_; rintro e w' ⟨rfl, rfl⟩)
            go_roundw
            case rel => exact ⟨trivial, k + 1, by omega, by go_num, by rw [HS.out, HPR.out]; go_num⟩
            case measure => simp [intOf]; omega
          · have hown : spawnO i = 0 := by unfold spawnO; rw [if_neg (by omega)]
            rw [hown] at hpr
            have HS := hide hs
            have HPR := hide hpr
            have hle : s + q ≤ Q := by omega
            clear hs hpr hs2 hse hqe hm hm1 hown
            rw [hb] at g0
            go_wp2_with (go_at_call 23; refine HC.out.mono ?_; rintro e w' ⟨rfl, rfl⟩)
            go_roundw
            case rel => exact ⟨trivial, k + 1, by omega, by go_num, by rw [HS.out, HPR.out]; go_num⟩
            case measure => simp [intOf]; omega
        · have h3 : ¬ i.op = 3 := fun h => hb (.inl h)
          have h4 : ¬ i.op = 4 := fun h => hb (.inr h)
          have hpr : priceC spawnO (wfC fs spawnO d) i = 0 := by unfold priceC spawnO; rw [if_neg hb, if_neg h3]
          have d3 : (i.op == 3) = false := by simpa using h3
          have d4 : (i.op == 4) = false := by simpa using h4
          have e3 : decide (i.op = 3) = false := by simpa using h3
          have e4 : decide (i.op = 4) = false := by simpa using h4
          have HS := hide hs
          have HPR := hide hpr
          have hle : s ≤ Q := by omega
          clear hs hpr hs2 hse hm hb
          go_wp2
          go_roundw
          case rel => exact ⟨trivial, k + 1, by omega, by go_num, by rw [HS.out, HPR.out]; go_num⟩
          case measure => simp [intOf]; omega
      · obtain rfl : k = n := by omega
        have hfull : ((l.take k).map (priceC spawnO (wfC fs spawnO d))).sum = Q := by rw [← HN.out, List.take_length]; exact Hq.out.symm
        rw [hfull]
        go_wp2
        go_ret
        exact ⟨rfl, rfl⟩
end Go.Proofs.Ytkmakliebhnhbaa

/- Plans: same, alike, short walked. -/
namespace Go.Proofs.Ytkmakliebhnhbaa
open Go.RowKit Go.Shelf

set_option maxRecDepth 100000 in
set_option maxHeartbeats 1000000 in
theorem alike_calls (evs : List Ev) (S S' : Nat → Prop) (va vb : Value) (w : World) (hA : RdL S w 3 Ev.vals va evs) (hB : RdL S' w 3 Ev.vals vb evs) :
    Calls Try.prog 20 #[va, vb] w fun e w' => e = .returned (.bool true) ∧ Below w.heap.size w w' := by
  have HA := hide hA
  have HB := hide hB
  obtain ⟨a, ca, rfl, hca, hma⟩ := hA.form
  obtain ⟨b, cb, rfl, hcb, hmb⟩ := hB.form
  obtain ⟨n, hN⟩ : ∃ n, evs.length = n := ⟨_, rfl⟩
  have HN := hide hN
  rw [hN] at HA HB hca hcb ⊢
  unfold maxLen at hma hmb
  clear hA hB hN
  go_enter Try.func20, Try.ntmps20
  go_wp2
  go_loopw [5] (fun i wr => (∃ k : Nat, k ≤ n ∧ i = .int .i64 k) ∧ Below w.heap.size w wr) (fun i _ => n - (intOf i).toNat)
  case atStart => exact ⟨⟨0, Nat.zero_le _, rfl⟩, Below.refl _ _⟩
  case round =>
    obtain ⟨⟨k, hk, rfl⟩, hBk⟩ := hrel
    have HBk := hide hBk
    by_cases hlt : k < n
    · obtain ⟨e, he⟩ : ∃ e, evs[k]? = some e := ⟨evs[k]'(by have := HN.out; omega), by simp⟩
      obtain ⟨b1, o1, rfl, _, h1⟩ := HA.out.at he
      obtain ⟨b2, o2, rfl, _, h2⟩ := HB.out.at he
      have c0 := h1 0 _ rfl
      have c1 := h1 1 _ rfl
      have c2 := h1 2 _ rfl
      have d0 := h2 0 _ rfl
      have d1 := h2 1 _ rfl
      have d2 := h2 2 _ rfl
      have l1 := block_lt_of_cell c0
      have l2 := block_lt_of_cell d0
      simp only [Nat.add_zero] at l1 l2 c0 d0
      have p0 := (hBk.cell (p := ⟨b1, o1 + k * 3, none⟩) l1).trans c0
      have p1 := (hBk.cell (p := ⟨b1, o1 + k * 3 + 1, none⟩) l1).trans c1
      have p2 := (hBk.cell (p := ⟨b1, o1 + k * 3 + 2, none⟩) l1).trans c2
      have q0 := (hBk.cell (p := ⟨b2, o2 + k * 3, none⟩) l2).trans d0
      have q1 := (hBk.cell (p := ⟨b2, o2 + k * 3 + 1, none⟩) l2).trans d1
      have q2 := (hBk.cell (p := ⟨b2, o2 + k * 3 + 2, none⟩) l2).trans d2
      have hki : (k : Int) < n := by omega
      clear c0 c1 c2 d0 d1 d2 h1 h2 he hBk
      obtain ⟨x0, x1, x2⟩ := e
      simp only at p0 p1 p2 q0 q1 q2
      go_wp2
      go_quiet (fail)
      go_wp2
      go_roundw
      case rel => exact ⟨⟨k + 1, by omega, by go_num⟩, below_drewN HBk.out _⟩
      case measure => simp [intOf]; omega
    · clear hBk
      go_wp2
      go_ret
      exact ⟨rfl, HBk.out⟩

set_option maxRecDepth 100000 in
set_option maxHeartbeats 3000000 in
theorem same_calls (n : Nat) (V : Nat → Val) (va vb : Value) (w : World) (hA : RdV w va V n) (hB : RdV w vb V n) :
    Calls Try.prog 19 #[va, vb] w fun e w' => e = .returned (.bool true) ∧ Below w.heap.size w w' := by
  obtain ⟨a, ca, rfl, hca, hma, hA⟩ := hA
  obtain ⟨b, cb, rfl, hcb, hmb, hB⟩ := hB
  unfold maxLen at hma hmb
  have HA := hide hA
  have HB := hide hB
  clear hA hB
  go_enter Try.func19, Try.ntmps19
  go_wp2
  go_loopw [5] (fun i wr => (∃ k : Nat, k ≤ n ∧ i = .int .i64 k) ∧ Below w.heap.size w wr) (fun i _ => n - (intOf i).toNat)
  case atStart => exact ⟨⟨0, Nat.zero_le _, rfl⟩, Below.refl _ _⟩
  case round =>
    obtain ⟨wo, rfl⟩ : ∃ wo : World, wo = wr := ⟨_, rfl⟩
    obtain ⟨⟨k, hk, rfl⟩, hBk⟩ := hrel
    have HBk := hide hBk
    by_cases hlt : k < n
    · obtain ⟨b1, o1, l1, rfl, c0, c1, c2, hl1⟩ := HA.out k hlt
      obtain ⟨b2, o2, l2, rfl, d0, d1, d2, hl2⟩ := HB.out k hlt
      have k1 := block_lt_of_cell c0
      have k2 := block_lt_of_cell d0
      simp only at k1 k2
      have HL1 := hide hl1
      have HL2 := hide hl2
      obtain ⟨la, lca, rfl, hlca, hlma⟩ := hl1.form
      obtain ⟨lb, lcb, rfl, hlcb, hlmb⟩ := hl2.form
      unfold maxLen at hlma hlmb
      obtain ⟨L, hL⟩ : ∃ L, (V k).l.length = L := ⟨_, rfl⟩
      rw [hL] at hlca hlcb c2 d2 HL1 HL2
      have HL := hide hL
      have p0 := (hBk.cell (p := ⟨b1, o1 + k * 3, none⟩) k1).trans c0
      have p1 := (hBk.cell (p := ⟨b1, o1 + k * 3 + 1, none⟩) k1).trans c1
      have p2 := (hBk.cell (p := ⟨b1, o1 + k * 3 + 2, none⟩) k1).trans c2
      have q0 := (hBk.cell (p := ⟨b2, o2 + k * 3, none⟩) k2).trans d0
      have q1 := (hBk.cell (p := ⟨b2, o2 + k * 3 + 1, none⟩) k2).trans d1
      have q2 := (hBk.cell (p := ⟨b2, o2 + k * 3 + 2, none⟩) k2).trans d2
      obtain ⟨vn, hvn⟩ : ∃ vn, (V k).n = vn := ⟨_, rfl⟩
      obtain ⟨vi, hvi⟩ : ∃ vi, (V k).is = vi := ⟨_, rfl⟩
      rw [hvn] at p0 q0
      rw [hvi] at p1 q1
      have hki : (k : Int) < n := by omega
      have C2 := hide c2
      have D2 := hide d2
      have t0 : (vn != vn) = false := by simp
      have t1 : (vi != vi) = false := by simp
      have t2 : ((L : Int) != L) = false := by simp
      clear c0 c1 c2 d0 d1 d2 hl1 hl2 hBk hvn hvi hL
      go_wp2
      go_quiet (fail)
      go_wp2
      go_loopw [6] (fun i wr => (∃ j : Nat, j ≤ L ∧ i = .int .i64 j) ∧ Below w.heap.size w wr) (fun i _ => L - (intOf i).toNat)
      case atStart => exact ⟨⟨0, Nat.zero_le _, rfl⟩, below_drewN HBk.out _⟩
      case round =>
        clear p0 p1 p2 q0 q1 q2
        obtain ⟨⟨j, hj, rfl⟩, hBj⟩ := hrel
        have HBj := hide hBj
        have p2 := (hBj.cell (p := ⟨b1, o1 + k * 3 + 2, none⟩) k1).trans C2.out
        have q2 := (hBj.cell (p := ⟨b2, o2 + k * 3 + 2, none⟩) k2).trans D2.out
        by_cases hjL : j < L
        · obtain ⟨x, hx⟩ : ∃ x, (V k).l[j]? = some x := ⟨(V k).l[j]'(by have := HL.out; omega), by simp⟩
          obtain ⟨e1, f1, rfl, _, h1⟩ := HL1.out.at hx
          obtain ⟨e2, f2, rfl, _, h2⟩ := HL2.out.at hx
          have c0 := h1 0 _ rfl
          have d0 := h2 0 _ rfl
          have m1 := block_lt_of_cell c0
          have m2 := block_lt_of_cell d0
          simp only [Nat.mul_one, Nat.add_zero] at m1 m2 c0 d0
          have r0 := (hBj.cell (p := ⟨e1, f1 + j, none⟩) m1).trans c0
          have r1 := (hBj.cell (p := ⟨e2, f2 + j, none⟩) m2).trans d0
          have hji : (j : Int) < L := by omega
          have tx : (x != x) = false := by simp
          clear c0 d0 h1 h2 hx hBj
          go_wp2
          go_quiet (fail)
          go_wp2
          go_roundw
          case rel => exact ⟨⟨j + 1, by omega, by go_num⟩, below_drewN HBj.out _⟩
          case measure => simp [intOf]; omega
        · clear hBj
          go_wp2
          go_roundw
          case rel => exact ⟨⟨k + 1, by omega, by go_num⟩, HBj.out⟩
          case measure => simp [intOf]; omega
    · clear hBk
      go_wp2
      go_ret
      exact ⟨rfl, HBk.out⟩

theorem RdL.take {α : Type} {S : Nat → Prop} {W : World} {size : Nat} {enc : α → List Value} {a : Option Addr} {n cap m : Nat} {l : List α} (h : RdL S W size enc (.slice a n cap) l) (hm : m ≤ n) (h0 : 0 < m) : RdL S W size enc (.slice a m cap) (l.take m) := by
  obtain ⟨a', c', he, h1, h2, h3⟩ := h
  injection he with e1 e2 e3
  subst e1 e2 e3
  refine ⟨a, cap, by rw [List.length_take, Nat.min_eq_left (by omega)], by rw [List.length_take]; omega, h2, ?_⟩
  rcases h3 with ⟨rfl, _⟩ | ⟨b, off, ha, hb, hc⟩
  · simp at hm; omega
  · refine .inr ⟨b, off, ha, hb, fun k x hk j u hu => hc k x ?_ j u hu⟩
    rw [List.getElem?_take] at hk
    split at hk
    · exact hk
    · cases hk
set_option maxHeartbeats 1000000 in
theorem short_calls (l : List (Int × Int)) (S : Nat → Prop) (a : Option Addr) (n c : Nat) (w : World) (h : RdL S w 2 pickV (.slice a n c) l) : Calls Try.prog 18 #[.slice a n c] w fun e w' => (∃ m, e = .returned (.slice a m c) ∧ RdL S w 2 pickV (.slice a m c) (l.take 4000)) ∧ w' = w := by
  have HR := hide h
  obtain ⟨a', c', he, h1, h2⟩ := h.form
  injection he with e1 e2 e3
  subst e1 e3
  unfold maxLen at h2
  have hcn : n ≤ c := by omega
  by_cases hn : 4000 < n
  · have HT := hide (HR.out.take (m := 4000) (by omega) (by omega))
    have hni : (4000 : Int) < n := by omega
    clear h e2 h1
    go_enter Try.func18, Try.ntmps18
    go_wp2
    go_ret
    exact ⟨⟨_, rfl, HT.out⟩, rfl⟩
  · have HT : Hid (l.take 4000 = l) := List.take_of_length_le (by omega)
    have hni : ¬ (4000 : Int) < n := by omega
    clear h e2 h1
    go_enter Try.func18, Try.ntmps18
    go_wp2
    go_ret
    exact ⟨⟨_, rfl, by rw [HT.out]; exact HR.out⟩, rfl⟩
end Go.Proofs.Ytkmakliebhnhbaa

/- Plans: Serial and Run of a plan's program. -/
namespace Go.Proofs.Ytkmakliebhnhbaa
open Go.RowKit Go.Shelf

/-- A plan's program in memory. -/
def PlP (B : Nat) (W : World) (pb : Nat) (ls : Nat → List Ins) (ks : Nat → Int) : Prop := dev.P (fun b => B ≤ b) W (.pointer (some ⟨pb, 0, none⟩)) (codeN ls) (kindsN ks)
theorem PlP.below {B : Nat} {W W' : World} {pb : Nat} {ls : Nat → List Ins} {ks : Nat → Int} (h : PlP B W pb ls ks) (hb : Below W.heap.size W W') : PlP B W' pb ls ks := dev.turn h (fun b hb' hlt => ⟨hb', hb.block b hlt⟩)

theorem ev_rd {W : World} {base : Nat} {v : Value} {l : List Ev} (h : W.ownsRow base 42 3 v l.length (evCells l)) : ∃ a c, v = .slice a l.length c ∧ RdL (fun _ => True) W 3 Ev.vals (.slice a l.length c) l := by
  obtain ⟨a, c, rfl⟩ := own_form h
  refine ⟨a, c, rfl, own_rd (base := base) (e := 42) (by rw [← evCells_flat]; exact h) evvals_len (fun _ _ => trivial)⟩
theorem vals_rd {W : World} {base n : Nat} {lv : Value} {V : Nat → Val} {LV : Nat → Value} {xs : List Value} (h : OwnV W base lv n V LV xs) : ∃ a c, lv = .slice a n c ∧ RdV W (.slice a n c) V n := by
  have h1 := h.rd
  obtain ⟨a, c, rfl, _⟩ := id h1
  exact ⟨a, c, rfl, h1⟩

theorem plSerial (ls : Nat → List Ins) (ks : Nat → Int) (B pb : Nat) (seed x : Int) (W : World) (hw : LsWf ls) (hs : u64 seed) (hx : i64 x) (hP : PlP B W pb ls ks) :
    Calls Try.prog 12 #[.pointer (some ⟨pb, 0, none⟩), .int .u64 seed, .int .i64 x] W fun e w' => ∃ la lc ta tc, e = .returned (.agg #[.slice la 4 lc, .slice ta (traceZ (codeN ls) seed x).length tc, .int .i64 0, .int .i64 0, .int .i64 0, .int .i64 (framesC (codeN ls))]) ∧
      RdV w' (.slice la 4 lc) (valsZ (kindsN ks) (traceZ (codeN ls) seed x)) 4 ∧ RdL (fun _ => True) w' 3 Ev.vals (.slice ta (traceZ (codeN ls) seed x).length tc) (traceZ (codeN ls) seed x) ∧ Below W.heap.size W w' := by
  refine (serial_said _ _ _ _ seed x W (codeN_wf hw) (by rw [codeN_check ks hw]) hs hx hP).mono ?_
  rintro e w' ⟨lv, tv, LV, xs, rfl, h1, h2, _, _, h5⟩
  obtain ⟨ta, tc, rfl, hT⟩ := ev_rd h2
  rw [kindsN_len] at h1
  obtain ⟨la, lc, rfl, hV⟩ := vals_rd h1
  exact ⟨la, lc, ta, tc, rfl, hV, hT, h5⟩

theorem plRun (ls : Nat → List Ins) (ks : Nat → Int) (B pb : Nat) (seed x wk : Int) (script : List (Int × Int)) (S : Nat → Prop) (sv : Value) (W : World) (hw : LsWf ls) (h1 : 1 ≤ wk) (h8 : wk ≤ 8) (hl : script.length ≤ 4000) (hsc : ∀ q ∈ script, i64 q.1 ∧ i64 q.2) (hP : PlP B W pb ls ks) (hS : RdL S W 2 pickV sv script) :
    Calls Try.prog 17 #[.pointer (some ⟨pb, 0, none⟩), .int .u64 seed, .int .i64 x, .int .i64 wk, sv] W fun e w' => ∃ N la lc ta tc, Ends (codeN ls) wk.toNat script seed x N ∧ e = .returned (.tuple #[.agg #[.slice la 4 lc, .slice ta (trAt (codeN ls) wk.toNat script seed x N).length tc, .int .i64 ((N + 1 : Nat) : Int), .int .i64 (stealsAt (codeN ls) wk.toNat script seed x N : Nat), .int .i64 (failsAt (codeN ls) wk.toNat script seed x N : Nat), .int .i64 (framesC (codeN ls))], .int .i64 0]) ∧
      RdV w' (.slice la 4 lc) (valsZ (kindsN ks) (traceZ (codeN ls) seed x)) 4 ∧ RdL (fun _ => True) w' 3 Ev.vals (.slice ta (trAt (codeN ls) wk.toNat script seed x N).length tc) (trAt (codeN ls) wk.toNat script seed x N) ∧ Below W.heap.size W w' := by
  have hok : runErr wk script.length = 0 := by unfold runErr; rw [if_neg (by omega), if_neg (by omega)]
  refine (run_said _ _ _ S _ seed x wk script sv W (codeN_wf hw) (by rw [codeN_check ks hw]) hsc hP hS).mono ?_
  rintro e w' ⟨hb, _, h2⟩
  obtain ⟨N, lv, tv, LV, xs, hN, rfl, hV, hT, _, _⟩ := h2 hok
  rw [kindsN_len] at hV
  obtain ⟨la, lc, rfl, hV2⟩ := vals_rd hV
  obtain ⟨ta, tc, rfl, hT2⟩ := ev_rd hT
  exact ⟨N, la, lc, ta, tc, hN, rfl, hV2, hT2, hb⟩

theorem obj_keep {W W' : World} {o : Obj} (hb : Below (W.alloc o).heap.size (W.alloc o) W') : W'.heap[W.heap.size]? = some o := (hb.block _ (by simp)).trans (heap_new W o)
theorem new_below (W : World) (o : Obj) : Below W.heap.size W (W.alloc o) := (Below.refl _ W).alloc (Nat.le_refl _) o
theorem Below.up {B : Nat} {a b c : World} (h1 : Below B a b) (h2 : Below b.heap.size b c) (hB : B ≤ b.heap.size) : Below B a c := h1.trans (h2.mono hB)
theorem cell_new {W : World} {b i : Nat} {cs : Array Value} {t : TypeId} {v : Value} (h : W.heap[b]? = some (.cells cs t (0, 0))) (hi : cs[i]? = some v) (o : Obj) : (W.alloc o).cell? ⟨b, i, none⟩ = some v :=
  cell_blk ((Below.heap_alloc _ _ _ (Array.getElem?_eq_some_iff.1 h).1).trans h) hi
theorem take_len {l : List (Int × Int)} : (l.take 4000).length ≤ 4000 := by simp; omega
theorem take_pick {l : List (Int × Int)} (h : ∀ q ∈ l, i64 q.1 ∧ i64 q.2) : ∀ q ∈ l.take 4000, i64 q.1 ∧ i64 q.2 := fun q hq => h q (List.mem_of_mem_take hq)
theorem pick_ne (p : Int × Int) : pickV p ≠ [] := List.cons_ne_nil _ _
end Go.Proofs.Ytkmakliebhnhbaa
