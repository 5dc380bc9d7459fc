import Derived.Deep.RegionHeld3
import Derived.Test.YtkmakliebhnhbaaGreatRpP
import Derived.Test.YtkmakliebhnhbaaGreatCrW
namespace Go.Proofs.YtkmakliebhnhbaaGreat
open Go.RowKit Go.Shelf
theorem tail_cut {F G : World → Nat → Nat → Nat → Prop} {P : Prop} (main : (∀ X a b c,F X a b c → G X a b c) → P) (tail : ∀ X a b c,F X a b c → G X a b c) : P:=main tail
set_option maxHeartbeats 8000000 in
set_option maxRecDepth 100000 in
theorem refRun_calls (fs : List (List Ins)) (reds : List Int) (nr N rb k : Nat) (seed x : Int) (S S2 : Nat → Prop) (script : List (Int × Int)) (sa : Option Addr) (sl sc : Nat) (w : World) (hk1 : 1 ≤ k) (hk8 : k ≤ 8) (hR : RefP S w (.pointer (some ⟨rb,0,none⟩)) fs reds) (hsv : RdL S2 w 2 pickV (.slice sa sl sc) script) (hsc : ∀ p ∈ script,i64 p.1 ∧ i64 p.2) (hsl4 : sl ≤ 4000)
  (hN : Ends fs k script seed x N) (hN5 : N ≤ 50000) (hL : ∀ j,j ≤ N → Lean1 fs nr (stAt fs k script seed x j) N)
  (hFC : ∀ X : World,Below w.heap.size w X → Calls Tryz.prog 25 #[.pointer (some ⟨rb,0,none⟩)] X fun e w'=>e = .returned (.int .i64 (framesC fs : Int)) ∧ Below X.heap.size X w') :
  Calls Tryz.prog 43 #[.pointer (some ⟨rb,0,none⟩),.int .u64 seed,.int .i64 x,.int .i64 (k : Int),.slice sa sl sc] w fun e w'=>∃ ta tc,e = .returned (.tuple #[.slice ta (trAt fs k script seed x N).length tc,.agg #[.int .i64 ((N + 1 : Nat) : Int),.int .i64 (stealsAt fs k script seed x N : Nat),.int .i64 (failsAt fs k script seed x N : Nat),.int .i64 (framesC fs : Int)]]) ∧ RdL (fun _=>True) w' 3 Ev.vals (.slice ta (trAt fs k script seed x N).length tc) (trAt fs k script seed x N) ∧ Below w.heap.size w w':=by
 obtain ⟨i2,hi2,hy0,hy1,hy2⟩:=info_parts Tryz.infoInt2
 obtain ⟨i3,hi3,hz0,hz1,hz2⟩:=info_parts Tryz.infoLInt
 have hq0:=heap_new w (.cells #[.int .i64 0,.int .i64 0,.int .i64 0,.int .i64 0] 67)
 have hb0:=new_blk w (.cells #[.int .i64 0,.int .i64 0,.int .i64 0,.int .i64 0] 67)
 have HR:=hide hR
 have HSV:=hide hsv
 have HSC:=hide hsc
 have HN:=hide hN
 have HL:=hide hL
 have HFC:=hide hFC
 clear hR hsv hsc hN hL hFC
 go_enter Tryz.func43,Tryz.ntmps43
 go_wp2
 rename_i K0 hK0
 obtain ⟨wq,hwq⟩ : ∃ wq,w.alloc (.cells #[.int .i64 0,.int .i64 0,.int .i64 0,.int .i64 0] 67) = wq:=⟨_,rfl⟩
 rw [hwq] at hq0 hb0 ⊢
 have hwqs : wq.heap.size = w.heap.size + 1:=by rw [← hwq];simp
 obtain ⟨qb,hqb⟩ : ∃ qb,w.heap.size = qb:=⟨_,rfl⟩
 rw [hqb] at hq0
 rw [hqb]
 clear hwq
 refine wp_region_held_drew (S:=fun _=>True) (by kernel_rfl) trivial (fun _=>?_)
 have hbX0 : Below wq.heap.size wq wq.drew:=⟨rfl,rfl,rfl,Nat.le_refl _,fun _ _=>rfl⟩
 have hsX0 : wq.heap.size ≤ wq.drew.heap.size:=Nat.le_refl _
 generalize wq.drew = X0 at hbX0 hsX0 ⊢
 refine take_at 0 19 (.pointer (some ⟨rb,0,none⟩)) rfl rfl (by kernel_rfl) (by kernel_rfl) (by kernel_rfl) (fun _ _ _ h=>h) (by rfl) ?y0 trivial ?_
 case y0 =>
  intro Z _
  go_simp
 simp only [List.setIfInBounds_toArray,List.set_cons_zero,List.set_cons_succ]
 refine take_at 1 20 (.int .i64 x) rfl rfl (by kernel_rfl) (by kernel_rfl) (by kernel_rfl) (fun _ _ _ h=>h) (by rfl) ?y1 trivial ?_
 case y1 =>
  intro Z _
  go_simp
 simp only [List.setIfInBounds_toArray,List.set_cons_zero,List.set_cons_succ]
 refine take_at 2 21 (.int .u64 seed) rfl rfl (by kernel_rfl) (by kernel_rfl) (by kernel_rfl) (fun _ _ _ h=>h) (by rfl) ?y2 trivial ?_
 case y2 =>
  intro Z _
  go_simp
 simp only [List.setIfInBounds_toArray,List.set_cons_zero,List.set_cons_succ]
 refine take_at 3 22 (.agg #[.int .i64 0,.int .i64 x,.int .i64 0,.int .i64 0,.int .u64 seed,.int .i64 (-1),.bool false,.int .i64 0,.bool false]) rfl rfl (by kernel_rfl) (by kernel_rfl) (by kernel_rfl) (fun _ _ _ h=>h) (by rfl) ?y3 trivial ?_
 case y3 =>
  intro Z _
  go_simp
 simp only [List.setIfInBounds_toArray,List.set_cons_zero,List.set_cons_succ]
 refine take_at 5 24 (.int .i64 (k : Int)) rfl rfl (by kernel_rfl) (by kernel_rfl) (by kernel_rfl) (fun _ _ _ h=>h) (by rfl) ?y5 trivial ?_
 case y5 =>
  intro Z _
  go_simp
 simp only [List.setIfInBounds_toArray,List.set_cons_zero,List.set_cons_succ]
 refine take_at 7 26 (.int .i64 (k : Int)) rfl rfl (by kernel_rfl) (by kernel_rfl) (by kernel_rfl) (fun _ _ _ h=>h) (by rfl) ?y7 trivial ?_
 case y7 =>
  intro Z _
  go_simp
 simp only [List.setIfInBounds_toArray,List.set_cons_zero,List.set_cons_succ]
 apply tail_cut (F:=fun X g gH gS=>Below wq.heap.size wq X ∧ X.ownsRow wq.heap.size 143 9 (.slice (some ⟨g,0,none⟩) 1 1) 1 (#[.int .i64 0,.int .i64 x,.int .i64 0,.int .i64 0,.int .u64 seed,.int .i64 (-1),.bool false,.int .i64 0,.bool false] : Array Value).toList ∧ X.heap[gH]? = some (.cells (madeCells (Value.int .i64 0).cells (k * 1)).toList.toArray 3 (0,0)) ∧ X.heap[gS]? = some (.cells (madeCells (Value.slice none 0 0).cells (k * 1)).toList.toArray 30 (0,0)) ∧ wq.heap.size ≤ gH ∧ wq.heap.size ≤ gS)
 ·intro TAIL
  refine wpAnyH_ready (rs:=[4,6,8]) (by kernel_rfl) (by simp) ?_
  refine AllReadyH.cons rfl (fun K1 hK1=>?_) (AllReadyH.cons rfl (fun K1 hK1=>?_) (AllReadyH.cons rfl (fun K1 hK1=>?_) AllReadyH.nil))
  ·go_simp
   refine hK1.out _ (X0.alloc (.cells #[.int .i64 0,.int .i64 x,.int .i64 0,.int .i64 0,.int .u64 seed,.int .i64 (-1),.bool false,.int .i64 0,.bool false] 143)) trivial (fun _=>?_)
   clear hK1 K1
   try simp only [Act.put]
   try simp only [List.setIfInBounds_toArray]
   try simp only [List.set_cons_zero,List.set_cons_succ]
   have hFr:=World.ownsRow_lit (base:=wq.heap.size) (e:=143) (size:=9) X0 #[.int .i64 0,.int .i64 x,.int .i64 0,.int .i64 0,.int .u64 seed,.int .i64 (-1),.bool false,.int .i64 0,.bool false] 1 hsX0 (by unfold maxLen;omega) rfl
   have hnX1 : Below X0.heap.size X0 (X0.alloc (.cells #[.int .i64 0,.int .i64 x,.int .i64 0,.int .i64 0,.int .u64 seed,.int .i64 (-1),.bool false,.int .i64 0,.bool false] 143)):=new_blk _ _
   obtain ⟨g,hg⟩ : ∃ g,X0.heap.size = g:=⟨_,rfl⟩
   rw [hg] at hFr
   rw [hg]
   generalize X0.alloc (.cells #[.int .i64 0,.int .i64 x,.int .i64 0,.int .i64 0,.int .u64 seed,.int .i64 (-1),.bool false,.int .i64 0,.bool false] 143) = X1 at hFr hnX1 ⊢
   have hsX1 : wq.heap.size ≤ X1.heap.size:=Nat.le_trans hsX0 hnX1.size
   have hbX1:=hbX0.trans (hnX1.mono hsX0)
   refine wpAnyH_ready (rs:=[6,8]) (by kernel_rfl) (by simp) ?_
   refine AllReadyH.cons rfl (fun K1 hK1=>?_) (AllReadyH.cons rfl (fun K1 hK1=>?_) AllReadyH.nil)
   ·refine step_make (by rfl) _ _ 30 (by rfl) wq.heap.size 3 i2 (.int .i64 0) 1 Tryz.underlying30 hi2 hy0 hy1 _ _ k (by rfl) (by rfl) (by rw [hy2];omega) (by unfold maxLen;omega) hsX1 ?_
    intro X2 hoX2 hgrX2
    have hHd:=own_blk hoX2
    have hnX2 : Below X1.heap.size X1 X2:=(Below.refl _ X1).grown hgrX2 (Nat.le_refl _) (by simp)
    have hbgH : wq.heap.size ≤ X1.heap.size:=hsX1
    obtain ⟨gH,hgH⟩ : ∃ gH,X1.heap.size = gH:=⟨_,rfl⟩
    rw [hgH] at hHd hbgH
    rw [hgH]
    clear hoX2 hgrX2
    refine hK1.out _ X2 trivial (fun _=>?_)
    clear hK1 K1
    try simp only [Act.put]
    try simp only [List.setIfInBounds_toArray]
    try simp only [List.set_cons_zero,List.set_cons_succ]
    have hsX2 : wq.heap.size ≤ X2.heap.size:=Nat.le_trans hsX1 hnX2.size
    have hbX2:=hbX1.trans (hnX2.mono hsX1)
    have hFr:=own_below hFr hnX2
    refine wpAnyH_ready (rs:=[8]) (by kernel_rfl) (by simp) ?_
    refine AllReadyH.cons rfl (fun K1 hK1=>?_) AllReadyH.nil
    refine step_make (by rfl) _ _ 145 (by rfl) wq.heap.size 30 i3 (.slice none 0 0) 1 Tryz.underlying145 hi3 hz0 hz1 _ _ k (by rfl) (by rfl) (by rw [hz2];omega) (by unfold maxLen;omega) hsX2 ?_
    intro X3 hoX3 hgrX3
    have hSt:=own_blk hoX3
    have hnX3 : Below X2.heap.size X2 X3:=(Below.refl _ X2).grown hgrX3 (Nat.le_refl _) (by simp)
    have hbgS : wq.heap.size ≤ X2.heap.size:=hsX2
    obtain ⟨gS,hgS⟩ : ∃ gS,X2.heap.size = gS:=⟨_,rfl⟩
    rw [hgS] at hSt hbgS
    rw [hgS]
    clear hoX3 hgrX3
    refine hK1.out _ X3 trivial (fun _=>?_)
    clear hK1 K1
    try simp only [Act.put]
    try simp only [List.setIfInBounds_toArray]
    try simp only [List.set_cons_zero,List.set_cons_succ]
    have hsX3 : wq.heap.size ≤ X3.heap.size:=Nat.le_trans hsX2 hnX3.size
    have hbX3:=hbX2.trans (hnX3.mono hsX2)
    have hFr:=own_below hFr hnX3
    have hHd:=(hnX3.block _ (Array.getElem?_eq_some_iff.1 hHd).1).trans hHd
    exact TAIL X3 g gH gS ⟨hbX3,hFr,hHd,hSt,hbgH,hbgS⟩
   ·refine step_make (by rfl) _ _ 145 (by rfl) wq.heap.size 30 i3 (.slice none 0 0) 1 Tryz.underlying145 hi3 hz0 hz1 _ _ k (by rfl) (by rfl) (by rw [hz2];omega) (by unfold maxLen;omega) hsX1 ?_
    intro X2 hoX2 hgrX2
    have hSt:=own_blk hoX2
    have hnX2 : Below X1.heap.size X1 X2:=(Below.refl _ X1).grown hgrX2 (Nat.le_refl _) (by simp)
    have hbgS : wq.heap.size ≤ X1.heap.size:=hsX1
    obtain ⟨gS,hgS⟩ : ∃ gS,X1.heap.size = gS:=⟨_,rfl⟩
    rw [hgS] at hSt hbgS
    rw [hgS]
    clear hoX2 hgrX2
    refine hK1.out _ X2 trivial (fun _=>?_)
    clear hK1 K1
    try simp only [Act.put]
    try simp only [List.setIfInBounds_toArray]
    try simp only [List.set_cons_zero,List.set_cons_succ]
    have hsX2 : wq.heap.size ≤ X2.heap.size:=Nat.le_trans hsX1 hnX2.size
    have hbX2:=hbX1.trans (hnX2.mono hsX1)
    have hFr:=own_below hFr hnX2
    refine wpAnyH_ready (rs:=[6]) (by kernel_rfl) (by simp) ?_
    refine AllReadyH.cons rfl (fun K1 hK1=>?_) AllReadyH.nil
    refine step_make (by rfl) _ _ 30 (by rfl) wq.heap.size 3 i2 (.int .i64 0) 1 Tryz.underlying30 hi2 hy0 hy1 _ _ k (by rfl) (by rfl) (by rw [hy2];omega) (by unfold maxLen;omega) hsX2 ?_
    intro X3 hoX3 hgrX3
    have hHd:=own_blk hoX3
    have hnX3 : Below X2.heap.size X2 X3:=(Below.refl _ X2).grown hgrX3 (Nat.le_refl _) (by simp)
    have hbgH : wq.heap.size ≤ X2.heap.size:=hsX2
    obtain ⟨gH,hgH⟩ : ∃ gH,X2.heap.size = gH:=⟨_,rfl⟩
    rw [hgH] at hHd hbgH
    rw [hgH]
    clear hoX3 hgrX3
    refine hK1.out _ X3 trivial (fun _=>?_)
    clear hK1 K1
    try simp only [Act.put]
    try simp only [List.setIfInBounds_toArray]
    try simp only [List.set_cons_zero,List.set_cons_succ]
    have hsX3 : wq.heap.size ≤ X3.heap.size:=Nat.le_trans hsX2 hnX3.size
    have hbX3:=hbX2.trans (hnX3.mono hsX2)
    have hFr:=own_below hFr hnX3
    have hSt:=(hnX3.block _ (Array.getElem?_eq_some_iff.1 hSt).1).trans hSt
    exact TAIL X3 g gH gS ⟨hbX3,hFr,hHd,hSt,hbgH,hbgS⟩
  ·refine step_make (by rfl) _ _ 30 (by rfl) wq.heap.size 3 i2 (.int .i64 0) 1 Tryz.underlying30 hi2 hy0 hy1 _ _ k (by rfl) (by rfl) (by rw [hy2];omega) (by unfold maxLen;omega) hsX0 ?_
   intro X1 hoX1 hgrX1
   have hHd:=own_blk hoX1
   have hnX1 : Below X0.heap.size X0 X1:=(Below.refl _ X0).grown hgrX1 (Nat.le_refl _) (by simp)
   have hbgH : wq.heap.size ≤ X0.heap.size:=hsX0
   obtain ⟨gH,hgH⟩ : ∃ gH,X0.heap.size = gH:=⟨_,rfl⟩
   rw [hgH] at hHd hbgH
   rw [hgH]
   clear hoX1 hgrX1
   refine hK1.out _ X1 trivial (fun _=>?_)
   clear hK1 K1
   try simp only [Act.put]
   try simp only [List.setIfInBounds_toArray]
   try simp only [List.set_cons_zero,List.set_cons_succ]
   have hsX1 : wq.heap.size ≤ X1.heap.size:=Nat.le_trans hsX0 hnX1.size
   have hbX1:=hbX0.trans (hnX1.mono hsX0)
   refine wpAnyH_ready (rs:=[4,8]) (by kernel_rfl) (by simp) ?_
   refine AllReadyH.cons rfl (fun K1 hK1=>?_) (AllReadyH.cons rfl (fun K1 hK1=>?_) AllReadyH.nil)
   ·go_simp
    refine hK1.out _ (X1.alloc (.cells #[.int .i64 0,.int .i64 x,.int .i64 0,.int .i64 0,.int .u64 seed,.int .i64 (-1),.bool false,.int .i64 0,.bool false] 143)) trivial (fun _=>?_)
    clear hK1 K1
    try simp only [Act.put]
    try simp only [List.setIfInBounds_toArray]
    try simp only [List.set_cons_zero,List.set_cons_succ]
    have hFr:=World.ownsRow_lit (base:=wq.heap.size) (e:=143) (size:=9) X1 #[.int .i64 0,.int .i64 x,.int .i64 0,.int .i64 0,.int .u64 seed,.int .i64 (-1),.bool false,.int .i64 0,.bool false] 1 hsX1 (by unfold maxLen;omega) rfl
    have hnX2 : Below X1.heap.size X1 (X1.alloc (.cells #[.int .i64 0,.int .i64 x,.int .i64 0,.int .i64 0,.int .u64 seed,.int .i64 (-1),.bool false,.int .i64 0,.bool false] 143)):=new_blk _ _
    obtain ⟨g,hg⟩ : ∃ g,X1.heap.size = g:=⟨_,rfl⟩
    rw [hg] at hFr
    rw [hg]
    generalize X1.alloc (.cells #[.int .i64 0,.int .i64 x,.int .i64 0,.int .i64 0,.int .u64 seed,.int .i64 (-1),.bool false,.int .i64 0,.bool false] 143) = X2 at hFr hnX2 ⊢
    have hsX2 : wq.heap.size ≤ X2.heap.size:=Nat.le_trans hsX1 hnX2.size
    have hbX2:=hbX1.trans (hnX2.mono hsX1)
    have hHd:=(hnX2.block _ (Array.getElem?_eq_some_iff.1 hHd).1).trans hHd
    refine wpAnyH_ready (rs:=[8]) (by kernel_rfl) (by simp) ?_
    refine AllReadyH.cons rfl (fun K1 hK1=>?_) AllReadyH.nil
    refine step_make (by rfl) _ _ 145 (by rfl) wq.heap.size 30 i3 (.slice none 0 0) 1 Tryz.underlying145 hi3 hz0 hz1 _ _ k (by rfl) (by rfl) (by rw [hz2];omega) (by unfold maxLen;omega) hsX2 ?_
    intro X3 hoX3 hgrX3
    have hSt:=own_blk hoX3
    have hnX3 : Below X2.heap.size X2 X3:=(Below.refl _ X2).grown hgrX3 (Nat.le_refl _) (by simp)
    have hbgS : wq.heap.size ≤ X2.heap.size:=hsX2
    obtain ⟨gS,hgS⟩ : ∃ gS,X2.heap.size = gS:=⟨_,rfl⟩
    rw [hgS] at hSt hbgS
    rw [hgS]
    clear hoX3 hgrX3
    refine hK1.out _ X3 trivial (fun _=>?_)
    clear hK1 K1
    try simp only [Act.put]
    try simp only [List.setIfInBounds_toArray]
    try simp only [List.set_cons_zero,List.set_cons_succ]
    have hsX3 : wq.heap.size ≤ X3.heap.size:=Nat.le_trans hsX2 hnX3.size
    have hbX3:=hbX2.trans (hnX3.mono hsX2)
    have hHd:=(hnX3.block _ (Array.getElem?_eq_some_iff.1 hHd).1).trans hHd
    have hFr:=own_below hFr hnX3
    exact TAIL X3 g gH gS ⟨hbX3,hFr,hHd,hSt,hbgH,hbgS⟩
   ·refine step_make (by rfl) _ _ 145 (by rfl) wq.heap.size 30 i3 (.slice none 0 0) 1 Tryz.underlying145 hi3 hz0 hz1 _ _ k (by rfl) (by rfl) (by rw [hz2];omega) (by unfold maxLen;omega) hsX1 ?_
    intro X2 hoX2 hgrX2
    have hSt:=own_blk hoX2
    have hnX2 : Below X1.heap.size X1 X2:=(Below.refl _ X1).grown hgrX2 (Nat.le_refl _) (by simp)
    have hbgS : wq.heap.size ≤ X1.heap.size:=hsX1
    obtain ⟨gS,hgS⟩ : ∃ gS,X1.heap.size = gS:=⟨_,rfl⟩
    rw [hgS] at hSt hbgS
    rw [hgS]
    clear hoX2 hgrX2
    refine hK1.out _ X2 trivial (fun _=>?_)
    clear hK1 K1
    try simp only [Act.put]
    try simp only [List.setIfInBounds_toArray]
    try simp only [List.set_cons_zero,List.set_cons_succ]
    have hsX2 : wq.heap.size ≤ X2.heap.size:=Nat.le_trans hsX1 hnX2.size
    have hbX2:=hbX1.trans (hnX2.mono hsX1)
    have hHd:=(hnX2.block _ (Array.getElem?_eq_some_iff.1 hHd).1).trans hHd
    refine wpAnyH_ready (rs:=[4]) (by kernel_rfl) (by simp) ?_
    refine AllReadyH.cons rfl (fun K1 hK1=>?_) AllReadyH.nil
    go_simp
    refine hK1.out _ (X2.alloc (.cells #[.int .i64 0,.int .i64 x,.int .i64 0,.int .i64 0,.int .u64 seed,.int .i64 (-1),.bool false,.int .i64 0,.bool false] 143)) trivial (fun _=>?_)
    clear hK1 K1
    try simp only [Act.put]
    try simp only [List.setIfInBounds_toArray]
    try simp only [List.set_cons_zero,List.set_cons_succ]
    have hFr:=World.ownsRow_lit (base:=wq.heap.size) (e:=143) (size:=9) X2 #[.int .i64 0,.int .i64 x,.int .i64 0,.int .i64 0,.int .u64 seed,.int .i64 (-1),.bool false,.int .i64 0,.bool false] 1 hsX2 (by unfold maxLen;omega) rfl
    have hnX3 : Below X2.heap.size X2 (X2.alloc (.cells #[.int .i64 0,.int .i64 x,.int .i64 0,.int .i64 0,.int .u64 seed,.int .i64 (-1),.bool false,.int .i64 0,.bool false] 143)):=new_blk _ _
    obtain ⟨g,hg⟩ : ∃ g,X2.heap.size = g:=⟨_,rfl⟩
    rw [hg] at hFr
    rw [hg]
    generalize X2.alloc (.cells #[.int .i64 0,.int .i64 x,.int .i64 0,.int .i64 0,.int .u64 seed,.int .i64 (-1),.bool false,.int .i64 0,.bool false] 143) = X3 at hFr hnX3 ⊢
    have hsX3 : wq.heap.size ≤ X3.heap.size:=Nat.le_trans hsX2 hnX3.size
    have hbX3:=hbX2.trans (hnX3.mono hsX2)
    have hHd:=(hnX3.block _ (Array.getElem?_eq_some_iff.1 hHd).1).trans hHd
    have hSt:=(hnX3.block _ (Array.getElem?_eq_some_iff.1 hSt).1).trans hSt
    exact TAIL X3 g gH gS ⟨hbX3,hFr,hHd,hSt,hbgH,hbgS⟩
  ·refine step_make (by rfl) _ _ 145 (by rfl) wq.heap.size 30 i3 (.slice none 0 0) 1 Tryz.underlying145 hi3 hz0 hz1 _ _ k (by rfl) (by rfl) (by rw [hz2];omega) (by unfold maxLen;omega) hsX0 ?_
   intro X1 hoX1 hgrX1
   have hSt:=own_blk hoX1
   have hnX1 : Below X0.heap.size X0 X1:=(Below.refl _ X0).grown hgrX1 (Nat.le_refl _) (by simp)
   have hbgS : wq.heap.size ≤ X0.heap.size:=hsX0
   obtain ⟨gS,hgS⟩ : ∃ gS,X0.heap.size = gS:=⟨_,rfl⟩
   rw [hgS] at hSt hbgS
   rw [hgS]
   clear hoX1 hgrX1
   refine hK1.out _ X1 trivial (fun _=>?_)
   clear hK1 K1
   try simp only [Act.put]
   try simp only [List.setIfInBounds_toArray]
   try simp only [List.set_cons_zero,List.set_cons_succ]
   have hsX1 : wq.heap.size ≤ X1.heap.size:=Nat.le_trans hsX0 hnX1.size
   have hbX1:=hbX0.trans (hnX1.mono hsX0)
   refine wpAnyH_ready (rs:=[4,6]) (by kernel_rfl) (by simp) ?_
   refine AllReadyH.cons rfl (fun K1 hK1=>?_) (AllReadyH.cons rfl (fun K1 hK1=>?_) AllReadyH.nil)
   ·go_simp
    refine hK1.out _ (X1.alloc (.cells #[.int .i64 0,.int .i64 x,.int .i64 0,.int .i64 0,.int .u64 seed,.int .i64 (-1),.bool false,.int .i64 0,.bool false] 143)) trivial (fun _=>?_)
    clear hK1 K1
    try simp only [Act.put]
    try simp only [List.setIfInBounds_toArray]
    try simp only [List.set_cons_zero,List.set_cons_succ]
    have hFr:=World.ownsRow_lit (base:=wq.heap.size) (e:=143) (size:=9) X1 #[.int .i64 0,.int .i64 x,.int .i64 0,.int .i64 0,.int .u64 seed,.int .i64 (-1),.bool false,.int .i64 0,.bool false] 1 hsX1 (by unfold maxLen;omega) rfl
    have hnX2 : Below X1.heap.size X1 (X1.alloc (.cells #[.int .i64 0,.int .i64 x,.int .i64 0,.int .i64 0,.int .u64 seed,.int .i64 (-1),.bool false,.int .i64 0,.bool false] 143)):=new_blk _ _
    obtain ⟨g,hg⟩ : ∃ g,X1.heap.size = g:=⟨_,rfl⟩
    rw [hg] at hFr
    rw [hg]
    generalize X1.alloc (.cells #[.int .i64 0,.int .i64 x,.int .i64 0,.int .i64 0,.int .u64 seed,.int .i64 (-1),.bool false,.int .i64 0,.bool false] 143) = X2 at hFr hnX2 ⊢
    have hsX2 : wq.heap.size ≤ X2.heap.size:=Nat.le_trans hsX1 hnX2.size
    have hbX2:=hbX1.trans (hnX2.mono hsX1)
    have hSt:=(hnX2.block _ (Array.getElem?_eq_some_iff.1 hSt).1).trans hSt
    refine wpAnyH_ready (rs:=[6]) (by kernel_rfl) (by simp) ?_
    refine AllReadyH.cons rfl (fun K1 hK1=>?_) AllReadyH.nil
    refine step_make (by rfl) _ _ 30 (by rfl) wq.heap.size 3 i2 (.int .i64 0) 1 Tryz.underlying30 hi2 hy0 hy1 _ _ k (by rfl) (by rfl) (by rw [hy2];omega) (by unfold maxLen;omega) hsX2 ?_
    intro X3 hoX3 hgrX3
    have hHd:=own_blk hoX3
    have hnX3 : Below X2.heap.size X2 X3:=(Below.refl _ X2).grown hgrX3 (Nat.le_refl _) (by simp)
    have hbgH : wq.heap.size ≤ X2.heap.size:=hsX2
    obtain ⟨gH,hgH⟩ : ∃ gH,X2.heap.size = gH:=⟨_,rfl⟩
    rw [hgH] at hHd hbgH
    rw [hgH]
    clear hoX3 hgrX3
    refine hK1.out _ X3 trivial (fun _=>?_)
    clear hK1 K1
    try simp only [Act.put]
    try simp only [List.setIfInBounds_toArray]
    try simp only [List.set_cons_zero,List.set_cons_succ]
    have hsX3 : wq.heap.size ≤ X3.heap.size:=Nat.le_trans hsX2 hnX3.size
    have hbX3:=hbX2.trans (hnX3.mono hsX2)
    have hSt:=(hnX3.block _ (Array.getElem?_eq_some_iff.1 hSt).1).trans hSt
    have hFr:=own_below hFr hnX3
    exact TAIL X3 g gH gS ⟨hbX3,hFr,hHd,hSt,hbgH,hbgS⟩
   ·refine step_make (by rfl) _ _ 30 (by rfl) wq.heap.size 3 i2 (.int .i64 0) 1 Tryz.underlying30 hi2 hy0 hy1 _ _ k (by rfl) (by rfl) (by rw [hy2];omega) (by unfold maxLen;omega) hsX1 ?_
    intro X2 hoX2 hgrX2
    have hHd:=own_blk hoX2
    have hnX2 : Below X1.heap.size X1 X2:=(Below.refl _ X1).grown hgrX2 (Nat.le_refl _) (by simp)
    have hbgH : wq.heap.size ≤ X1.heap.size:=hsX1
    obtain ⟨gH,hgH⟩ : ∃ gH,X1.heap.size = gH:=⟨_,rfl⟩
    rw [hgH] at hHd hbgH
    rw [hgH]
    clear hoX2 hgrX2
    refine hK1.out _ X2 trivial (fun _=>?_)
    clear hK1 K1
    try simp only [Act.put]
    try simp only [List.setIfInBounds_toArray]
    try simp only [List.set_cons_zero,List.set_cons_succ]
    have hsX2 : wq.heap.size ≤ X2.heap.size:=Nat.le_trans hsX1 hnX2.size
    have hbX2:=hbX1.trans (hnX2.mono hsX1)
    have hSt:=(hnX2.block _ (Array.getElem?_eq_some_iff.1 hSt).1).trans hSt
    refine wpAnyH_ready (rs:=[4]) (by kernel_rfl) (by simp) ?_
    refine AllReadyH.cons rfl (fun K1 hK1=>?_) AllReadyH.nil
    go_simp
    refine hK1.out _ (X2.alloc (.cells #[.int .i64 0,.int .i64 x,.int .i64 0,.int .i64 0,.int .u64 seed,.int .i64 (-1),.bool false,.int .i64 0,.bool false] 143)) trivial (fun _=>?_)
    clear hK1 K1
    try simp only [Act.put]
    try simp only [List.setIfInBounds_toArray]
    try simp only [List.set_cons_zero,List.set_cons_succ]
    have hFr:=World.ownsRow_lit (base:=wq.heap.size) (e:=143) (size:=9) X2 #[.int .i64 0,.int .i64 x,.int .i64 0,.int .i64 0,.int .u64 seed,.int .i64 (-1),.bool false,.int .i64 0,.bool false] 1 hsX2 (by unfold maxLen;omega) rfl
    have hnX3 : Below X2.heap.size X2 (X2.alloc (.cells #[.int .i64 0,.int .i64 x,.int .i64 0,.int .i64 0,.int .u64 seed,.int .i64 (-1),.bool false,.int .i64 0,.bool false] 143)):=new_blk _ _
    obtain ⟨g,hg⟩ : ∃ g,X2.heap.size = g:=⟨_,rfl⟩
    rw [hg] at hFr
    rw [hg]
    generalize X2.alloc (.cells #[.int .i64 0,.int .i64 x,.int .i64 0,.int .i64 0,.int .u64 seed,.int .i64 (-1),.bool false,.int .i64 0,.bool false] 143) = X3 at hFr hnX3 ⊢
    have hsX3 : wq.heap.size ≤ X3.heap.size:=Nat.le_trans hsX2 hnX3.size
    have hbX3:=hbX2.trans (hnX3.mono hsX2)
    have hSt:=(hnX3.block _ (Array.getElem?_eq_some_iff.1 hSt).1).trans hSt
    have hHd:=(hnX3.block _ (Array.getElem?_eq_some_iff.1 hHd).1).trans hHd
    exact TAIL X3 g gH gS ⟨hbX3,hFr,hHd,hSt,hbgH,hbgS⟩
 ·rintro X g gH gS ⟨hbX,hFr,hHd,hSt,hbH,hbS⟩
  refine take_at 9 28 (.agg #[.pointer (some ⟨rb,0,none⟩),.slice (some ⟨g,0,none⟩) 1 1,.slice (some ⟨gH,0,none⟩) k k,.slice (some ⟨gS,0,none⟩) k k,.slice none 0 0,.int .i64 0,.int .i64 0,.int .i64 0,.int .i64 0,.bool false]) rfl rfl (by kernel_rfl) (by kernel_rfl) (by kernel_rfl) (fun _ _ _ h=>h) (by rfl) ?yz9 trivial ?_
  case yz9 =>
   intro Z _
   go_simp
  try simp only [List.setIfInBounds_toArray]
  try simp only [List.set_cons_zero,List.set_cons_succ]
  refine wpAnyH_ready (rs:=[10]) (by kernel_rfl) (by simp) ?_
  refine AllReadyH.cons rfl (fun K1 hK1=>?_) AllReadyH.nil
  go_simp
  refine hK1.out _ (X.alloc (.cells #[.pointer (some ⟨rb,0,none⟩),.slice (some ⟨g,0,none⟩) 1 1,.slice (some ⟨gH,0,none⟩) k k,.slice (some ⟨gS,0,none⟩) k k,.slice none 0 0,.int .i64 0,.int .i64 0,.int .i64 0,.int .i64 0,.bool false] 147)) trivial (fun _=>?_)
  clear hK1 K1
  try simp only [Act.put]
  try simp only [List.setIfInBounds_toArray]
  try simp only [List.set_cons_zero,List.set_cons_succ]
  have hXs : wq.heap.size ≤ X.heap.size:=hbX.size
  have hyb:=heap_new X (.cells #[.pointer (some ⟨rb,0,none⟩),.slice (some ⟨g,0,none⟩) 1 1,.slice (some ⟨gH,0,none⟩) k k,.slice (some ⟨gS,0,none⟩) k k,.slice none 0 0,.int .i64 0,.int .i64 0,.int .i64 0,.int .i64 0,.bool false] 147)
  have hbY:=hbX.alloc hXs (.cells #[.pointer (some ⟨rb,0,none⟩),.slice (some ⟨g,0,none⟩) 1 1,.slice (some ⟨gH,0,none⟩) k k,.slice (some ⟨gS,0,none⟩) k k,.slice none 0 0,.int .i64 0,.int .i64 0,.int .i64 0,.int .i64 0,.bool false] 147)
  have hFr:=own_below hFr (new_blk X (.cells #[.pointer (some ⟨rb,0,none⟩),.slice (some ⟨g,0,none⟩) 1 1,.slice (some ⟨gH,0,none⟩) k k,.slice (some ⟨gS,0,none⟩) k k,.slice none 0 0,.int .i64 0,.int .i64 0,.int .i64 0,.int .i64 0,.bool false] 147))
  have hHd:=(Below.heap_alloc X (.cells #[.pointer (some ⟨rb,0,none⟩),.slice (some ⟨g,0,none⟩) 1 1,.slice (some ⟨gH,0,none⟩) k k,.slice (some ⟨gS,0,none⟩) k k,.slice none 0 0,.int .i64 0,.int .i64 0,.int .i64 0,.int .i64 0,.bool false] 147) _ (Array.getElem?_eq_some_iff.1 hHd).1).trans hHd
  have hSt:=(Below.heap_alloc X (.cells #[.pointer (some ⟨rb,0,none⟩),.slice (some ⟨g,0,none⟩) 1 1,.slice (some ⟨gH,0,none⟩) k k,.slice (some ⟨gS,0,none⟩) k k,.slice none 0 0,.int .i64 0,.int .i64 0,.int .i64 0,.int .i64 0,.bool false] 147) _ (Array.getElem?_eq_some_iff.1 hSt).1).trans hSt
  obtain ⟨yb,hybe⟩ : ∃ yb,X.heap.size = yb:=⟨_,rfl⟩
  rw [hybe] at hyb hXs
  rw [hybe]
  generalize X.alloc (.cells #[.pointer (some ⟨rb,0,none⟩),.slice (some ⟨g,0,none⟩) 1 1,.slice (some ⟨gH,0,none⟩) k k,.slice (some ⟨gS,0,none⟩) k k,.slice none 0 0,.int .i64 0,.int .i64 0,.int .i64 0,.int .i64 0,.bool false] 147) = Y at hyb hbY hFr hHd hSt ⊢
  refine take_at 11 12 (.pointer (some ⟨yb,0,none⟩)) rfl rfl (by kernel_rfl) (by kernel_rfl) (by kernel_rfl) (fun _ _ _ h=>h) (by rfl) ?yz11 trivial ?_
  case yz11 =>
   intro Z _
   go_simp
  try simp only [List.setIfInBounds_toArray]
  try simp only [List.set_cons_zero,List.set_cons_succ]
  refine wpAnyH_done (by kernel_rfl) ?_ _
  refine hK0 _ _ ?_
  clear hK0 K0
  go_wp2
  have hm1 : (madeCells (Value.int .i64 0).cells (k * 1)).toList = hv k 1:=by
   rw [hv_one]
   have:=toList_madeCells_one (.int .i64 0) (k * 1)
   simpa [Value.cells] using this
  have hm2 : (madeCells (Value.slice none 0 0).cells (k * 1)).toList = List.replicate k (.slice none 0 0 : Value):=by
   have:=toList_madeCells_one (.slice none 0 0) (k * 1)
   simpa [Value.cells] using this
  rw [hm1] at hHd
  rw [hm2] at hSt
  have hyH : yb ≠ gH:=blk_ne hyb hHd (by decide)
  have hSH : gS ≠ gH:=blk_ne hSt hHd (by decide)
  have hgH : g ≠ gH:=fun e=>own_type hFr hHd (by decide) (by rw [← e];rfl)
  have HI:=hide (And.intro hbY (And.intro hyb (And.intro hFr (And.intro hSt hHd))))
  clear hbY hyb hFr hSt hHd hm1 hm2 hbX
  go_loopw [13] (fun i wr=>∃ j : Nat,1 ≤ j ∧ j ≤ k ∧ i = .int .i64 j ∧ Below wq.heap.size wq wr ∧ wr.heap[yb]? = some (.cells #[.pointer (some ⟨rb,0,none⟩),.slice (some ⟨g,0,none⟩) 1 1,.slice (some ⟨gH,0,none⟩) k k,.slice (some ⟨gS,0,none⟩) k k,.slice none 0 0,.int .i64 0,.int .i64 0,.int .i64 0,.int .i64 0,.bool false] 147 (0,0)) ∧ wr.ownsRow wq.heap.size 143 9 (.slice (some ⟨g,0,none⟩) 1 1) 1 (#[.int .i64 0,.int .i64 x,.int .i64 0,.int .i64 0,.int .u64 seed,.int .i64 (-1),.bool false,.int .i64 0,.bool false] : Array Value).toList ∧ wr.heap[gS]? = some (.cells (List.replicate k (.slice none 0 0 : Value)).toArray 30 (0,0)) ∧ wr.heap[gH]? = some (.cells (hv k j).toArray 3 (0,0))) (fun i _=>k - (intOf i).toNat)
  case atStart=>exact ⟨1,by omega,hk1,rfl,HI.out.1,HI.out.2.1,HI.out.2.2.1,HI.out.2.2.2.1,HI.out.2.2.2.2⟩
  case round =>
   obtain ⟨j,hj1,hjk,rfl,r1,r2,r3,r4,r5⟩:=hrel
   have c2:=blk_cell (i:=2) r2 rfl
   by_cases hlt : j < k
   ·have hji : (j : Int) < k:=by omega
    have cj : wr.cell? ⟨gH,j,none⟩ = some (.int .i64 0):=blk_cell r5 (by simpa using hv_at hlt)
    have zj:=blk_frz r5 j
    have H2:=hide (blk_set r2 hyH j (.int .i64 (-1)))
    have H3:=hide (own_set r3 (by simp [Value.ownBlock];exact hgH) j (.int .i64 (-1)))
    have H4:=hide (blk_set r4 hSH j (.int .i64 (-1)))
    have H1:=hide (r1.setCell (p:=⟨gH,j,none⟩) hbH (.int .i64 (-1)))
    have h5:=blk_put r5 j (.int .i64 (-1))
    have e5 : (hv k j).toArray.setIfInBounds j (.int .i64 (-1)) = (hv k (j + 1)).toArray:=by
     rw [← hv_set hj1 hlt]
     simp
    rw [e5] at h5
    have H5:=hide h5
    clear r1 r2 r3 r4 r5 h5 e5
    go_wp2
    go_roundw
    case rel=>exact ⟨j + 1,by omega,by omega,by go_num,H1.out,H2.out,H3.out,H4.out,H5.out⟩
    case measure=>simp [intOf];omega
   ·obtain rfl : k = j:=by omega
    have hji : ¬ (k : Int) < k:=by omega
    rw [hv_end hk1] at r5
    have hP0:=play_start (fs:=fs) (w0:=wq) (seed:=seed) (x:=x) hk1 r1 hXs hbH hbS r2 r3 r5 r4
    have HP0 : Hid (RefAt fs script seed x wq wq.heap.size rb yb gH gS k 0 false wr):=⟨_,_,_,_,hP0⟩
    clear r1 r2 r3 r4 r5 hP0 c2 HI
    have hsvl : script.length = sl:=by
     obtain ⟨_,_,he,_,_⟩:=HSV.out.form
     injection he with _ e2 _
     exact e2.symm
    have HSL:=hide hsvl
    have hRq : RefP S wq (.pointer (some ⟨rb,0,none⟩)) fs reds:=HR.out.turn (fun b hb hlt=>⟨hb,hb0.block b hlt⟩)
    have HSTEP:=hide (fun (m : Nat) (X : World) (hm : m ≤ N) (h : RefAt fs script seed x wq wq.heap.size rb yb gH gS k m false X)=>refStepAt (nr:=nr) hRq (Nat.le_refl _) HN.out hN5 hk1 HL.out hm h)
    clear hsvl
    go_wp2
    go_loopw [14] (fun i wr=>∃ m : Nat,m ≤ sl ∧ i = .int .i64 m ∧ ((RefAt fs script seed x wq wq.heap.size rb yb gH gS k m false wr ∧ m ≤ N) ∨ RefAt fs script seed x wq wq.heap.size rb yb gH gS k (N + 1) true wr)) (fun i _=>sl - (intOf i).toNat)
    case atStart=>exact ⟨0,by omega,rfl,.inl ⟨HP0.out,by omega⟩⟩
    case round =>
     obtain ⟨m,hm,rfl,hdis⟩:=hrel
     by_cases hgo : m < sl ∧ RefAt fs script seed x wq wq.heap.size rb yb gH gS k m false wr ∧ m ≤ N
     ·obtain ⟨hml,hra,hmN⟩:=hgo
      have hmi : (m : Int) < sl:=by omega
      obtain ⟨p,hp⟩ : ∃ p,script[m]? = some p:=⟨_,List.getElem?_eq_getElem (by have:=HSL.out;omega)⟩
      obtain ⟨pb,po,rfl,_,hpc⟩:=HSV.out.at hp
      obtain ⟨hp1,hp2⟩:=HSC.out p (List.mem_of_getElem? hp)
      have hturn : turnM k script m = (restM p.1 k,restM p.2 k):=by
       unfold turnM
       rw [hp]
      have HST:=hide (HSTEP.out m wr hmN hra)
      rw [hturn] at HST
      obtain ⟨g1,cap1,tv1,us1,hP1⟩:=hra
      obtain ⟨_,_,_,_,_,_,_,_,c9⟩:=hP1.own
      have hbw : Below w.heap.size w wr:=hb0.trans (hP1.bel.mono (by omega))
      have l0:=block_lt_of_cell (hpc 0 _ rfl)
      simp only at l0
      have s0:=(hbw.cell (p:=⟨pb,po + m * 2,none⟩) l0).trans (hpc 0 _ rfl)
      have s1:=(hbw.cell (p:=⟨pb,po + m * 2 + 1,none⟩) l0).trans (hpc 1 _ rfl)
      obtain ⟨p1,p2⟩:=p
      simp only at s0 s1 hp1 hp2 HST
      have HR1:=hide (fun X=>rest_ref p1 k X (by omega) (by omega) hp1)
      have HR2:=hide (fun X=>rest_ref p2 k X (by omega) (by omega) hp2)
      obtain ⟨a1,ha1⟩ : ∃ a1,restM p1 k = a1:=⟨_,rfl⟩
      obtain ⟨a2,ha2⟩ : ∃ a2,restM p2 k = a2:=⟨_,rfl⟩
      rw [ha1] at HR1 HST
      rw [ha2] at HR2 HST
      clear ha1 ha2 hturn hP1 hbw hpc hp hp1 hp2 hdis l0
      go_wp2_with (first
       | (go_at_call_of 61 p1;refine (HR1.out _).mono ?_;rintro e w8 ⟨rfl,hw8⟩;subst hw8)
       | (go_at_call 61;refine (HR2.out _).mono ?_;rintro e w8 ⟨rfl,hw8⟩;subst hw8)
       | (go_at_call 62;refine HST.out.mono ?_;rintro e w9 ⟨rfl,hA9⟩))
      go_roundw
      case rel =>
       refine ⟨m + 1,by omega,by go_num,?_⟩
       by_cases hmN2 : m = N
       ·subst hmN2
        simp only [decide_true] at hA9
        exact .inr hA9
       ·rw [decide_eq_false hmN2] at hA9
        exact .inl ⟨hA9,by omega⟩
      case measure=>simp [intOf];omega
     ·have hcase : (m = sl ∧ RefAt fs script seed x wq wq.heap.size rb yb gH gS k sl false wr ∧ sl ≤ N) ∨ RefAt fs script seed x wq wq.heap.size rb yb gH gS k (N + 1) true wr:=by
       rcases hdis with ⟨h1,h2⟩ | h1
       ·have : m = sl:=by
         by_cases e : m = sl
         ·exact e
         ·exact absurd ⟨by omega,h1,h2⟩ hgo
        subst this
        exact .inl ⟨rfl,h1,h2⟩
       ·exact .inr h1
      have HDIS : Hid (∃ q : Nat,q = 0 ∧ ((RefAt fs script seed x wq wq.heap.size rb yb gH gS k (sl + q * k) false wr ∧ sl + q * k ≤ N) ∨ RefAt fs script seed x wq wq.heap.size rb yb gH gS k (N + 1) true wr)):=by
       refine ⟨0,rfl,?_⟩
       rw [Nat.zero_mul,Nat.add_zero]
       rcases hcase with ⟨_,h1,h2⟩ | h1
       ·exact .inl ⟨h1,h2⟩
       ·exact .inr h1
      have hexit : (¬ (m : Int) < sl) ∨ ((m : Int) < sl ∧ wr.cell? ⟨yb,9,none⟩ = some (.bool true)):=by
       rcases hcase with ⟨h1,_,_⟩ | ⟨_,_,_,_,h1⟩
       ·exact .inl (by omega)
       ·by_cases e : (m : Int) < sl
        ·exact .inr ⟨e,h1.own.2.2.2.2.2.2.2.2⟩
        ·exact .inl e
      clear hdis hgo hcase
      rcases hexit with hx1 | ⟨hx1,hx2⟩
      all_goals
       go_wp2
       go_loopw [17] (fun i wr=>∃ q : Nat,i = .int .i64 q ∧ ((RefAt fs script seed x wq wq.heap.size rb yb gH gS k (sl + q * k) false wr ∧ sl + q * k ≤ N) ∨ RefAt fs script seed x wq wq.heap.size rb yb gH gS k (N + 1) true wr)) (fun i _=>N + 1 - (intOf i).toNat)
       case atStart =>
        obtain ⟨q,rfl,hq⟩:=HDIS.out
        exact ⟨0,rfl,hq⟩
       case round =>
        obtain ⟨q,rfl,hdis⟩:=hrel
        rcases hdis with ⟨hra,hqN⟩ | hra
        ·have hqq : q ≤ N:=by
          have:=Nat.mul_le_mul_left q hk1
          omega
         have HRA:=hide hra
         obtain ⟨_,_,_,_,hP1⟩:=hra
         have c9:=hP1.own.2.2.2.2.2.2.2.2
         clear hP1
         go_wp2
         go_loopw [18] (fun i wr=>∃ u : Nat,u ≤ k ∧ i = .int .i64 u ∧ ((RefAt fs script seed x wq wq.heap.size rb yb gH gS k (sl + q * k + u) false wr ∧ sl + q * k + u ≤ N) ∨ RefAt fs script seed x wq wq.heap.size rb yb gH gS k (N + 1) true wr)) (fun i _=>k - (intOf i).toNat)
         case atStart=>exact ⟨0,by omega,rfl,.inl ⟨HRA.out,hqN⟩⟩
         case round =>
          clear c9
          obtain ⟨u,huk,rfl,hdis⟩:=hrel
          by_cases hgo : u < k ∧ RefAt fs script seed x wq wq.heap.size rb yb gH gS k (sl + q * k + u) false wr ∧ sl + q * k + u ≤ N
          ·obtain ⟨hul,hru,huN⟩:=hgo
           have hui : (u : Int) < k:=by omega
           have hturn : turnM k script (sl + q * k + u) = (u,(u + 1 + q) % k):=by
            unfold turnM
            rw [List.getElem?_eq_none (by rw [HSL.out];omega)]
            simp only
            rw [HSL.out,show sl + q * k + u - sl = q * k + u by omega]
            have e1 : (q * k + u) % k = u:=by rw [Nat.add_comm,Nat.add_mul_mod_self_right,Nat.mod_eq_of_lt hul]
            have e2 : (q * k + u) / k = q:=by
             rw [Nat.mul_comm q k,Nat.mul_add_div (by omega),Nat.div_eq_of_lt hul,Nat.add_zero]
            rw [e1,e2]
           have HST:=hide (HSTEP.out _ wr huN hru)
           rw [hturn] at HST
           simp only at HST
           have hrem : ((u : Int) + 1 + q).tmod k = (((u + 1 + q) % k : Nat) : Int):=by
            rw [Int.tmod_eq_emod_of_nonneg (by omega),Int.natCast_emod]
            push_cast
            rfl
           obtain ⟨v2,hv2⟩ : ∃ v2,(u + 1 + q) % k = v2:=⟨_,rfl⟩
           rw [hv2] at HST hrem
           obtain ⟨_,_,_,_,hP1⟩:=hru
           have c9:=hP1.own.2.2.2.2.2.2.2.2
           have hkn0 : ¬ (k : Int) = 0:=by omega
           have hkn1 : ¬ (k : Int) = -1:=by omega
           clear hP1 hv2 hturn hdis
           go_wp2_with (go_at_call 62;refine HST.out.mono ?_;rintro e w9 ⟨rfl,hA9⟩)
           go_roundw
           case rel =>
            refine ⟨u + 1,by omega,by go_num,?_⟩
            by_cases hmN2 : sl + q * k + u = N
            ·rw [decide_eq_true hmN2,hmN2] at hA9
             exact .inr hA9
            ·rw [decide_eq_false hmN2] at hA9
             exact .inl ⟨hA9,by omega⟩
           case measure=>simp [intOf];omega
          ·have hcase : (u = k ∧ RefAt fs script seed x wq wq.heap.size rb yb gH gS k (sl + (q + 1) * k) false wr ∧ sl + (q + 1) * k ≤ N) ∨ RefAt fs script seed x wq wq.heap.size rb yb gH gS k (N + 1) true wr:=by
            rcases hdis with ⟨h1,h2⟩ | h1
            ·have : u = k:=by
              by_cases e : u = k
              ·exact e
              ·exact absurd ⟨by omega,h1,h2⟩ hgo
             subst this
             rw [show sl + q * u + u = sl + (q + 1) * u by rw [Nat.add_mul];omega] at h1 h2
             exact .inl ⟨rfl,h1,h2⟩
            ·exact .inr h1
           have HDI2 : Hid ((RefAt fs script seed x wq wq.heap.size rb yb gH gS k (sl + (q + 1) * k) false wr ∧ sl + (q + 1) * k ≤ N) ∨ RefAt fs script seed x wq wq.heap.size rb yb gH gS k (N + 1) true wr):=by
            rcases hcase with ⟨_,h1,h2⟩ | h1
            ·exact .inl ⟨h1,h2⟩
            ·exact .inr h1
           have hexit : (¬ (u : Int) < k) ∨ ((u : Int) < k ∧ wr.cell? ⟨yb,9,none⟩ = some (.bool true)):=by
            rcases hcase with ⟨h1,_,_⟩ | ⟨_,_,_,_,h1⟩
            ·exact .inl (by omega)
            ·by_cases e : (u : Int) < k
             ·exact .inr ⟨e,h1.own.2.2.2.2.2.2.2.2⟩
             ·exact .inl e
           clear hdis hgo hcase
           rcases hexit with hx3 | ⟨hx3,hx4⟩
           all_goals
            go_wp2
            go_roundw
            case rel=>exact ⟨q + 1,by go_num,HDI2.out⟩
            case measure=>simp [intOf];omega
        ·obtain ⟨ge,ce,tve,use,hP1⟩:=hra
         have c9:=hP1.own.2.2.2.2.2.2.2.2
         have et : trAt fs k script seed x (N + 1) = trAt fs k script seed x N:=by
          show trAt fs k script seed x N ++ _ = _
          rw [HN.out.1]
          simp [Rs.ev]
         have es : stealsAt fs k script seed x (N + 1) = stealsAt fs k script seed x N:=by
          show stealsAt fs k script seed x N + _ = _
          rw [HN.out.1]
          rfl
         have ef : failsAt fs k script seed x (N + 1) = failsAt fs k script seed x N:=by
          show failsAt fs k script seed x N + _ = _
          rw [HN.out.1]
          rfl
         rw [et,es,ef] at hP1
         obtain ⟨ta,tc,rfl⟩:=own_form hP1.trc
         have hbw : Below w.heap.size w wr:=hb0.trans (hP1.bel.mono (by omega))
         have HPE:=hide hP1
         have HBW:=hide hbw
         clear hP1 hbw et es ef
         go_wp2_with (go_at_call 25;refine (HFC.out _ HBW.out).mono ?_;rintro e w8 ⟨rfl,hb8⟩;have h8:=HPE.out.below hb8;have y8:=blk_cell (i:=8) h8.blk rfl;have z8:=h8.ofz 8)
         have hb9 : Below w.heap.size w w8:=hb0.trans (h8.bel.mono (by omega))
         have hqW : qb < wq.heap.size:=by omega
         have hyq : ¬ qb = yb:=by omega
         have hyq2 : ¬ yb = qb:=by omega
         obtain ⟨n0,hn0⟩ : ∃ n0,N + 1 = n0:=⟨_,rfl⟩
         obtain ⟨n1,hn1⟩ : ∃ n1,stealsAt fs k script seed x N = n1:=⟨_,rfl⟩
         obtain ⟨n2,hn2⟩ : ∃ n2,failsAt fs k script seed x N = n2:=⟨_,rfl⟩
         obtain ⟨ff,hff⟩ : ∃ ff,framesC fs = ff:=⟨_,rfl⟩
         obtain ⟨tr,htr⟩ : ∃ tr,trAt fs k script seed x N = tr:=⟨_,rfl⟩
         rw [hn0,hn1,hn2,htr] at h8
         have HFF:=hide hff
         have HN0:=hide hn0
         have HN1:=hide hn1
         have HN2:=hide hn2
         have HTR:=hide htr
         rw [hff]
         have hv : (w8.setCell ⟨yb,8,none⟩ (.int .i64 (ff : Int))).heap[yb]? = some (.cells #[.pointer (some ⟨rb,0,none⟩),.slice (some ⟨ge,0,none⟩) (stAt fs k script seed x n0).ts.length ce,.slice (some ⟨gH,0,none⟩) k k,.slice (some ⟨gS,0,none⟩) k k,.slice ta tr.length tc,.int .i64 (n0 : Int),.int .i64 (n1 : Int),.int .i64 (n2 : Int),.int .i64 (ff : Int),.bool true] 147 (0,0)):=by
          rw [blk_put h8.blk]
          rfl
         have hqv : (w8.setCell ⟨yb,8,none⟩ (.int .i64 (ff : Int))).heap[qb]? = some (.cells #[.int .i64 0,.int .i64 0,.int .i64 0,.int .i64 0] 67 (0,0)):=blk_set ((h8.bel.block qb hqW).trans hq0) hyq _ _
         have hbV : Below w.heap.size w (w8.setCell ⟨yb,8,none⟩ (.int .i64 (ff : Int))):=hb9.setCell (p:=⟨yb,8,none⟩) (by show w.heap.size ≤ yb;omega) _
         have htv:=own_set h8.trc h8.t_y 8 (.int .i64 (ff : Int))
         generalize w8.setCell ⟨yb,8,none⟩ (.int .i64 (ff : Int)) = V at hv hqv hbV htv ⊢
         have v4:=blk_cell (i:=4) hv rfl
         have v5:=blk_cell (i:=5) hv rfl
         have v6:=blk_cell (i:=6) hv rfl
         have v7:=blk_cell (i:=7) hv rfl
         have v8:=blk_cell (i:=8) hv rfl
         have q0:=blk_cell (i:=0) hqv rfl
         have q1:=blk_cell (i:=1) hqv rfl
         have q2:=blk_cell (i:=2) hqv rfl
         have q3:=blk_cell (i:=3) hqv rfl
         have qz0:=blk_frz hqv 0
         have qz1:=blk_frz hqv 1
         have qz2:=blk_frz hqv 2
         have qz3:=blk_frz hqv 3
         have HTV:=hide htv
         have HQV:=hide hqv
         have HBV:=hide hbV
         clear h8 hb9 hv hqv hbV htv y8 z8 hb8 HPE HBW hff hn0 hn1 hn2 htr c9
         go_region_held3 (fun Z : World=>Z.cell? ⟨yb,4,none⟩ = some (.slice ta tr.length tc) ∧ Z.cell? ⟨yb,5,none⟩ = some (.int .i64 (n0 : Int)) ∧ Z.cell? ⟨yb,6,none⟩ = some (.int .i64 (n1 : Int)) ∧ Z.cell? ⟨yb,7,none⟩ = some (.int .i64 (n2 : Int)) ∧ Z.cell? ⟨yb,8,none⟩ = some (.int .i64 (ff : Int)))
          (go_keep)
          (fail)
         all_goals
          go_wp2
          have hU : ((((V.setCell ⟨qb,0,none⟩ (.int .i64 (n0 : Int))).setCell ⟨qb,1,none⟩ (.int .i64 (n1 : Int))).setCell ⟨qb,2,none⟩ (.int .i64 (n2 : Int))).setCell ⟨qb,3,none⟩ (.int .i64 (ff : Int))).drew.heap[qb]? = some (.cells #[.int .i64 (n0 : Int),.int .i64 (n1 : Int),.int .i64 (n2 : Int),.int .i64 (ff : Int)] 67 (0,0)):=blk_put (blk_put (blk_put (blk_put HQV.out 0 _) 1 _) 2 _) 3 _
          have hbt : (Value.slice ta tr.length tc).ownBlock ≠ some qb:=fun e=>by
           have:=(HTV.out.lt qb e).1
           omega
          have htU : ((((V.setCell ⟨qb,0,none⟩ (.int .i64 (n0 : Int))).setCell ⟨qb,1,none⟩ (.int .i64 (n1 : Int))).setCell ⟨qb,2,none⟩ (.int .i64 (n2 : Int))).setCell ⟨qb,3,none⟩ (.int .i64 (ff : Int))).drew.ownsRow wq.heap.size 89 3 (.slice ta tr.length tc) tr.length (evCells tr):=own_set (own_set (own_set (own_set HTV.out hbt _ _) hbt _ _) hbt _ _) hbt _ _
          have hwb : w.heap.size ≤ qb:=by omega
          have hbU : Below w.heap.size w ((((V.setCell ⟨qb,0,none⟩ (.int .i64 (n0 : Int))).setCell ⟨qb,1,none⟩ (.int .i64 (n1 : Int))).setCell ⟨qb,2,none⟩ (.int .i64 (n2 : Int))).setCell ⟨qb,3,none⟩ (.int .i64 (ff : Int))).drew:=by
           have:=((((HBV.out.setCell (p:=⟨qb,0,none⟩) hwb (.int .i64 (n0 : Int))).setCell (p:=⟨qb,1,none⟩) hwb (.int .i64 (n1 : Int))).setCell (p:=⟨qb,2,none⟩) hwb (.int .i64 (n2 : Int))).setCell (p:=⟨qb,3,none⟩) hwb (.int .i64 (ff : Int)))
           exact ⟨this.os,this.tape,this.output,this.size,this.block⟩
          generalize ((((V.setCell ⟨qb,0,none⟩ (.int .i64 (n0 : Int))).setCell ⟨qb,1,none⟩ (.int .i64 (n1 : Int))).setCell ⟨qb,2,none⟩ (.int .i64 (n2 : Int))).setCell ⟨qb,3,none⟩ (.int .i64 (ff : Int))).drew = U at hU htU hbU ⊢
          have u0:=blk_cell (i:=0) hU rfl
          have u1:=blk_cell (i:=1) hU rfl
          have u2:=blk_cell (i:=2) hU rfl
          have u3:=blk_cell (i:=3) hU rfl
          refine bodyPost_ret (v:=.tuple #[.slice ta tr.length tc,.agg #[.int .i64 (n0 : Int),.int .i64 (n1 : Int),.int .i64 (n2 : Int),.int .i64 (ff : Int)]]) (by simp only [results,Tryz.f43,go_sem];simp [go_sem,u0,u1,u2,u3];done) rfl ⟨ta,tc,?_,?_,hbU⟩
          ·rw [HTR.out,HN0.out,HN1.out,HN2.out,HFF.out]
          ·rw [HTR.out]
           exact own_rd (base:=wq.heap.size) (e:=89) (by rw [← evCells_flat];exact htU) evvals_len (fun _ _=>trivial)
end Go.Proofs.YtkmakliebhnhbaaGreat
