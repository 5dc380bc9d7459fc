import Derived.Deep.RegionHeld3
import Derived.Test.YtkmakliebhnhbaaGreatRpH
namespace Go.Proofs.YtkmakliebhnhbaaGreat
open Go.RowKit Go.Shelf
theorem Tryz.infoFrm : (Tryz.prog.info? 143).map (fun i=>(i.zero,i.size,i.bytes)) = some (some (.agg #[.int .i64 0,.int .i64 0,.int .i64 0,.int .i64 0,.int .u64 0,.int .i64 0,.bool false,.int .i64 0,.bool false]),9,72):=by kernel_rfl
section
variable {fs : List (List Ins)} {w0 W : World} {B rb yb g gH gS k cap : Nat} {s : St} {tv : Value} {us : List Value} {tr : List Ev} {n0 n1 n2 : Nat}
set_option maxHeartbeats 8000000 in
set_option maxRecDepth 100000 in
theorem begin_op {op : Int} {cb : Bool} (hop : (op = 4 ∧ cb = true) ∨ (op = 3 ∧ cb = false)) (h : PlayM fs w0 W B rb yb g gH gS k cap s tv us tr n0 n1 n2 false) {a : Nat} {t t' : Tk} {F R K L : Int} (ha : a < s.ts.length) (ht : s.t a = t) (hl : s.ts.length ≤ 100000) (hr0 : 0 ≤ t.r) (hr1 : t.r ≤ 10) (ht' : frV fs t' = [.int .i64 F,.int .i64 (wrap64 (K + wrap64 (L * t.x))),.int .i64 0,.int .i64 0,.int .u64 (stepZ t.h t.r),.int .i64 (a : Int),.bool cb,.int .i64 0,.bool false]) (hs' : Suf fs t') :
    Calls Tryz.prog 81 #[.pointer (some ⟨yb,0,none⟩),.int .i64 (a : Int),.agg #[.int .i64 op,.int .i64 F,.int .i64 R,.int .i64 K,.int .i64 L]] W fun e w'=>e = .returned (.int .i64 (s.ts.length : Int)) ∧ (∃ g' cap',PlayM fs w0 w' B rb yb g' gH gS k cap' (({ s with ts:=s.ts ++ [t'] } : St).putT a { t with r:=t.r + 1 }) tv us tr n0 n1 n2 false) ∧ ∀ c,c < W.heap.size → c ≠ yb → c ≠ g → w'.heap[c]? = W.heap[c]?:=by
  have HOP:=hide hop
  clear hop
  obtain ⟨iv,hiv,hv0,hv1,hv2⟩:=info_parts Tryz.infoFrm
  have HST:=hide (fun X=>step_any t.h t.r X hr0 (by omega))
  obtain ⟨sz,hsz⟩ : ∃ sz,stepZ t.h t.r = sz:=⟨_,rfl⟩
  rw [hsz] at HST ht'
  clear hsz
  have hgW : g < W.heap.size:=(h.fr.lt g rfl).2
  have hyW : yb < W.heap.size:=(Array.getElem?_eq_some_iff.1 h.blk).1
  have HB1:=new_blk W (.cells #[.int .i64 op,.int .i64 F,.int .i64 R,.int .i64 K,.int .i64 L] 45)
  have h1:=h.below HB1
  obtain ⟨_,c1,_,_,_,_,_,_,_⟩:=h1.own
  obtain ⟨f0,f1,f2,f3,f4,f5,f6,f7,f8⟩:=h1.nine ha ht
  have hsu : Suf fs t:=h.suf t (by rw [← ht];exact St.t_mem ha)
  have HSU:=hide hsu
  have HT:=hide ht
  have HT':=hide ht'
  have HS':=hide hs'
  have HH:=hide h
  obtain ⟨nx,hnx⟩ : ∃ nx,nextOf fs t = nx:=⟨_,rfl⟩
  rw [hnx] at f2
  obtain ⟨n,hne⟩ : ∃ n,s.ts.length = n:=⟨_,rfl⟩
  rw [hne] at c1 hl ha
  have HNE:=hide hne
  have hai : (a : Int) < (n : Int):=by omega
  clear h h1 ht ht' hs' hnx hsu HB1
  rw [hne]
  clear hne
  go_enter Tryz.func81,Tryz.ntmps81
  go_wp2
  rename_i K0 hK0
  have hP:=(HH.out.below (new_blk W (.cells #[.int .i64 op,.int .i64 F,.int .i64 R,.int .i64 K,.int .i64 L] 45))).below (new_blk _ (.cells #[.int .i64 (t.f : Int),.int .i64 t.x,.int .i64 (nx : Int),.int .i64 t.r,.int .u64 t.h,.int .i64 (fromZ t),.bool (calledB t),.int .i64 t.out,.bool t.asd] 143))
  have hib : ((W.alloc (.cells #[.int .i64 op,.int .i64 F,.int .i64 R,.int .i64 K,.int .i64 L] 45)).alloc (.cells #[.int .i64 (t.f : Int),.int .i64 t.x,.int .i64 (nx : Int),.int .i64 t.r,.int .u64 t.h,.int .i64 (fromZ t),.bool (calledB t),.int .i64 t.out,.bool t.asd] 143)).heap[W.heap.size]? = some (.cells #[.int .i64 op,.int .i64 F,.int .i64 R,.int .i64 K,.int .i64 L] 45 (0,0)):=(Below.heap_alloc _ _ _ (by simp)).trans (heap_new W _)
  have hfb : ((W.alloc (.cells #[.int .i64 op,.int .i64 F,.int .i64 R,.int .i64 K,.int .i64 L] 45)).alloc (.cells #[.int .i64 (t.f : Int),.int .i64 t.x,.int .i64 (nx : Int),.int .i64 t.r,.int .u64 t.h,.int .i64 (fromZ t),.bool (calledB t),.int .i64 t.out,.bool t.asd] 143)).heap[W.heap.size + 1]? = some (.cells #[.int .i64 (t.f : Int),.int .i64 t.x,.int .i64 (nx : Int),.int .i64 t.r,.int .u64 t.h,.int .i64 (fromZ t),.bool (calledB t),.int .i64 t.out,.bool t.asd] 143 (0,0)):=by
    have:=heap_new (W.alloc (.cells #[.int .i64 op,.int .i64 F,.int .i64 R,.int .i64 K,.int .i64 L] 45)) (.cells #[.int .i64 (t.f : Int),.int .i64 t.x,.int .i64 (nx : Int),.int .i64 t.r,.int .u64 t.h,.int .i64 (fromZ t),.bool (calledB t),.int .i64 t.out,.bool t.asd] 143)
    rw [World.size_alloc] at this
    exact this
  have hbY : Below W.heap.size W ((W.alloc (.cells #[.int .i64 op,.int .i64 F,.int .i64 R,.int .i64 K,.int .i64 L] 45)).alloc (.cells #[.int .i64 (t.f : Int),.int .i64 t.x,.int .i64 (nx : Int),.int .i64 t.r,.int .u64 t.h,.int .i64 (fromZ t),.bool (calledB t),.int .i64 t.out,.bool t.asd] 143)):=((Below.refl _ W).alloc (Nat.le_refl _) _).alloc (by simp) _
  generalize ((W.alloc (.cells #[.int .i64 op,.int .i64 F,.int .i64 R,.int .i64 K,.int .i64 L] 45)).alloc (.cells #[.int .i64 (t.f : Int),.int .i64 t.x,.int .i64 (nx : Int),.int .i64 t.r,.int .u64 t.h,.int .i64 (fromZ t),.bool (calledB t),.int .i64 t.out,.bool t.asd] 143)) = YB at hP hib hfb hbY ⊢
  obtain ⟨ib,hibe⟩ : ∃ ib,W.heap.size = ib:=⟨_,rfl⟩
  obtain ⟨fb,hfbe⟩ : ∃ fb,ib + 1 = fb:=⟨_,rfl⟩
  rw [hibe] at hib hfb hgW hyW hbY
  rw [hfbe] at hfb
  rw [hibe,hfbe]
  have hD : PlayM fs w0 YB.drew B rb yb g gH gS k cap s tv us tr n0 n1 n2 false:=hP.below (W':=YB.drew) ⟨rfl,rfl,rfl,Nat.le_refl _,fun _ _=>rfl⟩
  have hYs : fb < YB.heap.size:=(Array.getElem?_eq_some_iff.1 hfb).1
  have HFIN : Hid (∀ (a7 : Option Addr) (c7 : Nat) (w7 : World),w7.ownsRow B 143 9 (.slice a7 (n + 1) c7) (n + 1) (flat (frV fs) s.ts ++ (#[.int .i64 F,.int .i64 (wrap64 (K + wrap64 (L * t.x))),.int .i64 0,.int .i64 0,.int .u64 sz,.int .i64 (a : Int),.bool cb,.int .i64 0,.bool false] : Array Value).toList) → (YB.drew.alloc (.cells #[.int .i64 F,.int .i64 (wrap64 (K + wrap64 (L * t.x))),.int .i64 0,.int .i64 0,.int .u64 sz,.int .i64 (a : Int),.bool cb,.int .i64 0,.bool false] 143)).grownBy w7 (some g) → ((Value.slice a7 (n + 1) c7).ownBlock = (Value.slice (some ⟨g,0,none⟩) n cap).ownBlock ∨ (Value.slice a7 (n + 1) c7).ownBlock = some (YB.drew.alloc (.cells #[.int .i64 F,.int .i64 (wrap64 (K + wrap64 (L * t.x))),.int .i64 0,.int .i64 0,.int .u64 sz,.int .i64 (a : Int),.bool cb,.int .i64 0,.bool false] 143)).heap.size) →
      ∃ g7,a7 = some ⟨g7,0,none⟩ ∧ PlayM fs w0 (w7.setCell ⟨yb,1,none⟩ (.slice a7 (n + 1) c7)) B rb yb g7 gH gS k c7 { s with ts:=s.ts ++ [t'] } tv us tr n0 n1 n2 false ∧ w7.heap[ib]? = some (.cells #[.int .i64 op,.int .i64 F,.int .i64 R,.int .i64 K,.int .i64 L] 45 (0,0)) ∧ w7.heap[fb]? = some (.cells #[.int .i64 (t.f : Int),.int .i64 t.x,.int .i64 (nx : Int),.int .i64 t.r,.int .u64 t.h,.int .i64 (fromZ t),.bool (calledB t),.int .i64 t.out,.bool t.asd] 143 (0,0)) ∧ w7.cell? ⟨yb,1,none⟩ = some (.slice (some ⟨g,0,none⟩) n cap) ∧ w7.frozen? ⟨yb,1,none⟩ = false ∧ (g7 = g ∨ ib ≤ g7) ∧ ∀ c,c < ib → c ≠ g → w7.heap[c]? = W.heap[c]?):=fun a7 c7 w7 ho hg hl7=>by
    obtain ⟨g7,rfl⟩ : ∃ g7,a7 = some ⟨g7,0,none⟩:=by
      rcases ho.2 with ⟨_,h0⟩ | ⟨g7,_,_,he,_⟩
      · omega
      · injection he with e1 _ _
        exact ⟨g7,e1⟩
    have ho2 : w7.ownsRow B 143 9 (.slice (some ⟨g7,0,none⟩) (s.ts.length + 1) c7) (s.ts.length + 1) (flat (frV fs) s.ts ++ frV fs t'):=by
      rw [HT'.out,HNE.out]
      exact ho
    have hnf:=hD.newFrame hg ho2 HS'.out
    rw [HNE.out] at hnf
    have e1:=grown_blk hg (c:=ib) (x:=_) hib (by simp;omega)
    have e2:=grown_blk hg (c:=fb) (x:=_) hfb (by simp;omega)
    have e3:=grown_blk hg hD.blk (by simp;exact hD.fr_y)
    rw [HNE.out] at e3
    refine ⟨g7,rfl,hnf,e1,e2,blk_cell e3 rfl,blk_frz e3 1,?_,fun c hc hcg=>?_⟩
    · have hyd : YB.drew.heap.size = YB.heap.size:=rfl
      simp [Value.ownBlock,hyd] at hl7
      omega
    · rw [hg.block c (by simp;show c < YB.heap.size + 1;omega) (by simp;exact fun e=>hcg e),Below.heap_alloc _ _ _ (show c < YB.drew.heap.size from (by show c < YB.heap.size;omega))]
      exact hbY.block c hc
  have HFR : Hid (YB.drew.ownsRow B 143 9 (.slice (some ⟨g,0,none⟩) n cap) n (flat (frV fs) s.ts)):=by
    have:=hD.fr
    rw [HNE.out] at this
    exact this
  have hBY : B ≤ YB.heap.size:=by have:=(Array.getElem?_eq_some_iff.1 hP.blk).1;have:=hP.yB;omega
  have hiy : ib ≠ yb:=by omega
  have hfy : fb ≠ yb:=by omega
  have s0:=blk_cell (i:=0) hib rfl
  have s1:=blk_cell (i:=1) hib rfl
  have s3:=blk_cell (i:=3) hib rfl
  have s4:=blk_cell (i:=4) hib rfl
  have f1:=blk_cell (i:=1) hfb rfl
  have f3:=blk_cell (i:=3) hfb rfl
  have f4:=blk_cell (i:=4) hfb rfl
  obtain ⟨_,yc,_,_,_,_,_,_,_⟩:=hP.own
  rw [HNE.out] at yc
  have yc2 : ∀ o,(YB.alloc o).cell? ⟨yb,1,none⟩ = some (.slice (some ⟨g,0,none⟩) n cap):=fun o=>cell_al yc o
  have hS0 : (fun Z : World=>Z.cell? ⟨ib,0,none⟩ = some (.int .i64 op) ∧ Z.cell? ⟨ib,1,none⟩ = some (.int .i64 F) ∧ Z.cell? ⟨ib,3,none⟩ = some (.int .i64 K) ∧ Z.cell? ⟨ib,4,none⟩ = some (.int .i64 L) ∧ Z.cell? ⟨fb,1,none⟩ = some (.int .i64 t.x) ∧ Z.cell? ⟨fb,3,none⟩ = some (.int .i64 t.r) ∧ Z.cell? ⟨fb,4,none⟩ = some (.int .u64 t.h)) YB.drew:=⟨s0,s1,s3,s4,f1,f3,f4⟩
  clear hP hD hib hfb hbY c1 f0 f2 f5 f6 f7 f8 HH
  refine wp_region_held_drew (S:=(fun Z : World=>Z.cell? ⟨ib,0,none⟩ = some (.int .i64 op) ∧ Z.cell? ⟨ib,1,none⟩ = some (.int .i64 F) ∧ Z.cell? ⟨ib,3,none⟩ = some (.int .i64 K) ∧ Z.cell? ⟨ib,4,none⟩ = some (.int .i64 L) ∧ Z.cell? ⟨fb,1,none⟩ = some (.int .i64 t.x) ∧ Z.cell? ⟨fb,3,none⟩ = some (.int .i64 t.r) ∧ Z.cell? ⟨fb,4,none⟩ = some (.int .u64 t.h))) (by kernel_rfl) hS0 (fun _=>?_)
  refine take_at 0 15 (.pointer (some ⟨yb,0,none⟩)) rfl rfl (by kernel_rfl) (by kernel_rfl) (by kernel_rfl) (fun _ _ _ h=>h) (by rfl) ?y0 hS0 ?_
  case y0 =>
    rintro Z ⟨g0,g1,g3,g4,x1,x3,x4⟩
    go_simp
  simp only [List.setIfInBounds_toArray,List.set_cons_zero,List.set_cons_succ]
  refine take_at 1 16 (.pointer (some ⟨yb,0,none⟩)) rfl rfl (by kernel_rfl) (by kernel_rfl) (by kernel_rfl) (fun _ _ _ h=>h) (by rfl) ?y1 hS0 ?_
  case y1 =>
    rintro Z ⟨g0,g1,g3,g4,x1,x3,x4⟩
    go_simp
  simp only [List.setIfInBounds_toArray,List.set_cons_zero,List.set_cons_succ]
  refine take_at 2 17 (.pointer (some ⟨yb,0,none⟩)) rfl rfl (by kernel_rfl) (by kernel_rfl) (by kernel_rfl) (fun _ _ _ h=>h) (by rfl) ?y2 hS0 ?_
  case y2 =>
    rintro Z ⟨g0,g1,g3,g4,x1,x3,x4⟩
    go_simp
  simp only [List.setIfInBounds_toArray,List.set_cons_zero,List.set_cons_succ]
  refine take_at 3 18 (.pointer (some ⟨yb,1,none⟩)) rfl rfl (by kernel_rfl) (by kernel_rfl) (by kernel_rfl) (fun _ _ _ h=>h) (by rfl) ?y3 hS0 ?_
  case y3 =>
    rintro Z ⟨g0,g1,g3,g4,x1,x3,x4⟩
    go_simp
  simp only [List.setIfInBounds_toArray,List.set_cons_zero,List.set_cons_succ]
  refine take_at 5 20 (.pointer (some ⟨ib,1,none⟩)) rfl rfl (by kernel_rfl) (by kernel_rfl) (by kernel_rfl) (fun _ _ _ h=>h) (by rfl) ?y5 hS0 ?_
  case y5 =>
    rintro Z ⟨g0,g1,g3,g4,x1,x3,x4⟩
    go_simp
  simp only [List.setIfInBounds_toArray,List.set_cons_zero,List.set_cons_succ]
  refine take_at 6 21 (.int .i64 F) rfl rfl (by kernel_rfl) (by kernel_rfl) (by kernel_rfl) (fun _ _ _ h=>h) (by rfl) ?y6 hS0 ?_
  case y6 =>
    rintro Z ⟨g0,g1,g3,g4,x1,x3,x4⟩
    go_simp
  simp only [List.setIfInBounds_toArray,List.set_cons_zero,List.set_cons_succ]
  refine take_at 7 22 (.pointer (some ⟨ib,3,none⟩)) rfl rfl (by kernel_rfl) (by kernel_rfl) (by kernel_rfl) (fun _ _ _ h=>h) (by rfl) ?y7 hS0 ?_
  case y7 =>
    rintro Z ⟨g0,g1,g3,g4,x1,x3,x4⟩
    go_simp
  simp only [List.setIfInBounds_toArray,List.set_cons_zero,List.set_cons_succ]
  refine take_at 8 23 (.int .i64 K) rfl rfl (by kernel_rfl) (by kernel_rfl) (by kernel_rfl) (fun _ _ _ h=>h) (by rfl) ?y8 hS0 ?_
  case y8 =>
    rintro Z ⟨g0,g1,g3,g4,x1,x3,x4⟩
    go_simp
  simp only [List.setIfInBounds_toArray,List.set_cons_zero,List.set_cons_succ]
  refine take_at 9 24 (.pointer (some ⟨ib,4,none⟩)) rfl rfl (by kernel_rfl) (by kernel_rfl) (by kernel_rfl) (fun _ _ _ h=>h) (by rfl) ?y9 hS0 ?_
  case y9 =>
    rintro Z ⟨g0,g1,g3,g4,x1,x3,x4⟩
    go_simp
  simp only [List.setIfInBounds_toArray,List.set_cons_zero,List.set_cons_succ]
  refine take_at 10 25 (.int .i64 L) rfl rfl (by kernel_rfl) (by kernel_rfl) (by kernel_rfl) (fun _ _ _ h=>h) (by rfl) ?y10 hS0 ?_
  case y10 =>
    rintro Z ⟨g0,g1,g3,g4,x1,x3,x4⟩
    go_simp
  simp only [List.setIfInBounds_toArray,List.set_cons_zero,List.set_cons_succ]
  refine take_at 11 26 (.pointer (some ⟨fb,1,none⟩)) rfl rfl (by kernel_rfl) (by kernel_rfl) (by kernel_rfl) (fun _ _ _ h=>h) (by rfl) ?y11 hS0 ?_
  case y11 =>
    rintro Z ⟨g0,g1,g3,g4,x1,x3,x4⟩
    go_simp
  simp only [List.setIfInBounds_toArray,List.set_cons_zero,List.set_cons_succ]
  refine take_at 12 27 (.int .i64 t.x) rfl rfl (by kernel_rfl) (by kernel_rfl) (by kernel_rfl) (fun _ _ _ h=>h) (by rfl) ?y12 hS0 ?_
  case y12 =>
    rintro Z ⟨g0,g1,g3,g4,x1,x3,x4⟩
    go_simp
  simp only [List.setIfInBounds_toArray,List.set_cons_zero,List.set_cons_succ]
  refine take_at 13 28 (.int .i64 (wrap64 (L * t.x))) rfl rfl (by kernel_rfl) (by kernel_rfl) (by kernel_rfl) (fun _ _ _ h=>h) (by rfl) ?y13 hS0 ?_
  case y13 =>
    rintro Z ⟨g0,g1,g3,g4,x1,x3,x4⟩
    go_simp
    try exact wrap_i64' _
  simp only [List.setIfInBounds_toArray,List.set_cons_zero,List.set_cons_succ]
  refine take_at 14 29 (.int .i64 (wrap64 (K + wrap64 (L * t.x)))) rfl rfl (by kernel_rfl) (by kernel_rfl) (by kernel_rfl) (fun _ _ _ h=>h) (by rfl) ?y14 hS0 ?_
  case y14 =>
    rintro Z ⟨g0,g1,g3,g4,x1,x3,x4⟩
    go_simp
    try exact wrap_i64' _
  simp only [List.setIfInBounds_toArray,List.set_cons_zero,List.set_cons_succ]
  refine take_at 15 30 (.pointer (some ⟨fb,4,none⟩)) rfl rfl (by kernel_rfl) (by kernel_rfl) (by kernel_rfl) (fun _ _ _ h=>h) (by rfl) ?y15 hS0 ?_
  case y15 =>
    rintro Z ⟨g0,g1,g3,g4,x1,x3,x4⟩
    go_simp
  simp only [List.setIfInBounds_toArray,List.set_cons_zero,List.set_cons_succ]
  refine take_at 16 31 (.int .u64 t.h) rfl rfl (by kernel_rfl) (by kernel_rfl) (by kernel_rfl) (fun _ _ _ h=>h) (by rfl) ?y16 hS0 ?_
  case y16 =>
    rintro Z ⟨g0,g1,g3,g4,x1,x3,x4⟩
    go_simp
  simp only [List.setIfInBounds_toArray,List.set_cons_zero,List.set_cons_succ]
  refine take_at 17 32 (.pointer (some ⟨fb,3,none⟩)) rfl rfl (by kernel_rfl) (by kernel_rfl) (by kernel_rfl) (fun _ _ _ h=>h) (by rfl) ?y17 hS0 ?_
  case y17 =>
    rintro Z ⟨g0,g1,g3,g4,x1,x3,x4⟩
    go_simp
  simp only [List.setIfInBounds_toArray,List.set_cons_zero,List.set_cons_succ]
  refine take_at 18 33 (.int .i64 t.r) rfl rfl (by kernel_rfl) (by kernel_rfl) (by kernel_rfl) (fun _ _ _ h=>h) (by rfl) ?y18 hS0 ?_
  case y18 =>
    rintro Z ⟨g0,g1,g3,g4,x1,x3,x4⟩
    go_simp
  simp only [List.setIfInBounds_toArray,List.set_cons_zero,List.set_cons_succ]
  refine take_at 20 35 (.int .i64 (a : Int)) rfl rfl (by kernel_rfl) (by kernel_rfl) (by kernel_rfl) (fun _ _ _ h=>h) (by rfl) ?y20 hS0 ?_
  case y20 =>
    rintro Z ⟨g0,g1,g3,g4,x1,x3,x4⟩
    go_simp
  simp only [List.setIfInBounds_toArray,List.set_cons_zero,List.set_cons_succ]
  refine take_at 21 36 (.pointer (some ⟨ib,0,none⟩)) rfl rfl (by kernel_rfl) (by kernel_rfl) (by kernel_rfl) (fun _ _ _ h=>h) (by rfl) ?y21 hS0 ?_
  case y21 =>
    rintro Z ⟨g0,g1,g3,g4,x1,x3,x4⟩
    go_simp
  simp only [List.setIfInBounds_toArray,List.set_cons_zero,List.set_cons_succ]
  refine take_at 22 37 (.int .i64 op) rfl rfl (by kernel_rfl) (by kernel_rfl) (by kernel_rfl) (fun _ _ _ h=>h) (by rfl) ?y22 hS0 ?_
  case y22 =>
    rintro Z ⟨g0,g1,g3,g4,x1,x3,x4⟩
    go_simp
  simp only [List.setIfInBounds_toArray,List.set_cons_zero,List.set_cons_succ]
  refine take_at 23 38 (.bool cb) rfl rfl (by kernel_rfl) (by kernel_rfl) (by kernel_rfl) (fun _ _ _ h=>h) (by rfl) ?y23 hS0 ?_
  case y23 =>
    rintro Z ⟨g0,g1,g3,g4,x1,x3,x4⟩
    rcases HOP.out with ⟨h1,h2⟩ | ⟨h1,h2⟩ <;> subst h1 h2 <;> go_simp
  simp only [List.setIfInBounds_toArray,List.set_cons_zero,List.set_cons_succ]
  refine wpAnyH_ready (rs:=[4,19]) (by kernel_rfl) (by simp) ?_
  refine AllReadyH.cons rfl (fun K1 hK1=>?_) (AllReadyH.cons rfl (fun K1 hK1=>?_) AllReadyH.nil)
  · go_simp
    refine hK1.out _ _ hS0 (fun _=>?_)
    clear hK1 K1
    try simp only [Act.put,List.setIfInBounds_toArray,List.set_cons_zero,List.set_cons_succ]
    refine wpAnyH_ready (rs:=[19]) (by kernel_rfl) (by simp) ?_
    refine AllReadyH.cons rfl (fun K1 hK1=>?_) AllReadyH.nil
    go_simp
    refine (HST.out _).mono ?_
    rintro e w5 ⟨rfl,rfl⟩
    refine hK1.out _ _ hS0 (fun _=>?_)
    clear hK1 K1
    try simp only [Act.put,List.setIfInBounds_toArray,List.set_cons_zero,List.set_cons_succ]
    refine take_at 24 39 (.agg #[.int .i64 F,.int .i64 (wrap64 (K + wrap64 (L * t.x))),.int .i64 0,.int .i64 0,.int .u64 sz,.int .i64 (a : Int),.bool cb,.int .i64 0,.bool false]) rfl rfl (by kernel_rfl) (by kernel_rfl) (by kernel_rfl) (fun _ _ _ h=>h) (by rfl) ?ya24 hS0 ?_
    case ya24 =>
      rintro Z ⟨g0,g1,g3,g4,x1,x3,x4⟩
      go_simp
    simp only [List.setIfInBounds_toArray,List.set_cons_zero,List.set_cons_succ]
    refine wpAnyH_ready (rs:=[25]) (by kernel_rfl) (by simp) ?_
    refine AllReadyH.cons rfl (fun K1 hK1=>?_) AllReadyH.nil
    go_simp
    refine hK1.out _ _ ⟨cell_al s0 _,cell_al s1 _,cell_al s3 _,cell_al s4 _,cell_al f1 _,cell_al f3 _,cell_al f4 _⟩ (fun _=>?_)
    clear hK1 K1
    try simp only [Act.put,List.setIfInBounds_toArray,List.set_cons_zero,List.set_cons_succ]
    refine wpAnyH_ready (rs:=[26]) (by kernel_rfl) (by simp) ?_
    refine AllReadyH.cons rfl (fun K1 hK1=>?_) AllReadyH.nil
    refine step_app2 _ (by rfl) _ _ 144 (by rfl) B 143 iv _ 9 72 Tryz.underlying144 hiv hv0 hv1 hv2 (by rfl) (by decide) (.slice (some ⟨g,0,none⟩) n cap) n (flat (frV fs) s.ts) (by rfl) (by exact HFR.out.alloc _) (.slice (some ⟨YB.heap.size,0,none⟩) 1 1) 1 (#[.int .i64 F,.int .i64 (wrap64 (K + wrap64 (L * t.x))),.int .i64 0,.int .i64 0,.int .u64 sz,.int .i64 (a : Int),.bool cb,.int .i64 0,.bool false] : Array Value).toList (by rfl) (by exact srcA YB.drew _ _ _ 0 _ rfl rfl 9 1 rfl) (by simp [Value.oneCell']) (by unfold maxLen;omega) (by omega) (by simp;omega) ?_
    intro a7 c7 w7 ho7 hg7 _ hl7 _
    obtain ⟨g7,hg7e,hP7,e1,e2,e3,e4,hgg,hk7⟩:=HFIN.out a7 c7 w7 ho7 hg7 hl7
    subst hg7e
    have hS7 : (fun Z : World=>Z.cell? ⟨ib,0,none⟩ = some (.int .i64 op) ∧ Z.cell? ⟨ib,1,none⟩ = some (.int .i64 F) ∧ Z.cell? ⟨ib,3,none⟩ = some (.int .i64 K) ∧ Z.cell? ⟨ib,4,none⟩ = some (.int .i64 L) ∧ Z.cell? ⟨fb,1,none⟩ = some (.int .i64 t.x) ∧ Z.cell? ⟨fb,3,none⟩ = some (.int .i64 t.r) ∧ Z.cell? ⟨fb,4,none⟩ = some (.int .u64 t.h)) w7:=⟨blk_cell (i:=0) e1 rfl,blk_cell (i:=1) e1 rfl,blk_cell (i:=3) e1 rfl,blk_cell (i:=4) e1 rfl,blk_cell (i:=1) e2 rfl,blk_cell (i:=3) e2 rfl,blk_cell (i:=4) e2 rfl⟩
    have HP7:=hide hP7
    have HK7:=hide hk7
    clear hP7 ho7 hg7 hl7 hk7
    refine hK1.out _ _ hS7 (fun _=>?_)
    clear hK1 K1
    try simp only [Act.put,List.setIfInBounds_toArray]
    refine take_at 27 42 (.pointer (some ⟨yb,0,none⟩)) rfl rfl (by kernel_rfl) (by kernel_rfl) (by kernel_rfl) (fun _ _ _ h=>h) (by rfl) ?ya27 hS7 ?_
    case ya27 =>
      rintro Z ⟨g0,g1,g3,g4,x1,x3,x4⟩
      go_simp
    simp only [List.setIfInBounds_toArray,List.set_cons_zero,List.set_cons_succ]
    refine take_at 28 43 (.pointer (some ⟨yb,1,none⟩)) rfl rfl (by kernel_rfl) (by kernel_rfl) (by kernel_rfl) (fun _ _ _ h=>h) (by rfl) ?ya28 hS7 ?_
    case ya28 =>
      rintro Z ⟨g0,g1,g3,g4,x1,x3,x4⟩
      go_simp
    simp only [List.setIfInBounds_toArray,List.set_cons_zero,List.set_cons_succ]
    refine wpAnyH_ready (rs:=[29]) (by kernel_rfl) (by simp) ?_
    refine AllReadyH.cons rfl (fun K1 hK1=>?_) AllReadyH.nil
    go_simp
    refine hK1.out _ _ ⟨blk_cell (i:=0) (blk_set e1 hiy _ _) rfl,blk_cell (i:=1) (blk_set e1 hiy _ _) rfl,blk_cell (i:=3) (blk_set e1 hiy _ _) rfl,blk_cell (i:=4) (blk_set e1 hiy _ _) rfl,blk_cell (i:=1) (blk_set e2 hfy _ _) rfl,blk_cell (i:=3) (blk_set e2 hfy _ _) rfl,blk_cell (i:=4) (blk_set e2 hfy _ _) rfl⟩ (fun _=>?_)
    clear hK1 K1
    refine wpAnyH_done (by kernel_rfl) ?_ _
    obtain ⟨_,x1,_,_,_,_,_,_,_⟩:=HP7.out.own
    have hl8 : a < ({ s with ts:=s.ts ++ [t'] } : St).ts.length:=by simp [HNE.out];omega
    have ht8 : ({ s with ts:=s.ts ++ [t'] } : St).t a = t:=by rw [St.t_app,if_neg (by rw [HNE.out];omega)];exact HT.out
    have xR:=(HP7.out.nine hl8 ht8).2.2.2.1
    have xz:=HP7.out.frz (a * 9 + 3)
    have h9:=HP7.out.setFrame (i:=a) hl8 (t':={ t with r:=t.r + 1 }) (j:=3) (v:=.int .i64 (t.r + 1)) (by omega) (by rw [ht8];rfl) HSU.out
    obtain ⟨_,z1,_,_,_,_,_,_,_⟩:=h9.own
    have hlen8 : ({ s with ts:=s.ts ++ [t'] } : St).ts.length = n + 1:=by simp [HNE.out]
    rw [hlen8] at x1
    rw [St.putT_len,hlen8] at z1
    have H9:=hide h9
    clear h9 hl8 ht8 hlen8 HP7
    go_wp2
    go_ret
    exact ⟨rfl,⟨_,_,H9.out⟩,fun c hc h1 h2=>(Below.heap_setCell _ _ _ _ (show c ≠ g7 by omega)).trans ((Below.heap_setCell _ _ _ _ h1).trans (HK7.out c hc h2))⟩
  · go_simp
    refine (HST.out _).mono ?_
    rintro e w5 ⟨rfl,rfl⟩
    refine hK1.out _ _ hS0 (fun _=>?_)
    clear hK1 K1
    try simp only [Act.put,List.setIfInBounds_toArray,List.set_cons_zero,List.set_cons_succ]
    refine take_at 24 39 (.agg #[.int .i64 F,.int .i64 (wrap64 (K + wrap64 (L * t.x))),.int .i64 0,.int .i64 0,.int .u64 sz,.int .i64 (a : Int),.bool cb,.int .i64 0,.bool false]) rfl rfl (by kernel_rfl) (by kernel_rfl) (by kernel_rfl) (fun _ _ _ h=>h) (by rfl) ?yb24 hS0 ?_
    case yb24 =>
      rintro Z ⟨g0,g1,g3,g4,x1,x3,x4⟩
      go_simp
    simp only [List.setIfInBounds_toArray,List.set_cons_zero,List.set_cons_succ]
    refine wpAnyH_ready (rs:=[4,25]) (by kernel_rfl) (by simp) ?_
    refine AllReadyH.cons rfl (fun K1 hK1=>?_) (AllReadyH.cons rfl (fun K1 hK1=>?_) AllReadyH.nil)
    · go_simp
      refine hK1.out _ _ hS0 (fun _=>?_)
      clear hK1 K1
      try simp only [Act.put,List.setIfInBounds_toArray,List.set_cons_zero,List.set_cons_succ]
      refine wpAnyH_ready (rs:=[25]) (by kernel_rfl) (by simp) ?_
      refine AllReadyH.cons rfl (fun K1 hK1=>?_) AllReadyH.nil
      go_simp
      refine hK1.out _ _ ⟨cell_al s0 _,cell_al s1 _,cell_al s3 _,cell_al s4 _,cell_al f1 _,cell_al f3 _,cell_al f4 _⟩ (fun _=>?_)
      clear hK1 K1
      try simp only [Act.put,List.setIfInBounds_toArray,List.set_cons_zero,List.set_cons_succ]
      refine wpAnyH_ready (rs:=[26]) (by kernel_rfl) (by simp) ?_
      refine AllReadyH.cons rfl (fun K1 hK1=>?_) AllReadyH.nil
      refine step_app2 _ (by rfl) _ _ 144 (by rfl) B 143 iv _ 9 72 Tryz.underlying144 hiv hv0 hv1 hv2 (by rfl) (by decide) (.slice (some ⟨g,0,none⟩) n cap) n (flat (frV fs) s.ts) (by rfl) (by exact HFR.out.alloc _) (.slice (some ⟨YB.heap.size,0,none⟩) 1 1) 1 (#[.int .i64 F,.int .i64 (wrap64 (K + wrap64 (L * t.x))),.int .i64 0,.int .i64 0,.int .u64 sz,.int .i64 (a : Int),.bool cb,.int .i64 0,.bool false] : Array Value).toList (by rfl) (by exact srcA YB.drew _ _ _ 0 _ rfl rfl 9 1 rfl) (by simp [Value.oneCell']) (by unfold maxLen;omega) (by omega) (by simp;omega) ?_
      intro a7 c7 w7 ho7 hg7 _ hl7 _
      obtain ⟨g7,hg7e,hP7,e1,e2,e3,e4,hgg,hk7⟩:=HFIN.out a7 c7 w7 ho7 hg7 hl7
      subst hg7e
      have hS7 : (fun Z : World=>Z.cell? ⟨ib,0,none⟩ = some (.int .i64 op) ∧ Z.cell? ⟨ib,1,none⟩ = some (.int .i64 F) ∧ Z.cell? ⟨ib,3,none⟩ = some (.int .i64 K) ∧ Z.cell? ⟨ib,4,none⟩ = some (.int .i64 L) ∧ Z.cell? ⟨fb,1,none⟩ = some (.int .i64 t.x) ∧ Z.cell? ⟨fb,3,none⟩ = some (.int .i64 t.r) ∧ Z.cell? ⟨fb,4,none⟩ = some (.int .u64 t.h)) w7:=⟨blk_cell (i:=0) e1 rfl,blk_cell (i:=1) e1 rfl,blk_cell (i:=3) e1 rfl,blk_cell (i:=4) e1 rfl,blk_cell (i:=1) e2 rfl,blk_cell (i:=3) e2 rfl,blk_cell (i:=4) e2 rfl⟩
      have HP7:=hide hP7
      have HK7:=hide hk7
      clear hP7 ho7 hg7 hl7 hk7
      refine hK1.out _ _ hS7 (fun _=>?_)
      clear hK1 K1
      try simp only [Act.put,List.setIfInBounds_toArray]
      refine take_at 27 42 (.pointer (some ⟨yb,0,none⟩)) rfl rfl (by kernel_rfl) (by kernel_rfl) (by kernel_rfl) (fun _ _ _ h=>h) (by rfl) ?yb127 hS7 ?_
      case yb127 =>
        rintro Z ⟨g0,g1,g3,g4,x1,x3,x4⟩
        go_simp
      simp only [List.setIfInBounds_toArray,List.set_cons_zero,List.set_cons_succ]
      refine take_at 28 43 (.pointer (some ⟨yb,1,none⟩)) rfl rfl (by kernel_rfl) (by kernel_rfl) (by kernel_rfl) (fun _ _ _ h=>h) (by rfl) ?yb128 hS7 ?_
      case yb128 =>
        rintro Z ⟨g0,g1,g3,g4,x1,x3,x4⟩
        go_simp
      simp only [List.setIfInBounds_toArray,List.set_cons_zero,List.set_cons_succ]
      refine wpAnyH_ready (rs:=[29]) (by kernel_rfl) (by simp) ?_
      refine AllReadyH.cons rfl (fun K1 hK1=>?_) AllReadyH.nil
      go_simp
      refine hK1.out _ _ ⟨blk_cell (i:=0) (blk_set e1 hiy _ _) rfl,blk_cell (i:=1) (blk_set e1 hiy _ _) rfl,blk_cell (i:=3) (blk_set e1 hiy _ _) rfl,blk_cell (i:=4) (blk_set e1 hiy _ _) rfl,blk_cell (i:=1) (blk_set e2 hfy _ _) rfl,blk_cell (i:=3) (blk_set e2 hfy _ _) rfl,blk_cell (i:=4) (blk_set e2 hfy _ _) rfl⟩ (fun _=>?_)
      clear hK1 K1
      refine wpAnyH_done (by kernel_rfl) ?_ _
      obtain ⟨_,x1,_,_,_,_,_,_,_⟩:=HP7.out.own
      have hl8 : a < ({ s with ts:=s.ts ++ [t'] } : St).ts.length:=by simp [HNE.out];omega
      have ht8 : ({ s with ts:=s.ts ++ [t'] } : St).t a = t:=by rw [St.t_app,if_neg (by rw [HNE.out];omega)];exact HT.out
      have xR:=(HP7.out.nine hl8 ht8).2.2.2.1
      have xz:=HP7.out.frz (a * 9 + 3)
      have h9:=HP7.out.setFrame (i:=a) hl8 (t':={ t with r:=t.r + 1 }) (j:=3) (v:=.int .i64 (t.r + 1)) (by omega) (by rw [ht8];rfl) HSU.out
      obtain ⟨_,z1,_,_,_,_,_,_,_⟩:=h9.own
      have hlen8 : ({ s with ts:=s.ts ++ [t'] } : St).ts.length = n + 1:=by simp [HNE.out]
      rw [hlen8] at x1
      rw [St.putT_len,hlen8] at z1
      have H9:=hide h9
      clear h9 hl8 ht8 hlen8 HP7
      go_wp2
      go_ret
      exact ⟨rfl,⟨_,_,H9.out⟩,fun c hc h1 h2=>(Below.heap_setCell _ _ _ _ (show c ≠ g7 by omega)).trans ((Below.heap_setCell _ _ _ _ h1).trans (HK7.out c hc h2))⟩
    · go_simp
      refine hK1.out _ _ ⟨cell_al s0 _,cell_al s1 _,cell_al s3 _,cell_al s4 _,cell_al f1 _,cell_al f3 _,cell_al f4 _⟩ (fun _=>?_)
      clear hK1 K1
      try simp only [Act.put,List.setIfInBounds_toArray,List.set_cons_zero,List.set_cons_succ]
      refine wpAnyH_ready (rs:=[4]) (by kernel_rfl) (by simp) ?_
      refine AllReadyH.cons rfl (fun K1 hK1=>?_) AllReadyH.nil
      go_simp
      refine hK1.out _ _ ⟨cell_al s0 _,cell_al s1 _,cell_al s3 _,cell_al s4 _,cell_al f1 _,cell_al f3 _,cell_al f4 _⟩ (fun _=>?_)
      clear hK1 K1
      try simp only [Act.put,List.setIfInBounds_toArray,List.set_cons_zero,List.set_cons_succ]
      refine wpAnyH_ready (rs:=[26]) (by kernel_rfl) (by simp) ?_
      refine AllReadyH.cons rfl (fun K1 hK1=>?_) AllReadyH.nil
      refine step_app2 _ (by rfl) _ _ 144 (by rfl) B 143 iv _ 9 72 Tryz.underlying144 hiv hv0 hv1 hv2 (by rfl) (by decide) (.slice (some ⟨g,0,none⟩) n cap) n (flat (frV fs) s.ts) (by rfl) (by exact HFR.out.alloc _) (.slice (some ⟨YB.heap.size,0,none⟩) 1 1) 1 (#[.int .i64 F,.int .i64 (wrap64 (K + wrap64 (L * t.x))),.int .i64 0,.int .i64 0,.int .u64 sz,.int .i64 (a : Int),.bool cb,.int .i64 0,.bool false] : Array Value).toList (by rfl) (by exact srcA YB.drew _ _ _ 0 _ rfl rfl 9 1 rfl) (by simp [Value.oneCell']) (by unfold maxLen;omega) (by omega) (by simp;omega) ?_
      intro a7 c7 w7 ho7 hg7 _ hl7 _
      obtain ⟨g7,hg7e,hP7,e1,e2,e3,e4,hgg,hk7⟩:=HFIN.out a7 c7 w7 ho7 hg7 hl7
      subst hg7e
      have hS7 : (fun Z : World=>Z.cell? ⟨ib,0,none⟩ = some (.int .i64 op) ∧ Z.cell? ⟨ib,1,none⟩ = some (.int .i64 F) ∧ Z.cell? ⟨ib,3,none⟩ = some (.int .i64 K) ∧ Z.cell? ⟨ib,4,none⟩ = some (.int .i64 L) ∧ Z.cell? ⟨fb,1,none⟩ = some (.int .i64 t.x) ∧ Z.cell? ⟨fb,3,none⟩ = some (.int .i64 t.r) ∧ Z.cell? ⟨fb,4,none⟩ = some (.int .u64 t.h)) w7:=⟨blk_cell (i:=0) e1 rfl,blk_cell (i:=1) e1 rfl,blk_cell (i:=3) e1 rfl,blk_cell (i:=4) e1 rfl,blk_cell (i:=1) e2 rfl,blk_cell (i:=3) e2 rfl,blk_cell (i:=4) e2 rfl⟩
      have HP7:=hide hP7
      have HK7:=hide hk7
      clear hP7 ho7 hg7 hl7 hk7
      refine hK1.out _ _ hS7 (fun _=>?_)
      clear hK1 K1
      try simp only [Act.put,List.setIfInBounds_toArray]
      refine take_at 27 42 (.pointer (some ⟨yb,0,none⟩)) rfl rfl (by kernel_rfl) (by kernel_rfl) (by kernel_rfl) (fun _ _ _ h=>h) (by rfl) ?yb227 hS7 ?_
      case yb227 =>
        rintro Z ⟨g0,g1,g3,g4,x1,x3,x4⟩
        go_simp
      simp only [List.setIfInBounds_toArray,List.set_cons_zero,List.set_cons_succ]
      refine take_at 28 43 (.pointer (some ⟨yb,1,none⟩)) rfl rfl (by kernel_rfl) (by kernel_rfl) (by kernel_rfl) (fun _ _ _ h=>h) (by rfl) ?yb228 hS7 ?_
      case yb228 =>
        rintro Z ⟨g0,g1,g3,g4,x1,x3,x4⟩
        go_simp
      simp only [List.setIfInBounds_toArray,List.set_cons_zero,List.set_cons_succ]
      refine wpAnyH_ready (rs:=[29]) (by kernel_rfl) (by simp) ?_
      refine AllReadyH.cons rfl (fun K1 hK1=>?_) AllReadyH.nil
      go_simp
      refine hK1.out _ _ ⟨blk_cell (i:=0) (blk_set e1 hiy _ _) rfl,blk_cell (i:=1) (blk_set e1 hiy _ _) rfl,blk_cell (i:=3) (blk_set e1 hiy _ _) rfl,blk_cell (i:=4) (blk_set e1 hiy _ _) rfl,blk_cell (i:=1) (blk_set e2 hfy _ _) rfl,blk_cell (i:=3) (blk_set e2 hfy _ _) rfl,blk_cell (i:=4) (blk_set e2 hfy _ _) rfl⟩ (fun _=>?_)
      clear hK1 K1
      refine wpAnyH_done (by kernel_rfl) ?_ _
      obtain ⟨_,x1,_,_,_,_,_,_,_⟩:=HP7.out.own
      have hl8 : a < ({ s with ts:=s.ts ++ [t'] } : St).ts.length:=by simp [HNE.out];omega
      have ht8 : ({ s with ts:=s.ts ++ [t'] } : St).t a = t:=by rw [St.t_app,if_neg (by rw [HNE.out];omega)];exact HT.out
      have xR:=(HP7.out.nine hl8 ht8).2.2.2.1
      have xz:=HP7.out.frz (a * 9 + 3)
      have h9:=HP7.out.setFrame (i:=a) hl8 (t':={ t with r:=t.r + 1 }) (j:=3) (v:=.int .i64 (t.r + 1)) (by omega) (by rw [ht8];rfl) HSU.out
      obtain ⟨_,z1,_,_,_,_,_,_,_⟩:=h9.own
      have hlen8 : ({ s with ts:=s.ts ++ [t'] } : St).ts.length = n + 1:=by simp [HNE.out]
      rw [hlen8] at x1
      rw [St.putT_len,hlen8] at z1
      have H9:=hide h9
      clear h9 hl8 ht8 hlen8 HP7
      go_wp2
      go_ret
      exact ⟨rfl,⟨_,_,H9.out⟩,fun c hc h1 h2=>(Below.heap_setCell _ _ _ _ (show c ≠ g7 by omega)).trans ((Below.heap_setCell _ _ _ _ h1).trans (HK7.out c hc h2))⟩
end
end Go.Proofs.YtkmakliebhnhbaaGreat
namespace Go.Proofs.YtkmakliebhnhbaaGreat
open Go.RowKit Go.Shelf
section
variable {fs : List (List Ins)} {w0 W : World} {B rb yb g gH gS k cap : Nat} {s : St} {tv : Value} {us : List Value} {tr : List Ev} {n0 n1 n2 : Nat} {S : Nat → Prop} {reds : List Int}
set_option maxHeartbeats 8000000 in
set_option maxRecDepth 100000 in
theorem step_call (h : PlayM fs w0 W B rb yb g gH gS k cap s tv us tr n0 n1 n2 false) (hR : RefP S w0 (.pointer (some ⟨rb,0,none⟩)) fs reds) (hB : w0.heap.size ≤ B) {w v a : Nat} {t : Tk} {F R K L : Int} {r : List Ins} (hw : w < k) (hn0 : n0 ≤ 1000000) (hh : (s.w w).hand = some a) (ha : a < s.ts.length) (ht : s.t a = t) (hf : t.f < fs.length) (hr0 : 0 ≤ t.r) (hr1 : t.r ≤ 10) (hrem : t.rem = ⟨4,F,R,K,L⟩ :: r) {t' : Tk} (hl : s.ts.length ≤ 100000) (ht' : frV fs t' = [.int .i64 F,.int .i64 (wrap64 (K + wrap64 (L * t.x))),.int .i64 0,.int .i64 0,.int .u64 (stepZ t.h t.r),.int .i64 (a : Int),.bool true,.int .i64 0,.bool false]) (hs' : Suf fs t') :
    Calls Tryz.prog 62 #[.pointer (some ⟨yb,0,none⟩),.int .i64 (w : Int),.int .i64 (v : Int)] W fun e w'=>e = .returned (.tuple #[]) ∧ ∃ g' cap',PlayM fs w0 w' B rb yb g' gH gS k cap' ((({ s.putT a { t with rem:=r } with ts:=(s.putT a { t with rem:=r }).ts ++ [t'] } : St).putT a { t with rem:=r,r:=t.r + 1 }).hand w (some s.ts.length)) tv us tr (n0 + 1) n1 n2 false:=by
  have HT':=hide ht'
  have HS':=hide hs'
  have HL:=hide hl
  clear ht' hs' hl
  have h1:=h.setOwn (i:=5) (v:=.int .i64 ((n0 : Int) + 1)) (m0:=n0 + 1) (m1:=n1) (m2:=n2) (d':=false) rfl
  obtain ⟨_,_,_,_,_,c5,_,_,_⟩:=h.own
  have z5:=h.ofz 5
  obtain ⟨e0,e1,e2,_,_,_,_,_,_⟩:=h1.own
  have hc:=h1.hdc hw
  have hz : handZ (s.w w) = (a : Int):=by unfold handZ;rw [hh]
  rw [hz] at hc
  obtain ⟨f0,f1,f2,f3,f4,f5,f6,f7,f8⟩:=h1.nine ha ht
  obtain ⟨l,hl⟩ : ∃ l,fs[t.f]? = some l:=⟨_,List.getElem?_eq_getElem hf⟩
  obtain ⟨hsuf,hnx⟩:=(h.suf t (by rw [← ht];exact St.t_mem ha)).next
  have hbody : bodyOf fs t = l:=by unfold bodyOf;rw [hl];rfl
  rw [hbody] at hsuf hnx
  obtain ⟨_,nf,fc,fb,fo,x,xc,r0,rfl,hfn,hnf,r1,hl64,hX⟩:=ref_fn hR h1.bel hB hl
  have hwi : (w : Int) < (k : Int):=by omega
  have hai : (a : Int) < (s.ts.length : Int):=by omega
  have ha0 : ¬ (a : Int) < 0:=by omega
  have hfi : (t.f : Int) < (nf : Int):=by omega
  have H1:=hide h1
  have HX:=hide hX
  have HT:=hide ht
  have HSUF:=hide hsuf
  have HBODY:=hide hbody
  have HREM:=hide hrem
  obtain ⟨nx,hnxe⟩ : ∃ nx,nextOf fs t = nx:=⟨_,rfl⟩
  obtain ⟨ll,hll⟩ : ∃ ll,l.length = ll:=⟨_,rfl⟩
  obtain ⟨n,hne⟩ : ∃ n,s.ts.length = n:=⟨_,rfl⟩
  rw [hnxe] at f2 hnx HSUF
  have HNX:=hide hnxe
  have HNE:=hide hne
  rw [hll] at r1 hl64 hnx HX
  rw [hne] at e1 hai
  have HLL:=hide hll
  clear h h1 hR hX ht hsuf hrem hl hz hbody hnxe hll
  have ha' : a < s.ts.length:=ha
  have HA:=hide ha'
  clear ha ha' hne
  have e0':=cell_al e0
  have r0':=cell_al r0
  have r1':=cell_al r1
  go_enter Tryz.func62,Tryz.ntmps62
  go_wp2
  go_quiet (fail)
  obtain ⟨V,hV⟩ : ∃ V,((W.setCell ⟨yb,5,none⟩ (.int .i64 ((n0 : Int) + 1))).alloc (.cells #[.int .i64 (t.f : Int),.int .i64 t.x,.int .i64 (nx : Int),.int .i64 t.r,.int .u64 t.h,.int .i64 (fromZ t),.bool (calledB t),.int .i64 t.out,.bool t.asd] 143)).drewN nq = V:=⟨_,rfl⟩
  have hsz : (W.setCell ⟨yb,5,none⟩ (.int .i64 ((n0 : Int) + 1))).heap.size = W.heap.size:=by simp [World.setCell]
  have hbx : V.heap[W.heap.size]? = some (.cells #[.int .i64 (t.f : Int),.int .i64 t.x,.int .i64 (nx : Int),.int .i64 t.r,.int .u64 t.h,.int .i64 (fromZ t),.bool (calledB t),.int .i64 t.out,.bool t.asd] 143 (0,0)):=by
    rw [← hV,← hsz]
    exact heap_new (W.setCell ⟨yb,5,none⟩ (.int .i64 ((n0 : Int) + 1))) _
  have hbV : Below (W.setCell ⟨yb,5,none⟩ (.int .i64 ((n0 : Int) + 1))).heap.size (W.setCell ⟨yb,5,none⟩ (.int .i64 ((n0 : Int) + 1))) V:=by
    rw [← hV]
    exact below_drewN ((Below.refl _ _).alloc (Nat.le_refl _) _) nq
  rw [hV]
  have h2:=H1.out.below hbV
  have HX2:=hide (HX.out.below hbV (fun x _=>List.cons_ne_nil _ _))
  have b0:=blk_cell (i:=0) hbx rfl
  have b1:=blk_cell (i:=1) hbx rfl
  have b2:=blk_cell (i:=2) hbx rfl
  have b3:=blk_cell (i:=3) hbx rfl
  have b4:=blk_cell (i:=4) hbx rfl
  have b7:=blk_cell (i:=7) hbx rfl
  obtain ⟨_,g1,g2,_,_,_,_,_,_⟩:=h2.own
  have hli : l[nx]? = some ⟨4,F,R,K,L⟩:=by
    have h':=congrArg (fun z=>z[0]?) HSUF.out
    rw [HREM.out] at h'
    simp at h'
    exact h'.symm
  have hnl : nx < ll:=by have:=(List.getElem?_eq_some_iff.1 hli).1;rw [HLL.out] at this;exact this
  have hrl : r = l.drop (nx + 1):=by
    have h':=congrArg List.tail HSUF.out
    rw [HREM.out] at h'
    simpa using h'
  have hni : (nx : Int) < (ll : Int):=by omega
  have hne1 : ((nx : Int) == (ll : Int)) = false:=by simp;omega
  have hne2 : ¬ (nx : Int) = (ll : Int):=by omega
  have hne3 : decide ((nx : Int) = (ll : Int)) = false:=by simp;omega
  obtain ⟨ib,io,rfl,_,i0,i1,i2,i3,i4⟩:=HX2.out.ins hli
  simp only at i0 i1 i2 i3 i4
  have hs4 : Suf fs { t with rem:=r }:=⟨nx + 1,by rw [show bodyOf fs { t with rem:=r } = l from HBODY.out,HLL.out];omega,by rw [show bodyOf fs { t with rem:=r } = l from HBODY.out];exact hrl⟩
  have hnx4 : nextOf fs { t with rem:=r } = nx + 1:=by
    show (bodyOf fs t).length - r.length = nx + 1
    rw [HBODY.out,hrl,List.length_drop,HLL.out]
    omega
  have h3:=h2.below (new_blk V (.cells #[.int .i64 4,.int .i64 F,.int .i64 R,.int .i64 K,.int .i64 L] 45))
  have h4:=h3.setFrame (i:=a) HA.out (t':={ t with rem:=r }) (j:=2) (v:=.int .i64 ((nx : Int) + 1)) (by omega) (by
    rw [HT.out]
    have e1 : frV fs { t with rem:=r } = [.int .i64 t.f,.int .i64 t.x,.int .i64 (nextOf fs { t with rem:=r } : Int),.int .i64 t.r,.int .u64 t.h,.int .i64 (fromZ t),.bool (calledB t),.int .i64 t.out,.bool t.asd]:=rfl
    rw [e1,hnx4]
    rfl) hs4
  have ht4 : ((s.putT a { t with rem:=r }).t a) = { t with rem:=r }:=by rw [St.t_putT s _ HA.out a,if_pos rfl]
  have hl4 : a < (s.putT a { t with rem:=r }).ts.length:=by rw [St.putT_len];exact HA.out
  obtain ⟨_,m1,_,_,_,_,_,_,_⟩:=h3.own
  have mN:=(h3.nine HA.out HT.out).2.2.1
  have mz:=h3.frz (a * 9 + 2)
  rw [HNX.out] at mN
  obtain ⟨q0,q1,q2,q3,q4,q5,q6,q7,q9⟩:=h4.own
  rw [St.putT_len] at q1
  rw [HNE.out] at m1 q1
  have hnx64 : (nx : Int) + 1 ≤ 9223372036854775807:=by omega
  have hgW : g < W.heap.size:=by have:=(H1.out.fr.lt g rfl).2;rw [hsz] at this;exact this
  have hWV : W.heap.size < V.heap.size:=(Array.getElem?_eq_some_iff.1 hbx).1
  have hy1 : ((V.alloc (.cells #[.int .i64 4,.int .i64 F,.int .i64 R,.int .i64 K,.int .i64 L] 45)).setCell ⟨g,a * 9 + 2,none⟩ (.int .i64 ((nx : Int) + 1))).heap[W.heap.size]? = some (.cells #[.int .i64 (t.f : Int),.int .i64 t.x,.int .i64 (nx : Int),.int .i64 t.r,.int .u64 t.h,.int .i64 (fromZ t),.bool (calledB t),.int .i64 t.out,.bool t.asd] 143 (0,0)):=blk_set ((Below.heap_alloc V _ _ hWV).trans hbx) (by omega) _ _
  have hy2 : ((V.alloc (.cells #[.int .i64 4,.int .i64 F,.int .i64 R,.int .i64 K,.int .i64 L] 45)).setCell ⟨g,a * 9 + 2,none⟩ (.int .i64 ((nx : Int) + 1))).heap[V.heap.size]? = some (.cells #[.int .i64 4,.int .i64 F,.int .i64 R,.int .i64 K,.int .i64 L] 45 (0,0)):=blk_set (heap_new V _) (by omega) _ _
  have HT4:=hide ht4
  have HL4:=hide hl4
  have H4:=hide h4
  clear hrl
  clear hV hbV hsz e0 e1 e2 hc f0 f1 f2 f3 f4 f5 f6 f7 f8 r0 r1 e0' r0' r1' c5 z5 H1 HX HX2 h2 h3
  clear ht4 hl4 hs4 hnx4 h4 hbx hy1
  go_wp2
  rename_i K0 hK0
  generalize ((V.alloc (.cells #[.int .i64 4,.int .i64 F,.int .i64 R,.int .i64 K,.int .i64 L] 45)).setCell ⟨g,a * 9 + 2,none⟩ (.int .i64 ((nx : Int) + 1))) = Y at hy2 H4 q0 q1 q2 q3 q4 q5 q6 q7 q9 ⊢
  obtain ⟨vb,hvb⟩ : ∃ vb,V.heap.size = vb:=⟨_,rfl⟩
  rw [hvb] at hy2 ⊢
  have s0:=blk_cell (i:=0) hy2 rfl
  have s1:=blk_cell (i:=1) hy2 rfl
  have s2:=blk_cell (i:=2) hy2 rfl
  have s3:=blk_cell (i:=3) hy2 rfl
  have s4:=blk_cell (i:=4) hy2 rfl
  have hvy : vb ≠ yb:=fun e=>blk_ne H4.out.blk hy2 (by decide) e.symm
  have hvH : ¬ vb = gH:=fun e=>blk_ne H4.out.hd hy2 (by decide) e.symm
  have hvg : vb ≠ g:=by omega
  have hyH : ¬ yb = gH:=H4.out.ne_yH
  have hvl : vb < Y.heap.size:=(Array.getElem?_eq_some_iff.1 hy2).1
  have HBG:=hide (begin_op (.inl ⟨rfl,rfl⟩) (a:=a) (t:={ t with rem:=r }) (t':=t') (F:=F) (R:=R) (K:=K) (L:=L) (H4.out.below (W':=Y.drew) ⟨rfl,rfl,rfl,Nat.le_refl _,fun _ _=>rfl⟩) HL4.out HT4.out (by rw [St.putT_len];exact HL.out) hr0 hr1 HT'.out HS'.out)
  rw [St.putT_len,HNE.out] at HBG
  have HY2:=hide hy2
  clear hy2 hvb
  go_region_held3 (fun Z : World=>Z.cell? ⟨yb,2,none⟩ = some (.slice (some ⟨gH,0,none⟩) k k) ∧ Z.cell? ⟨vb,0,none⟩ = some (.int .i64 4) ∧ Z.cell? ⟨vb,1,none⟩ = some (.int .i64 F) ∧ Z.cell? ⟨vb,2,none⟩ = some (.int .i64 R) ∧ Z.cell? ⟨vb,3,none⟩ = some (.int .i64 K) ∧ Z.cell? ⟨vb,4,none⟩ = some (.int .i64 L))
    (go_keep)
    (first
      | (go_at_call 81
         refine HBG.out.mono ?_
         rintro e w6 ⟨rfl,⟨g6,cap6,h6⟩,hk6⟩
         have hv6:=(hk6 vb hvl hvy hvg).trans HY2.out
         have d0:=blk_cell (i:=0) hv6 rfl
         have d1:=blk_cell (i:=1) hv6 rfl
         have d2:=blk_cell (i:=2) hv6 rfl
         have d3:=blk_cell (i:=3) hv6 rfl
         have d4:=blk_cell (i:=4) hv6 rfl
         have t0 : ∀ z,(w6.setCell ⟨gH,w,none⟩ (.int .i64 z)).cell? ⟨vb,0,none⟩ = some (.int .i64 4):=fun z=>blk_cell (blk_set hv6 hvH _ _) rfl
         have t1 : ∀ z,(w6.setCell ⟨gH,w,none⟩ (.int .i64 z)).cell? ⟨vb,1,none⟩ = some (.int .i64 F):=fun z=>blk_cell (blk_set hv6 hvH _ _) rfl
         have t2 : ∀ z,(w6.setCell ⟨gH,w,none⟩ (.int .i64 z)).cell? ⟨vb,2,none⟩ = some (.int .i64 R):=fun z=>blk_cell (blk_set hv6 hvH _ _) rfl
         have t3 : ∀ z,(w6.setCell ⟨gH,w,none⟩ (.int .i64 z)).cell? ⟨vb,3,none⟩ = some (.int .i64 K):=fun z=>blk_cell (blk_set hv6 hvH _ _) rfl
         have t4 : ∀ z,(w6.setCell ⟨gH,w,none⟩ (.int .i64 z)).cell? ⟨vb,4,none⟩ = some (.int .i64 L):=fun z=>blk_cell (blk_set hv6 hvH _ _) rfl
         have t5 : ∀ z,(w6.setCell ⟨gH,w,none⟩ (.int .i64 z)).cell? ⟨yb,2,none⟩ = some (.slice (some ⟨gH,0,none⟩) k k):=fun z=>blk_cell (blk_set h6.blk hyH _ _) rfl
         obtain ⟨_,_,d5,_,_,_,_,_,_⟩:=h6.own
         have d6:=h6.hdc hw
         have d7:=h6.hdz w
         have H6:=hide (h6.setHand hw (some s.ts.length) (z:=(s.ts.length : Int)) rfl)
         rw [HNE.out] at H6
         clear hv6 hk6 h6))
  all_goals
    go_wp2
    refine bodyPost_end (results_none rfl _ _ _) rfl ?_
    exact ⟨rfl,_,_,by rw [HNE.out];exact H6.out⟩
end
end Go.Proofs.YtkmakliebhnhbaaGreat
