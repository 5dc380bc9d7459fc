import Derived.Test.YtkmakliebhnhbaaGreatRpE
import Derived.Test.YtkmakliebhnhbaaGreatRgN
import Derived.Test.YtkmakliebhnhbaaGreatSerRef
namespace Go.Proofs.YtkmakliebhnhbaaGreat
open Go.RowKit Go.Shelf
theorem new_blk (W : World) (o : Obj) : Below W.heap.size W (W.alloc o):=(Below.refl _ W).alloc (Nat.le_refl _) o
section
variable {fs : List (List Ins)} {w0 W : World} {B rb yb g gH gS k cap : Nat} {s : St} {tv : Value} {us : List Value} {tr : List Ev} {n0 n1 n2 : Nat} {S : Nat → Prop} {reds : List Int}
set_option maxHeartbeats 8000000 in
set_option maxRecDepth 100000 in
theorem step_sync (h : PlayM fs w0 W B rb yb g gH gS k cap s tv us tr n0 n1 n2 false) (hR : RefP S w0 (.pointer (some ⟨rb,0,none⟩)) fs reds) (hB : w0.heap.size ≤ B) {w v a : Nat} {t : Tk} {F R K L : Int} {r : List Ins} (hw : w < k) (hn0 : n0 ≤ 1000000) (hh : (s.w w).hand = some a) (ha : a < s.ts.length) (ht : s.t a = t) (hf : t.f < fs.length) (hr0 : 0 ≤ t.r) (hr1 : t.r ≤ 10) (hrem : t.rem = ⟨5,F,R,K,L⟩ :: r) (ho : t.out = 0) :
  Calls Tryz.prog 62 #[.pointer (some ⟨yb,0,none⟩),.int .i64 (w : Int),.int .i64 (v : Int)] W fun e w'=>e = .returned (.tuple #[]) ∧ PlayM fs w0 w' B rb yb g gH gS k cap (s.putT a { t with rem:=r,r:=t.r + 1 }) tv us tr (n0 + 1) n1 n2 false:=by
 have HO:=hide ho
 clear ho
 have h1:=h.setOwn (i:=5) (v:=.int .i64 ((n0 : Int) + 1)) (m0:=n0 + 1) (m1:=n1) (m2:=n2) (d':=false) rfl
 obtain ⟨_,_,_,_,_,c5,_,_,_⟩:=h.own
 have z5:=h.ofz 5
 obtain ⟨e0,e1,e2,_,_,_,_,_,_⟩:=h1.own
 have hc:=h1.hdc hw
 have hz : handZ (s.w w) = (a : Int):=by unfold handZ;rw [hh]
 rw [hz] at hc
 obtain ⟨f0,f1,f2,f3,f4,f5,f6,f7,f8⟩:=h1.nine ha ht
 obtain ⟨l,hl⟩ : ∃ l,fs[t.f]? = some l:=⟨_,List.getElem?_eq_getElem hf⟩
 obtain ⟨hsuf,hnx⟩:=(h.suf t (by rw [← ht];exact St.t_mem ha)).next
 have hbody : bodyOf fs t = l:=by unfold bodyOf;rw [hl];rfl
 rw [hbody] at hsuf hnx
 obtain ⟨_,nf,fc,fb,fo,x,xc,r0,rfl,hfn,hnf,r1,hl64,hX⟩:=ref_fn hR h1.bel hB hl
 have hwi : (w : Int) < (k : Int):=by omega
 have hai : (a : Int) < (s.ts.length : Int):=by omega
 have ha0 : ¬ (a : Int) < 0:=by omega
 have hfi : (t.f : Int) < (nf : Int):=by omega
 have H1:=hide h1
 have HX:=hide hX
 have HT:=hide ht
 have HSUF:=hide hsuf
 have HBODY:=hide hbody
 have HREM:=hide hrem
 obtain ⟨nx,hnxe⟩ : ∃ nx,nextOf fs t = nx:=⟨_,rfl⟩
 obtain ⟨ll,hll⟩ : ∃ ll,l.length = ll:=⟨_,rfl⟩
 obtain ⟨n,hne⟩ : ∃ n,s.ts.length = n:=⟨_,rfl⟩
 rw [hnxe] at f2 hnx HSUF
 have HNX:=hide hnxe
 have HNE:=hide hne
 rw [hll] at r1 hl64 hnx HX
 rw [hne] at e1 hai
 have HLL:=hide hll
 clear h h1 hR hX ht hsuf hrem hl hz hbody hnxe hll
 have ha' : a < s.ts.length:=ha
 have HA:=hide ha'
 clear ha ha' hne
 have e0':=cell_al e0
 have r0':=cell_al r0
 have r1':=cell_al r1
 go_enter Tryz.func62,Tryz.ntmps62
 go_wp2
 go_quiet (fail)
 obtain ⟨V,hV⟩ : ∃ V,((W.setCell ⟨yb,5,none⟩ (.int .i64 ((n0 : Int) + 1))).alloc (.cells #[.int .i64 (t.f : Int),.int .i64 t.x,.int .i64 (nx : Int),.int .i64 t.r,.int .u64 t.h,.int .i64 (fromZ t),.bool (calledB t),.int .i64 t.out,.bool t.asd] 143)).drewN nq = V:=⟨_,rfl⟩
 have hsz : (W.setCell ⟨yb,5,none⟩ (.int .i64 ((n0 : Int) + 1))).heap.size = W.heap.size:=by simp [World.setCell]
 have hbx : V.heap[W.heap.size]? = some (.cells #[.int .i64 (t.f : Int),.int .i64 t.x,.int .i64 (nx : Int),.int .i64 t.r,.int .u64 t.h,.int .i64 (fromZ t),.bool (calledB t),.int .i64 t.out,.bool t.asd] 143 (0,0)):=by
  rw [← hV,← hsz]
  exact heap_new (W.setCell ⟨yb,5,none⟩ (.int .i64 ((n0 : Int) + 1))) _
 have hbV : Below (W.setCell ⟨yb,5,none⟩ (.int .i64 ((n0 : Int) + 1))).heap.size (W.setCell ⟨yb,5,none⟩ (.int .i64 ((n0 : Int) + 1))) V:=by
  rw [← hV]
  exact below_drewN ((Below.refl _ _).alloc (Nat.le_refl _) _) nq
 rw [hV]
 have h2:=H1.out.below hbV
 have HX2:=hide (HX.out.below hbV (fun x _=>List.cons_ne_nil _ _))
 have b0:=blk_cell (i:=0) hbx rfl
 have b1:=blk_cell (i:=1) hbx rfl
 have b2:=blk_cell (i:=2) hbx rfl
 have b3:=blk_cell (i:=3) hbx rfl
 have b4:=blk_cell (i:=4) hbx rfl
 have b7:=blk_cell (i:=7) hbx rfl
 obtain ⟨_,g1,g2,_,_,_,_,_,_⟩:=h2.own
 have hli : l[nx]? = some ⟨5,F,R,K,L⟩:=by
  have h':=congrArg (fun z=>z[0]?) HSUF.out
  rw [HREM.out] at h'
  simp at h'
  exact h'.symm
 have hnl : nx < ll:=by have:=(List.getElem?_eq_some_iff.1 hli).1;rw [HLL.out] at this;exact this
 have hrl : r = l.drop (nx + 1):=by
  have h':=congrArg List.tail HSUF.out
  rw [HREM.out] at h'
  simpa using h'
 have hni : (nx : Int) < (ll : Int):=by omega
 have hne1 : ((nx : Int) == (ll : Int)) = false:=by simp;omega
 have hne2 : ¬ (nx : Int) = (ll : Int):=by omega
 have hne3 : decide ((nx : Int) = (ll : Int)) = false:=by simp;omega
 obtain ⟨ib,io,rfl,_,i0,i1,i2,i3,i4⟩:=HX2.out.ins hli
 simp only at i0 i1 i2 i3 i4
 have hs4 : Suf fs { t with rem:=r }:=⟨nx + 1,by rw [show bodyOf fs { t with rem:=r } = l from HBODY.out,HLL.out];omega,by rw [show bodyOf fs { t with rem:=r } = l from HBODY.out];exact hrl⟩
 have hnx4 : nextOf fs { t with rem:=r } = nx + 1:=by
  show (bodyOf fs t).length - r.length = nx + 1
  rw [HBODY.out,hrl,List.length_drop,HLL.out]
  omega
 have h3:=h2.below (new_blk V (.cells #[.int .i64 5,.int .i64 F,.int .i64 R,.int .i64 K,.int .i64 L] 45))
 have h4:=h3.setFrame (i:=a) HA.out (t':={ t with rem:=r }) (j:=2) (v:=.int .i64 ((nx : Int) + 1)) (by omega) (by
  rw [HT.out]
  have e1 : frV fs { t with rem:=r } = [.int .i64 t.f,.int .i64 t.x,.int .i64 (nextOf fs { t with rem:=r } : Int),.int .i64 t.r,.int .u64 t.h,.int .i64 (fromZ t),.bool (calledB t),.int .i64 t.out,.bool t.asd]:=rfl
  rw [e1,hnx4]
  rfl) hs4
 have ht4 : ((s.putT a { t with rem:=r }).t a) = { t with rem:=r }:=by rw [St.t_putT s _ HA.out a,if_pos rfl]
 have hl4 : a < (s.putT a { t with rem:=r }).ts.length:=by rw [St.putT_len];exact HA.out
 obtain ⟨_,m1,_,_,_,_,_,_,_⟩:=h3.own
 have mN:=(h3.nine HA.out HT.out).2.2.1
 have mz:=h3.frz (a * 9 + 2)
 rw [HNX.out] at mN
 obtain ⟨q0,q1,q2,q3,q4,q5,q6,q7,q9⟩:=h4.own
 rw [St.putT_len] at q1
 rw [HNE.out] at m1 q1
 have hnx64 : (nx : Int) + 1 ≤ 9223372036854775807:=by omega
 have h5:=h4.setFrame (i:=a) hl4 (t':={ t with rem:=r,r:=t.r + 1 }) (j:=3) (v:=.int .i64 (t.r + 1)) (by omega) (by rw [ht4];rfl) hs4
 have hst : (s.putT a { t with rem:=r }).putT a { t with rem:=r,r:=t.r + 1 } = s.putT a { t with rem:=r,r:=t.r + 1 }:=by
  unfold St.putT
  simp
 rw [hst] at h5
 have pR:=(h4.nine hl4 ht4).2.2.2.1
 have pz:=h4.frz (a * 9 + 3)
 simp only at pR
 have H5:=hide h5
 rw [HO.out] at b7
 clear hV hbV hsz e0 e1 e2 hc f0 f1 f2 f3 f4 f5 f6 f7 f8 r0 r1 e0' r0' r1' c5 z5 H1 HX HX2 h2 h3
 clear hst ht4 hl4 hs4 hnx4 h4 h5
 go_wp2
 refine bodyPost_end (results_none rfl _ _ _) rfl ?_
 exact ⟨rfl,H5.out⟩
end
end Go.Proofs.YtkmakliebhnhbaaGreat
namespace Go.Proofs.YtkmakliebhnhbaaGreat
open Go.RowKit Go.Shelf
section
variable {fs : List (List Ins)} {w0 W : World} {B rb yb g gH gS k cap : Nat} {s : St} {tv : Value} {us : List Value} {tr : List Ev} {n0 n1 n2 : Nat} {S : Nat → Prop} {reds : List Int}
set_option maxHeartbeats 8000000 in
set_option maxRecDepth 100000 in
theorem step_put (h : PlayM fs w0 W B rb yb g gH gS k cap s tv us tr n0 n1 n2 false) (hR : RefP S w0 (.pointer (some ⟨rb,0,none⟩)) fs reds) (hB : w0.heap.size ≤ B) {w v a : Nat} {t : Tk} {F R K L : Int} {r : List Ins} (hw : w < k) (hn0 : n0 ≤ 1000000) (hh : (s.w w).hand = some a) (ha : a < s.ts.length) (ht : s.t a = t) (hf : t.f < fs.length) (hrem : t.rem = ⟨1,F,R,K,L⟩ :: r) (htr : tr.length ≤ 1000000) :
  Calls Tryz.prog 62 #[.pointer (some ⟨yb,0,none⟩),.int .i64 (w : Int),.int .i64 (v : Int)] W fun e w'=>e = .returned (.tuple #[]) ∧ ∃ tv',PlayM fs w0 w' B rb yb g gH gS k cap (s.putT a { t with rem:=r }) tv' us (tr ++ [⟨w,R,wrap64 (K + wrap64 (L * t.x))⟩]) (n0 + 1) n1 n2 false:=by
 have hmix : Tryz.prog.follows .mixedOrders = true:=by kernel_rfl
 obtain ⟨iv,hiv,hv0,hv1,hv2⟩:=info_parts Tryz.infoEv
 have h1:=h.setOwn (i:=5) (v:=.int .i64 ((n0 : Int) + 1)) (m0:=n0 + 1) (m1:=n1) (m2:=n2) (d':=false) rfl
 obtain ⟨_,_,_,_,_,c5,_,_,_⟩:=h.own
 have z5:=h.ofz 5
 obtain ⟨e0,e1,e2,_,_,_,_,_,_⟩:=h1.own
 have hc:=h1.hdc hw
 have hz : handZ (s.w w) = (a : Int):=by unfold handZ;rw [hh]
 rw [hz] at hc
 obtain ⟨f0,f1,f2,f3,f4,f5,f6,f7,f8⟩:=h1.nine ha ht
 obtain ⟨l,hl⟩ : ∃ l,fs[t.f]? = some l:=⟨_,List.getElem?_eq_getElem hf⟩
 obtain ⟨hsuf,hnx⟩:=(h.suf t (by rw [← ht];exact St.t_mem ha)).next
 have hbody : bodyOf fs t = l:=by unfold bodyOf;rw [hl];rfl
 rw [hbody] at hsuf hnx
 obtain ⟨_,nf,fc,fb,fo,x,xc,r0,rfl,hfn,hnf,r1,hl64,hX⟩:=ref_fn hR h1.bel hB hl
 have hwi : (w : Int) < (k : Int):=by omega
 have hai : (a : Int) < (s.ts.length : Int):=by omega
 have ha0 : ¬ (a : Int) < 0:=by omega
 have hfi : (t.f : Int) < (nf : Int):=by omega
 have H1:=hide h1
 have HX:=hide hX
 have HT:=hide ht
 have HSUF:=hide hsuf
 have HBODY:=hide hbody
 have HREM:=hide hrem
 obtain ⟨nx,hnxe⟩ : ∃ nx,nextOf fs t = nx:=⟨_,rfl⟩
 obtain ⟨ll,hll⟩ : ∃ ll,l.length = ll:=⟨_,rfl⟩
 obtain ⟨n,hne⟩ : ∃ n,s.ts.length = n:=⟨_,rfl⟩
 rw [hnxe] at f2 hnx HSUF
 have HNX:=hide hnxe
 have HNE:=hide hne
 rw [hll] at r1 hl64 hnx HX
 rw [hne] at e1 hai
 have HLL:=hide hll
 clear h h1 hR hX ht hsuf hrem hl hz hbody hnxe hll
 have ha' : a < s.ts.length:=ha
 have HA:=hide ha'
 clear ha ha' hne
 have e0':=cell_al e0
 have r0':=cell_al r0
 have r1':=cell_al r1
 go_enter Tryz.func62,Tryz.ntmps62
 go_wp2
 go_quiet (fail)
 obtain ⟨V,hV⟩ : ∃ V,((W.setCell ⟨yb,5,none⟩ (.int .i64 ((n0 : Int) + 1))).alloc (.cells #[.int .i64 (t.f : Int),.int .i64 t.x,.int .i64 (nx : Int),.int .i64 t.r,.int .u64 t.h,.int .i64 (fromZ t),.bool (calledB t),.int .i64 t.out,.bool t.asd] 143)).drewN nq = V:=⟨_,rfl⟩
 have hsz : (W.setCell ⟨yb,5,none⟩ (.int .i64 ((n0 : Int) + 1))).heap.size = W.heap.size:=by simp [World.setCell]
 have hbx : V.heap[W.heap.size]? = some (.cells #[.int .i64 (t.f : Int),.int .i64 t.x,.int .i64 (nx : Int),.int .i64 t.r,.int .u64 t.h,.int .i64 (fromZ t),.bool (calledB t),.int .i64 t.out,.bool t.asd] 143 (0,0)):=by
  rw [← hV,← hsz]
  exact heap_new (W.setCell ⟨yb,5,none⟩ (.int .i64 ((n0 : Int) + 1))) _
 have hbV : Below (W.setCell ⟨yb,5,none⟩ (.int .i64 ((n0 : Int) + 1))).heap.size (W.setCell ⟨yb,5,none⟩ (.int .i64 ((n0 : Int) + 1))) V:=by
  rw [← hV]
  exact below_drewN ((Below.refl _ _).alloc (Nat.le_refl _) _) nq
 rw [hV]
 have h2:=H1.out.below hbV
 have HX2:=hide (HX.out.below hbV (fun x _=>List.cons_ne_nil _ _))
 have b0:=blk_cell (i:=0) hbx rfl
 have b1:=blk_cell (i:=1) hbx rfl
 have b2:=blk_cell (i:=2) hbx rfl
 have b3:=blk_cell (i:=3) hbx rfl
 have b4:=blk_cell (i:=4) hbx rfl
 have b7:=blk_cell (i:=7) hbx rfl
 obtain ⟨_,g1,g2,_,_,_,_,_,_⟩:=h2.own
 have hli : l[nx]? = some ⟨1,F,R,K,L⟩:=by
  have h':=congrArg (fun z=>z[0]?) HSUF.out
  rw [HREM.out] at h'
  simp at h'
  exact h'.symm
 have hnl : nx < ll:=by have:=(List.getElem?_eq_some_iff.1 hli).1;rw [HLL.out] at this;exact this
 have hrl : r = l.drop (nx + 1):=by
  have h':=congrArg List.tail HSUF.out
  rw [HREM.out] at h'
  simpa using h'
 have hni : (nx : Int) < (ll : Int):=by omega
 have hne1 : ((nx : Int) == (ll : Int)) = false:=by simp;omega
 have hne2 : ¬ (nx : Int) = (ll : Int):=by omega
 have hne3 : decide ((nx : Int) = (ll : Int)) = false:=by simp;omega
 obtain ⟨ib,io,rfl,_,i0,i1,i2,i3,i4⟩:=HX2.out.ins hli
 simp only at i0 i1 i2 i3 i4
 have hs4 : Suf fs { t with rem:=r }:=⟨nx + 1,by rw [show bodyOf fs { t with rem:=r } = l from HBODY.out,HLL.out];omega,by rw [show bodyOf fs { t with rem:=r } = l from HBODY.out];exact hrl⟩
 have hnx4 : nextOf fs { t with rem:=r } = nx + 1:=by
  show (bodyOf fs t).length - r.length = nx + 1
  rw [HBODY.out,hrl,List.length_drop,HLL.out]
  omega
 have h3:=h2.below (new_blk V (.cells #[.int .i64 1,.int .i64 F,.int .i64 R,.int .i64 K,.int .i64 L] 45))
 have h4:=h3.setFrame (i:=a) HA.out (t':={ t with rem:=r }) (j:=2) (v:=.int .i64 ((nx : Int) + 1)) (by omega) (by
  rw [HT.out]
  have e1 : frV fs { t with rem:=r } = [.int .i64 t.f,.int .i64 t.x,.int .i64 (nextOf fs { t with rem:=r } : Int),.int .i64 t.r,.int .u64 t.h,.int .i64 (fromZ t),.bool (calledB t),.int .i64 t.out,.bool t.asd]:=rfl
  rw [e1,hnx4]
  rfl) hs4
 have ht4 : ((s.putT a { t with rem:=r }).t a) = { t with rem:=r }:=by rw [St.t_putT s _ HA.out a,if_pos rfl]
 have hl4 : a < (s.putT a { t with rem:=r }).ts.length:=by rw [St.putT_len];exact HA.out
 obtain ⟨_,m1,_,_,_,_,_,_,_⟩:=h3.own
 have mN:=(h3.nine HA.out HT.out).2.2.1
 have mz:=h3.frz (a * 9 + 2)
 rw [HNX.out] at mN
 obtain ⟨q0,q1,q2,q3,q4,q5,q6,q7,q9⟩:=h4.own
 rw [St.putT_len] at q1
 rw [HNE.out] at m1 q1
 have hnx64 : (nx : Int) + 1 ≤ 9223372036854775807:=by omega
 have hgW : g < W.heap.size:=by have:=(H1.out.fr.lt g rfl).2;rw [hsz] at this;exact this
 have hWV : W.heap.size < V.heap.size:=(Array.getElem?_eq_some_iff.1 hbx).1
 have hy1 : ((V.alloc (.cells #[.int .i64 1,.int .i64 F,.int .i64 R,.int .i64 K,.int .i64 L] 45)).setCell ⟨g,a * 9 + 2,none⟩ (.int .i64 ((nx : Int) + 1))).heap[W.heap.size]? = some (.cells #[.int .i64 (t.f : Int),.int .i64 t.x,.int .i64 (nx : Int),.int .i64 t.r,.int .u64 t.h,.int .i64 (fromZ t),.bool (calledB t),.int .i64 t.out,.bool t.asd] 143 (0,0)):=blk_set ((Below.heap_alloc V _ _ hWV).trans hbx) (by omega) _ _
 have hy2 : ((V.alloc (.cells #[.int .i64 1,.int .i64 F,.int .i64 R,.int .i64 K,.int .i64 L] 45)).setCell ⟨g,a * 9 + 2,none⟩ (.int .i64 ((nx : Int) + 1))).heap[V.heap.size]? = some (.cells #[.int .i64 1,.int .i64 F,.int .i64 R,.int .i64 K,.int .i64 L] 45 (0,0)):=blk_set (heap_new V _) (by omega) _ _
 have H4:=hide h4
 clear hrl
 clear hV hbV hsz e0 e1 e2 hc f0 f1 f2 f3 f4 f5 f6 f7 f8 r0 r1 e0' r0' r1' c5 z5 H1 HX HX2 h2 h3
 clear ht4 hl4 hs4 hnx4 h4 hbx
 go_wp2
 rename_i K0 hK0
 generalize ((V.alloc (.cells #[.int .i64 1,.int .i64 F,.int .i64 R,.int .i64 K,.int .i64 L] 45)).setCell ⟨g,a * 9 + 2,none⟩ (.int .i64 ((nx : Int) + 1))) = Y at hy1 hy2 H4 q0 q1 q2 q3 q4 q5 q6 q7 q9 ⊢
 obtain ⟨vb,hvb⟩ : ∃ vb,V.heap.size = vb:=⟨_,rfl⟩
 obtain ⟨wb,hwb⟩ : ∃ wb,W.heap.size = wb:=⟨_,rfl⟩
 rw [hvb] at hy2 ⊢
 rw [hwb] at hy1
 rw [hwb]
 obtain ⟨ta,tc,rfl⟩:=own_form H4.out.trc
 have s2:=blk_cell (i:=2) hy2 rfl
 have s3:=blk_cell (i:=3) hy2 rfl
 have s4:=blk_cell (i:=4) hy2 rfl
 have s1:=blk_cell (i:=1) hy1 rfl
 have hS0 : (fun Z : World=>Z.cell? ⟨vb,2,none⟩ = some (.int .i64 R) ∧ Z.cell? ⟨vb,3,none⟩ = some (.int .i64 K) ∧ Z.cell? ⟨vb,4,none⟩ = some (.int .i64 L) ∧ Z.cell? ⟨wb,1,none⟩ = some (.int .i64 t.x)) Y.drew:=⟨s2,s3,s4,s1⟩
 refine wp_region_held_drew (S:=(fun Z : World=>Z.cell? ⟨vb,2,none⟩ = some (.int .i64 R) ∧ Z.cell? ⟨vb,3,none⟩ = some (.int .i64 K) ∧ Z.cell? ⟨vb,4,none⟩ = some (.int .i64 L) ∧ Z.cell? ⟨wb,1,none⟩ = some (.int .i64 t.x))) (by kernel_rfl) hS0 (fun _=>?_)
 refine take_at 0 194 (.pointer (some ⟨yb,0,none⟩)) rfl rfl (by kernel_rfl) (by kernel_rfl) (by kernel_rfl) (fun _ _ _ h=>h) (by rfl) ?y0 hS0 ?_
 case y0 =>
  rintro Z ⟨g2,g3,g4,g1⟩
  go_simp
 simp only [List.setIfInBounds_toArray,List.set_cons_zero,List.set_cons_succ]
 refine take_at 1 195 (.pointer (some ⟨yb,0,none⟩)) rfl rfl (by kernel_rfl) (by kernel_rfl) (by kernel_rfl) (fun _ _ _ h=>h) (by rfl) ?y1 hS0 ?_
 case y1 =>
  rintro Z ⟨g2,g3,g4,g1⟩
  go_simp
 simp only [List.setIfInBounds_toArray,List.set_cons_zero,List.set_cons_succ]
 refine take_at 2 196 (.pointer (some ⟨yb,0,none⟩)) rfl rfl (by kernel_rfl) (by kernel_rfl) (by kernel_rfl) (fun _ _ _ h=>h) (by rfl) ?y2 hS0 ?_
 case y2 =>
  rintro Z ⟨g2,g3,g4,g1⟩
  go_simp
 simp only [List.setIfInBounds_toArray,List.set_cons_zero,List.set_cons_succ]
 refine take_at 3 197 (.pointer (some ⟨yb,4,none⟩)) rfl rfl (by kernel_rfl) (by kernel_rfl) (by kernel_rfl) (fun _ _ _ h=>h) (by rfl) ?y3 hS0 ?_
 case y3 =>
  rintro Z ⟨g2,g3,g4,g1⟩
  go_simp
 simp only [List.setIfInBounds_toArray,List.set_cons_zero,List.set_cons_succ]
 refine take_at 5 199 (.int .i64 (w : Int)) rfl rfl (by kernel_rfl) (by kernel_rfl) (by kernel_rfl) (fun _ _ _ h=>h) (by rfl) ?y5 hS0 ?_
 case y5 =>
  rintro Z ⟨g2,g3,g4,g1⟩
  go_simp
 simp only [List.setIfInBounds_toArray,List.set_cons_zero,List.set_cons_succ]
 refine take_at 6 200 (.pointer (some ⟨vb,2,none⟩)) rfl rfl (by kernel_rfl) (by kernel_rfl) (by kernel_rfl) (fun _ _ _ h=>h) (by rfl) ?y6 hS0 ?_
 case y6 =>
  rintro Z ⟨g2,g3,g4,g1⟩
  go_simp
 simp only [List.setIfInBounds_toArray,List.set_cons_zero,List.set_cons_succ]
 refine take_at 7 201 (.int .i64 R) rfl rfl (by kernel_rfl) (by kernel_rfl) (by kernel_rfl) (fun _ _ _ h=>h) (by rfl) ?y7 hS0 ?_
 case y7 =>
  rintro Z ⟨g2,g3,g4,g1⟩
  go_simp
 simp only [List.setIfInBounds_toArray,List.set_cons_zero,List.set_cons_succ]
 refine take_at 8 202 (.pointer (some ⟨vb,3,none⟩)) rfl rfl (by kernel_rfl) (by kernel_rfl) (by kernel_rfl) (fun _ _ _ h=>h) (by rfl) ?y8 hS0 ?_
 case y8 =>
  rintro Z ⟨g2,g3,g4,g1⟩
  go_simp
 simp only [List.setIfInBounds_toArray,List.set_cons_zero,List.set_cons_succ]
 refine take_at 9 203 (.int .i64 K) rfl rfl (by kernel_rfl) (by kernel_rfl) (by kernel_rfl) (fun _ _ _ h=>h) (by rfl) ?y9 hS0 ?_
 case y9 =>
  rintro Z ⟨g2,g3,g4,g1⟩
  go_simp
 simp only [List.setIfInBounds_toArray,List.set_cons_zero,List.set_cons_succ]
 refine take_at 10 204 (.pointer (some ⟨vb,4,none⟩)) rfl rfl (by kernel_rfl) (by kernel_rfl) (by kernel_rfl) (fun _ _ _ h=>h) (by rfl) ?y10 hS0 ?_
 case y10 =>
  rintro Z ⟨g2,g3,g4,g1⟩
  go_simp
 simp only [List.setIfInBounds_toArray,List.set_cons_zero,List.set_cons_succ]
 refine take_at 11 205 (.int .i64 L) rfl rfl (by kernel_rfl) (by kernel_rfl) (by kernel_rfl) (fun _ _ _ h=>h) (by rfl) ?y11 hS0 ?_
 case y11 =>
  rintro Z ⟨g2,g3,g4,g1⟩
  go_simp
 simp only [List.setIfInBounds_toArray,List.set_cons_zero,List.set_cons_succ]
 refine take_at 12 206 (.pointer (some ⟨wb,1,none⟩)) rfl rfl (by kernel_rfl) (by kernel_rfl) (by kernel_rfl) (fun _ _ _ h=>h) (by rfl) ?y12 hS0 ?_
 case y12 =>
  rintro Z ⟨g2,g3,g4,g1⟩
  go_simp
 simp only [List.setIfInBounds_toArray,List.set_cons_zero,List.set_cons_succ]
 refine take_at 13 207 (.int .i64 t.x) rfl rfl (by kernel_rfl) (by kernel_rfl) (by kernel_rfl) (fun _ _ _ h=>h) (by rfl) ?y13 hS0 ?_
 case y13 =>
  rintro Z ⟨g2,g3,g4,g1⟩
  go_simp
 simp only [List.setIfInBounds_toArray,List.set_cons_zero,List.set_cons_succ]
 refine take_at 14 208 (.int .i64 (wrap64 (L * t.x))) rfl rfl (by kernel_rfl) (by kernel_rfl) (by kernel_rfl) (fun _ _ _ h=>h) (by rfl) ?y14 hS0 ?_
 case y14 =>
  rintro Z ⟨g2,g3,g4,g1⟩
  go_simp
  try exact wrap_i64' _
 simp only [List.setIfInBounds_toArray,List.set_cons_zero,List.set_cons_succ]
 refine take_at 15 209 (.int .i64 (wrap64 (K + wrap64 (L * t.x)))) rfl rfl (by kernel_rfl) (by kernel_rfl) (by kernel_rfl) (fun _ _ _ h=>h) (by rfl) ?y15 hS0 ?_
 case y15 =>
  rintro Z ⟨g2,g3,g4,g1⟩
  go_simp
  try exact wrap_i64' _
 simp only [List.setIfInBounds_toArray,List.set_cons_zero,List.set_cons_succ]
 refine take_at 16 210 (.agg #[.int .i64 (w : Int),.int .i64 R,.int .i64 (wrap64 (K + wrap64 (L * t.x)))]) rfl rfl (by kernel_rfl) (by kernel_rfl) (by kernel_rfl) (fun _ _ _ h=>h) (by rfl) ?y16 hS0 ?_
 case y16 =>
  rintro Z ⟨g2,g3,g4,g1⟩
  go_simp
 simp only [List.setIfInBounds_toArray,List.set_cons_zero,List.set_cons_succ]
 have hby : B ≤ Y.heap.size:=by have:=(Array.getElem?_eq_some_iff.1 H4.out.blk).1;have:=H4.out.yB;omega
 have HFIN : Hid (∀ (a7 : Option Addr) (c7 : Nat) (w7 : World),w7.ownsRow B 89 3 (.slice a7 (tr.length + 1) c7) (tr.length + 1) (evCells tr ++ [.int .i64 (w : Int),.int .i64 R,.int .i64 (wrap64 (K + wrap64 (L * t.x)))]) → (Y.drew.alloc (.cells #[.int .i64 (w : Int),.int .i64 R,.int .i64 (wrap64 (K + wrap64 (L * t.x)))] 89)).grownBy w7 (Value.slice ta tr.length tc).ownBlock → PlayM fs w0 (w7.setCell ⟨yb,4,none⟩ (.slice a7 (tr.length + 1) c7)) B rb yb g gH gS k cap (s.putT a { t with rem:=r }) (.slice a7 (tr.length + 1) c7) us (tr ++ [⟨w,R,wrap64 (K + wrap64 (L * t.x))⟩]) (n0 + 1) n1 n2 false ∧ w7.heap[wb]? = Y.heap[wb]? ∧ w7.heap[vb]? = Y.heap[vb]? ∧ w7.cell? ⟨yb,4,none⟩ = some (.slice ta tr.length tc) ∧ w7.frozen? ⟨yb,4,none⟩ = false):=fun a7 c7 w7 ho hg=>by
  have hD : PlayM fs w0 Y.drew B rb yb g gH gS k cap (s.putT a { t with rem:=r }) (.slice ta tr.length tc) us tr (n0 + 1) n1 n2 false:=H4.out.below (W':=Y.drew) ⟨rfl,rfl,rfl,Nat.le_refl _,fun _ _=>rfl⟩
  have e1:=grown_blk hg (c:=wb) (x:=_) hy1 (own_type hD.trc hy1 (by decide))
  have e2:=grown_blk hg (c:=vb) (x:=_) hy2 (own_type hD.trc hy2 (by decide))
  have e3:=grown_blk hg hD.blk hD.t_y
  exact ⟨hD.newEvent (e:=⟨w,R,wrap64 (K + wrap64 (L * t.x))⟩) hg ho,e1.trans hy1.symm,e2.trans hy2.symm,blk_cell e3 rfl,blk_frz e3 4⟩
 have htrc : Hid ((Y.drew).ownsRow B 89 3 (.slice ta tr.length tc) tr.length (evCells tr)):=H4.out.trc
 have HY1:=hide hy1
 have HY2:=hide hy2
 have hyv : ¬ vb = yb:=fun e=>blk_ne H4.out.blk hy2 (by decide) e.symm
 have hyw : ¬ wb = yb:=fun e=>blk_ne H4.out.blk hy1 (by decide) e.symm
 obtain ⟨tl,htl⟩ : ∃ tl,tr.length = tl:=⟨_,rfl⟩
 rw [htl] at HFIN htrc htr q4
 refine wpAnyH_ready (rs:=[4,17]) (by kernel_rfl) (by simp) ?_
 refine AllReadyH.cons rfl (fun K1 hK1=>?_) (AllReadyH.cons rfl (fun K1 hK1=>?_) AllReadyH.nil)
 ·go_simp
  refine hK1.out _ _ hS0 (fun _=>?_)
  clear hK1 K1
  try simp only [Act.put,List.setIfInBounds_toArray,List.set_cons_zero,List.set_cons_succ]
  refine wpAnyH_ready (rs:=[17]) (by kernel_rfl) (by simp) ?_
  refine AllReadyH.cons rfl (fun K1 hK1=>?_) AllReadyH.nil
  go_simp
  refine hK1.out _ _ ⟨cell_al s2 _,cell_al s3 _,cell_al s4 _,cell_al s1 _⟩ (fun _=>?_)
  clear hK1 K1
  try simp only [Act.put,List.setIfInBounds_toArray,List.set_cons_zero,List.set_cons_succ]
  refine wpAnyH_ready (rs:=[18]) (by kernel_rfl) (by simp) ?_
  refine AllReadyH.cons rfl (fun K1 hK1=>?_) AllReadyH.nil
  refine step_app2 _ (by rfl) _ _ 65 (by rfl) B 89 iv _ 3 24 Tryz.underlying65 hiv hv0 hv1 hv2 (by rfl) (by decide) (.slice ta tl tc) tl (evCells tr) (by rfl) (by exact htrc.out.alloc _) (.slice (some ⟨Y.heap.size,0,none⟩) 1 1) 1 [.int .i64 (w : Int),.int .i64 R,.int .i64 (wrap64 (K + wrap64 (L * t.x)))] (by rfl) (by exact cells3 Y.drew _ _ _ _ _ rfl) (by simp [Value.oneCell']) (by unfold maxLen;omega) (by omega) (by simp;omega) ?_
  intro a7 c7 w7 ho7 hg7 _ _ _
  obtain ⟨hP7,e1,e2,e3,e4⟩:=HFIN.out a7 c7 w7 ho7 hg7
  have d2:=blk_cell (i:=2) (e2.trans HY2.out) rfl
  have d3:=blk_cell (i:=3) (e2.trans HY2.out) rfl
  have d4:=blk_cell (i:=4) (e2.trans HY2.out) rfl
  have d1:=blk_cell (i:=1) (e1.trans HY1.out) rfl
  have HP7:=hide hP7
  clear hP7 ho7 hg7
  have hS7 : (fun Z : World=>Z.cell? ⟨vb,2,none⟩ = some (.int .i64 R) ∧ Z.cell? ⟨vb,3,none⟩ = some (.int .i64 K) ∧ Z.cell? ⟨vb,4,none⟩ = some (.int .i64 L) ∧ Z.cell? ⟨wb,1,none⟩ = some (.int .i64 t.x)) w7:=⟨d2,d3,d4,d1⟩
  refine hK1.out _ _ hS7 (fun _=>?_)
  clear hK1 K1
  try simp only [Act.put,List.setIfInBounds_toArray]
  refine take_at 19 213 (.pointer (some ⟨yb,0,none⟩)) rfl rfl (by kernel_rfl) (by kernel_rfl) (by kernel_rfl) (fun _ _ _ h=>h) (by rfl) ?y19 hS7 ?_
  case y19 =>
   rintro Z ⟨g2,g3,g4,g1⟩
   go_simp
  simp only [List.setIfInBounds_toArray,List.set_cons_zero,List.set_cons_succ]
  refine take_at 20 214 (.pointer (some ⟨yb,4,none⟩)) rfl rfl (by kernel_rfl) (by kernel_rfl) (by kernel_rfl) (fun _ _ _ h=>h) (by rfl) ?y20 hS7 ?_
  case y20 =>
   rintro Z ⟨g2,g3,g4,g1⟩
   go_simp
  simp only [List.setIfInBounds_toArray,List.set_cons_zero,List.set_cons_succ]
  refine wpAnyH_ready (rs:=[21]) (by kernel_rfl) (by simp) ?_
  refine AllReadyH.cons rfl (fun K1 hK1=>?_) AllReadyH.nil
  go_simp
  refine hK1.out _ _ ⟨blk_cell (i:=2) (blk_set (e2.trans HY2.out) hyv _ _) rfl,blk_cell (i:=3) (blk_set (e2.trans HY2.out) hyv _ _) rfl,blk_cell (i:=4) (blk_set (e2.trans HY2.out) hyv _ _) rfl,blk_cell (i:=1) (blk_set (e1.trans HY1.out) hyw _ _) rfl⟩ (fun _=>?_)
  clear hK1 K1
  refine wpAnyH_done (by kernel_rfl) ?_ _
  go_wp2
  refine bodyPost_end (results_none rfl _ _ _) rfl ?_
  exact ⟨rfl,_,HP7.out⟩
 ·go_simp
  refine hK1.out _ _ ⟨cell_al s2 _,cell_al s3 _,cell_al s4 _,cell_al s1 _⟩ (fun _=>?_)
  clear hK1 K1
  try simp only [Act.put,List.setIfInBounds_toArray,List.set_cons_zero,List.set_cons_succ]
  have q44 : ∀ o,(Y.alloc o).cell? ⟨yb,4,none⟩ = some (.slice ta tl tc):=fun o=>cell_al q4 o
  refine wpAnyH_ready (rs:=[4]) (by kernel_rfl) (by simp) ?_
  refine AllReadyH.cons rfl (fun K1 hK1=>?_) AllReadyH.nil
  go_simp
  refine hK1.out _ _ ⟨cell_al s2 _,cell_al s3 _,cell_al s4 _,cell_al s1 _⟩ (fun _=>?_)
  clear hK1 K1 q44
  try simp only [Act.put,List.setIfInBounds_toArray,List.set_cons_zero,List.set_cons_succ]
  refine wpAnyH_ready (rs:=[18]) (by kernel_rfl) (by simp) ?_
  refine AllReadyH.cons rfl (fun K1 hK1=>?_) AllReadyH.nil
  refine step_app2 _ (by rfl) _ _ 65 (by rfl) B 89 iv _ 3 24 Tryz.underlying65 hiv hv0 hv1 hv2 (by rfl) (by decide) (.slice ta tl tc) tl (evCells tr) (by rfl) (by exact htrc.out.alloc _) (.slice (some ⟨Y.heap.size,0,none⟩) 1 1) 1 [.int .i64 (w : Int),.int .i64 R,.int .i64 (wrap64 (K + wrap64 (L * t.x)))] (by rfl) (by exact cells3 Y.drew _ _ _ _ _ rfl) (by simp [Value.oneCell']) (by unfold maxLen;omega) (by omega) (by simp;omega) ?_
  intro a7 c7 w7 ho7 hg7 _ _ _
  obtain ⟨hP7,e1,e2,e3,e4⟩:=HFIN.out a7 c7 w7 ho7 hg7
  have d2:=blk_cell (i:=2) (e2.trans HY2.out) rfl
  have d3:=blk_cell (i:=3) (e2.trans HY2.out) rfl
  have d4:=blk_cell (i:=4) (e2.trans HY2.out) rfl
  have d1:=blk_cell (i:=1) (e1.trans HY1.out) rfl
  have HP7:=hide hP7
  clear hP7 ho7 hg7
  have hS7 : (fun Z : World=>Z.cell? ⟨vb,2,none⟩ = some (.int .i64 R) ∧ Z.cell? ⟨vb,3,none⟩ = some (.int .i64 K) ∧ Z.cell? ⟨vb,4,none⟩ = some (.int .i64 L) ∧ Z.cell? ⟨wb,1,none⟩ = some (.int .i64 t.x)) w7:=⟨d2,d3,d4,d1⟩
  refine hK1.out _ _ hS7 (fun _=>?_)
  clear hK1 K1
  try simp only [Act.put,List.setIfInBounds_toArray]
  refine take_at 19 213 (.pointer (some ⟨yb,0,none⟩)) rfl rfl (by kernel_rfl) (by kernel_rfl) (by kernel_rfl) (fun _ _ _ h=>h) (by rfl) ?y19 hS7 ?_
  case y19 =>
   rintro Z ⟨g2,g3,g4,g1⟩
   go_simp
  simp only [List.setIfInBounds_toArray,List.set_cons_zero,List.set_cons_succ]
  refine take_at 20 214 (.pointer (some ⟨yb,4,none⟩)) rfl rfl (by kernel_rfl) (by kernel_rfl) (by kernel_rfl) (fun _ _ _ h=>h) (by rfl) ?y20 hS7 ?_
  case y20 =>
   rintro Z ⟨g2,g3,g4,g1⟩
   go_simp
  simp only [List.setIfInBounds_toArray,List.set_cons_zero,List.set_cons_succ]
  refine wpAnyH_ready (rs:=[21]) (by kernel_rfl) (by simp) ?_
  refine AllReadyH.cons rfl (fun K1 hK1=>?_) AllReadyH.nil
  go_simp
  refine hK1.out _ _ ⟨blk_cell (i:=2) (blk_set (e2.trans HY2.out) hyv _ _) rfl,blk_cell (i:=3) (blk_set (e2.trans HY2.out) hyv _ _) rfl,blk_cell (i:=4) (blk_set (e2.trans HY2.out) hyv _ _) rfl,blk_cell (i:=1) (blk_set (e1.trans HY1.out) hyw _ _) rfl⟩ (fun _=>?_)
  clear hK1 K1
  refine wpAnyH_done (by kernel_rfl) ?_ _
  go_wp2
  refine bodyPost_end (results_none rfl _ _ _) rfl ?_
  exact ⟨rfl,_,HP7.out⟩
end
end Go.Proofs.YtkmakliebhnhbaaGreat
namespace Go.Proofs.YtkmakliebhnhbaaGreat
open Go.RowKit Go.Shelf
section
variable {fs : List (List Ins)} {w0 W : World} {B rb yb g gH gS k cap : Nat} {s : St} {tv : Value} {us : List Value} {tr : List Ev} {n0 n1 n2 : Nat} {S : Nat → Prop} {reds : List Int}
set_option maxHeartbeats 8000000 in
set_option maxRecDepth 100000 in
theorem step_draw (h : PlayM fs w0 W B rb yb g gH gS k cap s tv us tr n0 n1 n2 false) (hR : RefP S w0 (.pointer (some ⟨rb,0,none⟩)) fs reds) (hB : w0.heap.size ≤ B) {w v a : Nat} {t : Tk} {F R K L : Int} {r : List Ins} (hw : w < k) (hn0 : n0 ≤ 1000000) (hh : (s.w w).hand = some a) (ha : a < s.ts.length) (ht : s.t a = t) (hf : t.f < fs.length) (hr0 : 0 ≤ t.r) (hr1 : t.r ≤ 10) (hrem : t.rem = ⟨2,F,R,K,L⟩ :: r) (htr : tr.length ≤ 1000000) (hk0 : 0 < K) (hk1 : K < 9223372036854775808) :
  Calls Tryz.prog 62 #[.pointer (some ⟨yb,0,none⟩),.int .i64 (w : Int),.int .i64 (v : Int)] W fun e w'=>e = .returned (.tuple #[]) ∧ ∃ tv',PlayM fs w0 w' B rb yb g gH gS k cap (s.putT a { t with rem:=r,r:=t.r + 1 }) tv' us (tr ++ [⟨w,R,drawnZ t.h t.r K⟩]) (n0 + 1) n1 n2 false:=by
 have HDR:=hide (fun X=>drawn_any t.h t.r K X hr0 (by omega) hk0 hk1)
 obtain ⟨dz,hdz⟩ : ∃ dz,drawnZ t.h t.r K = dz:=⟨_,rfl⟩
 rw [hdz] at HDR ⊢
 clear hdz
 have hmix : Tryz.prog.follows .mixedOrders = true:=by kernel_rfl
 obtain ⟨iv,hiv,hv0,hv1,hv2⟩:=info_parts Tryz.infoEv
 have h1:=h.setOwn (i:=5) (v:=.int .i64 ((n0 : Int) + 1)) (m0:=n0 + 1) (m1:=n1) (m2:=n2) (d':=false) rfl
 obtain ⟨_,_,_,_,_,c5,_,_,_⟩:=h.own
 have z5:=h.ofz 5
 obtain ⟨e0,e1,e2,_,_,_,_,_,_⟩:=h1.own
 have hc:=h1.hdc hw
 have hz : handZ (s.w w) = (a : Int):=by unfold handZ;rw [hh]
 rw [hz] at hc
 obtain ⟨f0,f1,f2,f3,f4,f5,f6,f7,f8⟩:=h1.nine ha ht
 obtain ⟨l,hl⟩ : ∃ l,fs[t.f]? = some l:=⟨_,List.getElem?_eq_getElem hf⟩
 obtain ⟨hsuf,hnx⟩:=(h.suf t (by rw [← ht];exact St.t_mem ha)).next
 have hbody : bodyOf fs t = l:=by unfold bodyOf;rw [hl];rfl
 rw [hbody] at hsuf hnx
 obtain ⟨_,nf,fc,fb,fo,x,xc,r0,rfl,hfn,hnf,r1,hl64,hX⟩:=ref_fn hR h1.bel hB hl
 have hwi : (w : Int) < (k : Int):=by omega
 have hai : (a : Int) < (s.ts.length : Int):=by omega
 have ha0 : ¬ (a : Int) < 0:=by omega
 have hfi : (t.f : Int) < (nf : Int):=by omega
 have H1:=hide h1
 have HX:=hide hX
 have HT:=hide ht
 have HSUF:=hide hsuf
 have HBODY:=hide hbody
 have HREM:=hide hrem
 obtain ⟨nx,hnxe⟩ : ∃ nx,nextOf fs t = nx:=⟨_,rfl⟩
 obtain ⟨ll,hll⟩ : ∃ ll,l.length = ll:=⟨_,rfl⟩
 obtain ⟨n,hne⟩ : ∃ n,s.ts.length = n:=⟨_,rfl⟩
 rw [hnxe] at f2 hnx HSUF
 have HNX:=hide hnxe
 have HNE:=hide hne
 rw [hll] at r1 hl64 hnx HX
 rw [hne] at e1 hai
 have HLL:=hide hll
 clear h h1 hR hX ht hsuf hrem hl hz hbody hnxe hll
 have ha' : a < s.ts.length:=ha
 have HA:=hide ha'
 clear ha ha' hne
 have e0':=cell_al e0
 have r0':=cell_al r0
 have r1':=cell_al r1
 go_enter Tryz.func62,Tryz.ntmps62
 go_wp2
 go_quiet (fail)
 obtain ⟨V,hV⟩ : ∃ V,((W.setCell ⟨yb,5,none⟩ (.int .i64 ((n0 : Int) + 1))).alloc (.cells #[.int .i64 (t.f : Int),.int .i64 t.x,.int .i64 (nx : Int),.int .i64 t.r,.int .u64 t.h,.int .i64 (fromZ t),.bool (calledB t),.int .i64 t.out,.bool t.asd] 143)).drewN nq = V:=⟨_,rfl⟩
 have hsz : (W.setCell ⟨yb,5,none⟩ (.int .i64 ((n0 : Int) + 1))).heap.size = W.heap.size:=by simp [World.setCell]
 have hbx : V.heap[W.heap.size]? = some (.cells #[.int .i64 (t.f : Int),.int .i64 t.x,.int .i64 (nx : Int),.int .i64 t.r,.int .u64 t.h,.int .i64 (fromZ t),.bool (calledB t),.int .i64 t.out,.bool t.asd] 143 (0,0)):=by
  rw [← hV,← hsz]
  exact heap_new (W.setCell ⟨yb,5,none⟩ (.int .i64 ((n0 : Int) + 1))) _
 have hbV : Below (W.setCell ⟨yb,5,none⟩ (.int .i64 ((n0 : Int) + 1))).heap.size (W.setCell ⟨yb,5,none⟩ (.int .i64 ((n0 : Int) + 1))) V:=by
  rw [← hV]
  exact below_drewN ((Below.refl _ _).alloc (Nat.le_refl _) _) nq
 rw [hV]
 have h2:=H1.out.below hbV
 have HX2:=hide (HX.out.below hbV (fun x _=>List.cons_ne_nil _ _))
 have b0:=blk_cell (i:=0) hbx rfl
 have b1:=blk_cell (i:=1) hbx rfl
 have b2:=blk_cell (i:=2) hbx rfl
 have b3:=blk_cell (i:=3) hbx rfl
 have b4:=blk_cell (i:=4) hbx rfl
 have b7:=blk_cell (i:=7) hbx rfl
 obtain ⟨_,g1,g2,_,_,_,_,_,_⟩:=h2.own
 have hli : l[nx]? = some ⟨2,F,R,K,L⟩:=by
  have h':=congrArg (fun z=>z[0]?) HSUF.out
  rw [HREM.out] at h'
  simp at h'
  exact h'.symm
 have hnl : nx < ll:=by have:=(List.getElem?_eq_some_iff.1 hli).1;rw [HLL.out] at this;exact this
 have hrl : r = l.drop (nx + 1):=by
  have h':=congrArg List.tail HSUF.out
  rw [HREM.out] at h'
  simpa using h'
 have hni : (nx : Int) < (ll : Int):=by omega
 have hne1 : ((nx : Int) == (ll : Int)) = false:=by simp;omega
 have hne2 : ¬ (nx : Int) = (ll : Int):=by omega
 have hne3 : decide ((nx : Int) = (ll : Int)) = false:=by simp;omega
 obtain ⟨ib,io,rfl,_,i0,i1,i2,i3,i4⟩:=HX2.out.ins hli
 simp only at i0 i1 i2 i3 i4
 have hs4 : Suf fs { t with rem:=r }:=⟨nx + 1,by rw [show bodyOf fs { t with rem:=r } = l from HBODY.out,HLL.out];omega,by rw [show bodyOf fs { t with rem:=r } = l from HBODY.out];exact hrl⟩
 have hnx4 : nextOf fs { t with rem:=r } = nx + 1:=by
  show (bodyOf fs t).length - r.length = nx + 1
  rw [HBODY.out,hrl,List.length_drop,HLL.out]
  omega
 have h3:=h2.below (new_blk V (.cells #[.int .i64 2,.int .i64 F,.int .i64 R,.int .i64 K,.int .i64 L] 45))
 have h4:=h3.setFrame (i:=a) HA.out (t':={ t with rem:=r }) (j:=2) (v:=.int .i64 ((nx : Int) + 1)) (by omega) (by
  rw [HT.out]
  have e1 : frV fs { t with rem:=r } = [.int .i64 t.f,.int .i64 t.x,.int .i64 (nextOf fs { t with rem:=r } : Int),.int .i64 t.r,.int .u64 t.h,.int .i64 (fromZ t),.bool (calledB t),.int .i64 t.out,.bool t.asd]:=rfl
  rw [e1,hnx4]
  rfl) hs4
 have ht4 : ((s.putT a { t with rem:=r }).t a) = { t with rem:=r }:=by rw [St.t_putT s _ HA.out a,if_pos rfl]
 have hl4 : a < (s.putT a { t with rem:=r }).ts.length:=by rw [St.putT_len];exact HA.out
 obtain ⟨_,m1,_,_,_,_,_,_,_⟩:=h3.own
 have mN:=(h3.nine HA.out HT.out).2.2.1
 have mz:=h3.frz (a * 9 + 2)
 rw [HNX.out] at mN
 obtain ⟨q0,q1,q2,q3,q4,q5,q6,q7,q9⟩:=h4.own
 rw [St.putT_len] at q1
 rw [HNE.out] at m1 q1
 have hnx64 : (nx : Int) + 1 ≤ 9223372036854775807:=by omega
 have hgW : g < W.heap.size:=by have:=(H1.out.fr.lt g rfl).2;rw [hsz] at this;exact this
 have hWV : W.heap.size < V.heap.size:=(Array.getElem?_eq_some_iff.1 hbx).1
 have hy1 : ((V.alloc (.cells #[.int .i64 2,.int .i64 F,.int .i64 R,.int .i64 K,.int .i64 L] 45)).setCell ⟨g,a * 9 + 2,none⟩ (.int .i64 ((nx : Int) + 1))).heap[W.heap.size]? = some (.cells #[.int .i64 (t.f : Int),.int .i64 t.x,.int .i64 (nx : Int),.int .i64 t.r,.int .u64 t.h,.int .i64 (fromZ t),.bool (calledB t),.int .i64 t.out,.bool t.asd] 143 (0,0)):=blk_set ((Below.heap_alloc V _ _ hWV).trans hbx) (by omega) _ _
 have hy2 : ((V.alloc (.cells #[.int .i64 2,.int .i64 F,.int .i64 R,.int .i64 K,.int .i64 L] 45)).setCell ⟨g,a * 9 + 2,none⟩ (.int .i64 ((nx : Int) + 1))).heap[V.heap.size]? = some (.cells #[.int .i64 2,.int .i64 F,.int .i64 R,.int .i64 K,.int .i64 L] 45 (0,0)):=blk_set (heap_new V _) (by omega) _ _
 have H4:=hide h4
 clear hrl
 clear hV hbV hsz e0 e1 e2 hc f0 f1 f2 f3 f4 f5 f6 f7 f8 r0 r1 e0' r0' r1' c5 z5 H1 HX HX2 h2 h3
 have HT4:=hide ht4
 have HL4:=hide hl4
 have HS4:=hide hs4
 have u3:=blk_cell (i:=3) hy2 rfl
 have u4:=blk_cell (i:=4) hy1 rfl
 have u5:=blk_cell (i:=3) hy1 rfl
 clear ht4 hl4 hs4 hnx4 h4 hbx
 go_wp2_with (go_at_call 53;refine (HDR.out _).mono ?_;rintro e w' ⟨rfl,hw'⟩;subst hw')
 rename_i K0 hK0
 generalize ((V.alloc (.cells #[.int .i64 2,.int .i64 F,.int .i64 R,.int .i64 K,.int .i64 L] 45)).setCell ⟨g,a * 9 + 2,none⟩ (.int .i64 ((nx : Int) + 1))) = Y at hy1 hy2 H4 q0 q1 q2 q3 q4 q5 q6 q7 q9 ⊢
 obtain ⟨vb,hvb⟩ : ∃ vb,V.heap.size = vb:=⟨_,rfl⟩
 obtain ⟨wb,hwb⟩ : ∃ wb,W.heap.size = wb:=⟨_,rfl⟩
 rw [hvb] at hy2 ⊢
 rw [hwb] at hy1
 rw [hwb]
 obtain ⟨ta,tc,rfl⟩:=own_form H4.out.trc
 have s2:=blk_cell (i:=2) hy2 rfl
 have s3:=blk_cell (i:=3) hy2 rfl
 have s4:=blk_cell (i:=4) hy2 rfl
 have s1:=blk_cell (i:=1) hy1 rfl
 have hS0 : (fun Z : World=>Z.cell? ⟨vb,2,none⟩ = some (.int .i64 R) ∧ Z.cell? ⟨vb,3,none⟩ = some (.int .i64 K) ∧ Z.cell? ⟨vb,4,none⟩ = some (.int .i64 L) ∧ Z.cell? ⟨wb,1,none⟩ = some (.int .i64 t.x)) Y.drew:=⟨s2,s3,s4,s1⟩
 refine wp_region_held_drew (S:=(fun Z : World=>Z.cell? ⟨vb,2,none⟩ = some (.int .i64 R) ∧ Z.cell? ⟨vb,3,none⟩ = some (.int .i64 K) ∧ Z.cell? ⟨vb,4,none⟩ = some (.int .i64 L) ∧ Z.cell? ⟨wb,1,none⟩ = some (.int .i64 t.x))) (by kernel_rfl) hS0 (fun _=>?_)
 refine take_at 0 224 (.pointer (some ⟨yb,0,none⟩)) rfl rfl (by kernel_rfl) (by kernel_rfl) (by kernel_rfl) (fun _ _ _ h=>h) (by rfl) ?y0 hS0 ?_
 case y0 =>
  rintro Z ⟨g2,g3,g4,g1⟩
  go_simp
 simp only [List.setIfInBounds_toArray,List.set_cons_zero,List.set_cons_succ]
 refine take_at 1 225 (.pointer (some ⟨yb,0,none⟩)) rfl rfl (by kernel_rfl) (by kernel_rfl) (by kernel_rfl) (fun _ _ _ h=>h) (by rfl) ?y1 hS0 ?_
 case y1 =>
  rintro Z ⟨g2,g3,g4,g1⟩
  go_simp
 simp only [List.setIfInBounds_toArray,List.set_cons_zero,List.set_cons_succ]
 refine take_at 2 226 (.pointer (some ⟨yb,0,none⟩)) rfl rfl (by kernel_rfl) (by kernel_rfl) (by kernel_rfl) (fun _ _ _ h=>h) (by rfl) ?y2 hS0 ?_
 case y2 =>
  rintro Z ⟨g2,g3,g4,g1⟩
  go_simp
 simp only [List.setIfInBounds_toArray,List.set_cons_zero,List.set_cons_succ]
 refine take_at 3 227 (.pointer (some ⟨yb,4,none⟩)) rfl rfl (by kernel_rfl) (by kernel_rfl) (by kernel_rfl) (fun _ _ _ h=>h) (by rfl) ?y3 hS0 ?_
 case y3 =>
  rintro Z ⟨g2,g3,g4,g1⟩
  go_simp
 simp only [List.setIfInBounds_toArray,List.set_cons_zero,List.set_cons_succ]
 refine take_at 5 229 (.int .i64 (w : Int)) rfl rfl (by kernel_rfl) (by kernel_rfl) (by kernel_rfl) (fun _ _ _ h=>h) (by rfl) ?y5 hS0 ?_
 case y5 =>
  rintro Z ⟨g2,g3,g4,g1⟩
  go_simp
 simp only [List.setIfInBounds_toArray,List.set_cons_zero,List.set_cons_succ]
 refine take_at 6 230 (.pointer (some ⟨vb,2,none⟩)) rfl rfl (by kernel_rfl) (by kernel_rfl) (by kernel_rfl) (fun _ _ _ h=>h) (by rfl) ?y6 hS0 ?_
 case y6 =>
  rintro Z ⟨g2,g3,g4,g1⟩
  go_simp
 simp only [List.setIfInBounds_toArray,List.set_cons_zero,List.set_cons_succ]
 refine take_at 7 231 (.int .i64 R) rfl rfl (by kernel_rfl) (by kernel_rfl) (by kernel_rfl) (fun _ _ _ h=>h) (by rfl) ?y7 hS0 ?_
 case y7 =>
  rintro Z ⟨g2,g3,g4,g1⟩
  go_simp
 simp only [List.setIfInBounds_toArray,List.set_cons_zero,List.set_cons_succ]
 refine take_at 8 232 (.int .i64 dz) rfl rfl (by kernel_rfl) (by kernel_rfl) (by kernel_rfl) (fun _ _ _ h=>h) (by rfl) ?y8 hS0 ?_
 case y8 =>
  rintro Z ⟨g2,g3,g4,g1⟩
  go_simp
 simp only [List.setIfInBounds_toArray,List.set_cons_zero,List.set_cons_succ]
 refine take_at 9 233 (.agg #[.int .i64 (w : Int),.int .i64 R,.int .i64 dz]) rfl rfl (by kernel_rfl) (by kernel_rfl) (by kernel_rfl) (fun _ _ _ h=>h) (by rfl) ?y9 hS0 ?_
 case y9 =>
  rintro Z ⟨g2,g3,g4,g1⟩
  go_simp
 simp only [List.setIfInBounds_toArray,List.set_cons_zero,List.set_cons_succ]
 have hby : B ≤ Y.heap.size:=by have:=(Array.getElem?_eq_some_iff.1 H4.out.blk).1;have:=H4.out.yB;omega
 have HFIN : Hid (∀ (a7 : Option Addr) (c7 : Nat) (w7 : World),w7.ownsRow B 89 3 (.slice a7 (tr.length + 1) c7) (tr.length + 1) (evCells tr ++ [.int .i64 (w : Int),.int .i64 R,.int .i64 (dz)]) → (Y.drew.alloc (.cells #[.int .i64 (w : Int),.int .i64 R,.int .i64 (dz)] 89)).grownBy w7 (Value.slice ta tr.length tc).ownBlock → PlayM fs w0 (w7.setCell ⟨yb,4,none⟩ (.slice a7 (tr.length + 1) c7)) B rb yb g gH gS k cap (s.putT a { t with rem:=r }) (.slice a7 (tr.length + 1) c7) us (tr ++ [⟨w,R,dz⟩]) (n0 + 1) n1 n2 false ∧ w7.heap[wb]? = Y.heap[wb]? ∧ w7.heap[vb]? = Y.heap[vb]? ∧ w7.cell? ⟨yb,4,none⟩ = some (.slice ta tr.length tc) ∧ w7.frozen? ⟨yb,4,none⟩ = false):=fun a7 c7 w7 ho hg=>by
  have hD : PlayM fs w0 Y.drew B rb yb g gH gS k cap (s.putT a { t with rem:=r }) (.slice ta tr.length tc) us tr (n0 + 1) n1 n2 false:=H4.out.below (W':=Y.drew) ⟨rfl,rfl,rfl,Nat.le_refl _,fun _ _=>rfl⟩
  have e1:=grown_blk hg (c:=wb) (x:=_) hy1 (own_type hD.trc hy1 (by decide))
  have e2:=grown_blk hg (c:=vb) (x:=_) hy2 (own_type hD.trc hy2 (by decide))
  have e3:=grown_blk hg hD.blk hD.t_y
  exact ⟨hD.newEvent (e:=⟨w,R,dz⟩) hg ho,e1.trans hy1.symm,e2.trans hy2.symm,blk_cell e3 rfl,blk_frz e3 4⟩
 have htrc : Hid ((Y.drew).ownsRow B 89 3 (.slice ta tr.length tc) tr.length (evCells tr)):=H4.out.trc
 have HY1:=hide hy1
 have HY2:=hide hy2
 have hyv : ¬ vb = yb:=fun e=>blk_ne H4.out.blk hy2 (by decide) e.symm
 have hyw : ¬ wb = yb:=fun e=>blk_ne H4.out.blk hy1 (by decide) e.symm
 obtain ⟨tl,htl⟩ : ∃ tl,tr.length = tl:=⟨_,rfl⟩
 rw [htl] at HFIN htrc htr q4
 refine wpAnyH_ready (rs:=[4,10]) (by kernel_rfl) (by simp) ?_
 refine AllReadyH.cons rfl (fun K1 hK1=>?_) (AllReadyH.cons rfl (fun K1 hK1=>?_) AllReadyH.nil)
 ·go_simp
  refine hK1.out _ _ hS0 (fun _=>?_)
  clear hK1 K1
  try simp only [Act.put,List.setIfInBounds_toArray,List.set_cons_zero,List.set_cons_succ]
  refine wpAnyH_ready (rs:=[10]) (by kernel_rfl) (by simp) ?_
  refine AllReadyH.cons rfl (fun K1 hK1=>?_) AllReadyH.nil
  go_simp
  refine hK1.out _ _ ⟨cell_al s2 _,cell_al s3 _,cell_al s4 _,cell_al s1 _⟩ (fun _=>?_)
  clear hK1 K1
  try simp only [Act.put,List.setIfInBounds_toArray,List.set_cons_zero,List.set_cons_succ]
  refine wpAnyH_ready (rs:=[11]) (by kernel_rfl) (by simp) ?_
  refine AllReadyH.cons rfl (fun K1 hK1=>?_) AllReadyH.nil
  refine step_app2 _ (by rfl) _ _ 65 (by rfl) B 89 iv _ 3 24 Tryz.underlying65 hiv hv0 hv1 hv2 (by rfl) (by decide) (.slice ta tl tc) tl (evCells tr) (by rfl) (by exact htrc.out.alloc _) (.slice (some ⟨Y.heap.size,0,none⟩) 1 1) 1 [.int .i64 (w : Int),.int .i64 R,.int .i64 (dz)] (by rfl) (by exact cells3 Y.drew _ _ _ _ _ rfl) (by simp [Value.oneCell']) (by unfold maxLen;omega) (by omega) (by simp;omega) ?_
  intro a7 c7 w7 ho7 hg7 _ _ _
  obtain ⟨hP7,e1,e2,e3,e4⟩:=HFIN.out a7 c7 w7 ho7 hg7
  have d2:=blk_cell (i:=2) (e2.trans HY2.out) rfl
  have d3:=blk_cell (i:=3) (e2.trans HY2.out) rfl
  have d4:=blk_cell (i:=4) (e2.trans HY2.out) rfl
  have d1:=blk_cell (i:=1) (e1.trans HY1.out) rfl
  have HP7:=hide hP7
  clear hP7 ho7 hg7
  have hS7 : (fun Z : World=>Z.cell? ⟨vb,2,none⟩ = some (.int .i64 R) ∧ Z.cell? ⟨vb,3,none⟩ = some (.int .i64 K) ∧ Z.cell? ⟨vb,4,none⟩ = some (.int .i64 L) ∧ Z.cell? ⟨wb,1,none⟩ = some (.int .i64 t.x)) w7:=⟨d2,d3,d4,d1⟩
  refine hK1.out _ _ hS7 (fun _=>?_)
  clear hK1 K1
  try simp only [Act.put,List.setIfInBounds_toArray]
  refine take_at 12 236 (.pointer (some ⟨yb,0,none⟩)) rfl rfl (by kernel_rfl) (by kernel_rfl) (by kernel_rfl) (fun _ _ _ h=>h) (by rfl) ?y12 hS7 ?_
  case y12 =>
   rintro Z ⟨g2,g3,g4,g1⟩
   go_simp
  simp only [List.setIfInBounds_toArray,List.set_cons_zero,List.set_cons_succ]
  refine take_at 13 237 (.pointer (some ⟨yb,4,none⟩)) rfl rfl (by kernel_rfl) (by kernel_rfl) (by kernel_rfl) (fun _ _ _ h=>h) (by rfl) ?y13 hS7 ?_
  case y13 =>
   rintro Z ⟨g2,g3,g4,g1⟩
   go_simp
  simp only [List.setIfInBounds_toArray,List.set_cons_zero,List.set_cons_succ]
  refine wpAnyH_ready (rs:=[14]) (by kernel_rfl) (by simp) ?_
  refine AllReadyH.cons rfl (fun K1 hK1=>?_) AllReadyH.nil
  go_simp
  refine hK1.out _ _ ⟨blk_cell (i:=2) (blk_set (e2.trans HY2.out) hyv _ _) rfl,blk_cell (i:=3) (blk_set (e2.trans HY2.out) hyv _ _) rfl,blk_cell (i:=4) (blk_set (e2.trans HY2.out) hyv _ _) rfl,blk_cell (i:=1) (blk_set (e1.trans HY1.out) hyw _ _) rfl⟩ (fun _=>?_)
  clear hK1 K1
  refine wpAnyH_done (by kernel_rfl) ?_ _
  have h9:=HP7.out.setFrame (i:=a) HL4.out (t':={ t with rem:=r,r:=t.r + 1 }) (j:=3) (v:=.int .i64 (t.r + 1)) (by omega) (by rw [HT4.out];rfl) HS4.out
  have hst : (s.putT a { t with rem:=r }).putT a { t with rem:=r,r:=t.r + 1 } = s.putT a { t with rem:=r,r:=t.r + 1 }:=by
   unfold St.putT
   simp
  rw [hst] at h9
  obtain ⟨_,x1,_,_,_,_,_,_,_⟩:=HP7.out.own
  have xR:=(HP7.out.nine HL4.out HT4.out).2.2.2.1
  have xz:=HP7.out.frz (a * 9 + 3)
  simp only at xR
  rw [St.putT_len,HNE.out] at x1
  have H9:=hide h9
  clear h9 hst HP7
  go_wp2
  refine bodyPost_end (results_none rfl _ _ _) rfl ?_
  exact ⟨rfl,_,H9.out⟩
 ·go_simp
  refine hK1.out _ _ ⟨cell_al s2 _,cell_al s3 _,cell_al s4 _,cell_al s1 _⟩ (fun _=>?_)
  clear hK1 K1
  try simp only [Act.put,List.setIfInBounds_toArray,List.set_cons_zero,List.set_cons_succ]
  have q44 : ∀ o,(Y.alloc o).cell? ⟨yb,4,none⟩ = some (.slice ta tl tc):=fun o=>cell_al q4 o
  refine wpAnyH_ready (rs:=[4]) (by kernel_rfl) (by simp) ?_
  refine AllReadyH.cons rfl (fun K1 hK1=>?_) AllReadyH.nil
  go_simp
  refine hK1.out _ _ ⟨cell_al s2 _,cell_al s3 _,cell_al s4 _,cell_al s1 _⟩ (fun _=>?_)
  clear hK1 K1 q44
  try simp only [Act.put,List.setIfInBounds_toArray,List.set_cons_zero,List.set_cons_succ]
  refine wpAnyH_ready (rs:=[11]) (by kernel_rfl) (by simp) ?_
  refine AllReadyH.cons rfl (fun K1 hK1=>?_) AllReadyH.nil
  refine step_app2 _ (by rfl) _ _ 65 (by rfl) B 89 iv _ 3 24 Tryz.underlying65 hiv hv0 hv1 hv2 (by rfl) (by decide) (.slice ta tl tc) tl (evCells tr) (by rfl) (by exact htrc.out.alloc _) (.slice (some ⟨Y.heap.size,0,none⟩) 1 1) 1 [.int .i64 (w : Int),.int .i64 R,.int .i64 (dz)] (by rfl) (by exact cells3 Y.drew _ _ _ _ _ rfl) (by simp [Value.oneCell']) (by unfold maxLen;omega) (by omega) (by simp;omega) ?_
  intro a7 c7 w7 ho7 hg7 _ _ _
  obtain ⟨hP7,e1,e2,e3,e4⟩:=HFIN.out a7 c7 w7 ho7 hg7
  have d2:=blk_cell (i:=2) (e2.trans HY2.out) rfl
  have d3:=blk_cell (i:=3) (e2.trans HY2.out) rfl
  have d4:=blk_cell (i:=4) (e2.trans HY2.out) rfl
  have d1:=blk_cell (i:=1) (e1.trans HY1.out) rfl
  have HP7:=hide hP7
  clear hP7 ho7 hg7
  have hS7 : (fun Z : World=>Z.cell? ⟨vb,2,none⟩ = some (.int .i64 R) ∧ Z.cell? ⟨vb,3,none⟩ = some (.int .i64 K) ∧ Z.cell? ⟨vb,4,none⟩ = some (.int .i64 L) ∧ Z.cell? ⟨wb,1,none⟩ = some (.int .i64 t.x)) w7:=⟨d2,d3,d4,d1⟩
  refine hK1.out _ _ hS7 (fun _=>?_)
  clear hK1 K1
  try simp only [Act.put,List.setIfInBounds_toArray]
  refine take_at 12 236 (.pointer (some ⟨yb,0,none⟩)) rfl rfl (by kernel_rfl) (by kernel_rfl) (by kernel_rfl) (fun _ _ _ h=>h) (by rfl) ?y12 hS7 ?_
  case y12 =>
   rintro Z ⟨g2,g3,g4,g1⟩
   go_simp
  simp only [List.setIfInBounds_toArray,List.set_cons_zero,List.set_cons_succ]
  refine take_at 13 237 (.pointer (some ⟨yb,4,none⟩)) rfl rfl (by kernel_rfl) (by kernel_rfl) (by kernel_rfl) (fun _ _ _ h=>h) (by rfl) ?y13 hS7 ?_
  case y13 =>
   rintro Z ⟨g2,g3,g4,g1⟩
   go_simp
  simp only [List.setIfInBounds_toArray,List.set_cons_zero,List.set_cons_succ]
  refine wpAnyH_ready (rs:=[14]) (by kernel_rfl) (by simp) ?_
  refine AllReadyH.cons rfl (fun K1 hK1=>?_) AllReadyH.nil
  go_simp
  refine hK1.out _ _ ⟨blk_cell (i:=2) (blk_set (e2.trans HY2.out) hyv _ _) rfl,blk_cell (i:=3) (blk_set (e2.trans HY2.out) hyv _ _) rfl,blk_cell (i:=4) (blk_set (e2.trans HY2.out) hyv _ _) rfl,blk_cell (i:=1) (blk_set (e1.trans HY1.out) hyw _ _) rfl⟩ (fun _=>?_)
  clear hK1 K1
  refine wpAnyH_done (by kernel_rfl) ?_ _
  have h9:=HP7.out.setFrame (i:=a) HL4.out (t':={ t with rem:=r,r:=t.r + 1 }) (j:=3) (v:=.int .i64 (t.r + 1)) (by omega) (by rw [HT4.out];rfl) HS4.out
  have hst : (s.putT a { t with rem:=r }).putT a { t with rem:=r,r:=t.r + 1 } = s.putT a { t with rem:=r,r:=t.r + 1 }:=by
   unfold St.putT
   simp
  rw [hst] at h9
  obtain ⟨_,x1,_,_,_,_,_,_,_⟩:=HP7.out.own
  have xR:=(HP7.out.nine HL4.out HT4.out).2.2.2.1
  have xz:=HP7.out.frz (a * 9 + 3)
  simp only at xR
  rw [St.putT_len,HNE.out] at x1
  have H9:=hide h9
  clear h9 hst HP7
  go_wp2
  refine bodyPost_end (results_none rfl _ _ _) rfl ?_
  exact ⟨rfl,_,H9.out⟩
end
end Go.Proofs.YtkmakliebhnhbaaGreat
