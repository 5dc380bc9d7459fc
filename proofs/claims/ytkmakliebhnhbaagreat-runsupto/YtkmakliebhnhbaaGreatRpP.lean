import Derived.Deep.RegionHeld3
import Derived.OwnWalk
import Derived.Test.YtkmakliebhnhbaaGreatRpK
namespace Go.Proofs.YtkmakliebhnhbaaGreat
open Go.RowKit Go.Shelf
section
variable {fs : List (List Ins)} {w0 W : World} {B rb yb g gH gS k cap : Nat} {s : St} {tv : Value} {us : List Value} {tr : List Ev} {n0 n1 n2 : Nat}
theorem PlayM.grownStk (h : PlayM fs w0 W B rb yb g gH gS k cap s tv us tr n0 n1 n2 false) {W2 : World} {o : Obj} {w : Nat} {u : Value} (hu : us[w]? = some u) (hg : (W.alloc o).grownBy W2 u.ownBlock) (hold : W2.ownsRow B 3 1 u (s.w w).stack.length (flat int64s (stkZ (s.w w).stack))) : PlayM fs w0 W2 B rb yb g gH gS k cap s tv us tr n0 n1 n2 false:=by
  have hBs : B ≤ W.heap.size:=by have:=(Array.getElem?_eq_some_iff.1 h.blk).1;have:=h.yB;omega
  have b2 : Below B w0 W2:=(h.bel.alloc hBs o).grown hg (by simp;omega) (fun q hq=>((h.row w u hu).lt q hq).1)
  have hgu : ∀ b,(Value.slice (some ⟨g,0,none⟩) s.ts.length cap).ownBlock = some b → u.ownBlock ≠ some b:=fun b hb=>by
    simp [Value.ownBlock] at hb
    rw [← hb]
    exact h.u_g hu
  refine ⟨b2,h.yB,h.hB,h.sB,grown_blk hg h.blk (h.u_y hu),grown_own hg h.fr hgu,grown_blk hg h.hd (h.ah w u hu),grown_blk hg h.st (h.u_S hu),h.ul,h.wl,fun j v hv=>?_,h.ap,h.ah,grown_own hg h.trc (fun b hb e=>?_),h.suf⟩
  · by_cases e : j = w
    · subst e
      rw [hu] at hv
      cases hv
      exact hold
    · exact grown_own hg (h.row j v hv) (fun b hb=>h.ap j w v u b hv hu e hb)
  · rcases h.u_t hu with e1 | e1
    · rw [e1] at e;cases e
    · exact e1 (by rw [e,hb])
theorem PlayM.push (h : PlayM fs w0 W B rb yb g gH gS k cap s tv us tr n0 n1 n2 false) {W2 : World} {o : Obj} {w a : Nat} {u u' : Value} (hw : w < k) (hu : us[w]? = some u) (hg : (W.alloc o).grownBy W2 u.ownBlock) (hold : W2.ownsRow B 3 1 u (s.w w).stack.length (flat int64s (stkZ (s.w w).stack)))
    (hnew : W2.ownsRow B 3 1 u' ((s.w w).stack.length + 1) (flat int64s (stkZ (s.w w).stack) ++ [.int .i64 (a : Int)])) (hl : u'.ownBlock = u.ownBlock ∨ u'.ownBlock = some (W.alloc o).heap.size) :
    PlayM fs w0 (W2.setCell ⟨gS,w,none⟩ u') B rb yb g gH gS k cap (s.stk w ((s.w w).stack ++ [a])) tv (us.set w u') tr n0 n1 n2 false:=by
  have hbig : ∀ b,b < W.heap.size → u'.ownBlock = some b → u.ownBlock = some b:=fun b hb e=>by
    rcases hl with hl | hl
    · rw [← hl];exact e
    · rw [hl] at e
      simp at e
      omega
  refine (h.grownStk hu hg hold).setStk hw ?_ (fun j v b hj hv hb e=>?_) (fun e=>?_)
  · have e1 : ((s.w w).stack ++ [a]).length = (s.w w).stack.length + 1:=by simp
    have e2 : flat int64s (stkZ ((s.w w).stack ++ [a])) = flat int64s (stkZ (s.w w).stack) ++ [.int .i64 (a : Int)]:=by
      unfold stkZ
      rw [List.map_append,flat_append]
      rfl
    rw [e1,e2]
    exact hnew
  · exact h.ap j w v u b hv hu hj hb (hbig b ((h.row j v hv).lt b hb).2 e)
  · exact h.ah w u hu (hbig gH (Array.getElem?_eq_some_iff.1 h.hd).1 e)
end
end Go.Proofs.YtkmakliebhnhbaaGreat
namespace Go.Proofs.YtkmakliebhnhbaaGreat
open Go.RowKit Go.Shelf
section
variable {fs : List (List Ins)} {w0 W : World} {B rb yb g gH gS k cap : Nat} {s : St} {tv : Value} {us : List Value} {tr : List Ev} {n0 n1 n2 : Nat} {S : Nat → Prop} {reds : List Int}
set_option maxHeartbeats 8000000 in
set_option maxRecDepth 100000 in
theorem step_spawn (h : PlayM fs w0 W B rb yb g gH gS k cap s tv us tr n0 n1 n2 false) (hR : RefP S w0 (.pointer (some ⟨rb,0,none⟩)) fs reds) (hB : w0.heap.size ≤ B) {w v a : Nat} {t : Tk} {F R K L : Int} {r : List Ins} (hw : w < k) (hn0 : n0 ≤ 1000000) (hh : (s.w w).hand = some a) (ha : a < s.ts.length) (ht : s.t a = t) (hf : t.f < fs.length) (hr0 : 0 ≤ t.r) (hr1 : t.r ≤ 10) (hrem : t.rem = ⟨3,F,R,K,L⟩ :: r) {t' : Tk} (hl : s.ts.length ≤ 100000) (hd : (s.w w).stack.length ≤ 1000000) (ht' : frV fs t' = [.int .i64 F,.int .i64 (wrap64 (K + wrap64 (L * t.x))),.int .i64 0,.int .i64 0,.int .u64 (stepZ t.h t.r),.int .i64 (a : Int),.bool false,.int .i64 0,.bool false]) (hs' : Suf fs t') :
    Calls Tryz.prog 62 #[.pointer (some ⟨yb,0,none⟩),.int .i64 (w : Int),.int .i64 (v : Int)] W fun e w'=>e = .returned (.tuple #[]) ∧ ∃ g' cap' us',PlayM fs w0 w' B rb yb g' gH gS k cap' ((({ (s.putT a { t with rem:=r }).stk w ((s.w w).stack ++ [a]) with ts:=((s.putT a { t with rem:=r }).stk w ((s.w w).stack ++ [a])).ts ++ [t'] } : St).putT a { t with rem:=r,r:=t.r + 1 }).hand w (some s.ts.length)) tv us' tr (n0 + 1) n1 n2 false:=by
  have HT':=hide ht'
  have HS':=hide hs'
  have HL:=hide hl
  obtain ⟨iv,hiv,hv0,hv1,hv2⟩:=info_parts Tryz.infoInt2
  clear ht' hs' hl
  have h1:=h.setOwn (i:=5) (v:=.int .i64 ((n0 : Int) + 1)) (m0:=n0 + 1) (m1:=n1) (m2:=n2) (d':=false) rfl
  obtain ⟨_,_,_,_,_,c5,_,_,_⟩:=h.own
  have z5:=h.ofz 5
  obtain ⟨e0,e1,e2,_,_,_,_,_,_⟩:=h1.own
  have hc:=h1.hdc hw
  have hz : handZ (s.w w) = (a : Int):=by unfold handZ;rw [hh]
  rw [hz] at hc
  obtain ⟨f0,f1,f2,f3,f4,f5,f6,f7,f8⟩:=h1.nine ha ht
  obtain ⟨l,hl⟩ : ∃ l,fs[t.f]? = some l:=⟨_,List.getElem?_eq_getElem hf⟩
  obtain ⟨hsuf,hnx⟩:=(h.suf t (by rw [← ht];exact St.t_mem ha)).next
  have hbody : bodyOf fs t = l:=by unfold bodyOf;rw [hl];rfl
  rw [hbody] at hsuf hnx
  obtain ⟨_,nf,fc,fb,fo,x,xc,r0,rfl,hfn,hnf,r1,hl64,hX⟩:=ref_fn hR h1.bel hB hl
  have hwi : (w : Int) < (k : Int):=by omega
  have hai : (a : Int) < (s.ts.length : Int):=by omega
  have ha0 : ¬ (a : Int) < 0:=by omega
  have hfi : (t.f : Int) < (nf : Int):=by omega
  have H1:=hide h1
  have HX:=hide hX
  have HT:=hide ht
  have HSUF:=hide hsuf
  have HBODY:=hide hbody
  have HREM:=hide hrem
  obtain ⟨nx,hnxe⟩ : ∃ nx,nextOf fs t = nx:=⟨_,rfl⟩
  obtain ⟨ll,hll⟩ : ∃ ll,l.length = ll:=⟨_,rfl⟩
  obtain ⟨n,hne⟩ : ∃ n,s.ts.length = n:=⟨_,rfl⟩
  rw [hnxe] at f2 hnx HSUF
  have HNX:=hide hnxe
  have HNE:=hide hne
  rw [hll] at r1 hl64 hnx HX
  rw [hne] at e1 hai
  have HLL:=hide hll
  clear h h1 hR hX ht hsuf hrem hl hz hbody hnxe hll
  have ha' : a < s.ts.length:=ha
  have HA:=hide ha'
  clear ha ha' hne
  have e0':=cell_al e0
  have r0':=cell_al r0
  have r1':=cell_al r1
  go_enter Tryz.func62,Tryz.ntmps62
  go_wp2
  go_quiet (fail)
  obtain ⟨V,hV⟩ : ∃ V,((W.setCell ⟨yb,5,none⟩ (.int .i64 ((n0 : Int) + 1))).alloc (.cells #[.int .i64 (t.f : Int),.int .i64 t.x,.int .i64 (nx : Int),.int .i64 t.r,.int .u64 t.h,.int .i64 (fromZ t),.bool (calledB t),.int .i64 t.out,.bool t.asd] 143)).drewN nq = V:=⟨_,rfl⟩
  have hsz : (W.setCell ⟨yb,5,none⟩ (.int .i64 ((n0 : Int) + 1))).heap.size = W.heap.size:=by simp [World.setCell]
  have hbx : V.heap[W.heap.size]? = some (.cells #[.int .i64 (t.f : Int),.int .i64 t.x,.int .i64 (nx : Int),.int .i64 t.r,.int .u64 t.h,.int .i64 (fromZ t),.bool (calledB t),.int .i64 t.out,.bool t.asd] 143 (0,0)):=by
    rw [← hV,← hsz]
    exact heap_new (W.setCell ⟨yb,5,none⟩ (.int .i64 ((n0 : Int) + 1))) _
  have hbV : Below (W.setCell ⟨yb,5,none⟩ (.int .i64 ((n0 : Int) + 1))).heap.size (W.setCell ⟨yb,5,none⟩ (.int .i64 ((n0 : Int) + 1))) V:=by
    rw [← hV]
    exact below_drewN ((Below.refl _ _).alloc (Nat.le_refl _) _) nq
  rw [hV]
  have h2:=H1.out.below hbV
  have HX2:=hide (HX.out.below hbV (fun x _=>List.cons_ne_nil _ _))
  have b0:=blk_cell (i:=0) hbx rfl
  have b1:=blk_cell (i:=1) hbx rfl
  have b2:=blk_cell (i:=2) hbx rfl
  have b3:=blk_cell (i:=3) hbx rfl
  have b4:=blk_cell (i:=4) hbx rfl
  have b7:=blk_cell (i:=7) hbx rfl
  obtain ⟨_,g1,g2,_,_,_,_,_,_⟩:=h2.own
  have hli : l[nx]? = some ⟨3,F,R,K,L⟩:=by
    have h':=congrArg (fun z=>z[0]?) HSUF.out
    rw [HREM.out] at h'
    simp at h'
    exact h'.symm
  have hnl : nx < ll:=by have:=(List.getElem?_eq_some_iff.1 hli).1;rw [HLL.out] at this;exact this
  have hrl : r = l.drop (nx + 1):=by
    have h':=congrArg List.tail HSUF.out
    rw [HREM.out] at h'
    simpa using h'
  have hni : (nx : Int) < (ll : Int):=by omega
  have hne1 : ((nx : Int) == (ll : Int)) = false:=by simp;omega
  have hne2 : ¬ (nx : Int) = (ll : Int):=by omega
  have hne3 : decide ((nx : Int) = (ll : Int)) = false:=by simp;omega
  obtain ⟨ib,io,rfl,_,i0,i1,i2,i3,i4⟩:=HX2.out.ins hli
  simp only at i0 i1 i2 i3 i4
  have hs4 : Suf fs { t with rem:=r }:=⟨nx + 1,by rw [show bodyOf fs { t with rem:=r } = l from HBODY.out,HLL.out];omega,by rw [show bodyOf fs { t with rem:=r } = l from HBODY.out];exact hrl⟩
  have hnx4 : nextOf fs { t with rem:=r } = nx + 1:=by
    show (bodyOf fs t).length - r.length = nx + 1
    rw [HBODY.out,hrl,List.length_drop,HLL.out]
    omega
  have h3:=h2.below (new_blk V (.cells #[.int .i64 3,.int .i64 F,.int .i64 R,.int .i64 K,.int .i64 L] 45))
  have h4:=h3.setFrame (i:=a) HA.out (t':={ t with rem:=r }) (j:=2) (v:=.int .i64 ((nx : Int) + 1)) (by omega) (by
    rw [HT.out]
    have e1 : frV fs { t with rem:=r } = [.int .i64 t.f,.int .i64 t.x,.int .i64 (nextOf fs { t with rem:=r } : Int),.int .i64 t.r,.int .u64 t.h,.int .i64 (fromZ t),.bool (calledB t),.int .i64 t.out,.bool t.asd]:=rfl
    rw [e1,hnx4]
    rfl) hs4
  have ht4 : ((s.putT a { t with rem:=r }).t a) = { t with rem:=r }:=by rw [St.t_putT s _ HA.out a,if_pos rfl]
  have hl4 : a < (s.putT a { t with rem:=r }).ts.length:=by rw [St.putT_len];exact HA.out
  obtain ⟨_,m1,_,_,_,_,_,_,_⟩:=h3.own
  have mN:=(h3.nine HA.out HT.out).2.2.1
  have mz:=h3.frz (a * 9 + 2)
  rw [HNX.out] at mN
  obtain ⟨q0,q1,q2,q3,q4,q5,q6,q7,q9⟩:=h4.own
  rw [St.putT_len] at q1
  rw [HNE.out] at m1 q1
  have hnx64 : (nx : Int) + 1 ≤ 9223372036854775807:=by omega
  have hgW : g < W.heap.size:=by have:=(H1.out.fr.lt g rfl).2;rw [hsz] at this;exact this
  have hWV : W.heap.size < V.heap.size:=(Array.getElem?_eq_some_iff.1 hbx).1
  have hy1 : ((V.alloc (.cells #[.int .i64 3,.int .i64 F,.int .i64 R,.int .i64 K,.int .i64 L] 45)).setCell ⟨g,a * 9 + 2,none⟩ (.int .i64 ((nx : Int) + 1))).heap[W.heap.size]? = some (.cells #[.int .i64 (t.f : Int),.int .i64 t.x,.int .i64 (nx : Int),.int .i64 t.r,.int .u64 t.h,.int .i64 (fromZ t),.bool (calledB t),.int .i64 t.out,.bool t.asd] 143 (0,0)):=blk_set ((Below.heap_alloc V _ _ hWV).trans hbx) (by omega) _ _
  have hy2 : ((V.alloc (.cells #[.int .i64 3,.int .i64 F,.int .i64 R,.int .i64 K,.int .i64 L] 45)).setCell ⟨g,a * 9 + 2,none⟩ (.int .i64 ((nx : Int) + 1))).heap[V.heap.size]? = some (.cells #[.int .i64 3,.int .i64 F,.int .i64 R,.int .i64 K,.int .i64 L] 45 (0,0)):=blk_set (heap_new V _) (by omega) _ _
  have HT4:=hide ht4
  have HL4:=hide hl4
  have H4:=hide h4
  clear hrl
  clear hV hbV hsz e0 e1 e2 hc f0 f1 f2 f3 f4 f5 f6 f7 f8 r0 r1 e0' r0' r1' c5 z5 H1 HX HX2 h2 h3
  clear ht4 hl4 hs4 hnx4 h4 hbx hy1
  go_wp2
  rename_i K0 hK0
  generalize ((V.alloc (.cells #[.int .i64 3,.int .i64 F,.int .i64 R,.int .i64 K,.int .i64 L] 45)).setCell ⟨g,a * 9 + 2,none⟩ (.int .i64 ((nx : Int) + 1))) = Y at hy2 H4 q0 q1 q2 q3 q4 q5 q6 q7 q9 ⊢
  obtain ⟨vb,hvb⟩ : ∃ vb,V.heap.size = vb:=⟨_,rfl⟩
  rw [hvb] at hy2 ⊢
  have hvy : vb ≠ yb:=fun e=>blk_ne H4.out.blk hy2 (by decide) e.symm
  have hvH : ¬ vb = gH:=fun e=>blk_ne H4.out.hd hy2 (by decide) e.symm
  have hvS : ¬ vb = gS:=fun e=>blk_ne H4.out.st hy2 (by decide) e.symm
  have hvg : vb ≠ g:=by omega
  have hyH : ¬ yb = gH:=H4.out.ne_yH
  have hD : PlayM fs w0 Y.drew B rb yb g gH gS k cap (s.putT a { t with rem:=r }) tv us tr (n0 + 1) n1 n2 false:=H4.out.below (W':=Y.drew) ⟨rfl,rfl,rfl,Nat.le_refl _,fun _ _=>rfl⟩
  obtain ⟨u,ua,uc,hu,hue,st,_⟩:=H4.out.stc hw
  have hsw : ((s.putT a { t with rem:=r }).w w).stack = (s.w w).stack:=rfl
  rw [hsw] at st hue
  have hrow : Y.drew.ownsRow B 3 1 u (s.w w).stack.length (flat int64s (stkZ (s.w w).stack)):=hD.row w u hu
  obtain ⟨sl,hsl⟩ : ∃ sl,(s.w w).stack.length = sl:=⟨_,rfl⟩
  rw [hsl] at st hue hrow hd
  have HROW:=hide hrow
  subst hue
  have HPU : Hid (∀ (a7 : Option Addr) (c7 : Nat) (w7 : World),w7.ownsRow B 3 1 (.slice a7 (sl + 1) c7) (sl + 1) (flat int64s (stkZ (s.w w).stack) ++ [.int .i64 (a : Int)]) → (Y.drew.alloc (.cells #[.int .i64 (a : Int)] 3)).grownBy w7 (Value.slice ua sl uc).ownBlock → w7.ownsRow B 3 1 (.slice ua sl uc) sl (flat int64s (stkZ (s.w w).stack)) → ((Value.slice a7 (sl + 1) c7).ownBlock = (Value.slice ua sl uc).ownBlock ∨ (Value.slice a7 (sl + 1) c7).ownBlock = some (Y.drew.alloc (.cells #[.int .i64 (a : Int)] 3)).heap.size) → PlayM fs w0 (w7.setCell ⟨gS,w,none⟩ (.slice a7 (sl + 1) c7)) B rb yb g gH gS k cap ((s.putT a { t with rem:=r }).stk w ((s.w w).stack ++ [a])) tv (us.set w (.slice a7 (sl + 1) c7)) tr (n0 + 1) n1 n2 false):=fun a7 c7 w7 h1 h2 h3 h5=>by
    refine hD.push hw hu h2 ?_ ?_ h5
    · rw [hsw,hsl];exact h3
    · rw [hsw,hsl];exact h1
  have HKP : Hid (∀ w7 : World,(Y.drew.alloc (.cells #[.int .i64 (a : Int)] 3)).grownBy w7 (Value.slice ua sl uc).ownBlock → w7.ownsRow B 3 1 (.slice ua sl uc) sl (flat int64s (stkZ (s.w w).stack)) → w7.cell? ⟨yb,3,none⟩ = some (.slice (some ⟨gS,0,none⟩) k k) ∧ w7.cell? ⟨gS,w,none⟩ = some (.slice ua sl uc) ∧ w7.frozen? ⟨gS,w,none⟩ = false ∧ w7.heap[vb]? = some (.cells #[.int .i64 3,.int .i64 F,.int .i64 R,.int .i64 K,.int .i64 L] 45 (0,0))):=fun w7 h2 h3=>by
    have hG:=hD.grownStk hu h2 (by rw [hsw,hsl];exact h3)
    obtain ⟨u2,ua2,uc2,hu2,hue2,st2,_⟩:=hG.stc hw
    rw [hu] at hu2
    cases hu2
    rw [hsw,hsl] at hue2 st2
    cases hue2
    exact ⟨hG.own.2.2.2.1,st2,hG.stz w,grown_blk h2 hy2 (own_type hrow hy2 (by decide))⟩
  have hBY : B ≤ Y.heap.size:=by have:=(Array.getElem?_eq_some_iff.1 H4.out.blk).1;have:=H4.out.yB;omega
  have st2 : ∀ o,(Y.alloc o).cell? ⟨gS,w,none⟩ = some (.slice ua sl uc):=fun o=>cell_al st o
  have hS0 : (fun Z : World=>Z.cell? ⟨yb,3,none⟩ = some (.slice (some ⟨gS,0,none⟩) k k)) Y.drew:=q3
  clear hD hrow hu hy2 hsl hsw
  refine wp_region_held_drew (S:=(fun Z : World=>Z.cell? ⟨yb,3,none⟩ = some (.slice (some ⟨gS,0,none⟩) k k))) (by kernel_rfl) hS0 (fun _=>?_)
  refine take_at 0 251 (.pointer (some ⟨yb,0,none⟩)) rfl rfl (by kernel_rfl) (by kernel_rfl) (by kernel_rfl) (fun _ _ _ h=>h) (by rfl) ?y0 hS0 ?_
  case y0 =>
    intro Z g3
    go_simp
  simp only [List.setIfInBounds_toArray,List.set_cons_zero,List.set_cons_succ]
  refine take_at 1 252 (.pointer (some ⟨yb,0,none⟩)) rfl rfl (by kernel_rfl) (by kernel_rfl) (by kernel_rfl) (fun _ _ _ h=>h) (by rfl) ?y1 hS0 ?_
  case y1 =>
    intro Z g3
    go_simp
  simp only [List.setIfInBounds_toArray,List.set_cons_zero,List.set_cons_succ]
  refine take_at 2 253 (.pointer (some ⟨yb,3,none⟩)) rfl rfl (by kernel_rfl) (by kernel_rfl) (by kernel_rfl) (fun _ _ _ h=>h) (by rfl) ?y2 hS0 ?_
  case y2 =>
    intro Z g3
    go_simp
  simp only [List.setIfInBounds_toArray,List.set_cons_zero,List.set_cons_succ]
  refine take_at 3 254 (.slice (some ⟨gS,0,none⟩) k k) rfl rfl (by kernel_rfl) (by kernel_rfl) (by kernel_rfl) (fun _ _ _ h=>h) (by rfl) ?y3 hS0 ?_
  case y3 =>
    intro Z g3
    go_simp
  simp only [List.setIfInBounds_toArray,List.set_cons_zero,List.set_cons_succ]
  refine take_at 4 255 (.int .i64 (w : Int)) rfl rfl (by kernel_rfl) (by kernel_rfl) (by kernel_rfl) (fun _ _ _ h=>h) (by rfl) ?y4 hS0 ?_
  case y4 =>
    intro Z g3
    go_simp
  simp only [List.setIfInBounds_toArray,List.set_cons_zero,List.set_cons_succ]
  refine take_at 5 256 (.pointer (some ⟨yb,0,none⟩)) rfl rfl (by kernel_rfl) (by kernel_rfl) (by kernel_rfl) (fun _ _ _ h=>h) (by rfl) ?y5 hS0 ?_
  case y5 =>
    intro Z g3
    go_simp
  simp only [List.setIfInBounds_toArray,List.set_cons_zero,List.set_cons_succ]
  refine take_at 6 257 (.pointer (some ⟨yb,0,none⟩)) rfl rfl (by kernel_rfl) (by kernel_rfl) (by kernel_rfl) (fun _ _ _ h=>h) (by rfl) ?y6 hS0 ?_
  case y6 =>
    intro Z g3
    go_simp
  simp only [List.setIfInBounds_toArray,List.set_cons_zero,List.set_cons_succ]
  refine take_at 7 258 (.pointer (some ⟨yb,3,none⟩)) rfl rfl (by kernel_rfl) (by kernel_rfl) (by kernel_rfl) (fun _ _ _ h=>h) (by rfl) ?y7 hS0 ?_
  case y7 =>
    intro Z g3
    go_simp
  simp only [List.setIfInBounds_toArray,List.set_cons_zero,List.set_cons_succ]
  refine take_at 8 259 (.slice (some ⟨gS,0,none⟩) k k) rfl rfl (by kernel_rfl) (by kernel_rfl) (by kernel_rfl) (fun _ _ _ h=>h) (by rfl) ?y8 hS0 ?_
  case y8 =>
    intro Z g3
    go_simp
  simp only [List.setIfInBounds_toArray,List.set_cons_zero,List.set_cons_succ]
  refine take_at 9 260 (.int .i64 (w : Int)) rfl rfl (by kernel_rfl) (by kernel_rfl) (by kernel_rfl) (fun _ _ _ h=>h) (by rfl) ?y9 hS0 ?_
  case y9 =>
    intro Z g3
    go_simp
  simp only [List.setIfInBounds_toArray,List.set_cons_zero,List.set_cons_succ]
  refine take_at 10 261 (.pointer (some ⟨gS,w,none⟩)) rfl rfl (by kernel_rfl) (by kernel_rfl) (by kernel_rfl) (fun _ _ _ h=>h) (by rfl) ?y10 hS0 ?_
  case y10 =>
    intro Z g3
    go_simp
  simp only [List.setIfInBounds_toArray,List.set_cons_zero,List.set_cons_succ]
  refine take_at 12 263 (.int .i64 (a : Int)) rfl rfl (by kernel_rfl) (by kernel_rfl) (by kernel_rfl) (fun _ _ _ h=>h) (by rfl) ?y12 hS0 ?_
  case y12 =>
    intro Z g3
    go_simp
  simp only [List.setIfInBounds_toArray,List.set_cons_zero,List.set_cons_succ]
  refine wpAnyH_ready (rs:=[11,13]) (by kernel_rfl) (by simp) ?_
  refine AllReadyH.cons rfl (fun K1 hK1=>?_) (AllReadyH.cons rfl (fun K1 hK1=>?_) AllReadyH.nil)
  · go_simp
    refine hK1.out _ _ hS0 (fun _=>?_)
    clear hK1 K1
    try simp only [Act.put,List.setIfInBounds_toArray,List.set_cons_zero,List.set_cons_succ]
    refine wpAnyH_ready (rs:=[13]) (by kernel_rfl) (by simp) ?_
    refine AllReadyH.cons rfl (fun K1 hK1=>?_) AllReadyH.nil
    go_simp
    refine hK1.out _ _ (cell_al q3 _) (fun _=>?_)
    clear hK1 K1
    try simp only [Act.put,List.setIfInBounds_toArray,List.set_cons_zero,List.set_cons_succ]
    refine wpAnyH_ready (rs:=[14]) (by kernel_rfl) (by simp) ?_
    refine AllReadyH.cons rfl (fun K1 hK1=>?_) AllReadyH.nil
    refine step_app2 _ (by rfl) _ _ 30 (by rfl) B 3 iv _ 1 8 Tryz.underlying30 hiv hv0 hv1 hv2 (by rfl) (by decide) (.slice ua sl uc) sl (flat int64s (stkZ (s.w w).stack)) (by rfl) (by exact HROW.out.alloc _) (.slice (some ⟨Y.heap.size,0,none⟩) 1 1) 1 [.int .i64 (a : Int)] (by rfl) (by exact cells1 Y.drew _ _ _ rfl) (by simp [Value.oneCell']) (by unfold maxLen;omega) (by omega) (by simp;omega) ?_
    intro a7 c7 w7 ho7 hg7 hold7 hl7 _
    have hP7:=HPU.out a7 c7 w7 ho7 hg7 hold7 hl7
    obtain ⟨e1,e2,e3,e4⟩:=HKP.out w7 hg7 hold7
    have HP7:=hide hP7
    have HV7:=hide e4
    clear hP7 ho7 hg7 hold7 hl7
    refine hK1.out _ _ e1 (fun _=>?_)
    clear hK1 K1
    try simp only [Act.put,List.setIfInBounds_toArray]
    refine take_at 15 266 (.pointer (some ⟨gS,w,none⟩)) rfl rfl (by kernel_rfl) (by kernel_rfl) (by kernel_rfl) (fun _ _ _ h=>h) (by rfl) ?y15 e1 ?_
    case y15 =>
      intro Z g3
      go_simp
    simp only [List.setIfInBounds_toArray,List.set_cons_zero,List.set_cons_succ]
    refine wpAnyH_ready (rs:=[16]) (by kernel_rfl) (by simp) ?_
    refine AllReadyH.cons rfl (fun K1 hK1=>?_) AllReadyH.nil
    go_simp
    refine hK1.out _ _ (HP7.out.own.2.2.2.1) (fun _=>?_)
    clear hK1 K1
    refine wpAnyH_done (by kernel_rfl) ?_ _
    refine hK0 _ _ ?_
    clear hK0 K0
    have h8:=HP7.out
    have hy8 : (w7.setCell ⟨gS,w,none⟩ (.slice a7 (sl + 1) c7)).heap[vb]? = some (.cells #[.int .i64 3,.int .i64 F,.int .i64 R,.int .i64 K,.int .i64 L] 45 (0,0)):=blk_set HV7.out hvS _ _
    generalize w7.setCell ⟨gS,w,none⟩ (.slice a7 (sl + 1) c7) = Y8 at h8 hy8 ⊢
    have s0:=blk_cell (i:=0) hy8 rfl
    have s1:=blk_cell (i:=1) hy8 rfl
    have s2:=blk_cell (i:=2) hy8 rfl
    have s3:=blk_cell (i:=3) hy8 rfl
    have s4:=blk_cell (i:=4) hy8 rfl
    obtain ⟨_,_,r2,_,_,_,_,_,_⟩:=h8.own
    have hvl : vb < Y8.heap.size:=(Array.getElem?_eq_some_iff.1 hy8).1
    have HBG:=hide (begin_op (.inr ⟨rfl,rfl⟩) (a:=a) (t:={ t with rem:=r }) (t':=t') (F:=F) (R:=R) (K:=K) (L:=L) (h8.below (W':=Y8.drew) ⟨rfl,rfl,rfl,Nat.le_refl _,fun _ _=>rfl⟩) (show a < ((s.putT a { t with rem:=r }).stk w ((s.w w).stack ++ [a])).ts.length from HL4.out) (show ((s.putT a { t with rem:=r }).stk w ((s.w w).stack ++ [a])).t a = { t with rem:=r } from HT4.out) (by show (s.putT a { t with rem:=r }).ts.length ≤ _;rw [St.putT_len];exact HL.out) hr0 hr1 HT'.out HS'.out)
    have hlen8 : ((s.putT a { t with rem:=r }).stk w ((s.w w).stack ++ [a])).ts.length = n:=by show (s.putT a { t with rem:=r }).ts.length = n;rw [St.putT_len];exact HNE.out
    rw [hlen8] at HBG
    have HY2:=hide hy8
    clear hy8 h8 hlen8 HP7 HV7 e1 e2 e3 e4
    go_region_held3 (fun Z : World=>Z.cell? ⟨yb,2,none⟩ = some (.slice (some ⟨gH,0,none⟩) k k) ∧ Z.cell? ⟨vb,0,none⟩ = some (.int .i64 3) ∧ Z.cell? ⟨vb,1,none⟩ = some (.int .i64 F) ∧ Z.cell? ⟨vb,2,none⟩ = some (.int .i64 R) ∧ Z.cell? ⟨vb,3,none⟩ = some (.int .i64 K) ∧ Z.cell? ⟨vb,4,none⟩ = some (.int .i64 L))
      (go_keep)
      (first
        | (go_at_call 81
           refine HBG.out.mono ?_
           rintro e w6 ⟨rfl,⟨g6,cap6,h6⟩,hk6⟩
           have hv6:=(hk6 vb hvl hvy hvg).trans HY2.out
           have d0:=blk_cell (i:=0) hv6 rfl
           have d1:=blk_cell (i:=1) hv6 rfl
           have d2:=blk_cell (i:=2) hv6 rfl
           have d3:=blk_cell (i:=3) hv6 rfl
           have d4:=blk_cell (i:=4) hv6 rfl
           have t0 : ∀ z,(w6.setCell ⟨gH,w,none⟩ (.int .i64 z)).cell? ⟨vb,0,none⟩ = some (.int .i64 3):=fun z=>blk_cell (blk_set hv6 hvH _ _) rfl
           have t1 : ∀ z,(w6.setCell ⟨gH,w,none⟩ (.int .i64 z)).cell? ⟨vb,1,none⟩ = some (.int .i64 F):=fun z=>blk_cell (blk_set hv6 hvH _ _) rfl
           have t2 : ∀ z,(w6.setCell ⟨gH,w,none⟩ (.int .i64 z)).cell? ⟨vb,2,none⟩ = some (.int .i64 R):=fun z=>blk_cell (blk_set hv6 hvH _ _) rfl
           have t3 : ∀ z,(w6.setCell ⟨gH,w,none⟩ (.int .i64 z)).cell? ⟨vb,3,none⟩ = some (.int .i64 K):=fun z=>blk_cell (blk_set hv6 hvH _ _) rfl
           have t4 : ∀ z,(w6.setCell ⟨gH,w,none⟩ (.int .i64 z)).cell? ⟨vb,4,none⟩ = some (.int .i64 L):=fun z=>blk_cell (blk_set hv6 hvH _ _) rfl
           have t5 : ∀ z,(w6.setCell ⟨gH,w,none⟩ (.int .i64 z)).cell? ⟨yb,2,none⟩ = some (.slice (some ⟨gH,0,none⟩) k k):=fun z=>blk_cell (blk_set h6.blk hyH _ _) rfl
           obtain ⟨_,_,d5,_,_,_,_,_,_⟩:=h6.own
           have d6:=h6.hdc hw
           have d7:=h6.hdz w
           have H6:=hide (h6.setHand hw (some s.ts.length) (z:=(s.ts.length : Int)) rfl)
           rw [HNE.out] at H6
           clear hv6 hk6 h6))
    all_goals
      go_wp2
      refine bodyPost_end (results_none rfl _ _ _) rfl ?_
      exact ⟨rfl,_,_,_,by rw [HNE.out];exact H6.out⟩
  · go_simp
    refine hK1.out _ _ (cell_al q3 _) (fun _=>?_)
    clear hK1 K1
    try simp only [Act.put,List.setIfInBounds_toArray,List.set_cons_zero,List.set_cons_succ]
    refine wpAnyH_ready (rs:=[11]) (by kernel_rfl) (by simp) ?_
    refine AllReadyH.cons rfl (fun K1 hK1=>?_) AllReadyH.nil
    go_simp
    refine hK1.out _ _ (cell_al q3 _) (fun _=>?_)
    clear hK1 K1
    try simp only [Act.put,List.setIfInBounds_toArray,List.set_cons_zero,List.set_cons_succ]
    refine wpAnyH_ready (rs:=[14]) (by kernel_rfl) (by simp) ?_
    refine AllReadyH.cons rfl (fun K1 hK1=>?_) AllReadyH.nil
    refine step_app2 _ (by rfl) _ _ 30 (by rfl) B 3 iv _ 1 8 Tryz.underlying30 hiv hv0 hv1 hv2 (by rfl) (by decide) (.slice ua sl uc) sl (flat int64s (stkZ (s.w w).stack)) (by rfl) (by exact HROW.out.alloc _) (.slice (some ⟨Y.heap.size,0,none⟩) 1 1) 1 [.int .i64 (a : Int)] (by rfl) (by exact cells1 Y.drew _ _ _ rfl) (by simp [Value.oneCell']) (by unfold maxLen;omega) (by omega) (by simp;omega) ?_
    intro a7 c7 w7 ho7 hg7 hold7 hl7 _
    have hP7:=HPU.out a7 c7 w7 ho7 hg7 hold7 hl7
    obtain ⟨e1,e2,e3,e4⟩:=HKP.out w7 hg7 hold7
    have HP7:=hide hP7
    have HV7:=hide e4
    clear hP7 ho7 hg7 hold7 hl7
    refine hK1.out _ _ e1 (fun _=>?_)
    clear hK1 K1
    try simp only [Act.put,List.setIfInBounds_toArray]
    refine take_at 15 266 (.pointer (some ⟨gS,w,none⟩)) rfl rfl (by kernel_rfl) (by kernel_rfl) (by kernel_rfl) (fun _ _ _ h=>h) (by rfl) ?y15 e1 ?_
    case y15 =>
      intro Z g3
      go_simp
    simp only [List.setIfInBounds_toArray,List.set_cons_zero,List.set_cons_succ]
    refine wpAnyH_ready (rs:=[16]) (by kernel_rfl) (by simp) ?_
    refine AllReadyH.cons rfl (fun K1 hK1=>?_) AllReadyH.nil
    go_simp
    refine hK1.out _ _ (HP7.out.own.2.2.2.1) (fun _=>?_)
    clear hK1 K1
    refine wpAnyH_done (by kernel_rfl) ?_ _
    refine hK0 _ _ ?_
    clear hK0 K0
    have h8:=HP7.out
    have hy8 : (w7.setCell ⟨gS,w,none⟩ (.slice a7 (sl + 1) c7)).heap[vb]? = some (.cells #[.int .i64 3,.int .i64 F,.int .i64 R,.int .i64 K,.int .i64 L] 45 (0,0)):=blk_set HV7.out hvS _ _
    generalize w7.setCell ⟨gS,w,none⟩ (.slice a7 (sl + 1) c7) = Y8 at h8 hy8 ⊢
    have s0:=blk_cell (i:=0) hy8 rfl
    have s1:=blk_cell (i:=1) hy8 rfl
    have s2:=blk_cell (i:=2) hy8 rfl
    have s3:=blk_cell (i:=3) hy8 rfl
    have s4:=blk_cell (i:=4) hy8 rfl
    obtain ⟨_,_,r2,_,_,_,_,_,_⟩:=h8.own
    have hvl : vb < Y8.heap.size:=(Array.getElem?_eq_some_iff.1 hy8).1
    have HBG:=hide (begin_op (.inr ⟨rfl,rfl⟩) (a:=a) (t:={ t with rem:=r }) (t':=t') (F:=F) (R:=R) (K:=K) (L:=L) (h8.below (W':=Y8.drew) ⟨rfl,rfl,rfl,Nat.le_refl _,fun _ _=>rfl⟩) (show a < ((s.putT a { t with rem:=r }).stk w ((s.w w).stack ++ [a])).ts.length from HL4.out) (show ((s.putT a { t with rem:=r }).stk w ((s.w w).stack ++ [a])).t a = { t with rem:=r } from HT4.out) (by show (s.putT a { t with rem:=r }).ts.length ≤ _;rw [St.putT_len];exact HL.out) hr0 hr1 HT'.out HS'.out)
    have hlen8 : ((s.putT a { t with rem:=r }).stk w ((s.w w).stack ++ [a])).ts.length = n:=by show (s.putT a { t with rem:=r }).ts.length = n;rw [St.putT_len];exact HNE.out
    rw [hlen8] at HBG
    have HY2:=hide hy8
    clear hy8 h8 hlen8 HP7 HV7 e1 e2 e3 e4
    go_region_held3 (fun Z : World=>Z.cell? ⟨yb,2,none⟩ = some (.slice (some ⟨gH,0,none⟩) k k) ∧ Z.cell? ⟨vb,0,none⟩ = some (.int .i64 3) ∧ Z.cell? ⟨vb,1,none⟩ = some (.int .i64 F) ∧ Z.cell? ⟨vb,2,none⟩ = some (.int .i64 R) ∧ Z.cell? ⟨vb,3,none⟩ = some (.int .i64 K) ∧ Z.cell? ⟨vb,4,none⟩ = some (.int .i64 L))
      (go_keep)
      (first
        | (go_at_call 81
           refine HBG.out.mono ?_
           rintro e w6 ⟨rfl,⟨g6,cap6,h6⟩,hk6⟩
           have hv6:=(hk6 vb hvl hvy hvg).trans HY2.out
           have d0:=blk_cell (i:=0) hv6 rfl
           have d1:=blk_cell (i:=1) hv6 rfl
           have d2:=blk_cell (i:=2) hv6 rfl
           have d3:=blk_cell (i:=3) hv6 rfl
           have d4:=blk_cell (i:=4) hv6 rfl
           have t0 : ∀ z,(w6.setCell ⟨gH,w,none⟩ (.int .i64 z)).cell? ⟨vb,0,none⟩ = some (.int .i64 3):=fun z=>blk_cell (blk_set hv6 hvH _ _) rfl
           have t1 : ∀ z,(w6.setCell ⟨gH,w,none⟩ (.int .i64 z)).cell? ⟨vb,1,none⟩ = some (.int .i64 F):=fun z=>blk_cell (blk_set hv6 hvH _ _) rfl
           have t2 : ∀ z,(w6.setCell ⟨gH,w,none⟩ (.int .i64 z)).cell? ⟨vb,2,none⟩ = some (.int .i64 R):=fun z=>blk_cell (blk_set hv6 hvH _ _) rfl
           have t3 : ∀ z,(w6.setCell ⟨gH,w,none⟩ (.int .i64 z)).cell? ⟨vb,3,none⟩ = some (.int .i64 K):=fun z=>blk_cell (blk_set hv6 hvH _ _) rfl
           have t4 : ∀ z,(w6.setCell ⟨gH,w,none⟩ (.int .i64 z)).cell? ⟨vb,4,none⟩ = some (.int .i64 L):=fun z=>blk_cell (blk_set hv6 hvH _ _) rfl
           have t5 : ∀ z,(w6.setCell ⟨gH,w,none⟩ (.int .i64 z)).cell? ⟨yb,2,none⟩ = some (.slice (some ⟨gH,0,none⟩) k k):=fun z=>blk_cell (blk_set h6.blk hyH _ _) rfl
           obtain ⟨_,_,d5,_,_,_,_,_,_⟩:=h6.own
           have d6:=h6.hdc hw
           have d7:=h6.hdz w
           have H6:=hide (h6.setHand hw (some s.ts.length) (z:=(s.ts.length : Int)) rfl)
           rw [HNE.out] at H6
           clear hv6 hk6 h6))
    all_goals
      go_wp2
      refine bodyPost_end (results_none rfl _ _ _) rfl ?_
      exact ⟨rfl,_,_,_,by rw [HNE.out];exact H6.out⟩
end
end Go.Proofs.YtkmakliebhnhbaaGreat
namespace Go.Proofs.YtkmakliebhnhbaaGreat
open Go.RowKit Go.Shelf
def Rs.over : Rs → Bool
  | .done=>true
  | _=>false
def StepPost (fs : List (List Ins)) (w0 : World) (B rb yb gH gS k : Nat) (s : St) (tr : List Ev) (n0 n1 n2 : Nat) (w v : Nat) (w' : World) : Prop :=
  ∃ g' cap' tv' us',PlayM fs w0 w' B rb yb g' gH gS k cap' (stepM fs s w v).1 tv' us' (tr ++ (stepM fs s w v).2.ev w) (n0 + 1) (n1 + (stepM fs s w v).2.steal) (n2 + (stepM fs s w v).2.fail) (stepM fs s w v).2.over
section
variable {fs : List (List Ins)} {w0 W : World} {B rb yb g gH gS k cap : Nat} {s : St} {tv : Value} {us : List Value} {tr : List Ev} {n0 n1 n2 : Nat} {S : Nat → Prop} {reds : List Int} {nr K : Nat}
theorem frV_kid {fs : List (List Ins)} {t : Tk} {a : Nat} {o : Org} {i : Ins} {m : Nat} (hm : i.f = m) (ho : o = .spawn ∨ o = .call) : frV fs (kid fs t a o i) = [.int .i64 i.f,.int .i64 (wrap64 (i.k + wrap64 (i.l * t.x))),.int .i64 0,.int .i64 0,.int .u64 (stepZ t.h t.r),.int .i64 (a : Int),.bool (calledB (kid fs t a o i)),.int .i64 0,.bool false]:=by
  have h1 : ((i.f.toNat : Nat) : Int) = i.f:=by rw [hm];simp
  have h2 : nextOf fs (kid fs t a o i) = 0:=by
    unfold nextOf bodyOf kid
    simp
  have h3 : fromZ (kid fs t a o i) = (a : Int):=by
    unfold fromZ kid
    rcases ho with rfl | rfl <;> rfl
  unfold frV
  rw [h2,h3]
  simp only [kid,numZ]
  rw [h1]
  simp
theorem suf_kid {fs : List (List Ins)} {t : Tk} {a : Nat} {o : Org} {i : Ins} : Suf fs (kid fs t a o i):=⟨0,Nat.zero_le _,by simp [kid,bodyOf]⟩
theorem PlayM.samePut (h : PlayM fs w0 W B rb yb g gH gS k cap s tv us tr n0 n1 n2 false) {s' : St} {a : Nat} {t1 t2 : Tk} (e : s = s'.putT a t1) (hv : frV fs t2 = frV fs t1) (hs : Suf fs t2) : PlayM fs w0 W B rb yb g gH gS k cap (s'.putT a t2) tv us tr n0 n1 n2 false:=by
  subst e
  refine h.same rfl ?_ (fun t ht=>?_)
  · show (s'.ts.set a t2).map (frV fs) = (s'.ts.set a t1).map (frV fs)
    rw [List.map_set,List.map_set,hv]
  · rcases List.mem_or_eq_of_mem_set (show t ∈ s'.ts.set a t2 from ht) with h1 | h1
    · obtain ⟨j,hj⟩:=List.getElem?_of_mem h1
      by_cases hja : a = j
      · subst hja
        have hal : a < s'.ts.length:=(List.getElem?_eq_some_iff.1 hj).1
        by_cases htt : t = t2
        · rw [htt];exact hs
        · obtain ⟨i,hi⟩:=List.getElem?_of_mem (show t ∈ s'.ts.set a t2 from ht)
          by_cases hia : a = i
          · subst hia
            rw [List.getElem?_set_self hal] at hi
            exact absurd (by cases hi;rfl) htt
          · refine h.suf t (List.mem_of_getElem? (i:=i) ?_)
            show (s'.ts.set a t1)[i]? = some t
            rw [List.getElem?_set_ne hia] at hi ⊢
            exact hi
      · refine h.suf t (List.mem_of_getElem? (i:=j) ?_)
        show (s'.ts.set a t1)[j]? = some t
        rw [List.getElem?_set_ne hja]
        exact hj
    · rw [h1];exact hs
theorem refStep (h : PlayM fs w0 W B rb yb g gH gS k cap s tv us tr n0 n1 n2 false) (hR : RefP S w0 (.pointer (some ⟨rb,0,none⟩)) fs reds) (hB : w0.heap.size ≤ B) (hL : Lean1 fs nr s K) (hK : K ≤ 100000) (hlen : s.ts.length ≤ 100000) (htr : tr.length ≤ 100000) (hn0 : n0 ≤ 100000) (hn1 : n1 ≤ 100000) (hn2 : n2 ≤ 100000) {w v : Nat} (hw : w < k) (hv : v < k) :
    Calls Tryz.prog 62 #[.pointer (some ⟨yb,0,none⟩),.int .i64 (w : Int),.int .i64 (v : Int)] W fun e w'=>e = .returned (.tuple #[]) ∧ StepPost fs w0 B rb yb gH gS k s tr n0 n1 n2 w v w':=by
  have hdeep : ∀ j,(s.w j).stack.length ≤ 100000:=fun j=>Nat.le_trans (hL.deep j) hK
  cases hh : (s.w w).hand with
  | none =>
    cases hq : (s.w v).stack with
    | nil =>
      have e : stepM fs s w v = (s,.failed):=by unfold stepM;rw [hh];simp only;rw [hq]
      refine (step_fail h hw hv (by omega) (by omega) hh hq).mono ?_
      rintro e' w' ⟨rfl,hp⟩
      refine ⟨rfl,g,cap,tv,us,?_⟩
      rw [e]
      simpa [Rs.ev,Rs.steal,Rs.fail,Rs.over] using hp
    | cons q l =>
      have hql:=hL.stack v q (by rw [hq];exact List.mem_cons_self ..)
      have e : stepM fs s w v = ((((s.hand w (some q)).stk v l)).putT q { s.t q with out:=(s.t q).out + 1 },.stole):=by
        unfold stepM
        rw [hh]
        simp only
        rw [hq]
        rfl
      have hd:=hdeep v
      rw [hq,List.length_cons] at hd
      have ho:=hL.out q hql
      refine (step_steal h hw hv (by omega) (by omega) hh hq hql (by omega) (hL.pos q hql) (by omega)).mono ?_
      rintro e' w' ⟨rfl,us',hp⟩
      refine ⟨rfl,g,cap,tv,us',?_⟩
      rw [e]
      simpa [Rs.ev,Rs.steal,Rs.fail,Rs.over] using hp
  | some a =>
    have ha:=hL.hand w a hh
    obtain ⟨t,ht⟩ : ∃ t,s.t a = t:=⟨_,rfl⟩
    obtain ⟨hf,hrm,hrl,hr0⟩:=hL.ok t (by rw [← ht];exact St.t_mem ha)
    have hpos:=hL.pos a ha
    have hout:=hL.out a ha
    rw [ht] at hpos hout
    cases hwt : waits t with
    | true =>
      have e : stepM fs s w v = ((s.putT a { t with asd:=true }).hand w none,.went):=by
        unfold stepM
        rw [hh]
        simp only
        rw [ht,hwt,if_pos rfl]
      unfold waits at hwt
      rw [Bool.and_eq_true] at hwt
      obtain ⟨w1,w2⟩:=hwt
      have ho : 0 < t.out:=by
        have : t.out ≠ 0:=by simpa using w1
        omega
      have hrem : t.rem = [] ∨ ∃ i r,t.rem = i :: r ∧ i.op = 5:=by
        cases hr : t.rem with
        | nil=>exact .inl rfl
        | cons i r =>
          rw [hr] at w2
          exact .inr ⟨i,r,rfl,by simpa using w2⟩
      refine (step_aside h hR hB (v:=v) hw (by omega) hh ha ht hf ho hrem).mono ?_
      rintro e' w' ⟨rfl,hp⟩
      refine ⟨rfl,g,cap,tv,us,?_⟩
      rw [e]
      simpa [Rs.ev,Rs.steal,Rs.fail,Rs.over] using hp
    | false =>
      cases hr : t.rem with
      | nil =>
        have ho : t.out = 0:=by
          unfold waits at hwt
          rw [hr] at hwt
          simpa using hwt
        cases hor : t.org with
        | root =>
          have e : stepM fs s w v = (s.hand w none,.done):=by
            unfold stepM
            rw [hh]
            simp only
            rw [ht,hwt]
            simp only [Bool.false_eq_true,if_false]
            rw [hr]
            simp only
            rw [hor]
          refine (step_over h hR hB (v:=v) hw (by omega) hh ha ht hf ho hr (fun w'=>StepPost fs w0 B rb yb gH gS k s tr n0 n1 n2 w v w') (fun X hX=>(ended_root hX hw ha hdeep (by rw [ht];exact hor)).mono ?_))
          rintro e' w' ⟨rfl,hp⟩
          refine ⟨rfl,g,cap,tv,us,?_⟩
          rw [e]
          simpa [Rs.ev,Rs.steal,Rs.fail,Rs.over] using hp
        | call =>
          have e : stepM fs s w v = (s.hand w (some t.par),.went):=by
            unfold stepM
            rw [hh]
            simp only
            rw [ht,hwt]
            simp only [Bool.false_eq_true,if_false]
            rw [hr]
            simp only
            rw [hor]
          refine (step_over h hR hB (v:=v) hw (by omega) hh ha ht hf ho hr (fun w'=>StepPost fs w0 B rb yb gH gS k s tr n0 n1 n2 w v w') (fun X hX=>(ended_call hX hw ha hdeep (by rw [ht];exact hor)).mono ?_))
          rintro e' w' ⟨rfl,hp⟩
          rw [ht] at hp
          refine ⟨rfl,g,cap,tv,us,?_⟩
          rw [e]
          simpa [Rs.ev,Rs.steal,Rs.fail,Rs.over] using hp
        | spawn =>
          cases hgl : (s.w w).stack.getLast? with
          | none =>
            have hsk : (s.w w).stack = []:=by simpa using hgl
            have hpar:=hL.par a ha (by rw [ht,hor];simp)
            have hjo:=hL.join w a hh (by rw [ht];exact hor) hsk
            rw [ht] at hpar hjo
            have ho2:=hL.out t.par hpar
            have e : stepM fs s w v = (if (joined s t.par).out = 0 ∧ (joined s t.par).asd = true then (s.putT t.par { joined s t.par with asd:=false }).hand w (some t.par) else (s.putT t.par (joined s t.par)).hand w none,.went):=by
              unfold stepM
              rw [hh]
              simp only
              rw [ht,hwt]
              simp only [Bool.false_eq_true,if_false]
              rw [hr]
              simp only
              rw [hor]
              simp only
              rw [hgl]
              simp only
              split
              · rename_i hc
                rw [if_pos (show (joined s t.par).out = 0 ∧ (joined s t.par).asd = true from hc)]
                rfl
              · rename_i hc
                rw [if_neg (show ¬ ((joined s t.par).out = 0 ∧ (joined s t.par).asd = true) from hc)]
                rfl
            refine (step_over h hR hB (v:=v) hw (by omega) hh ha ht hf ho hr (fun w'=>StepPost fs w0 B rb yb gH gS k s tr n0 n1 n2 w v w') (fun X hX=>(ended_join hX hw ha (by rw [ht];exact hor) (by rw [ht]) hpar hsk hjo (by omega)).mono ?_))
            rintro e' w' ⟨rfl,hp⟩
            refine ⟨rfl,g,cap,tv,us,?_⟩
            rw [e]
            simpa [Rs.ev,Rs.steal,Rs.fail,Rs.over] using hp
          | some q =>
            have hne : (s.w w).stack ≠ []:=fun e0=>by rw [e0] at hgl;simp at hgl
            have hlq : (s.w w).stack.getLast hne = q:=by
              rw [List.getLast?_eq_some_getLast hne] at hgl
              exact Option.some.inj hgl
            have hsk : (s.w w).stack = (s.w w).stack.dropLast ++ [q]:=by
              rw [← hlq]
              exact (List.dropLast_concat_getLast hne).symm
            have e : stepM fs s w v = ((s.hand w (some q)).stk w (s.w w).stack.dropLast,.went):=by
              unfold stepM
              rw [hh]
              simp only
              rw [ht,hwt]
              simp only [Bool.false_eq_true,if_false]
              rw [hr]
              simp only
              rw [hor]
              simp only
              rw [hgl]
            refine (step_over h hR hB (v:=v) hw (by omega) hh ha ht hf ho hr (fun w'=>StepPost fs w0 B rb yb gH gS k s tr n0 n1 n2 w v w') (fun X hX=>(ended_pop hX hw ha hdeep (by rw [ht];exact hor) hsk).mono ?_))
            rintro e' w' ⟨rfl,us',hp⟩
            refine ⟨rfl,g,cap,tv,us',?_⟩
            rw [e]
            simpa [Rs.ev,Rs.steal,Rs.fail,Rs.over] using hp
      | cons i r =>
        obtain ⟨hmay,hwf⟩:=hrm i (by rw [hr];exact List.mem_cons_self ..)
        have hr10 : t.r ≤ 10:=by omega
        have hstep : ∀ (P : St × Rs),(if i.op = 1 then (s.putT a { t with rem:=r,pl:=t.pl + 1 },Rs.gave i.r (numZ i t.x) t.pl)
            else if i.op = 2 then (s.putT a { t with rem:=r,pl:=t.pl + 1,r:=t.r + 1 },Rs.gave i.r (drawnZ t.h t.r i.k) t.pl)
            else if i.op = 3 then (({ (s.putT a { t with rem:=r,r:=t.r + 1,pl:=t.pl + gift fs i.f.toNat }).stk w ((s.w w).stack ++ [a]) with ts:=(s.ts.set a { t with rem:=r,r:=t.r + 1,pl:=t.pl + gift fs i.f.toNat }) ++ [kid fs t a .spawn i] } : St).hand w (some s.ts.length),Rs.went)
            else if i.op = 4 then ((({ s.putT a { t with rem:=r,r:=t.r + 1,pl:=t.pl + gift fs i.f.toNat } with ts:=(s.ts.set a { t with rem:=r,r:=t.r + 1,pl:=t.pl + gift fs i.f.toNat }) ++ [kid fs t a .call i] } : St)).hand w (some s.ts.length),Rs.went)
            else (s.putT a { t with rem:=r,r:=t.r + 1 },Rs.went)) = P → stepM fs s w v = P:=fun P hP=>by
          rw [← hP]
          unfold stepM
          rw [hh]
          simp only
          rw [ht,hwt]
          simp only [Bool.false_eq_true,if_false]
          rw [hr]
        have hsufT : Suf fs { t with rem:=r }:=by
          obtain ⟨nx,hn1',hn2'⟩:=h.suf t (by rw [← ht];exact St.t_mem ha)
          have hlt : nx < (bodyOf fs t).length:=by
            have:=congrArg List.length hn2'
            rw [hr,List.length_drop,List.length_cons] at this
            omega
          refine ⟨nx + 1,by show nx + 1 ≤ (bodyOf fs t).length;omega,?_⟩
          show r = (bodyOf fs t).drop (nx + 1)
          have:=congrArg List.tail hn2'
          rw [hr] at this
          simpa using this
        obtain ⟨op,F,R,Kk,L⟩:=i
        simp only at hstep hmay
        by_cases h1 : op = 1
        · subst h1
          have e:=hstep _ (if_pos rfl)
          refine (step_put h hR hB (v:=v) hw (by omega) hh ha ht hf hr (by omega)).mono ?_
          rintro e' w' ⟨rfl,tv',hp⟩
          refine ⟨rfl,g,cap,tv',us,?_⟩
          rw [e]
          have hp2:=hp.samePut (t2:={ t with rem:=r,pl:=t.pl + 1 }) rfl rfl hsufT
          simpa [Rs.ev,Rs.steal,Rs.fail,Rs.over,numZ] using hp2
        by_cases h2 : op = 2
        · subst h2
          have e:=hstep _ (by rw [if_neg (by omega),if_pos rfl])
          unfold mayB at hmay
          rw [if_neg (by simp),if_pos rfl] at hmay
          simp only [Bool.and_eq_true,decide_eq_true_eq] at hmay
          have hk64:=hwf.2.2.2.1
          unfold i64 at hk64
          simp only at hk64
          refine (step_draw h hR hB (v:=v) hw (by omega) hh ha ht hf hr0 hr10 hr (by omega) (by omega) (by omega)).mono ?_
          rintro e' w' ⟨rfl,tv',hp⟩
          refine ⟨rfl,g,cap,tv',us,?_⟩
          rw [e]
          have hp2:=hp.samePut (t2:={ t with rem:=r,pl:=t.pl + 1,r:=t.r + 1 }) rfl rfl hsufT
          simpa [Rs.ev,Rs.steal,Rs.fail,Rs.over] using hp2
        have hset : ∀ (t1 t2 t' : Tk),(s.ts.set a t1 ++ [t']).set a t2 = s.ts.set a t2 ++ [t']:=fun t1 t2 t'=>by
          rw [List.set_append_left _ _ (by simp;exact ha),List.set_set]
        by_cases h3 : op = 3
        · subst h3
          have e:=hstep _ (by rw [if_neg (by omega),if_neg (by omega),if_pos rfl])
          obtain ⟨m,hm1,hm2,hm3⟩:=mayB_begins hmay (by simp [begins])
          simp only at hm1
          have hkd:=frV_kid (fs:=fs) (t:=t) (a:=a) (o:=.spawn) (i:=⟨3,F,R,Kk,L⟩) (m:=m) hm1 (.inl rfl)
          refine (step_spawn h hR hB (v:=v) (t':=kid fs t a .spawn ⟨3,F,R,Kk,L⟩) hw (by omega) hh ha ht hf hr0 hr10 hr (by omega) (by have:=hdeep w;omega) hkd suf_kid).mono ?_
          rintro e' w' ⟨rfl,g',cap',us',hp⟩
          refine ⟨rfl,g',cap',tv,us',?_⟩
          rw [e]
          have hp2:=hp.same (s':=({ (s.putT a { t with rem:=r,r:=t.r + 1,pl:=t.pl + gift fs F.toNat }).stk w ((s.w w).stack ++ [a]) with ts:=(s.ts.set a { t with rem:=r,r:=t.r + 1,pl:=t.pl + gift fs F.toNat }) ++ [kid fs t a .spawn ⟨3,F,R,Kk,L⟩] } : St).hand w (some s.ts.length)) rfl (by
              show (s.ts.set a _ ++ [_]).map (frV fs) = ((s.ts.set a _ ++ [_]).set a _).map (frV fs)
              rw [hset,List.map_append,List.map_append,List.map_set,List.map_set]
              rfl) (fun t0 ht0=>by
              rcases List.mem_append.1 (show t0 ∈ s.ts.set a _ ++ [kid fs t a .spawn ⟨3,F,R,Kk,L⟩] from ht0) with h0 | h0
              · rcases List.mem_or_eq_of_mem_set h0 with h0 | h0
                · exact h.suf t0 h0
                · rw [h0];exact hsufT
              · rw [List.mem_singleton.1 h0];exact suf_kid)
          simpa [Rs.ev,Rs.steal,Rs.fail,Rs.over] using hp2
        by_cases h4 : op = 4
        · subst h4
          have e:=hstep _ (by rw [if_neg (by omega),if_neg (by omega),if_neg (by omega),if_pos rfl])
          obtain ⟨m,hm1,hm2,hm3⟩:=mayB_begins hmay (by simp [begins])
          simp only at hm1
          have hkd:=frV_kid (fs:=fs) (t:=t) (a:=a) (o:=.call) (i:=⟨4,F,R,Kk,L⟩) (m:=m) hm1 (.inr rfl)
          refine (step_call h hR hB (v:=v) (t':=kid fs t a .call ⟨4,F,R,Kk,L⟩) hw (by omega) hh ha ht hf hr0 hr10 hr (by omega) hkd suf_kid).mono ?_
          rintro e' w' ⟨rfl,g',cap',hp⟩
          refine ⟨rfl,g',cap',tv,us,?_⟩
          rw [e]
          have hp2:=hp.same (s':=(({ s.putT a { t with rem:=r,r:=t.r + 1,pl:=t.pl + gift fs F.toNat } with ts:=(s.ts.set a { t with rem:=r,r:=t.r + 1,pl:=t.pl + gift fs F.toNat }) ++ [kid fs t a .call ⟨4,F,R,Kk,L⟩] } : St)).hand w (some s.ts.length)) rfl (by
              show (s.ts.set a _ ++ [_]).map (frV fs) = ((s.ts.set a _ ++ [_]).set a _).map (frV fs)
              rw [hset,List.map_append,List.map_append,List.map_set,List.map_set]
              rfl) (fun t0 ht0=>by
              rcases List.mem_append.1 (show t0 ∈ s.ts.set a _ ++ [kid fs t a .call ⟨4,F,R,Kk,L⟩] from ht0) with h0 | h0
              · rcases List.mem_or_eq_of_mem_set h0 with h0 | h0
                · exact h.suf t0 h0
                · rw [h0];exact hsufT
              · rw [List.mem_singleton.1 h0];exact suf_kid)
          simpa [Rs.ev,Rs.steal,Rs.fail,Rs.over] using hp2
        · have h5 : op = 5:=by
            unfold mayB at hmay
            simp only at hmay
            rw [if_neg h1,if_neg h2,if_neg (by omega)] at hmay
            by_cases h5 : op = 5
            · exact h5
            · rw [if_neg h5] at hmay
              cases hmay
          subst h5
          have ho : t.out = 0:=by
            unfold waits at hwt
            rw [hr] at hwt
            simpa using hwt
          have e:=hstep _ (by rw [if_neg (by omega),if_neg (by omega),if_neg (by omega),if_neg (by omega)])
          refine (step_sync h hR hB (v:=v) hw (by omega) hh ha ht hf hr0 hr10 hr ho).mono ?_
          rintro e' w' ⟨rfl,hp⟩
          refine ⟨rfl,g,cap,tv,us,?_⟩
          rw [e]
          simpa [Rs.ev,Rs.steal,Rs.fail,Rs.over] using hp
end
end Go.Proofs.YtkmakliebhnhbaaGreat
namespace Go.Proofs.YtkmakliebhnhbaaGreat
open Go.RowKit Go.Shelf
theorem step_make {P : Program} {w : World} {ops : Array Oper} {o : Oper} {a : Act} {K : Act → World → Prop} {Q : Exit → Act → World → Prop} {E : Prop} (hgd : o.guard = none) (l c : Operand) (t : TypeId) (hop : o.op = Op.makeSlice t l c)
    (base : Nat) (e : TypeId) (i : TypeInfo) (z : Value) (size : Nat) (h1 : P.underlying t = some (.slice e)) (h2 : P.info? e = some i) (h3 : i.zero = some z) (h4 : i.size = size)
    (kl kc : IntKind) (n : Nat) (hl : a.eval l = .int kl (n : Int)) (hc : a.eval c = .int kc (n : Int)) (b2 : i.bytes * n ≤ 281474976710656) (b3 : n ≤ maxLen) (b4 : base ≤ w.heap.size)
    (hK : ∀ w',w'.ownsRow base e size (.slice (some ⟨w.heap.size,0,none⟩) n n) n (madeCells z.cells (n * size)).toList → w.grownBy w' none → K (a.put o.dst (.slice (some ⟨w.heap.size,0,none⟩) n n)) w') :
    if Region.wanted o (yielded ops a.tmps) = true then Oper.wp P o a w K Q else E:=by
  have hw : Region.wanted o (yielded ops a.tmps) = true:=by simp [Region.wanted,hgd]
  rw [if_pos hw]
  obtain ⟨w',hrun,r1,r2⟩:=run_make_full (P:=P) w base t e i z size h1 h2 h3 h4 kl kc n b2 b3 b4
  unfold Oper.wp
  simp [execOp,hop,hl,hc,hrun,Result.andThen]
  exact hK w' r1 r2
theorem own_blk {W : World} {base : Nat} {e : TypeId} {g n : Nat} {xs : List Value} (h : W.ownsRow base e 1 (.slice (some ⟨g,0,none⟩) n n) n xs) : W.heap[g]? = some (.cells xs.toArray e (0,0)):=by
  rcases h.2 with ⟨h0,_⟩ | ⟨g',c,cur,he,_,hg,_,_,hcs,ht⟩
  · cases h0
  · cases he
    rw [hg]
    congr 2
    have : cur.toList = xs:=by
      rw [← ht,List.take_of_length_le]
      simp [hcs]
    rw [← this]
theorem Tryz.infoLInt : (Tryz.prog.info? 30).map (fun i=>(i.zero,i.size,i.bytes)) = some (some (.slice none 0 0),1,24):=by kernel_rfl
theorem play_start {fs : List (List Ins)} {w0 X : World} {B rb yb g gH gS k : Nat} {seed x : Int} (hk : 1 ≤ k) (hbel : Below B w0 X) (hyB : B ≤ yb) (hhB : B ≤ gH) (hsB : B ≤ gS)
    (hblk : X.heap[yb]? = some (.cells #[.pointer (some ⟨rb,0,none⟩),.slice (some ⟨g,0,none⟩) 1 1,.slice (some ⟨gH,0,none⟩) k k,.slice (some ⟨gS,0,none⟩) k k,.slice none 0 0,.int .i64 0,.int .i64 0,.int .i64 0,.int .i64 0,.bool false] 147 (0,0)))
    (hfr : X.ownsRow B 143 9 (.slice (some ⟨g,0,none⟩) 1 1) 1 [.int .i64 0,.int .i64 x,.int .i64 0,.int .i64 0,.int .u64 seed,.int .i64 (-1),.bool false,.int .i64 0,.bool false])
    (hhd : X.heap[gH]? = some (.cells ((.int .i64 0 : Value) :: List.replicate (k - 1) (.int .i64 (-1))).toArray 3 (0,0))) (hst : X.heap[gS]? = some (.cells (List.replicate k (.slice none 0 0 : Value)).toArray 30 (0,0))) :
    PlayM fs w0 X B rb yb g gH gS k 1 (start fs k seed x) (.slice none 0 0) (List.replicate k (.slice none 0 0)) [] 0 0 0 false:=by
  have hnil : ∀ (i : Nat) (u : Value),(List.replicate k (.slice none 0 0 : Value))[i]? = some u → u = .slice none 0 0:=fun i u hu=>by
    have:=List.mem_of_getElem? hu
    exact (List.mem_replicate.1 this).2
  have hws : ∀ i,((start fs k seed x).w i).stack = []:=fun i=>by
    unfold St.w start
    simp only
    cases i with
    | zero=>rfl
    | succ i =>
      rw [List.getElem?_cons_succ,List.getElem?_replicate]
      split <;> rfl
  refine ⟨hbel,hyB,hhB,hsB,hblk,?_,?_,hst,by simp,by simp [start];omega,fun i u hu=>?_,fun i j u v b hu _ _ hb=>?_,fun i u hu=>?_,World.ownsRow_nil _ _ _ _,fun t ht=>?_⟩
  · have e : flat (frV fs) (start fs k seed x).ts = [.int .i64 0,.int .i64 x,.int .i64 0,.int .i64 0,.int .u64 seed,.int .i64 (-1),.bool false,.int .i64 0,.bool false]:=by
      simp [flat,start,frV,nextOf,bodyOf,fromZ,calledB]
    rw [e]
    exact hfr
  · rw [hhd]
    congr 2
    simp [start,handV,handZ,wk0]
  · rw [hws,hnil i u hu]
    exact World.ownsRow_nil _ _ _ _
  · rw [hnil i u hu] at hb
    simp [Value.ownBlock] at hb
  · rw [hnil i u hu]
    simp [Value.ownBlock]
  · simp only [start,List.mem_singleton] at ht
    rw [ht]
    exact ⟨0,Nat.zero_le _,by simp [bodyOf]⟩
end Go.Proofs.YtkmakliebhnhbaaGreat
namespace Go.Proofs.YtkmakliebhnhbaaGreat
open Go.RowKit Go.Shelf
theorem ts_step (fs : List (List Ins)) (s : St) (w v : Nat) : (stepM fs s w v).1.ts.length ≤ s.ts.length + 1:=by
  unfold stepM
  cases (s.w w).hand with
  | none =>
    simp only
    cases (s.w v).stack with
    | nil=>simp
    | cons q rest=>simp
  | some a =>
    simp only
    split
    · simp
    · cases (s.t a).rem with
      | nil =>
        simp only
        cases (s.t a).org with
        | root=>simp
        | call=>simp
        | spawn =>
          simp only
          cases (s.w w).stack.getLast? with
          | some q=>simp
          | none =>
            simp only
            split <;> simp
      | cons i rest =>
        simp only
        split
        · simp
        · split
          · simp
          · split
            · simp
            · split
              · simp
              · simp
section
variable {fs : List (List Ins)} {k nr : Nat} {script : List (Int × Int)} {seed x : Int}
theorem stAt_len (j : Nat) : (stAt fs k script seed x j).ts.length ≤ j + 1:=by
  induction j with
  | zero =>
    show (start fs k seed x).ts.length ≤ 1
    simp [start]
  | succ j ih =>
    rw [stAt_succ]
    exact Nat.le_trans (ts_step _ _ _ _) (by omega)
theorem stealsAt_len (j : Nat) : stealsAt fs k script seed x j ≤ j:=by
  induction j with
  | zero=>simp [stealsAt]
  | succ j ih =>
    have : (rsAt fs k script seed x j).steal ≤ 1:=by cases rsAt fs k script seed x j <;> simp [Rs.steal]
    simp only [stealsAt]
    omega
theorem failsAt_len (j : Nat) : failsAt fs k script seed x j ≤ j:=by
  induction j with
  | zero=>simp [failsAt]
  | succ j ih =>
    have : (rsAt fs k script seed x j).fail ≤ 1:=by cases rsAt fs k script seed x j <;> simp [Rs.fail]
    simp only [failsAt]
    omega
end
def RefAt (fs : List (List Ins)) (script : List (Int × Int)) (seed x : Int) (w0 : World) (B rb yb gH gS k : Nat) (j : Nat) (d : Bool) (W : World) : Prop :=
  ∃ g cap tv us,PlayM fs w0 W B rb yb g gH gS k cap (stAt fs k script seed x j) tv us (trAt fs k script seed x j) j (stealsAt fs k script seed x j) (failsAt fs k script seed x j) d
theorem refStepAt {fs : List (List Ins)} {k nr : Nat} {script : List (Int × Int)} {seed x : Int} {S : Nat → Prop} {reds : List Int} {w0 W : World} {B rb yb gH gS N j : Nat} (hR : RefP S w0 (.pointer (some ⟨rb,0,none⟩)) fs reds) (hB : w0.heap.size ≤ B) (hN : Ends fs k script seed x N) (hN5 : N ≤ 50000) (hk : 1 ≤ k) (hL : ∀ j,j ≤ N → Lean1 fs nr (stAt fs k script seed x j) N) (hj : j ≤ N) (h : RefAt fs script seed x w0 B rb yb gH gS k j false W) :
    Calls Tryz.prog 62 #[.pointer (some ⟨yb,0,none⟩),.int .i64 ((turnM k script j).1 : Int),.int .i64 ((turnM k script j).2 : Int)] W fun e w'=>e = .returned (.tuple #[]) ∧ RefAt fs script seed x w0 B rb yb gH gS k (j + 1) (decide (j = N)) w':=by
  obtain ⟨g,cap,tv,us,hP⟩:=h
  have hlt:=turnM_lt hk script j
  have h1:=stAt_len (fs:=fs) (k:=k) (script:=script) (seed:=seed) (x:=x) j
  have h2:=trAt_len (fs:=fs) (workers:=k) (script:=script) (seed:=seed) (x:=x) j
  have h3:=stealsAt_len (fs:=fs) (k:=k) (script:=script) (seed:=seed) (x:=x) j
  have h4:=failsAt_len (fs:=fs) (k:=k) (script:=script) (seed:=seed) (x:=x) j
  refine (refStep hP hR hB (hL j hj) (by omega) (by omega) (by omega) (by omega) (by omega) (by omega) hlt.1 hlt.2).mono ?_
  rintro e w' ⟨rfl,g',cap',tv',us',hp⟩
  refine ⟨rfl,g',cap',tv',us',?_⟩
  have ho : (rsAt fs k script seed x j).over = decide (j = N):=by
    by_cases hjN : j = N
    · subst hjN
      rw [hN.1]
      simp [Rs.over]
    · have:=hN.2 j (by omega)
      cases hr : rsAt fs k script seed x j with
      | done=>exact absurd hr this
      | went=>simp [Rs.over,hjN]
      | gave=>simp [Rs.over,hjN]
      | stole=>simp [Rs.over,hjN]
      | failed=>simp [Rs.over,hjN]
  rw [← ho]
  exact hp
def hv (k j : Nat) : List Value:=(List.range k).map fun i=>if 1 ≤ i ∧ i < j then .int .i64 (-1) else .int .i64 0
theorem hv_one (k : Nat) : hv k 1 = List.replicate k (.int .i64 0):=by
  refine List.eq_replicate_iff.2 ⟨by simp [hv],fun u hu=>?_⟩
  obtain ⟨i,_,rfl⟩:=List.mem_map.1 hu
  rw [if_neg (by omega)]
theorem hv_at {k j : Nat} (hj : j < k) : (hv k j)[j]? = some (.int .i64 0):=by
  unfold hv
  rw [List.getElem?_map,List.getElem?_range hj]
  simp
theorem hv_set {k j : Nat} (h1 : 1 ≤ j) (hj : j < k) : (hv k j).set j (.int .i64 (-1)) = hv k (j + 1):=by
  refine List.ext_getElem? fun i=>?_
  by_cases e : j = i
  · subst e
    rw [List.getElem?_set_self (by simp [hv];exact hj)]
    unfold hv
    rw [List.getElem?_map,List.getElem?_range hj]
    simp [h1]
  · rw [List.getElem?_set_ne e]
    unfold hv
    rw [List.getElem?_map,List.getElem?_map]
    by_cases hi : i < k
    · rw [List.getElem?_range hi]
      simp only [Option.map_some]
      by_cases hc : 1 ≤ i ∧ i < j
      · rw [if_pos hc,if_pos (by omega)]
      · rw [if_neg hc,if_neg (by omega)]
    · rw [List.getElem?_eq_none (by simp;omega)]
      rfl
theorem hv_end {k : Nat} (hk : 1 ≤ k) : hv k k = (.int .i64 0 : Value) :: List.replicate (k - 1) (.int .i64 (-1)):=by
  refine List.ext_getElem? fun i=>?_
  unfold hv
  rw [List.getElem?_map]
  cases i with
  | zero =>
    rw [List.getElem?_range (by omega)]
    simp
  | succ i =>
    rw [List.getElem?_cons_succ,List.getElem?_replicate]
    by_cases hi : i + 1 < k
    · rw [List.getElem?_range hi,if_pos (by omega)]
      simp only [Option.map_some]
      rw [if_pos (by omega)]
    · rw [List.getElem?_eq_none (by simp;omega),if_neg (by omega)]
      rfl
end Go.Proofs.YtkmakliebhnhbaaGreat
