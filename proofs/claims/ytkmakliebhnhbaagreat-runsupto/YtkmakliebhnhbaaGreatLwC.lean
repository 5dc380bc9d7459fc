import Derived.Deep.RegionHeld3
import Derived.Deep.DrawnRows
import Derived.Deep.QuietTactic
import Derived.BigQuiet
import Derived.Test.YtkmakliebhnhbaaGreatLawW
import Derived.Test.YtkmakliebhnhbaaGreatCrW
namespace Go.Proofs.YtkmakliebhnhbaaGreat
open Go.RowKit
theorem Tryz.infoPick : (Tryz.prog.info? 26).map (fun i=>(i.zero,i.size,i.bytes)) = some (some (.agg #[.int .i64 0,.int .i64 0]),2,16):=by kernel_rfl
theorem Tryz.sizePick : (Tryz.prog.info? 26).map (·.size) = some 2:=by kernel_rfl
theorem pickv_len (x : Int × Int) : (pickV x).length = 2:=rfl
theorem flat_pick_one (l : List (Int × Int)) : ∀ u ∈ flat pickV l,u.oneCell' = true:=by
 intro u hu
 obtain ⟨e,_,he⟩:=List.mem_flatMap.1 hu
 simp only [pickV,List.mem_cons,List.not_mem_nil,or_false] at he
 rcases he with rfl | rfl <;> rfl
def p77 : Int × Int:=(77,0)
def p00 : Int × Int:=(0,0)
def mkp (xs : List (Int × Int)) (k : Nat) : List (Int × Int):=xs ++ List.replicate k p77 ++ List.replicate (3 - k) p00
theorem madeP2 (m : Nat) : (madeCells #[Value.int .i64 0,.int .i64 0] m).toList = List.replicate m (.int .i64 0):=by
 apply List.ext_getElem
 ·simp [madeCells]
 ·intro j h1 h2
  simp only [madeCells,Array.toList_map,List.getElem_map,Array.getElem_toList,Array.getElem_range,List.getElem_replicate]
  have : j % 2 < 2:=Nat.mod_lt _ (by omega)
  match hq : j % 2,this with
  | 0,_=>simp
  | 1,_=>simp
theorem mkp_start (xs : List (Int × Int)) : flat pickV xs ++ (madeCells #[Value.int .i64 0,.int .i64 0] ((xs.length + 3) * 2)).toList.drop (flat pickV xs).length = flat pickV (mkp xs 0):=by
 rw [madeP2,flat_len pickv_len,List.drop_replicate,show (xs.length + 3) * 2 - xs.length * 2 = 6 by omega]
 simp only [mkp,List.replicate_zero,List.append_nil,flat_append]
 rfl
theorem flat2_set : ∀ (l : List (Int × Int)) (j : Nat) (x : Int × Int),j < l.length → ((flat pickV l).set (j * 2) (.int .i64 x.1)).set (j * 2 + 1) (.int .i64 x.2) = flat pickV (l.set j x)
 | [],j,x,h=>by simp at h
 | y :: t,0,x,_=>by simp [flat,pickV]
 | y :: t,j + 1,x,h=>by
  have ih:=flat2_set t j x (by simpa using h)
  have e : ∀ c u (l : List Value),(pickV y ++ l).set ((j + 1) * 2 + c) u = pickV y ++ l.set (j * 2 + c) u:=fun c u l=>by
   rw [List.set_append_right _ _ (by rw [pickv_len];omega),pickv_len,show (j + 1) * 2 + c - 2 = j * 2 + c by omega]
  have e0:=fun u l=>e 0 u l
  simp only [Nat.add_zero] at e0
  show ((pickV y ++ flat pickV t).set ((j + 1) * 2) _).set ((j + 1) * 2 + 1) _ = pickV y ++ flat pickV (t.set j x)
  rw [e0,e,ih]
theorem mkp_step (xs : List (Int × Int)) (k : Nat) (hk : k < 3) : (mkp xs k).set (xs.length + k) p77 = mkp xs (k + 1):=by
 unfold mkp
 rw [List.append_assoc,List.append_assoc,List.set_append_right _ _ (by omega),show xs.length + k - xs.length = k by omega]
 match k,hk with
 | 0,_=>rfl
 | 1,_=>rfl
 | 2,_=>rfl
theorem mkp_len (xs : List (Int × Int)) (k : Nat) (hk : k ≤ 3) : (mkp xs k).length = xs.length + 3:=by simp [mkp];omega
theorem own_get2 {W : World} {base g n cap : Nat} {e : TypeId} {l : List (Int × Int)} (h : W.ownsRow base e 2 (.slice (some ⟨g,0,none⟩) n cap) n (flat pickV l)) (hl : l.length = n) {q : Nat} {x : Int × Int} (hq : l[q]? = some x) : W.cell? ⟨g,q * 2,none⟩ = some (.int .i64 x.1) ∧ W.cell? ⟨g,q * 2 + 1,none⟩ = some (.int .i64 x.2):=by
 have hlt:=(List.getElem?_eq_some_iff.1 hq).1
 have key : ∀ j,j < 2 → W.cell? ⟨g,q * 2 + j,none⟩ = (pickV x)[j]?:=fun j hj=>by
  rw [h.cellAt _ (by omega),flat_get pickv_len l hq hj]
 exact ⟨by simpa [pickV] using key 0 (by omega),key 1 (by omega)⟩
theorem own_set2 {W : World} {base g n cap : Nat} {e : TypeId} {l : List (Int × Int)} (h : W.ownsRow base e 2 (.slice (some ⟨g,0,none⟩) n cap) n (flat pickV l)) {q : Nat} (x : Int × Int) (hq : q < l.length) : ((W.setCell ⟨g,q * 2,none⟩ (.int .i64 x.1)).setCell ⟨g,q * 2 + 1,none⟩ (.int .i64 x.2)).ownsRow base e 2 (.slice (some ⟨g,0,none⟩) n cap) n (flat pickV (l.set q x)):=by
 rw [← flat2_set l q x hq]
 exact ((h.stored _ _).1.stored _ _).1
set_option maxRecDepth 100000 in
set_option maxHeartbeats 400000 in
theorem picks_any (xs : List (Int × Int)) (S : Nat → Prop) (v : Value) (w : World) (hR : RdL S w 2 pickV v xs) (hn : xs.length ≤ 2000000) :
  Calls Tryz.prog 27 #[v] w fun e w'=>e = .returned (.slice (some ⟨w.heap.size,0,none⟩) (xs.length + 3) (xs.length + 3)) ∧
   w'.ownsRow w.heap.size 26 2 (.slice (some ⟨w.heap.size,0,none⟩) (xs.length + 3) (xs.length + 3)) (xs.length + 3) (flat pickV (mkp xs 3)) ∧ Below w.heap.size w w':=by
 have HSRC:=hide (rd_src hR pickv_len (by omega))
 obtain ⟨a,cap,rfl,hc,hm⟩:=hR.form
 obtain ⟨i0,hii,hz0,hz1,hz2⟩:=info_parts Tryz.infoPick
 obtain ⟨n,hN⟩ : ∃ n,xs.length = n:=⟨_,rfl⟩
 have HN:=hide hN
 rw [hN] at hn hc HSRC ⊢
 clear hR hN
 unfold maxLen at hm
 obtain ⟨news,hnews⟩ : ∃ news,flat pickV xs = news:=⟨_,rfl⟩
 rw [hnews] at HSRC
 have HNW:=hide hnews
 have HON : Hid (∀ u ∈ news,u.oneCell' = true):=by unfold Hid;rw [← hnews];exact flat_pick_one xs
 clear hnews
 go_enter Tryz.func27,Tryz.ntmps27
 go_wp2_with (at_make;refine wpList_make_full _ rfl _ _ 27 rfl w.heap.size 26 i0 _ 2 Tryz.underlying27 hii hz0 hz1 _ _ _ _ (n + 3) rfl rfl (by simp) (by simp) (by rw [hz2];omega) (by unfold maxLen;omega) (Nat.le_refl _) ?_)
 intro w1 hown hgrow
 obtain ⟨g,hg⟩ : ∃ g,g = w.heap.size:=⟨_,rfl⟩
 have HB1:=hide ((Below.refl _ w).grown hgrow (Nat.le_refl _) (by simp))
 have HSRC1 : Hid (AppSrc w1 2 (.slice a n cap) n news):=by
  rcases HSRC.out with h | ⟨ad,c,e,h1,h2⟩
  ·exact .inl h
  ·exact .inr ⟨ad,c,e,h1,fun j u hu=>hgrow.cell (h2 j u hu) (by simp)⟩
 have HOW:=hide hown
 rw [← hg] at HOW ⊢
 have HG:=hide hg
 clear hown hgrow hg HSRC
 go_wp2_with (with_reducible refine wpList_copy _ _ _ 27 27 26 2 g Tryz.underlying27 Tryz.sizePick g (n + 3) (n + 3) _ ?hd HOW.out (.slice a n cap) n news ?hs HSRC1.out ?hm HON.out ?_)
 case hd=>rfl
 case hs=>rfl
 case hm=>omega
 intro w2 hown hgrow
 have HB2:=hide (HB1.out.grown hgrow HB1.out.size (by intro q hq;injection hq with hq;have:=HG.out;omega))
 have HOW2 : Hid (w2.ownsRow g 26 2 (.slice (some ⟨g,0,none⟩) (n + 3) (n + 3)) (n + 3) (flat pickV (mkp xs 0))):=by
  unfold Hid;rw [← mkp_start,HN.out,HNW.out];exact hown
 clear hown hgrow HOW HSRC1 HB1 hii hz0 hz1 hz2
 go_wp2
 go_loopw [4] (fun i wr=>(∃ k : Nat,k ≤ 3 ∧ i = .int .i64 (↑n + ↑k) ∧ wr.ownsRow g 26 2 (.slice (some ⟨g,0,none⟩) (n + 3) (n + 3)) (n + 3) (flat pickV (mkp xs k))) ∧ Below w.heap.size w wr)
  (fun i _=>n + 3 - (intOf i).toNat)
 case atStart=>exact ⟨⟨0,by omega,by simp,HOW2.out⟩,HB2.out⟩
 case round =>
  obtain ⟨⟨k,hk,rfl,hown⟩,hBk⟩:=hrel
  have HOW:=hide hown
  have HBk:=hide hBk
  by_cases hlt : k < 3
  ·have hnk : n + k < n + 3:=by omega
   obtain ⟨u,hu⟩ : ∃ u,(mkp xs k)[n + k]? = some u:=⟨(mkp xs k)[n + k]'(by rw [mkp_len _ _ hk,HN.out];omega),by simp⟩
   obtain ⟨c0,c1⟩:=own_get2 hown (by rw [mkp_len _ _ hk,HN.out]) hu
   have f0:=hown.frozenAt ((n + k) * 2)
   have f1:=hown.frozenAt ((n + k) * 2 + 1)
   have hcast : (n : Int) + k = ((n + k : Nat) : Int):=by omega
   have HC:=hide hcast
   rw [hcast]
   have hi0 : (0 : Int) ≤ ((n + k : Nat) : Int):=by omega
   have hi1 : ((n + k : Nat) : Int) < ((n + 3 : Nat) : Int):=by omega
   obtain ⟨q,hq⟩ : ∃ q,n + k = q:=⟨_,rfl⟩
   rw [hq] at c0 c1 f0 f1 hi0 hi1 ⊢
   have HQ:=hide hq
   have hi2 : (q : Int) < (n : Int) + 3:=by omega
   clear hown hBk hu hcast hq hnk
   go_wp2
   go_roundw
   case rel =>
    have hgb : w.heap.size ≤ g:=by have:=HG.out;omega
    refine ⟨⟨k + 1,by omega,by have:=HQ.out;go_num,?_⟩,(HBk.out.setCell (p:=⟨g,_,none⟩) hgb _).setCell (p:=⟨g,_,none⟩) hgb _⟩
    rw [← mkp_step xs k hlt,HN.out,HQ.out]
    exact own_set2 HOW.out p77 (by rw [mkp_len _ _ hk,HN.out];have:=HQ.out;omega)
   case measure=>have:=HQ.out;simp [intOf];omega
  ·obtain rfl : k = 3:=by omega
   clear hown hBk
   go_wp2
   go_ret
   have HB':=HBk.out
   rw [← HG.out] at HB' ⊢
   exact ⟨rfl,HOW.out,HB'⟩
end Go.Proofs.YtkmakliebhnhbaaGreat
namespace Go.Proofs.YtkmakliebhnhbaaGreat
open Go.RowKit
set_option maxRecDepth 100000 in
set_option maxHeartbeats 3000000 in
theorem wholePicks_any (xs : List (Int × Int)) (S : Nat → Prop) (v : Value) (g cap base : Nat) (w : World) (hR : RdL S w 2 pickV v xs) (hn : xs.length ≤ 2000000)
  (hown : w.ownsRow base 26 2 (.slice (some ⟨g,0,none⟩) (xs.length + 3) cap) (xs.length + 3) (flat pickV (mkp xs 3))) :
  Calls Tryz.prog 29 #[.slice (some ⟨g,0,none⟩) (xs.length + 3) cap,v] w fun e w'=>e = .returned (.bool true) ∧ w.grownBy w' (some g):=by
 have HC:=hide (picks_any xs S v w hR hn)
 have HOW:=hide hown
 have hg : g < w.heap.size:=(hown.lt g rfl).2
 have hlen:=mkp_len xs 3 (Nat.le_refl _)
 obtain ⟨n,hN⟩ : ∃ n,xs.length + 3 = n:=⟨_,rfl⟩
 rw [hN] at HC HOW hlen ⊢
 obtain ⟨ys,hys⟩ : ∃ ys,mkp xs 3 = ys:=⟨_,rfl⟩
 rw [hys] at HC HOW hlen
 have hn' : n ≤ 2000003:=by omega
 have HY:=hide hlen
 clear hN hR hown hys hn hlen
 go_enter Tryz.func29,Tryz.ntmps29
 go_wp2_with fail
 refine HC.out.mono ?_
 rintro e w1 ⟨rfl,ho1,hb1⟩
 have HO1:=hide ho1
 have HB1:=hide hb1
 have hw1 : w.heap.size < w1.heap.size:=(ho1.lt _ rfl).2
 have HW1:=hide hw1
 clear HC ho1 hb1 hw1
 go_wp2
 go_loopw [6,7] (fun ok i wr=>ok = .bool true ∧ (∃ (k : Nat) (zs : List (Int × Int)),k ≤ n ∧ i = .int .i64 k ∧ zs.length = n ∧ wr.ownsRow base 26 2 (.slice (some ⟨g,0,none⟩) n cap) n (flat pickV zs) ∧ (∀ j,k ≤ j → zs[j]? = ys[j]?)) ∧
   wr.ownsRow w.heap.size 26 2 (.slice (some ⟨w.heap.size,0,none⟩) n n) n (flat pickV ys) ∧ w.grownBy wr (some g))
  (fun _ i _=>n - (intOf i).toNat)
 case atStart=>exact ⟨by simp,⟨0,ys,Nat.zero_le _,rfl,HY.out,own_below HOW.out HB1.out,fun _ _=>rfl⟩,HO1.out,grown_below HB1.out _⟩
 case round =>
  obtain ⟨rfl,⟨k,zs,hk,rfl,hz,hoz,hzy⟩,how,hgr⟩:=hrel
  have HOZ:=hide hoz
  have HOW2:=hide how
  have HGR:=hide hgr
  by_cases hlt : k < n
  ·obtain ⟨y,hy⟩ : ∃ y,ys[k]? = some y:=⟨ys[k]'(by have:=HY.out;omega),by simp⟩
   obtain ⟨c0,c1⟩:=own_get2 hoz hz ((hzy k (Nat.le_refl _)).trans hy)
   obtain ⟨d0,d1⟩:=own_get2 how HY.out hy
   have f0:=hoz.frozenAt (k * 2)
   have f1:=hoz.frozenAt (k * 2 + 1)
   have hki : (k : Int) < n:=by omega
   have HZ:=hide hzy
   have HZL:=hide hz
   clear hoz how hgr hzy hy hz
   obtain ⟨y0,y1⟩:=y
   simp only at c0 c1 d0 d1
   go_wp2
   go_quiet (fail)
   go_wp2
   go_roundw
   case rel =>
    refine ⟨by simp,⟨k + 1,zs.set k (-99,0),by omega,by go_num,by simpa using HZL.out,?_,fun j hj=>by rw [List.getElem?_set_ne (by omega)];exact HZ.out j (by omega)⟩,?_,?_⟩
    ·exact own_drewN (own_set2 HOZ.out (-99,0) (by have:=HZL.out;omega)) _
    ·have hne : (Value.slice (some ⟨w.heap.size,0,none⟩) n n).ownBlock ≠ some g:=by simp [Value.ownBlock];omega
     exact own_drewN (own_set_other (j:=k * 2 + 1) (own_set_other (j:=k * 2) HOW2.out hne (.int .i64 (-99))) hne (.int .i64 0)) _
    ·exact grown_drewN (grown_set (j:=k * 2 + 1) (grown_set (j:=k * 2) HGR.out (.int .i64 (-99))) (.int .i64 0)) _
   case measure=>simp [intOf];omega
  ·clear hoz how hgr hzy hz
   go_wp2
   go_ret
   exact ⟨rfl,HGR.out⟩
end Go.Proofs.YtkmakliebhnhbaaGreat
namespace Go.Proofs.YtkmakliebhnhbaaGreat
open Go.RowKit
set_option maxHeartbeats 2000000 in
theorem empty_any (w : World) : Calls Tryz.prog 30 #[.agg #[.slice none 0 0,.slice none 0 0,.int .i64 0,.int .i64 0,.int .i64 0,.int .i64 0]] w fun e w'=>e = .returned (.bool true) ∧ Below w.heap.size w w':=by
 have HB:=hide ((Below.refl _ w).alloc (Nat.le_refl _) (.cells #[.slice none 0 0,.slice none 0 0,.int .i64 0,.int .i64 0,.int .i64 0,.int .i64 0] 69))
 go_enter Tryz.func30,Tryz.ntmps30
 go_wp2
 go_ret
 exact ⟨rfl,HB.out⟩
end Go.Proofs.YtkmakliebhnhbaaGreat
