import Derived.Test.YtkmakliebhnhbaaGreatMk
import Derived.Test.YtkmakliebhnhbaaGreatFrA
import Derived.Test.YtkmakliebhnhbaaGreatKeep
namespace Go.Proofs.YtkmakliebhnhbaaGreat
open Go.RowKit Go.Shelf
structure ValB (W : World) (base b : Nat) (v : Val) (lv : Value) : Prop where
 blk : W.heap[b]? = some (.cells #[.int .i64 v.n,.bool v.is,lv] 91 (0,0))
 own : W.ownsRow base 2 1 lv v.l.length (ints v.l)
 off : lv.ownBlock ≠ some b
theorem ValB.lt {W : World} {base b : Nat} {v : Val} {lv : Value} (h : ValB W base b v lv) : b < W.heap.size:=(Array.getElem?_eq_some_iff.1 h.blk).1
theorem ValB.c0 {W : World} {base b : Nat} {v : Val} {lv : Value} (h : ValB W base b v lv) : W.cell? ⟨b,0,none⟩ = some (.int .i64 v.n):=by simp [World.cell?,h.blk]
theorem ValB.c1 {W : World} {base b : Nat} {v : Val} {lv : Value} (h : ValB W base b v lv) : W.cell? ⟨b,1,none⟩ = some (.bool v.is):=by simp [World.cell?,h.blk]
theorem ValB.c2 {W : World} {base b : Nat} {v : Val} {lv : Value} (h : ValB W base b v lv) : W.cell? ⟨b,2,none⟩ = some lv:=by simp [World.cell?,h.blk]
theorem ValB.fz {W : World} {base b : Nat} {v : Val} {lv : Value} (h : ValB W base b v lv) (j : Nat) : W.frozen? ⟨b,j,none⟩ = false:=by simp [World.frozen?,h.blk]
structure GiveTo (W W' : World) (b : Nat) (lv lv' : Value) : Prop where
 frm : Frm (fun k=>k = b ∨ lv.ownBlock = some k) W W'
 loc : lv'.ownBlock = lv.ownBlock ∨ ∃ k,lv'.ownBlock = some k ∧ W.heap.size ≤ k
theorem valB_01 {W : World} {base b : Nat} {v : Val} {lv : Value} (h : ValB W base b v lv) (n : Int) : ValB ((W.setCell ⟨b,0,none⟩ (.int .i64 n)).setCell ⟨b,1,none⟩ (.bool true)) base b ⟨n,true,v.l⟩ lv:=by
 refine ⟨heap_set _ b 1 _ _ _ (heap_set W b 0 _ _ _ h.blk),own_turn h.own (fun k hk _=>?_),h.off⟩
 have hne : k ≠ b:=fun e=>h.off (by rw [hk,e])
 rw [Below.heap_setCell _ _ _ _ hne,Below.heap_setCell _ _ _ _ hne]
theorem valB_1 {W : World} {base b : Nat} {v : Val} {lv : Value} (h : ValB W base b v lv) : ValB (W.setCell ⟨b,1,none⟩ (.bool true)) base b ⟨v.n,true,v.l⟩ lv:=by
 refine ⟨heap_set _ b 1 _ _ _ h.blk,own_turn h.own (fun k hk _=>?_),h.off⟩
 have hne : k ≠ b:=fun e=>h.off (by rw [hk,e])
 rw [Below.heap_setCell _ _ _ _ hne]
theorem giveTo_set {W : World} {b : Nat} {lv : Value} : GiveTo W ((W.setCell ⟨b,1,none⟩ (.bool true))) b lv lv :=
 ⟨⟨rfl,rfl,rfl,by simp [World.setCell],fun k hk hn=>Below.heap_setCell _ _ _ _ (fun e=>hn (.inl e))⟩,.inl rfl⟩
theorem giveTo_01 {W : World} {b : Nat} {lv : Value} (u : Value) : GiveTo W ((W.setCell ⟨b,0,none⟩ u).setCell ⟨b,1,none⟩ (.bool true)) b lv lv :=
 ⟨⟨rfl,rfl,rfl,by simp [World.setCell],fun k hk hn=>(Below.heap_setCell _ _ _ _ (fun e=>hn (.inl e))).trans (Below.heap_setCell _ _ _ _ (fun e=>hn (.inl e)))⟩,.inl rfl⟩
theorem Tryz.infoI64 : (Tryz.prog.info? 2).map (fun i=>(i.zero,i.size,i.bytes)) = some (some (.int .i64 0),1,8):=by kernel_rfl
set_option maxHeartbeats 4000000 in
theorem give_calls (kind n : Int) (base b : Nat) (v : Val) (lv : Value) (w : World) (hk0 : 1 ≤ kind) (hk1 : kind ≤ 5) (hb : ValB w base b v lv) (hlen : v.l.length ≤ 1000000000) (hbase : base ≤ w.heap.size) :
  Calls Tryz.prog 72 #[.pointer (some ⟨b,0,none⟩),.int .i64 kind,.int .i64 n] w fun e w'=>(∃ x,e = .returned x) ∧ ∃ lv',ValB w' base b (giveZ kind n v) lv' ∧ GiveTo w w' b lv lv':=by
 obtain ⟨vn,vi,vl⟩:=v
 have c0:=hb.c0
 have c1:=hb.c1
 have c2:=hb.c2
 have f0:=hb.fz 0
 have f1:=hb.fz 1
 have f2:=hb.fz 2
 dsimp only at c0 c1 c2 hlen
 have HB:=hide hb
 clear hb
 obtain rfl | rfl | rfl | rfl | rfl : kind = 1 ∨ kind = 2 ∨ kind = 3 ∨ kind = 4 ∨ kind = 5:=by omega
 ·go_enter Tryz.func72,Tryz.ntmps72
  go_wp2
  go_end0
  exact ⟨⟨_,rfl⟩,lv,valB_01 HB.out _,giveTo_01 _⟩
 ·cases vi with
  | false =>
   go_enter Tryz.func72,Tryz.ntmps72
   go_wp2
   go_end0
   exact ⟨⟨_,rfl⟩,lv,valB_01 HB.out _,giveTo_01 _⟩
  | true =>
   by_cases hlt : vn < n
   ·have hlt' : decide (vn < n) = true:=by simpa using hlt
    have HG : Hid (giveZ 2 n ⟨vn,true,vl⟩ = ⟨n,true,vl⟩):=by unfold Hid giveZ;simp [hlt]
    go_enter Tryz.func72,Tryz.ntmps72
    go_wp2
    go_end0
    rw [HG.out]
    exact ⟨⟨_,rfl⟩,lv,valB_01 HB.out _,giveTo_01 _⟩
   ·have hlt' : decide (vn < n) = false:=by simpa using hlt
    have HG : Hid (giveZ 2 n ⟨vn,true,vl⟩ = ⟨vn,true,vl⟩):=by unfold Hid giveZ;simp [hlt]
    go_enter Tryz.func72,Tryz.ntmps72
    go_wp2
    go_end0
    rw [HG.out]
    exact ⟨⟨_,rfl⟩,lv,valB_1 HB.out,giveTo_set⟩
 ·cases vi with
  | false =>
   go_enter Tryz.func72,Tryz.ntmps72
   go_wp2
   go_end0
   exact ⟨⟨_,rfl⟩,lv,valB_01 HB.out _,giveTo_01 _⟩
  | true =>
   by_cases hlt : n < vn
   ·have hlt' : decide (n < vn) = true:=by simpa using hlt
    have HG : Hid (giveZ 3 n ⟨vn,true,vl⟩ = ⟨n,true,vl⟩):=by unfold Hid giveZ;simp [hlt]
    go_enter Tryz.func72,Tryz.ntmps72
    go_wp2
    go_end0
    rw [HG.out]
    exact ⟨⟨_,rfl⟩,lv,valB_01 HB.out _,giveTo_01 _⟩
   ·have hlt' : decide (n < vn) = false:=by simpa using hlt
    have HG : Hid (giveZ 3 n ⟨vn,true,vl⟩ = ⟨vn,true,vl⟩):=by unfold Hid giveZ;simp [hlt]
    go_enter Tryz.func72,Tryz.ntmps72
    go_wp2
    go_end0
    rw [HG.out]
    exact ⟨⟨_,rfl⟩,lv,valB_1 HB.out,giveTo_set⟩
 ·obtain ⟨la,lc,rfl⟩:=own_form HB.out.own
  dsimp only at c2 HB
  obtain ⟨i0,hi,hz0,hz1,hz2⟩:=info_parts Tryz.infoI64
  have hlt:=HB.out.lt
  obtain ⟨ℓ,hℓ⟩ : ∃ ℓ,vl.length = ℓ:=⟨_,rfl⟩
  rw [hℓ] at c2 HB hlen ⊢
  have HLL:=hide hℓ
  have HOW:=hide HB.out.own
  dsimp only at HOW
  rw [hℓ] at HOW
  clear hℓ
  go_enter Tryz.func72,Tryz.ntmps72
  go_wp2_with (at_builtin;refine wpList_app2 _ rfl _ _ 87 rfl base 2 i0 _ 1 8 Tryz.underlying87 hi hz0 hz1 hz2 rfl (by decide) _ _ _ rfl (HOW.out.alloc _) (.slice (some ⟨w.heap.size,0,none⟩) 1 1) 1 [.int .i64 n] rfl (cells1 w _ _ _ rfl) (by simp [Value.oneCell']) ?h63 ?hbytes ?hbase ?_)
  case h63=>unfold maxLen;omega
  case hbytes=>omega
  case hbase=>simp;omega
  intro a' cap' w2 ho hg _ hlie _
  have k2 : ∀ k,k < w.heap.size → (Value.slice la ℓ lc).ownBlock ≠ some k → w2.heap[k]? = w.heap[k]?:=fun k hk hne=>(hg.block k (by simp;omega) (fun e=>hne e.symm)).trans (Below.heap_alloc _ _ _ hk)
  have hb2 : w2.heap[b]? = _:=(k2 b hlt HB.out.off).trans HB.out.blk
  have s0 : w2.cell? ⟨b,1,none⟩ = some (.bool vi):=by simp [World.cell?,hb2]
  have s1 : w2.cell? ⟨b,2,none⟩ = some (.slice la ℓ lc):=by simp [World.cell?,hb2]
  have t1 : w2.frozen? ⟨b,1,none⟩ = false:=by simp [World.frozen?,hb2]
  have t2 : w2.frozen? ⟨b,2,none⟩ = false:=by simp [World.frozen?,hb2]
  have HO:=hide ho
  have HG:=hide hg
  have HK:=hide k2
  have HB2:=hide hb2
  have HLI:=hide hlie
  clear ho hg k2 hb2 hlie hi hz0 hz1 hz2
  go_wp2
  go_end0
  have hloc : (Value.slice a' (ℓ + 1) cap').ownBlock = (Value.slice la ℓ lc).ownBlock ∨ ∃ k,(Value.slice a' (ℓ + 1) cap').ownBlock = some k ∧ w.heap.size ≤ k:=by
   rcases HLI.out with e | e
   ·exact .inl e
   ·exact .inr ⟨_,e,by simp⟩
  have hoff : (Value.slice a' (ℓ + 1) cap').ownBlock ≠ some b:=by
   rcases hloc with e | ⟨k,e,hk⟩
   ·rw [e];exact HB.out.off
   ·rw [e];intro h;injection h with h;omega
  refine ⟨⟨_,rfl⟩,_,⟨heap_set _ b 1 _ _ _ (heap_set w2 b 2 _ _ _ HB2.out),?_,hoff⟩,⟨⟨HG.out.os,HG.out.tape,HG.out.output,?_,fun k hk hn=>?_⟩,hloc⟩⟩
  ·have:=HO.out
   refine own_turn (w:=w2) (by simpa [giveZ,ints,HLL.out] using this) (fun k hk _=>?_)
   have hne : k ≠ b:=fun e=>hoff (by rw [hk,e])
   rw [Below.heap_setCell _ _ _ _ hne,Below.heap_setCell _ _ _ _ hne]
  ·have:=HG.out.size;simp [World.setCell] at this ⊢;omega
  ·have hne : k ≠ b:=fun e=>hn (.inl e)
   rw [Below.heap_setCell _ _ _ _ hne,Below.heap_setCell _ _ _ _ hne]
   exact HK.out k hk (fun e=>hn (.inr e))
 ·go_enter Tryz.func72,Tryz.ntmps72
  go_wp2
  go_end0
  exact ⟨⟨_,rfl⟩,lv,valB_01 HB.out _,giveTo_01 _⟩
end Go.Proofs.YtkmakliebhnhbaaGreat
