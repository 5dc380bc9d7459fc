import Derived.Deep.QuietTactic
import Derived.BigQuiet
import Derived.Test.YtkmakliebhnhbaaGreatMk
import Derived.Test.YtkmakliebhnhbaaGreatSerRef
namespace Go.Proofs.YtkmakliebhnhbaaGreat
open Go.RowKit Go.Shelf
def FrB (W : World) (B : Nat) (f : Nat) (x h r : Int) : Prop:=W.heap[B]? = some (.cells #[.int .i64 (f : Int),.int .i64 x,.int .u64 h,.int .u64 r] 121 (0,0))
theorem FrB.lt {W : World} {B f : Nat} {x h r : Int} (q : FrB W B f x h r) : B < W.heap.size:=(Array.getElem?_eq_some_iff.1 q).1
theorem FrB.c0 {W : World} {B f : Nat} {x h r : Int} (q : FrB W B f x h r) : W.cell? ⟨B,0,none⟩ = some (.int .i64 (f : Int)):=by simp [World.cell?,show W.heap[B]? = _ from q]
theorem FrB.c1 {W : World} {B f : Nat} {x h r : Int} (q : FrB W B f x h r) : W.cell? ⟨B,1,none⟩ = some (.int .i64 x):=by simp [World.cell?,show W.heap[B]? = _ from q]
theorem FrB.c2 {W : World} {B f : Nat} {x h r : Int} (q : FrB W B f x h r) : W.cell? ⟨B,2,none⟩ = some (.int .u64 h):=by simp [World.cell?,show W.heap[B]? = _ from q]
theorem FrB.c3 {W : World} {B f : Nat} {x h r : Int} (q : FrB W B f x h r) : W.cell? ⟨B,3,none⟩ = some (.int .u64 r):=by simp [World.cell?,show W.heap[B]? = _ from q]
theorem FrB.fz {W : World} {B f : Nat} {x h r : Int} (q : FrB W B f x h r) (j : Nat) : W.frozen? ⟨B,j,none⟩ = false:=by simp [World.frozen?,show W.heap[B]? = _ from q]
theorem heap_set (W : World) (B j : Nat) (v : Value) (c : Array Value) (t : TypeId) (hq : W.heap[B]? = some (.cells c t (0,0))) : (W.setCell ⟨B,j,none⟩ v).heap[B]? = some (.cells (c.setIfInBounds j v) t (0,0)):=by
  unfold World.setCell
  simp only [Array.getElem?_modify]
  rw [if_pos trivial,hq]
  rfl
theorem FrB.s0 {W : World} {B f : Nat} {x h r : Int} (q : FrB W B f x h r) (f' : Nat) : FrB (W.setCell ⟨B,0,none⟩ (.int .i64 (f' : Int))) B f' x h r:=heap_set W B 0 _ _ _ q
theorem FrB.s1 {W : World} {B f : Nat} {x h r : Int} (q : FrB W B f x h r) (x' : Int) : FrB (W.setCell ⟨B,1,none⟩ (.int .i64 x')) B f x' h r:=heap_set W B 1 _ _ _ q
theorem FrB.s2 {W : World} {B f : Nat} {x h r : Int} (q : FrB W B f x h r) (h' : Int) : FrB (W.setCell ⟨B,2,none⟩ (.int .u64 h')) B f x h' r:=heap_set W B 2 _ _ _ q
theorem FrB.set {W : World} {B f : Nat} {x h r : Int} (q : FrB W B f x h r) (r' : Int) : FrB (W.setCell ⟨B,3,none⟩ (.int .u64 r')) B f x h r':=heap_set W B 3 _ _ _ q
theorem FrB.at {W : World} {B f : Nat} {x h r : Int} (q : FrB W B f x h r) (b j : Nat) (v : Value) (hne : B ≠ b) : FrB (W.setCell ⟨b,j,none⟩ v) B f x h r:=(Below.heap_setCell _ _ _ _ hne).trans q
theorem FrB.al {W : World} {B f : Nat} {x h r : Int} (q : FrB W B f x h r) (o : Obj) : FrB (W.alloc o) B f x h r:=(Below.heap_alloc _ _ _ q.lt).trans q
theorem u64_wrap (z : Int) : u64 (IntKind.u64.wrap z):=by simp only [IntKind.wrap_u64,u64];omega
theorem u64_div {g : Int} (hg : u64 g) (m : Int) (hm : 0 < m) : IntKind.u64.wrap (g.tdiv m) = g / m:=by
  unfold u64 at hg
  rw [Int.tdiv_eq_ediv_of_nonneg hg.1]
  have h1 : 0 ≤ g / m:=Int.ediv_nonneg hg.1 (by omega)
  have h2 : g / m ≤ g:=Int.ediv_le_self _ hg.1
  simp only [IntKind.wrap_u64]
  omega
set_option maxHeartbeats 1000000 in
theorem mix_calls (h r : Int) (w : World) (h0 : 0 ≤ r) (h1 : r ≤ 1000) : Calls Tryz.prog 130 #[.int .u64 h,.int .u64 r] w fun e w'=>e = .returned (.int .u64 (stepZ h r)) ∧ w' = w:=by
  go_enter Tryz.func130,Tryz.ntmps130
  go_wp2
  go_ret
  exact ⟨rfl,rfl⟩
set_option maxHeartbeats 1000000 in
theorem finish_calls (h : Int) (w : World) (hh : u64 h) : Calls Tryz.prog 131 #[.int .u64 h] w fun e w'=>e = .returned (.int .u64 (mixC (mixB (mixA h)))) ∧ w' = w:=by
  have H : Hid (mixC (mixB (mixA h)) = bits BinOp.xor IntKind.u64 (IntKind.u64.wrap (bits BinOp.xor IntKind.u64 h (h / 2147483648) * 11400714819323198485)) (IntKind.u64.wrap (bits BinOp.xor IntKind.u64 h (h / 2147483648) * 11400714819323198485) / 536870912)):=by
    unfold Hid mixC mixB mixA
    rw [u64_div hh 2147483648 (by omega),u64_div (u64_wrap _) 536870912 (by omega)]
  clear hh
  go_enter Tryz.func131,Tryz.ntmps131
  go_wp2
  go_ret
  exact ⟨by rw [H.out];rfl,rfl⟩
set_option maxHeartbeats 1000000 in
theorem number_calls (i : Ins) (B f : Nat) (x h r : Int) (w : World) (hb : FrB w B f x h r) : Calls Tryz.prog 120 #[.pointer (some ⟨B,0,none⟩),i.agg] w fun e w'=>e = .returned (.int .i64 (numZ i x)) ∧ Below w.heap.size w w':=by
  have c1:=hb.c1
  have hlt:=hb.lt
  obtain ⟨op,F,R,K,L⟩:=i
  have H : Hid (numZ ⟨op,F,R,K,L⟩ x = IntKind.i64.wrap (K + IntKind.i64.wrap (L * x))):=numZ_wrap _ _
  dsimp only [Ins.agg]
  go_enter Tryz.func120,Tryz.ntmps120
  go_wp2
  go_quiet (fail)
  go_wp2
  go_ret
  exact ⟨by rw [H.out];simp [wrap_i64'],(by repeat (first | exact Below.refl _ _ | refine Below.drew ?_ | refine below_drewN ?_ _ | refine Below.alloc ?_ (Nat.le_refl _) _))⟩
set_option maxHeartbeats 1000000 in
theorem sync_calls (B f : Nat) (x h r : Int) (w : World) (hb : FrB w B f x h r) (h0 : 0 ≤ r) (h1 : r ≤ 1000) : Calls Tryz.prog 123 #[.pointer (some ⟨B,0,none⟩)] w fun e w'=>(∃ v,e = .returned v) ∧ w' = w.setCell ⟨B,3,none⟩ (.int .u64 (r + 1)):=by
  have c3:=hb.c3
  have f3:=hb.fz 3
  go_enter Tryz.func123,Tryz.ntmps123
  go_wp2
  go_end0
  exact ⟨⟨_,rfl⟩,rfl⟩
set_option maxHeartbeats 1000000 in
theorem draw_calls (k : Int) (B f : Nat) (x h r : Int) (w : World) (hb : FrB w B f x h r) (h0 : 0 ≤ r) (h1 : r ≤ 1000) (k0 : 0 < k) (k1 : k < 9223372036854775808) : Calls Tryz.prog 121 #[.pointer (some ⟨B,0,none⟩),.int .i64 k] w fun e w'=>e = .returned (.int .i64 (drawnZ h r k)) ∧ ∃ n,w' = (w.drewN n).setCell ⟨B,3,none⟩ (.int .u64 (r + 1)):=by
  have c2:=hb.c2
  have c3:=hb.c3
  have f3:=hb.fz 3
  go_enter Tryz.func121,Tryz.ntmps121
  go_wp2
  go_quiet (exact (mix_calls h r _ h0 h1).mono (fun e w' he=>⟨he.1,_,he.2⟩))
  go_wp2_with (go_at_call 131;refine (finish_calls (stepZ h r) _ (u64_wrap _)).mono ?_;rintro e w' ⟨rfl,rfl⟩)
  go_ret
  exact ⟨rfl,nq,rfl⟩
set_option maxHeartbeats 1000000 in
theorem root_calls (seed x : Int) (w : World) : Calls Tryz.prog 49 #[.int .u64 seed,.int .i64 x] w fun e w'=>e = .returned (.agg #[.int .i64 0,.int .i64 x,.int .u64 seed,.int .u64 0]) ∧ Below w.heap.size w w':=by
  go_enter Tryz.func49,Tryz.ntmps49
  go_wp2
  refine bodyPost_ret (v:=.agg #[.int .i64 0,.int .i64 x,.int .u64 seed,.int .u64 0]) (by simp [results,Tryz.f49,go_sem]) rfl ⟨rfl,(Below.refl _ _).alloc (Nat.le_refl _) _⟩
set_option maxHeartbeats 1000000 in
theorem begin_calls (i : Ins) (m : Nat) (hm : i.f = m) (B f : Nat) (x h r : Int) (w : World) (hb : FrB w B f x h r) (h0 : 0 ≤ r) (h1 : r ≤ 1000) : Calls Tryz.prog 122 #[.pointer (some ⟨B,0,none⟩),i.agg] w fun e w'=>e = .returned (.agg #[.int .i64 (m : Int),.int .i64 (numZ i x),.int .u64 (stepZ h r),.int .u64 0]) ∧
    FrB w' B f x h (r + 1) ∧ Below B w w' ∧ ∀ b,b < w.heap.size → b ≠ B → w'.heap[b]? = w.heap[b]?:=by
  have c1:=hb.c1
  have c2:=hb.c2
  have c3:=hb.c3
  have f3:=hb.fz 3
  have hlt:=hb.lt
  obtain ⟨op,F,R,K,L⟩:=i
  dsimp only at hm
  subst hm
  have HB:=hide hb
  clear hb
  have HNU : Hid (∀ w1 : World,FrB w1 B f x h r → Calls Tryz.prog 120 #[.pointer (some ⟨B,0,none⟩),.agg #[.int .i64 op,.int .i64 (m : Int),.int .i64 R,.int .i64 K,.int .i64 L]] w1 fun e w'=>e = .returned (.int .i64 (numZ ⟨op,m,R,K,L⟩ x)) ∧ Below w1.heap.size w1 w' ∧ w'.cell? ⟨B,2,none⟩ = some (.int .u64 h) ∧ w'.cell? ⟨B,3,none⟩ = some (.int .u64 r) ∧ w'.frozen? ⟨B,3,none⟩ = false ∧ FrB w' B f x h r):=fun w1 q=>by
    refine (number_calls ⟨op,m,R,K,L⟩ B f x h r w1 q).mono (fun e w' ⟨he,hb⟩=>?_)
    have q' : FrB w' B f x h r:=(hb.block B q.lt).trans q
    exact ⟨he,hb,q'.c2,q'.c3,q'.fz 3,q'⟩
  obtain ⟨z,hz⟩ : ∃ z,numZ ⟨op,m,R,K,L⟩ x = z:=⟨_,rfl⟩
  rw [hz] at HNU ⊢
  clear hz
  dsimp only [Ins.agg]
  go_enter Tryz.func122,Tryz.ntmps122
  go_wp2
  obtain ⟨Bi,hBi⟩ : ∃ Bi,w.heap.size = Bi:=⟨_,rfl⟩
  obtain ⟨W0,hW0⟩ : ∃ W0,(w.alloc (.cells #[.int .i64 op,.int .i64 (m : Int),.int .i64 R,.int .i64 K,.int .i64 L] 45)).alloc (.cells #[.int .i64 0,.int .i64 0,.int .u64 0,.int .u64 0] 121) = W0:=⟨_,rfl⟩
  have hb0 : Below w.heap.size w W0:=by rw [← hW0];exact ((Below.refl _ w).alloc (Nat.le_refl _) _).alloc (by simp) _
  have bi : Box5 W0 Bi ⟨op,m,R,K,L⟩:=by
    rw [← hW0,← hBi];exact (Below.heap_alloc _ _ _ (by simp)).trans (Box5.new w ⟨op,m,R,K,L⟩)
  have br : FrB W0 (Bi + 1) 0 0 0 0:=by
    have:=World.alloc_heap_new (w.alloc (.cells #[.int .i64 op,.int .i64 (m : Int),.int .i64 R,.int .i64 K,.int .i64 L] 45)) (.cells #[.int .i64 0,.int .i64 0,.int .u64 0,.int .u64 0] 121)
    rw [World.size_alloc,hW0,hBi] at this
    exact this
  have bb : FrB W0 B f x h r:=(hb0.block B hlt).trans HB.out
  have hsz : W0.heap.size = Bi + 2:=by rw [← hW0,← hBi];simp
  rw [hW0,hBi]
  rw [hBi] at hlt
  have HB0:=hide hb0
  have HBi:=hide hBi
  clear hW0 hb0 c1 c2 c3 f3 hBi
  have d0:=bi.c0
  have d1:=bi.c1
  have d2:=bi.c2
  have d3:=bi.c3
  have d4:=bi.c4
  dsimp only at d0 d1 d2 d3 d4
  have e2:=bb.c2
  have e3:=bb.c3
  have ef:=bb.fz 3
  have r0:=br.c0
  have r1:=br.c1
  have r2:=br.c2
  have r3:=br.c3
  have rf0:=br.fz 0
  have rf1:=br.fz 1
  have rf2:=br.fz 2
  have rf3:=br.fz 3
  have n0:=World.new_ne W0 ⟨Bi,0,none⟩ d0
  have n1:=World.new_ne W0 ⟨Bi,1,none⟩ d1
  have n2:=World.new_ne W0 ⟨Bi,2,none⟩ d2
  have n3:=World.new_ne W0 ⟨Bi,3,none⟩ d3
  have n4:=World.new_ne W0 ⟨Bi,4,none⟩ d4
  have n5:=World.new_ne W0 ⟨B,2,none⟩ e2
  have n6:=World.new_ne W0 ⟨B,3,none⟩ e3
  have lB : B < W0.heap.size:=bb.lt
  have lI : Bi < W0.heap.size:=bi.lt
  have lR : Bi + 1 < W0.heap.size:=br.lt
  have HSZ:=hide hsz
  have HBB:=hide bb
  have HBR:=hide br
  have HFA : Hid (∀ o,FrB (W0.drew.alloc o) B f x h r):=fun o=>(Below.heap_alloc _ _ _ lB).trans bb
  clear hsz bb br bi
  go_region_held3 (fun w'=>w'.cell? ⟨Bi,0,none⟩ = some (.int .i64 op) ∧ w'.cell? ⟨Bi,1,none⟩ = some (.int .i64 (m : Int)) ∧ w'.cell? ⟨Bi,2,none⟩ = some (.int .i64 R) ∧ w'.cell? ⟨Bi,3,none⟩ = some (.int .i64 K) ∧ w'.cell? ⟨Bi,4,none⟩ = some (.int .i64 L) ∧ w'.cell? ⟨B,2,none⟩ = some (.int .u64 h) ∧ w'.cell? ⟨B,3,none⟩ = some (.int .u64 r)) (go_keep)
    ((first
      | (go_at_call 130;refine (mix_calls h r _ h0 h1).mono ?_;rintro e w3 ⟨rfl,rfl⟩)
      | (go_at_call 120;refine (HNU.out (W0.drew.alloc (.cells #[.int .i64 0,.int .i64 0,.int .u64 0,.int .u64 0] 121)) (HFA.out _)).mono ?_;rintro e w3 ⟨rfl,hb3,k2,k3,kf,kF⟩
         have hs3 : W0.heap.size ≤ w3.heap.size:=by have:=hb3.size;simp at this;omega
         have lB3 : B < w3.heap.size:=by omega
         have lI3 : Bi < w3.heap.size:=by omega
         have lR3 : Bi + 1 < w3.heap.size:=by omega
         have hkp : ∀ j,w3.cell? ⟨Bi,j,none⟩ = _:=fun j=>hb3.cell (p:=⟨Bi,j,none⟩) (by simp;omega)
         have hkr : ∀ j,w3.cell? ⟨Bi + 1,j,none⟩ = _:=fun j=>hb3.cell (p:=⟨Bi + 1,j,none⟩) (by simp;omega)
         have hkf : ∀ j,w3.frozen? ⟨Bi + 1,j,none⟩ = _:=fun j=>hb3.frozen (p:=⟨Bi + 1,j,none⟩) (by simp;omega)
         have HO : Hid (∀ b,b < W0.heap.size → w3.heap[b]? = W0.heap[b]?):=fun b hb=>(hb3.block b (by simp;omega)).trans (Below.heap_alloc _ _ _ hb)
         have HR3 : Hid (Below W0.heap.size W0 w3):=((Below.refl _ W0).drew.alloc (Nat.le_refl _) _).trans (hb3.mono (by simp))
         have l5 : W0.heap.size < w3.heap.size:=by have:=hb3.size;simp at this;omega
         have hk5 : ∀ j,w3.cell? ⟨W0.heap.size,j,none⟩ = _:=fun j=>hb3.cell (p:=⟨W0.heap.size,j,none⟩) (by simp)
         have hk5f : ∀ j,w3.frozen? ⟨W0.heap.size,j,none⟩ = _:=fun j=>hb3.frozen (p:=⟨W0.heap.size,j,none⟩) (by simp))
      | (go_at_call 120;refine (HNU.out W0.drew HBB.out).mono ?_;rintro e w3 ⟨rfl,hb3,k2,k3,kf,kF⟩
         have hs3 : W0.heap.size ≤ w3.heap.size:=by have:=hb3.size;simp at this;omega
         have lB3 : B < w3.heap.size:=by omega
         have lI3 : Bi < w3.heap.size:=by omega
         have lR3 : Bi + 1 < w3.heap.size:=by omega
         have hkp : ∀ j,w3.cell? ⟨Bi,j,none⟩ = _:=fun j=>hb3.cell (p:=⟨Bi,j,none⟩) (by simp;omega)
         have hkr : ∀ j,w3.cell? ⟨Bi + 1,j,none⟩ = _:=fun j=>hb3.cell (p:=⟨Bi + 1,j,none⟩) (by simp;omega)
         have hkf : ∀ j,w3.frozen? ⟨Bi + 1,j,none⟩ = _:=fun j=>hb3.frozen (p:=⟨Bi + 1,j,none⟩) (by simp;omega)
         have HO : Hid (∀ b,b < W0.heap.size → w3.heap[b]? = W0.heap[b]?):=fun b hb=>hb3.block b hb
         have HR3 : Hid (Below W0.heap.size W0 w3):=(Below.refl _ W0).drew.trans hb3)))
  all_goals go_wp2
  · have hwi:=HBi.out
    have hwb:=HB0.out
    have hsz:=HSZ.out
    have q5 : W0.heap.size ≠ B:=by omega
    have q6 : B ≠ W0.heap.size:=by omega
    have q7 : W0.heap.size ≠ Bi + 1:=by omega
    have q8 : Bi + 1 ≠ W0.heap.size:=by omega
    have q9 : B ≠ Bi + 1:=by omega
    have q10 : Bi + 1 ≠ B:=by omega
    have br3 : FrB w3 (Bi + 1) 0 0 0 0:=(HO.out (Bi + 1) lR).trans HBR.out
    have kB : Below B w w3:=((hwb.trans (HR3.out.mono (by omega))).mono (by omega))
    have kO : ∀ b,b < w.heap.size → w3.heap[b]? = w.heap[b]?:=fun b hb=>(HO.out b (by omega)).trans (hwb.block b hb)
    have hr:=(((((br3.at B 3 (.int .u64 (r + 1)) q10).s0 m).s1 z).s2 (stepZ h r)).set 0).al (.cells #[.int .i64 (m : Int),.int .i64 z,.int .u64 (stepZ h r),.int .u64 0] 121)
    have hc0:=hr.c0
    have hc1:=hr.c1
    have hc2:=hr.c2
    have hc3:=hr.c3
    refine bodyPost_ret (v:=.agg #[.int .i64 (m : Int),.int .i64 z,.int .u64 (stepZ h r),.int .u64 0]) (by simp only [results,Tryz.f122,go_sem];simp [go_sem,hc0,hc1,hc2,hc3];done) rfl ⟨rfl,(((((kF.set (r + 1)).at (Bi + 1) 0 (.int .i64 (m : Int)) q9).at (Bi + 1) 1 (.int .i64 z) q9).at (Bi + 1) 2 (.int .u64 (stepZ h r)) q9).at (Bi + 1) 3 (.int .u64 0) q9).al (.cells #[.int .i64 (m : Int),.int .i64 z,.int .u64 (stepZ h r),.int .u64 0] 121),((((((kB.setCell (p:=⟨B,3,none⟩) (Nat.le_refl _) _).setCell (p:=⟨Bi + 1,0,none⟩) (by simp;omega) _).setCell (p:=⟨Bi + 1,1,none⟩) (by simp;omega) _).setCell (p:=⟨Bi + 1,2,none⟩) (by simp;omega) _).setCell (p:=⟨Bi + 1,3,none⟩) (by simp;omega) _).alloc (by simp [World.setCell];omega) _),fun b hb hne=>?_⟩
    have p2 : b ≠ Bi + 1:=by omega
    have p5 : b ≠ W0.heap.size:=by omega
    exact (Below.heap_alloc _ _ _ (by simp [World.setCell];omega)).trans ((Below.heap_setCell _ _ _ _ p2).trans ((Below.heap_setCell _ _ _ _ p2).trans ((Below.heap_setCell _ _ _ _ p2).trans ((Below.heap_setCell _ _ _ _ p2).trans ((Below.heap_setCell _ _ _ _ hne).trans (kO b hb))))))
  · have hwi:=HBi.out
    have hwb:=HB0.out
    have hsz:=HSZ.out
    have q5 : W0.heap.size ≠ B:=by omega
    have q6 : B ≠ W0.heap.size:=by omega
    have q7 : W0.heap.size ≠ Bi + 1:=by omega
    have q8 : Bi + 1 ≠ W0.heap.size:=by omega
    have q9 : B ≠ Bi + 1:=by omega
    have q10 : Bi + 1 ≠ B:=by omega
    have br3 : FrB w3 (Bi + 1) 0 0 0 0:=(HO.out (Bi + 1) lR).trans HBR.out
    have kB : Below B w w3:=((hwb.trans (HR3.out.mono (by omega))).mono (by omega))
    have kO : ∀ b,b < w.heap.size → w3.heap[b]? = w.heap[b]?:=fun b hb=>(HO.out b (by omega)).trans (hwb.block b hb)
    have hr:=(((((br3.at B 3 (.int .u64 (r + 1)) q10).s0 m).s1 z).s2 (stepZ h r)).set 0).al (.cells #[.int .i64 (m : Int),.int .i64 z,.int .u64 (stepZ h r),.int .u64 0] 121)
    have hc0:=hr.c0
    have hc1:=hr.c1
    have hc2:=hr.c2
    have hc3:=hr.c3
    refine bodyPost_ret (v:=.agg #[.int .i64 (m : Int),.int .i64 z,.int .u64 (stepZ h r),.int .u64 0]) (by simp only [results,Tryz.f122,go_sem];simp [go_sem,hc0,hc1,hc2,hc3];done) rfl ⟨rfl,(((((kF.set (r + 1)).at (Bi + 1) 0 (.int .i64 (m : Int)) q9).at (Bi + 1) 1 (.int .i64 z) q9).at (Bi + 1) 2 (.int .u64 (stepZ h r)) q9).at (Bi + 1) 3 (.int .u64 0) q9).al (.cells #[.int .i64 (m : Int),.int .i64 z,.int .u64 (stepZ h r),.int .u64 0] 121),((((((kB.setCell (p:=⟨B,3,none⟩) (Nat.le_refl _) _).setCell (p:=⟨Bi + 1,0,none⟩) (by simp;omega) _).setCell (p:=⟨Bi + 1,1,none⟩) (by simp;omega) _).setCell (p:=⟨Bi + 1,2,none⟩) (by simp;omega) _).setCell (p:=⟨Bi + 1,3,none⟩) (by simp;omega) _).alloc (by simp [World.setCell];omega) _),fun b hb hne=>?_⟩
    have p2 : b ≠ Bi + 1:=by omega
    have p5 : b ≠ W0.heap.size:=by omega
    exact (Below.heap_alloc _ _ _ (by simp [World.setCell];omega)).trans ((Below.heap_setCell _ _ _ _ p2).trans ((Below.heap_setCell _ _ _ _ p2).trans ((Below.heap_setCell _ _ _ _ p2).trans ((Below.heap_setCell _ _ _ _ p2).trans ((Below.heap_setCell _ _ _ _ hne).trans (kO b hb))))))
  · have hwi:=HBi.out
    have hwb:=HB0.out
    have hsz:=HSZ.out
    have q5 : W0.heap.size ≠ B:=by omega
    have q6 : B ≠ W0.heap.size:=by omega
    have q7 : W0.heap.size ≠ Bi + 1:=by omega
    have q8 : Bi + 1 ≠ W0.heap.size:=by omega
    have q9 : B ≠ Bi + 1:=by omega
    have q10 : Bi + 1 ≠ B:=by omega
    have br3 : FrB w3 (Bi + 1) 0 0 0 0:=(HO.out (Bi + 1) lR).trans HBR.out
    have kB : Below B w w3:=((hwb.trans (HR3.out.mono (by omega))).mono (by omega))
    have kO : ∀ b,b < w.heap.size → w3.heap[b]? = w.heap[b]?:=fun b hb=>(HO.out b (by omega)).trans (hwb.block b hb)
    have hr:=(((((((((br3.at W0.heap.size 0 (.int .i64 (m : Int)) q8).at W0.heap.size 1 (.int .i64 z) q8).at W0.heap.size 2 (.int .u64 (stepZ h r)) q8).at W0.heap.size 3 (.int .u64 0) q8).at B 3 (.int .u64 (r + 1)) q10).s0 m).s1 z).s2 (stepZ h r)).set 0)
    have hc0:=hr.c0
    have hc1:=hr.c1
    have hc2:=hr.c2
    have hc3:=hr.c3
    refine bodyPost_ret (v:=.agg #[.int .i64 (m : Int),.int .i64 z,.int .u64 (stepZ h r),.int .u64 0]) (by simp only [results,Tryz.f122,go_sem];simp [go_sem,hc0,hc1,hc2,hc3];done) rfl ⟨rfl,(((((((((kF.at W0.heap.size 0 (.int .i64 (m : Int)) q6).at W0.heap.size 1 (.int .i64 z) q6).at W0.heap.size 2 (.int .u64 (stepZ h r)) q6).at W0.heap.size 3 (.int .u64 0) q6).set (r + 1)).at (Bi + 1) 0 (.int .i64 (m : Int)) q9).at (Bi + 1) 1 (.int .i64 z) q9).at (Bi + 1) 2 (.int .u64 (stepZ h r)) q9).at (Bi + 1) 3 (.int .u64 0) q9),(((((((((kB.setCell (p:=⟨W0.heap.size,0,none⟩) (by simp;omega) _).setCell (p:=⟨W0.heap.size,1,none⟩) (by simp;omega) _).setCell (p:=⟨W0.heap.size,2,none⟩) (by simp;omega) _).setCell (p:=⟨W0.heap.size,3,none⟩) (by simp;omega) _).setCell (p:=⟨B,3,none⟩) (Nat.le_refl _) _).setCell (p:=⟨Bi + 1,0,none⟩) (by simp;omega) _).setCell (p:=⟨Bi + 1,1,none⟩) (by simp;omega) _).setCell (p:=⟨Bi + 1,2,none⟩) (by simp;omega) _).setCell (p:=⟨Bi + 1,3,none⟩) (by simp;omega) _),fun b hb hne=>?_⟩
    have p2 : b ≠ Bi + 1:=by omega
    have p5 : b ≠ W0.heap.size:=by omega
    exact ((Below.heap_setCell _ _ _ _ p2).trans ((Below.heap_setCell _ _ _ _ p2).trans ((Below.heap_setCell _ _ _ _ p2).trans ((Below.heap_setCell _ _ _ _ p2).trans ((Below.heap_setCell _ _ _ _ hne).trans ((Below.heap_setCell _ _ _ _ p5).trans ((Below.heap_setCell _ _ _ _ p5).trans ((Below.heap_setCell _ _ _ _ p5).trans ((Below.heap_setCell _ _ _ _ p5).trans (kO b hb))))))))))
end Go.Proofs.YtkmakliebhnhbaaGreat
