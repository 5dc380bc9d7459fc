import Derived.Test.YtkmakliebhnhbaaGreatCrX
namespace Go.Proofs.YtkmakliebhnhbaaGreat
open Go.RowKit Go.Shelf
attribute [local go_sem] Oper.semAt_some
theorem Tryz.infoWk : (Tryz.prog.info? 183).map (fun i=>(i.zero,i.size,i.bytes)) = some (some (.agg #[.int .i64 0,.pointer none,.slice none 0 0]),3,40):=by kernel_rfl
structure Told (fs : List (List Ins)) (reds : List Int) (nr n₀ l B1 cb workers N : Nat) (script : List (Int × Int)) (seed x : Int) (J : Nat → World → Prop) : Prop where
 abide : ∀ k W W',J k W → AB n₀ B1 W W' → J k W'
 yield : ∀ mm k W,J k W → k ≤ N → YieldAt FW mm Tryz.prog l #[rsV (turnM workers script k).1 (rsAt fs workers script seed x k)] W fun e W'=>e = .returned (.bool true) ∧ J (k + 1) W' ∧ KI n₀ l (fun _=>False) W W'
 loop : ∀ k W,J k W → ∃ r,W.heap[l]? = some (.loop r)
 lean : ∀ k,k ≤ N → Lean1 fs nr (stAt fs workers script seed x k) N
 ends : Ends fs workers script seed x N
 N50 : N ≤ 50000
 gifts : ∀ f,gift fs f ≤ 100000000
 l10 : ∀ q ∈ fs,q.length ≤ 10
 w0 : 0 < workers
 w8 : workers ≤ 8
 sc : ∀ p ∈ script,i64 p.1 ∧ i64 p.2
 sl : script.length ≤ 4000
 nB : n₀ ≤ B1
 lB : l < B1
structure Bxs (n₀ l cb workers wb h5 h6 h4 hs hw : Nat) (sv : Value) (W V : World) : Prop where
 b5 : Boxed V h5 179 (.func (.yield l) #[] #[])
 b6 : Boxed V h6 180 (.slice (some ⟨wb,0,none⟩) workers workers)
 b4 : Boxed V h4 94 (.pointer (some ⟨cb,0,none⟩))
 bs : Boxed V hs 27 sv
 bw : Boxed V hw 3 (.int .i64 (workers : Int))
 bel : Below n₀ W V
theorem box_ok {v : Value} {t : TypeId} (h : t = 179 ∨ t = 180 ∨ t = 94 ∨ t = 27 ∨ t = 3) : notEO (.cells #[v] t (0,0)) ∧ ¬ isMut (.cells #[v] t (0,0)):=by
 rcases h with h | h | h | h | h <;> subst h <;> refine ⟨⟨by decide,by decide⟩,fun hm=>?_⟩ <;> (unfold isMut at hm;simp only at hm;rcases hm with hm | hm | hm <;> exact absurd hm (by decide))
theorem Bxs.turn {n₀ l cb workers wb h5 h6 h4 hs hw : Nat} {sv : Value} {W V V' : World} (h : Bxs n₀ l cb workers wb h5 h6 h4 hs hw sv W V) (hb : Below n₀ V V') (hk : ∀ (b : Nat) (o : Obj),V.heap[b]? = some o → o.isCells = true → notEO o → ¬ isMut o → V'.heap[b]? = some o) : Bxs n₀ l cb workers wb h5 h6 h4 hs hw sv W V' :=
 ⟨hk _ _ h.b5 rfl (box_ok (.inl rfl)).1 (box_ok (.inl rfl)).2,hk _ _ h.b6 rfl (box_ok (.inr (.inl rfl))).1 (box_ok (.inr (.inl rfl))).2,hk _ _ h.b4 rfl (box_ok (.inr (.inr (.inl rfl)))).1 (box_ok (.inr (.inr (.inl rfl)))).2,hk _ _ h.bs rfl (box_ok (.inr (.inr (.inr (.inl rfl))))).1 (box_ok (.inr (.inr (.inr (.inl rfl))))).2,hk _ _ h.bw rfl (box_ok (.inr (.inr (.inr (.inr rfl))))).1 (box_ok (.inr (.inr (.inr (.inr rfl))))).2,h.bel.trans hb⟩
structure Stp (fs : List (List Ins)) (n₀ workers N wb : Nat) (script : List (Int × Int)) (seed x : Int) (J : Nat → World → Prop) (Bx : World → Prop) (k : Nat) (V : World) : Prop where
 kN : k ≤ N
 crew : ∃ adr stk,Crew V n₀ wb workers (stAt fs workers script seed x k) adr stk
 jj : J k V
 bx : Bx V
set_option maxRecDepth 100000 in
set_option maxHeartbeats 8000000 in
theorem steps1 {fs : List (List Ins)} {reds : List Int} {nr n₀ l B1 cb rb workers N b1 b2 b3 b4 : Nat} {script : List (Int × Int)} {seed x : Int} {J : Nat → World → Prop} (L : Told fs reds nr n₀ l B1 cb workers N script seed x J) (sv : Value) (W : World) (hB1 : W.heap.size = B1)
  (x1 : W.cell? ⟨b1,0,none⟩ = some (.int .i64 (workers : Int))) (x2 : W.cell? ⟨b2,0,none⟩ = some (.pointer (some ⟨rb,0,none⟩))) (x3 : W.cell? ⟨b3,0,none⟩ = some sv) (x4 : Boxed W b4 94 (.pointer (some ⟨cb,0,none⟩)))
  (hrt : TkAt W (fun _=>rb) rb ⟨0,x,seed,0,fs[0]?.getD [],0,0,false,0,.root⟩) (hrb : n₀ ≤ rb) (hC : CodeP (Lt n₀) W cb fs reds) (hsv : RdL (Lt n₀) W 2 pickV sv script) (hJ : J 0 W) :
  Calls Tryz.prog 77 #[.func (.yield l) #[] #[],.pointer (some ⟨b1,0,none⟩),.pointer (some ⟨b2,0,none⟩),.pointer (some ⟨b3,0,none⟩),.pointer (some ⟨b4,0,none⟩)] W fun e W'=>(∃ v,e = .returned v) ∧ J (N + 1) W':=by
 subst hB1
 obtain ⟨m,hm1⟩ : ∃ m : Nat,9 ≤ m:=⟨9,Nat.le_refl _⟩
 refine (callsIn_wide (n:=m)).1 ?_
 have hmix : Tryz.prog.follows .mixedOrders = true:=by kernel_rfl
 have hw0:=L.w0
 have hw8:=L.w8
 have hnB:=L.nB
 have hlB:=L.lB
 obtain ⟨sa,scap,hsf,hsc1,hsc2⟩:=hsv.form
 obtain ⟨i0,hi,hz0,hz1,hz2⟩:=info_parts Tryz.infoWk
 have l1:=block_lt_of_cell x1
 have l2:=block_lt_of_cell x2
 have l3:=block_lt_of_cell x3
 have l4:=x4.lt
 simp only at l1 l2 l3
 have HRT:=hide hrt
 have HC:=hide hC
 have HSV:=hide hsv
 have HJ:=hide hJ
 have HX4:=hide x4
 rw [hsf] at x3
 have HSF:=hide hsf
 clear hrt hC hsv hJ x4 hsf
 refine callsIn_of_wp_marks Tryz.func77 rfl trivial ?_ rfl
 simp only [Tryz.ntmps77,List.size_toArray,List.length_cons,List.length_nil,Nat.reduceAdd,Nat.reduceSub,Array.replicate_succ,Array.replicate_zero,List.push_toArray,List.append_toArray,List.nil_append,List.cons_append]
 refine wpIn_wide.2 ?_
 go_wp2_with (at_make;go_loud (refine wpList_make_full _ rfl _ _ 180 rfl W.heap.size 183 i0 (.agg #[.int .i64 0,.pointer none,.slice none 0 0]) 3 Tryz.underlying180 hi hz0 hz1 _ _ _ _ workers rfl rfl rfl rfl (by rw [hz2];omega) (by unfold maxLen;omega) (by simp) ?_))
 intro w1 hown hgrow
 have hbw1 : Below W.heap.size W w1:=((Below.refl _ W).alloc (Nat.le_refl _) _).grown hgrow (by simp) (by simp)
 have hs1 : W.heap.size + 1 ≤ w1.heap.size:=by have:=hgrow.size;simpa using this
 have by1 : Boxed w1 W.heap.size 179 (.func (.yield l) #[] #[]):=(hgrow.block _ (by simp) (by simp)).trans (Boxed.new W _ _)
 have hr0:=Row0.made hown
 clear hown hgrow hi hz0 hz1 hz2
 obtain ⟨wb,hwb⟩ : ∃ wb,W.heap.size + 1 = wb:=⟨_,rfl⟩
 rw [hwb] at hr0 ⊢
 have hwbl : wb < w1.heap.size:=by
  obtain ⟨cs,q,_⟩:=hr0
  exact (Array.getElem?_eq_some_iff.1 q).1
 obtain ⟨W6,hW6⟩ : ∃ W6,w1.alloc (.cells #[.slice (some ⟨wb,0,none⟩) workers workers] 180) = W6:=⟨_,rfl⟩
 obtain ⟨b6,hb6⟩ : ∃ b6,w1.heap.size = b6:=⟨_,rfl⟩
 have hb16 : Below w1.heap.size w1 W6:=by rw [← hW6];exact (Below.refl _ w1).alloc (Nat.le_refl _) _
 have hr6 : Row0 W6 wb workers 0:=by
  obtain ⟨cs,q1,q2⟩:=hr0
  exact ⟨cs,(hb16.block wb hwbl).trans q1,q2⟩
 have by6 : Boxed W6 b6 180 (.slice (some ⟨wb,0,none⟩) workers workers):=by rw [← hW6,← hb6];exact Boxed.new w1 _ _
 have hbW6 : Below W.heap.size W W6:=hbw1.trans (hb16.mono hbw1.size)
 have hc6:=by6.cell
 have hwi : (0 : Int) < workers:=by omega
 have HR6:=hide hr6
 have HBW6:=hide hbW6
 have HB16:=hide hb16
 have hs6 : W6.heap.size = b6 + 1:=by rw [← hW6,← hb6];simp
 have HW6:=hide hW6
 clear hr0 hr6 hbW6 hb16
 go_wp2
 clear hW6
 go_loopw [15] (fun i wr=>∃ k : Nat,k ≤ workers ∧ i = .int .i64 k ∧ Row0 wr wb workers k ∧ (∀ b,b ≠ wb → wr.heap[b]? = W6.heap[b]?) ∧ wr.heap.size = W6.heap.size ∧ Below W.heap.size W6 wr) (fun i _=>workers - (intOf i).toNat)
 case atStart=>exact ⟨0,Nat.zero_le _,rfl,HR6.out,fun _ _=>rfl,rfl,Below.refl _ _⟩
 case round =>
  obtain ⟨k,hk,rfl,hrk,hot,hsz,hbk⟩:=hrel
  have hne6 : b6 ≠ wb:=by omega
  have d6:=(World.cell?_of_block (w:=W6) (a:=⟨b6,0,none⟩) (hot b6 hne6)).trans hc6
  obtain ⟨cs,q1,q2⟩:=hrk
  by_cases hlt : k < workers
  ·have hlti : (k : Int) < workers:=by omega
   obtain ⟨z0,z1,z2⟩:=q2 k hlt
   have y0 : wr.cell? ⟨wb,k * 3,none⟩ = some (.int .i64 (if k < k then (k : Int) else 0)):=by rw [Nat.mul_comm];simp only [World.cell?,q1];exact z0
   have f0 : wr.frozen? ⟨wb,k * 3,none⟩ = false:=by simp [World.frozen?,q1]
   have HRK : Hid (Row0 wr wb workers k):=⟨cs,q1,q2⟩
   have HOT:=hide hot
   have HBK:=hide hbk
   clear q1 q2 z0 z1 z2 hot hbk
   go_wp2
   go_roundw
   case rel=>exact ⟨k + 1,by omega,by simp,by rw [Nat.mul_comm k 3];exact HRK.out.next hlt,fun b hb=>(Below.heap_setCell _ _ _ _ hb).trans (HOT.out b hb),by simp [World.setCell,hsz],HBK.out.setCell (p:=⟨wb,k * 3,none⟩) (by simp;omega) _⟩
   case measure=>simp [intOf];omega
  ·obtain rfl : workers = k:=by omega
   have kb : ∀ b,b < W.heap.size → wr.heap[b]? = W.heap[b]?:=fun b hb=>(hot b (by omega)).trans (HBW6.out.block b hb)
   have e1:=(World.cell?_of_block (w:=W) (a:=⟨b1,0,none⟩) (kb b1 l1)).trans x1
   have e2:=(World.cell?_of_block (w:=W) (a:=⟨b2,0,none⟩) (kb b2 l2)).trans x2
   have e3:=(World.cell?_of_block (w:=W) (a:=⟨b3,0,none⟩) (kb b3 l3)).trans x3
   obtain ⟨z0,z1,z2⟩:=q2 0 hw0
   have y1 : wr.cell? ⟨wb,1,none⟩ = some (.pointer none):=by simp only [World.cell?,q1];exact z1
   have f1 : wr.frozen? ⟨wb,1,none⟩ = false:=by simp [World.frozen?,q1]
   have n1 : b1 ≠ wb:=by omega
   have n3 : b3 ≠ wb:=by omega
   have HRK : Hid (Row0 wr wb workers workers):=⟨cs,q1,q2⟩
   have HOT:=hide hot
   have HBK:=hide hbk
   have HKB:=hide kb
   clear q1 q2 z0 z1 z2 hot hbk kb x1 x2 x3
   go_wp2_with (go_at_call 78;refine (turns_calls _ _ sa script.length scap rfl _).mono ?_;rintro e w' ⟨rfl,rfl⟩)
   refine (wpIn_wide (n:=m)).1 ?_
   obtain ⟨W8,hW8⟩ : ∃ W8,((wr.setCell ⟨wb,1,none⟩ (.pointer (some ⟨rb,0,none⟩))).alloc (.cells #[.int .i64 (workers : Int)] 3)).alloc (.cells #[.slice sa script.length scap] 27) = W8:=⟨_,rfl⟩
   have hs8 : W8.heap.size = b6 + 3:=by rw [← hW8];simp [World.setCell,hsz,hs6]
   have hwl : wr.heap.size = b6 + 1:=by omega
   have hb8 : Below wr.heap.size (wr.setCell ⟨wb,1,none⟩ (.pointer (some ⟨rb,0,none⟩))) W8:=by rw [← hW8];exact ((Below.refl _ _).alloc (by simp [World.setCell]) _).alloc (by simp [World.setCell]) _
   have hk8 : ∀ b,b < b6 + 1 → b ≠ wb → W8.heap[b]? = W6.heap[b]?:=fun b hb hne=>(hb8.block b (by omega)).trans ((Below.heap_setCell _ _ _ _ hne).trans (HOT.out b hne))
   have hB8 : Below W.heap.size W W8:=(HBW6.out.trans HBK.out).trans (((Below.refl _ wr).setCell (p:=⟨wb,1,none⟩) (by simp;omega) _).trans (hb8.mono (by omega)))
   have hrbl : rb < W.heap.size:=by obtain ⟨av,q,_⟩:=HRT.out;exact q.lt
   have hrt8 : TkAt wr (fun _=>rb) rb ⟨0,x,seed,0,fs[0]?.getD [],0,0,false,0,.root⟩:=HRT.out.keep (HKB.out rb hrbl) (fun b o hb ho=>(HKB.out b (Array.getElem?_eq_some_iff.1 hb).1).trans hb)
   have hcr8 : Crew W8 n₀ wb workers (start fs workers seed x) (fun _=>rb) (fun _=>.slice none 0 0):=(crew_start HRK.out hw0 (by omega) hrb hrt8 (by omega)).below (hb8.mono (by simp [World.setCell]))
   have y5 : Boxed W8 W.heap.size 179 (.func (.yield l) #[] #[]):=(hk8 _ (by omega) (by omega)).trans ((HB16.out.block _ (by omega)).trans by1)
   have y6 : Boxed W8 b6 180 (.slice (some ⟨wb,0,none⟩) workers workers):=(hk8 _ (by omega) (by omega)).trans by6
   have y4 : Boxed W8 b4 94 (.pointer (some ⟨cb,0,none⟩)):=(hB8.block b4 l4).trans HX4.out
   have ysw : Boxed W8 (b6 + 1 + 1) 27 (.slice sa script.length scap) ∧ Boxed W8 (b6 + 1) 3 (.int .i64 (workers : Int)):=by
    have hz : (wr.setCell ⟨wb,1,none⟩ (.pointer (some ⟨rb,0,none⟩))).heap.size = b6 + 1:=by simp [World.setCell,hwl]
    rw [← hW8]
    refine ⟨?_,?_⟩
    ·have:=Boxed.new ((wr.setCell ⟨wb,1,none⟩ (.pointer (some ⟨rb,0,none⟩))).alloc (.cells #[.int .i64 (workers : Int)] 3)) 27 (.slice sa script.length scap)
     rw [World.size_alloc,hz] at this
     exact this
    ·have:=Boxed.new (wr.setCell ⟨wb,1,none⟩ (.pointer (some ⟨rb,0,none⟩))) 3 (.int .i64 (workers : Int))
     rw [hz] at this
     exact this.alloc _
   rw [hW8]
   clear hW8
   have hSt0 : Stp fs n₀ workers N wb script seed x J (Bxs n₀ l cb workers wb W.heap.size b6 b4 (b6 + 1 + 1) (b6 + 1) (.slice sa script.length scap) W) 0 W8:=⟨Nat.zero_le _,⟨_,_,hcr8⟩,L.abide _ _ _ HJ.out (AB.of_below hB8),⟨y5,y6,y4,ysw.1,ysw.2,hB8.mono hnB⟩⟩
   have KEEP : ∀ k V V',Stp fs n₀ workers N wb script seed x J (Bxs n₀ l cb workers wb W.heap.size b6 b4 (b6 + 1 + 1) (b6 + 1) (.slice sa script.length scap) W) k V → Below n₀ V V' → J k V' → (∀ (b : Nat) (o : Obj),V.heap[b]? = some o → o.isCells = true → notEO o → V'.heap[b]? = some o) → Stp fs n₀ workers N wb script seed x J (Bxs n₀ l cb workers wb W.heap.size b6 b4 (b6 + 1 + 1) (b6 + 1) (.slice sa script.length scap) W) k V':=fun k V V' h hb hj hk=>by
    obtain ⟨adr,stk,hc⟩:=h.crew
    exact ⟨h.kN,⟨adr,stk,hc.keep (fun b o hb ho=>hk b o hb (mut_cells ho) (mut_notEO ho))⟩,hj,h.bx.turn hb (fun b o hb hc hn _=>hk b o hb hc hn)⟩
   have ALC : ∀ k V V',Stp fs n₀ workers N wb script seed x J (Bxs n₀ l cb workers wb W.heap.size b6 b4 (b6 + 1 + 1) (b6 + 1) (.slice sa script.length scap) W) k V → Below V.heap.size V V' → Stp fs n₀ workers N wb script seed x J (Bxs n₀ l cb workers wb W.heap.size b6 b4 (b6 + 1 + 1) (b6 + 1) (.slice sa script.length scap) W) k V':=fun k V V' h hb=>KEEP k V V' h (hb.mono (by have:=h.bx.b5.lt;omega)) (L.abide _ _ _ h.jj (AB.of_below hb)) (fun b o hx _ _=>(hb.block b (Array.getElem?_eq_some_iff.1 hx).1).trans hx)
   refine range_keep (α:=Nat × Nat) rfl (by omega) (gf:=101) (lb:=#[.pointer (some ⟨b6 + 1 + 1,0,none⟩),.pointer (some ⟨b6 + 1,0,none⟩)]) rfl trivial (enters_of Tryz.func101 (by kernel_rfl) rfl)
    (encs:=fun y=>#[.int .i64 (y.1 : Int),.int .i64 (y.2 : Int)]) (fun _=>rfl) (fun _ _=>True) (fun _ _=>trivial) (fun _ _ _=>trivial)
    (fun pre V=>Stp fs n₀ workers N wb script seed x J (Bxs n₀ l cb workers wb W.heap.size b6 b4 (b6 + 1 + 1) (b6 + 1) (.slice sa script.length scap) W) pre.length V) (fun c _ V=>c = .ret ∧ J (N + 1) V)
    ?hIl ?hIxl
    (fun o o'=>ALC 0 W8 _ hSt0 (((Below.refl _ W8).alloc (Nat.le_refl _) o).alloc (by simp) o'))
    (S:=fun _=>False) (ok:=fun pre y=>y = turnM workers script pre.length)
    ?seq
    (fun y a' _=>a' = { tmps:=#[.func (.yield l) #[] #[],.pointer (some ⟨b1,0,none⟩),.pointer (some ⟨b2,0,none⟩),.pointer (some ⟨b3,0,none⟩),.pointer (some ⟨b4,0,none⟩),.pointer (some ⟨W.heap.size,0,none⟩),.pointer (some ⟨b6,0,none⟩),u7,.int .i64 (y.1 : Int),.int .i64 (y.2 : Int),undef,.int .i64 (workers : Int),.slice (some ⟨wb,0,none⟩) workers workers,.slice (some ⟨wb,0,none⟩) workers workers,.int .i64 (workers : Int),.int .i64 (workers : Int),.bool false,u17,u18,u19,u20,u21,u22,u23,.slice (some ⟨wb,0,none⟩) workers workers,.pointer (some ⟨rb,0,none⟩),.pointer (some ⟨wb,0,none⟩),.pointer (some ⟨wb,1,none⟩),.int .i64 (workers : Int),.slice sa script.length scap,.func (.func 101) #[] #[.pointer (some ⟨b6 + 1 + 1,0,none⟩),.pointer (some ⟨b6 + 1,0,none⟩)],.int .i64 (y.1 : Int),.int .i64 (y.2 : Int),undef,undef,undef,undef,undef,undef,undef,undef,undef,undef,undef,undef,undef,undef,undef,undef,undef],defers:=[] })
    (fun _ _ _ _ h _ _=>h) ?assign ?body ?done ?stop
   case hIl =>
    intro pre V o o' hi ho hc
    have hl2 : W8.heap.size + 1 < V.heap.size:=(Array.getElem?_eq_some_iff.1 ho).1
    refine KEEP _ _ _ hi ((Below.refl n₀ V).grown (grownBy_putObj' V _ o') (by omega) (fun k e=>by cases e;omega)) (L.abide _ _ _ hi.jj (AB.put (by omega) hnB ho hc)) (fun b q hb hq _=>(World.putObj_heap_other (fun e=>by subst e;rw [ho] at hb;cases hb;rw [hc] at hq;cases hq)).trans hb)
   case hIxl =>
    rintro c pre V o o' ⟨h1,h2⟩ ho hc
    exact ⟨h1,L.abide _ _ _ h2 (AB.put (by omega) hnB ho hc)⟩
   case seq =>
    intro Rd Jx W1 hbl hsz1 hRd hJx hY hR1 hR2 hi0 hrd0
    have:=turns1 (m - 1) (W8.heap.size + 1) (b6 + 1 + 1) (b6 + 1) n₀ workers N script (.slice sa script.length scap) hw0 hw8 L.sl (by have:=L.N50;omega) L.sc (fun k V=>Stp fs n₀ workers N wb script seed x J (Bxs n₀ l cb workers wb W.heap.size b6 b4 (b6 + 1 + 1) (b6 + 1) (.slice sa script.length scap) W) k V ∧ Rd V) (fun _ V=>∃ pre,Jx pre V)
     (fun k V V' h hb=>by
      obtain ⟨⟨r,q1⟩,q2⟩:=hR1 V h.2
      exact ⟨ALC k V V' h.1 hb,hRd V V' h.2 (hb.block _ (Array.getElem?_eq_some_iff.1 q1).1) (hb.block _ (Array.getElem?_eq_some_iff.1 q2).1)⟩)
     (fun k V h=>⟨h.1.kN,h.1.bx.bs.cell,h.1.bx.bw.cell,by rw [← HSF.out];exact HSV.out.turn (fun b hb hlt=>⟨hb,h.1.bx.bel.block b hb⟩) (fun y _=>List.cons_ne_nil _ _)⟩)
     (fun k V h=>by
      have:=hY (List.replicate k (0,0)) (turnM workers script k) V (by rw [List.length_replicate];exact h.1) h.2 (by rw [List.length_replicate])
      refine YieldAt.any _ (YieldAt.mono this (fun e V' hq=>?_))
      rcases hq with ⟨q1,q2,q3,_⟩ | ⟨q1,q2⟩
      ·exact .inl ⟨q1,by rw [List.length_append,List.length_replicate] at q2;exact q2,q3⟩
      ·exact .inr ⟨q1,_,q2⟩)
     W1 ⟨hi0,hrd0⟩
    exact this.mono (fun e V' hq=>⟨hq.1,.inr (by obtain ⟨_,q⟩:=hq.2;exact q)⟩)
   case assign =>
    rintro pre y V K hi ⟨r,hr⟩ hK
    gi_wp2
    exact hK _ _ ⟨rfl,rfl⟩ trivial hi rfl
   case body =>
    rintro pre y a' V ⟨r,hr⟩ hD hi rfl rfl
    have hlt:=turnM_lt (by omega : 1 ≤ workers) script pre.length
    obtain ⟨adr,stk,hcr⟩:=hi.crew
    have hkN:=hi.kN
    have hsV:=hi.bx.b5.lt
    have HSTEP : Hid (∀ X,Below V.heap.size V X → Calls Tryz.prog 79 #[.pointer (some ⟨wb,(turnM workers script pre.length).1 * 3,none⟩),.pointer (some ⟨cb,0,none⟩),.pointer (some ⟨wb,(turnM workers script pre.length).2 * 3,none⟩)] X fun e X'=>e = .returned (rsV (turnM workers script pre.length).1 (rsAt fs workers script seed x pre.length)) ∧ (∃ adr' stk',Crew X' n₀ wb workers (stAt fs workers script seed x (pre.length + 1)) adr' stk') ∧ Kept n₀ X X'):=fun X hX=>by
     have hbX : Below n₀ W X:=hi.bx.bel.trans (hX.mono (by omega))
     have:=crew_step (hcr.below hX) (L.lean _ hkN) L.N50 (HC.out.turn (S':=Lt n₀) (fun b hb hlt=>⟨hb,hbX.block b hb⟩)) L.gifts L.l10 hlt.1 hlt.2
     rw [Nat.mul_comm 3,Nat.mul_comm 3] at this
     exact this.mono (fun e X' ⟨q1,adr',stk',q2,q3⟩=>⟨q1,⟨adr',stk',q2⟩,q3⟩)
    obtain ⟨d0,hd0⟩ : ∃ c,(rsAt fs workers script seed x pre.length).k = c:=⟨_,rfl⟩
    obtain ⟨d1,hd1⟩ : ∃ c,(rsAt fs workers script seed x pre.length).w (turnM workers script pre.length).1 = c:=⟨_,rfl⟩
    obtain ⟨d2,hd2⟩ : ∃ c,(rsAt fs workers script seed x pre.length).r = c:=⟨_,rfl⟩
    obtain ⟨d3,hd3⟩ : ∃ c,(rsAt fs workers script seed x pre.length).n = c:=⟨_,rfl⟩
    obtain ⟨d4,hd4⟩ : ∃ c,(rsAt fs workers script seed x pre.length).p = c:=⟨_,rfl⟩
    have HRS : Hid (rsV (turnM workers script pre.length).1 (rsAt fs workers script seed x pre.length) = .agg #[.int .i64 d0,.int .i64 d1,.int .i64 d2,.int .i64 d3,.int .i64 d4]):=by unfold Hid rsV;rw [hd0,hd1,hd2,hd3,hd4]
    have HD0:=hide hd0
    rw [HRS.out] at HSTEP
    clear hd0 hd1 hd2 hd3 hd4
    have c5:=hi.bx.b5.cell
    have c6:=hi.bx.b6.cell
    have c4:=hi.bx.b4.cell
    have HI:=hide hi
    have l5:=hi.bx.b5.lt
    have l6:=hi.bx.b6.lt
    have l4':=hi.bx.b4.lt
    have HBX : Hid (∀ X : World,(∀ (b : Nat) (o : Obj),V.heap[b]? = some o → ¬ isMut o → X.heap[b]? = some o) → X.cell? ⟨b6,0,none⟩ = some (.slice (some ⟨wb,0,none⟩) workers workers) ∧ X.cell? ⟨b4,0,none⟩ = some (.pointer (some ⟨cb,0,none⟩))):=fun X hX=>⟨Boxed.cell (t:=180) (hX _ _ hi.bx.b6 (box_ok (.inr (.inl rfl))).2),Boxed.cell (t:=94) (hX _ _ hi.bx.b4 (box_ok (.inr (.inr (.inl rfl)))).2)⟩
    have t1i : ((turnM workers script pre.length).1 : Int) < workers:=by omega
    have t2i : ((turnM workers script pre.length).2 : Int) < workers:=by omega
    obtain ⟨tw,htw⟩ : ∃ tw,(turnM workers script pre.length).1 = tw:=⟨_,rfl⟩
    obtain ⟨tv,htv⟩ : ∃ tv,(turnM workers script pre.length).2 = tv:=⟨_,rfl⟩
    have HTW:=hide htw
    have HTV:=hide htv
    rw [htw,htv] at HSTEP hlt
    rw [htw] at t1i
    rw [htv] at t2i
    clear hi hcr htw htv
    dsimp only
    rw [HTW.out,HTV.out]
    have tw0 : (0 : Int) ≤ tw:=by omega
    have tv0 : (0 : Int) ≤ tv:=by omega
    gi_wp2
    rename_i K0 hK0
    refine region_held_in (ro:=some (W8.heap.size + 1)) (S:=fun w'=>w'.cell? ⟨b6,0,none⟩ = some (.slice (some ⟨wb,0,none⟩) workers workers) ∧ w'.cell? ⟨b4,0,none⟩ = some (.pointer (some ⟨cb,0,none⟩))) hmix (fun ⟨_,_,h⟩=>h) (by kernel_rfl) ?_
    have hS0 : V.drew.cell? ⟨b6,0,none⟩ = some (.slice (some ⟨wb,0,none⟩) workers workers) ∧ V.drew.cell? ⟨b4,0,none⟩ = some (.pointer (some ⟨cb,0,none⟩)):=⟨c6,c4⟩
    refine take_at 0 33 (.slice (some ⟨wb,0,none⟩) workers workers) rfl rfl (by kernel_rfl) (by kernel_rfl) (by kernel_rfl) (fun _ _ _ h=>h) (by rfl) ?y0 hS0 ?r0
    case y0 =>
     intro w9 hSw
     obtain ⟨hq6,hq4⟩:=hSw
     go_simp
    simp only [List.setIfInBounds_toArray,List.set_cons_zero,List.set_cons_succ]
    refine take_at 1 34 (.int .i64 (tw : Int)) rfl rfl (by kernel_rfl) (by kernel_rfl) (by kernel_rfl) (fun _ _ _ h=>h) (by rfl) ?y1 hS0 ?r1
    case y1 =>
     intro w9 hSw
     obtain ⟨hq6,hq4⟩:=hSw
     go_simp
    simp only [List.setIfInBounds_toArray,List.set_cons_zero,List.set_cons_succ]
    refine take_at 2 35 (.pointer (some ⟨wb,tw * 3,none⟩)) rfl rfl (by kernel_rfl) (by kernel_rfl) (by kernel_rfl) (fun _ _ _ h=>h) (by rfl) ?y2 hS0 ?r2
    case y2 =>
     intro w9 hSw
     obtain ⟨hq6,hq4⟩:=hSw
     go_simp
    simp only [List.setIfInBounds_toArray,List.set_cons_zero,List.set_cons_succ]
    refine take_at 3 36 (.pointer (some ⟨cb,0,none⟩)) rfl rfl (by kernel_rfl) (by kernel_rfl) (by kernel_rfl) (fun _ _ _ h=>h) (by rfl) ?y3 hS0 ?r3
    case y3 =>
     intro w9 hSw
     obtain ⟨hq6,hq4⟩:=hSw
     go_simp
    simp only [List.setIfInBounds_toArray,List.set_cons_zero,List.set_cons_succ]
    refine take_at 4 37 (.slice (some ⟨wb,0,none⟩) workers workers) rfl rfl (by kernel_rfl) (by kernel_rfl) (by kernel_rfl) (fun _ _ _ h=>h) (by rfl) ?y4 hS0 ?r4
    case y4 =>
     intro w9 hSw
     obtain ⟨hq6,hq4⟩:=hSw
     go_simp
    simp only [List.setIfInBounds_toArray,List.set_cons_zero,List.set_cons_succ]
    refine take_at 5 38 (.int .i64 (tv : Int)) rfl rfl (by kernel_rfl) (by kernel_rfl) (by kernel_rfl) (fun _ _ _ h=>h) (by rfl) ?y5 hS0 ?r5
    case y5 =>
     intro w9 hSw
     obtain ⟨hq6,hq4⟩:=hSw
     go_simp
    simp only [List.setIfInBounds_toArray,List.set_cons_zero,List.set_cons_succ]
    refine take_at 6 39 (.pointer (some ⟨wb,tv * 3,none⟩)) rfl rfl (by kernel_rfl) (by kernel_rfl) (by kernel_rfl) (fun _ _ _ h=>h) (by rfl) ?y6 hS0 ?r6
    case y6 =>
     intro w9 hSw
     obtain ⟨hq6,hq4⟩:=hSw
     go_simp
    simp only [List.setIfInBounds_toArray,List.set_cons_zero,List.set_cons_succ]
    refine wpAnyH_ready (rs:=[7,8]) (by kernel_rfl) (by simp) ?_
    refine AllReadyH.cons rfl (fun K hK=>?_) (AllReadyH.cons rfl (fun K hK=>?_) AllReadyH.nil)
    ·go_simp
     refine (HSTEP.out V.drew (Below.refl V.heap.size V).drew).mono ?_
     rintro e X ⟨rfl,hcr1,hkp1⟩
     have hS1:=HBX.out X (fun b o hb ho=>hkp1.keep b o hb ho)
     have HK1:=hide hkp1
     have HC1:=hide hcr1
     clear hkp1 hcr1
     refine hK.out _ _ hS1 (fun _=>?_)
     refine wpAnyH_ready (rs:=[8]) (by kernel_rfl) (by simp) ?_
     refine AllReadyH.cons rfl (fun K hK=>?_) AllReadyH.nil
     go_simp
     have hl6 : b6 < X.heap.size:=block_lt_of_cell hS1.1
     have hl4 : b4 < X.heap.size:=block_lt_of_cell hS1.2
     refine hK.out _ _ ⟨alloc_cell hS1.1,alloc_cell hS1.2⟩ (fun _=>?_)
     refine wpAnyH_ready (rs:=[9]) (by kernel_rfl) (by simp) ?_
     refine AllReadyH.cons rfl (fun K hK=>?_) AllReadyH.nil
     go_simp
     refine hK.out _ _ ⟨alloc_cell hS1.1,alloc_cell hS1.2⟩ (fun _=>?_)
     refine wpAnyH_done (by kernel_rfl) ?_ _
     refine hK0 _ _ ?_
     obtain ⟨W5,hW5⟩ : ∃ W5,X.alloc (.cells #[.int .i64 d0,.int .i64 d1,.int .i64 d2,.int .i64 d3,.int .i64 d4] 140) = W5:=⟨_,rfl⟩
     obtain ⟨Bs,hBs⟩ : ∃ Bs,X.heap.size = Bs:=⟨_,rfl⟩
     have hbX : Below X.heap.size X W5:=by rw [← hW5];exact (Below.refl _ X).alloc (Nat.le_refl _) _
     have hz5 : W5.heap[Bs]? = some (.cells #[.int .i64 d0,.int .i64 d1,.int .i64 d2,.int .i64 d3,.int .i64 d4] 140 (0,0)):=by rw [← hW5,← hBs];exact World.alloc_heap_new X _
     have hVX : V.heap.size ≤ X.heap.size:=HK1.out.below.size
     have hk5 : Kept n₀ V W5:=Kept.bel ⟨(Below.refl n₀ V).drew.trans HK1.out.below,fun b o hb ho=>HK1.out.keep b o hb ho⟩ hbX hVX (by omega)
     have hc5 : ∃ adr stk,Crew W5 n₀ wb workers (stAt fs workers script seed x (pre.length + 1)) adr stk:=by
      obtain ⟨q1,q2,q3⟩:=HC1.out
      exact ⟨q1,q2,q3.below hbX⟩
     rw [hW5,hBs]
     clear hW5
     have hjj5 : J pre.length W5:=L.abide _ _ _ HI.out.jj (AB.of_kept hk5)
     obtain ⟨lr,hlr⟩:=L.loop _ _ hjj5
     have hbx5:=HI.out.bx.turn hk5.below (fun b o hb _ _ hm=>hk5.keep b o hb hm)
     have hl5 : W5.heap[W8.heap.size + 1]? = V.heap[W8.heap.size + 1]?:=(hk5.keep _ _ hr (fun h=>h)).trans hr.symm
     have hD5 : W5.heap[W8.heap.size]? = V.heap[W8.heap.size]?:=(hk5.keep _ _ hD (fun h=>h)).trans hD.symm
     obtain ⟨fn,tmps,assign,body,hy,hR⟩:=L.yield (m - 1 - 1 - 1) _ W5 hjj5 hkN
     rw [HRS.out] at hy
     have e5:=hbx5.b5.cell
     have v0 : W5.cell? ⟨Bs,0,none⟩ = some (.int .i64 d0):=by simp [World.cell?,hz5]
     have v1 : W5.cell? ⟨Bs,1,none⟩ = some (.int .i64 d1):=by simp [World.cell?,hz5]
     have v2 : W5.cell? ⟨Bs,2,none⟩ = some (.int .i64 d2):=by simp [World.cell?,hz5]
     have v3 : W5.cell? ⟨Bs,3,none⟩ = some (.int .i64 d3):=by simp [World.cell?,hz5]
     have v4 : W5.cell? ⟨Bs,4,none⟩ = some (.int .i64 d4):=by simp [World.cell?,hz5]
     have HZ5:=hide hz5
     have HK5:=hide hk5
     have HC5:=hide hc5
     have HBX5:=hide hbx5
     have HLR:=hide hlr
     have HL5:=hide hl5
     have HD5:=hide hD5
     clear hz5 hk5 hc5 hbx5 hlr hl5 hD5 hjj5
     gi_wp2
     refine ⟨room_none _,?_⟩
     refine RoundIn.mono (F:=Fence.wide.inRound (b6 + 3 + 1)) hR ?_
     rintro e W7 ⟨rfl,hj7,hki7⟩
     have hnl : ∀ (b : Nat) (o : Obj),W5.heap[b]? = some o → o.isCells = true → b ≠ l:=fun b o hb hc e=>by
      subst e
      rw [HLR.out] at hb;cases hb;cases hc
     have z7 : W7.heap[Bs]? = some (.cells #[.int .i64 d0,.int .i64 d1,.int .i64 d2,.int .i64 d3,.int .i64 d4] 140 (0,0)):=hki7.keep Bs _ HZ5.out (hnl Bs _ HZ5.out rfl) (fun h=>h) ⟨by decide,by decide⟩
     have u0 : W7.cell? ⟨Bs,0,none⟩ = some (.int .i64 d0):=by simp [World.cell?,z7]
     have HL7 : Hid (W7.heap[W8.heap.size + 1]? = V.heap[W8.heap.size + 1]?):=(hki7.keep _ _ (HL5.out.trans hr) (by omega) (fun h=>h) trivial).trans hr.symm
     have HD7 : Hid (W7.heap[W8.heap.size]? = V.heap[W8.heap.size]?):=(hki7.keep _ _ (HD5.out.trans hD) (by omega) (fun h=>h) trivial).trans hD.symm
     have HJ7:=hide hj7
     have HKI:=hide hki7
     have HNL:=hide hnl
     clear hj7 hki7 hnl z7 v0 v1 v2 v3 v4 hy
     by_cases hdn : pre.length = N
     ·have hd4 : d0 = 4:=by
       rw [← HD0.out,hdn,L.ends.1];rfl
      subst hd4
      gi_wp2
      exact ⟨⟨HL7.out,HD7.out⟩,rfl,by rw [← hdn];exact HJ7.out⟩
     ·have hd4 : ¬ d0 = 4:=fun e=>by
       have h1:=L.ends.2 pre.length (by omega)
       have h2:=HD0.out
       rw [e] at h2
       cases hq : rsAt fs workers script seed x pre.length with
       | done=>exact h1 hq
       | went=>rw [hq] at h2;exact absurd h2 (by decide)
       | gave a b c=>rw [hq] at h2;exact absurd (show (1 : Int) = 4 from h2) (by decide)
       | stole=>rw [hq] at h2;exact absurd h2 (by decide)
       | failed=>rw [hq] at h2;exact absurd h2 (by decide)
      gi_wp2
      refine ⟨⟨HL7.out,HD7.out⟩,trivial,?_⟩
      simp only [List.length_append,List.length_cons,List.length_nil,Nat.zero_add]
      obtain ⟨q1,q2,q3⟩:=HC5.out
      exact ⟨by omega,⟨q1,q2,q3.keep (fun b o hb ho=>HKI.out.keep b o hb (HNL.out b o hb (mut_cells ho)) (fun h=>h) (mut_notEO ho))⟩,HJ7.out,HBX5.out.turn HKI.out.below (fun b o hb hc hn _=>HKI.out.keep b o hb (HNL.out b o hb hc) (fun h=>h) hn)⟩
    ·go_simp
     obtain ⟨X0,hX0⟩ : ∃ X0,(V.alloc (.cells #[.int .i64 0,.int .i64 0,.int .i64 0,.int .i64 0,.int .i64 0] 140)).drew = X0:=⟨_,rfl⟩
     have hb0 : Below V.heap.size V X0:=by rw [← hX0];exact ((Below.refl V.heap.size V).alloc (Nat.le_refl _) _).drew
     have hz0 : X0.heap[V.heap.size]? = some (.cells #[.int .i64 0,.int .i64 0,.int .i64 0,.int .i64 0,.int .i64 0] 140 (0,0)):=by rw [← hX0];exact World.alloc_heap_new V _
     rw [hX0]
     have hS1:=HBX.out X0 (fun b o hb ho=>(hb0.block b (Array.getElem?_eq_some_iff.1 hb).1).trans hb)
     refine hK.out _ _ hS1 (fun _=>?_)
     refine wpAnyH_ready (rs:=[7]) (by kernel_rfl) (by simp) ?_
     refine AllReadyH.cons rfl (fun K hK=>?_) AllReadyH.nil
     go_simp
     refine (HSTEP.out X0 hb0).mono ?_
     rintro e X ⟨rfl,hcr1,hkp1⟩
     have hS2:=HBX.out X (fun b o hb ho=>hkp1.keep b o ((hb0.block b (Array.getElem?_eq_some_iff.1 hb).1).trans hb) ho)
     have hzX : X.heap[V.heap.size]? = some (.cells #[.int .i64 0,.int .i64 0,.int .i64 0,.int .i64 0,.int .i64 0] 140 (0,0)):=hkp1.keep _ _ hz0 (step_not_mut _)
     have s0 : X.cell? ⟨V.heap.size,0,none⟩ = some (.int .i64 0):=by simp [World.cell?,hzX]
     have s1 : X.cell? ⟨V.heap.size,1,none⟩ = some (.int .i64 0):=by simp [World.cell?,hzX]
     have s2 : X.cell? ⟨V.heap.size,2,none⟩ = some (.int .i64 0):=by simp [World.cell?,hzX]
     have s3 : X.cell? ⟨V.heap.size,3,none⟩ = some (.int .i64 0):=by simp [World.cell?,hzX]
     have s4 : X.cell? ⟨V.heap.size,4,none⟩ = some (.int .i64 0):=by simp [World.cell?,hzX]
     have f0 : X.frozen? ⟨V.heap.size,0,none⟩ = false:=by simp [World.frozen?,hzX]
     have f1 : X.frozen? ⟨V.heap.size,1,none⟩ = false:=by simp [World.frozen?,hzX]
     have f2 : X.frozen? ⟨V.heap.size,2,none⟩ = false:=by simp [World.frozen?,hzX]
     have f3 : X.frozen? ⟨V.heap.size,3,none⟩ = false:=by simp [World.frozen?,hzX]
     have f4 : X.frozen? ⟨V.heap.size,4,none⟩ = false:=by simp [World.frozen?,hzX]
     have HK1:=hide hkp1
     have HC1:=hide hcr1
     have HZX:=hide hzX
     have HB0:=hide hb0
     clear hkp1 hcr1 hzX hb0
     refine hK.out _ _ hS2 (fun _=>?_)
     refine wpAnyH_ready (rs:=[9]) (by kernel_rfl) (by simp) ?_
     refine AllReadyH.cons rfl (fun K hK=>?_) AllReadyH.nil
     go_simp
     have n6 : b6 ≠ V.heap.size:=by omega
     have n4 : b4 ≠ V.heap.size:=by omega
     refine hK.out _ _ ?_ (fun _=>?_)
     ·refine ⟨?_,?_⟩
      ·exact (World.cell?_of_block (w:=X) (a:=⟨b6,0,none⟩) (by simp only;rw [Below.heap_setCell _ _ _ _ n6,Below.heap_setCell _ _ _ _ n6,Below.heap_setCell _ _ _ _ n6,Below.heap_setCell _ _ _ _ n6,Below.heap_setCell _ _ _ _ n6])).trans hS2.1
      ·exact (World.cell?_of_block (w:=X) (a:=⟨b4,0,none⟩) (by simp only;rw [Below.heap_setCell _ _ _ _ n4,Below.heap_setCell _ _ _ _ n4,Below.heap_setCell _ _ _ _ n4,Below.heap_setCell _ _ _ _ n4,Below.heap_setCell _ _ _ _ n4])).trans hS2.2
     refine wpAnyH_done (by kernel_rfl) ?_ _
     refine hK0 _ _ ?_
     obtain ⟨W5,hW5⟩ : ∃ W5,((((X.setCell ⟨V.heap.size,0,none⟩ (.int .i64 d0)).setCell ⟨V.heap.size,1,none⟩ (.int .i64 d1)).setCell ⟨V.heap.size,2,none⟩ (.int .i64 d2)).setCell ⟨V.heap.size,3,none⟩ (.int .i64 d3)).setCell ⟨V.heap.size,4,none⟩ (.int .i64 d4) = W5:=⟨_,rfl⟩
     obtain ⟨Bs,hBs⟩ : ∃ Bs,V.heap.size = Bs:=⟨_,rfl⟩
     have hot5 : ∀ b,b ≠ V.heap.size → W5.heap[b]? = X.heap[b]?:=fun b q2=>by
      rw [← hW5,Below.heap_setCell _ _ _ _ q2,Below.heap_setCell _ _ _ _ q2,Below.heap_setCell _ _ _ _ q2,Below.heap_setCell _ _ _ _ q2,Below.heap_setCell _ _ _ _ q2]
     have hz5 : W5.heap[Bs]? = some (.cells #[.int .i64 d0,.int .i64 d1,.int .i64 d2,.int .i64 d3,.int .i64 d4] 140 (0,0)):=by
      rw [← hW5,← hBs]
      exact heap_set _ V.heap.size 4 (.int .i64 d4) _ _ (heap_set _ V.heap.size 3 (.int .i64 d3) _ _ (heap_set _ V.heap.size 2 (.int .i64 d2) _ _ (heap_set _ V.heap.size 1 (.int .i64 d1) _ _ (heap_set _ V.heap.size 0 (.int .i64 d0) _ _ HZX.out))))
     have hVX : X.heap.size ≤ W5.heap.size:=by rw [← hW5];simp [World.setCell]
     have hnV : n₀ ≤ V.heap.size:=by omega
     have hX05 : X0.heap.size = V.heap.size + 1:=by rw [← hX0];simp
     have hk5 : Kept n₀ V W5:=by
      refine ⟨⟨?_,?_,?_,?_,fun b hb=>?_⟩,fun b o hb ho=>?_⟩
      ·rw [← hW5];exact HK1.out.below.os.trans HB0.out.os
      ·rw [← hW5];exact HK1.out.below.tape.trans HB0.out.tape
      ·rw [← hW5];exact HK1.out.below.output.trans HB0.out.output
      ·have:=HK1.out.below.size;omega
      ·rw [hot5 b (by omega),HK1.out.below.block b hb,HB0.out.block b (by omega)]
      ·have hbl:=(Array.getElem?_eq_some_iff.1 hb).1
       exact (hot5 b (by omega)).trans (HK1.out.keep b o ((HB0.out.block b hbl).trans hb) ho)
     have hc5 : ∃ adr stk,Crew W5 n₀ wb workers (stAt fs workers script seed x (pre.length + 1)) adr stk:=by
      obtain ⟨q1,q2,q3⟩:=HC1.out
      refine ⟨q1,q2,q3.keep (fun b o hb ho=>(hot5 b (fun e=>?_)).trans hb)⟩
      subst e
      rw [HZX.out] at hb;cases hb
      rcases ho with ho | ho
      ·exact step_not_mut _ ho
      ·exact absurd (show (140 : Nat) = 45 from ho) (by decide)
     rw [hW5,hBs]
     clear hW5 s0 s1 s2 s3 s4 f0 f1 f2 f3 f4
     have hjj5 : J pre.length W5:=L.abide _ _ _ HI.out.jj (AB.of_kept hk5)
     obtain ⟨lr,hlr⟩:=L.loop _ _ hjj5
     have hbx5:=HI.out.bx.turn hk5.below (fun b o hb _ _ hm=>hk5.keep b o hb hm)
     have hl5 : W5.heap[W8.heap.size + 1]? = V.heap[W8.heap.size + 1]?:=(hk5.keep _ _ hr (fun h=>h)).trans hr.symm
     have hD5 : W5.heap[W8.heap.size]? = V.heap[W8.heap.size]?:=(hk5.keep _ _ hD (fun h=>h)).trans hD.symm
     obtain ⟨fn,tmps,assign,body,hy,hR⟩:=L.yield (m - 1 - 1 - 1) _ W5 hjj5 hkN
     rw [HRS.out] at hy
     have e5:=hbx5.b5.cell
     have v0 : W5.cell? ⟨Bs,0,none⟩ = some (.int .i64 d0):=by simp [World.cell?,hz5]
     have v1 : W5.cell? ⟨Bs,1,none⟩ = some (.int .i64 d1):=by simp [World.cell?,hz5]
     have v2 : W5.cell? ⟨Bs,2,none⟩ = some (.int .i64 d2):=by simp [World.cell?,hz5]
     have v3 : W5.cell? ⟨Bs,3,none⟩ = some (.int .i64 d3):=by simp [World.cell?,hz5]
     have v4 : W5.cell? ⟨Bs,4,none⟩ = some (.int .i64 d4):=by simp [World.cell?,hz5]
     have HZ5:=hide hz5
     have HK5:=hide hk5
     have HC5:=hide hc5
     have HBX5:=hide hbx5
     have HLR:=hide hlr
     have HL5:=hide hl5
     have HD5:=hide hD5
     clear hz5 hk5 hc5 hbx5 hlr hl5 hD5 hjj5
     gi_wp2
     refine ⟨room_none _,?_⟩
     refine RoundIn.mono (F:=Fence.wide.inRound (b6 + 3 + 1)) hR ?_
     rintro e W7 ⟨rfl,hj7,hki7⟩
     have hnl : ∀ (b : Nat) (o : Obj),W5.heap[b]? = some o → o.isCells = true → b ≠ l:=fun b o hb hc e=>by
      subst e
      rw [HLR.out] at hb;cases hb;cases hc
     have z7 : W7.heap[Bs]? = some (.cells #[.int .i64 d0,.int .i64 d1,.int .i64 d2,.int .i64 d3,.int .i64 d4] 140 (0,0)):=hki7.keep Bs _ HZ5.out (hnl Bs _ HZ5.out rfl) (fun h=>h) ⟨by decide,by decide⟩
     have u0 : W7.cell? ⟨Bs,0,none⟩ = some (.int .i64 d0):=by simp [World.cell?,z7]
     have HL7 : Hid (W7.heap[W8.heap.size + 1]? = V.heap[W8.heap.size + 1]?):=(hki7.keep _ _ (HL5.out.trans hr) (by omega) (fun h=>h) trivial).trans hr.symm
     have HD7 : Hid (W7.heap[W8.heap.size]? = V.heap[W8.heap.size]?):=(hki7.keep _ _ (HD5.out.trans hD) (by omega) (fun h=>h) trivial).trans hD.symm
     have HJ7:=hide hj7
     have HKI:=hide hki7
     have HNL:=hide hnl
     clear hj7 hki7 hnl z7 v0 v1 v2 v3 v4 hy
     by_cases hdn : pre.length = N
     ·have hd4 : d0 = 4:=by
       rw [← HD0.out,hdn,L.ends.1];rfl
      subst hd4
      gi_wp2
      exact ⟨⟨HL7.out,HD7.out⟩,rfl,by rw [← hdn];exact HJ7.out⟩
     ·have hd4 : ¬ d0 = 4:=fun e=>by
       have h1:=L.ends.2 pre.length (by omega)
       have h2:=HD0.out
       rw [e] at h2
       cases hq : rsAt fs workers script seed x pre.length with
       | done=>exact h1 hq
       | went=>rw [hq] at h2;exact absurd h2 (by decide)
       | gave a b c=>rw [hq] at h2;exact absurd (show (1 : Int) = 4 from h2) (by decide)
       | stole=>rw [hq] at h2;exact absurd h2 (by decide)
       | failed=>rw [hq] at h2;exact absurd h2 (by decide)
      gi_wp2
      refine ⟨⟨HL7.out,HD7.out⟩,trivial,?_⟩
      simp only [List.length_append,List.length_cons,List.length_nil,Nat.zero_add]
      obtain ⟨q1,q2,q3⟩:=HC5.out
      exact ⟨by omega,⟨q1,q2,q3.keep (fun b o hb ho=>HKI.out.keep b o hb (HNL.out b o hb (mut_cells ho)) (fun h=>h) (mut_notEO ho))⟩,HJ7.out,HBX5.out.turn HKI.out.below (fun b o hb hc hn _=>HKI.out.keep b o hb (HNL.out b o hb hc) (fun h=>h) hn)⟩
   case done =>
    rintro xs V hS
    exact hS.elim
   case stop =>
    rintro c pre V ⟨rfl,hj⟩ hD
    gi_wp2
    refine ⟨by simp,.inl ⟨_,_,rfl,run_takeDeferred hD,?_⟩⟩
    exact ⟨_,results_none rfl _ _ _,⟨_,rfl⟩,L.abide _ _ _ hj (AB.put (by omega) hnB hD rfl)⟩
end Go.Proofs.YtkmakliebhnhbaaGreat
