import Derived.Test.YtkmakliebhnhbaaGreatCrJ
namespace Go.Proofs.YtkmakliebhnhbaaGreat
open Go.RowKit Go.Shelf
theorem TkB.set3 {W : World} {B : Nat} {t : Tk} {pv av : Value} (q : TkB W B t pv av) (r : Int) : TkB (W.setCell ⟨B,3,none⟩ (.int .u64 r)) B { t with r:=r } pv av:=heap_set W B 3 _ _ _ q
theorem TkB.set4 {W : World} {B : Nat} {t : Tk} {pv av : Value} (q : TkB W B t pv av) (o : Org) : TkB (W.setCell ⟨B,4,none⟩ (.int .i64 (orgZ o))) B { t with org:=o } pv av:=heap_set W B 4 _ _ _ q
theorem TkB.set5 {W : World} {B : Nat} {t : Tk} {pv av : Value} (q : TkB W B t pv av) (v : Value) : TkB (W.setCell ⟨B,5,none⟩ v) B t v av:=heap_set W B 5 _ _ _ q
theorem TkB.set6 {W : World} {B : Nat} {t : Tk} {pv av : Value} (q : TkB W B t pv av) (v : Value) (l : List Ins) : TkB (W.setCell ⟨B,6,none⟩ v) B { t with rem:=l } pv v:=heap_set W B 6 _ _ _ q
theorem TkB.set7 {W : World} {B : Nat} {t : Tk} {pv av : Value} (q : TkB W B t pv av) (p : Nat) : TkB (W.setCell ⟨B,7,none⟩ (.int .i64 (p : Int))) B { t with pl:=p } pv av:=heap_set W B 7 _ _ _ q
theorem TkB.set8 {W : World} {B : Nat} {t : Tk} {pv av : Value} (q : TkB W B t pv av) (o : Int) : TkB (W.setCell ⟨B,8,none⟩ (.int .i64 o)) B { t with out:=o } pv av:=heap_set W B 8 _ _ _ q
theorem TkB.set9 {W : World} {B : Nat} {t : Tk} {pv av : Value} (q : TkB W B t pv av) (o : Bool) : TkB (W.setCell ⟨B,9,none⟩ (.bool o)) B { t with asd:=o } pv av:=heap_set W B 9 _ _ _ q
theorem TkB.other {W : World} {B : Nat} {t : Tk} {pv av : Value} (q : TkB W B t pv av) (b j : Nat) (v : Value) (hne : B ≠ b) : TkB (W.setCell ⟨b,j,none⟩ v) B t pv av:=(Below.heap_setCell _ _ _ _ hne).trans q
theorem TkB.bel {W W' : World} {B n : Nat} {t : Tk} {pv av : Value} (q : TkB W B t pv av) (h : Below n W W') (hn : B < n) : TkB W' B t pv av:=(h.block B hn).trans q
set_option maxHeartbeats 4000000 in
theorem tbegin_calls {fs : List (List Ins)} {reds : List Int} {cb n₀ : Nat} {l : List Ins} (i : Ins) (m : Nat) (hm : i.f = m) (hl : fs[m]? = some l) (hl10 : l.length ≤ 2000000) (o : Org) (B : Nat) (t : Tk) (pv av : Value) (w : World) (hb : TkB w B t pv av) (hC : CodeP (Lt n₀) w cb fs reds) (_hn : n₀ ≤ w.heap.size) (hnB : n₀ ≤ B)
    (h0 : 0 ≤ t.r) (h1 : t.r ≤ 1000) (hpl : t.pl ≤ 10000000000000) (hg : gift fs m ≤ 100000000) :
    Calls Tryz.prog 126 #[.pointer (some ⟨B,0,none⟩),.pointer (some ⟨cb,0,none⟩),i.agg,.int .i64 (orgZ o)] w fun e w'=>∃ Q av',e = .returned (.pointer (some ⟨Q,0,none⟩)) ∧ w.heap.size ≤ Q ∧ TkB w' Q ⟨m,numZ i t.x,stepZ t.h t.r,0,l,t.pl,0,false,0,o⟩ (.pointer (some ⟨B,0,none⟩)) av' ∧ RdL (InsAt w') w' 5 Ins.vals av' l ∧
      Below w.heap.size ((w.setCell ⟨B,3,none⟩ (.int .u64 (t.r + 1))).setCell ⟨B,7,none⟩ (.int .i64 ((t.pl + gift fs m : Nat) : Int))) w':=by
  have hmix : Tryz.prog.follows .mixedOrders = true:=by kernel_rfl
  have hfl : m < fs.length:=(List.getElem?_eq_some_iff.1 hl).1
  have HC:=hide hC
  have HL:=hide hl
  have HB:=hide hb
  have hlt:=hb.lt
  obtain ⟨op,F,R,K,L⟩:=i
  dsimp only at hm
  subst hm
  obtain ⟨z,hz⟩ : ∃ z,numZ ⟨op,m,R,K,L⟩ t.x = z:=⟨_,rfl⟩
  have HZ:=hide hz
  rw [hz]
  obtain ⟨g,hgg⟩ : ∃ g,gift fs m = g:=⟨_,rfl⟩
  have HGG:=hide hgg
  have HPL : Hid (((t.pl + g : Nat) : Int) = (t.pl : Int) + (g : Int)):=by unfold Hid;omega
  rw [hgg] at hg ⊢
  rw [HPL.out]
  have gi : (g : Int) ≤ 100000000:=by omega
  have g0 : (0 : Int) ≤ g:=by omega
  have pi : (t.pl : Int) ≤ 10000000000000:=by omega
  have p0 : (0 : Int) ≤ t.pl:=by omega
  clear hC hl hb hz hgg
  dsimp only [Ins.agg]
  go_enter Tryz.func126,Tryz.ntmps126
  go_wp2
  obtain ⟨W0,hW0⟩ : ∃ W0,w.alloc (.cells #[.int .i64 op,.int .i64 (m : Int),.int .i64 R,.int .i64 K,.int .i64 L] 45) = W0:=⟨_,rfl⟩
  obtain ⟨Bi,hBi⟩ : ∃ Bi,w.heap.size = Bi:=⟨_,rfl⟩
  have hb0 : Below w.heap.size w W0:=by rw [← hW0];exact (Below.refl _ w).alloc (Nat.le_refl _) _
  have bi : Box5 W0 Bi ⟨op,m,R,K,L⟩:=by rw [← hW0,← hBi];exact Box5.new w ⟨op,m,R,K,L⟩
  have hsz : W0.heap.size = Bi + 1:=by rw [← hW0,← hBi];simp
  have tb : TkB W0 B t pv av:=HB.out.bel hb0 hlt
  have hC0 : CodeP (Lt n₀) W0 cb fs reds:=HC.out.turn (fun b hb hlt=>⟨hb,hb0.block b hlt⟩)
  rw [hW0,hBi]
  rw [hBi] at hlt
  have HB0:=hide hb0
  have HBi:=hide hBi
  have HSZ:=hide hsz
  have HTB:=hide tb
  have d0:=bi.c0
  have d1:=bi.c1
  have d2:=bi.c2
  have d3:=bi.c3
  have d4:=bi.c4
  dsimp only at d0 d1 d2 d3 d4
  have lI : Bi < W0.heap.size:=bi.lt
  have lB : B < W0.heap.size:=tb.lt
  have HBG : Hid (Calls Tryz.prog 122 #[.pointer (some ⟨B,0,none⟩),.agg #[.int .i64 op,.int .i64 (m : Int),.int .i64 R,.int .i64 K,.int .i64 L]] W0.drew fun e w'=>e = .returned (.agg #[.int .i64 (m : Int),.int .i64 z,.int .u64 (stepZ t.h t.r),.int .u64 0]) ∧ Below W0.heap.size (W0.drew.setCell ⟨B,3,none⟩ (.int .u64 (t.r + 1))) w'):=by
    have:=begin_at ⟨op,m,R,K,L⟩ m rfl B t.x t.h t.r W0.drew tb.c1 tb.c2 tb.c3 (tb.fz 3) h0 h1
    rw [HZ.out] at this
    exact this
  have HNT : Hid (∀ w3,Below W0.heap.size (W0.drew.setCell ⟨B,3,none⟩ (.int .u64 (t.r + 1))) w3 → Calls Tryz.prog 59 #[.pointer (some ⟨cb,0,none⟩),.agg #[.int .i64 (m : Int),.int .i64 z,.int .u64 (stepZ t.h t.r),.int .u64 0]] w3 fun e w'=>∃ Q av,e = .returned (.pointer (some ⟨Q,0,none⟩)) ∧ w3.heap.size ≤ Q ∧ TkB w' Q ⟨m,z,stepZ t.h t.r,0,l,0,0,false,0,.root⟩ (.pointer none) av ∧ RdL (InsAt w') w' 5 Ins.vals av l ∧ Below w3.heap.size w3 w'):=fun w3 hb3=>by
    have hs3 : W0.heap.size ≤ w3.heap.size:=by have:=hb3.size;simpa [World.setCell] using this
    refine newTask_calls z (stepZ t.h t.r) w3 (hC0.turn (fun b hb hlt=>⟨hb,?_⟩)) (by omega) HL.out hl10
    have hbn : b < n₀:=hb
    exact (hb3.block b hlt).trans (Below.heap_setCell _ _ _ _ (show b ≠ B by omega))
  clear hW0 hb0 hBi hsz hC0 bi tb
  go_region_held3 (fun w'=>w'.cell? ⟨Bi,0,none⟩ = some (.int .i64 op) ∧ w'.cell? ⟨Bi,1,none⟩ = some (.int .i64 (m : Int)) ∧ w'.cell? ⟨Bi,2,none⟩ = some (.int .i64 R) ∧ w'.cell? ⟨Bi,3,none⟩ = some (.int .i64 K) ∧ w'.cell? ⟨Bi,4,none⟩ = some (.int .i64 L)) (go_keep)
    ((first
      | (go_at_call 122;refine HBG.out.mono ?_;rintro e w3 ⟨rfl,hb3⟩
         have hkb : w3.heap[Bi]? = W0.heap[Bi]?:=(hb3.block Bi lI).trans (Below.heap_setCell _ _ _ _ (show Bi ≠ B by omega))
         have hkp : ∀ j,w3.cell? ⟨Bi,j,none⟩ = W0.cell? ⟨Bi,j,none⟩:=fun j=>World.cell?_of_block (w:=W0) (a:=⟨Bi,j,none⟩) hkb)
      | (go_at_call 59;refine (HNT.out w3 hb3).mono ?_;rintro e w4 ⟨Q,av',rfl,hQ,tq,hrq,hb4⟩
         have hs3 : W0.heap.size ≤ w3.heap.size:=by have:=hb3.size;simpa [World.setCell] using this
         have hkb4 : w4.heap[Bi]? = W0.heap[Bi]?:=(hb4.block Bi (by omega)).trans hkb
         have hkp4 : ∀ j,w4.cell? ⟨Bi,j,none⟩ = W0.cell? ⟨Bi,j,none⟩:=fun j=>World.cell?_of_block (w:=W0) (a:=⟨Bi,j,none⟩) hkb4)))
  all_goals
    have tb3 : TkB w3 B { t with r:=t.r + 1 } pv av:=(hb3.block B lB).trans ((HTB.out : TkB W0.drew B t pv av).set3 (t.r + 1))
    have tb4:=tb3.bel hb4 (by omega)
    have hQB : Q ≠ B:=by omega
    have hBQ : B ≠ Q:=by omega
    have hQi : Q ≠ Bi:=by omega
    have hiQ : Bi ≠ Q:=by omega
    have hiB : Bi ≠ B:=by omega
    have p7:=tb4.c7
    have q4:=tq.c4
    have q5:=tq.c5
    have q7:=tq.c7
    have u4:=tq.fz 4
    have u5:=tq.fz 5
    have u7:=tq.fz 7
    dsimp only at p7 q7
    have HTQ:=hide tq
    have HTB4:=hide tb4
    have HB3:=hide hb3
    have HB4:=hide hb4
    have HRQ:=hide hrq
    clear tq tb4 tb3 hb3 hb4 hrq
    go_wp2
  all_goals
    rename_i K0 hK0
    obtain ⟨W5,hW5⟩ : ∃ W5,(((w4.setCell ⟨Q,4,none⟩ (.int .i64 (orgZ o))).setCell ⟨Q,5,none⟩ (.pointer (some ⟨B,0,none⟩))).setCell ⟨Q,7,none⟩ (.int .i64 (t.pl : Int))) = W5:=⟨_,rfl⟩
    have tq5 : TkB W5 Q ⟨m,z,stepZ t.h t.r,0,l,t.pl,0,false,0,o⟩ (.pointer (some ⟨B,0,none⟩)) av':=by rw [← hW5];exact ((HTQ.out.set4 o).set5 _).set7 t.pl
    have tb5 : TkB W5 B { t with r:=t.r + 1 } pv av:=by rw [← hW5];exact ((HTB4.out.other _ _ _ hBQ).other _ _ _ hBQ).other _ _ _ hBQ
    have hob : ∀ b,b ≠ Q → W5.heap[b]? = w4.heap[b]?:=fun b hb=>by rw [← hW5,Below.heap_setCell _ _ _ _ hb,Below.heap_setCell _ _ _ _ hb,Below.heap_setCell _ _ _ _ hb]
    have hb5 : Below w3.heap.size w3 W5:=by rw [← hW5];exact ((HB4.out.setCell (p:=⟨Q,4,none⟩) hQ _).setCell (p:=⟨Q,5,none⟩) hQ _).setCell (p:=⟨Q,7,none⟩) hQ _
    have hbW : Below w.heap.size (w.setCell ⟨B,3,none⟩ (.int .u64 (t.r + 1))) W5:=(below_both (HB0.out.drew) ⟨B,3,none⟩ (.int .u64 (t.r + 1))).trans ((HB3.out.trans (hb5.mono hs3)).mono HB0.out.size)
    have hi5 : W5.cell? ⟨Bi,1,none⟩ = some (.int .i64 (m : Int)):=(World.cell?_of_block (w:=W0) (a:=⟨Bi,1,none⟩) ((hob Bi hiQ).trans hkb4)).trans d1
    have g7:=tb5.c7
    have v7:=tb5.fz 7
    dsimp only at g7
    have hC5 : CodeP (Lt n₀) W5 cb fs reds:=HC.out.turn (fun b hb hlt=>⟨hb,by
      have hbn : b < n₀:=hb
      exact (hbW.block b (by omega)).trans (Below.heap_setCell _ _ _ _ (show b ≠ B by omega))⟩)
    have HGI : Hid (∀ nq : Nat,Calls Tryz.prog 58 #[.pointer (some ⟨cb,0,none⟩),.int .i64 (m : Int)] (W5.drewN nq) fun e W'=>e = .returned (.int .i64 (gift fs m : Nat)) ∧ W' = W5.drewN nq):=fun nq=>gifts_calls (W5.drewN nq) (hC5.turn (S':=Lt n₀) (fun b hb hlt=>⟨hb,rfl⟩)) hfl
    rw [hW5]
    rw [HGG.out] at HGI
    have HTQ5:=hide tq5
    have HHOB:=hide hob
    have HBW:=hide hbW
    clear tq5 tb5 hob hb5 hbW hC5 hW5 q4 q5 q7 u4 u5 u7 p7
    clear d0 d1 d2 d3 d4 hkp hkp4 hkb hkb4
    refine (wpIn_wide (n:=9)).1 ?_
    refine region_split (F:=FW) (C:=fun w'=>∃ n,w' = W5.drewN n) (ro:=none) (k:=11) (r:=1) hmix rfl (by kernel_rfl) (by kernel_rfl) ⟨1,rfl⟩ ?_
    simp only [List.take_succ_cons,List.take_zero]
    repeat (gi_big_quiet_step (fail))
    refine BigFrame.wpQuietIn_want (fun _ _ _ _=>trivial) rfl ?_
    intro K hK
    gi_big_quiet_op
    apply Exists.intro
    refine ⟨fun _=>?_,?_⟩
    · exact (callsIn_wide.2 (HGI.out _)).mono (fun e w' he=>⟨he.1,_,he.2⟩)
    go_big_quiet_on
    repeat (gi_big_quiet_step (fail))
    refine wpQuietIn_nil ?_
    intro _ hw'
    obtain ⟨nq,hw''⟩:=hw'
    subst hw''
    refine wpAnyIn_ready (rs:=[11]) (by kernel_rfl) (by simp) ?_
    refine AllReadyIn.cons rfl (fun K hK=>?_) AllReadyIn.nil
    go_simp
    refine hK _ _ ?_
    clear hK K
    refine wpAnyIn_done (by kernel_rfl) ?_ _
    refine hK0 _ _ ?_
    clear hK0
    have tq6 : TkB ((W5.drewN nq).setCell ⟨B,7,none⟩ (.int .i64 ((t.pl : Int) + (g : Int)))) Q ⟨m,z,stepZ t.h t.r,0,l,t.pl,0,false,0,o⟩ (.pointer (some ⟨B,0,none⟩)) av':=(Below.heap_setCell _ _ _ _ hQB).trans HTQ5.out
    have hb6 : Below w.heap.size ((w.setCell ⟨B,3,none⟩ (.int .u64 (t.r + 1))).setCell ⟨B,7,none⟩ (.int .i64 ((t.pl : Int) + (g : Int)))) ((W5.drewN nq).setCell ⟨B,7,none⟩ (.int .i64 ((t.pl : Int) + (g : Int)))):=below_both (below_drewN HBW.out nq) _ _
    have hr6 : RdL (InsAt ((W5.drewN nq).setCell ⟨B,7,none⟩ (.int .i64 ((t.pl : Int) + (g : Int))))) ((W5.drewN nq).setCell ⟨B,7,none⟩ (.int .i64 ((t.pl : Int) + (g : Int)))) 5 Ins.vals av' l:=by
      refine HRQ.out.turn (fun b hb hlt=>?_) (fun x _=>List.cons_ne_nil _ _)
      obtain ⟨ob,ho1,ho2⟩:=hb
      have n1 : b ≠ Q:=fun e=>by
        subst e
        rw [show w4.heap[b]? = _ from HTQ.out] at ho1;cases ho1
        exact absurd (show (178 : Nat) = 45 from ho2) (by decide)
      have n2 : b ≠ B:=fun e=>by
        subst e
        rw [show w4.heap[b]? = _ from HTB4.out] at ho1;cases ho1
        exact absurd (show (178 : Nat) = 45 from ho2) (by decide)
      have e : ((W5.drewN nq).setCell ⟨B,7,none⟩ (.int .i64 ((t.pl : Int) + (g : Int)))).heap[b]? = w4.heap[b]?:=(Below.heap_setCell _ _ _ _ n2).trans (HHOB.out b n1)
      exact ⟨⟨ob,e.trans ho1,ho2⟩,e⟩
    generalize (W5.drewN nq).setCell ⟨B,7,none⟩ (.int .i64 ((t.pl : Int) + (g : Int))) = W6 at tq6 hb6 hr6 ⊢
    clear HGI HBG HNT HTQ5 HHOB HBW HTQ HTB4 HB3 HB4 HRQ g7 v7 hi5
    go_wp2
    go_ret
    exact ⟨Q,av',rfl,by have:=HBi.out;have:=HSZ.out;omega,tq6,hr6,hb6⟩
end Go.Proofs.YtkmakliebhnhbaaGreat
namespace Go.Proofs.YtkmakliebhnhbaaGreat
open Go.RowKit Go.Shelf
def StkR (W : World) (n₀ : Nat) (v : Value) (us : List Value) : Prop :=
  (v = .slice none 0 0 ∧ us = []) ∨ ∃ sb so cap cs,v = .slice (some ⟨sb,so,none⟩) us.length cap ∧ W.heap[sb]? = some (.cells cs 133 (0,0)) ∧ n₀ ≤ sb ∧ us.length ≤ cap ∧ cap ≤ maxLen ∧ so + cap ≤ cs.size ∧ ∀ (i : Nat) (u : Value),us[i]? = some u → cs[so + i]? = some u
def tptr (adr : Nat → Nat) (q : Nat) : Value:=.pointer (some ⟨adr q,0,none⟩)
theorem StkV.raw {W : World} {n₀ : Nat} {adr : Nat → Nat} {v : Value} {l : List Nat} (h : StkV W n₀ adr v l) : StkR W n₀ v (l.map (tptr adr)):=by
  rcases h with ⟨h1,h2⟩ | ⟨sb,so,cap,cs,h1,h2,h3,h4,h5,h6,h7⟩
  · exact .inl ⟨h1,by rw [h2];rfl⟩
  · refine .inr ⟨sb,so,cap,cs,by rw [List.length_map];exact h1,h2,h3,by rw [List.length_map];exact h4,h5,h6,fun i u hu=>?_⟩
    rw [List.getElem?_map] at hu
    cases hq : l[i]? with
    | none=>rw [hq] at hu;cases hu
    | some q=>rw [hq] at hu;injection hu with hu;rw [← hu];exact h7 i q hq
theorem StkR.cook {W : World} {n₀ : Nat} {adr : Nat → Nat} {v : Value} {l : List Nat} (h : StkR W n₀ v (l.map (tptr adr))) : StkV W n₀ adr v l:=by
  rcases h with ⟨h1,h2⟩ | ⟨sb,so,cap,cs,h1,h2,h3,h4,h5,h6,h7⟩
  · exact .inl ⟨h1,by cases l with
      | nil=>rfl
      | cons _ _=>cases h2⟩
  · rw [List.length_map] at h1 h4
    exact .inr ⟨sb,so,cap,cs,h1,h2,h3,h4,h5,h6,fun i q hq=>h7 i _ (by rw [List.getElem?_map,hq];rfl)⟩
theorem own_stk {W : World} {n₀ base : Nat} {v : Value} {n : Nat} {us : List Value} (h : W.ownsRow base 133 1 v n us) (hb : n₀ ≤ base) : StkR W n₀ v us ∧ n = us.length:=by
  obtain ⟨h0,h⟩:=h
  rw [Nat.mul_one] at h0
  rcases h with ⟨h1,h2⟩ | ⟨g,cap,cur,h1,h2,h3,h4,h5,h6,h7⟩
  · exact ⟨.inl ⟨h1,List.eq_nil_of_length_eq_zero (by omega)⟩,h0.symm⟩
  · refine ⟨.inr ⟨g,0,cap,cur,by rw [h0];exact h1,h3,by omega,by omega,h5,by omega,fun i u hu=>?_⟩,h0.symm⟩
    have hi:=(List.getElem?_eq_some_iff.1 hu).1
    rw [← h7,List.getElem?_take_of_lt (by omega)] at hu
    rw [Nat.zero_add,← Array.getElem?_toList]
    exact hu
theorem run_push {P : Program} (w : World) (t ty : TypeId) (i : TypeInfo) (z : Value) (bytes : Nat) (ht : P.underlying t = some (.slice 133)) (hi : P.info? 133 = some i) (hz : i.zero = some z)
    (hsize : i.size = 1) (hby : i.bytes = bytes) (hzs : z.cells.size = 1) (n₀ : Nat) (v : Value) (us : List Value) (hv : StkR w n₀ v us) (u : Value) (hu : u.oneCell' = true) (ad : Addr) (c : Nat) (hsrc : w.cell? ad = some u)
    (hlen : us.length ≤ 1000000) (hb8 : bytes ≤ 1000) (hn₀ : n₀ ≤ w.heap.size) :
    ∃ a' cap' w',(Builtin.append_ #[t,t] ty #[v,.slice (some ad) 1 c]).run P w = .ok (.slice a' (us.length + 1) cap') w' ∧ StkR w' n₀ (.slice a' (us.length + 1) cap') (us ++ [u]) ∧ w.grownBy w' (blkOf v) ∧ (blkOf (.slice a' (us.length + 1) cap') = blkOf v ∨ blkOf (.slice a' (us.length + 1) cap') = some w.heap.size):=by
  have hnews : ∀ (j : Nat) (x : Value),[u][j]? = some x → w.cell? (ad.add j) = some x:=fun j x hx=>by
    cases j with
    | zero=>simp at hx;subst hx;rw [show ad.add 0 = ad by unfold Addr.add;split <;> simp_all];exact hsrc
    | succ j=>simp at hx
  have hmul : (us.length + 1) * bytes ≤ (1000000 + 1) * 1000:=Nat.mul_le_mul (by omega) hb8
  rcases hv with ⟨rfl,rfl⟩ | ⟨sb,so,cap,cs,rfl,h2,h3,h4,h5,h6,h7⟩
  · obtain ⟨a',cap',w',k1,k2,k3,_,k5,_⟩:=run_app2 (P:=P) w n₀ t ty 133 i z 1 bytes ht hi hz hsize hby hzs (by decide) (.slice none 0 0) 0 [] (World.ownsRow_nil _ _ _ _) (.slice (some ad) 1 c) 1 [u] (.inr ⟨ad,c,rfl,rfl,hnews⟩) (by simpa using hu) (by unfold maxLen;omega) (by simp at hmul ⊢;omega) hn₀
    obtain ⟨g,cp,ea,_,_⟩:=k2.form (by omega)
    injection ea with ea eb ec
    subst ea ec
    refine ⟨_,_,w',k1,(own_stk k2 (Nat.le_refl _)).1,k3,?_⟩
    rcases k5 with k5 | k5
    · cases k5
    · exact .inr (by simpa [Value.ownBlock,blkOf] using k5)
  · by_cases hroom : us.length + 1 ≤ cap
    · have hin : so + us.length < cs.size:=by omega
      have hcell : w.cell? ⟨sb,so + us.length,none⟩ = cs[so + us.length]?:=by simp [World.cell?,h2]
      have hfz : w.frozen? ⟨sb,so + us.length,none⟩ = false:=by simp [World.frozen?,h2]
      have hr:=run_append_room_cells (P:=P) w t ty 133 i ht hi sb so us.length cap ad 1 c [u] (by rw [hsize];rfl) hnews (by simpa using hu) hroom
        (fun j hj=>by
          have : j = 0:=by simpa using hj
          subst this
          rw [hsize,Nat.mul_one,Nat.add_zero,hcell,Array.getElem?_eq_getElem hin];rfl)
        (fun j hj=>by
          have : j = 0:=by simpa using hj
          subst this
          rw [hsize,Nat.mul_one,Nat.add_zero];exact hfz)
      rw [hsize,Nat.mul_one] at hr
      refine ⟨_,_,_,hr,.inr ⟨sb,so,cap,cs.setIfInBounds (so + us.length) u,by rw [List.length_append];rfl,heap_set w sb (so + us.length) u cs _ h2,h3,by rw [List.length_append];exact hroom,h5,by simpa using h6,fun k x hk=>?_⟩,⟨rfl,rfl,rfl,by simp [World.setCells,World.setCell],fun k _ hk=>Below.heap_setCell _ _ _ _ (fun e=>hk (by have e : k = sb:=e;rw [e];rfl))⟩,.inl rfl⟩
      by_cases hkl : k < us.length
      · rw [List.getElem?_append_left hkl] at hk
        rw [Array.getElem?_setIfInBounds_ne (by omega)]
        exact h7 k x hk
      · have hk0:=(List.getElem?_eq_some_iff.1 hk).1
        simp only [List.length_append,List.length_singleton] at hk0
        obtain rfl : k = us.length:=by omega
        rw [List.getElem?_append_right (Nat.le_refl _),Nat.sub_self] at hk
        injection hk with hk
        subst hk
        rw [Array.getElem?_setIfInBounds_self,if_pos hin]
    · have holds : ∀ (j : Nat) (x : Value),us[j]? = some x → w.cell? ((⟨sb,so,none⟩ : Addr).add j) = some x:=fun j x hx=>by
        rw [Addr.add_lit]
        simp only [World.cell?,h2]
        exact h7 j x hx
      obtain ⟨v',w',hr,k1,k2⟩:=run_append_arg_grows (P:=P) w t ty 133 i z 1 bytes ht hi hz hsize hby hzs (by decide) ⟨sb,so,none⟩ us.length cap us (by rw [Nat.mul_one]) holds ad 1 c [u] rfl hnews (by omega) (by unfold maxLen;omega) (by omega)
      obtain ⟨g,cp,rfl,hg1,_⟩:=k1.form (by omega)
      refine ⟨_,_,w',hr,(own_stk k1 hn₀).1,⟨k2.os,k2.tape,k2.output,k2.size,fun k hk _=>k2.block k hk (by simp)⟩,.inr ?_⟩
      have hg:=run_append_grow (P:=P) w t ty 133 i z ht hi hz ⟨sb,so,none⟩ us.length cap us (by rw [hsize,Nat.mul_one]) holds ad 1 c [u] (by rw [hsize];rfl) hnews (by omega) (by simp only [maxLen] at h5;omega) (growslice_fits (by omega) (by rw [hby];omega))
      rw [hg] at hr
      injection hr with e1 e2
      injection e1 with e1 _ _
      rw [← e1]
      rfl
theorem wpList_push {P : Program} (w : World) {ops : Array Oper} {rest : List Oper} {o : Oper} {a : Act} {Q : Exit → Act → World → Prop} (hgd : o.guard = none) (s x : Operand) (t : TypeId)
    (ho : o.op = .call { callee:=.builtin .append,args:=#[s,x],argTypes:=#[t,t] })
    (i : TypeInfo) (z : Value) (bytes : Nat) (ht : P.underlying t = some (.slice 133)) (hi : P.info? 133 = some i) (hz : i.zero = some z)
    (hsize : i.size = 1) (hby : i.bytes = bytes) (hzs : z.cells.size = 1) (n₀ : Nat) (v : Value) (us : List Value) (hs : a.eval s = v) (hv : StkR w n₀ v us) (u : Value) (hu : u.oneCell' = true) (ad : Addr) (c : Nat) (hx : a.eval x = .slice (some ad) 1 c) (hsrc : w.cell? ad = some u)
    (hlen : us.length ≤ 1000000) (hb8 : bytes ≤ 1000) (hn₀ : n₀ ≤ w.heap.size)
    (h : ∀ a' cap' w',StkR w' n₀ (.slice a' (us.length + 1) cap') (us ++ [u]) → w.grownBy w' (blkOf v) → (blkOf (.slice a' (us.length + 1) cap') = blkOf v ∨ blkOf (.slice a' (us.length + 1) cap') = some w.heap.size) → wpList P ops Q rest (a.put o.dst (.slice a' (us.length + 1) cap')) w') : wpList P ops Q (o :: rest) a w:=by
  refine wpList_plain hgd fun K hK=>?_
  obtain ⟨a',cap',w',hr,h2,h3,h4⟩:=run_push (P:=P) w t o.type i z bytes ht hi hz hsize hby hzs n₀ v us hv u hu ad c hsrc hlen hb8 hn₀
  unfold Oper.wp execOp
  simp only [ho,resolve,invoke,builtin,Sem.run_bind,Sem.run_pure,Result.andThen_ok,List.map_toArray,List.map_cons,List.map_nil,hs,hx,hr]
  exact hK _ _ (h a' cap' w' h2 h3 h4)
theorem Tryz.infoTk : (Tryz.prog.info? 133).map (fun i=>(i.zero,i.size,i.bytes)) = some (some (.pointer none),1,8):=by kernel_rfl
end Go.Proofs.YtkmakliebhnhbaaGreat
