import Derived.Test.YtkmakliebhnhbaaGreatCrZ
import Derived.Test.YtkmakliebhnhbaaGreatMachU
import Derived.Test.YtkmakliebhnhbaaGreatMachN
import Derived.Test.YtkmakliebhnhbaaGreatSerB
namespace Go.Proofs.YtkmakliebhnhbaaGreat
open Go.RowKit Go.Shelf
attribute [local go_sem] Oper.semAt_some
theorem gift_small {fs : List (List Ins)} {nr : Nat} (hok : FsOk fs nr) (_hn0 : 0 < fs.length) (hn8 : fs.length ≤ 8) (hl10 : ∀ l ∈ fs,l.length ≤ 10) (f : Nat) : gift fs f ≤ 100000000:=by
  by_cases hf : f < fs.length
  · rw [← gift_len hok hf 0 0]
    have h1:=ser_len hl10 fs.length f 0 0
    have h2 : 10 ^ fs.length ≤ 10 ^ 8:=Nat.pow_le_pow_right (by omega) hn8
    omega
  · have : ∀ j,j ≤ fs.length → sizeF fs j f = (0,0):=by
      intro j
      induction j with
      | zero=>intro _;rfl
      | succ j ih =>
        intro hj
        rw [sizeF]
        dsimp only
        rw [if_neg (by omega)]
        exact ih (by omega)
    unfold gift
    rw [this _ (Nat.le_refl _)]
    omega
set_option maxRecDepth 100000 in
set_option maxHeartbeats 8000000 in
theorem crewRun_calls (fs : List (List Ins)) (reds : List Int) (cb workers : Nat) (script : List (Int × Int)) (sv : Value) (seed x : Int) (w : World) (hn0 : 0 < fs.length) (hn8 : fs.length ≤ 8) (hok : FsOk fs reds.length) (hl10 : ∀ l ∈ fs,l.length ≤ 10) (hr4 : reds.length ≤ 4) (hkd : ∀ k ∈ reds,1 ≤ k ∧ k ≤ 5) (hC : CodeP (Lt w.heap.size) w cb fs reds)
    (hw0 : 0 < workers) (hw8 : workers ≤ 8) (hsl : script.length ≤ 4000) (hsc : ∀ p ∈ script,i64 p.1 ∧ i64 p.2) (hf3 : framesF fs ≤ 300) (hsv : RdL (Lt w.heap.size) w 2 pickV sv script) :
    Calls Tryz.prog 42 #[.pointer (some ⟨cb,0,none⟩),.int .u64 seed,.int .i64 x,.int .i64 (workers : Int),sv] w fun e w'=>∃ N lv tv LV xs,Ends fs workers script seed x N ∧ e = .returned (.agg #[lv,tv,.int .i64 ((N + 1 : Nat) : Int),.int .i64 (stealsAt fs workers script seed x N : Nat),.int .i64 (failsAt fs workers script seed x N : Nat),.int .i64 (framesF fs)]) ∧
      OwnV w' w.heap.size lv reds.length (valsZ reds (traceZ fs seed x)) LV xs ∧ w'.ownsRow w.heap.size 89 3 tv (trAt fs workers script seed x N).length (evCells (trAt fs workers script seed x N)) ∧ Clear lv tv ∧ (∀ r,r < reds.length → Clear (LV r) tv) ∧ Below w.heap.size w w':=by
  obtain ⟨m,hm1⟩ : ∃ m : Nat,9 ≤ m:=⟨9,Nat.le_refl _⟩
  refine (callsIn_wide (n:=m)).1 ?_
  have hmix : Tryz.prog.follows .mixedOrders = true:=by kernel_rfl
  have hgs:=gift_small hok hn0 hn8 hl10
  obtain ⟨N,hN1,hN2,hN3,hN4,hN5,hN6⟩:=run_whole hok hl10 (by omega : 1 ≤ workers) hn0 script seed x
  have hfar:=far_start hok hl10 hn0 workers seed x
  have hN50 : N ≤ 50000:=by
    have : (far fs (start fs workers seed x) [(some 0,[0])] + 1) * workers ≤ 4200 * 8:=Nat.mul_le_mul (by omega) hw8
    omega
  have hends : Ends fs workers script seed x N:=⟨hN2,hN3⟩
  have hvals : valsZ reds (ordAt fs workers script seed x N) = valsZ reds (traceZ fs seed x):=by
    obtain ⟨n',_,he',hv'⟩:=run_told hok hl10 (by omega : 1 ≤ workers) hn0 script seed x
    rw [hends.one he']
    exact hv' reds
  have hlean:=lean_all hgs (by omega : 1 ≤ workers) hN4
  have hplace : ∀ k,k < N → ∀ r n p,rsAt fs workers script seed x k = .gave r n p → p < gift fs 0:=fun k hk r n p hg=>by
    have h1:=hN6 k hk r n p hg
    rw [← gift_len hok hn0 x seed]
    exact (List.getElem?_eq_some_iff.1 h1).1
  have hred : ∀ k,k < N → ∀ r n p,rsAt fs workers script seed x k = .gave r n p → ∃ q : Nat,r = q:=fun k hk r n p hg=>by
    have h1:=hN6 k hk r n p hg
    obtain ⟨q,hq,_⟩:=ser_r hok _ _ _ _ _ (List.mem_of_getElem? h1)
    exact ⟨q,hq⟩
  have hordr : ∀ k,k ≤ N → ∀ e ∈ ordAt fs workers script seed x k,∃ q : Nat,e.r = q:=by
    intro k
    induction k with
    | zero =>
      intro _ e he
      have:=(List.mem_replicate.1 (show e ∈ List.replicate (gift fs 0) (⟨0,0,0⟩ : Ev) from he)).2
      exact ⟨0,by rw [this];rfl⟩
    | succ k ih =>
      intro hk e he
      rw [ordAt] at he
      cases hq : rsAt fs workers script seed x k with
      | gave r n p =>
        rw [hq] at he
        rcases mem_set_of (show e ∈ (ordAt fs workers script seed x k).set p _ from he) with h | h
        · rw [h];exact hred k (by omega) r n p hq
        · exact ih (by omega) e h
      | went=>rw [hq] at he;exact ih (by omega) e he
      | stole=>rw [hq] at he;exact ih (by omega) e he
      | failed=>rw [hq] at he;exact ih (by omega) e he
      | done=>rw [hq] at he;exact ih (by omega) e he
  have HORD:=hide hordr
  clear hN1 hN4 hN5 hN6 hfar hN2 hN3 hred hordr
  obtain ⟨l0,hl0⟩ : ∃ l0,fs[0]? = some l0:=⟨_,List.getElem?_eq_getElem hn0⟩
  have hl0l:=hl10 l0 (List.mem_of_getElem? hl0)
  obtain ⟨sa,scap,hsf,hsc1,hsc2⟩:=hsv.form
  obtain ⟨i0,hi,hz0,hz1,hz2⟩:=info_parts Tryz.infoEvP
  have HC:=hide hC
  have HSV:=hide hsv
  have HPL:=hide hplace
  have HLE:=hide hlean
  have HEN:=hide hends
  have HVA:=hide hvals
  have Hok:=hide hok
  have Hl10:=hide hl10
  have Hkd:=hide hkd
  have Hsc:=hide hsc
  have HGS:=hide hgs
  have HL0:=hide hl0
  have g0:=hgs 0
  have HFC:=hide (cframes_calls w hC)
  obtain ⟨ff,hff⟩ : ∃ ff,framesF fs = ff:=⟨_,rfl⟩
  rw [hff] at HFC hf3 ⊢
  have HFF:=hide hff
  obtain ⟨ng,hng⟩ : ∃ ng,gift fs 0 = ng:=⟨_,rfl⟩
  rw [hng] at g0
  have HNG:=hide hng
  have HFR : Hid (∀ o,Calls Tryz.prog 52 #[.pointer (some ⟨cb,0,none⟩)] (w.alloc o) fun e W'=>e = .returned (.int .i64 ff) ∧ W' = w.alloc o):=fun o=>by
    have:=cframes_calls (w.alloc o) (hC.turn (S':=Lt w.heap.size) (fun b hb hlt=>⟨hb,Below.heap_alloc _ _ _ hlt⟩))
    rw [hff] at this
    exact this
  have HGF : Hid (∀ W1 : World,Below w.heap.size w W1 → Calls Tryz.prog 58 #[.pointer (some ⟨cb,0,none⟩),.int .i64 0] W1 fun e W'=>e = .returned (.int .i64 (ng : Int)) ∧ W' = W1):=fun W1 hb=>by
    have:=gifts_calls (f:=0) W1 (hC.turn (S':=Lt w.heap.size) (fun b hb' hlt=>⟨hb',hb.block b hlt⟩)) hn0
    rw [hng] at this
    exact this
  subst hsf
  have HNT : Hid (∀ W1 : World,Below w.heap.size w W1 → Calls Tryz.prog 59 #[.pointer (some ⟨cb,0,none⟩),.agg #[.int .i64 0,.int .i64 x,.int .u64 seed,.int .u64 0]] W1 fun e w'=>∃ B av,e = .returned (.pointer (some ⟨B,0,none⟩)) ∧ W1.heap.size ≤ B ∧ TkB w' B ⟨0,x,seed,0,l0,0,0,false,0,.root⟩ (.pointer none) av ∧ RdL (InsAt w') w' 5 Ins.vals av l0 ∧ Below W1.heap.size W1 w'):=fun W1 hb=>newTask_calls (f:=0) x seed W1 (hC.turn (S':=Lt w.heap.size) (fun b hb' hlt=>⟨hb',hb.block b hlt⟩)) hb.size hl0 (by omega)
  clear hC hsv hplace hlean hends hvals hok hl10 hkd hsc hgs hl0 hff hng
  refine callsIn_of_wp_marks Tryz.func42 rfl trivial ?_ rfl
  simp only [Tryz.ntmps42,List.size_toArray,List.length_cons,List.length_nil,Nat.reduceAdd,Nat.reduceSub,Array.replicate_succ,Array.replicate_zero,List.push_toArray,List.append_toArray,List.nil_append,List.cons_append]
  refine wpIn_wide.2 ?_
  go_wp2_with (first
    | (go_at_call 52;refine (HFR.out _).mono ?_;rintro e w' ⟨rfl,rfl⟩)
    | (go_at_call 58;refine (HGF.out _ (((Below.refl _ w).alloc (Nat.le_refl _) _).alloc (by simp) _)).mono ?_;rintro e w' ⟨rfl,rfl⟩)
    | (at_make;go_loud (refine wpList_make_full _ rfl _ _ 65 rfl w.heap.size 89 i0 (.agg #[.int .i64 0,.int .i64 0,.int .i64 0]) 3 Tryz.underlying65 hi hz0 hz1 _ _ _ _ ng rfl rfl rfl rfl (by rw [hz2];omega) (by unfold maxLen;omega) (by simp;omega) ?_)))
  intro w1 hown hgrow
  have hbw1 : Below w.heap.size w w1:=(((Below.refl _ w).alloc (Nat.le_refl _) _).alloc (by simp) _).grown hgrow (by simp;omega) (by simp)
  have hs1 : w.heap.size + 2 ≤ w1.heap.size:=by have:=hgrow.size;simpa using this
  have o0 : OutR w1 w.heap.size (.slice none 0 0) (.slice none 0 0) 0 0 0 0:=(hgrow.block _ (by simp;omega) (by simp)).trans ((Below.heap_alloc _ _ _ (by simp)).trans (World.alloc_heap_new w _))
  have o1 : OutR w1 (w.heap.size + 1) (.slice none 0 0) (.slice none 0 0) 0 0 0 ff:=(hgrow.block _ (by simp) (by simp)).trans (by
    have:=World.alloc_heap_new (w.alloc (.cells #[.slice none 0 0,.slice none 0 0,.int .i64 0,.int .i64 0,.int .i64 0,.int .i64 0] 69)) (.cells #[.slice none 0 0,.slice none 0 0,.int .i64 0,.int .i64 0,.int .i64 0,.int .i64 ff] 69)
    rw [World.size_alloc] at this
    exact this)
  rw [made_ev] at hown
  obtain ⟨W2,hW2⟩ : ∃ W2,w1.alloc (.cells #[.slice (some ⟨w.heap.size + 1 + 1,0,none⟩) ng ng] 65) = W2:=⟨_,rfl⟩
  obtain ⟨ib,hib⟩ : ∃ ib,w1.heap.size = ib:=⟨_,rfl⟩
  have hb12 : Below w1.heap.size w1 W2:=by rw [← hW2];exact (Below.refl _ w1).alloc (Nat.le_refl _) _
  have hs2 : W2.heap.size = ib + 1:=by rw [← hW2,← hib];simp
  have bib : Boxed W2 ib 65 (.slice (some ⟨w.heap.size + 1 + 1,0,none⟩) ng ng):=by rw [← hW2,← hib];exact Boxed.new w1 _ _
  have hbw2 : Below w.heap.size w W2:=hbw1.trans (hb12.mono hbw1.size)
  have HW2:=hide hW2
  have HOW:=hide hown
  have HO0:=hide o0
  have HO1:=hide o1
  have HB12:=hide hb12
  have HBW2:=hide hbw2
  have HIB:=hide hib
  clear hown hgrow o0 o1 hb12 hi hz0 hz1 hz2 hbw1 HFR HGF hbw2
  go_wp2_with (first
    | (go_at_call 49;refine (root_calls seed x _).mono ?_;rintro e wr ⟨rfl,hbr⟩)
    | (go_at_call 59;refine (HNT.out wr (HBW2.out.trans (hbr.mono HBW2.out.size))).mono ?_;rintro e w3 ⟨rb,rav,rfl,hrb,trb,rrb,hb3⟩)
    | (go_at_call 60;refine (steps_calls cb rb (workers : Int) sa script.length scap _).mono ?_;rintro e w' ⟨rfl,rfl⟩))
  refine (wpIn_wide (n:=m)).1 ?_
  obtain ⟨W4,hW4⟩ : ∃ W4,(((w3.alloc (.cells #[.pointer (some ⟨cb,0,none⟩)] 94)).alloc (.cells #[.pointer (some ⟨rb,0,none⟩)] 133)).alloc (.cells #[.int .i64 (workers : Int)] 3)).alloc (.cells #[.slice sa script.length scap] 27) = W4:=⟨_,rfl⟩
  have hs4 : W4.heap.size = w3.heap.size + 4:=by rw [← hW4];simp
  have hb34 : Below w3.heap.size w3 W4:=by rw [← hW4];exact ((((Below.refl _ w3).alloc (Nat.le_refl _) _).alloc (by simp) _).alloc (by simp;omega) _).alloc (by simp;omega) _
  have v0 : Boxed W4 w3.heap.size 94 (.pointer (some ⟨cb,0,none⟩)):=by rw [← hW4];exact (((Boxed.new w3 _ _).alloc _).alloc _).alloc _
  have v1 : Boxed W4 (w3.heap.size + 1) 133 (.pointer (some ⟨rb,0,none⟩)):=by
    have:=Boxed.new (w3.alloc (.cells #[.pointer (some ⟨cb,0,none⟩)] 94)) 133 (.pointer (some ⟨rb,0,none⟩))
    rw [World.size_alloc] at this
    rw [← hW4];exact (this.alloc _).alloc _
  have v2 : Boxed W4 (w3.heap.size + 2) 3 (.int .i64 (workers : Int)):=by
    have:=Boxed.new ((w3.alloc (.cells #[.pointer (some ⟨cb,0,none⟩)] 94)).alloc (.cells #[.pointer (some ⟨rb,0,none⟩)] 133)) 3 (.int .i64 (workers : Int))
    rw [World.size_alloc,World.size_alloc] at this
    rw [← hW4];exact this.alloc _
  have v3 : Boxed W4 (w3.heap.size + 3) 27 (.slice sa script.length scap):=by
    have:=Boxed.new (((w3.alloc (.cells #[.pointer (some ⟨cb,0,none⟩)] 94)).alloc (.cells #[.pointer (some ⟨rb,0,none⟩)] 133)).alloc (.cells #[.int .i64 (workers : Int)] 3)) 27 (.slice sa script.length scap)
    rw [World.size_alloc,World.size_alloc,World.size_alloc,hW4] at this
    exact this
  have hsr:=hbr.size
  have hs3:=hb3.size
  have hb24 : Below W2.heap.size W2 W4:=hbr.trans ((hb3.trans (hb34.mono hs3)).mono hsr)
  have hbw4 : Below w.heap.size w W4:=HBW2.out.trans (hb24.mono (by have:=HBW2.out.size;omega))
  have hiw : w1.heap.size = ib:=HIB.out
  have k12 : ∀ b,b < ib → W4.heap[b]? = w1.heap[b]?:=fun b hb=>(hb24.block b (by omega)).trans (HB12.out.block b (by omega))
  have hI0 : RunI fs workers script seed x w w.heap.size ib (w.heap.size + 1 + 1) ff 0 W4:=by
    refine ⟨⟨.slice none 0 0,(k12 _ (by omega)).trans HO1.out,World.ownsRow_nil _ _ _ _,by simp [Value.ownBlock]⟩,?_,?_,(k12 _ (by omega)).trans HO0.out,hbw4⟩
    · rw [HNG.out]
      show W4.ownsRow _ _ _ _ _ (evCells (List.replicate (gift fs 0) ⟨0,0,0⟩))
      rw [HNG.out]
      exact own_turn HOW.out (fun b hb hlt=>k12 b (by omega))
    · rw [HNG.out]
      exact (hb24.block ib (by omega)).trans bib
  rw [hW4]
  clear hW4
  rename_i K0 hK0
  refine range_keep (α:=Nat) rfl (by omega) (gf:=77) (lb:=#[.pointer (some ⟨w3.heap.size + 2,0,none⟩),.pointer (some ⟨w3.heap.size + 1,0,none⟩),.pointer (some ⟨w3.heap.size + 3,0,none⟩),.pointer (some ⟨w3.heap.size,0,none⟩)]) rfl trivial (enters_of Tryz.func77 (by kernel_rfl) rfl)
    (encs:=fun y=>#[rsV (turnM workers script y).1 (rsAt fs workers script seed x y)]) (fun _=>rfl) (KI w.heap.size (W4.heap.size + 1) (fun _=>False)) (fun h k=>h.trans k)
    (fun W o' hl=>⟨(Below.refl _ W).grown (grownBy_putObj' W _ o') (by omega) (fun k e=>by cases e;omega),fun k o hk h1 _ _=>(World.putObj_heap_other (by omega)).trans hk⟩)
    (fun pre W=>RunI fs workers script seed x w w.heap.size ib (w.heap.size + 1 + 1) ff pre.length W) (fun _ _ _=>False)
    (fun pre W o o' hi ho hc=>hi.put ho hc (by omega))
    (fun _ _ _ _ _ h _ _=>h)
    (fun o o'=>hI0.al (((Below.refl _ W4).alloc (Nat.le_refl _) o).alloc (by simp) o'))
    (S:=fun ys=>ys.length = N + 1) (ok:=fun pre y=>y = pre.length ∧ y ≤ N)
    ?seq
    (fun y a' W=>∃ Be,W.heap[Be]? = some (.cells #[.int .i64 (rsAt fs workers script seed x y).k,.int .i64 ((rsAt fs workers script seed x y).w (turnM workers script y).1),.int .i64 (rsAt fs workers script seed x y).r,.int .i64 (rsAt fs workers script seed x y).n,.int .i64 (rsAt fs workers script seed x y).p] 140 (0,0)) ∧ a' = { tmps:=#[.pointer (some ⟨cb,0,none⟩),.int .u64 seed,.int .i64 x,.int .i64 (workers : Int),.slice sa script.length scap,undef,undef,undef,undef,undef,.pointer (some ⟨w.heap.size,0,none⟩),.pointer (some ⟨w.heap.size + 1,0,none⟩),.pointer (some ⟨ib,0,none⟩),.pointer (some ⟨rb,0,none⟩),.pointer (some ⟨Be,0,none⟩),.pointer (some ⟨cb,0,none⟩),.int .i64 ff,.agg #[.int .i64 0,.int .i64 0,.int .i64 0,.int .i64 ff],.agg #[.slice none 0 0,.slice none 0 0,.int .i64 0,.int .i64 0,.int .i64 0,.int .i64 ff],.pointer (some ⟨cb,0,none⟩),.int .i64 (ng : Int),.slice (some ⟨w.heap.size + 1 + 1,0,none⟩) ng ng,.pointer (some ⟨cb,0,none⟩),.int .u64 seed,.int .i64 x,.agg #[.int .i64 0,.int .i64 x,.int .u64 seed,.int .u64 0],.pointer (some ⟨rb,0,none⟩),.pointer (some ⟨cb,0,none⟩),.pointer (some ⟨rb,0,none⟩),.int .i64 (workers : Int),.slice sa script.length scap,.func (.func 77) #[] #[.pointer (some ⟨w3.heap.size + 2,0,none⟩),.pointer (some ⟨w3.heap.size + 1,0,none⟩),.pointer (some ⟨w3.heap.size + 3,0,none⟩),.pointer (some ⟨w3.heap.size,0,none⟩)],rsV (turnM workers script y).1 (rsAt fs workers script seed x y),undef,undef,undef,undef,undef,undef,undef,undef,undef,undef,undef,undef,undef,undef,undef,undef,undef,undef,undef,undef,undef,undef,undef,undef,undef,undef,undef,undef,undef,undef,undef,undef,undef,undef,undef,undef,undef,undef,undef,undef,undef,undef,undef,undef,undef],defers:=[] })
    (fun y a' W o' hs hl hr=>by
      obtain ⟨Be,h2,h3⟩:=hs
      obtain ⟨r,hr⟩:=hr
      exact ⟨Be,(World.putObj_heap_other (fun e=>by rw [← e,h2] at hr;cases hr)).trans h2,h3⟩) ?assign ?body ?done ?stop
  case seq =>
    intro Rd Jx W1 hbl hsz hRd hJx hY hR1 hR2 hi0 hrd0
    have hb1 : ∀ b,b < W4.heap.size → W1.heap[b]? = W4.heap[b]?:=fun b hb=>hbl.block b hb
    have L : Told fs reds reds.length w.heap.size (W4.heap.size + 1) W1.heap.size cb workers N script seed x (fun k W=>RunI fs workers script seed x w w.heap.size ib (w.heap.size + 1 + 1) ff k W ∧ Rd W):=by
      refine ⟨fun k W W' hj ha=>⟨hj.1.ab ha rfl (by omega) (by omega),?_⟩,fun mm k W hj hk=>?_,fun k W hj=>(hR1 W hj.2).1,HLE.out,HEN.out,hN50,HGS.out,Hl10.out,hw0,hw8,Hsc.out,hsl,by omega,by omega⟩
      · obtain ⟨⟨r,h1⟩,h2⟩:=hR1 W hj.2
        exact hRd W W' hj.2 ((ha.keep _ _ h1 (.inr (.inl ⟨by omega,fun h=>h⟩))).trans h1.symm) ((ha.keep _ _ h2 (.inr (.inl ⟨by omega,fun h=>h⟩))).trans h2.symm)
      · have:=hY (List.range k) k W (by rw [List.length_range];exact hj.1) hj.2 ⟨by rw [List.length_range],hk⟩
        refine YieldAt.any mm (YieldAt.mono this (fun e W' h=>?_))
        rcases h with ⟨h1,h2,h3,h4⟩ | ⟨_,h2⟩
        · rw [List.length_append,List.length_range] at h2
          exact ⟨h1,⟨h2,h3⟩,h4⟩
        · obtain ⟨⟨c,hf⟩,_⟩:=hR2 _ _ h2
          exact hf.elim
    have hrt : TkAt W1 (fun _=>rb) rb ⟨0,x,seed,0,fs[0]?.getD [],0,0,false,0,.root⟩:=by
      rw [HL0.out]
      have hkp : ∀ b,b < w3.heap.size → W1.heap[b]? = w3.heap[b]?:=fun b hb=>(hb1 b (by omega)).trans (hb34.block b hb)
      exact TkAt.keep (W:=w3) ⟨rav,trb,rrb⟩ (hkp rb trb.lt) (fun b o hb _=>(hkp b (Array.getElem?_eq_some_iff.1 hb).1).trans hb)
    have hbw1' : Below w.heap.size w W1:=hbw4.trans (hbl.mono (by omega))
    have:=steps1 L (.slice sa script.length scap) W1 rfl (Boxed.cell ((hb1 _ (by omega)).trans v2)) (Boxed.cell ((hb1 _ (by omega)).trans v1)) (Boxed.cell ((hb1 _ (by omega)).trans v3)) ((hb1 _ (by omega)).trans v0) hrt (by omega) (HC.out.turn (fun b hb hlt=>⟨hb,hbw1'.block b hlt⟩)) (HSV.out.turn (fun b hb hlt=>⟨hb,hbw1'.block b hlt⟩) (fun y _=>List.cons_ne_nil _ _)) ⟨hi0,hrd0⟩
    exact (callsIn_wide.2 this).mono (fun e W' ⟨h1,h2,h3⟩=>⟨h1,.inl ⟨List.range (N + 1),by simp,by rw [List.length_range];exact h2,h3⟩⟩)
  case assign =>
    rintro pre y W K hi ⟨r,hr⟩ hK
    have hl:=(Array.getElem?_eq_some_iff.1 hr).1
    have hV : ∀ o,Below W.heap.size W (W.alloc o):=fun o=>(Below.refl _ W).alloc (Nat.le_refl _) _
    dsimp only [rsV]
    gi_wp2
    exact hK _ _ ⟨Below.heap_alloc _ _ _ hl,Below.heap_alloc _ _ _ (by omega)⟩ (KI.of_below (hV _) (by omega)) (hi.al (hV _)) ⟨W.heap.size,World.alloc_heap_new W _,rfl⟩
  case body =>
    rintro pre y a' W ⟨r,hr⟩ hD hi ⟨Be,hBe,rfl⟩ ⟨rfl,hkN⟩
    obtain ⟨tv,t1,t2,t3⟩:=hi.out
    obtain ⟨ta,tc,rfl⟩:=own_form t2
    have hsl1:=stealsAt_le (fs:=fs) (workers:=workers) (script:=script) (seed:=seed) (x:=x) pre.length
    have hfl1:=failsAt_le (fs:=fs) (workers:=workers) (script:=script) (seed:=seed) (x:=x) pre.length
    have htl1:=trAt_len (fs:=fs) (workers:=workers) (script:=script) (seed:=seed) (x:=x) pre.length
    have HST : Hid (stealsAt fs workers script seed x (pre.length + 1) = stealsAt fs workers script seed x pre.length + (rsAt fs workers script seed x pre.length).steal):=rfl
    have HFA : Hid (failsAt fs workers script seed x (pre.length + 1) = failsAt fs workers script seed x pre.length + (rsAt fs workers script seed x pre.length).fail):=rfl
    have HTR : Hid (trAt fs workers script seed x (pre.length + 1) = trAt fs workers script seed x pre.length ++ (rsAt fs workers script seed x pre.length).ev (turnM workers script pre.length).1):=rfl
    have HOR : Hid (ordAt fs workers script seed x (pre.length + 1) = (rsAt fs workers script seed x pre.length).put (turnM workers script pre.length).1 (ordAt fs workers script seed x pre.length)):=rfl
    obtain ⟨tw,htw⟩ : ∃ tw,(turnM workers script pre.length).1 = tw:=⟨_,rfl⟩
    obtain ⟨ns,hns⟩ : ∃ ns,stealsAt fs workers script seed x pre.length = ns:=⟨_,rfl⟩
    obtain ⟨nf,hnf⟩ : ∃ nf,failsAt fs workers script seed x pre.length = nf:=⟨_,rfl⟩
    obtain ⟨nt,hnt⟩ : ∃ nt,(trAt fs workers script seed x pre.length).length = nt:=⟨_,rfl⟩
    rw [hns,hnf] at t1
    rw [hns] at hsl1 HST
    rw [hnf] at hfl1 HFA
    rw [hnt] at t1 t2 t3 htl1
    rw [htw] at hBe HTR HOR
    have HNT2:=hide hnt
    obtain ⟨np,hnp⟩ : ∃ np,pre.length = np:=⟨_,rfl⟩
    have HNP:=hide hnp
    have q2:=t1.c2
    have q3:=t1.c3
    have q4:=t1.c4
    have q1:=t1.c1
    have z2:=t1.fz 2
    have z3:=t1.fz 3
    have z4:=t1.fz 4
    have sO:=t1.lt
    rw [hnp] at q2 hkN
    have b1 : (np : Int) ≤ 50000:=by omega
    have b2 : (0 : Int) ≤ np:=by omega
    have b3 : (ns : Int) ≤ 50000:=by omega
    have b4 : (0 : Int) ≤ ns:=by omega
    have b5 : (nf : Int) ≤ 50000:=by omega
    have b6 : (0 : Int) ≤ nf:=by omega
    have hsW:=hi.bel.size
    have HI:=hide hi
    have HR:=hide hr
    have HDD:=hide hD
    have HT1:=hide t1
    have HT2:=hide t2
    have HT3:=hide t3
    have hBl : Be < W.heap.size:=(Array.getElem?_eq_some_iff.1 hBe).1
    have hBne : Be ≠ w.heap.size + 1:=fun e=>by rw [e,show W.heap[w.heap.size + 1]? = _ from t1] at hBe;cases hBe
    have hBne':=Ne.symm hBne
    have FINE : ∀ (W' : World) (s' f' : Nat) (tv' : Value),(∀ b,b ≠ w.heap.size + 1 → W'.heap[b]? = W.heap[b]?) → Below w.heap.size W W' → OutR W' (w.heap.size + 1) (.slice none 0 0) (.slice ta nt tc) ((np : Int) + 1) (s' : Int) (f' : Int) ff → s' = stealsAt fs workers script seed x (pre.length + 1) → f' = failsAt fs workers script seed x (pre.length + 1) → trAt fs workers script seed x (pre.length + 1) = trAt fs workers script seed x pre.length → ordAt fs workers script seed x (pre.length + 1) = ordAt fs workers script seed x pre.length →
        (W'.heap[W4.heap.size + 1]? = W.heap[W4.heap.size + 1]? ∧ W'.heap[W4.heap.size]? = W.heap[W4.heap.size]?) ∧ KI w.heap.size (W4.heap.size + 1) (fun _=>False) W W' ∧ RunI fs workers script seed x w w.heap.size ib (w.heap.size + 1 + 1) ff (pre ++ [pre.length]).length W':=fun W' s' f' tv' hot hb ho hs hf htr hor=>by
      refine ⟨⟨hot _ (by omega),hot _ (by omega)⟩,⟨hb,fun b o hx h1 _ h3=>(hot b (fun e=>?_)).trans hx⟩,?_⟩
      · subst e
        rw [show W.heap[w.heap.size + 1]? = _ from HT1.out] at hx
        cases hx
        exact h3.2 rfl
      · rw [List.length_append,List.length_singleton]
        have hevk : ∀ (b : Nat) (o : Obj),W.heap[b]? = some o → isEv o → W'.heap[b]? = some o:=fun b o hx ho=>(hot b (fun e=>by
          subst e
          rw [show W.heap[w.heap.size + 1]? = _ from HT1.out] at hx
          cases hx
          exact (out_ok _).2 ho)).trans hx
        refine ⟨⟨.slice ta nt tc,?_,?_,HT3.out⟩,?_,(hot ib (by omega)).trans HI.out.bx,(hot _ (by omega)).trans HI.out.res,HI.out.bel.trans hb⟩
        · rw [← hs,← hf,show ((pre.length + 1 : Nat) : Int) = (np : Int) + 1 by have:=HNP.out;omega]
          exact ho
        · rw [htr,HNT2.out]
          exact own_isEv HT2.out hevk
        · rw [hor]
          exact own_isEv HI.out.ord hevk
    have HFI:=hide FINE
    clear FINE hi hr hD t1 t2 t3 htw hns hnf hnt hnp
    cases hrs : rsAt fs workers script seed x pre.length with
    | went =>
      rw [hrs] at hBe HST HFA HTR HOR
      simp only [Rs.k,Rs.w,Rs.r,Rs.n,Rs.p] at hBe
      simp only [Rs.steal,Rs.fail,Rs.ev,Rs.put,Nat.add_zero,List.append_nil] at HST HFA HTR HOR
      have g0 : W.cell? ⟨Be,0,none⟩ = some (.int .i64 0):=by simp [World.cell?,hBe]
      clear hBe
      gi_wp2
      refine HFI.out _ ns nf (.slice ta nt tc) (fun b hb=>Below.heap_setCell _ _ _ _ hb) ((Below.refl _ W).setCell (p:=⟨w.heap.size + 1,2,none⟩) (by simp) _) (HT1.out.s2 _) HST.out.symm HFA.out.symm HTR.out HOR.out
    | done =>
      rw [hrs] at hBe HST HFA HTR HOR
      simp only [Rs.k,Rs.w,Rs.r,Rs.n,Rs.p] at hBe
      simp only [Rs.steal,Rs.fail,Rs.ev,Rs.put,Nat.add_zero,List.append_nil] at HST HFA HTR HOR
      have g0 : W.cell? ⟨Be,0,none⟩ = some (.int .i64 4):=by simp [World.cell?,hBe]
      clear hBe
      gi_wp2
      refine HFI.out _ ns nf (.slice ta nt tc) (fun b hb=>Below.heap_setCell _ _ _ _ hb) ((Below.refl _ W).setCell (p:=⟨w.heap.size + 1,2,none⟩) (by simp) _) (HT1.out.s2 _) HST.out.symm HFA.out.symm HTR.out HOR.out
    | stole =>
      rw [hrs] at hBe HST HFA HTR HOR
      simp only [Rs.k,Rs.w,Rs.r,Rs.n,Rs.p] at hBe
      simp only [Rs.steal,Rs.fail,Rs.ev,Rs.put,Nat.add_zero,List.append_nil] at HST HFA HTR HOR
      have g0 : W.cell? ⟨Be,0,none⟩ = some (.int .i64 2):=by simp [World.cell?,hBe]
      clear hBe
      gi_wp2
      refine HFI.out _ (ns + 1) nf (.slice ta nt tc) (fun b hb=>(Below.heap_setCell _ _ _ _ hb).trans (Below.heap_setCell _ _ _ _ hb)) (((Below.refl _ W).setCell (p:=⟨w.heap.size + 1,2,none⟩) (by simp) _).setCell (p:=⟨w.heap.size + 1,3,none⟩) (by simp) _) ?_ HST.out.symm HFA.out.symm HTR.out HOR.out
      rw [show ((ns + 1 : Nat) : Int) = (ns : Int) + 1 by omega]
      exact (HT1.out.s2 _).s3 _
    | failed =>
      rw [hrs] at hBe HST HFA HTR HOR
      simp only [Rs.k,Rs.w,Rs.r,Rs.n,Rs.p] at hBe
      simp only [Rs.steal,Rs.fail,Rs.ev,Rs.put,Nat.add_zero,List.append_nil] at HST HFA HTR HOR
      have g0 : W.cell? ⟨Be,0,none⟩ = some (.int .i64 3):=by simp [World.cell?,hBe]
      clear hBe
      gi_wp2
      refine HFI.out _ ns (nf + 1) (.slice ta nt tc) (fun b hb=>(Below.heap_setCell _ _ _ _ hb).trans (Below.heap_setCell _ _ _ _ hb)) (((Below.refl _ W).setCell (p:=⟨w.heap.size + 1,2,none⟩) (by simp) _).setCell (p:=⟨w.heap.size + 1,4,none⟩) (by simp) _) ?_ HST.out.symm HFA.out.symm HTR.out HOR.out
      rw [show ((nf + 1 : Nat) : Int) = (nf : Int) + 1 by omega]
      exact (HT1.out.s2 _).s4 _
    | gave er en p =>
      have hkN' : pre.length < N:=by
        have h1:=HNP.out
        rcases Nat.lt_or_ge pre.length N with h | h
        · exact h
        · have h2 : pre.length = N:=by omega
          rw [h2,HEN.out.1] at hrs
          cases hrs
      have hpg:=HPL.out pre.length hkN' er en p hrs
      rw [hrs] at hBe HST HFA HTR HOR
      simp only [Rs.k,Rs.w,Rs.r,Rs.n,Rs.p] at hBe
      simp only [Rs.steal,Rs.fail,Rs.ev,Rs.put,Nat.add_zero] at HST HFA HTR HOR
      have g0 : W.cell? ⟨Be,0,none⟩ = some (.int .i64 1):=by simp [World.cell?,hBe]
      have g1 : W.cell? ⟨Be,1,none⟩ = some (.int .i64 (tw : Int)):=by simp [World.cell?,hBe]
      have g2 : W.cell? ⟨Be,2,none⟩ = some (.int .i64 er):=by simp [World.cell?,hBe]
      have g3 : W.cell? ⟨Be,3,none⟩ = some (.int .i64 en):=by simp [World.cell?,hBe]
      have HBE:=hide hBe
      clear hBe
      rw [HNG.out] at hpg
      obtain ⟨iv,hiv,hv0,hv1,hv2⟩:=info_parts Tryz.infoEvP
      obtain ⟨Wa,hWa⟩ : ∃ Wa,W.setCell ⟨w.heap.size + 1,2,none⟩ (.int .i64 ((np : Int) + 1)) = Wa:=⟨_,rfl⟩
      have hota : ∀ b,b ≠ w.heap.size + 1 → Wa.heap[b]? = W.heap[b]?:=fun b hb=>by rw [← hWa];exact Below.heap_setCell _ _ _ _ hb
      have hsa : Wa.heap.size = W.heap.size:=by rw [← hWa];simp [World.setCell]
      have hba : Below w.heap.size W Wa:=by rw [← hWa];exact (Below.refl _ W).setCell (p:=⟨w.heap.size + 1,2,none⟩) (by simp) _
      have hoa : OutR Wa (w.heap.size + 1) (.slice none 0 0) (.slice ta nt tc) ((np : Int) + 1) (ns : Int) (nf : Int) ff:=by rw [← hWa];exact HT1.out.s2 _
      have heva : ∀ (b : Nat) (o : Obj),W.heap[b]? = some o → isEv o → Wa.heap[b]? = some o:=fun b o hx ho=>(hota b (fun e=>by
          subst e
          rw [show W.heap[w.heap.size + 1]? = _ from HT1.out] at hx
          cases hx
          exact (out_ok _).2 ho)).trans hx
      have hra : Wa.ownsRow w.heap.size 89 3 (.slice ta nt tc) nt (evCells (trAt fs workers script seed x pre.length)):=own_isEv (by rw [← HNT2.out];have:=HT2.out;rw [← HNT2.out] at this;exact this) heva
      have hda : Wa.ownsRow w.heap.size 89 3 (.slice (some ⟨w.heap.size + 1 + 1,0,none⟩) ng ng) ng (evCells (ordAt fs workers script seed x pre.length)):=by
        have:=own_isEv HI.out.ord heva
        rw [HNG.out] at this
        exact this
      have hBa : Wa.heap[Be]? = some (.cells #[.int .i64 1,.int .i64 (tw : Int),.int .i64 er,.int .i64 en,.int .i64 (p : Int)] 140 (0,0)):=(hota Be hBne).trans HBE.out
      have ga0 : Wa.cell? ⟨Be,0,none⟩ = some (.int .i64 1):=by simp [World.cell?,hBa]
      have ga1 : Wa.cell? ⟨Be,1,none⟩ = some (.int .i64 (tw : Int)):=by simp [World.cell?,hBa]
      have ga2 : Wa.cell? ⟨Be,2,none⟩ = some (.int .i64 er):=by simp [World.cell?,hBa]
      have ga3 : Wa.cell? ⟨Be,3,none⟩ = some (.int .i64 en):=by simp [World.cell?,hBa]
      have HBa:=hide hBa
      have hBla : Be < Wa.heap.size:=by omega
      clear hBa g0 g1 g2 g3
      have HRA:=hide hra
      have HDA:=hide hda
      have HOA:=hide hoa
      have HOTA:=hide hota
      have HBA:=hide hba
      have HWA : Hid (W.setCell ⟨w.heap.size + 1,2,none⟩ (.int .i64 ((np : Int) + 1)) = Wa):=hWa
      clear hra hda hota hba heva
      have c1a:=hoa.c1
      clear hoa
      gi_wp2_with (gi_at_builtin;refine wpListIn_app2 _ rfl _ _ 65 rfl w.heap.size 89 iv _ 3 24 Tryz.underlying65 hiv hv0 hv1 hv2 rfl (by decide) _ _ _ rfl (HRA.out.alloc _) (.slice (some ⟨W.heap.size,0,none⟩) 1 1) 1 [.int .i64 (tw : Int),.int .i64 er,.int .i64 en] rfl (cells3 Wa _ _ _ _ _ hsa) (by simp [Value.oneCell']) ?h63 ?hbytes ?hbase ?_)
      case h63=>unfold maxLen;omega
      case hbytes=>omega
      case hbase=>simp;omega
      intro a2 cap2 w2 ho hg _ hlie _
      have k2 : ∀ k,k < W.heap.size → (Value.slice ta nt tc).ownBlock ≠ some k → w2.heap[k]? = Wa.heap[k]?:=fun k hk hne=>(hg.block k (by simp;omega) (fun e=>hne e.symm)).trans (Below.heap_alloc _ _ _ (by omega))
      have hrow : ∀ (k : Nat) (o : Obj),Wa.heap[k]? = some o → ¬ isEv o → (Value.slice ta nt tc).ownBlock ≠ some k:=fun k o hk ho e=>by
        rcases HRA.out.2 with ⟨h0,_⟩ | ⟨g,cap,cur,h0,_,hg,_⟩
        · rw [h0] at e;cases e
        · rw [h0] at e;injection e with e;subst e;rw [hk] at hg;cases hg;exact ho rfl
      have hkeep : ∀ (k : Nat) (o : Obj),Wa.heap[k]? = some o → ¬ isEv o → w2.heap[k]? = some o:=fun k o hk ho=>(k2 k (by have:=(Array.getElem?_eq_some_iff.1 hk).1;omega) (hrow k o hk ho)).trans hk
      have hob : w.heap.size + 1 + 1 < W.heap.size:=by have:=(HDA.out.lt (w.heap.size + 1 + 1) rfl).2;omega
      have hd2 : w2.ownsRow w.heap.size 89 3 (.slice (some ⟨w.heap.size + 1 + 1,0,none⟩) ng ng) ng (evCells (ordAt fs workers script seed x pre.length)):=own_turn HDA.out (fun b hb hlt=>k2 b (by omega) (fun e=>HT3.out (by
        rw [e]
        simpa [Value.ownBlock] using hb.symm)))
      have o2 : OutR w2 (w.heap.size + 1) (.slice none 0 0) (.slice ta nt tc) ((np : Int) + 1) (ns : Int) (nf : Int) ff:=hkeep _ _ HOA.out (out_ok _).2
      have e1:=o2.c1
      have e2:=o2.fz 1
      have hB2 : w2.heap[Be]? = some (.cells #[.int .i64 1,.int .i64 (tw : Int),.int .i64 er,.int .i64 en,.int .i64 (p : Int)] 140 (0,0)):=hkeep _ _ HBa.out (fun h=>absurd (show (140 : Nat) = 89 from h) (by decide))
      have gb1 : w2.cell? ⟨Be,1,none⟩ = some (.int .i64 (tw : Int)):=by simp [World.cell?,hB2]
      have gb2 : w2.cell? ⟨Be,2,none⟩ = some (.int .i64 er):=by simp [World.cell?,hB2]
      have gb3 : w2.cell? ⟨Be,3,none⟩ = some (.int .i64 en):=by simp [World.cell?,hB2]
      have gb4 : w2.cell? ⟨Be,4,none⟩ = some (.int .i64 (p : Int)):=by simp [World.cell?,hB2]
      have hx2 : Boxed w2 ib 65 (.slice (some ⟨w.heap.size + 1 + 1,0,none⟩) ng ng):=hkeep _ _ ((HOTA.out ib (by omega)).trans (by have:=HI.out.bx;rw [HNG.out] at this;exact this)) (lev_ok _).2
      have gx:=hx2.cell
      have hpn : p * 3 + 2 < ng * 3:=by omega
      have hdc : ∀ j,j < ng * 3 → (∃ u,w2.cell? ⟨w.heap.size + 1 + 1,j,none⟩ = some u) ∧ w2.frozen? ⟨w.heap.size + 1 + 1,j,none⟩ = false:=fun j hj=>by
        refine ⟨?_,hd2.frozenAt _⟩
        rw [hd2.cellAt _ hj]
        exact ⟨_,List.getElem?_eq_getElem (by rw [hd2.1];exact hj)⟩
      obtain ⟨⟨u0,y0⟩,f0⟩:=hdc (p * 3) (by omega)
      obtain ⟨⟨u1,y1⟩,f1⟩:=hdc (p * 3 + 1) (by omega)
      obtain ⟨⟨u2,y2⟩,f2⟩:=hdc (p * 3 + 2) (by omega)
      have hpi : (p : Int) < ng:=by omega
      have n1 : w.heap.size + 1 + 1 ≠ w.heap.size + 1:=by omega
      have n2 : ib ≠ w.heap.size + 1:=by omega
      have n3 : ib ≠ w.heap.size + 1 + 1:=by have:=(HOW.out.lt (w.heap.size + 1 + 1) rfl).2;omega
      have n4 : Be ≠ w.heap.size + 1 + 1:=fun e=>by
        have:=HDA.out
        rcases this.2 with ⟨h0,_⟩ | ⟨g,cap,cur,h0,_,hg,_⟩
        · cases h0
        · injection h0 with e1 _ _
          injection e1 with e1
          injection e1 with e1
          rw [← e1,← e,HBa.out] at hg
          cases hg
      have HOO:=hide ho
      have HGG:=hide hg
      have HKP:=hide hkeep
      have HK2:=hide k2
      have HO2:=hide o2
      have HD2:=hide hd2
      have HX2:=hide hx2
      have HLIE:=hide hlie
      clear ho hg k2 hrow hkeep o2 hlie hiv hv0 hv1 hv2 hB2 hx2 hdc hd2 ga0 ga1 ga2 ga3 c1a
      gi_wp2
      have hs2 : W.heap.size + 1 ≤ w2.heap.size:=by have:=HGG.out.size;simp at this;omega
      have hbn2 : Below w.heap.size W w2:=HBA.out.trans (((Below.refl _ Wa).alloc (by omega) _).grown HGG.out (by simp;omega) (fun q hq=>(HRA.out.lt q hq).1))
      obtain ⟨WF,hWF⟩ : ∃ WF,(((w2.setCell ⟨w.heap.size + 1,1,none⟩ (.slice a2 (nt + 1) cap2)).setCell ⟨w.heap.size + 1 + 1,p * 3,none⟩ (.int .i64 (tw : Int))).setCell ⟨w.heap.size + 1 + 1,p * 3 + 1,none⟩ (.int .i64 er)).setCell ⟨w.heap.size + 1 + 1,p * 3 + 2,none⟩ (.int .i64 en) = WF:=⟨_,rfl⟩
      have hotF : ∀ b,b ≠ w.heap.size + 1 → b ≠ w.heap.size + 1 + 1 → WF.heap[b]? = w2.heap[b]?:=fun b h1 h2=>by
        rw [← hWF,Below.heap_setCell _ _ _ _ h2,Below.heap_setCell _ _ _ _ h2,Below.heap_setCell _ _ _ _ h2,Below.heap_setCell _ _ _ _ h1]
      have hbF : Below w.heap.size W WF:=by
        rw [← hWF]
        exact (((hbn2.setCell (p:=⟨w.heap.size + 1,1,none⟩) (by simp) _).setCell (p:=⟨w.heap.size + 1 + 1,p * 3,none⟩) (by simp;omega) _).setCell (p:=⟨w.heap.size + 1 + 1,p * 3 + 1,none⟩) (by simp;omega) _).setCell (p:=⟨w.heap.size + 1 + 1,p * 3 + 2,none⟩) (by simp;omega) _
      have hobT : ∃ cs,Wa.heap[w.heap.size + 1 + 1]? = some (.cells cs 89 (0,0)):=by
        rcases HDA.out.2 with ⟨h0,_⟩ | ⟨g,cap,cur,h0,_,hg,_⟩
        · cases h0
        · injection h0 with e1 _ _
          injection e1 with e1
          injection e1 with e1
          rw [← e1] at hg
          exact ⟨cur,hg⟩
      have kk : ∀ (b : Nat) (o : Obj),W.heap[b]? = some o → ¬ isEv o → b ≠ w.heap.size + 1 → WF.heap[b]? = some o:=fun b o hb ho hne=>by
        have h1:=(HOTA.out b hne).trans hb
        refine (hotF b hne (fun e=>?_)).trans (HKP.out b o h1 ho)
        subst e
        obtain ⟨cs,hcs⟩:=hobT
        rw [hcs] at h1;cases h1;exact ho rfl
      have hro2 : (Value.slice a2 (nt + 1) cap2).ownBlock ≠ some (w.heap.size + 1 + 1):=by
        rcases HLIE.out with e | e
        · rw [e];exact HT3.out
        · rw [e];intro h;injection h with h;simp at h;omega
      have hro1 : (Value.slice a2 (nt + 1) cap2).ownBlock ≠ some (w.heap.size + 1):=fun e=>by
        rcases HOO.out.2 with ⟨h0,_⟩ | ⟨g,cap,cur,h0,_,hg,_⟩
        · rw [h0] at e;cases e
        · rw [h0] at e;injection e with e;subst e;rw [show w2.heap[w.heap.size + 1]? = _ from HO2.out] at hg;cases hg
      rw [hWF]
      have hl0:=(Array.getElem?_eq_some_iff.1 HR.out).1
      refine ⟨⟨(kk _ _ HR.out (fun h=>h) (by omega)).trans HR.out.symm,(kk _ _ HDD.out (fun h=>h) (by omega)).trans HDD.out.symm⟩,⟨hbF,fun b o hb h1 _ h3=>kk b o hb (fun h=>?_) (fun e=>?_)⟩,?_⟩
      · cases o <;> first | exact h | exact absurd h h3.1
      · subst e
        rw [show W.heap[w.heap.size + 1]? = _ from HT1.out] at hb
        cases hb
        exact h3.2 rfl
      · show RunI fs workers script seed x w w.heap.size ib (w.heap.size + 1 + 1) ff (pre ++ [pre.length]).length WF
        rw [List.length_append,List.length_singleton]
        refine ⟨⟨.slice a2 (nt + 1) cap2,?_,?_,hro2⟩,?_,?_,?_,HI.out.bel.trans hbF⟩
        · rw [HST.out,HFA.out,show ((pre.length + 1 : Nat) : Int) = (np : Int) + 1 by have:=HNP.out;omega]
          have hx : OutR (w2.setCell ⟨w.heap.size + 1,1,none⟩ (.slice a2 (nt + 1) cap2)) (w.heap.size + 1) (.slice none 0 0) (.slice a2 (nt + 1) cap2) ((np : Int) + 1) (ns : Int) (nf : Int) ff:=HO2.out.s1 _
          have n1':=Ne.symm n1
          exact (show WF.heap[w.heap.size + 1]? = _ by rw [← hWF,Below.heap_setCell _ _ _ _ n1',Below.heap_setCell _ _ _ _ n1',Below.heap_setCell _ _ _ _ n1']).trans hx
        · rw [HTR.out,List.length_append,HNT2.out,evCells_append]
          exact own_turn HOO.out (fun b hb _=>hotF b (fun e=>hro1 (by rw [hb,e])) (fun e=>hro2 (by rw [hb,e])))
        · rw [HOR.out,HNG.out]
          have hz : (w2.setCell ⟨w.heap.size + 1,1,none⟩ (.slice a2 (nt + 1) cap2)).ownsRow w.heap.size 89 3 (.slice (some ⟨w.heap.size + 1 + 1,0,none⟩) ng ng) ng (evCells (ordAt fs workers script seed x pre.length)):=own_turn HD2.out (fun b hb _=>Below.heap_setCell _ _ _ _ (fun e=>by
            have e1 : b = w.heap.size + 1 + 1:=by simpa [Value.ownBlock] using hb.symm
            have e2 : b = w.heap.size + 1:=e
            omega))
          have:=row_event hz hpg ⟨(tw : Int),er,en⟩
          dsimp only at this
          rw [hWF] at this
          exact this
        · rw [HNG.out]
          exact (hotF ib n2 n3).trans HX2.out
        · exact kk _ _ HI.out.res (out_ok _).2 (by omega)
  case done =>
    rintro ys W hS hi hD ⟨r,hr⟩
    have hS' : ys.length = N + 1:=hS
    rw [hS'] at hi
    obtain ⟨tv,t1,t2,t3⟩:=hi.out
    have hdn:=HEN.out.1
    have hordN : ordAt fs workers script seed x (N + 1) = ordAt fs workers script seed x N:=by rw [ordAt,hdn];rfl
    have htrN : trAt fs workers script seed x (N + 1) = trAt fs workers script seed x N:=by rw [trAt,hdn];exact List.append_nil _
    have hstN : stealsAt fs workers script seed x (N + 1) = stealsAt fs workers script seed x N:=by rw [stealsAt,hdn];rfl
    have hfaN : failsAt fs workers script seed x (N + 1) = failsAt fs workers script seed x N:=by rw [failsAt,hdn];rfl
    rw [htrN] at t2
    rw [hstN,hfaN] at t1
    have hord:=hi.ord
    rw [hordN,HNG.out] at hord
    obtain ⟨evs,hevs⟩ : ∃ evs,ordAt fs workers script seed x N = evs:=⟨_,rfl⟩
    have hevl : evs.length = ng:=by rw [← hevs,ordAt_len,HNG.out]
    have hnn : ∀ e ∈ evs,∃ q : Nat,e.r = q:=fun e he=>HORD.out N (Nat.le_refl _) e (by rw [hevs];exact he)
    have hvl : valsZ reds evs = valsZ reds (traceZ fs seed x):=by rw [← hevs];exact HVA.out
    rw [hevs] at hord
    obtain ⟨ta,tc,rfl⟩:=own_form t2
    have hsW:=hi.bel.size
    have hCW : CodeP (Lt w.heap.size) W cb fs reds:=HC.out.turn (fun b hb hlt=>⟨hb,hi.bel.block b hlt⟩)
    have HKN : Hid (Calls Tryz.prog 51 #[.pointer (some ⟨cb,0,none⟩)] W.drew fun e W2=>e = .returned (.func (.func 99) #[] #[.pointer (some ⟨W.heap.size,0,none⟩)]) ∧ Below W.heap.size W W2 ∧
        Calls Tryz.prog 50 #[.func (.func 99) #[] #[.pointer (some ⟨W.heap.size,0,none⟩)],.slice (some ⟨w.heap.size + 1 + 1,0,none⟩) ng ng] W2 fun e W3=>∃ lv LV xs,e = .returned lv ∧ OwnV W3 W.heap.size lv reds.length (valsZ reds (traceZ fs seed x)) LV xs ∧ Below W.heap.size W W3):=by
      refine (kinds_calls W.drew (S:=Lt w.heap.size) (fs:=fs) (reds:=reds) (cb:=cb) hCW).mono (fun e W2 ⟨ka,kc,he,hw2,hrd⟩=>?_)
      have hb2 : Below W.heap.size W W2:=by rw [hw2];exact (Below.refl _ W).drew.alloc (Nat.le_refl _) _
      have hs2 : W2.heap.size = W.heap.size + 1:=by rw [hw2];simp
      have hbx : Boxed W2 W.heap.size 30 (.slice ka reds.length kc):=by rw [hw2];exact Boxed.new W.drew _ _
      refine ⟨he,hb2,?_⟩
      rw [← hvl]
      refine (gather_calls reds evs W.heap.size (.slice ka reds.length kc) (.slice (some ⟨w.heap.size + 1 + 1,0,none⟩) ng ng) W2 Hkd.out hr4 (by omega) (by omega) hbx.cell (hrd.turn (fun b hb hlt=>⟨by have : b < w.heap.size:=hb;show b < W2.heap.size;omega,hb2.block b hlt⟩) (fun x _=>by simp [int64s])) ?_ hnn).mono (fun e W3 ⟨lv,LV,xs,h1,h2,h3⟩=>⟨lv,LV,xs,h1,h2.base (by omega),hb2.trans (h3.mono (by omega))⟩)
      refine own_rd (base:=w.heap.size) (e:=89) (by rw [← evCells_flat,hevl];exact own_below hord hb2) evvals_len (fun b hb=>?_)
      have:=(hord.lt b hb).2
      show b < W2.heap.size
      omega
    have hxi:=hi.bx
    rw [HNG.out] at hxi
    have cx:=hxi.cell
    have sX:=hxi.lt
    have sO:=t1.lt
    have HI:=hide hi
    have HT1:=hide t1
    have HT2:=hide t2
    have HDD:=hide hD
    have HR:=hide hr
    clear hi t1 t2 t3 hD hr hnn hCW hord hxi hevs hevl hvl hS hordN htrN hstN hfaN hdn
    refine hK0 _ _ ?_
    clear hK0
    have nx:=World.new_ne W _ cx
    obtain ⟨nt,hnt⟩ : ∃ nt,(trAt fs workers script seed x N).length = nt:=⟨_,rfl⟩
    rw [hnt] at HT1 HT2
    have HNT3:=hide hnt
    clear hnt
    go_wp2
    rename_i K1 hK1
    go_region_held3 (fun w'=>w'.cell? ⟨ib,0,none⟩ = some (.slice (some ⟨w.heap.size + 1 + 1,0,none⟩) ng ng)) (go_keep)
      ((first
        | (go_at_call 51;refine HKN.out.mono ?_;rintro e W2 ⟨rfl,hb2,hgv⟩
           have k1 : W2.cell? ⟨ib,0,none⟩ = some (.slice (some ⟨w.heap.size + 1 + 1,0,none⟩) ng ng):=(hb2.cell (p:=⟨ib,0,none⟩) sX).trans cx)
        | (go_at_call 50;refine hgv.mono ?_;rintro e W3 ⟨lv,LV,xs,rfl,hOV,hb3⟩
           obtain ⟨va,vc,rfl⟩:=own_form hOV.row
           have k3 : W3.cell? ⟨ib,0,none⟩ = some (.slice (some ⟨w.heap.size + 1 + 1,0,none⟩) ng ng):=(hb3.cell (p:=⟨ib,0,none⟩) sX).trans cx
           have p1 : OutR W3 (w.heap.size + 1) (.slice none 0 0) (.slice ta nt tc) ((N + 1 : Nat) : Int) (stealsAt fs workers script seed x N : Nat) (failsAt fs workers script seed x N : Nat) ff:=(hb3.block _ sO).trans HT1.out
           have p0:=p1.c0
           have pf:=p1.fz 0
           have nib : ib ≠ w.heap.size + 1:=by omega
           have nib' : w.heap.size + 1 ≠ ib:=by omega)))
    refine hK1 _ _ ?_
    clear hK1
    obtain ⟨nst,hnst⟩ : ∃ nst,stealsAt fs workers script seed x N = nst:=⟨_,rfl⟩
    obtain ⟨nfa,hnfa⟩ : ∃ nfa,failsAt fs workers script seed x N = nfa:=⟨_,rfl⟩
    rw [hnst,hnfa] at p1
    have HNS3:=hide hnst
    have HNF3:=hide hnfa
    obtain ⟨nz,hnz⟩ : ∃ nz : Int,((N + 1 : Nat) : Int) = nz:=⟨_,rfl⟩
    rw [hnz] at p1
    have HNZ:=hide hnz
    have hsz3:=hb3.size
    obtain ⟨W5,hW5⟩ : ∃ W5,W3.setCell ⟨w.heap.size + 1,0,none⟩ (.slice va reds.length vc) = W5:=⟨_,rfl⟩
    have q2 : OutR W5 (w.heap.size + 1) (.slice va reds.length vc) (.slice ta nt tc) nz nst nfa ff:=by rw [← hW5];exact p1.s0 _
    have r2 : OutR W5 w.heap.size (.slice none 0 0) (.slice none 0 0) 0 0 0 0:=by rw [← hW5];exact (Below.heap_setCell _ _ _ _ (show w.heap.size ≠ w.heap.size + 1 by omega)).trans ((hb3.block _ HI.out.res.lt).trans HI.out.res)
    have hk4 : ∀ k,k ≠ w.heap.size + 1 → W5.heap[k]? = W3.heap[k]?:=fun k hk=>by rw [← hW5];exact Below.heap_setCell _ _ _ _ hk
    have hs5 : W5.heap.size = W3.heap.size:=by rw [← hW5];simp [World.setCell]
    have hb4 : Below w.heap.size w W5:=by rw [← hW5];exact (HI.out.bel.trans (hb3.mono hsW)).setCell (p:=⟨w.heap.size + 1,0,none⟩) (by simp) _
    rw [hW5]
    have a0:=q2.c0
    have a1:=q2.c1
    have a2:=q2.c2
    have a3:=q2.c3
    have a4:=q2.c4
    have a5:=q2.c5
    have zz0:=r2.c0
    have zz1:=r2.c1
    have zz2:=r2.c2
    have zz3:=r2.c3
    have zz4:=r2.c4
    have zz5:=r2.c5
    have zf0:=r2.fz 0
    have zf1:=r2.fz 1
    have zf2:=r2.fz 2
    have zf3:=r2.fz 3
    have zf4:=r2.fz 4
    have zf5:=r2.fz 5
    have nH : w.heap.size ≠ w.heap.size + 1:=by omega
    have nH' : w.heap.size + 1 ≠ w.heap.size:=by omega
    have HR2:=hide r2
    have HOV:=hide hOV
    have HK4:=hide hk4
    have HS5:=hide hs5
    have HB4:=hide hb4
    have HB3:=hide hb3
    clear q2 r2 hOV hk4 hs5 hb4 hb3 hW5 hnst hnfa hnz p0 pf p1 k1 k3 hgv cx
    go_wp2
    have hHne : ∀ (b : Nat),b ≠ w.heap.size → b ≠ w.heap.size + 1 → ((((((W5.setCell ⟨w.heap.size,0,none⟩ (.slice va reds.length vc)).setCell ⟨w.heap.size,1,none⟩ (.slice ta nt tc)).setCell ⟨w.heap.size,2,none⟩ (.int .i64 nz)).setCell ⟨w.heap.size,3,none⟩ (.int .i64 nst)).setCell ⟨w.heap.size,4,none⟩ (.int .i64 nfa)).setCell ⟨w.heap.size,5,none⟩ (.int .i64 ff)).heap[b]? = W3.heap[b]?:=fun b h1 h2=>by
      rw [Below.heap_setCell _ _ _ _ h1,Below.heap_setCell _ _ _ _ h1,Below.heap_setCell _ _ _ _ h1,Below.heap_setCell _ _ _ _ h1,Below.heap_setCell _ _ _ _ h1,Below.heap_setCell _ _ _ _ h1]
      exact HK4.out b h2
    have hres : OutR ((((((W5.setCell ⟨w.heap.size,0,none⟩ (.slice va reds.length vc)).setCell ⟨w.heap.size,1,none⟩ (.slice ta nt tc)).setCell ⟨w.heap.size,2,none⟩ (.int .i64 nz)).setCell ⟨w.heap.size,3,none⟩ (.int .i64 nst)).setCell ⟨w.heap.size,4,none⟩ (.int .i64 nfa)).setCell ⟨w.heap.size,5,none⟩ (.int .i64 ff)) w.heap.size (.slice va reds.length vc) (.slice ta nt tc) nz nst nfa ff :=
      heap_set _ w.heap.size 5 _ _ _ (heap_set _ w.heap.size 4 _ _ _ (heap_set _ w.heap.size 3 _ _ _ (heap_set _ w.heap.size 2 _ _ _ (heap_set _ w.heap.size 1 _ _ _ (heap_set _ w.heap.size 0 _ _ _ HR2.out)))))
    have hbel : Below w.heap.size w ((((((W5.setCell ⟨w.heap.size,0,none⟩ (.slice va reds.length vc)).setCell ⟨w.heap.size,1,none⟩ (.slice ta nt tc)).setCell ⟨w.heap.size,2,none⟩ (.int .i64 nz)).setCell ⟨w.heap.size,3,none⟩ (.int .i64 nst)).setCell ⟨w.heap.size,4,none⟩ (.int .i64 nfa)).setCell ⟨w.heap.size,5,none⟩ (.int .i64 ff)) :=
      (((((HB4.out.setCell (p:=⟨w.heap.size,0,none⟩) (Nat.le_refl _) _).setCell (p:=⟨w.heap.size,1,none⟩) (Nat.le_refl _) _).setCell (p:=⟨w.heap.size,2,none⟩) (Nat.le_refl _) _).setCell (p:=⟨w.heap.size,3,none⟩) (Nat.le_refl _) _).setCell (p:=⟨w.heap.size,4,none⟩) (Nat.le_refl _) _).setCell (p:=⟨w.heap.size,5,none⟩) (Nat.le_refl _) _
    generalize ((((((W5.setCell ⟨w.heap.size,0,none⟩ (.slice va reds.length vc)).setCell ⟨w.heap.size,1,none⟩ (.slice ta nt tc)).setCell ⟨w.heap.size,2,none⟩ (.int .i64 nz)).setCell ⟨w.heap.size,3,none⟩ (.int .i64 nst)).setCell ⟨w.heap.size,4,none⟩ (.int .i64 nfa)).setCell ⟨w.heap.size,5,none⟩ (.int .i64 ff)) = WF at hHne hres hbel ⊢
    have hlW:=(Array.getElem?_eq_some_iff.1 HDD.out).1
    have hD3 : WF.heap[w3.heap.size + 4]? = some (.deferred (some [])):=by
      rw [hHne _ (by omega) (by omega),HB3.out.block _ (by omega),← hs4]
      exact HDD.out
    refine ⟨by simp,.inl ⟨_,_,rfl,run_takeDeferred hD3,?_⟩⟩
    have hput : ∀ (k : Nat) (o : Obj),WF.heap[k]? = some o → o.isCells = true → (WF.putObj (w3.heap.size + 4) (.deferred none)).heap[k]? = some o:=fun k o hk ho=>(World.putObj_heap_other (fun e=>by subst e;rw [hD3] at hk;cases hk;cases ho)).trans hk
    have hresD : OutR (WF.putObj (w3.heap.size + 4) (.deferred none)) w.heap.size (.slice va reds.length vc) (.slice ta nt tc) nz nst nfa ff:=hput _ _ hres rfl
    have y0:=hresD.c0
    have y1:=hresD.c1
    have y2:=hresD.c2
    have y3:=hresD.c3
    have y4:=hresD.c4
    have y5:=hresD.c5
    have hlv : ∀ b,(Value.slice va reds.length vc).ownBlock = some b → W.heap.size ≤ b:=fun b hb=>(HOV.out.row.lt b hb).1
    have hLV : ∀ r b,r < reds.length → (LV r).ownBlock = some b → W.heap.size ≤ b:=fun r b hr hb=>((HOV.out.own r hr).lt b hb).1
    have htv : ∀ b,(Value.slice ta nt tc).ownBlock = some b → b < W.heap.size:=fun b hb=>(HT2.out.lt b hb).2
    refine ⟨.agg #[.slice va reds.length vc,.slice ta nt tc,.int .i64 nz,.int .i64 nst,.int .i64 nfa,.int .i64 ff],by simp only [results,Tryz.f42,go_sem];simp [go_sem,y0,y1,y2,y3,y4,y5],N,_,_,LV,xs,HEN.out,by rw [HNZ.out,HNS3.out,HNF3.out],?_,?_,fun b hb e=>by have:=hlv b hb;have:=htv b e;omega,fun r hr b hb e=>by have:=hLV r b hr hb;have:=htv b e;omega,hbel.trans (belowK_b (w:=w) (Nat.le_refl _) WF (w3.heap.size + 4) _ _ (by omega) hD3 rfl rfl)⟩
    · refine (ownV_turn HOV.out (fun b hb hlt=>?_)).base (by omega)
      rw [World.putObj_heap_other (by omega),hHne b (by omega) (by omega)]
    · rw [HNT3.out]
      refine own_isEv HT2.out (fun k o hk ho=>?_)
      have hkl:=(Array.getElem?_eq_some_iff.1 hk).1
      have hc : o.isCells = true:=by cases o <;> first | rfl | exact ho.elim
      refine hput k o ?_ hc
      rw [hHne k (fun e=>?_) (fun e=>?_),HB3.out.block k hkl,hk]
      · subst e;rw [show W.heap[w.heap.size]? = _ from HI.out.res] at hk;cases hk;exact (out_ok _).2 ho
      · subst e;rw [show W.heap[w.heap.size + 1]? = _ from HT1.out] at hk;cases hk;exact (out_ok _).2 ho
  case stop =>
    rintro c pre W h _
    exact h.elim
end Go.Proofs.YtkmakliebhnhbaaGreat
