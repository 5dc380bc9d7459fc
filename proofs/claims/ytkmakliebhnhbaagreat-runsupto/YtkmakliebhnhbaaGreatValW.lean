import Derived.OwnWalkIn
import Derived.RangeFuncNested
import Derived.Test.YtkmakliebhnhbaaGreatVals
import Derived.Test.YtkmakliebhnhbaaGreatGiv
import Derived.Test.YtkmakliebhnhbaaGreatKeep
namespace Go.Proofs.YtkmakliebhnhbaaGreat
open Go.RowKit
theorem wpListIn_app2 {F : Fence} {nn : Nat} {P : Program} (w : World) {ops : Array Oper} {rest : List Oper} {o : Oper} {a : Act} {Q : Exit → Act → World → Prop} (hgd : o.guard = none) (s x : Operand) (t : TypeId)
  (ho : o.op = .call { callee:=.builtin .append,args:=#[s,x],argTypes:=#[t,t] })
  (base : Nat) (e : TypeId) (i : TypeInfo) (z : Value) (size bytes : Nat) (ht : P.underlying t = some (.slice e)) (hi : P.info? e = some i) (hz : i.zero = some z)
  (hsize : i.size = size) (hby : i.bytes = bytes) (hzs : z.cells.size = size) (hsz : 0 < size)
  (v : Value) (n : Nat) (xs : List Value) (hs : a.eval s = v) (hown : w.ownsRow base e size v n xs)
  (xv : Value) (m : Nat) (news : List Value) (hx : a.eval x = xv) (hsrc : AppSrc w size xv m news) (h1 : ∀ u ∈ news,u.oneCell' = true)
  (h63 : n + m ≤ maxLen) (hbytes : (n + m) * bytes ≤ 140737488355328) (hbase : base ≤ w.heap.size)
  (h : ∀ a' cap' w',w'.ownsRow base e size (.slice a' (n + m) cap') (n + m) (xs ++ news) → w.grownBy w' v.ownBlock → w'.ownsRow base e size v n xs →
   ((Value.slice a' (n + m) cap').ownBlock = v.ownBlock ∨ (Value.slice a' (n + m) cap').ownBlock = some w.heap.size) → AppWay w w' v n a' cap' → wpListIn F nn P ops Q rest (a.put o.dst (.slice a' (n + m) cap')) w') : wpListIn F nn P ops Q (o :: rest) a w:=by
 refine wpListIn_plain hgd fun K hK=>?_
 obtain ⟨a',cap',w',hr,h2,h3,h4,h5,h6⟩:=run_app2 (P:=P) w base t o.type e i z size bytes ht hi hz hsize hby hzs hsz v n xs hown xv m news hsrc h1 h63 hbytes hbase
 unfold Oper.wpIn
 refine ⟨?_,?_⟩
 ·simp [Oper.about,ho,resolve,Target.leads,Sem.run_pure]
 ·rw [Oper.semAt_plain F _ _ (by rw [ho];intro c hc';cases hc')]
  unfold execOp
  simp only [ho,resolve,invoke,builtin,Sem.run_bind,Sem.run_pure,Result.andThen_ok,List.map_toArray,List.map_cons,List.map_nil,hs,hx,hr]
  exact hK _ _ (h a' cap' w' h2 h3 h4 h5 h6)
end Go.Proofs.YtkmakliebhnhbaaGreat
namespace Go.Proofs.YtkmakliebhnhbaaGreat
open Go.RowKit Go.Shelf
attribute [local go_sem] Oper.semAt_some
def redV (evs : List Ev) (p : Nat × Int) : Val:=evs.foldl (fun v e=>if e.r = (p.1 : Int) then giveZ p.2 e.n v else v) val0
theorem redV_take {evs : List Ev} {p : Nat × Int} {k : Nat} {e : Ev} (h : evs[k]? = some e) : redV (evs.take (k + 1)) p = if e.r = (p.1 : Int) then giveZ p.2 e.n (redV (evs.take k) p) else redV (evs.take k) p:=by
 rw [take_succ_of h,redV,List.foldl_append];rfl
theorem redV_len (evs : List Ev) (p : Nat × Int) : (redV evs p).l.length ≤ evs.length:=by
 suffices h : ∀ (evs : List Ev) (v : Val),(evs.foldl (fun v e=>if e.r = (p.1 : Int) then giveZ p.2 e.n v else v) v).l.length ≤ v.l.length + evs.length by
  have:=h evs val0
  simpa [redV,val0] using this
 intro evs
 induction evs with
 | nil=>intro v;simp
 | cons e t ih =>
  intro v
  have:=ih (if e.r = (p.1 : Int) then giveZ p.2 e.n v else v)
  have h2 : (if e.r = (p.1 : Int) then giveZ p.2 e.n v else v).l.length ≤ v.l.length + 1:=by
   split
   ·exact giveZ_len _ _ _
   ·omega
  simp only [List.foldl_cons,List.length_cons]
  omega
theorem redV_vals {reds : List Int} {evs : List Ev} {r : Nat} {k : Int} (hr : reds[r]? = some k) (hn : ∀ e ∈ evs,∃ q : Nat,e.r = q) : redV evs (r,k) = valsZ reds evs r:=by
 suffices h : ∀ (evs : List Ev) (V : Nat → Val),(∀ e ∈ evs,∃ q : Nat,e.r = q) → evs.foldl (fun v e=>if e.r = ((r,k).1 : Int) then giveZ (r,k).2 e.n v else v) (V r) = evs.foldl (putZ reds) V r from h evs (fun _=>val0) hn
 intro evs
 induction evs with
 | nil=>intro V _;rfl
 | cons e t ih =>
  intro V h
  simp only [List.foldl_cons]
  rw [← ih (putZ reds V e) (fun e he=>h e (List.mem_cons_of_mem _ he))]
  congr 1
  obtain ⟨q,hq⟩:=h e (List.mem_cons_self ..)
  unfold putZ
  rw [hq,Int.toNat_natCast]
  by_cases e1 : q = r
  ·subst e1;rw [if_pos rfl,if_pos rfl,hr];rfl
  ·rw [if_neg (fun h=>e1 (by exact_mod_cast h)),if_neg (fun h=>e1 h.symm)]
abbrev KindW:={ p : Nat × Int // 1 ≤ p.2 ∧ p.2 ≤ 5 }
def preV (evs : List Ev) (pre : List KindW) (r : Nat) : Val:=match pre[r]? with
 | some x=>redV evs x.1
 | none=>val0
theorem own_keep {W W' : World} {row : Option Nat} {base : Nat} {e : TypeId} {size : Nat} {v : Value} {n : Nat} {xs : List Value} (h : W.ownsRow base e size v n xs) (hg : W.grownBy W' row) (hr : ∀ r,row = some r → ∃ o : Obj,W.heap[r]? = some o ∧ o.isCells = false) : W'.ownsRow base e size v n xs:=by
 refine ⟨h.1,?_⟩
 rcases h.2 with hn | ⟨g,cap,cur,rfl,hb',hgg,rest⟩
 ·exact .inl hn
 ·refine .inr ⟨g,cap,cur,rfl,hb',(hg.block g (Array.getElem?_eq_some_iff.1 hgg).1 (fun e=>?_)).trans hgg,rest⟩
  obtain ⟨o,ho,hc⟩:=hr g e.symm
  rw [hgg] at ho;cases ho;cases hc
theorem ownV_keep {W W' : World} {row : Option Nat} {base n : Nat} {lv : Value} {V : Nat → Val} {LV : Nat → Value} {xs : List Value} (h : OwnV W base lv n V LV xs) (hg : W.grownBy W' row) (hr : ∀ r,row = some r → ∃ o : Obj,W.heap[r]? = some o ∧ o.isCells = false) : OwnV W' base lv n V LV xs :=
 ⟨own_keep h.row hg hr,h.n0,h.n1,h.n2,fun r hr'=>own_keep (h.own r hr') hg hr,h.off,h.apart⟩
structure ValI (w : World) (Bg Bo : Nat) (gv : Value) (evs : List Ev) (pre : List KindW) (W : World) : Prop where
 out : ∃ v LV xs,Boxed W Bo 64 v ∧ OwnV W w.heap.size v pre.length (preV evs pre) LV xs ∧ v.ownBlock ≠ some Bo ∧ ∀ r,r < pre.length → (LV r).ownBlock ≠ some Bo
 giv : Boxed W Bg 65 gv
 bel : Below w.heap.size w W
theorem ValI.own {w : World} {Bg Bo B : Nat} {gv : Value} {evs : List Ev} (hB : w.heap.size ≤ B) : OwnFrom B (ValI w Bg Bo gv evs):=fun s X Y row hs hg hr=>by
 obtain ⟨⟨v,LV,xs,h1,h2,h3,h4⟩,h5,h6⟩:=hs
 have hc : ∀ r,row = some r → ∃ o : Obj,X.heap[r]? = some o ∧ o.isCells = false:=fun r e=>(hr r e).2
 exact ⟨⟨v,LV,xs,boxed_own (β:=Unit) _ _ (fun _=>_) () X Y row h1 hg hc,ownV_keep h2 hg hc,h3,h4⟩,boxed_own (β:=Unit) _ _ (fun _=>_) () X Y row h5 hg hc,ownFrom_below (β:=Unit) (Nat.le_refl _) hB () X Y row h6 hg hr⟩
theorem ownV_snoc {Wb wr w2 : World} {base Bo n : Nat} {v lv : Value} {V V' : Nat → Val} {LV : Nat → Value} {xs : List Value} {val : Val} {a' : Option Addr} {cap' : Nat} {o : Obj} (h : OwnV wr base v n V LV xs) (hlen : xs.length = n * 3)
  (hv : ∀ b,v.ownBlock = some b → b < Wb.heap.size) (hL : ∀ r b,r < n → (LV r).ownBlock = some b → b < Wb.heap.size) (hsz : Wb.heap.size ≤ wr.heap.size) (hlv : ∀ b,lv.ownBlock = some b → Wb.heap.size ≤ b) (hBo : Bo < Wb.heap.size) (hvo : v.ownBlock ≠ some Bo) (hLo : ∀ r,r < n → (LV r).ownBlock ≠ some Bo)
  (hown : wr.ownsRow base 2 1 lv val.l.length (ints val.l)) (ho : w2.ownsRow base 91 3 (.slice a' (n + 1) cap') (n + 1) (xs ++ [.int .i64 val.n,.bool val.is,lv])) (hg : (wr.alloc o).grownBy w2 v.ownBlock)
  (hloc : (Value.slice a' (n + 1) cap').ownBlock = v.ownBlock ∨ (Value.slice a' (n + 1) cap').ownBlock = some (wr.heap.size + 1)) (hV : ∀ r,r < n → V' r = V r) (hVn : V' n = val) :
  OwnV (w2.setCell ⟨Bo,0,none⟩ (.slice a' (n + 1) cap')) base (.slice a' (n + 1) cap') (n + 1) V' (fun r=>if r = n then lv else LV r) (xs ++ [.int .i64 val.n,.bool val.is,lv]) ∧ (Value.slice a' (n + 1) cap').ownBlock ≠ some Bo ∧ ∀ r,r < n + 1 → (if r = n then lv else LV r).ownBlock ≠ some Bo:=by
 have hnew : (Value.slice a' (n + 1) cap').ownBlock ≠ some Bo:=by
  rcases hloc with e | e
  ·rw [e];exact hvo
  ·rw [e];intro h;injection h with h;omega
 have old : ∀ b,b < wr.heap.size → v.ownBlock ≠ some b → b ≠ Bo → (w2.setCell ⟨Bo,0,none⟩ (.slice a' (n + 1) cap')).heap[b]? = wr.heap[b]?:=fun b hb h1 h2=>by
  rw [Below.heap_setCell _ _ _ _ h2,hg.block b (by simp;omega) (fun e=>h1 e.symm),Below.heap_alloc _ _ _ hb]
 have hlvo : lv.ownBlock ≠ some Bo:=fun e=>by have:=hlv Bo e;omega
 have hlvv : ∀ b,lv.ownBlock = some b → v.ownBlock ≠ some b:=fun b hb e=>by have:=hlv b hb;have:=hv b e;omega
 have hlvl : ∀ b,lv.ownBlock = some b → b < wr.heap.size:=fun b hb=>(hown.lt b hb).2
 refine ⟨⟨own_turn ho (fun b hb _=>Below.heap_setCell _ _ _ _ (fun e=>hnew (by rw [hb,e]))),?_,?_,?_,?_,?_,?_⟩,hnew,?_⟩
 ·intro r hr
  by_cases e : r = n
  ·subst e;rw [List.getElem?_append_right (by omega),hlen,Nat.sub_self,hVn];rfl
  ·rw [List.getElem?_append_left (by omega),hV r (by omega)];exact h.n0 r (by omega)
 ·intro r hr
  by_cases e : r = n
  ·subst e;rw [List.getElem?_append_right (by omega),hlen,show r * 3 + 1 - r * 3 = 1 by omega,hVn];rfl
  ·rw [List.getElem?_append_left (by omega),hV r (by omega)];exact h.n1 r (by omega)
 ·intro r hr
  by_cases e : r = n
  ·subst e;rw [List.getElem?_append_right (by omega),hlen,show r * 3 + 2 - r * 3 = 2 by omega,if_pos rfl];rfl
  ·rw [List.getElem?_append_left (by omega),if_neg e];exact h.n2 r (by omega)
 ·intro r hr
  by_cases e : r = n
  ·subst e;rw [if_pos rfl,hVn];exact own_turn hown (fun b hb hlt=>old b hlt (hlvv b hb) (fun e=>hlvo (by rw [hb,e])))
  ·rw [if_neg e,hV r (by omega)]
   exact own_turn (h.own r (by omega)) (fun b hb hlt=>old b hlt (h.off r (by omega) b hb) (fun e=>hLo r (by omega) (by rw [hb,e])))
 ·intro r hr b hb
  by_cases e : r = n
  ·rw [if_pos e] at hb
   rcases hloc with e2 | e2
   ·rw [e2];exact hlvv b hb
   ·rw [e2];intro h';injection h' with h';have:=hlvl b hb;omega
  ·rw [if_neg e] at hb
   rcases hloc with e2 | e2
   ·rw [e2];exact h.off r (by omega) b hb
   ·rw [e2];intro h';injection h' with h';have:=hL r b (by omega) hb;omega
 ·intro r s hr hs hne b hb
  by_cases e : r = n
  ·rw [if_pos e] at hb
   rw [if_neg (by omega)]
   intro e2;have:=hlv b hb;have:=hL s b (by omega) e2;omega
  ·rw [if_neg e] at hb
   by_cases e' : s = n
   ·rw [if_pos e'];intro e2;have:=hlv b e2;have:=hL r b (by omega) hb;omega
   ·rw [if_neg e'];exact h.apart r s (by omega) (by omega) hne b hb
 ·intro r hr
  by_cases e : r = n
  ·rw [if_pos e];exact hlvo
  ·rw [if_neg e];exact hLo r (by omega)
end Go.Proofs.YtkmakliebhnhbaaGreat
namespace Go.Proofs.YtkmakliebhnhbaaGreat
open Go.RowKit Go.Shelf
attribute [local go_sem] Oper.semAt_some
theorem RdL.ev {S : Nat → Prop} {W : World} {a : Option Addr} {n cap : Nat} {l : List Ev} (h : RdL S W 3 Ev.vals (.slice a n cap) l) {k : Nat} {i : Ev} (hk : l[k]? = some i) :
  ∃ b off,a = some ⟨b,off,none⟩ ∧ S b ∧ W.cell? ⟨b,off + k * 3,none⟩ = some (.int .i64 i.w) ∧ W.cell? ⟨b,off + k * 3 + 1,none⟩ = some (.int .i64 i.r) ∧ W.cell? ⟨b,off + k * 3 + 2,none⟩ = some (.int .i64 i.n):=by
 obtain ⟨b,off,ha,hb,hc⟩:=h.at hk
 exact ⟨b,off,ha,hb,hc 0 _ rfl,hc 1 _ rfl,hc 2 _ rfl⟩
theorem ownV_below {W W' : World} {base n : Nat} {lv : Value} {V : Nat → Val} {LV : Nat → Value} {xs : List Value} (h : OwnV W base lv n V LV xs) (hb : Below W.heap.size W W') : OwnV W' base lv n V LV xs :=
 ⟨own_below h.row hb,h.n0,h.n1,h.n2,fun r hr=>own_below (h.own r hr) hb,h.off,h.apart⟩
theorem ownV_ext {W : World} {base n : Nat} {lv : Value} {V V' : Nat → Val} {LV : Nat → Value} {xs : List Value} (h : OwnV W base lv n V LV xs) (he : ∀ r,r < n → V' r = V r) : OwnV W base lv n V' LV xs :=
 ⟨h.row,fun r hr=>by rw [he r hr];exact h.n0 r hr,fun r hr=>by rw [he r hr];exact h.n1 r hr,h.n2,fun r hr=>by rw [he r hr];exact h.own r hr,h.off,h.apart⟩
theorem kindW_of : ∀ (l : List (Nat × Int)),(∀ i ∈ l,1 ≤ i.2 ∧ i.2 ≤ 5) → ∃ zs : List KindW,zs.map (fun x=>x.1) = l
 | [],_=>⟨[],rfl⟩
 | i :: t,h=>by
  obtain ⟨zs,hz⟩:=kindW_of t (fun j hj=>h j (List.mem_cons_of_mem _ hj))
  exact ⟨⟨i,h i (List.mem_cons_self ..)⟩ :: zs,by simp [hz]⟩
set_option maxRecDepth 100000 in
set_option maxHeartbeats 4000000 in
theorem gather_calls (reds : List Int) (evs : List Ev) (Bs : Nat) (sv gv : Value) (w : World) (hk : ∀ k ∈ reds,1 ≤ k ∧ k ≤ 5) (hl4 : reds.length ≤ 4) (hev : evs.length ≤ 100000000) (hBs : Bs < w.heap.size) (hc : w.cell? ⟨Bs,0,none⟩ = some sv) (hR : RdL (Lt w.heap.size) w 1 int64s sv reds) (hG : RdL (Lt w.heap.size) w 3 Ev.vals gv evs) (hnn : ∀ e ∈ evs,∃ q : Nat,e.r = q) :
  Calls Tryz.prog 50 #[.func (.func 99) #[] #[.pointer (some ⟨Bs,0,none⟩)],gv] w fun e w'=>∃ lv LV xs,e = .returned lv ∧ OwnV w' w.heap.size lv reds.length (valsZ reds evs) LV xs ∧ Below w.heap.size w w':=by
 obtain ⟨m,hm1⟩ : ∃ m : Nat,9 ≤ m:=⟨9,Nat.le_refl _⟩
 refine (callsIn_wide (n:=m)).1 ?_
 obtain ⟨ga,gcap,rfl,hgc,hgm⟩:=hG.form
 unfold maxLen at hgm
 obtain ⟨ne,hne⟩ : ∃ ne,evs.length = ne:=⟨_,rfl⟩
 rw [hne] at hgc hev ⊢
 have HNE:=hide hne
 have HG:=hide hG
 rw [hne] at HG
 have HR:=hide hR
 have HNN:=hide hnn
 have HK:=hide hk
 obtain ⟨ys,hys⟩:=kindW_of (numbered reds reds.length) (fun i hi=>by
  obtain ⟨j,hj,rfl⟩:=List.mem_map.1 hi
  rw [List.mem_range] at hj
  simp only [List.getElem?_eq_getElem hj,Option.getD_some]
  exact hk _ (List.getElem_mem _))
 have HYS:=hide hys
 clear hne hG hR hnn hk hys
 refine callsIn_of_wp_marks Tryz.func50 rfl trivial ?_ rfl
 simp only [Tryz.ntmps50,List.size_toArray,List.length_cons,List.length_nil,Nat.reduceAdd,Nat.reduceSub,Array.replicate_succ,Array.replicate_zero,List.push_toArray,List.append_toArray,List.nil_append,List.cons_append]
 gi_wp2
 obtain ⟨W0,hW0⟩ : ∃ W0,(w.alloc (.cells #[.slice ga ne gcap] 65)).alloc (.cells #[.slice none 0 0] 64) = W0:=⟨_,rfl⟩
 have hsz : W0.heap.size = w.heap.size + 2:=by rw [← hW0];simp
 have hb0 : Below w.heap.size w W0:=by rw [← hW0];exact ((Below.refl _ w).alloc (Nat.le_refl _) _).alloc (by simp) _
 have bg : Boxed W0 w.heap.size 65 (.slice ga ne gcap):=by rw [← hW0];exact (Boxed.new w _ _).alloc _
 have bo : Boxed W0 (w.heap.size + 1) 64 (.slice none 0 0):=by
  have:=Boxed.new (w.alloc (.cells #[.slice ga ne gcap] 65)) 64 (.slice none 0 0)
  rw [World.size_alloc,hW0] at this
  exact this
 rw [hW0]
 clear hW0
 refine wpIn_rangeFunc_ownH rfl (by omega) (gf:=99) (lb:=#[.pointer (some ⟨Bs,0,none⟩)]) rfl trivial (enters_of Tryz.func99 (by kernel_rfl) rfl)
  (all_stops (α:=KindW) (fun x=>x.1) (m - 1) Bs w.heap.size sv reds ys HYS.out (by omega) W0 (by omega) ((hb0.cell (p:=⟨Bs,0,none⟩) hBs).trans hc) (HR.out.turn (fun b hb hlt=>⟨hb,hb0.block b hlt⟩) (fun x _=>by simp [int64s]))) belowK_t (belowK_b (by omega)) (Below.refl _ _) (fun _=>rfl)
  (ValI w w.heap.size (w.heap.size + 1) (.slice ga ne gcap) evs)
  (fun _ _ _=>False)
  (ValI.own (by omega))
  (fun _ _ _ _ _ hs _ _=>hs)
  ⟨⟨_,fun _=>.slice none 0 0,[],bo,⟨World.ownsRow_nil _ _ _ _,fun r hr=>absurd hr (Nat.not_lt_zero _),fun r hr=>absurd hr (Nat.not_lt_zero _),fun r hr=>absurd hr (Nat.not_lt_zero _),fun r hr=>absurd hr (Nat.not_lt_zero _),fun r hr=>absurd hr (Nat.not_lt_zero _),fun r s hr=>absurd hr (Nat.not_lt_zero _)⟩,by simp [Value.ownBlock],fun r hr=>absurd hr (Nat.not_lt_zero _)⟩,bg,hb0⟩
  (fun x a' W=>a' = { tmps:=#[.func (.func 99) #[] #[.pointer (some ⟨Bs,0,none⟩)],.slice ga ne gcap,undef,.pointer (some ⟨w.heap.size,0,none⟩),.slice none 0 0,.pointer (some ⟨w.heap.size + 1,0,none⟩),.int .i64 (x.1.1 : Int),.int .i64 x.1.2,undef,undef,undef,.func (.func 99) #[] #[.pointer (some ⟨Bs,0,none⟩)],.int .i64 (x.1.1 : Int),.int .i64 x.1.2,undef,undef,undef,undef,undef,undef,undef,undef,undef,undef,undef,undef,undef,undef,undef,undef,undef,undef,undef,undef],defers:=[] })
  (fun x a' s X Y row hs hg hr=>hs) ?assign ?body ?done ?stop
 case assign =>
  rintro l pre x W K hi hK
  gi_wp2
  exact hK _ _ (KeepsFrom.refl _ _) (Below.refl _ _) hi rfl
 case body =>
  rintro l pre x a' W hl ⟨r,hr⟩ ⟨⟨v,LV,xs,bv,hO,hvo,hLo⟩,hgv,hbW⟩ rfl hlt
  obtain ⟨⟨rn,kd⟩,hkd0,hkd1⟩:=x
  dsimp only at hkd0 hkd1 ⊢
  obtain ⟨va,vc,rfl⟩:=own_form hO.row
  have hsW:=hbW.size
  have hgc1:=hgv.cell
  have sG:=hgv.lt
  have sO:=bv.lt
  have HO:=hide hO
  have Hvo:=hide hvo
  have HLo:=hide hLo
  have HbW:=hide hbW
  clear hO hvo hLo hbW
  gi_wp2
  gi_loopw [16] (fun i wr=>∃ (k : Nat) (lv : Value),k ≤ ne ∧ i = .int .i64 k ∧ Hid (ValB wr w.heap.size W.heap.size (redV (evs.take k) (rn,kd)) lv) ∧ Hid (∀ b,lv.ownBlock = some b → W.heap.size ≤ b) ∧ Below W.heap.size W wr)
   (fun i _=>ne - (intOf i).toNat)
  case atStart =>
   refine ⟨0,.slice none 0 0,Nat.zero_le _,rfl,⟨World.alloc_heap_new W _,World.ownsRow_nil _ _ _ _,by simp [Value.ownBlock]⟩,fun b hb=>by simp [Value.ownBlock] at hb,(Below.refl _ W).alloc (Nat.le_refl _) _⟩
  case round =>
   obtain ⟨k,lv,hk,rfl,HV,HLV,hbr⟩:=hrel
   by_cases hlt2 : k < ne
   ·have hlti : (k : Int) < ne:=by omega
    obtain ⟨e,he⟩ : ∃ e,evs[k]? = some e:=⟨evs[k]'(by have:=HNE.out;omega),by simp⟩
    obtain ⟨b,off,ha,hb,c0,c1,c2⟩:=HG.out.ev he
    subst ha
    have hbl : b < w.heap.size:=hb
    have hbb : Below w.heap.size w wr:=HbW.out.trans (hbr.mono hsW)
    have d0:=(hbb.cell (p:=⟨b,off + k * 3,none⟩) hbl).trans c0
    have d1:=(hbb.cell (p:=⟨b,off + k * 3 + 1,none⟩) hbl).trans c1
    have d2:=(hbb.cell (p:=⟨b,off + k * 3 + 2,none⟩) hbl).trans c2
    have HE:=hide he
    have HBR:=hide hbr
    have sV:=HV.out.lt
    obtain ⟨ew,er,en⟩:=e
    dsimp only at d0 d1 d2
    clear c0 c1 c2 he hbb hb
    by_cases heq : er = (rn : Int)
    ·subst heq
     have hGV : Hid (∀ o,Calls Tryz.prog 72 #[.pointer (some ⟨W.heap.size,0,none⟩),.int .i64 kd,.int .i64 en] (wr.alloc o) fun e w'=>(∃ x,e = .returned x) ∧ ∃ lv',ValB w' w.heap.size W.heap.size (redV (evs.take (k + 1)) (rn,kd)) lv' ∧ GiveTo (wr.alloc o) w' W.heap.size lv lv'):=fun o=>by
      have hvb : ValB (wr.alloc o) w.heap.size W.heap.size (redV (evs.take k) (rn,kd)) lv:=⟨(Below.heap_alloc _ _ _ sV).trans HV.out.blk,HV.out.own.alloc o,HV.out.off⟩
      have hlen:=redV_len (evs.take k) (rn,kd)
      rw [List.length_take] at hlen
      have:=give_calls kd en w.heap.size W.heap.size _ lv (wr.alloc o) hkd0 hkd1 hvb (by omega) (by have:=HBR.out.size;simp;omega)
      rw [redV_take HE.out,if_pos rfl]
      exact this
     gi_wp2_with (refine ⟨trivial,room_none _,?_⟩;gi_at_call 72;refine (CallsIn.inRound l (callsIn_wide.2 (hGV.out _))).mono ?_;rintro e w2 ⟨⟨xx,rfl⟩,lv',hv2,hg2⟩)
     have hs2 : wr.heap.size ≤ w2.heap.size:=by have:=hg2.frm.size;simp at this;omega
     have hsr:=HBR.out.size
     have hb2 : Below W.heap.size W w2:=HBR.out.trans ⟨hg2.frm.os,hg2.frm.tape,hg2.frm.output,hs2,fun q hq=>by
      rw [hg2.frm.block q (by simp;omega) (fun h=>by
       rcases h with h | h
       ·omega
       ·have:=HLV.out q h;omega)]
      exact Below.heap_alloc _ _ _ (by omega)⟩
     go_roundw
     case rel =>
      refine ⟨k + 1,lv',by omega,by simp,hv2,fun q hq=>?_,hb2⟩
      rcases hg2.loc with e2 | ⟨q',e2,hq'⟩
      ·exact HLV.out q (by rw [← e2];exact hq)
      ·rw [hq] at e2;injection e2 with e2;subst e2;simp at hq';omega
     case measure=>simp [intOf];omega
    ·have hne' : (er == (rn : Int)) = false:=by simpa using heq
     have HQ:=hide heq
     clear heq
     gi_wp2
     go_roundw
     case rel =>
      refine ⟨k + 1,lv,by omega,by simp,?_,HLV.out,HBR.out.alloc HBR.out.size _⟩
      unfold Hid
      rw [redV_take HE.out,if_neg HQ.out]
      exact ⟨(Below.heap_alloc _ _ _ sV).trans HV.out.blk,HV.out.own.alloc _,HV.out.off⟩
     case measure=>simp [intOf];omega
   ·obtain rfl : ne = k:=by omega
    have hnl:=HNE.out
    have htk : evs.take ne = evs:=by rw [← hnl];exact List.take_length
    rw [htk] at HV
    clear htk hnl
    obtain ⟨la,lc,rfl⟩:=own_form HV.out.own
    obtain ⟨val,hval⟩ : ∃ val,redV evs (rn,kd) = val:=⟨_,rfl⟩
    rw [hval] at HV HLV
    have HVAL:=hide hval
    clear hval
    obtain ⟨vn,vi,vl⟩:=val
    have c0:=HV.out.c0
    have c1:=HV.out.c1
    have c2:=HV.out.c2
    dsimp only at c0 c1 c2 HV HLV
    have sV:=HV.out.lt
    have bv2:=boxed_below bv hbr sO
    have bc:=bv2.cell
    have bf:=bv2.frozen
    have sO2:=bv2.lt
    have HBR:=hide hbr
    have HOW:=hide (ownV_below HO.out hbr)
    have hsr:=hbr.size
    obtain ⟨iv,hiv,hv0,hv1,hv2⟩:=info_parts Tryz.infoV'
    obtain ⟨np,hnp⟩ : ∃ np,pre.length = np:=⟨_,rfl⟩
    rw [hnp] at HOW bc HO hlt Hvo bv bv2 HLo
    have HNP:=hide hnp
    obtain ⟨ll,hll⟩ : ∃ ll,vl.length = ll:=⟨_,rfl⟩
    rw [hll] at HV c2 HLV
    have HLL:=hide hll
    clear hbr hnp hll
    gi_wp2_with (gi_at_builtin;refine wpListIn_app2 _ rfl _ _ 64 rfl w.heap.size 91 iv _ 3 40 Tryz.underlying64 hiv hv0 hv1 hv2 rfl (by decide) _ _ _ rfl (HOW.out.row.alloc _) (.slice (some ⟨wr.heap.size,0,none⟩) 1 1) 1 [.int .i64 vn,.bool vi,.slice la ll lc] rfl (cells3 wr _ _ _ _ _ rfl) (by simp [Value.oneCell']) ?h63 ?hbytes ?hbase ?_)
    case h63=>unfold maxLen;omega
    case hbytes=>omega
    case hbase=>simp;omega
    intro a' cap' w2 ho hg _ hlie _
    have k2 : ∀ k,k < wr.heap.size → (Value.slice va np vc).ownBlock ≠ some k → w2.heap[k]? = wr.heap[k]?:=fun k hk hne=>(hg.block k (by simp;omega) (fun e=>hne e.symm)).trans (Below.heap_alloc _ _ _ hk)
    have bo2 : Boxed w2 (w.heap.size + 1) 64 (.slice va np vc):=(k2 _ sO2 Hvo.out).trans bv2
    have e1:=bo2.cell
    have e2:=bo2.frozen
    have HOO:=hide ho
    have HGG:=hide hg
    have HK2:=hide k2
    have HLIE:=hide hlie
    have HBO2:=hide bo2
    clear ho hg k2 hlie hiv hv0 hv1 hv2
    gi_wp2
    have hs2 : wr.heap.size + 1 ≤ w2.heap.size:=by have:=HGG.out.size;simpa using this
    have hLlt : ∀ r b,r < np → (LV r).ownBlock = some b → b < W.heap.size:=fun r b hr hb=>((HO.out.own r hr).lt b hb).2
    have hvlt : ∀ b,(Value.slice va np vc).ownBlock = some b → b < W.heap.size:=fun b hb=>(HO.out.row.lt b hb).2
    have hxl : xs.length = np * 3:=HO.out.row.1
    obtain ⟨r1,r2,r3⟩:=ownV_snoc (V':=preV evs (pre ++ [⟨(rn,kd),hkd0,hkd1⟩])) (val:=⟨vn,vi,vl⟩) (Wb:=W) HOW.out hxl hvlt hLlt hsr (by simpa using HLV.out) (by omega) Hvo.out HLo.out HV.out.own HOO.out HGG.out (by simpa using HLIE.out) (fun r hr=>by
      unfold preV
      rw [List.getElem?_append_left (by have:=HNP.out;omega)]) (by
      unfold preV
      rw [List.getElem?_append_right (by have:=HNP.out;omega)]
      simp [HNP.out,HVAL.out])
    have hold : Below W.heap.size W wr:=HBR.out
    have hkeep : ∀ (q : Nat) (o : Obj),wr.heap[q]? = some o → o.isCells = false → (w2.setCell ⟨w.heap.size + 1,0,none⟩ (.slice a' (np + 1) cap')).heap[q]? = some o:=fun q o hq ho=>by
     have hql:=(Array.getElem?_eq_some_iff.1 hq).1
     have h1 : q ≠ w.heap.size + 1:=fun e=>by subst e;rw [show wr.heap[w.heap.size + 1]? = _ from bv2] at hq;cases hq;cases ho
     have h2 : (Value.slice va np vc).ownBlock ≠ some q:=fun e=>by
      rcases HOW.out.row.2 with ⟨h0,_⟩ | ⟨g,cap,cur,h0,_,hg,_⟩
      ·rw [h0] at e;cases e
      ·rw [h0] at e;injection e with e;subst e;rw [hg] at hq;cases hq;cases ho
     rw [Below.heap_setCell _ _ _ _ h1,HK2.out q hql h2,hq]
    have hbn : Below w.heap.size wr (w2.setCell ⟨w.heap.size + 1,0,none⟩ (.slice a' (np + 1) cap')):=by
     refine Below.setCell (p:=⟨w.heap.size + 1,0,none⟩) ?_ (by simp) _
     exact ((Below.refl _ wr).alloc (by omega) _).grown HGG.out (by simp;omega) (fun q hq=>(HO.out.row.lt q hq).1)
    refine ⟨⟨by have:=hbn.size;omega,fun q o _ hq ho=>hkeep q o ((hold.block q (Array.getElem?_eq_some_iff.1 hq).1).trans hq) ho⟩,(hold.mono hsW).trans hbn,⟨⟨_,fun r=>if r = np then .slice la ll lc else LV r,xs ++ [.int .i64 vn,.bool vi,.slice la ll lc],?_,?_,r2,?_⟩,?_,HbW.out.trans ((hold.mono hsW).trans hbn)⟩⟩
    ·exact HBO2.out.set _
    ·rw [List.length_append,HNP.out];exact r1
    ·rw [List.length_append,HNP.out];exact r3
    ·have hg1:=boxed_below hgv hold sG
     refine Boxed.other ?_ (by omega) _
     exact (HK2.out _ hg1.lt (fun e=>by
      rcases HOW.out.row.2 with ⟨h0,_⟩ | ⟨g,cap,cur,h0,_,hg,_⟩
      ·rw [h0] at e;cases e
      ·rw [h0] at e;injection e with e;subst e;rw [show wr.heap[w.heap.size]? = _ from hg1] at hg;cases hg)).trans hg1
 case done =>
  rintro D ps W hD rfl ⟨⟨v,LV,xs,bv,hO,hvo,hLo⟩,hgv,hbW⟩ hK
  have hZ:=bv.cell
  have HO:=hide hO
  have HBW:=hide hbW
  clear hO hbW
  gi_wp2
  refine ⟨by simp,.inl ⟨_,_,rfl,run_takeDeferred hK,?_⟩⟩
  have hyl : ps.length = reds.length:=by have:=congrArg List.length HYS.out;rw [List.length_map,numbered_len] at this;exact this
  refine ⟨_,results_tmp rfl _ _ _,v,LV,xs,rfl,?_,HBW.out.trans (belowK_b (w:=w) (Nat.le_refl _) _ D _ _ (by omega) hK rfl rfl)⟩
  have h1:=ownV_keep HO.out (grownBy_putObj' W D (.deferred none)) (fun r e=>by cases e;exact ⟨_,hK,rfl⟩)
  rw [hyl] at h1
  refine ownV_ext h1 (fun r hr=>?_)
  have hx : ps[r]? = some (ps[r]'(by omega)):=List.getElem?_eq_getElem _
  have h2 : (ps.map (fun x=>x.1))[r]? = some (ps[r]'(by omega)).1:=by rw [List.getElem?_map,hx];rfl
  rw [HYS.out,numbered,List.getElem?_map,List.getElem?_range hr] at h2
  obtain ⟨z,hz⟩ : ∃ z,reds[r]? = some z:=⟨_,List.getElem?_eq_getElem hr⟩
  simp [hz] at h2
  unfold preV
  rw [hx]
  simp only
  rw [← h2]
  exact (redV_vals hz HNN.out).symm
 case stop =>
  rintro D c pre W _ _ h _
  exact h.elim
end Go.Proofs.YtkmakliebhnhbaaGreat
