import Derived.Test.YtkmakliebhnhbaaGreatRuA
namespace Go.Proofs.YtkmakliebhnhbaaGreat
open Go.RowKit Go.Shelf
set_option maxHeartbeats 400000 in
theorem tooLong_calls (a : Option Addr) (n cap : Nat) (w : World) : Calls Tryz.prog 57 #[.slice a n cap] w fun e w'=>e = .returned (.bool (decide (4000 < n))) ∧ w' = w:=by
  by_cases h : 4000 < n
  · have hi : (4000 : Int) < n:=by omega
    rw [decide_eq_true h]
    go_enter Tryz.func57,Tryz.ntmps57
    go_wp2
    go_ret
    exact ⟨rfl,rfl⟩
  · have hi : ¬ (4000 : Int) < n:=by omega
    rw [decide_eq_false h]
    go_enter Tryz.func57,Tryz.ntmps57
    go_wp2
    go_ret
    exact ⟨rfl,rfl⟩
def LenAt (w : World) (a : Option Addr) (ls : List Nat) : Prop:=ls = [] ∨ ∃ b off,a = some ⟨b,off,none⟩ ∧ ∀ (k n : Nat),ls[k]? = some n → ∃ a' cap,w.cell? ⟨b,off + k,none⟩ = some (.slice a' n cap)
def anyLong (ls : List Nat) : Bool:=ls.any (fun n=>decide (4000 < n))
set_option maxHeartbeats 1000000 in
theorem index_calls (ls : List Nat) (a : Option Addr) (cap : Nat) (w : World) (hl : LenAt w a ls) (hlen : ls.length ≤ 1000000) (_hcap : ls.length ≤ cap) (_hcm : cap ≤ 9223372036854775807) : Calls Tryz.prog 74 #[.slice a ls.length cap,.func (.func 57) #[] #[]] w fun e w'=>(∃ z : Int,e = .returned (.int .i64 z) ∧ (0 ≤ z ↔ anyLong ls = true) ∧ -1 ≤ z) ∧ w' = w:=by
  obtain ⟨n,hn⟩ : ∃ n,ls.length = n:=⟨_,rfl⟩
  rw [hn] at hlen ⊢
  have HN:=hide hn
  have HL:=hide hl
  clear hn hl
  go_enter Tryz.func74,Tryz.ntmps74
  go_wp2
  go_loop [8] (fun i=>∃ k : Nat,k ≤ n ∧ i = .int .i64 k ∧ Hid (∀ j m,j < k → ls[j]? = some m → ¬ 4000 < m)) (fun i=>n - (intOf i).toNat)
  case atStart=>exact ⟨0,Nat.zero_le _,rfl,fun j m hj=>absurd hj (Nat.not_lt_zero _)⟩
  case round =>
    obtain ⟨k,hk,rfl,hall⟩:=hrel
    by_cases hlt : k < n
    · have hlti : (k : Int) < n:=by omega
      obtain ⟨m,hm⟩ : ∃ m,ls[k]? = some m:=⟨ls[k]'(by have:=HN.out;omega),by simp⟩
      rcases HL.out with he | ⟨b,off,rfl,hc⟩
      · have:=HN.out;rw [he] at this;simp at this;omega
      · obtain ⟨a',cap',hcell⟩:=hc k m hm
        have HTL:=hide (tooLong_calls a' m cap' w)
        have HM:=hide hm
        clear hc hm
        by_cases h4 : 4000 < m
        · rw [decide_eq_true h4] at HTL
          go_wp2_with (go_at_call 57;refine HTL.out.mono ?_;rintro e w' ⟨rfl,rfl⟩)
          go_ret
          refine ⟨⟨k,rfl,⟨fun _=>?_,fun _=>by omega⟩,by omega⟩,rfl⟩
          unfold anyLong
          rw [List.any_eq_true]
          exact ⟨m,List.mem_of_getElem? HM.out,by simpa using h4⟩
        · rw [decide_eq_false h4] at HTL
          go_wp2_with (go_at_call 57;refine HTL.out.mono ?_;rintro e w' ⟨rfl,rfl⟩)
          go_round
          case rel =>
            refine ⟨k + 1,by omega,by simp,fun j q hj hq=>?_⟩
            by_cases e : j = k
            · subst e;rw [HM.out] at hq;cases hq;exact h4
            · exact hall.out j q (by omega) hq
          case measure=>simp [intOf];omega
    · obtain rfl : n = k:=by omega
      go_wp2
      go_ret
      refine ⟨⟨-1,rfl,⟨fun h=>absurd h (by decide),fun h=>?_⟩,by decide⟩,rfl⟩
      unfold anyLong at h
      rw [List.any_eq_true] at h
      obtain ⟨m,hm,h4⟩:=h
      obtain ⟨j,hj⟩:=List.getElem?_of_mem hm
      have hjl:=(List.getElem?_eq_some_iff.1 hj).1
      have:=HN.out
      exact absurd (by simpa using h4) (hall.out j m (by omega) hj)
set_option maxHeartbeats 1000000 in
theorem contains_calls (ls : List Nat) (a : Option Addr) (cap : Nat) (w : World) (hl : LenAt w a ls) (hlen : ls.length ≤ 1000000) (hcap : ls.length ≤ cap) (hcm : cap ≤ 9223372036854775807) : Calls Tryz.prog 56 #[.slice a ls.length cap,.func (.func 57) #[] #[]] w fun e w'=>e = .returned (.bool (anyLong ls)) ∧ w' = w:=by
  have HI:=hide (index_calls ls a cap w hl hlen hcap hcm)
  clear hl
  go_enter Tryz.func56,Tryz.ntmps56
  go_wp2_with (go_at_call 74;refine HI.out.mono ?_;rintro e w' ⟨⟨z,rfl,hz,hz1⟩,rfl⟩)
  go_ret
  refine ⟨?_,rfl⟩
  cases hb : anyLong ls with
  | true=>rw [hb] at hz;have:=hz.2 rfl;simp
  | false=>rw [hb] at hz;have : ¬ 0 ≤ z:=fun h=>Bool.false_ne_true (hz.1 h);simp
def sweepErr (workers : Int) (ls : List Nat) : Int:=if workers < 1 ∨ 8 < workers then 5 else if 20 < ls.length ∨ anyLong ls = true then 6 else 0
theorem sweepErr_one (workers : Int) (n : Nat) : sweepErr workers [n] = runErr workers n:=by
  unfold sweepErr runErr anyLong
  simp
set_option maxHeartbeats 1000000 in
theorem check_crew (workers : Int) (ls : List Nat) (a : Option Addr) (cap : Nat) (w : World) (hl : LenAt w a ls) (hlen : ls.length ≤ 1000000) (hcap : ls.length ≤ cap) (hcm : cap ≤ 9223372036854775807) :
    Calls Tryz.prog 41 #[.int .i64 workers,.slice a ls.length cap] w fun e w'=>e = .returned (.int .i64 (sweepErr workers ls)) ∧ w' = w:=by
  have HI:=hide (contains_calls ls a cap w hl hlen hcap hcm)
  unfold sweepErr
  obtain ⟨n,hn⟩ : ∃ n,ls.length = n:=⟨_,rfl⟩
  rw [hn] at HI hlen hcap ⊢
  clear hl hn
  by_cases h1 : workers < 1
  · rw [if_pos (.inl h1)]
    go_enter Tryz.func41,Tryz.ntmps41
    go_wp2
    go_ret
    exact ⟨rfl,rfl⟩
  by_cases h2 : 8 < workers
  · rw [if_pos (.inr h2)]
    go_enter Tryz.func41,Tryz.ntmps41
    go_wp2
    go_ret
    exact ⟨rfl,rfl⟩
  rw [if_neg (by omega)]
  by_cases h3 : 20 < n
  · have h3i : (20 : Int) < n:=by omega
    rw [if_pos (.inl h3)]
    go_enter Tryz.func41,Tryz.ntmps41
    go_wp2
    go_ret
    exact ⟨rfl,rfl⟩
  have h3i : ¬ (20 : Int) < n:=by omega
  cases hb : anyLong ls with
  | true =>
    rw [hb] at HI
    rw [if_pos (.inr rfl)]
    go_enter Tryz.func41,Tryz.ntmps41
    go_wp2_with (go_at_call 56;refine HI.out.mono ?_;rintro e w' ⟨rfl,rfl⟩)
    go_ret
    exact ⟨rfl,rfl⟩
  | false =>
    rw [hb] at HI
    rw [if_neg (by simp;omega)]
    go_enter Tryz.func41,Tryz.ntmps41
    go_wp2_with (go_at_call 56;refine HI.out.mono ?_;rintro e w' ⟨rfl,rfl⟩)
    go_ret
    exact ⟨rfl,rfl⟩
end Go.Proofs.YtkmakliebhnhbaaGreat
namespace Go.Proofs.YtkmakliebhnhbaaGreat
open Go.RowKit Go.Shelf
def RunSaid (D : Dev) : Prop:=∀ (fs : List (List Ins)) (reds : List Int) (S S2 : Nat → Prop) (p : Value) (seed x workers : Int) (script : List (Int × Int)) (sv : Value) (w : World),FsWf fs → (check fs reds).1 = 0 → (∀ q ∈ script,i64 q.1 ∧ i64 q.2) → D.P S w p fs reds → RdL S2 w 2 pickV sv script →
  Calls Tryz.prog 28 #[p,.int .u64 seed,.int .i64 x,.int .i64 workers,sv] w fun e w'=>Below w.heap.size w w' ∧
    (runErr workers script.length ≠ 0 → e = .returned (.tuple #[.agg #[.slice none 0 0,.slice none 0 0,.int .i64 0,.int .i64 0,.int .i64 0,.int .i64 0],.int .i64 (runErr workers script.length)])) ∧
    (runErr workers script.length = 0 → ∃ N lv tv LV xs,Ends fs workers.toNat script seed x N ∧ e = .returned (.tuple #[.agg #[lv,tv,.int .i64 ((N + 1 : Nat) : Int),.int .i64 (stealsAt fs workers.toNat script seed x N : Nat),.int .i64 (failsAt fs workers.toNat script seed x N : Nat),.int .i64 (framesC fs)],.int .i64 0]) ∧
      OwnV w' w.heap.size lv reds.length (valsZ reds (traceZ fs seed x)) LV xs ∧ w'.ownsRow w.heap.size 89 3 tv (trAt fs workers.toNat script seed x N).length (evCells (trAt fs workers.toNat script seed x N)) ∧ Clear lv tv ∧ ∀ r,r < reds.length → Clear (LV r) tv)
theorem runErr_ok {workers : Int} {n : Nat} (h : runErr workers n = 0) : 1 ≤ workers ∧ workers ≤ 8 ∧ n ≤ 4000:=by
  unfold runErr at h
  split at h
  · cases h
  · split at h
    · cases h
    · omega
theorem frames_300 {fs : List (List Ins)} {reds : List Int} (h : (check fs reds).1 = 0) : framesF fs ≤ 300:=by
  have h1:=frames_ok h
  rcases Nat.lt_or_ge 300 (framesF fs) with h2 | h2
  · have h3 : 300 < framesC fs:=framesF_gt.1 h2
    by_cases g1 : fs.length < 1 ∨ 8 < fs.length
    · rw [check_1 g1] at h;cases h
    · cases hb : (badRed reds).2 with
      | true=>rw [check_red g1 hb] at h;cases h
      | false=>cases hf : (badFun fs reds.length).2 with
        | true=>rw [check_fun g1 hb hf] at h;cases h
        | false=>rw [check_last g1 hb hf,if_pos h3] at h;cases h
  · exact h2
set_option maxHeartbeats 1000000 in
theorem run_said : RunSaid dev:=by
  intro fs reds S S2 p seed x workers script sv w hw hck hsc hP hsv
  obtain ⟨pb,cb,rfl,s1,c0,hC⟩:=hP
  obtain ⟨k1,k2,k3,k4,k5⟩:=check_ok hck hw
  have hsp:=block_lt_of_cell c0
  simp only at hsp
  obtain ⟨sa,scap,hsf,hsc1,hsc2⟩:=hsv.form
  obtain ⟨W0,hW0⟩ : ∃ W0,(w.alloc (.cells #[.slice none 0 0,.slice none 0 0,.int .i64 0,.int .i64 0,.int .i64 0,.int .i64 0] 69)).alloc (.cells #[.slice sa script.length scap] 27) = W0:=⟨_,rfl⟩
  have hb0 : Below w.heap.size w W0:=by rw [← hW0];exact ((Below.refl _ w).alloc (Nat.le_refl _) _).alloc (by simp) _
  have hs0 : W0.heap.size = w.heap.size + 2:=by rw [← hW0];simp
  have o0 : OutR W0 w.heap.size (.slice none 0 0) (.slice none 0 0) 0 0 0 0:=by rw [← hW0];exact (Below.heap_alloc _ _ _ (by simp)).trans (World.alloc_heap_new w _)
  have b0 : Boxed W0 (w.heap.size + 1) 27 (.slice sa script.length scap):=by
    have:=Boxed.new (w.alloc (.cells #[.slice none 0 0,.slice none 0 0,.int .i64 0,.int .i64 0,.int .i64 0,.int .i64 0] 69)) 27 (.slice sa script.length scap)
    rw [World.size_alloc,hW0] at this
    exact this
  have HCK : Hid (Calls Tryz.prog 41 #[.int .i64 workers,.slice (some ⟨w.heap.size + 1,0,none⟩) 1 1] W0 fun e w'=>e = .returned (.int .i64 (runErr workers script.length)) ∧ w' = W0):=by
    have:=check_crew workers [script.length] (some ⟨w.heap.size + 1,0,none⟩) 1 W0 (.inr ⟨w.heap.size + 1,0,rfl,fun k n hk=>by
      cases k with
      | zero=>simp at hk;subst hk;exact ⟨sa,scap,b0.cell⟩
      | succ k=>simp at hk⟩) (by simp) (by simp) (by omega)
    rw [sweepErr_one] at this
    exact this
  subst hsf
  by_cases hre : runErr workers script.length = 0
  · obtain ⟨hw1,hw8,hsl⟩:=runErr_ok hre
    have hwn : ((workers.toNat : Nat) : Int) = workers:=by omega
    have HRUN : Hid (Calls Tryz.prog 42 #[.pointer (some ⟨cb,0,none⟩),.int .u64 seed,.int .i64 x,.int .i64 workers,.slice sa script.length scap] W0 fun e w'=>∃ N lv tv LV xs,Ends fs workers.toNat script seed x N ∧ e = .returned (.agg #[lv,tv,.int .i64 ((N + 1 : Nat) : Int),.int .i64 (stealsAt fs workers.toNat script seed x N : Nat),.int .i64 (failsAt fs workers.toNat script seed x N : Nat),.int .i64 (framesC fs)]) ∧
      OwnV w' (w.heap.size + 2) lv reds.length (valsZ reds (traceZ fs seed x)) LV xs ∧ w'.ownsRow (w.heap.size + 2) 89 3 tv (trAt fs workers.toNat script seed x N).length (evCells (trAt fs workers.toNat script seed x N)) ∧ Clear lv tv ∧ (∀ r,r < reds.length → Clear (LV r) tv) ∧ Below (w.heap.size + 2) W0 w'):=by
      have hC' : CodeP (Lt W0.heap.size) W0 cb fs reds:=hC.turn (fun b hb hlt=>⟨by show b < W0.heap.size;omega,hb0.block b hlt⟩)
      have:=crewRun_calls fs reds cb workers.toNat script (.slice sa script.length scap) seed x W0 k1 k2 k4 k5 k3 (kinds_ok hck) hC' (by omega) (by omega) hsl hsc (frames_300 hck) (hsv.turn (fun b hb hlt=>⟨by show b < W0.heap.size;omega,hb0.block b hlt⟩) (fun y _=>List.cons_ne_nil _ _))
      rw [frames_ok hck,hs0,hwn] at this
      exact this
    have d0:=(hb0.cell (p:=⟨pb,0,none⟩) hsp).trans c0
    have HW0:=hide hW0
    have HO0:=hide o0
    have HB0:=hide hb0
    rw [hre] at HCK
    clear hC k1 k2 k3 k4 k5 hw hck hsc hsv b0 o0 hb0
    go_enter Tryz.func28,Tryz.ntmps28
    go_wp2_with (first
      | (go_at_call 41;refine HCK.out.mono ?_;rintro e w' ⟨rfl,rfl⟩)
      | (go_at_call 42;refine HRUN.out.mono ?_;rintro e w3 ⟨N,lv,tv,LV,xs,hen,rfl,h1,h2,h3,h4,h5⟩
         obtain ⟨va,vc,rfl⟩:=own_form h1.row
         obtain ⟨ta,tc,rfl⟩:=own_form h2
         have q : OutR w3 w.heap.size (.slice none 0 0) (.slice none 0 0) 0 0 0 0:=(h5.block _ (by omega)).trans HO0.out
         have z0:=q.c0
         have z1:=q.c1
         have z2:=q.c2
         have z3:=q.c3
         have z4:=q.c4
         have z5:=q.c5
         have zf0:=q.fz 0
         have zf1:=q.fz 1
         have zf2:=q.fz 2
         have zf3:=q.fz 3
         have zf4:=q.fz 4
         have zf5:=q.fz 5
         have HQ:=hide q
         have HH1:=hide h1
         have HH2:=hide h2
         have HH3:=hide h3
         have HH4:=hide h4
         have HH5:=hide h5
         have HEN:=hide hen
         clear q h1 h2 h3 h4 h5 hen))
    have hs3 : w.heap.size + 2 ≤ w3.heap.size:=by have:=HH5.out.size;omega
    obtain ⟨nt,hnt⟩ : ∃ nt,(trAt fs workers.toNat script seed x N).length = nt:=⟨_,rfl⟩
    obtain ⟨nz,hnz⟩ : ∃ nz : Int,(N : Int) + 1 = nz:=⟨_,rfl⟩
    obtain ⟨nst,hnst⟩ : ∃ nst : Int,((stealsAt fs workers.toNat script seed x N : Nat) : Int) = nst:=⟨_,rfl⟩
    obtain ⟨nfa,hnfa⟩ : ∃ nfa : Int,((failsAt fs workers.toNat script seed x N : Nat) : Int) = nfa:=⟨_,rfl⟩
    obtain ⟨ff,hff⟩ : ∃ ff : Int,(framesC fs : Int) = ff:=⟨_,rfl⟩
    rw [hnt,hnz,hnst,hnfa,hff]
    have hres : OutR ((((((w3.setCell ⟨w.heap.size,0,none⟩ (.slice va reds.length vc)).setCell ⟨w.heap.size,1,none⟩ (.slice ta nt tc)).setCell ⟨w.heap.size,2,none⟩ (.int .i64 nz)).setCell ⟨w.heap.size,3,none⟩ (.int .i64 nst)).setCell ⟨w.heap.size,4,none⟩ (.int .i64 nfa)).setCell ⟨w.heap.size,5,none⟩ (.int .i64 ff)) w.heap.size (.slice va reds.length vc) (.slice ta nt tc) nz nst nfa ff :=
      heap_set _ w.heap.size 5 _ _ _ (heap_set _ w.heap.size 4 _ _ _ (heap_set _ w.heap.size 3 _ _ _ (heap_set _ w.heap.size 2 _ _ _ (heap_set _ w.heap.size 1 _ _ _ (heap_set _ w.heap.size 0 _ _ _ HQ.out)))))
    have hne : ∀ b,b ≠ w.heap.size → ((((((w3.setCell ⟨w.heap.size,0,none⟩ (.slice va reds.length vc)).setCell ⟨w.heap.size,1,none⟩ (.slice ta nt tc)).setCell ⟨w.heap.size,2,none⟩ (.int .i64 nz)).setCell ⟨w.heap.size,3,none⟩ (.int .i64 nst)).setCell ⟨w.heap.size,4,none⟩ (.int .i64 nfa)).setCell ⟨w.heap.size,5,none⟩ (.int .i64 ff)).heap[b]? = w3.heap[b]?:=fun b h1=>by
      rw [Below.heap_setCell _ _ _ _ h1,Below.heap_setCell _ _ _ _ h1,Below.heap_setCell _ _ _ _ h1,Below.heap_setCell _ _ _ _ h1,Below.heap_setCell _ _ _ _ h1,Below.heap_setCell _ _ _ _ h1]
    have hbel : Below w.heap.size w ((((((w3.setCell ⟨w.heap.size,0,none⟩ (.slice va reds.length vc)).setCell ⟨w.heap.size,1,none⟩ (.slice ta nt tc)).setCell ⟨w.heap.size,2,none⟩ (.int .i64 nz)).setCell ⟨w.heap.size,3,none⟩ (.int .i64 nst)).setCell ⟨w.heap.size,4,none⟩ (.int .i64 nfa)).setCell ⟨w.heap.size,5,none⟩ (.int .i64 ff)) :=
      ((((((HB0.out.trans (HH5.out.mono (by omega))).setCell (p:=⟨w.heap.size,0,none⟩) (Nat.le_refl _) _).setCell (p:=⟨w.heap.size,1,none⟩) (Nat.le_refl _) _).setCell (p:=⟨w.heap.size,2,none⟩) (Nat.le_refl _) _).setCell (p:=⟨w.heap.size,3,none⟩) (Nat.le_refl _) _).setCell (p:=⟨w.heap.size,4,none⟩) (Nat.le_refl _) _).setCell (p:=⟨w.heap.size,5,none⟩) (Nat.le_refl _) _
    generalize ((((((w3.setCell ⟨w.heap.size,0,none⟩ (.slice va reds.length vc)).setCell ⟨w.heap.size,1,none⟩ (.slice ta nt tc)).setCell ⟨w.heap.size,2,none⟩ (.int .i64 nz)).setCell ⟨w.heap.size,3,none⟩ (.int .i64 nst)).setCell ⟨w.heap.size,4,none⟩ (.int .i64 nfa)).setCell ⟨w.heap.size,5,none⟩ (.int .i64 ff)) = WF at hres hne hbel ⊢
    have y0:=hres.c0
    have y1:=hres.c1
    have y2:=hres.c2
    have y3:=hres.c3
    have y4:=hres.c4
    have y5:=hres.c5
    refine bodyPost_ret (v:=.tuple #[.agg #[.slice va reds.length vc,.slice ta nt tc,.int .i64 nz,.int .i64 nst,.int .i64 nfa,.int .i64 ff],.int .i64 0]) (by simp only [results,Tryz.f28,go_sem];simp [go_sem,y0,y1,y2,y3,y4,y5]) rfl ⟨hbel,fun h=>absurd hre h,fun _=>⟨N,_,_,LV,xs,HEN.out,by rw [show ((N + 1 : Nat) : Int) = (N : Int) + 1 by omega,hnz,hnst,hnfa],?_,?_,?_,?_⟩⟩
    · exact (ownV_turn HH1.out (fun b hb _=>hne b (by omega))).base (by omega)
    · rw [hnt]
      have h2:=HH2.out
      rw [hnt] at h2
      exact own_base (own_turn h2 (fun b hb _=>hne b (by have:=(h2.lt b hb).1;omega))) (by omega)
    · have h3:=HH3.out
      rw [hnt] at h3
      exact h3
    · have h4:=HH4.out
      rw [hnt] at h4
      exact h4
  · have HW0:=hide hW0
    have HO0:=hide o0
    have HB0:=hide hb0
    have y0:=o0.c0
    have y1:=o0.c1
    have y2:=o0.c2
    have y3:=o0.c3
    have y4:=o0.c4
    have y5:=o0.c5
    have yf0:=o0.fz 0
    have yf1:=o0.fz 1
    have yf2:=o0.fz 2
    have yf3:=o0.fz 3
    have yf4:=o0.fz 4
    have yf5:=o0.fz 5
    obtain ⟨er,her⟩ : ∃ er,runErr workers script.length = er:=⟨_,rfl⟩
    rw [her] at HCK hre ⊢
    clear hC k1 k2 k3 k4 k5 hw hck hsc hsv b0 o0 hb0 her
    go_enter Tryz.func28,Tryz.ntmps28
    go_wp2_with (go_at_call 41;refine HCK.out.mono ?_;rintro e W9 ⟨rfl,rfl⟩)
    have hres : OutR ((((((W9.setCell ⟨w.heap.size,0,none⟩ (.slice none 0 0)).setCell ⟨w.heap.size,1,none⟩ (.slice none 0 0)).setCell ⟨w.heap.size,2,none⟩ (.int .i64 0)).setCell ⟨w.heap.size,3,none⟩ (.int .i64 0)).setCell ⟨w.heap.size,4,none⟩ (.int .i64 0)).setCell ⟨w.heap.size,5,none⟩ (.int .i64 0)) w.heap.size (.slice none 0 0) (.slice none 0 0) 0 0 0 0 :=
      heap_set _ w.heap.size 5 _ _ _ (heap_set _ w.heap.size 4 _ _ _ (heap_set _ w.heap.size 3 _ _ _ (heap_set _ w.heap.size 2 _ _ _ (heap_set _ w.heap.size 1 _ _ _ (heap_set _ w.heap.size 0 _ _ _ HO0.out)))))
    have hbel : Below w.heap.size w ((((((W9.setCell ⟨w.heap.size,0,none⟩ (.slice none 0 0)).setCell ⟨w.heap.size,1,none⟩ (.slice none 0 0)).setCell ⟨w.heap.size,2,none⟩ (.int .i64 0)).setCell ⟨w.heap.size,3,none⟩ (.int .i64 0)).setCell ⟨w.heap.size,4,none⟩ (.int .i64 0)).setCell ⟨w.heap.size,5,none⟩ (.int .i64 0)) :=
      (((((HB0.out.setCell (p:=⟨w.heap.size,0,none⟩) (Nat.le_refl _) _).setCell (p:=⟨w.heap.size,1,none⟩) (Nat.le_refl _) _).setCell (p:=⟨w.heap.size,2,none⟩) (Nat.le_refl _) _).setCell (p:=⟨w.heap.size,3,none⟩) (Nat.le_refl _) _).setCell (p:=⟨w.heap.size,4,none⟩) (Nat.le_refl _) _).setCell (p:=⟨w.heap.size,5,none⟩) (Nat.le_refl _) _
    generalize ((((((W9.setCell ⟨w.heap.size,0,none⟩ (.slice none 0 0)).setCell ⟨w.heap.size,1,none⟩ (.slice none 0 0)).setCell ⟨w.heap.size,2,none⟩ (.int .i64 0)).setCell ⟨w.heap.size,3,none⟩ (.int .i64 0)).setCell ⟨w.heap.size,4,none⟩ (.int .i64 0)).setCell ⟨w.heap.size,5,none⟩ (.int .i64 0)) = WF at hres hbel ⊢
    have u0:=hres.c0
    have u1:=hres.c1
    have u2:=hres.c2
    have u3:=hres.c3
    have u4:=hres.c4
    have u5:=hres.c5
    refine bodyPost_ret (v:=.tuple #[.agg #[.slice none 0 0,.slice none 0 0,.int .i64 0,.int .i64 0,.int .i64 0,.int .i64 0],.int .i64 er]) (by simp only [results,Tryz.f28,go_sem];simp [go_sem,u0,u1,u2,u3,u4,u5]) rfl ⟨hbel,fun _=>rfl,fun h=>absurd h hre⟩
end Go.Proofs.YtkmakliebhnhbaaGreat
