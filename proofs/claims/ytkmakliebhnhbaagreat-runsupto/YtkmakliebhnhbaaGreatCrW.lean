import Derived.Test.YtkmakliebhnhbaaGreatCrV
import Derived.Test.YtkmakliebhnhbaaGreatWlkA
namespace Go.Proofs.YtkmakliebhnhbaaGreat
open Go.RowKit Go.Shelf
attribute [local go_sem] Oper.semAt_some
def pickV (p : Int × Int) : List Value:=[.int .i64 p.1,.int .i64 p.2]
theorem turn_script {workers : Nat} {script : List (Int × Int)} {k : Nat} {p : Int × Int} (h : script[k]? = some p) : turnM workers script k = (restM p.1 workers,restM p.2 workers):=by unfold turnM;rw [h]
theorem turn_round {workers : Nat} (hw : 0 < workers) (script : List (Int × Int)) (i j : Nat) (hj : j < workers) : turnM workers script (script.length + i * workers + j) = (j,restM (((j + 1 + i : Nat)) : Int) workers):=by
 unfold turnM
 rw [List.getElem?_eq_none (by omega)]
 simp only
 have e : script.length + i * workers + j - script.length = i * workers + j:=by omega
 rw [e]
 have e1 : (i * workers + j) % workers = j:=by rw [Nat.add_comm,Nat.add_mul_mod_self_right,Nat.mod_eq_of_lt hj]
 have e2 : (i * workers + j) / workers = i:=by
  rw [Nat.add_comm,Nat.add_mul_div_right _ _ hw,Nat.div_eq_of_lt hj];omega
 rw [e1,e2]
 unfold restM
 rw [if_neg (by omega),Int.toNat_natCast]
set_option maxRecDepth 100000 in
set_option maxHeartbeats 8000000 in
theorem turns1 (m l bs bw n₀ workers N : Nat) (script : List (Int × Int)) (sv : Value) (hw : 0 < workers) (hw8 : workers ≤ 8) (hsl : script.length ≤ 4000) (hNN : N ≤ 1000000) (hsc : ∀ p ∈ script,i64 p.1 ∧ i64 p.2) (J Jx : Nat → World → Prop)
  (hJa : ∀ k W W',J k W → Below W.heap.size W W' → J k W')
  (hJf : ∀ k W,J k W → k ≤ N ∧ W.cell? ⟨bs,0,none⟩ = some sv ∧ W.cell? ⟨bw,0,none⟩ = some (.int .i64 (workers : Int)) ∧ RdL (Lt n₀) W 2 pickV sv script)
  (hY : ∀ k W,J k W → YieldAt FW (m - 1) Tryz.prog l #[.int .i64 ((turnM workers script k).1 : Int),.int .i64 ((turnM workers script k).2 : Int)] W fun e W'=>(e = .returned (.bool true) ∧ J (k + 1) W') ∨ (e = .returned (.bool false) ∧ Jx (k + 1) W'))
  (W : World) (h0 : J 0 W) :
  CallsIn FW m Tryz.prog 101 #[.func (.yield l) #[] #[],.pointer (some ⟨bs,0,none⟩),.pointer (some ⟨bw,0,none⟩)] W fun e W'=>(∃ v,e = .returned v) ∧ ∃ k,Jx k W':=by
 have hmix : Tryz.prog.follows .mixedOrders = true:=by kernel_rfl
 obtain ⟨_,c1,c2,hrd⟩:=hJf 0 W h0
 obtain ⟨sa,scap,hsv,hsc1,hsc2⟩:=hrd.form
 subst hsv
 have HJf:=hide hJf
 have HY:=hide hY
 have HJa:=hide hJa
 obtain ⟨ns,hns⟩ : ∃ ns,script.length = ns:=⟨_,rfl⟩
 rw [hns] at c1 hsl
 have HNS:=hide hns
 have H0:=hide h0
 unfold maxLen at hsc2
 rw [hns] at hsc1
 clear hJf hY hJa hrd hns h0
 refine callsIn_of_wp Tryz.func101 rfl trivial ?_ rfl
 simp only [Tryz.ntmps101,List.size_toArray,List.length_cons,List.length_nil,Nat.reduceAdd,Nat.reduceSub,Array.replicate_succ,Array.replicate_zero,List.push_toArray,List.append_toArray,List.nil_append,List.cons_append]
 gi_wp2
 gi_loopw [10] (fun i wr=>∃ k : Nat,k ≤ ns ∧ i = .int .i64 k ∧ J k wr) (fun i _=>ns - (intOf i).toNat)
 case atStart=>exact ⟨0,Nat.zero_le _,rfl,H0.out⟩
 case round =>
  obtain ⟨k,hk,rfl,hJk⟩:=hrel
  obtain ⟨hkN,d1,d2,hrd⟩:=HJf.out k wr hJk
  have HJk:=hide hJk
  clear hJk c1 c2
  by_cases hlt : k < ns
  ·have hlti : (k : Int) < ns:=by omega
   obtain ⟨p,hp⟩ : ∃ p,script[k]? = some p:=⟨script[k]'(by have:=HNS.out;omega),by simp⟩
   obtain ⟨b,off,rfl,hb,hce⟩:=hrd.at hp
   have p0:=hce 0 _ rfl
   have p1:=hce 1 _ rfl
   simp only [Nat.add_zero] at p0
   have hbl:=block_lt_of_cell p0
   simp only at hbl
   have hsp:=block_lt_of_cell d2
   simp only at hsp
   obtain ⟨q0,q1⟩:=hsc p (List.mem_of_getElem? hp)
   have ht:=turn_script (workers:=workers) hp
   obtain ⟨pw,pv⟩:=p
   dsimp only at p0 p1 q0 q1 ht
   have HT:=hide ht
   clear hce ht hp hrd
   gi_wp2
   obtain ⟨V,hV⟩ : ∃ V,wr.alloc (.cells #[.int .i64 pw,.int .i64 pv] 26) = V:=⟨_,rfl⟩
   have hbV : Below wr.heap.size wr V:=by rw [← hV];exact (Below.refl _ wr).alloc (Nat.le_refl _) _
   have bV : V.heap[wr.heap.size]? = some (.cells #[.int .i64 pw,.int .i64 pv] 26 (0,0)):=by rw [← hV];exact World.alloc_heap_new wr _
   have v0 : V.cell? ⟨wr.heap.size,0,none⟩ = some (.int .i64 pw):=by simp [World.cell?,bV]
   have v1 : V.cell? ⟨wr.heap.size,1,none⟩ = some (.int .i64 pv):=by simp [World.cell?,bV]
   have v2:=(hbV.cell (p:=⟨bw,0,none⟩) hsp).trans d2
   have HR1 : Hid (∀ nq : Nat,Calls Tryz.prog 102 #[.int .i64 pw,.int .i64 (workers : Int)] (V.drewN nq) fun e w'=>e = .returned (.int .i64 (restM pw workers : Nat)) ∧ w' = V.drewN nq):=fun nq=>rest_crew pw workers _ hw (by omega) q0
   have HR2 : Hid (∀ nq : Nat,Calls Tryz.prog 102 #[.int .i64 pv,.int .i64 (workers : Int)] (V.drewN nq) fun e w'=>e = .returned (.int .i64 (restM pv workers : Nat)) ∧ w' = V.drewN nq):=fun nq=>rest_crew pv workers _ hw (by omega) q1
   rw [hV]
   have HbV:=hide hbV
   clear hV bV p0 p1 hbV
   rename_i K0 hK0
   refine region_split (F:=FW) (C:=fun w'=>∃ n,w' = V.drewN n) (ro:=none) (k:=9) (r:=2) hmix rfl (by kernel_rfl) (by kernel_rfl) ⟨1,rfl⟩ ?_
   simp only [List.take_succ_cons,List.take_zero]
   repeat (gi_big_quiet_step (fail))
   refine BigFrame.wpQuietIn_want (fun _ _ _ _=>trivial) rfl ?_
   intro K hK
   gi_big_quiet_op
   apply Exists.intro
   refine ⟨fun _=>?_,?_⟩
   ·exact ⟨room_none _,(callsIn_wide.2 (HR1.out _)).mono (fun e w1 he=>⟨he.1,_,he.2⟩)⟩
   go_big_quiet_on
   repeat (gi_big_quiet_step (fail))
   refine BigFrame.wpQuietIn_want (fun _ _ _ _=>trivial) rfl ?_
   intro K hK
   gi_big_quiet_op
   apply Exists.intro
   refine ⟨fun _=>?_,?_⟩
   ·exact ⟨room_none _,(callsIn_wide.2 (HR2.out _)).mono (fun e w1 he=>⟨he.1,_,he.2⟩)⟩
   go_big_quiet_on
   repeat (gi_big_quiet_step (fail))
   refine wpQuietIn_nil ?_
   intro _ hw'
   obtain ⟨nq,hw''⟩:=hw'
   subst hw''
   have hJ2 : J k (V.drewN nq):=HJa.out k wr _ HJk.out (below_drewN HbV.out nq)
   obtain ⟨fn,tmps,assign,body,hy,hR⟩:=HY.out k (V.drewN nq) hJ2
   rw [HT.out] at hy
   dsimp only at hy
   refine wpAnyIn_ready (rs:=[9]) (by kernel_rfl) (by simp) ?_
   refine AllReadyIn.cons rfl (fun K hK=>?_) AllReadyIn.nil
   go_simp
   refine ⟨room_none _,hR.mono ?_⟩
   rintro e W3 (⟨rfl,hJ3⟩ | ⟨rfl,hJx3⟩)
   ·refine hK _ _ ?_
    clear hK
    refine wpAnyIn_ready (rs:=[10]) (by kernel_rfl) (by simp) ?_
    refine AllReadyIn.cons rfl (fun K hK=>?_) AllReadyIn.nil
    go_simp
    refine hK _ _ ?_
    clear hK
    refine wpAnyIn_done (by kernel_rfl) ?_ _
    refine hK0 _ _ ?_
    gi_wp2
    go_roundw
    case rel=>exact ⟨k + 1,by omega,by simp,hJ3⟩
    case measure=>simp [intOf];omega
   ·refine hK _ _ ?_
    clear hK
    refine wpAnyIn_ready (rs:=[10]) (by kernel_rfl) (by simp) ?_
    refine AllReadyIn.cons rfl (fun K hK=>?_) AllReadyIn.nil
    go_simp
    refine hK _ _ ?_
    clear hK
    refine wpAnyIn_done (by kernel_rfl) ?_ _
    refine hK0 _ _ ?_
    gi_wp2
    refine bodyPost_ret (results_none rfl _ _ _) rfl ?_
    exact ⟨⟨_,rfl⟩,_,hJx3⟩
  ·obtain rfl : k = ns:=by omega
   have HD1:=hide d1
   clear d1 hrd
   gi_wp2
   gi_loopw [6] (fun i wq=>∃ r : Nat,i = .int .i64 r ∧ J (k + r * workers) wq) (fun i _=>N + 1 - (k + (intOf i).toNat * workers))
   case atStart=>exact ⟨0,rfl,by rw [Nat.zero_mul,Nat.add_zero];exact HJk.out⟩
   case round =>
    obtain ⟨r,rfl,hJr⟩:=hrel
    obtain ⟨hrN,_,e2,_⟩:=HJf.out _ wr hJr
    have HJr:=hide hJr
    have hrm : r ≤ r * workers:=Nat.le_mul_of_pos_right _ hw
    clear hJr d2
    gi_wp2
    gi_loopw [29] (fun j wq=>∃ q : Nat,q ≤ workers ∧ j = .int .i64 q ∧ J (k + r * workers + q) wq) (fun j _=>workers - (intOf j).toNat)
    case atStart=>exact ⟨0,Nat.zero_le _,rfl,HJr.out⟩
    case round =>
     obtain ⟨q,hq,rfl,hJq⟩:=hrel
     obtain ⟨hqN,_,f2,_⟩:=HJf.out _ wr hJq
     have HJq:=hide hJq
     clear hJq e2
     by_cases hlt2 : q < workers
     ·have hlti : (q : Int) < workers:=by omega
      have HT : Hid (turnM workers script (k + r * workers + q) = (q,restM (((q + 1 + r : Nat)) : Int) workers)):=by
       have:=turn_round hw script r q hlt2
       rw [HNS.out] at this
       exact this
      obtain ⟨fn,tmps,assign,body,hy,hR⟩:=HY.out _ _ HJq.out
      rw [HT.out] at hy
      dsimp only at hy
      have HCI : Hid (((q + 1 + r : Nat) : Int) = (q : Int) + 1 + (r : Int)):=by unfold Hid;omega
      have ri : (r : Int) ≤ 1000000:=by omega
      have r0 : (0 : Int) ≤ r:=by omega
      have q0 : (0 : Int) ≤ q:=by omega
      rw [HCI.out] at hy
      have HRS : Hid (Calls Tryz.prog 102 #[.int .i64 ((q : Int) + 1 + (r : Int)),.int .i64 (workers : Int)] wr fun e w'=>e = .returned (.int .i64 (restM ((q : Int) + 1 + (r : Int)) workers : Nat)) ∧ w' = wr):=rest_crew _ workers _ hw (by omega) (by unfold i64;omega)
      clear HCI
      gi_wp2_with (refine ⟨trivial,room_none _,?_⟩;gi_at_call 102;refine (callsIn_wide.2 HRS.out).mono ?_;rintro e w' ⟨rfl,rfl⟩)
      refine ⟨room_none _,hR.mono ?_⟩
      rintro e W3 (⟨rfl,hJ3⟩ | ⟨rfl,hJx3⟩)
      ·gi_wp2
       go_roundw
       case rel=>exact ⟨q + 1,by omega,by simp,hJ3⟩
       case measure=>simp [intOf];omega
      ·gi_wp2
       refine bodyPost_ret (results_none rfl _ _ _) rfl ?_
       exact ⟨⟨_,rfl⟩,_,hJx3⟩
     ·obtain rfl : q = workers:=by omega
      have hN2:=hqN
      gi_wp2
      have hmul : (r + 1) * q = r * q + q:=by rw [Nat.add_mul,Nat.one_mul]
      refine ⟨⟨r + 1,by simp,?_⟩,?_⟩
      ·rw [hmul,← Nat.add_assoc];exact HJq.out
      ·have e1 : (intOf (Value.int IntKind.i64 ((r : Int) + 1))).toNat = r + 1:=by simp [intOf] <;> omega
       have e2 : (intOf (Value.int IntKind.i64 (r : Int))).toNat = r:=by simp [intOf]
       rw [e1,e2,hmul]
       omega
end Go.Proofs.YtkmakliebhnhbaaGreat
