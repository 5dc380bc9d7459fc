import Derived.WalkKit
import Derived.ProofKit
import Derived.OpenShut
import Derived.JoinedCond
import Derived.Carry
import Derived.Test.YtkmakliebhnhbaaGreatLwK
import Derived.Test.YtkmakliebhnhbaaGreatSerB
import Derived.Test.YtkmakliebhnhbaaGreatRuC
namespace Go.Proofs.YtkmakliebhnhbaaGreat
open Go.ChangeShapes Go.WideShapes Go.ChangeAt Go.RowKit
theorem Tryz.ownR : ownKnob Tryz.prog.godebug = none:=by kernel_rfl
theorem Tryz.laidOutR : laidOutB Tryz.prog = true:=by kernel_rfl
set_option maxRecDepth 100000 in
theorem runs_contract (D : Dev) (hNew : NewSaid D) (hSer : SerialSaid D) (hRun : RunSaid D) (H : Type) (enc : TypeId × Value → H) (W : World) (base : Nat) (args : Array Value) (ds gs : List (DataW H)) (before : List MemPlace)
  (hval : ∀ (j : Nat) t v,Tryz.f4.params[j]? = some t → args[j]? = some v → Value.okWide Tryz.prog W .any base t v)
  (hW : DataW.Whole enc Tryz.prog Tryz.f4.params.toList Rows.runsSpec.vars false W args.toList ds gs before) (hk : Rows.uptoSmall H (ds ++ gs) = true) :
  Calls Tryz.prog 4 args W fun e W'=>∃ v,e = .returned v ∧ Rows.runsSpec.post enc Tryz.prog Tryz.f4 false true false false W args v W':=by
 have hW':=hW
 obtain ⟨p,q,hA0,hV,rfl,hfz,hnd⟩:=hW
 have hA : DataW.TrodAll enc Tryz.prog W 0 (fun _=>true) true Tryz.f4.params.toList args.toList ds p:=hA0
 rw [Tryz.params4] at hA hval
 obtain ⟨v0,d0,rfl,rfl,h0⟩:=trodAll_one hA
 obtain ⟨rfl,rfl⟩:=trodVars_none hV
 obtain ⟨a0,len,cap,rfl⟩:=okWide_slice Tryz.underlying22 (hval 0 22 v0 rfl rfl)
 have h0k:=h0
 obtain ⟨fuel,hf⟩:=h0
 clear hA0
 simp only [List.append_nil] at hW' hk
 have hlt : ∀ x ∈ p,x.block < W.heap.size:=fun x hx=>by simpa using hW'.lt x hx
 have hb : Rows.uptoBulk d0 ≤ 1048576:=by
  have:=of_decide_eq_true hk
  simp only [Rows.uptoBulkAll] at this
  omega
 obtain ⟨v,l,hv,hl,hok,hn⟩:=open_opsR _ _ _ hf hb
 have hv0 : Value.slice a0 len cap = v:=by simpa [Value.cells] using hv
 subst hv0
 refine (runs_any D hNew hSer hRun _ (.slice a0 len cap) l W hl hok hn).mono fun e W' ⟨he,hg⟩=>?_
 subst he
 refine ⟨_,rfl,[d0],[],p,[],p,[],hW',trodAll_cons_mk (shut_bool Tryz.underlying4 _) trodAll_mk0,?_,rfl,hg.frame _,fun h=>by cases h⟩
 rw [Tryz.params4]
 exact trodAll_mk1 (Below.trod Tryz.laidOutR (by kernel_rfl) (of_decide_eq_true (by kernel_rfl)) h0k hg hlt)
set_option maxRecDepth 100000 in
theorem runs_lifted (D : Dev) (hNew : NewSaid D) (hSer : SerialSaid D) (hRun : RunSaid D) (os : Os) (started : os.Started) (H : Type) (enc : TypeId × Value → H) (F : Stop.Interp) :
  ReturnsInHanded {} Tryz.checked os 4 .any ((Rows.OpenSpec.upto Rows.runsSpec).pre6 enc Tryz.prog Tryz.f4 Rows.runsUptoRow.domain false) (((Rows.OpenSpec.upto Rows.runsSpec).at F).post enc Tryz.prog Tryz.f4 false true false false):=by
 refine returnsInHanded_of_cond (C:=Tryz.checked) (s:=Rows.OpenSpec.upto Rows.runsSpec) (k:=Rows.uptoSmall) rfl Tryz.ownR started (by kernel_rfl) Tryz.func4
  (OpenSpec.witness (enc:=enc) (C:=Tryz.checked) (s:=Rows.OpenSpec.upto Rows.runsSpec) (k:=Rows.uptoSmall) rfl false ⟨#[],#[.slice none 0 0],[]⟩ 8 (by kernel_rfl) (by kernel_rfl) (by kernel_rfl)
   (x:=([.nil],[],[])) (by kernel_rfl) rfl (by kernel_rfl)) ?_
 intro W base args ds gs before hval hW _ hk _
 exact runs_contract D hNew hSer hRun H enc W base args ds gs before hval hW hk
theorem runs_over (D : Dev) (hNew : NewSaid D) (hSer : SerialSaid D) (hRun : RunSaid D) : Rows.runsUptoRow.holds Tryz.pinned (Rows.OpenSpec.upto Rows.runsSpec) :=
 OpenClaim.holds_of_cond 4 Tryz.f4 rfl rfl rfl rfl rfl rfl rfl ⟨rfl,rfl,rfl,rfl,rfl⟩ rfl rfl rfl rfl rfl (by kernel_rfl) Tryz.func4 (by kernel_rfl)
  (of_decide_eq_true (by kernel_rfl)) (by unfold Func.isWrapper;first | (rw [if_pos (by decide +kernel)];kernel_rfl) | (rw [if_neg (by decide +kernel)];exact ⟨rfl,rfl⟩))
  (fun os started H enc _ F=>runs_lifted D hNew hSer hRun os started H enc F)
theorem runs_proved : Rows.RunsUptoSaid:=runs_over dev new_said serial_said run_said
end Go.Proofs.YtkmakliebhnhbaaGreat
