/-
  No cell of these rows narrows 'for every input' (looked for: loops, veiled, ifaces, maps, wideKeys, modest, calm, conditions, laid).
  DERIVED. THE GIVEN ROWS OF THIS SEAT. 7 by the template 'for every input the law returns true; each argument reads behind the call as it read before'; 0 by the template 'total and deterministic' (their statements: YtkmakliebhnhbaaTotals.lean).
  GIVEN WITH THE SEED: the statements are not yours to turn. If you find one false, say at which input.
  Laid BY PROGRAM, IN A SANDBOX (cutbox-rows.mjs): the forced cells as the released guide's own fill.sh prints them over the translation 31abc2a122fbce8a… (all of the seat's roots in one cut). By AI agents, Wed Nov 11 2026. No macro, syntax, notation, axiom, sorry.
-/
import Derived.Test.YtkmakliebhnhbaaChecked
import GoSem.Claim
import GoSem.ClaimJoined
import GoSem.ClaimMapViews
import Derived.JoinedTies
import Derived.KernelRfl
namespace Go.Proofs.Ytkmakliebhnhbaa
/- THE CELL 'sum', in the pinned program and in every row, IS THE sha256 OF THE DUMP (.gsa) THAT YtkmakliebhnhbaaProg.lean LOADS. Nothing in Lean hashes anything: it is a label: what it is worth is what the hold of that sum in a sandbox is worth. -/
noncomputable def Try.pinned : Pinned := { name := "ytkmakliebhnhbaa", sum := "31abc2a122fbce8a4e5440cb300209d345f20ec63ef091eabff2fa70c6c72a3d", checked := Try.checked }
namespace Rows
def none {H : Type} : Left H := { results := [], args := [] }

/-- 'distaffkeep.Gathered': WHATEVER THE INPUT: true; the input reads as it did. -/
def gatheredSpec : ChangeSpec := { name := "gathered", fn := fun _ => fun
  | [d1, d2, d3] => { results := [.lit (.bool true)], args := [d1, d2, d3] }
  | _ => none }
def gatheredRow : OpenClaim := { program := "ytkmakliebhnhbaa", sum := "31abc2a122fbce8a4e5440cb300209d345f20ec63ef091eabff2fa70c6c72a3d", func := "distaff/distaffkeep.Gathered", spec := "gathered", unfollowed := true, recurses := true, apart := false }
def GatheredSaid : Prop := gatheredRow.holds Try.pinned (OpenSpec.ofChange gatheredSpec)

/-- ITS FALSE NEIGHBOUR: 'it returns false'. Refute it at one input. -/
def gatheredWrong : ChangeSpec := { name := "gathered", fn := fun _ => fun
  | [d1, d2, d3] => { results := [.lit (.bool false)], args := [d1, d2, d3] }
  | _ => none }
def GatheredWrongFalsely : Prop := gatheredRow.holds Try.pinned (OpenSpec.ofChange gatheredWrong)

/-- 'distaffkeep.Drawn': WHATEVER THE INPUT: true; the input reads as it did. -/
def drawnSpec : ChangeSpec := { name := "drawn", fn := fun _ => fun
  | [d1, d2, d3] => { results := [.lit (.bool true)], args := [d1, d2, d3] }
  | _ => none }
def drawnRow : OpenClaim := { program := "ytkmakliebhnhbaa", sum := "31abc2a122fbce8a4e5440cb300209d345f20ec63ef091eabff2fa70c6c72a3d", func := "distaff/distaffkeep.Drawn", spec := "drawn", unfollowed := true, recurses := true, apart := false }
def DrawnSaid : Prop := drawnRow.holds Try.pinned (OpenSpec.ofChange drawnSpec)

/-- ITS FALSE NEIGHBOUR: 'it returns false'. Refute it at one input. -/
def drawnWrong : ChangeSpec := { name := "drawn", fn := fun _ => fun
  | [d1, d2, d3] => { results := [.lit (.bool false)], args := [d1, d2, d3] }
  | _ => none }
def DrawnWrongFalsely : Prop := drawnRow.holds Try.pinned (OpenSpec.ofChange drawnWrong)

/-- 'distaffkeep.Unseen': WHATEVER THE INPUT: true; the input reads as it did. -/
def unseenSpec : ChangeSpec := { name := "unseen", fn := fun _ => fun
  | [d1, d2, d3, d4, d5, d6] => { results := [.lit (.bool true)], args := [d1, d2, d3, d4, d5, d6] }
  | _ => none }
def unseenRow : OpenClaim := { program := "ytkmakliebhnhbaa", sum := "31abc2a122fbce8a4e5440cb300209d345f20ec63ef091eabff2fa70c6c72a3d", func := "distaff/distaffkeep.Unseen", spec := "unseen", unfollowed := true, recurses := true, apart := false }
def UnseenSaid : Prop := unseenRow.holds Try.pinned (OpenSpec.ofChange unseenSpec)

/-- ITS FALSE NEIGHBOUR: 'it returns false'. Refute it at one input. -/
def unseenWrong : ChangeSpec := { name := "unseen", fn := fun _ => fun
  | [d1, d2, d3, d4, d5, d6] => { results := [.lit (.bool false)], args := [d1, d2, d3, d4, d5, d6] }
  | _ => none }
def UnseenWrongFalsely : Prop := unseenRow.holds Try.pinned (OpenSpec.ofChange unseenWrong)

/-- 'distaffkeep.Once': WHATEVER THE INPUT: true; the input reads as it did. -/
def onceSpec : ChangeSpec := { name := "once", fn := fun _ => fun
  | [d1, d2, d3, d4, d5] => { results := [.lit (.bool true)], args := [d1, d2, d3, d4, d5] }
  | _ => none }
def onceRow : OpenClaim := { program := "ytkmakliebhnhbaa", sum := "31abc2a122fbce8a4e5440cb300209d345f20ec63ef091eabff2fa70c6c72a3d", func := "distaff/distaffkeep.Once", spec := "once", unfollowed := true, recurses := true, apart := false }
def OnceSaid : Prop := onceRow.holds Try.pinned (OpenSpec.ofChange onceSpec)

/-- ITS FALSE NEIGHBOUR: 'it returns false'. Refute it at one input. -/
def onceWrong : ChangeSpec := { name := "once", fn := fun _ => fun
  | [d1, d2, d3, d4, d5] => { results := [.lit (.bool false)], args := [d1, d2, d3, d4, d5] }
  | _ => none }
def OnceWrongFalsely : Prop := onceRow.holds Try.pinned (OpenSpec.ofChange onceWrong)

/-- 'distaffkeep.Lone': WHATEVER THE INPUT: true; the input reads as it did. -/
def loneSpec : ChangeSpec := { name := "lone", fn := fun _ => fun
  | [d1, d2, d3, d4] => { results := [.lit (.bool true)], args := [d1, d2, d3, d4] }
  | _ => none }
def loneRow : OpenClaim := { program := "ytkmakliebhnhbaa", sum := "31abc2a122fbce8a4e5440cb300209d345f20ec63ef091eabff2fa70c6c72a3d", func := "distaff/distaffkeep.Lone", spec := "lone", unfollowed := true, recurses := true, apart := false }
def LoneSaid : Prop := loneRow.holds Try.pinned (OpenSpec.ofChange loneSpec)

/-- ITS FALSE NEIGHBOUR: 'it returns false'. Refute it at one input. -/
def loneWrong : ChangeSpec := { name := "lone", fn := fun _ => fun
  | [d1, d2, d3, d4] => { results := [.lit (.bool false)], args := [d1, d2, d3, d4] }
  | _ => none }
def LoneWrongFalsely : Prop := loneRow.holds Try.pinned (OpenSpec.ofChange loneWrong)

/-- 'distaffkeep.Counted': WHATEVER THE INPUT: true; the input reads as it did. -/
def countedSpec : ChangeSpec := { name := "counted", fn := fun _ => fun
  | [d1, d2, d3, d4, d5] => { results := [.lit (.bool true)], args := [d1, d2, d3, d4, d5] }
  | _ => none }
def countedRow : OpenClaim := { program := "ytkmakliebhnhbaa", sum := "31abc2a122fbce8a4e5440cb300209d345f20ec63ef091eabff2fa70c6c72a3d", func := "distaff/distaffkeep.Counted", spec := "counted", unfollowed := true, recurses := true, apart := false }
def CountedSaid : Prop := countedRow.holds Try.pinned (OpenSpec.ofChange countedSpec)

/-- ITS FALSE NEIGHBOUR: 'it returns false'. Refute it at one input. -/
def countedWrong : ChangeSpec := { name := "counted", fn := fun _ => fun
  | [d1, d2, d3, d4, d5] => { results := [.lit (.bool false)], args := [d1, d2, d3, d4, d5] }
  | _ => none }
def CountedWrongFalsely : Prop := countedRow.holds Try.pinned (OpenSpec.ofChange countedWrong)

/-- 'distaffkeep.Swept': WHATEVER THE INPUT: true; the input reads as it did. -/
def sweptSpec : ChangeSpec := { name := "swept", fn := fun _ => fun
  | [d1, d2, d3, d4, d5] => { results := [.lit (.bool true)], args := [d1, d2, d3, d4, d5] }
  | _ => none }
def sweptRow : OpenClaim := { program := "ytkmakliebhnhbaa", sum := "31abc2a122fbce8a4e5440cb300209d345f20ec63ef091eabff2fa70c6c72a3d", func := "distaff/distaffkeep.Swept", spec := "swept", inPlace := ["(*sync.WaitGroup).Go", "(*sync.WaitGroup).Add", "internal/race.ReleaseMerge", "internal/race.Disable", "internal/race.Enable", "internal/synctest.IsInBubble", "internal/synctest.Associate[sync.WaitGroup]", "sync.fatal", "sync/atomic.OrUint64", "sync/atomic.AddUint64", "internal/race.Read", "sync/atomic.LoadUint64", "sync/atomic.StoreUint64", "internal/synctest.Disassociate[sync.WaitGroup]", "sync.runtime_Semrelease", "(*sync.WaitGroup).Go$1", "(*sync.WaitGroup).Go$1$1", "(*sync.WaitGroup).Done", "(*sync.WaitGroup).Wait", "internal/race.Acquire", "internal/synctest.IsAssociated[sync.WaitGroup]", "sync/atomic.CompareAndSwapUint64", "internal/race.Write", "sync.runtime_SemacquireWaitGroup"], unfollowed := true, recurses := true, apart := false }
def SweptSaid : Prop := sweptRow.holds Try.pinned (OpenSpec.ofChange sweptSpec)

/-- ITS FALSE NEIGHBOUR: 'it returns false'. Refute it at one input. -/
def sweptWrong : ChangeSpec := { name := "swept", fn := fun _ => fun
  | [d1, d2, d3, d4, d5] => { results := [.lit (.bool false)], args := [d1, d2, d3, d4, d5] }
  | _ => none }
def SweptWrongFalsely : Prop := sweptRow.holds Try.pinned (OpenSpec.ofChange sweptWrong)

/- THE SECOND FORM. 'bulk': how many values and letters a reading holds, each counted each time it is reached (what is shared counts as often as it is met; a slice's spare places count too). A statement '..UptoSaid' is the law's where the arguments, and the package variables that the reading takes, are together of bulk at most 1048576: NARROWER than '..Said'. Prove '..Said' where nothing that the law and all that it calls make is longer than what came in: it says more and counts as full. Else prove '..UptoSaid'. A law counts once. -/
mutual
def uptoBulk {H : Type} : DataW H → Nat
  | .lit (.string bytes) => bytes.length + 1
  | .lit _ => 1
  | .nil => 1
  | .ptr d => uptoBulk d + 1
  | .slice elems spare => uptoBulkAll elems + uptoBulkAll spare + 1
  | .agg parts => uptoBulkAll parts + 1
  | .iface _ d => uptoBulk d + 1
  | .map entries => uptoBulkEntries entries + 1
  | .held _ => 1
def uptoBulkAll {H : Type} : List (DataW H) → Nat
  | [] => 0
  | d :: r => uptoBulk d + uptoBulkAll r
def uptoBulkEntries {H : Type} : List (Lit × DataW H) → Nat
  | [] => 0
  | x :: r => uptoBulkEntry x + uptoBulkEntries r
def uptoBulkEntry {H : Type} : Lit × DataW H → Nat
  | (.string bytes, d) => bytes.length + uptoBulk d + 1
  | (_, d) => uptoBulk d + 1
 end
def uptoSmall : (H : Type) → List (DataW H) → Bool := fun _ ds => decide (uptoBulkAll ds ≤ 1048576)
def OpenSpec.upto (s : _root_.Go.ChangeSpec) : _root_.Go.OpenSpec := { _root_.Go.OpenSpec.ofChange s with cond := some uptoSmall }

/-- 'distaffkeep.Gathered', WHERE WHAT IT READS IS OF BULK AT MOST 1048576: true; the input reads as it did. -/
def gatheredUptoRow : OpenClaim := { program := "ytkmakliebhnhbaa", sum := "31abc2a122fbce8a4e5440cb300209d345f20ec63ef091eabff2fa70c6c72a3d", func := "distaff/distaffkeep.Gathered", spec := "gathered", unfollowed := true, recurses := true, apart := false, narrowed := true }
def GatheredUptoSaid : Prop := gatheredUptoRow.holds Try.pinned (OpenSpec.upto gatheredSpec)

/-- 'distaffkeep.Drawn', WHERE WHAT IT READS IS OF BULK AT MOST 1048576: true; the input reads as it did. -/
def drawnUptoRow : OpenClaim := { program := "ytkmakliebhnhbaa", sum := "31abc2a122fbce8a4e5440cb300209d345f20ec63ef091eabff2fa70c6c72a3d", func := "distaff/distaffkeep.Drawn", spec := "drawn", unfollowed := true, recurses := true, apart := false, narrowed := true }
def DrawnUptoSaid : Prop := drawnUptoRow.holds Try.pinned (OpenSpec.upto drawnSpec)

/-- 'distaffkeep.Unseen', WHERE WHAT IT READS IS OF BULK AT MOST 1048576: true; the input reads as it did. -/
def unseenUptoRow : OpenClaim := { program := "ytkmakliebhnhbaa", sum := "31abc2a122fbce8a4e5440cb300209d345f20ec63ef091eabff2fa70c6c72a3d", func := "distaff/distaffkeep.Unseen", spec := "unseen", unfollowed := true, recurses := true, apart := false, narrowed := true }
def UnseenUptoSaid : Prop := unseenUptoRow.holds Try.pinned (OpenSpec.upto unseenSpec)

/-- 'distaffkeep.Once', WHERE WHAT IT READS IS OF BULK AT MOST 1048576: true; the input reads as it did. -/
def onceUptoRow : OpenClaim := { program := "ytkmakliebhnhbaa", sum := "31abc2a122fbce8a4e5440cb300209d345f20ec63ef091eabff2fa70c6c72a3d", func := "distaff/distaffkeep.Once", spec := "once", unfollowed := true, recurses := true, apart := false, narrowed := true }
def OnceUptoSaid : Prop := onceUptoRow.holds Try.pinned (OpenSpec.upto onceSpec)

/-- 'distaffkeep.Lone', WHERE WHAT IT READS IS OF BULK AT MOST 1048576: true; the input reads as it did. -/
def loneUptoRow : OpenClaim := { program := "ytkmakliebhnhbaa", sum := "31abc2a122fbce8a4e5440cb300209d345f20ec63ef091eabff2fa70c6c72a3d", func := "distaff/distaffkeep.Lone", spec := "lone", unfollowed := true, recurses := true, apart := false, narrowed := true }
def LoneUptoSaid : Prop := loneUptoRow.holds Try.pinned (OpenSpec.upto loneSpec)

/-- 'distaffkeep.Counted', WHERE WHAT IT READS IS OF BULK AT MOST 1048576: true; the input reads as it did. -/
def countedUptoRow : OpenClaim := { program := "ytkmakliebhnhbaa", sum := "31abc2a122fbce8a4e5440cb300209d345f20ec63ef091eabff2fa70c6c72a3d", func := "distaff/distaffkeep.Counted", spec := "counted", unfollowed := true, recurses := true, apart := false, narrowed := true }
def CountedUptoSaid : Prop := countedUptoRow.holds Try.pinned (OpenSpec.upto countedSpec)

/-- 'distaffkeep.Swept', WHERE WHAT IT READS IS OF BULK AT MOST 1048576: true; the input reads as it did. -/
def sweptUptoRow : OpenClaim := { program := "ytkmakliebhnhbaa", sum := "31abc2a122fbce8a4e5440cb300209d345f20ec63ef091eabff2fa70c6c72a3d", func := "distaff/distaffkeep.Swept", spec := "swept", inPlace := ["(*sync.WaitGroup).Go", "(*sync.WaitGroup).Add", "internal/race.ReleaseMerge", "internal/race.Disable", "internal/race.Enable", "internal/synctest.IsInBubble", "internal/synctest.Associate[sync.WaitGroup]", "sync.fatal", "sync/atomic.OrUint64", "sync/atomic.AddUint64", "internal/race.Read", "sync/atomic.LoadUint64", "sync/atomic.StoreUint64", "internal/synctest.Disassociate[sync.WaitGroup]", "sync.runtime_Semrelease", "(*sync.WaitGroup).Go$1", "(*sync.WaitGroup).Go$1$1", "(*sync.WaitGroup).Done", "(*sync.WaitGroup).Wait", "internal/race.Acquire", "internal/synctest.IsAssociated[sync.WaitGroup]", "sync/atomic.CompareAndSwapUint64", "internal/race.Write", "sync.runtime_SemacquireWaitGroup"], unfollowed := true, recurses := true, apart := false, narrowed := true }
def SweptUptoSaid : Prop := sweptUptoRow.holds Try.pinned (OpenSpec.upto sweptSpec)

end Rows
end Go.Proofs.Ytkmakliebhnhbaa
