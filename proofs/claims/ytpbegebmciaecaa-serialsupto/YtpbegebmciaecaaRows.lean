/-
  No cell of these rows narrows 'for every input' (looked for: loops, veiled, ifaces, maps, wideKeys, modest, calm, conditions, laid).
  DERIVED. THE GIVEN ROWS OF THIS SEAT. 8 by the template 'for every input the law returns true; each argument reads behind the call as it read before'; 0 by the template 'total and deterministic' (their statements: YtpbegebmciaecaaTotals.lean).
  GIVEN WITH THE SEED: the statements are not yours to turn. If you find one false, say at which input.
  Laid BY PROGRAM, IN A SANDBOX (cutbox-rows.mjs): the forced cells as the released guide's own fill.sh prints them over the translation 35eeff186cb193c1… (all of the seat's roots in one cut). By AI agents, Wed Nov 11 2026. No macro, syntax, notation, axiom, sorry.
-/
import Derived.Test.YtpbegebmciaecaaChecked
import GoSem.Claim
import GoSem.ClaimJoined
import GoSem.ClaimMapViews
import Derived.JoinedTies
import Derived.KernelRfl
namespace Go.Proofs.Ytpbegebmciaecaa
/- THE CELL 'sum', in the pinned program and in every row, IS THE sha256 OF THE DUMP (.gsa) THAT YtpbegebmciaecaaProg.lean LOADS. Nothing in Lean hashes anything: it is a label: what it is worth is what the hold of that sum in a sandbox is worth. -/
noncomputable def Try.pinned : Pinned := { name := "ytpbegebmciaecaa", sum := "35eeff186cb193c1ffa03ce5203a895f2f185725e2844fb1497be5a944d790fe", checked := Try.checked }
namespace Rows
def none {H : Type} : Left H := { results := [], args := [] }

/-- 'distafflaw.Serials': WHATEVER THE INPUT: true; the input reads as it did. -/
def serialsSpec : ChangeSpec := { name := "serials", fn := fun _ => fun
  | [d] => { results := [.lit (.bool true)], args := [d] }
  | _ => none }
def serialsRow : OpenClaim := { program := "ytpbegebmciaecaa", sum := "35eeff186cb193c1ffa03ce5203a895f2f185725e2844fb1497be5a944d790fe", func := "distaff/distafflaw.Serials", spec := "serials", unfollowed := true, recurses := true, apart := false }
def SerialsSaid : Prop := serialsRow.holds Try.pinned (OpenSpec.ofChange serialsSpec)

/-- ITS FALSE NEIGHBOUR: 'it returns false'. Refute it at one input. -/
def serialsWrong : ChangeSpec := { name := "serials", fn := fun _ => fun
  | [d] => { results := [.lit (.bool false)], args := [d] }
  | _ => none }
def SerialsWrongFalsely : Prop := serialsRow.holds Try.pinned (OpenSpec.ofChange serialsWrong)

/-- 'distaffkeep.Gathered': WHATEVER THE INPUT: true; the input reads as it did. -/
def gatheredSpec : ChangeSpec := { name := "gathered", fn := fun _ => fun
  | [d1, d2, d3] => { results := [.lit (.bool true)], args := [d1, d2, d3] }
  | _ => none }
def gatheredRow : OpenClaim := { program := "ytpbegebmciaecaa", sum := "35eeff186cb193c1ffa03ce5203a895f2f185725e2844fb1497be5a944d790fe", func := "distaff/distaffkeep.Gathered", spec := "gathered", unfollowed := true, recurses := true, apart := false }
def GatheredSaid : Prop := gatheredRow.holds Try.pinned (OpenSpec.ofChange gatheredSpec)

/-- ITS FALSE NEIGHBOUR: 'it returns false'. Refute it at one input. -/
def gatheredWrong : ChangeSpec := { name := "gathered", fn := fun _ => fun
  | [d1, d2, d3] => { results := [.lit (.bool false)], args := [d1, d2, d3] }
  | _ => none }
def GatheredWrongFalsely : Prop := gatheredRow.holds Try.pinned (OpenSpec.ofChange gatheredWrong)

/-- 'distaffkeep.Drawn': WHATEVER THE INPUT: true; the input reads as it did. -/
def drawnSpec : ChangeSpec := { name := "drawn", fn := fun _ => fun
  | [d1, d2, d3] => { results := [.lit (.bool true)], args := [d1, d2, d3] }
  | _ => none }
def drawnRow : OpenClaim := { program := "ytpbegebmciaecaa", sum := "35eeff186cb193c1ffa03ce5203a895f2f185725e2844fb1497be5a944d790fe", func := "distaff/distaffkeep.Drawn", spec := "drawn", unfollowed := true, recurses := true, apart := false }
def DrawnSaid : Prop := drawnRow.holds Try.pinned (OpenSpec.ofChange drawnSpec)

/-- ITS FALSE NEIGHBOUR: 'it returns false'. Refute it at one input. -/
def drawnWrong : ChangeSpec := { name := "drawn", fn := fun _ => fun
  | [d1, d2, d3] => { results := [.lit (.bool false)], args := [d1, d2, d3] }
  | _ => none }
def DrawnWrongFalsely : Prop := drawnRow.holds Try.pinned (OpenSpec.ofChange drawnWrong)

/-- 'distafflaw.Runs': WHATEVER THE INPUT: true; the input reads as it did. -/
def runsSpec : ChangeSpec := { name := "runs", fn := fun _ => fun
  | [d] => { results := [.lit (.bool true)], args := [d] }
  | _ => none }
def runsRow : OpenClaim := { program := "ytpbegebmciaecaa", sum := "35eeff186cb193c1ffa03ce5203a895f2f185725e2844fb1497be5a944d790fe", func := "distaff/distafflaw.Runs", spec := "runs", unfollowed := true, recurses := true, apart := false }
def RunsSaid : Prop := runsRow.holds Try.pinned (OpenSpec.ofChange runsSpec)

/-- ITS FALSE NEIGHBOUR: 'it returns false'. Refute it at one input. -/
def runsWrong : ChangeSpec := { name := "runs", fn := fun _ => fun
  | [d] => { results := [.lit (.bool false)], args := [d] }
  | _ => none }
def RunsWrongFalsely : Prop := runsRow.holds Try.pinned (OpenSpec.ofChange runsWrong)

/-- 'distaffkeep.Unseen': WHATEVER THE INPUT: true; the input reads as it did. -/
def unseenSpec : ChangeSpec := { name := "unseen", fn := fun _ => fun
  | [d1, d2, d3, d4, d5, d6] => { results := [.lit (.bool true)], args := [d1, d2, d3, d4, d5, d6] }
  | _ => none }
def unseenRow : OpenClaim := { program := "ytpbegebmciaecaa", sum := "35eeff186cb193c1ffa03ce5203a895f2f185725e2844fb1497be5a944d790fe", func := "distaff/distaffkeep.Unseen", spec := "unseen", unfollowed := true, recurses := true, apart := false }
def UnseenSaid : Prop := unseenRow.holds Try.pinned (OpenSpec.ofChange unseenSpec)

/-- ITS FALSE NEIGHBOUR: 'it returns false'. Refute it at one input. -/
def unseenWrong : ChangeSpec := { name := "unseen", fn := fun _ => fun
  | [d1, d2, d3, d4, d5, d6] => { results := [.lit (.bool false)], args := [d1, d2, d3, d4, d5, d6] }
  | _ => none }
def UnseenWrongFalsely : Prop := unseenRow.holds Try.pinned (OpenSpec.ofChange unseenWrong)

/-- 'distaffkeep.Once': WHATEVER THE INPUT: true; the input reads as it did. -/
def onceSpec : ChangeSpec := { name := "once", fn := fun _ => fun
  | [d1, d2, d3, d4, d5] => { results := [.lit (.bool true)], args := [d1, d2, d3, d4, d5] }
  | _ => none }
def onceRow : OpenClaim := { program := "ytpbegebmciaecaa", sum := "35eeff186cb193c1ffa03ce5203a895f2f185725e2844fb1497be5a944d790fe", func := "distaff/distaffkeep.Once", spec := "once", unfollowed := true, recurses := true, apart := false }
def OnceSaid : Prop := onceRow.holds Try.pinned (OpenSpec.ofChange onceSpec)

/-- ITS FALSE NEIGHBOUR: 'it returns false'. Refute it at one input. -/
def onceWrong : ChangeSpec := { name := "once", fn := fun _ => fun
  | [d1, d2, d3, d4, d5] => { results := [.lit (.bool false)], args := [d1, d2, d3, d4, d5] }
  | _ => none }
def OnceWrongFalsely : Prop := onceRow.holds Try.pinned (OpenSpec.ofChange onceWrong)

/-- 'distaffkeep.Lone': WHATEVER THE INPUT: true; the input reads as it did. -/
def loneSpec : ChangeSpec := { name := "lone", fn := fun _ => fun
  | [d1, d2, d3, d4] => { results := [.lit (.bool true)], args := [d1, d2, d3, d4] }
  | _ => none }
def loneRow : OpenClaim := { program := "ytpbegebmciaecaa", sum := "35eeff186cb193c1ffa03ce5203a895f2f185725e2844fb1497be5a944d790fe", func := "distaff/distaffkeep.Lone", spec := "lone", unfollowed := true, recurses := true, apart := false }
def LoneSaid : Prop := loneRow.holds Try.pinned (OpenSpec.ofChange loneSpec)

/-- ITS FALSE NEIGHBOUR: 'it returns false'. Refute it at one input. -/
def loneWrong : ChangeSpec := { name := "lone", fn := fun _ => fun
  | [d1, d2, d3, d4] => { results := [.lit (.bool false)], args := [d1, d2, d3, d4] }
  | _ => none }
def LoneWrongFalsely : Prop := loneRow.holds Try.pinned (OpenSpec.ofChange loneWrong)

/-- 'distaffkeep.Counted': WHATEVER THE INPUT: true; the input reads as it did. -/
def countedSpec : ChangeSpec := { name := "counted", fn := fun _ => fun
  | [d1, d2, d3, d4, d5] => { results := [.lit (.bool true)], args := [d1, d2, d3, d4, d5] }
  | _ => none }
def countedRow : OpenClaim := { program := "ytpbegebmciaecaa", sum := "35eeff186cb193c1ffa03ce5203a895f2f185725e2844fb1497be5a944d790fe", func := "distaff/distaffkeep.Counted", spec := "counted", unfollowed := true, recurses := true, apart := false }
def CountedSaid : Prop := countedRow.holds Try.pinned (OpenSpec.ofChange countedSpec)

/-- ITS FALSE NEIGHBOUR: 'it returns false'. Refute it at one input. -/
def countedWrong : ChangeSpec := { name := "counted", fn := fun _ => fun
  | [d1, d2, d3, d4, d5] => { results := [.lit (.bool false)], args := [d1, d2, d3, d4, d5] }
  | _ => none }
def CountedWrongFalsely : Prop := countedRow.holds Try.pinned (OpenSpec.ofChange countedWrong)

/- THE SECOND FORM. 'bulk': how many values and letters a reading holds, each counted each time it is reached (what is shared counts as often as it is met; a slice's spare places count too). A statement '..UptoSaid' is the law's where the arguments, and the package variables that the reading takes, are together of bulk at most 1048576: NARROWER than '..Said'. Prove '..Said' where nothing that the law and all that it calls make is longer than what came in: it says more and counts as full. Else prove '..UptoSaid'. A law counts once. -/
mutual
def uptoBulk {H : Type} : DataW H → Nat
  | .lit (.string bytes) => bytes.length + 1
  | .lit _ => 1
  | .nil => 1
  | .ptr d => uptoBulk d + 1
  | .slice elems spare => uptoBulkAll elems + uptoBulkAll spare + 1
  | .agg parts => uptoBulkAll parts + 1
  | .iface _ d => uptoBulk d + 1
  | .map entries => uptoBulkEntries entries + 1
  | .held _ => 1
def uptoBulkAll {H : Type} : List (DataW H) → Nat
  | [] => 0
  | d :: r => uptoBulk d + uptoBulkAll r
def uptoBulkEntries {H : Type} : List (Lit × DataW H) → Nat
  | [] => 0
  | x :: r => uptoBulkEntry x + uptoBulkEntries r
def uptoBulkEntry {H : Type} : Lit × DataW H → Nat
  | (.string bytes, d) => bytes.length + uptoBulk d + 1
  | (_, d) => uptoBulk d + 1
 end
def uptoSmall : (H : Type) → List (DataW H) → Bool := fun _ ds => decide (uptoBulkAll ds ≤ 1048576)
def OpenSpec.upto (s : _root_.Go.ChangeSpec) : _root_.Go.OpenSpec := { _root_.Go.OpenSpec.ofChange s with cond := some uptoSmall }

/-- 'distafflaw.Serials', WHERE WHAT IT READS IS OF BULK AT MOST 1048576: true; the input reads as it did. -/
def serialsUptoRow : OpenClaim := { program := "ytpbegebmciaecaa", sum := "35eeff186cb193c1ffa03ce5203a895f2f185725e2844fb1497be5a944d790fe", func := "distaff/distafflaw.Serials", spec := "serials", unfollowed := true, recurses := true, apart := false, narrowed := true }
def SerialsUptoSaid : Prop := serialsUptoRow.holds Try.pinned (OpenSpec.upto serialsSpec)

/-- 'distaffkeep.Gathered', WHERE WHAT IT READS IS OF BULK AT MOST 1048576: true; the input reads as it did. -/
def gatheredUptoRow : OpenClaim := { program := "ytpbegebmciaecaa", sum := "35eeff186cb193c1ffa03ce5203a895f2f185725e2844fb1497be5a944d790fe", func := "distaff/distaffkeep.Gathered", spec := "gathered", unfollowed := true, recurses := true, apart := false, narrowed := true }
def GatheredUptoSaid : Prop := gatheredUptoRow.holds Try.pinned (OpenSpec.upto gatheredSpec)

/-- 'distaffkeep.Drawn', WHERE WHAT IT READS IS OF BULK AT MOST 1048576: true; the input reads as it did. -/
def drawnUptoRow : OpenClaim := { program := "ytpbegebmciaecaa", sum := "35eeff186cb193c1ffa03ce5203a895f2f185725e2844fb1497be5a944d790fe", func := "distaff/distaffkeep.Drawn", spec := "drawn", unfollowed := true, recurses := true, apart := false, narrowed := true }
def DrawnUptoSaid : Prop := drawnUptoRow.holds Try.pinned (OpenSpec.upto drawnSpec)

/-- 'distafflaw.Runs', WHERE WHAT IT READS IS OF BULK AT MOST 1048576: true; the input reads as it did. -/
def runsUptoRow : OpenClaim := { program := "ytpbegebmciaecaa", sum := "35eeff186cb193c1ffa03ce5203a895f2f185725e2844fb1497be5a944d790fe", func := "distaff/distafflaw.Runs", spec := "runs", unfollowed := true, recurses := true, apart := false, narrowed := true }
def RunsUptoSaid : Prop := runsUptoRow.holds Try.pinned (OpenSpec.upto runsSpec)

/-- 'distaffkeep.Unseen', WHERE WHAT IT READS IS OF BULK AT MOST 1048576: true; the input reads as it did. -/
def unseenUptoRow : OpenClaim := { program := "ytpbegebmciaecaa", sum := "35eeff186cb193c1ffa03ce5203a895f2f185725e2844fb1497be5a944d790fe", func := "distaff/distaffkeep.Unseen", spec := "unseen", unfollowed := true, recurses := true, apart := false, narrowed := true }
def UnseenUptoSaid : Prop := unseenUptoRow.holds Try.pinned (OpenSpec.upto unseenSpec)

/-- 'distaffkeep.Once', WHERE WHAT IT READS IS OF BULK AT MOST 1048576: true; the input reads as it did. -/
def onceUptoRow : OpenClaim := { program := "ytpbegebmciaecaa", sum := "35eeff186cb193c1ffa03ce5203a895f2f185725e2844fb1497be5a944d790fe", func := "distaff/distaffkeep.Once", spec := "once", unfollowed := true, recurses := true, apart := false, narrowed := true }
def OnceUptoSaid : Prop := onceUptoRow.holds Try.pinned (OpenSpec.upto onceSpec)

/-- 'distaffkeep.Lone', WHERE WHAT IT READS IS OF BULK AT MOST 1048576: true; the input reads as it did. -/
def loneUptoRow : OpenClaim := { program := "ytpbegebmciaecaa", sum := "35eeff186cb193c1ffa03ce5203a895f2f185725e2844fb1497be5a944d790fe", func := "distaff/distaffkeep.Lone", spec := "lone", unfollowed := true, recurses := true, apart := false, narrowed := true }
def LoneUptoSaid : Prop := loneUptoRow.holds Try.pinned (OpenSpec.upto loneSpec)

/-- 'distaffkeep.Counted', WHERE WHAT IT READS IS OF BULK AT MOST 1048576: true; the input reads as it did. -/
def countedUptoRow : OpenClaim := { program := "ytpbegebmciaecaa", sum := "35eeff186cb193c1ffa03ce5203a895f2f185725e2844fb1497be5a944d790fe", func := "distaff/distaffkeep.Counted", spec := "counted", unfollowed := true, recurses := true, apart := false, narrowed := true }
def CountedUptoSaid : Prop := countedUptoRow.holds Try.pinned (OpenSpec.upto countedSpec)

end Rows
end Go.Proofs.Ytpbegebmciaecaa
