/-
  No cell of these rows narrows 'for every input' (looked for: loops, veiled, ifaces, maps, wideKeys, modest, calm, conditions, laid).
  DERIVED. THE GIVEN ROWS OF THIS SEAT. 6 by the template 'for every input the law returns true; each argument reads behind the call as it read before'; 0 by the template 'total and deterministic' (their statements: YtjldfefebnpdgaaTotals.lean).
  GIVEN WITH THE SEED: the statements are not yours to turn. If you find one false, say at which input.
  Laid BY PROGRAM, IN A SANDBOX (cutbox-rows.mjs): the forced cells as the released guide's own fill.sh prints them over the translation 611610c36fdb0afd… (all of the seat's roots in one cut). By AI agents, Wed Nov 11 2026. No macro, syntax, notation, axiom, sorry.
-/
import Derived.Test.YtjldfefebnpdgaaChecked
import GoSem.Claim
import GoSem.ClaimJoined
import GoSem.ClaimMapViews
import Derived.JoinedTies
import Derived.KernelRfl
namespace Go.Proofs.Ytjldfefebnpdgaa
/- THE CELL 'sum', in the pinned program and in every row, IS THE sha256 OF THE DUMP (.gsa) THAT YtjldfefebnpdgaaProg.lean LOADS. Nothing in Lean hashes anything: it is a label: what it is worth is what the hold of that sum in a sandbox is worth. -/
noncomputable def Try.pinned : Pinned := { name := "ytjldfefebnpdgaa", sum := "611610c36fdb0afdfcdb67928c81f6a8c4a560f4ff9e40f042b2568d95ada5c0", checked := Try.checked }
namespace Rows
def none {H : Type} : Left H := { results := [], args := [] }

/-- 'basculelaw06.MbapFrames': WHATEVER THE INPUT: true; the input reads as it did. -/
def mbapFramesSpec : ChangeSpec := { name := "mbapFrames", fn := fun _ => fun
  | [d] => { results := [.lit (.bool true)], args := [d] }
  | _ => none }
def mbapFramesRow : OpenClaim := { program := "ytjldfefebnpdgaa", sum := "611610c36fdb0afdfcdb67928c81f6a8c4a560f4ff9e40f042b2568d95ada5c0", func := "bascule/basculelaw06.MbapFrames", spec := "mbapFrames", apart := false }
def MbapFramesSaid : Prop := mbapFramesRow.holds Try.pinned (OpenSpec.ofChange mbapFramesSpec)

/-- ITS FALSE NEIGHBOUR: 'it returns false'. Refute it at one input. -/
def mbapFramesWrong : ChangeSpec := { name := "mbapFrames", fn := fun _ => fun
  | [d] => { results := [.lit (.bool false)], args := [d] }
  | _ => none }
def MbapFramesWrongFalsely : Prop := mbapFramesRow.holds Try.pinned (OpenSpec.ofChange mbapFramesWrong)

/-- 'basculelaw06.MbapFeeds': WHATEVER THE INPUT: true; the input reads as it did. -/
def mbapFeedsSpec : ChangeSpec := { name := "mbapFeeds", fn := fun _ => fun
  | [d] => { results := [.lit (.bool true)], args := [d] }
  | _ => none }
def mbapFeedsRow : OpenClaim := { program := "ytjldfefebnpdgaa", sum := "611610c36fdb0afdfcdb67928c81f6a8c4a560f4ff9e40f042b2568d95ada5c0", func := "bascule/basculelaw06.MbapFeeds", spec := "mbapFeeds", apart := false }
def MbapFeedsSaid : Prop := mbapFeedsRow.holds Try.pinned (OpenSpec.ofChange mbapFeedsSpec)

/-- ITS FALSE NEIGHBOUR: 'it returns false'. Refute it at one input. -/
def mbapFeedsWrong : ChangeSpec := { name := "mbapFeeds", fn := fun _ => fun
  | [d] => { results := [.lit (.bool false)], args := [d] }
  | _ => none }
def MbapFeedsWrongFalsely : Prop := mbapFeedsRow.holds Try.pinned (OpenSpec.ofChange mbapFeedsWrong)

/-- 'basculelaw06.MbapParts': WHATEVER THE INPUT: true; the input reads as it did. -/
def mbapPartsSpec : ChangeSpec := { name := "mbapParts", fn := fun _ => fun
  | [d1, d2] => { results := [.lit (.bool true)], args := [d1, d2] }
  | _ => none }
def mbapPartsRow : OpenClaim := { program := "ytjldfefebnpdgaa", sum := "611610c36fdb0afdfcdb67928c81f6a8c4a560f4ff9e40f042b2568d95ada5c0", func := "bascule/basculelaw06.MbapParts", spec := "mbapParts", apart := false }
def MbapPartsSaid : Prop := mbapPartsRow.holds Try.pinned (OpenSpec.ofChange mbapPartsSpec)

/-- ITS FALSE NEIGHBOUR: 'it returns false'. Refute it at one input. -/
def mbapPartsWrong : ChangeSpec := { name := "mbapParts", fn := fun _ => fun
  | [d1, d2] => { results := [.lit (.bool false)], args := [d1, d2] }
  | _ => none }
def MbapPartsWrongFalsely : Prop := mbapPartsRow.holds Try.pinned (OpenSpec.ofChange mbapPartsWrong)

/-- 'basculelaw06.MbapOne': WHATEVER THE INPUT: true; the input reads as it did. -/
def mbapOneSpec : ChangeSpec := { name := "mbapOne", fn := fun _ => fun
  | [d1, d2] => { results := [.lit (.bool true)], args := [d1, d2] }
  | _ => none }
def mbapOneRow : OpenClaim := { program := "ytjldfefebnpdgaa", sum := "611610c36fdb0afdfcdb67928c81f6a8c4a560f4ff9e40f042b2568d95ada5c0", func := "bascule/basculelaw06.MbapOne", spec := "mbapOne", apart := false }
def MbapOneSaid : Prop := mbapOneRow.holds Try.pinned (OpenSpec.ofChange mbapOneSpec)

/-- ITS FALSE NEIGHBOUR: 'it returns false'. Refute it at one input. -/
def mbapOneWrong : ChangeSpec := { name := "mbapOne", fn := fun _ => fun
  | [d1, d2] => { results := [.lit (.bool false)], args := [d1, d2] }
  | _ => none }
def MbapOneWrongFalsely : Prop := mbapOneRow.holds Try.pinned (OpenSpec.ofChange mbapOneWrong)

/-- 'basculelaw06.MbapNil': WHATEVER THE INPUT: true; the input reads as it did. -/
def mbapNilSpec : ChangeSpec := { name := "mbapNil", fn := fun _ => fun
  | [d] => { results := [.lit (.bool true)], args := [d] }
  | _ => none }
def mbapNilRow : OpenClaim := { program := "ytjldfefebnpdgaa", sum := "611610c36fdb0afdfcdb67928c81f6a8c4a560f4ff9e40f042b2568d95ada5c0", func := "bascule/basculelaw06.MbapNil", spec := "mbapNil", apart := false }
def MbapNilSaid : Prop := mbapNilRow.holds Try.pinned (OpenSpec.ofChange mbapNilSpec)

/-- ITS FALSE NEIGHBOUR: 'it returns false'. Refute it at one input. -/
def mbapNilWrong : ChangeSpec := { name := "mbapNil", fn := fun _ => fun
  | [d] => { results := [.lit (.bool false)], args := [d] }
  | _ => none }
def MbapNilWrongFalsely : Prop := mbapNilRow.holds Try.pinned (OpenSpec.ofChange mbapNilWrong)

/-- 'basculelaw06.MbapLeft': WHATEVER THE INPUT: true; the input reads as it did. -/
def mbapLeftSpec : ChangeSpec := { name := "mbapLeft", fn := fun _ => fun
  | [d] => { results := [.lit (.bool true)], args := [d] }
  | _ => none }
def mbapLeftRow : OpenClaim := { program := "ytjldfefebnpdgaa", sum := "611610c36fdb0afdfcdb67928c81f6a8c4a560f4ff9e40f042b2568d95ada5c0", func := "bascule/basculelaw06.MbapLeft", spec := "mbapLeft", apart := false }
def MbapLeftSaid : Prop := mbapLeftRow.holds Try.pinned (OpenSpec.ofChange mbapLeftSpec)

/-- ITS FALSE NEIGHBOUR: 'it returns false'. Refute it at one input. -/
def mbapLeftWrong : ChangeSpec := { name := "mbapLeft", fn := fun _ => fun
  | [d] => { results := [.lit (.bool false)], args := [d] }
  | _ => none }
def MbapLeftWrongFalsely : Prop := mbapLeftRow.holds Try.pinned (OpenSpec.ofChange mbapLeftWrong)

/- THE SECOND FORM. 'bulk': how many values and letters a reading holds, each counted each time it is reached (what is shared counts as often as it is met; a slice's spare places count too). A statement '..UptoSaid' is the law's where the arguments, and the package variables that the reading takes, are together of bulk at most 1048576: NARROWER than '..Said'. Prove '..Said' where nothing that the law and all that it calls make is longer than what came in: it says more and counts as full. Else prove '..UptoSaid'. A law counts once. -/
mutual
def uptoBulk {H : Type} : DataW H → Nat
  | .lit (.string bytes) => bytes.length + 1
  | .lit _ => 1
  | .nil => 1
  | .ptr d => uptoBulk d + 1
  | .slice elems spare => uptoBulkAll elems + uptoBulkAll spare + 1
  | .agg parts => uptoBulkAll parts + 1
  | .iface _ d => uptoBulk d + 1
  | .map entries => uptoBulkEntries entries + 1
  | .held _ => 1
def uptoBulkAll {H : Type} : List (DataW H) → Nat
  | [] => 0
  | d :: r => uptoBulk d + uptoBulkAll r
def uptoBulkEntries {H : Type} : List (Lit × DataW H) → Nat
  | [] => 0
  | x :: r => uptoBulkEntry x + uptoBulkEntries r
def uptoBulkEntry {H : Type} : Lit × DataW H → Nat
  | (.string bytes, d) => bytes.length + uptoBulk d + 1
  | (_, d) => uptoBulk d + 1
 end
def uptoSmall : (H : Type) → List (DataW H) → Bool := fun _ ds => decide (uptoBulkAll ds ≤ 1048576)
def OpenSpec.upto (s : _root_.Go.ChangeSpec) : _root_.Go.OpenSpec := { _root_.Go.OpenSpec.ofChange s with cond := some uptoSmall }

/-- 'basculelaw06.MbapFrames', WHERE WHAT IT READS IS OF BULK AT MOST 1048576: true; the input reads as it did. -/
def mbapFramesUptoRow : OpenClaim := { program := "ytjldfefebnpdgaa", sum := "611610c36fdb0afdfcdb67928c81f6a8c4a560f4ff9e40f042b2568d95ada5c0", func := "bascule/basculelaw06.MbapFrames", spec := "mbapFrames", apart := false, narrowed := true }
def MbapFramesUptoSaid : Prop := mbapFramesUptoRow.holds Try.pinned (OpenSpec.upto mbapFramesSpec)

/-- 'basculelaw06.MbapFeeds', WHERE WHAT IT READS IS OF BULK AT MOST 1048576: true; the input reads as it did. -/
def mbapFeedsUptoRow : OpenClaim := { program := "ytjldfefebnpdgaa", sum := "611610c36fdb0afdfcdb67928c81f6a8c4a560f4ff9e40f042b2568d95ada5c0", func := "bascule/basculelaw06.MbapFeeds", spec := "mbapFeeds", apart := false, narrowed := true }
def MbapFeedsUptoSaid : Prop := mbapFeedsUptoRow.holds Try.pinned (OpenSpec.upto mbapFeedsSpec)

/-- 'basculelaw06.MbapParts', WHERE WHAT IT READS IS OF BULK AT MOST 1048576: true; the input reads as it did. -/
def mbapPartsUptoRow : OpenClaim := { program := "ytjldfefebnpdgaa", sum := "611610c36fdb0afdfcdb67928c81f6a8c4a560f4ff9e40f042b2568d95ada5c0", func := "bascule/basculelaw06.MbapParts", spec := "mbapParts", apart := false, narrowed := true }
def MbapPartsUptoSaid : Prop := mbapPartsUptoRow.holds Try.pinned (OpenSpec.upto mbapPartsSpec)

/-- 'basculelaw06.MbapOne', WHERE WHAT IT READS IS OF BULK AT MOST 1048576: true; the input reads as it did. -/
def mbapOneUptoRow : OpenClaim := { program := "ytjldfefebnpdgaa", sum := "611610c36fdb0afdfcdb67928c81f6a8c4a560f4ff9e40f042b2568d95ada5c0", func := "bascule/basculelaw06.MbapOne", spec := "mbapOne", apart := false, narrowed := true }
def MbapOneUptoSaid : Prop := mbapOneUptoRow.holds Try.pinned (OpenSpec.upto mbapOneSpec)

/-- 'basculelaw06.MbapNil', WHERE WHAT IT READS IS OF BULK AT MOST 1048576: true; the input reads as it did. -/
def mbapNilUptoRow : OpenClaim := { program := "ytjldfefebnpdgaa", sum := "611610c36fdb0afdfcdb67928c81f6a8c4a560f4ff9e40f042b2568d95ada5c0", func := "bascule/basculelaw06.MbapNil", spec := "mbapNil", apart := false, narrowed := true }
def MbapNilUptoSaid : Prop := mbapNilUptoRow.holds Try.pinned (OpenSpec.upto mbapNilSpec)

/-- 'basculelaw06.MbapLeft', WHERE WHAT IT READS IS OF BULK AT MOST 1048576: true; the input reads as it did. -/
def mbapLeftUptoRow : OpenClaim := { program := "ytjldfefebnpdgaa", sum := "611610c36fdb0afdfcdb67928c81f6a8c4a560f4ff9e40f042b2568d95ada5c0", func := "bascule/basculelaw06.MbapLeft", spec := "mbapLeft", apart := false, narrowed := true }
def MbapLeftUptoSaid : Prop := mbapLeftUptoRow.holds Try.pinned (OpenSpec.upto mbapLeftSpec)

end Rows
end Go.Proofs.Ytjldfefebnpdgaa
