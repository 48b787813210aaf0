/-
  No cell of these rows narrows 'for every input' (looked for: loops, veiled, ifaces, maps, wideKeys, modest, calm, conditions, laid).
  DERIVED. THE GIVEN ROWS OF THIS SEAT. 4 by the template 'for every input the law returns true; each argument reads behind the call as it read before'; 0 by the template 'total and deterministic' (their statements: YtfjafpbmgbnllaaTotals.lean).
  GIVEN WITH THE SEED: the statements are not yours to turn. If you find one false, say at which input.
  Laid BY PROGRAM, IN A SANDBOX (cutbox-rows.mjs): the forced cells as the released guide's own fill.sh prints them over the translation 3d955a12aaa08ce3… (all of the seat's roots in one cut). By AI agents, Wed Nov 11 2026. No macro, syntax, notation, axiom, sorry.
-/
import Derived.Test.YtfjafpbmgbnllaaChecked
import GoSem.Claim
import GoSem.ClaimJoined
import GoSem.ClaimMapViews
import Derived.JoinedTies
import Derived.KernelRfl
namespace Go.Proofs.Ytfjafpbmgbnllaa
/- THE CELL 'sum', in the pinned program and in every row, IS THE sha256 OF THE DUMP (.gsa) THAT YtfjafpbmgbnllaaProg.lean LOADS. Nothing in Lean hashes anything: it is a label: what it is worth is what the hold of that sum in a sandbox is worth. -/
noncomputable def Try.pinned : Pinned := { name := "ytfjafpbmgbnllaa", sum := "3d955a12aaa08ce39f9d9d8d44660e5db70707fb931e36a3b0efd1908e60ae1f", checked := Try.checked }
namespace Rows
def none {H : Type} : Left H := { results := [], args := [] }

/-- 'basculelaw13.SubsOrder': WHATEVER THE INPUT: true; the input reads as it did. -/
def subsOrderSpec : ChangeSpec := { name := "subsOrder", fn := fun _ => fun
  | [d1, d2, d3] => { results := [.lit (.bool true)], args := [d1, d2, d3] }
  | _ => none }
def subsOrderRow : OpenClaim := { program := "ytfjafpbmgbnllaa", sum := "3d955a12aaa08ce39f9d9d8d44660e5db70707fb931e36a3b0efd1908e60ae1f", func := "bascule/basculelaw13.SubsOrder", spec := "subsOrder", inPlace := ["internal/bytealg.IndexByteString", "internal/bytealg.IndexString"], unfollowed := true, recurses := true, named := ["internal/bytealg.MaxLen"], plainKeys := false, apart := false }
def SubsOrderSaid : Prop := subsOrderRow.holds Try.pinned (OpenSpec.ofChange subsOrderSpec)

/-- ITS FALSE NEIGHBOUR: 'it returns false'. Refute it at one input. -/
def subsOrderWrong : ChangeSpec := { name := "subsOrder", fn := fun _ => fun
  | [d1, d2, d3] => { results := [.lit (.bool false)], args := [d1, d2, d3] }
  | _ => none }
def SubsOrderWrongFalsely : Prop := subsOrderRow.holds Try.pinned (OpenSpec.ofChange subsOrderWrong)

/-- 'basculelaw13.SubsFinds': WHATEVER THE INPUT: true; the input reads as it did. -/
def subsFindsSpec : ChangeSpec := { name := "subsFinds", fn := fun _ => fun
  | [d1, d2] => { results := [.lit (.bool true)], args := [d1, d2] }
  | _ => none }
def subsFindsRow : OpenClaim := { program := "ytfjafpbmgbnllaa", sum := "3d955a12aaa08ce39f9d9d8d44660e5db70707fb931e36a3b0efd1908e60ae1f", func := "bascule/basculelaw13.SubsFinds", spec := "subsFinds", inPlace := ["internal/bytealg.IndexByteString", "internal/bytealg.IndexString"], unfollowed := true, recurses := true, named := ["internal/bytealg.MaxLen"], plainKeys := false, apart := false }
def SubsFindsSaid : Prop := subsFindsRow.holds Try.pinned (OpenSpec.ofChange subsFindsSpec)

/-- ITS FALSE NEIGHBOUR: 'it returns false'. Refute it at one input. -/
def subsFindsWrong : ChangeSpec := { name := "subsFinds", fn := fun _ => fun
  | [d1, d2] => { results := [.lit (.bool false)], args := [d1, d2] }
  | _ => none }
def SubsFindsWrongFalsely : Prop := subsFindsRow.holds Try.pinned (OpenSpec.ofChange subsFindsWrong)

/-- 'basculelaw13.SubsNil': WHATEVER THE INPUT: true; the input reads as it did. -/
def subsNilSpec : ChangeSpec := { name := "subsNil", fn := fun _ => fun
  | [d1, d2, d3] => { results := [.lit (.bool true)], args := [d1, d2, d3] }
  | _ => none }
def subsNilRow : OpenClaim := { program := "ytfjafpbmgbnllaa", sum := "3d955a12aaa08ce39f9d9d8d44660e5db70707fb931e36a3b0efd1908e60ae1f", func := "bascule/basculelaw13.SubsNil", spec := "subsNil", inPlace := ["internal/bytealg.IndexByteString", "internal/bytealg.IndexString"], unfollowed := true, recurses := true, named := ["internal/bytealg.MaxLen"], plainKeys := false, apart := false }
def SubsNilSaid : Prop := subsNilRow.holds Try.pinned (OpenSpec.ofChange subsNilSpec)

/-- ITS FALSE NEIGHBOUR: 'it returns false'. Refute it at one input. -/
def subsNilWrong : ChangeSpec := { name := "subsNil", fn := fun _ => fun
  | [d1, d2, d3] => { results := [.lit (.bool false)], args := [d1, d2, d3] }
  | _ => none }
def SubsNilWrongFalsely : Prop := subsNilRow.holds Try.pinned (OpenSpec.ofChange subsNilWrong)

/-- 'basculelaw13.SubsAgain': WHATEVER THE INPUT: true; the input reads as it did. -/
def subsAgainSpec : ChangeSpec := { name := "subsAgain", fn := fun _ => fun
  | [d1, d2, d3, d4, d5] => { results := [.lit (.bool true)], args := [d1, d2, d3, d4, d5] }
  | _ => none }
def subsAgainRow : OpenClaim := { program := "ytfjafpbmgbnllaa", sum := "3d955a12aaa08ce39f9d9d8d44660e5db70707fb931e36a3b0efd1908e60ae1f", func := "bascule/basculelaw13.SubsAgain", spec := "subsAgain", inPlace := ["internal/bytealg.IndexByteString", "internal/bytealg.IndexString"], unfollowed := true, recurses := true, named := ["internal/bytealg.MaxLen"], plainKeys := false, apart := false }
def SubsAgainSaid : Prop := subsAgainRow.holds Try.pinned (OpenSpec.ofChange subsAgainSpec)

/-- ITS FALSE NEIGHBOUR: 'it returns false'. Refute it at one input. -/
def subsAgainWrong : ChangeSpec := { name := "subsAgain", fn := fun _ => fun
  | [d1, d2, d3, d4, d5] => { results := [.lit (.bool false)], args := [d1, d2, d3, d4, d5] }
  | _ => none }
def SubsAgainWrongFalsely : Prop := subsAgainRow.holds Try.pinned (OpenSpec.ofChange subsAgainWrong)

/- THE SECOND FORM. 'bulk': how many values and letters a reading holds, each counted each time it is reached (what is shared counts as often as it is met; a slice's spare places count too). A statement '..UptoSaid' is the law's where the arguments, and the package variables that the reading takes, are together of bulk at most 1048576: NARROWER than '..Said'. Prove '..Said' where nothing that the law and all that it calls make is longer than what came in: it says more and counts as full. Else prove '..UptoSaid'. A law counts once. -/
mutual
def uptoBulk {H : Type} : DataW H → Nat
  | .lit (.string bytes) => bytes.length + 1
  | .lit _ => 1
  | .nil => 1
  | .ptr d => uptoBulk d + 1
  | .slice elems spare => uptoBulkAll elems + uptoBulkAll spare + 1
  | .agg parts => uptoBulkAll parts + 1
  | .iface _ d => uptoBulk d + 1
  | .map entries => uptoBulkEntries entries + 1
  | .held _ => 1
def uptoBulkAll {H : Type} : List (DataW H) → Nat
  | [] => 0
  | d :: r => uptoBulk d + uptoBulkAll r
def uptoBulkEntries {H : Type} : List (Lit × DataW H) → Nat
  | [] => 0
  | x :: r => uptoBulkEntry x + uptoBulkEntries r
def uptoBulkEntry {H : Type} : Lit × DataW H → Nat
  | (.string bytes, d) => bytes.length + uptoBulk d + 1
  | (_, d) => uptoBulk d + 1
 end
def uptoSmall : (H : Type) → List (DataW H) → Bool := fun _ ds => decide (uptoBulkAll ds ≤ 1048576)
def OpenSpec.upto (s : _root_.Go.ChangeSpec) : _root_.Go.OpenSpec := { _root_.Go.OpenSpec.ofChange s with cond := some uptoSmall }

/-- 'basculelaw13.SubsOrder', WHERE WHAT IT READS IS OF BULK AT MOST 1048576: true; the input reads as it did. -/
def subsOrderUptoRow : OpenClaim := { program := "ytfjafpbmgbnllaa", sum := "3d955a12aaa08ce39f9d9d8d44660e5db70707fb931e36a3b0efd1908e60ae1f", func := "bascule/basculelaw13.SubsOrder", spec := "subsOrder", inPlace := ["internal/bytealg.IndexByteString", "internal/bytealg.IndexString"], unfollowed := true, recurses := true, named := ["internal/bytealg.MaxLen"], plainKeys := false, apart := false, narrowed := true }
def SubsOrderUptoSaid : Prop := subsOrderUptoRow.holds Try.pinned (OpenSpec.upto subsOrderSpec)

/-- 'basculelaw13.SubsFinds', WHERE WHAT IT READS IS OF BULK AT MOST 1048576: true; the input reads as it did. -/
def subsFindsUptoRow : OpenClaim := { program := "ytfjafpbmgbnllaa", sum := "3d955a12aaa08ce39f9d9d8d44660e5db70707fb931e36a3b0efd1908e60ae1f", func := "bascule/basculelaw13.SubsFinds", spec := "subsFinds", inPlace := ["internal/bytealg.IndexByteString", "internal/bytealg.IndexString"], unfollowed := true, recurses := true, named := ["internal/bytealg.MaxLen"], plainKeys := false, apart := false, narrowed := true }
def SubsFindsUptoSaid : Prop := subsFindsUptoRow.holds Try.pinned (OpenSpec.upto subsFindsSpec)

/-- 'basculelaw13.SubsNil', WHERE WHAT IT READS IS OF BULK AT MOST 1048576: true; the input reads as it did. -/
def subsNilUptoRow : OpenClaim := { program := "ytfjafpbmgbnllaa", sum := "3d955a12aaa08ce39f9d9d8d44660e5db70707fb931e36a3b0efd1908e60ae1f", func := "bascule/basculelaw13.SubsNil", spec := "subsNil", inPlace := ["internal/bytealg.IndexByteString", "internal/bytealg.IndexString"], unfollowed := true, recurses := true, named := ["internal/bytealg.MaxLen"], plainKeys := false, apart := false, narrowed := true }
def SubsNilUptoSaid : Prop := subsNilUptoRow.holds Try.pinned (OpenSpec.upto subsNilSpec)

/-- 'basculelaw13.SubsAgain', WHERE WHAT IT READS IS OF BULK AT MOST 1048576: true; the input reads as it did. -/
def subsAgainUptoRow : OpenClaim := { program := "ytfjafpbmgbnllaa", sum := "3d955a12aaa08ce39f9d9d8d44660e5db70707fb931e36a3b0efd1908e60ae1f", func := "bascule/basculelaw13.SubsAgain", spec := "subsAgain", inPlace := ["internal/bytealg.IndexByteString", "internal/bytealg.IndexString"], unfollowed := true, recurses := true, named := ["internal/bytealg.MaxLen"], plainKeys := false, apart := false, narrowed := true }
def SubsAgainUptoSaid : Prop := subsAgainUptoRow.holds Try.pinned (OpenSpec.upto subsAgainSpec)

end Rows
end Go.Proofs.Ytfjafpbmgbnllaa
