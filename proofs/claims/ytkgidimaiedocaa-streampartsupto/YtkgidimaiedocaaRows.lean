/-
  No cell of these rows narrows 'for every input' (looked for: loops, veiled, ifaces, maps, wideKeys, modest, calm, conditions, laid).
  DERIVED. THE GIVEN ROWS OF THIS SEAT. 6 by the template 'for every input the law returns true; each argument reads behind the call as it read before'; 0 by the template 'total and deterministic' (their statements: YtkgidimaiedocaaTotals.lean).
  GIVEN WITH THE SEED: the statements are not yours to turn. If you find one false, say at which input.
  Laid BY PROGRAM, IN A SANDBOX (cutbox-rows.mjs): the forced cells as the released guide's own fill.sh prints them over the translation 3b80949e9685faef… (all of the seat's roots in one cut). By AI agents, Wed Nov 11 2026. No macro, syntax, notation, axiom, sorry.
-/
import Derived.Test.YtkgidimaiedocaaChecked
import GoSem.Claim
import GoSem.ClaimJoined
import GoSem.ClaimMapViews
import Derived.JoinedTies
import Derived.KernelRfl
namespace Go.Proofs.Ytkgidimaiedocaa
/- THE CELL 'sum', in the pinned program and in every row, IS THE sha256 OF THE DUMP (.gsa) THAT YtkgidimaiedocaaProg.lean LOADS. Nothing in Lean hashes anything: it is a label: what it is worth is what the hold of that sum in a sandbox is worth. -/
noncomputable def Try.pinned : Pinned := { name := "ytkgidimaiedocaa", sum := "3b80949e9685faefd06dd7cd12b01daa6590cda6f1d7e66b51b23676fda3a103", checked := Try.checked }
namespace Rows
def none {H : Type} : Left H := { results := [], args := [] }

/-- 'basculelaw11.StreamParts': WHATEVER THE INPUT: true; the input reads as it did. -/
def streamPartsSpec : ChangeSpec := { name := "streamParts", fn := fun _ => fun
  | [d1, d2] => { results := [.lit (.bool true)], args := [d1, d2] }
  | _ => none }
def streamPartsRow : OpenClaim := { program := "ytkgidimaiedocaa", sum := "3b80949e9685faefd06dd7cd12b01daa6590cda6f1d7e66b51b23676fda3a103", func := "bascule/basculelaw11.StreamParts", spec := "streamParts", unfollowed := true, recurses := true, apart := false }
def StreamPartsSaid : Prop := streamPartsRow.holds Try.pinned (OpenSpec.ofChange streamPartsSpec)

/-- ITS FALSE NEIGHBOUR: 'it returns false'. Refute it at one input. -/
def streamPartsWrong : ChangeSpec := { name := "streamParts", fn := fun _ => fun
  | [d1, d2] => { results := [.lit (.bool false)], args := [d1, d2] }
  | _ => none }
def StreamPartsWrongFalsely : Prop := streamPartsRow.holds Try.pinned (OpenSpec.ofChange streamPartsWrong)

/-- 'basculelaw12.TopicTells': WHATEVER THE INPUT: true; the input reads as it did. -/
def topicTellsSpec : ChangeSpec := { name := "topicTells", fn := fun _ => fun
  | [d1, d2] => { results := [.lit (.bool true)], args := [d1, d2] }
  | _ => none }
def topicTellsRow : OpenClaim := { program := "ytkgidimaiedocaa", sum := "3b80949e9685faefd06dd7cd12b01daa6590cda6f1d7e66b51b23676fda3a103", func := "bascule/basculelaw12.TopicTells", spec := "topicTells", inPlace := ["internal/bytealg.IndexByteString", "internal/bytealg.IndexString"], unfollowed := true, recurses := true, named := ["internal/bytealg.MaxLen"], apart := false }
def TopicTellsSaid : Prop := topicTellsRow.holds Try.pinned (OpenSpec.ofChange topicTellsSpec)

/-- ITS FALSE NEIGHBOUR: 'it returns false'. Refute it at one input. -/
def topicTellsWrong : ChangeSpec := { name := "topicTells", fn := fun _ => fun
  | [d1, d2] => { results := [.lit (.bool false)], args := [d1, d2] }
  | _ => none }
def TopicTellsWrongFalsely : Prop := topicTellsRow.holds Try.pinned (OpenSpec.ofChange topicTellsWrong)

/-- 'basculelaw12.TopicPlain': WHATEVER THE INPUT: true; the input reads as it did. -/
def topicPlainSpec : ChangeSpec := { name := "topicPlain", fn := fun _ => fun
  | [d1, d2] => { results := [.lit (.bool true)], args := [d1, d2] }
  | _ => none }
def topicPlainRow : OpenClaim := { program := "ytkgidimaiedocaa", sum := "3b80949e9685faefd06dd7cd12b01daa6590cda6f1d7e66b51b23676fda3a103", func := "bascule/basculelaw12.TopicPlain", spec := "topicPlain", inPlace := ["internal/bytealg.IndexByteString", "internal/bytealg.IndexString"], unfollowed := true, recurses := true, named := ["internal/bytealg.MaxLen"], apart := false }
def TopicPlainSaid : Prop := topicPlainRow.holds Try.pinned (OpenSpec.ofChange topicPlainSpec)

/-- ITS FALSE NEIGHBOUR: 'it returns false'. Refute it at one input. -/
def topicPlainWrong : ChangeSpec := { name := "topicPlain", fn := fun _ => fun
  | [d1, d2] => { results := [.lit (.bool false)], args := [d1, d2] }
  | _ => none }
def TopicPlainWrongFalsely : Prop := topicPlainRow.holds Try.pinned (OpenSpec.ofChange topicPlainWrong)

/-- 'basculelaw12.TopicLevels': WHATEVER THE INPUT: true; the input reads as it did. -/
def topicLevelsSpec : ChangeSpec := { name := "topicLevels", fn := fun _ => fun
  | [d1, d2, d3] => { results := [.lit (.bool true)], args := [d1, d2, d3] }
  | _ => none }
def topicLevelsRow : OpenClaim := { program := "ytkgidimaiedocaa", sum := "3b80949e9685faefd06dd7cd12b01daa6590cda6f1d7e66b51b23676fda3a103", func := "bascule/basculelaw12.TopicLevels", spec := "topicLevels", inPlace := ["internal/bytealg.IndexByteString", "internal/bytealg.IndexString"], unfollowed := true, recurses := true, named := ["internal/bytealg.MaxLen"], apart := false }
def TopicLevelsSaid : Prop := topicLevelsRow.holds Try.pinned (OpenSpec.ofChange topicLevelsSpec)

/-- ITS FALSE NEIGHBOUR: 'it returns false'. Refute it at one input. -/
def topicLevelsWrong : ChangeSpec := { name := "topicLevels", fn := fun _ => fun
  | [d1, d2, d3] => { results := [.lit (.bool false)], args := [d1, d2, d3] }
  | _ => none }
def TopicLevelsWrongFalsely : Prop := topicLevelsRow.holds Try.pinned (OpenSpec.ofChange topicLevelsWrong)

/-- 'basculelaw12.TopicWider': WHATEVER THE INPUT: true; the input reads as it did. -/
def topicWiderSpec : ChangeSpec := { name := "topicWider", fn := fun _ => fun
  | [d1, d2, d3] => { results := [.lit (.bool true)], args := [d1, d2, d3] }
  | _ => none }
def topicWiderRow : OpenClaim := { program := "ytkgidimaiedocaa", sum := "3b80949e9685faefd06dd7cd12b01daa6590cda6f1d7e66b51b23676fda3a103", func := "bascule/basculelaw12.TopicWider", spec := "topicWider", inPlace := ["internal/bytealg.IndexByteString", "internal/bytealg.IndexString"], unfollowed := true, recurses := true, named := ["internal/bytealg.MaxLen"], apart := false }
def TopicWiderSaid : Prop := topicWiderRow.holds Try.pinned (OpenSpec.ofChange topicWiderSpec)

/-- ITS FALSE NEIGHBOUR: 'it returns false'. Refute it at one input. -/
def topicWiderWrong : ChangeSpec := { name := "topicWider", fn := fun _ => fun
  | [d1, d2, d3] => { results := [.lit (.bool false)], args := [d1, d2, d3] }
  | _ => none }
def TopicWiderWrongFalsely : Prop := topicWiderRow.holds Try.pinned (OpenSpec.ofChange topicWiderWrong)

/-- 'basculelaw12.TopicDollar': WHATEVER THE INPUT: true; the input reads as it did. -/
def topicDollarSpec : ChangeSpec := { name := "topicDollar", fn := fun _ => fun
  | [d1, d2, d3] => { results := [.lit (.bool true)], args := [d1, d2, d3] }
  | _ => none }
def topicDollarRow : OpenClaim := { program := "ytkgidimaiedocaa", sum := "3b80949e9685faefd06dd7cd12b01daa6590cda6f1d7e66b51b23676fda3a103", func := "bascule/basculelaw12.TopicDollar", spec := "topicDollar", inPlace := ["internal/bytealg.IndexByteString", "internal/bytealg.IndexString"], unfollowed := true, recurses := true, named := ["internal/bytealg.MaxLen"], apart := false }
def TopicDollarSaid : Prop := topicDollarRow.holds Try.pinned (OpenSpec.ofChange topicDollarSpec)

/-- ITS FALSE NEIGHBOUR: 'it returns false'. Refute it at one input. -/
def topicDollarWrong : ChangeSpec := { name := "topicDollar", fn := fun _ => fun
  | [d1, d2, d3] => { results := [.lit (.bool false)], args := [d1, d2, d3] }
  | _ => none }
def TopicDollarWrongFalsely : Prop := topicDollarRow.holds Try.pinned (OpenSpec.ofChange topicDollarWrong)

/- THE SECOND FORM. 'bulk': how many values and letters a reading holds, each counted each time it is reached (what is shared counts as often as it is met; a slice's spare places count too). A statement '..UptoSaid' is the law's where the arguments, and the package variables that the reading takes, are together of bulk at most 1048576: NARROWER than '..Said'. Prove '..Said' where nothing that the law and all that it calls make is longer than what came in: it says more and counts as full. Else prove '..UptoSaid'. A law counts once. -/
mutual
def uptoBulk {H : Type} : DataW H → Nat
  | .lit (.string bytes) => bytes.length + 1
  | .lit _ => 1
  | .nil => 1
  | .ptr d => uptoBulk d + 1
  | .slice elems spare => uptoBulkAll elems + uptoBulkAll spare + 1
  | .agg parts => uptoBulkAll parts + 1
  | .iface _ d => uptoBulk d + 1
  | .map entries => uptoBulkEntries entries + 1
  | .held _ => 1
def uptoBulkAll {H : Type} : List (DataW H) → Nat
  | [] => 0
  | d :: r => uptoBulk d + uptoBulkAll r
def uptoBulkEntries {H : Type} : List (Lit × DataW H) → Nat
  | [] => 0
  | x :: r => uptoBulkEntry x + uptoBulkEntries r
def uptoBulkEntry {H : Type} : Lit × DataW H → Nat
  | (.string bytes, d) => bytes.length + uptoBulk d + 1
  | (_, d) => uptoBulk d + 1
 end
def uptoSmall : (H : Type) → List (DataW H) → Bool := fun _ ds => decide (uptoBulkAll ds ≤ 1048576)
def OpenSpec.upto (s : _root_.Go.ChangeSpec) : _root_.Go.OpenSpec := { _root_.Go.OpenSpec.ofChange s with cond := some uptoSmall }

/-- 'basculelaw11.StreamParts', WHERE WHAT IT READS IS OF BULK AT MOST 1048576: true; the input reads as it did. -/
def streamPartsUptoRow : OpenClaim := { program := "ytkgidimaiedocaa", sum := "3b80949e9685faefd06dd7cd12b01daa6590cda6f1d7e66b51b23676fda3a103", func := "bascule/basculelaw11.StreamParts", spec := "streamParts", unfollowed := true, recurses := true, apart := false, narrowed := true }
def StreamPartsUptoSaid : Prop := streamPartsUptoRow.holds Try.pinned (OpenSpec.upto streamPartsSpec)

/-- 'basculelaw12.TopicTells', WHERE WHAT IT READS IS OF BULK AT MOST 1048576: true; the input reads as it did. -/
def topicTellsUptoRow : OpenClaim := { program := "ytkgidimaiedocaa", sum := "3b80949e9685faefd06dd7cd12b01daa6590cda6f1d7e66b51b23676fda3a103", func := "bascule/basculelaw12.TopicTells", spec := "topicTells", inPlace := ["internal/bytealg.IndexByteString", "internal/bytealg.IndexString"], unfollowed := true, recurses := true, named := ["internal/bytealg.MaxLen"], apart := false, narrowed := true }
def TopicTellsUptoSaid : Prop := topicTellsUptoRow.holds Try.pinned (OpenSpec.upto topicTellsSpec)

/-- 'basculelaw12.TopicPlain', WHERE WHAT IT READS IS OF BULK AT MOST 1048576: true; the input reads as it did. -/
def topicPlainUptoRow : OpenClaim := { program := "ytkgidimaiedocaa", sum := "3b80949e9685faefd06dd7cd12b01daa6590cda6f1d7e66b51b23676fda3a103", func := "bascule/basculelaw12.TopicPlain", spec := "topicPlain", inPlace := ["internal/bytealg.IndexByteString", "internal/bytealg.IndexString"], unfollowed := true, recurses := true, named := ["internal/bytealg.MaxLen"], apart := false, narrowed := true }
def TopicPlainUptoSaid : Prop := topicPlainUptoRow.holds Try.pinned (OpenSpec.upto topicPlainSpec)

/-- 'basculelaw12.TopicLevels', WHERE WHAT IT READS IS OF BULK AT MOST 1048576: true; the input reads as it did. -/
def topicLevelsUptoRow : OpenClaim := { program := "ytkgidimaiedocaa", sum := "3b80949e9685faefd06dd7cd12b01daa6590cda6f1d7e66b51b23676fda3a103", func := "bascule/basculelaw12.TopicLevels", spec := "topicLevels", inPlace := ["internal/bytealg.IndexByteString", "internal/bytealg.IndexString"], unfollowed := true, recurses := true, named := ["internal/bytealg.MaxLen"], apart := false, narrowed := true }
def TopicLevelsUptoSaid : Prop := topicLevelsUptoRow.holds Try.pinned (OpenSpec.upto topicLevelsSpec)

/-- 'basculelaw12.TopicWider', WHERE WHAT IT READS IS OF BULK AT MOST 1048576: true; the input reads as it did. -/
def topicWiderUptoRow : OpenClaim := { program := "ytkgidimaiedocaa", sum := "3b80949e9685faefd06dd7cd12b01daa6590cda6f1d7e66b51b23676fda3a103", func := "bascule/basculelaw12.TopicWider", spec := "topicWider", inPlace := ["internal/bytealg.IndexByteString", "internal/bytealg.IndexString"], unfollowed := true, recurses := true, named := ["internal/bytealg.MaxLen"], apart := false, narrowed := true }
def TopicWiderUptoSaid : Prop := topicWiderUptoRow.holds Try.pinned (OpenSpec.upto topicWiderSpec)

/-- 'basculelaw12.TopicDollar', WHERE WHAT IT READS IS OF BULK AT MOST 1048576: true; the input reads as it did. -/
def topicDollarUptoRow : OpenClaim := { program := "ytkgidimaiedocaa", sum := "3b80949e9685faefd06dd7cd12b01daa6590cda6f1d7e66b51b23676fda3a103", func := "bascule/basculelaw12.TopicDollar", spec := "topicDollar", inPlace := ["internal/bytealg.IndexByteString", "internal/bytealg.IndexString"], unfollowed := true, recurses := true, named := ["internal/bytealg.MaxLen"], apart := false, narrowed := true }
def TopicDollarUptoSaid : Prop := topicDollarUptoRow.holds Try.pinned (OpenSpec.upto topicDollarSpec)

end Rows
end Go.Proofs.Ytkgidimaiedocaa
