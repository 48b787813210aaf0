/-
  No cell of these rows narrows 'for every input' (looked for: loops, veiled, ifaces, maps, wideKeys, modest, calm, conditions, laid).
  DERIVED. THE GIVEN ROWS OF THIS SEAT. 7 by the template 'for every input the law returns true; each argument reads behind the call as it read before'; 0 by the template 'total and deterministic' (their statements: YtdlhcecmodefkaaTotals.lean).
  GIVEN WITH THE SEED: the statements are not yours to turn. If you find one false, say at which input.
  Laid BY PROGRAM, IN A SANDBOX (cutbox-rows.mjs): the forced cells as the released guide's own fill.sh prints them over the translation b89d53a6ee6cade9… (all of the seat's roots in one cut). By AI agents, Wed Nov 11 2026. No macro, syntax, notation, axiom, sorry.
-/
import Derived.Test.YtdlhcecmodefkaaChecked
import GoSem.Claim
import GoSem.ClaimJoined
import GoSem.ClaimMapViews
import Derived.JoinedTies
import Derived.KernelRfl
namespace Go.Proofs.Ytdlhcecmodefkaa
/- THE CELL 'sum', in the pinned program and in every row, IS THE sha256 OF THE DUMP (.gsa) THAT YtdlhcecmodefkaaProg.lean LOADS. Nothing in Lean hashes anything: it is a label: what it is worth is what the hold of that sum in a sandbox is worth. -/
noncomputable def Try.pinned : Pinned := { name := "ytdlhcecmodefkaa", sum := "b89d53a6ee6cade9d979cc4744970fa3450b60965ab8dace2681419f0a655aeb", checked := Try.checked }
namespace Rows
def none {H : Type} : Left H := { results := [], args := [] }

/-- 'basculelaw10.PacketLays': WHATEVER THE INPUT: true; the input reads as it did. -/
def packetLaysSpec : ChangeSpec := { name := "packetLays", fn := fun _ => fun
  | [d] => { results := [.lit (.bool true)], args := [d] }
  | _ => none }
def packetLaysRow : OpenClaim := { program := "ytdlhcecmodefkaa", sum := "b89d53a6ee6cade9d979cc4744970fa3450b60965ab8dace2681419f0a655aeb", func := "bascule/basculelaw10.PacketLays", spec := "packetLays", unfollowed := true, recurses := true, apart := false }
def PacketLaysSaid : Prop := packetLaysRow.holds Try.pinned (OpenSpec.ofChange packetLaysSpec)

/-- ITS FALSE NEIGHBOUR: 'it returns false'. Refute it at one input. -/
def packetLaysWrong : ChangeSpec := { name := "packetLays", fn := fun _ => fun
  | [d] => { results := [.lit (.bool false)], args := [d] }
  | _ => none }
def PacketLaysWrongFalsely : Prop := packetLaysRow.holds Try.pinned (OpenSpec.ofChange packetLaysWrong)

/-- 'basculelaw10.PacketParses': WHATEVER THE INPUT: true; the input reads as it did. -/
def packetParsesSpec : ChangeSpec := { name := "packetParses", fn := fun _ => fun
  | [d] => { results := [.lit (.bool true)], args := [d] }
  | _ => none }
def packetParsesRow : OpenClaim := { program := "ytdlhcecmodefkaa", sum := "b89d53a6ee6cade9d979cc4744970fa3450b60965ab8dace2681419f0a655aeb", func := "bascule/basculelaw10.PacketParses", spec := "packetParses", unfollowed := true, recurses := true, apart := false }
def PacketParsesSaid : Prop := packetParsesRow.holds Try.pinned (OpenSpec.ofChange packetParsesSpec)

/-- ITS FALSE NEIGHBOUR: 'it returns false'. Refute it at one input. -/
def packetParsesWrong : ChangeSpec := { name := "packetParses", fn := fun _ => fun
  | [d] => { results := [.lit (.bool false)], args := [d] }
  | _ => none }
def PacketParsesWrongFalsely : Prop := packetParsesRow.holds Try.pinned (OpenSpec.ofChange packetParsesWrong)

/-- 'basculelaw11.StreamFeeds': WHATEVER THE INPUT: true; the input reads as it did. -/
def streamFeedsSpec : ChangeSpec := { name := "streamFeeds", fn := fun _ => fun
  | [d1, d2] => { results := [.lit (.bool true)], args := [d1, d2] }
  | _ => none }
def streamFeedsRow : OpenClaim := { program := "ytdlhcecmodefkaa", sum := "b89d53a6ee6cade9d979cc4744970fa3450b60965ab8dace2681419f0a655aeb", func := "bascule/basculelaw11.StreamFeeds", spec := "streamFeeds", unfollowed := true, recurses := true, apart := false }
def StreamFeedsSaid : Prop := streamFeedsRow.holds Try.pinned (OpenSpec.ofChange streamFeedsSpec)

/-- ITS FALSE NEIGHBOUR: 'it returns false'. Refute it at one input. -/
def streamFeedsWrong : ChangeSpec := { name := "streamFeeds", fn := fun _ => fun
  | [d1, d2] => { results := [.lit (.bool false)], args := [d1, d2] }
  | _ => none }
def StreamFeedsWrongFalsely : Prop := streamFeedsRow.holds Try.pinned (OpenSpec.ofChange streamFeedsWrong)

/-- 'basculelaw11.StreamParts': WHATEVER THE INPUT: true; the input reads as it did. -/
def streamPartsSpec : ChangeSpec := { name := "streamParts", fn := fun _ => fun
  | [d1, d2] => { results := [.lit (.bool true)], args := [d1, d2] }
  | _ => none }
def streamPartsRow : OpenClaim := { program := "ytdlhcecmodefkaa", sum := "b89d53a6ee6cade9d979cc4744970fa3450b60965ab8dace2681419f0a655aeb", func := "bascule/basculelaw11.StreamParts", spec := "streamParts", unfollowed := true, recurses := true, apart := false }
def StreamPartsSaid : Prop := streamPartsRow.holds Try.pinned (OpenSpec.ofChange streamPartsSpec)

/-- ITS FALSE NEIGHBOUR: 'it returns false'. Refute it at one input. -/
def streamPartsWrong : ChangeSpec := { name := "streamParts", fn := fun _ => fun
  | [d1, d2] => { results := [.lit (.bool false)], args := [d1, d2] }
  | _ => none }
def StreamPartsWrongFalsely : Prop := streamPartsRow.holds Try.pinned (OpenSpec.ofChange streamPartsWrong)

/-- 'basculelaw11.StreamOne': WHATEVER THE INPUT: true; the input reads as it did. -/
def streamOneSpec : ChangeSpec := { name := "streamOne", fn := fun _ => fun
  | [d1, d2, d3] => { results := [.lit (.bool true)], args := [d1, d2, d3] }
  | _ => none }
def streamOneRow : OpenClaim := { program := "ytdlhcecmodefkaa", sum := "b89d53a6ee6cade9d979cc4744970fa3450b60965ab8dace2681419f0a655aeb", func := "bascule/basculelaw11.StreamOne", spec := "streamOne", unfollowed := true, recurses := true, apart := false }
def StreamOneSaid : Prop := streamOneRow.holds Try.pinned (OpenSpec.ofChange streamOneSpec)

/-- ITS FALSE NEIGHBOUR: 'it returns false'. Refute it at one input. -/
def streamOneWrong : ChangeSpec := { name := "streamOne", fn := fun _ => fun
  | [d1, d2, d3] => { results := [.lit (.bool false)], args := [d1, d2, d3] }
  | _ => none }
def StreamOneWrongFalsely : Prop := streamOneRow.holds Try.pinned (OpenSpec.ofChange streamOneWrong)

/-- 'basculelaw11.StreamNil': WHATEVER THE INPUT: true; the input reads as it did. -/
def streamNilSpec : ChangeSpec := { name := "streamNil", fn := fun _ => fun
  | [d] => { results := [.lit (.bool true)], args := [d] }
  | _ => none }
def streamNilRow : OpenClaim := { program := "ytdlhcecmodefkaa", sum := "b89d53a6ee6cade9d979cc4744970fa3450b60965ab8dace2681419f0a655aeb", func := "bascule/basculelaw11.StreamNil", spec := "streamNil", unfollowed := true, recurses := true, apart := false }
def StreamNilSaid : Prop := streamNilRow.holds Try.pinned (OpenSpec.ofChange streamNilSpec)

/-- ITS FALSE NEIGHBOUR: 'it returns false'. Refute it at one input. -/
def streamNilWrong : ChangeSpec := { name := "streamNil", fn := fun _ => fun
  | [d] => { results := [.lit (.bool false)], args := [d] }
  | _ => none }
def StreamNilWrongFalsely : Prop := streamNilRow.holds Try.pinned (OpenSpec.ofChange streamNilWrong)

/-- 'basculelaw11.StreamLeft': WHATEVER THE INPUT: true; the input reads as it did. -/
def streamLeftSpec : ChangeSpec := { name := "streamLeft", fn := fun _ => fun
  | [d1, d2] => { results := [.lit (.bool true)], args := [d1, d2] }
  | _ => none }
def streamLeftRow : OpenClaim := { program := "ytdlhcecmodefkaa", sum := "b89d53a6ee6cade9d979cc4744970fa3450b60965ab8dace2681419f0a655aeb", func := "bascule/basculelaw11.StreamLeft", spec := "streamLeft", unfollowed := true, recurses := true, apart := false }
def StreamLeftSaid : Prop := streamLeftRow.holds Try.pinned (OpenSpec.ofChange streamLeftSpec)

/-- ITS FALSE NEIGHBOUR: 'it returns false'. Refute it at one input. -/
def streamLeftWrong : ChangeSpec := { name := "streamLeft", fn := fun _ => fun
  | [d1, d2] => { results := [.lit (.bool false)], args := [d1, d2] }
  | _ => none }
def StreamLeftWrongFalsely : Prop := streamLeftRow.holds Try.pinned (OpenSpec.ofChange streamLeftWrong)

/- THE SECOND FORM. 'bulk': how many values and letters a reading holds, each counted each time it is reached (what is shared counts as often as it is met; a slice's spare places count too). A statement '..UptoSaid' is the law's where the arguments, and the package variables that the reading takes, are together of bulk at most 1048576: NARROWER than '..Said'. Prove '..Said' where nothing that the law and all that it calls make is longer than what came in: it says more and counts as full. Else prove '..UptoSaid'. A law counts once. -/
mutual
def uptoBulk {H : Type} : DataW H → Nat
  | .lit (.string bytes) => bytes.length + 1
  | .lit _ => 1
  | .nil => 1
  | .ptr d => uptoBulk d + 1
  | .slice elems spare => uptoBulkAll elems + uptoBulkAll spare + 1
  | .agg parts => uptoBulkAll parts + 1
  | .iface _ d => uptoBulk d + 1
  | .map entries => uptoBulkEntries entries + 1
  | .held _ => 1
def uptoBulkAll {H : Type} : List (DataW H) → Nat
  | [] => 0
  | d :: r => uptoBulk d + uptoBulkAll r
def uptoBulkEntries {H : Type} : List (Lit × DataW H) → Nat
  | [] => 0
  | x :: r => uptoBulkEntry x + uptoBulkEntries r
def uptoBulkEntry {H : Type} : Lit × DataW H → Nat
  | (.string bytes, d) => bytes.length + uptoBulk d + 1
  | (_, d) => uptoBulk d + 1
 end
def uptoSmall : (H : Type) → List (DataW H) → Bool := fun _ ds => decide (uptoBulkAll ds ≤ 1048576)
def OpenSpec.upto (s : _root_.Go.ChangeSpec) : _root_.Go.OpenSpec := { _root_.Go.OpenSpec.ofChange s with cond := some uptoSmall }

/-- 'basculelaw10.PacketLays', WHERE WHAT IT READS IS OF BULK AT MOST 1048576: true; the input reads as it did. -/
def packetLaysUptoRow : OpenClaim := { program := "ytdlhcecmodefkaa", sum := "b89d53a6ee6cade9d979cc4744970fa3450b60965ab8dace2681419f0a655aeb", func := "bascule/basculelaw10.PacketLays", spec := "packetLays", unfollowed := true, recurses := true, apart := false, narrowed := true }
def PacketLaysUptoSaid : Prop := packetLaysUptoRow.holds Try.pinned (OpenSpec.upto packetLaysSpec)

/-- 'basculelaw10.PacketParses', WHERE WHAT IT READS IS OF BULK AT MOST 1048576: true; the input reads as it did. -/
def packetParsesUptoRow : OpenClaim := { program := "ytdlhcecmodefkaa", sum := "b89d53a6ee6cade9d979cc4744970fa3450b60965ab8dace2681419f0a655aeb", func := "bascule/basculelaw10.PacketParses", spec := "packetParses", unfollowed := true, recurses := true, apart := false, narrowed := true }
def PacketParsesUptoSaid : Prop := packetParsesUptoRow.holds Try.pinned (OpenSpec.upto packetParsesSpec)

/-- 'basculelaw11.StreamFeeds', WHERE WHAT IT READS IS OF BULK AT MOST 1048576: true; the input reads as it did. -/
def streamFeedsUptoRow : OpenClaim := { program := "ytdlhcecmodefkaa", sum := "b89d53a6ee6cade9d979cc4744970fa3450b60965ab8dace2681419f0a655aeb", func := "bascule/basculelaw11.StreamFeeds", spec := "streamFeeds", unfollowed := true, recurses := true, apart := false, narrowed := true }
def StreamFeedsUptoSaid : Prop := streamFeedsUptoRow.holds Try.pinned (OpenSpec.upto streamFeedsSpec)

/-- 'basculelaw11.StreamParts', WHERE WHAT IT READS IS OF BULK AT MOST 1048576: true; the input reads as it did. -/
def streamPartsUptoRow : OpenClaim := { program := "ytdlhcecmodefkaa", sum := "b89d53a6ee6cade9d979cc4744970fa3450b60965ab8dace2681419f0a655aeb", func := "bascule/basculelaw11.StreamParts", spec := "streamParts", unfollowed := true, recurses := true, apart := false, narrowed := true }
def StreamPartsUptoSaid : Prop := streamPartsUptoRow.holds Try.pinned (OpenSpec.upto streamPartsSpec)

/-- 'basculelaw11.StreamOne', WHERE WHAT IT READS IS OF BULK AT MOST 1048576: true; the input reads as it did. -/
def streamOneUptoRow : OpenClaim := { program := "ytdlhcecmodefkaa", sum := "b89d53a6ee6cade9d979cc4744970fa3450b60965ab8dace2681419f0a655aeb", func := "bascule/basculelaw11.StreamOne", spec := "streamOne", unfollowed := true, recurses := true, apart := false, narrowed := true }
def StreamOneUptoSaid : Prop := streamOneUptoRow.holds Try.pinned (OpenSpec.upto streamOneSpec)

/-- 'basculelaw11.StreamNil', WHERE WHAT IT READS IS OF BULK AT MOST 1048576: true; the input reads as it did. -/
def streamNilUptoRow : OpenClaim := { program := "ytdlhcecmodefkaa", sum := "b89d53a6ee6cade9d979cc4744970fa3450b60965ab8dace2681419f0a655aeb", func := "bascule/basculelaw11.StreamNil", spec := "streamNil", unfollowed := true, recurses := true, apart := false, narrowed := true }
def StreamNilUptoSaid : Prop := streamNilUptoRow.holds Try.pinned (OpenSpec.upto streamNilSpec)

/-- 'basculelaw11.StreamLeft', WHERE WHAT IT READS IS OF BULK AT MOST 1048576: true; the input reads as it did. -/
def streamLeftUptoRow : OpenClaim := { program := "ytdlhcecmodefkaa", sum := "b89d53a6ee6cade9d979cc4744970fa3450b60965ab8dace2681419f0a655aeb", func := "bascule/basculelaw11.StreamLeft", spec := "streamLeft", unfollowed := true, recurses := true, apart := false, narrowed := true }
def StreamLeftUptoSaid : Prop := streamLeftUptoRow.holds Try.pinned (OpenSpec.upto streamLeftSpec)

end Rows
end Go.Proofs.Ytdlhcecmodefkaa
