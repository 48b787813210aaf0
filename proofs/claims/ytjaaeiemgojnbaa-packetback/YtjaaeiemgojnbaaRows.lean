/-
  No cell of these rows narrows 'for every input' (looked for: loops, veiled, ifaces, maps, wideKeys, modest, calm, conditions, laid).
  DERIVED. THE GIVEN ROWS OF THIS SEAT. 7 by the template 'for every input the law returns true; each argument reads behind the call as it read before'; 0 by the template 'total and deterministic' (their statements: YtjaaeiemgojnbaaTotals.lean).
  GIVEN WITH THE SEED: the statements are not yours to turn. If you find one false, say at which input.
  Laid BY PROGRAM, IN A SANDBOX (cutbox-rows.mjs): the forced cells as the released guide's own fill.sh prints them over the translation 8c14937a5b869e76… (all of the seat's roots in one cut). By AI agents, Wed Nov 11 2026. No macro, syntax, notation, axiom, sorry.
-/
import Derived.Test.YtjaaeiemgojnbaaChecked
import GoSem.Claim
import GoSem.ClaimJoined
import GoSem.ClaimMapViews
import Derived.JoinedTies
import Derived.KernelRfl
namespace Go.Proofs.Ytjaaeiemgojnbaa
/- THE CELL 'sum', in the pinned program and in every row, IS THE sha256 OF THE DUMP (.gsa) THAT YtjaaeiemgojnbaaProg.lean LOADS. Nothing in Lean hashes anything: it is a label: what it is worth is what the hold of that sum in a sandbox is worth. -/
noncomputable def Try.pinned : Pinned := { name := "ytjaaeiemgojnbaa", sum := "8c14937a5b869e76bdb2d041c92a609dbc89729ef8cba921c44ff4571577e19f", checked := Try.checked }
namespace Rows
def none {H : Type} : Left H := { results := [], args := [] }

/-- 'basculelaw10.PacketLays': WHATEVER THE INPUT: true; the input reads as it did. -/
def packetLaysSpec : ChangeSpec := { name := "packetLays", fn := fun _ => fun
  | [d] => { results := [.lit (.bool true)], args := [d] }
  | _ => none }
def packetLaysRow : OpenClaim := { program := "ytjaaeiemgojnbaa", sum := "8c14937a5b869e76bdb2d041c92a609dbc89729ef8cba921c44ff4571577e19f", func := "bascule/basculelaw10.PacketLays", spec := "packetLays", unfollowed := true, recurses := true, apart := false }
def PacketLaysSaid : Prop := packetLaysRow.holds Try.pinned (OpenSpec.ofChange packetLaysSpec)

/-- ITS FALSE NEIGHBOUR: 'it returns false'. Refute it at one input. -/
def packetLaysWrong : ChangeSpec := { name := "packetLays", fn := fun _ => fun
  | [d] => { results := [.lit (.bool false)], args := [d] }
  | _ => none }
def PacketLaysWrongFalsely : Prop := packetLaysRow.holds Try.pinned (OpenSpec.ofChange packetLaysWrong)

/-- 'basculelaw10.PacketParses': WHATEVER THE INPUT: true; the input reads as it did. -/
def packetParsesSpec : ChangeSpec := { name := "packetParses", fn := fun _ => fun
  | [d] => { results := [.lit (.bool true)], args := [d] }
  | _ => none }
def packetParsesRow : OpenClaim := { program := "ytjaaeiemgojnbaa", sum := "8c14937a5b869e76bdb2d041c92a609dbc89729ef8cba921c44ff4571577e19f", func := "bascule/basculelaw10.PacketParses", spec := "packetParses", unfollowed := true, recurses := true, apart := false }
def PacketParsesSaid : Prop := packetParsesRow.holds Try.pinned (OpenSpec.ofChange packetParsesSpec)

/-- ITS FALSE NEIGHBOUR: 'it returns false'. Refute it at one input. -/
def packetParsesWrong : ChangeSpec := { name := "packetParses", fn := fun _ => fun
  | [d] => { results := [.lit (.bool false)], args := [d] }
  | _ => none }
def PacketParsesWrongFalsely : Prop := packetParsesRow.holds Try.pinned (OpenSpec.ofChange packetParsesWrong)

/-- 'basculelaw10.PacketBack': WHATEVER THE INPUT: true; the input reads as it did. -/
def packetBackSpec : ChangeSpec := { name := "packetBack", fn := fun _ => fun
  | [d] => { results := [.lit (.bool true)], args := [d] }
  | _ => none }
def packetBackRow : OpenClaim := { program := "ytjaaeiemgojnbaa", sum := "8c14937a5b869e76bdb2d041c92a609dbc89729ef8cba921c44ff4571577e19f", func := "bascule/basculelaw10.PacketBack", spec := "packetBack", unfollowed := true, recurses := true, apart := false }
def PacketBackSaid : Prop := packetBackRow.holds Try.pinned (OpenSpec.ofChange packetBackSpec)

/-- ITS FALSE NEIGHBOUR: 'it returns false'. Refute it at one input. -/
def packetBackWrong : ChangeSpec := { name := "packetBack", fn := fun _ => fun
  | [d] => { results := [.lit (.bool false)], args := [d] }
  | _ => none }
def PacketBackWrongFalsely : Prop := packetBackRow.holds Try.pinned (OpenSpec.ofChange packetBackWrong)

/-- 'basculelaw10.PacketAgain': WHATEVER THE INPUT: true; the input reads as it did. -/
def packetAgainSpec : ChangeSpec := { name := "packetAgain", fn := fun _ => fun
  | [d] => { results := [.lit (.bool true)], args := [d] }
  | _ => none }
def packetAgainRow : OpenClaim := { program := "ytjaaeiemgojnbaa", sum := "8c14937a5b869e76bdb2d041c92a609dbc89729ef8cba921c44ff4571577e19f", func := "bascule/basculelaw10.PacketAgain", spec := "packetAgain", unfollowed := true, recurses := true, apart := false }
def PacketAgainSaid : Prop := packetAgainRow.holds Try.pinned (OpenSpec.ofChange packetAgainSpec)

/-- ITS FALSE NEIGHBOUR: 'it returns false'. Refute it at one input. -/
def packetAgainWrong : ChangeSpec := { name := "packetAgain", fn := fun _ => fun
  | [d] => { results := [.lit (.bool false)], args := [d] }
  | _ => none }
def PacketAgainWrongFalsely : Prop := packetAgainRow.holds Try.pinned (OpenSpec.ofChange packetAgainWrong)

/-- 'basculelaw10.PacketAlone': WHATEVER THE INPUT: true; the input reads as it did. -/
def packetAloneSpec : ChangeSpec := { name := "packetAlone", fn := fun _ => fun
  | [d1, d2] => { results := [.lit (.bool true)], args := [d1, d2] }
  | _ => none }
def packetAloneRow : OpenClaim := { program := "ytjaaeiemgojnbaa", sum := "8c14937a5b869e76bdb2d041c92a609dbc89729ef8cba921c44ff4571577e19f", func := "bascule/basculelaw10.PacketAlone", spec := "packetAlone", unfollowed := true, recurses := true, apart := false }
def PacketAloneSaid : Prop := packetAloneRow.holds Try.pinned (OpenSpec.ofChange packetAloneSpec)

/-- ITS FALSE NEIGHBOUR: 'it returns false'. Refute it at one input. -/
def packetAloneWrong : ChangeSpec := { name := "packetAlone", fn := fun _ => fun
  | [d1, d2] => { results := [.lit (.bool false)], args := [d1, d2] }
  | _ => none }
def PacketAloneWrongFalsely : Prop := packetAloneRow.holds Try.pinned (OpenSpec.ofChange packetAloneWrong)

/-- 'basculelaw10.PacketSizes': WHATEVER THE INPUT: true; the input reads as it did. -/
def packetSizesSpec : ChangeSpec := { name := "packetSizes", fn := fun _ => fun
  | [d] => { results := [.lit (.bool true)], args := [d] }
  | _ => none }
def packetSizesRow : OpenClaim := { program := "ytjaaeiemgojnbaa", sum := "8c14937a5b869e76bdb2d041c92a609dbc89729ef8cba921c44ff4571577e19f", func := "bascule/basculelaw10.PacketSizes", spec := "packetSizes", unfollowed := true, recurses := true, apart := false }
def PacketSizesSaid : Prop := packetSizesRow.holds Try.pinned (OpenSpec.ofChange packetSizesSpec)

/-- ITS FALSE NEIGHBOUR: 'it returns false'. Refute it at one input. -/
def packetSizesWrong : ChangeSpec := { name := "packetSizes", fn := fun _ => fun
  | [d] => { results := [.lit (.bool false)], args := [d] }
  | _ => none }
def PacketSizesWrongFalsely : Prop := packetSizesRow.holds Try.pinned (OpenSpec.ofChange packetSizesWrong)

/-- 'basculelaw10.PacketIds': WHATEVER THE INPUT: true; the input reads as it did. -/
def packetIdsSpec : ChangeSpec := { name := "packetIds", fn := fun _ => fun
  | [d1, d2, d3] => { results := [.lit (.bool true)], args := [d1, d2, d3] }
  | _ => none }
def packetIdsRow : OpenClaim := { program := "ytjaaeiemgojnbaa", sum := "8c14937a5b869e76bdb2d041c92a609dbc89729ef8cba921c44ff4571577e19f", func := "bascule/basculelaw10.PacketIds", spec := "packetIds", unfollowed := true, recurses := true, apart := false }
def PacketIdsSaid : Prop := packetIdsRow.holds Try.pinned (OpenSpec.ofChange packetIdsSpec)

/-- ITS FALSE NEIGHBOUR: 'it returns false'. Refute it at one input. -/
def packetIdsWrong : ChangeSpec := { name := "packetIds", fn := fun _ => fun
  | [d1, d2, d3] => { results := [.lit (.bool false)], args := [d1, d2, d3] }
  | _ => none }
def PacketIdsWrongFalsely : Prop := packetIdsRow.holds Try.pinned (OpenSpec.ofChange packetIdsWrong)

/- THE SECOND FORM. 'bulk': how many values and letters a reading holds, each counted each time it is reached (what is shared counts as often as it is met; a slice's spare places count too). A statement '..UptoSaid' is the law's where the arguments, and the package variables that the reading takes, are together of bulk at most 1048576: NARROWER than '..Said'. Prove '..Said' where nothing that the law and all that it calls make is longer than what came in: it says more and counts as full. Else prove '..UptoSaid'. A law counts once. -/
mutual
def uptoBulk {H : Type} : DataW H → Nat
  | .lit (.string bytes) => bytes.length + 1
  | .lit _ => 1
  | .nil => 1
  | .ptr d => uptoBulk d + 1
  | .slice elems spare => uptoBulkAll elems + uptoBulkAll spare + 1
  | .agg parts => uptoBulkAll parts + 1
  | .iface _ d => uptoBulk d + 1
  | .map entries => uptoBulkEntries entries + 1
  | .held _ => 1
def uptoBulkAll {H : Type} : List (DataW H) → Nat
  | [] => 0
  | d :: r => uptoBulk d + uptoBulkAll r
def uptoBulkEntries {H : Type} : List (Lit × DataW H) → Nat
  | [] => 0
  | x :: r => uptoBulkEntry x + uptoBulkEntries r
def uptoBulkEntry {H : Type} : Lit × DataW H → Nat
  | (.string bytes, d) => bytes.length + uptoBulk d + 1
  | (_, d) => uptoBulk d + 1
 end
def uptoSmall : (H : Type) → List (DataW H) → Bool := fun _ ds => decide (uptoBulkAll ds ≤ 1048576)
def OpenSpec.upto (s : _root_.Go.ChangeSpec) : _root_.Go.OpenSpec := { _root_.Go.OpenSpec.ofChange s with cond := some uptoSmall }

/-- 'basculelaw10.PacketLays', WHERE WHAT IT READS IS OF BULK AT MOST 1048576: true; the input reads as it did. -/
def packetLaysUptoRow : OpenClaim := { program := "ytjaaeiemgojnbaa", sum := "8c14937a5b869e76bdb2d041c92a609dbc89729ef8cba921c44ff4571577e19f", func := "bascule/basculelaw10.PacketLays", spec := "packetLays", unfollowed := true, recurses := true, apart := false, narrowed := true }
def PacketLaysUptoSaid : Prop := packetLaysUptoRow.holds Try.pinned (OpenSpec.upto packetLaysSpec)

/-- 'basculelaw10.PacketParses', WHERE WHAT IT READS IS OF BULK AT MOST 1048576: true; the input reads as it did. -/
def packetParsesUptoRow : OpenClaim := { program := "ytjaaeiemgojnbaa", sum := "8c14937a5b869e76bdb2d041c92a609dbc89729ef8cba921c44ff4571577e19f", func := "bascule/basculelaw10.PacketParses", spec := "packetParses", unfollowed := true, recurses := true, apart := false, narrowed := true }
def PacketParsesUptoSaid : Prop := packetParsesUptoRow.holds Try.pinned (OpenSpec.upto packetParsesSpec)

/-- 'basculelaw10.PacketBack', WHERE WHAT IT READS IS OF BULK AT MOST 1048576: true; the input reads as it did. -/
def packetBackUptoRow : OpenClaim := { program := "ytjaaeiemgojnbaa", sum := "8c14937a5b869e76bdb2d041c92a609dbc89729ef8cba921c44ff4571577e19f", func := "bascule/basculelaw10.PacketBack", spec := "packetBack", unfollowed := true, recurses := true, apart := false, narrowed := true }
def PacketBackUptoSaid : Prop := packetBackUptoRow.holds Try.pinned (OpenSpec.upto packetBackSpec)

/-- 'basculelaw10.PacketAgain', WHERE WHAT IT READS IS OF BULK AT MOST 1048576: true; the input reads as it did. -/
def packetAgainUptoRow : OpenClaim := { program := "ytjaaeiemgojnbaa", sum := "8c14937a5b869e76bdb2d041c92a609dbc89729ef8cba921c44ff4571577e19f", func := "bascule/basculelaw10.PacketAgain", spec := "packetAgain", unfollowed := true, recurses := true, apart := false, narrowed := true }
def PacketAgainUptoSaid : Prop := packetAgainUptoRow.holds Try.pinned (OpenSpec.upto packetAgainSpec)

/-- 'basculelaw10.PacketAlone', WHERE WHAT IT READS IS OF BULK AT MOST 1048576: true; the input reads as it did. -/
def packetAloneUptoRow : OpenClaim := { program := "ytjaaeiemgojnbaa", sum := "8c14937a5b869e76bdb2d041c92a609dbc89729ef8cba921c44ff4571577e19f", func := "bascule/basculelaw10.PacketAlone", spec := "packetAlone", unfollowed := true, recurses := true, apart := false, narrowed := true }
def PacketAloneUptoSaid : Prop := packetAloneUptoRow.holds Try.pinned (OpenSpec.upto packetAloneSpec)

/-- 'basculelaw10.PacketSizes', WHERE WHAT IT READS IS OF BULK AT MOST 1048576: true; the input reads as it did. -/
def packetSizesUptoRow : OpenClaim := { program := "ytjaaeiemgojnbaa", sum := "8c14937a5b869e76bdb2d041c92a609dbc89729ef8cba921c44ff4571577e19f", func := "bascule/basculelaw10.PacketSizes", spec := "packetSizes", unfollowed := true, recurses := true, apart := false, narrowed := true }
def PacketSizesUptoSaid : Prop := packetSizesUptoRow.holds Try.pinned (OpenSpec.upto packetSizesSpec)

/-- 'basculelaw10.PacketIds', WHERE WHAT IT READS IS OF BULK AT MOST 1048576: true; the input reads as it did. -/
def packetIdsUptoRow : OpenClaim := { program := "ytjaaeiemgojnbaa", sum := "8c14937a5b869e76bdb2d041c92a609dbc89729ef8cba921c44ff4571577e19f", func := "bascule/basculelaw10.PacketIds", spec := "packetIds", unfollowed := true, recurses := true, apart := false, narrowed := true }
def PacketIdsUptoSaid : Prop := packetIdsUptoRow.holds Try.pinned (OpenSpec.upto packetIdsSpec)

end Rows
end Go.Proofs.Ytjaaeiemgojnbaa
