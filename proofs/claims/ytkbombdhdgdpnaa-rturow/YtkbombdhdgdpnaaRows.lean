/-
  No cell of these rows narrows 'for every input' (looked for: loops, veiled, ifaces, maps, wideKeys, modest, calm, conditions, laid).
  DERIVED. THE GIVEN ROWS OF THIS SEAT. 4 by the template 'for every input the law returns true; each argument reads behind the call as it read before'; 0 by the template 'total and deterministic' (their statements: YtkbombdhdgdpnaaTotals.lean).
  GIVEN WITH THE SEED: the statements are not yours to turn. If you find one false, say at which input.
  Laid BY PROGRAM, IN A SANDBOX (cutbox-rows.mjs): the forced cells as the released guide's own fill.sh prints them over the translation b92159f4c1ce2084… (all of the seat's roots in one cut). By AI agents, Wed Nov 11 2026. No macro, syntax, notation, axiom, sorry.
-/
import Derived.Test.YtkbombdhdgdpnaaChecked
import GoSem.Claim
import GoSem.ClaimJoined
import GoSem.ClaimMapViews
import Derived.JoinedTies
import Derived.KernelRfl
namespace Go.Proofs.Ytkbombdhdgdpnaa
/- THE CELL 'sum', in the pinned program and in every row, IS THE sha256 OF THE DUMP (.gsa) THAT YtkbombdhdgdpnaaProg.lean LOADS. Nothing in Lean hashes anything: it is a label: what it is worth is what the hold of that sum in a sandbox is worth. -/
noncomputable def Try.pinned : Pinned := { name := "ytkbombdhdgdpnaa", sum := "b92159f4c1ce2084a85ff57770fb534df22f0a1aa3290212636da209b54a9175", checked := Try.checked }
namespace Rows
def none {H : Type} : Left H := { results := [], args := [] }

/-- 'basculelaw05.RtuFrames': WHATEVER THE INPUT: true; the input reads as it did. -/
def rtuFramesSpec : ChangeSpec := { name := "rtuFrames", fn := fun _ => fun
  | [d1, d2, d3] => { results := [.lit (.bool true)], args := [d1, d2, d3] }
  | _ => none }
def rtuFramesRow : OpenClaim := { program := "ytkbombdhdgdpnaa", sum := "b92159f4c1ce2084a85ff57770fb534df22f0a1aa3290212636da209b54a9175", func := "bascule/basculelaw05.RtuFrames", spec := "rtuFrames", apart := false }
def RtuFramesSaid : Prop := rtuFramesRow.holds Try.pinned (OpenSpec.ofChange rtuFramesSpec)

/-- ITS FALSE NEIGHBOUR: 'it returns false'. Refute it at one input. -/
def rtuFramesWrong : ChangeSpec := { name := "rtuFrames", fn := fun _ => fun
  | [d1, d2, d3] => { results := [.lit (.bool false)], args := [d1, d2, d3] }
  | _ => none }
def RtuFramesWrongFalsely : Prop := rtuFramesRow.holds Try.pinned (OpenSpec.ofChange rtuFramesWrong)

/-- 'basculelaw05.RtuBack': WHATEVER THE INPUT: true; the input reads as it did. -/
def rtuBackSpec : ChangeSpec := { name := "rtuBack", fn := fun _ => fun
  | [d1, d2, d3] => { results := [.lit (.bool true)], args := [d1, d2, d3] }
  | _ => none }
def rtuBackRow : OpenClaim := { program := "ytkbombdhdgdpnaa", sum := "b92159f4c1ce2084a85ff57770fb534df22f0a1aa3290212636da209b54a9175", func := "bascule/basculelaw05.RtuBack", spec := "rtuBack", apart := false }
def RtuBackSaid : Prop := rtuBackRow.holds Try.pinned (OpenSpec.ofChange rtuBackSpec)

/-- ITS FALSE NEIGHBOUR: 'it returns false'. Refute it at one input. -/
def rtuBackWrong : ChangeSpec := { name := "rtuBack", fn := fun _ => fun
  | [d1, d2, d3] => { results := [.lit (.bool false)], args := [d1, d2, d3] }
  | _ => none }
def RtuBackWrongFalsely : Prop := rtuBackRow.holds Try.pinned (OpenSpec.ofChange rtuBackWrong)

/-- 'basculelaw05.RtuParts': WHATEVER THE INPUT: true; the input reads as it did. -/
def rtuPartsSpec : ChangeSpec := { name := "rtuParts", fn := fun _ => fun
  | [d1, d2, d3, d4] => { results := [.lit (.bool true)], args := [d1, d2, d3, d4] }
  | _ => none }
def rtuPartsRow : OpenClaim := { program := "ytkbombdhdgdpnaa", sum := "b92159f4c1ce2084a85ff57770fb534df22f0a1aa3290212636da209b54a9175", func := "bascule/basculelaw05.RtuParts", spec := "rtuParts", apart := false }
def RtuPartsSaid : Prop := rtuPartsRow.holds Try.pinned (OpenSpec.ofChange rtuPartsSpec)

/-- ITS FALSE NEIGHBOUR: 'it returns false'. Refute it at one input. -/
def rtuPartsWrong : ChangeSpec := { name := "rtuParts", fn := fun _ => fun
  | [d1, d2, d3, d4] => { results := [.lit (.bool false)], args := [d1, d2, d3, d4] }
  | _ => none }
def RtuPartsWrongFalsely : Prop := rtuPartsRow.holds Try.pinned (OpenSpec.ofChange rtuPartsWrong)

/-- 'basculelaw05.RtuRow': WHATEVER THE INPUT: true; the input reads as it did. -/
def rtuRowSpec : ChangeSpec := { name := "rtuRow", fn := fun _ => fun
  | [d1, d2, d3] => { results := [.lit (.bool true)], args := [d1, d2, d3] }
  | _ => none }
def rtuRowRow : OpenClaim := { program := "ytkbombdhdgdpnaa", sum := "b92159f4c1ce2084a85ff57770fb534df22f0a1aa3290212636da209b54a9175", func := "bascule/basculelaw05.RtuRow", spec := "rtuRow", apart := false }
def RtuRowSaid : Prop := rtuRowRow.holds Try.pinned (OpenSpec.ofChange rtuRowSpec)

/-- ITS FALSE NEIGHBOUR: 'it returns false'. Refute it at one input. -/
def rtuRowWrong : ChangeSpec := { name := "rtuRow", fn := fun _ => fun
  | [d1, d2, d3] => { results := [.lit (.bool false)], args := [d1, d2, d3] }
  | _ => none }
def RtuRowWrongFalsely : Prop := rtuRowRow.holds Try.pinned (OpenSpec.ofChange rtuRowWrong)

/- THE SECOND FORM. 'bulk': how many values and letters a reading holds, each counted each time it is reached (what is shared counts as often as it is met; a slice's spare places count too). A statement '..UptoSaid' is the law's where the arguments, and the package variables that the reading takes, are together of bulk at most 1048576: NARROWER than '..Said'. Prove '..Said' where nothing that the law and all that it calls make is longer than what came in: it says more and counts as full. Else prove '..UptoSaid'. A law counts once. -/
mutual
def uptoBulk {H : Type} : DataW H → Nat
  | .lit (.string bytes) => bytes.length + 1
  | .lit _ => 1
  | .nil => 1
  | .ptr d => uptoBulk d + 1
  | .slice elems spare => uptoBulkAll elems + uptoBulkAll spare + 1
  | .agg parts => uptoBulkAll parts + 1
  | .iface _ d => uptoBulk d + 1
  | .map entries => uptoBulkEntries entries + 1
  | .held _ => 1
def uptoBulkAll {H : Type} : List (DataW H) → Nat
  | [] => 0
  | d :: r => uptoBulk d + uptoBulkAll r
def uptoBulkEntries {H : Type} : List (Lit × DataW H) → Nat
  | [] => 0
  | x :: r => uptoBulkEntry x + uptoBulkEntries r
def uptoBulkEntry {H : Type} : Lit × DataW H → Nat
  | (.string bytes, d) => bytes.length + uptoBulk d + 1
  | (_, d) => uptoBulk d + 1
 end
def uptoSmall : (H : Type) → List (DataW H) → Bool := fun _ ds => decide (uptoBulkAll ds ≤ 1048576)
def OpenSpec.upto (s : _root_.Go.ChangeSpec) : _root_.Go.OpenSpec := { _root_.Go.OpenSpec.ofChange s with cond := some uptoSmall }

/-- 'basculelaw05.RtuFrames', WHERE WHAT IT READS IS OF BULK AT MOST 1048576: true; the input reads as it did. -/
def rtuFramesUptoRow : OpenClaim := { program := "ytkbombdhdgdpnaa", sum := "b92159f4c1ce2084a85ff57770fb534df22f0a1aa3290212636da209b54a9175", func := "bascule/basculelaw05.RtuFrames", spec := "rtuFrames", apart := false, narrowed := true }
def RtuFramesUptoSaid : Prop := rtuFramesUptoRow.holds Try.pinned (OpenSpec.upto rtuFramesSpec)

/-- 'basculelaw05.RtuBack', WHERE WHAT IT READS IS OF BULK AT MOST 1048576: true; the input reads as it did. -/
def rtuBackUptoRow : OpenClaim := { program := "ytkbombdhdgdpnaa", sum := "b92159f4c1ce2084a85ff57770fb534df22f0a1aa3290212636da209b54a9175", func := "bascule/basculelaw05.RtuBack", spec := "rtuBack", apart := false, narrowed := true }
def RtuBackUptoSaid : Prop := rtuBackUptoRow.holds Try.pinned (OpenSpec.upto rtuBackSpec)

/-- 'basculelaw05.RtuParts', WHERE WHAT IT READS IS OF BULK AT MOST 1048576: true; the input reads as it did. -/
def rtuPartsUptoRow : OpenClaim := { program := "ytkbombdhdgdpnaa", sum := "b92159f4c1ce2084a85ff57770fb534df22f0a1aa3290212636da209b54a9175", func := "bascule/basculelaw05.RtuParts", spec := "rtuParts", apart := false, narrowed := true }
def RtuPartsUptoSaid : Prop := rtuPartsUptoRow.holds Try.pinned (OpenSpec.upto rtuPartsSpec)

/-- 'basculelaw05.RtuRow', WHERE WHAT IT READS IS OF BULK AT MOST 1048576: true; the input reads as it did. -/
def rtuRowUptoRow : OpenClaim := { program := "ytkbombdhdgdpnaa", sum := "b92159f4c1ce2084a85ff57770fb534df22f0a1aa3290212636da209b54a9175", func := "bascule/basculelaw05.RtuRow", spec := "rtuRow", apart := false, narrowed := true }
def RtuRowUptoSaid : Prop := rtuRowUptoRow.holds Try.pinned (OpenSpec.upto rtuRowSpec)

end Rows
end Go.Proofs.Ytkbombdhdgdpnaa
