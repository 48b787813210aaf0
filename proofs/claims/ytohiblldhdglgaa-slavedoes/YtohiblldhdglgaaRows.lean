/-
  No cell of these rows narrows 'for every input' (looked for: loops, veiled, ifaces, maps, wideKeys, modest, calm, conditions, laid).
  DERIVED. THE GIVEN ROWS OF THIS SEAT. 4 by the template 'for every input the law returns true; each argument reads behind the call as it read before'; 0 by the template 'total and deterministic' (their statements: YtohiblldhdglgaaTotals.lean).
  GIVEN WITH THE SEED: the statements are not yours to turn. If you find one false, say at which input.
  Laid BY PROGRAM, IN A SANDBOX (cutbox-rows.mjs): the forced cells as the released guide's own fill.sh prints them over the translation 9f9215238e7ca70b… (all of the seat's roots in one cut). By AI agents, Wed Nov 11 2026. No macro, syntax, notation, axiom, sorry.
-/
import Derived.Test.YtohiblldhdglgaaChecked
import GoSem.Claim
import GoSem.ClaimJoined
import GoSem.ClaimMapViews
import Derived.JoinedTies
import Derived.KernelRfl
namespace Go.Proofs.Ytohiblldhdglgaa
/- THE CELL 'sum', in the pinned program and in every row, IS THE sha256 OF THE DUMP (.gsa) THAT YtohiblldhdglgaaProg.lean LOADS. Nothing in Lean hashes anything: it is a label: what it is worth is what the hold of that sum in a sandbox is worth. -/
noncomputable def Try.pinned : Pinned := { name := "ytohiblldhdglgaa", sum := "9f9215238e7ca70b74b7f19207446b77b8f7b6447331fd912a16019832e86571", checked := Try.checked }
namespace Rows
def none {H : Type} : Left H := { results := [], args := [] }

/-- 'basculelaw04.SlaveDoes': WHATEVER THE INPUT: true; the input reads as it did. -/
def slaveDoesSpec : ChangeSpec := { name := "slaveDoes", fn := fun _ => fun
  | [d1, d2, d3] => { results := [.lit (.bool true)], args := [d1, d2, d3] }
  | _ => none }
def slaveDoesRow : OpenClaim := { program := "ytohiblldhdglgaa", sum := "9f9215238e7ca70b74b7f19207446b77b8f7b6447331fd912a16019832e86571", func := "bascule/basculelaw04.SlaveDoes", spec := "slaveDoes", apart := false }
def SlaveDoesSaid : Prop := slaveDoesRow.holds Try.pinned (OpenSpec.ofChange slaveDoesSpec)

/-- ITS FALSE NEIGHBOUR: 'it returns false'. Refute it at one input. -/
def slaveDoesWrong : ChangeSpec := { name := "slaveDoes", fn := fun _ => fun
  | [d1, d2, d3] => { results := [.lit (.bool false)], args := [d1, d2, d3] }
  | _ => none }
def SlaveDoesWrongFalsely : Prop := slaveDoesRow.holds Try.pinned (OpenSpec.ofChange slaveDoesWrong)

/-- 'basculelaw04.SlaveReads': WHATEVER THE INPUT: true; the input reads as it did. -/
def slaveReadsSpec : ChangeSpec := { name := "slaveReads", fn := fun _ => fun
  | [d1, d2, d3, d4] => { results := [.lit (.bool true)], args := [d1, d2, d3, d4] }
  | _ => none }
def slaveReadsRow : OpenClaim := { program := "ytohiblldhdglgaa", sum := "9f9215238e7ca70b74b7f19207446b77b8f7b6447331fd912a16019832e86571", func := "bascule/basculelaw04.SlaveReads", spec := "slaveReads", apart := false }
def SlaveReadsSaid : Prop := slaveReadsRow.holds Try.pinned (OpenSpec.ofChange slaveReadsSpec)

/-- ITS FALSE NEIGHBOUR: 'it returns false'. Refute it at one input. -/
def slaveReadsWrong : ChangeSpec := { name := "slaveReads", fn := fun _ => fun
  | [d1, d2, d3, d4] => { results := [.lit (.bool false)], args := [d1, d2, d3, d4] }
  | _ => none }
def SlaveReadsWrongFalsely : Prop := slaveReadsRow.holds Try.pinned (OpenSpec.ofChange slaveReadsWrong)

/-- 'basculelaw04.SlaveNil': WHATEVER THE INPUT: true; the input reads as it did. -/
def slaveNilSpec : ChangeSpec := { name := "slaveNil", fn := fun _ => fun
  | [d1, d2, d3] => { results := [.lit (.bool true)], args := [d1, d2, d3] }
  | _ => none }
def slaveNilRow : OpenClaim := { program := "ytohiblldhdglgaa", sum := "9f9215238e7ca70b74b7f19207446b77b8f7b6447331fd912a16019832e86571", func := "bascule/basculelaw04.SlaveNil", spec := "slaveNil", apart := false }
def SlaveNilSaid : Prop := slaveNilRow.holds Try.pinned (OpenSpec.ofChange slaveNilSpec)

/-- ITS FALSE NEIGHBOUR: 'it returns false'. Refute it at one input. -/
def slaveNilWrong : ChangeSpec := { name := "slaveNil", fn := fun _ => fun
  | [d1, d2, d3] => { results := [.lit (.bool false)], args := [d1, d2, d3] }
  | _ => none }
def SlaveNilWrongFalsely : Prop := slaveNilRow.holds Try.pinned (OpenSpec.ofChange slaveNilWrong)

/-- 'basculelaw04.SlaveAgain': WHATEVER THE INPUT: true; the input reads as it did. -/
def slaveAgainSpec : ChangeSpec := { name := "slaveAgain", fn := fun _ => fun
  | [d1, d2, d3, d4] => { results := [.lit (.bool true)], args := [d1, d2, d3, d4] }
  | _ => none }
def slaveAgainRow : OpenClaim := { program := "ytohiblldhdglgaa", sum := "9f9215238e7ca70b74b7f19207446b77b8f7b6447331fd912a16019832e86571", func := "bascule/basculelaw04.SlaveAgain", spec := "slaveAgain", apart := false }
def SlaveAgainSaid : Prop := slaveAgainRow.holds Try.pinned (OpenSpec.ofChange slaveAgainSpec)

/-- ITS FALSE NEIGHBOUR: 'it returns false'. Refute it at one input. -/
def slaveAgainWrong : ChangeSpec := { name := "slaveAgain", fn := fun _ => fun
  | [d1, d2, d3, d4] => { results := [.lit (.bool false)], args := [d1, d2, d3, d4] }
  | _ => none }
def SlaveAgainWrongFalsely : Prop := slaveAgainRow.holds Try.pinned (OpenSpec.ofChange slaveAgainWrong)

/- THE SECOND FORM. 'bulk': how many values and letters a reading holds, each counted each time it is reached (what is shared counts as often as it is met; a slice's spare places count too). A statement '..UptoSaid' is the law's where the arguments, and the package variables that the reading takes, are together of bulk at most 1048576: NARROWER than '..Said'. Prove '..Said' where nothing that the law and all that it calls make is longer than what came in: it says more and counts as full. Else prove '..UptoSaid'. A law counts once. -/
mutual
def uptoBulk {H : Type} : DataW H → Nat
  | .lit (.string bytes) => bytes.length + 1
  | .lit _ => 1
  | .nil => 1
  | .ptr d => uptoBulk d + 1
  | .slice elems spare => uptoBulkAll elems + uptoBulkAll spare + 1
  | .agg parts => uptoBulkAll parts + 1
  | .iface _ d => uptoBulk d + 1
  | .map entries => uptoBulkEntries entries + 1
  | .held _ => 1
def uptoBulkAll {H : Type} : List (DataW H) → Nat
  | [] => 0
  | d :: r => uptoBulk d + uptoBulkAll r
def uptoBulkEntries {H : Type} : List (Lit × DataW H) → Nat
  | [] => 0
  | x :: r => uptoBulkEntry x + uptoBulkEntries r
def uptoBulkEntry {H : Type} : Lit × DataW H → Nat
  | (.string bytes, d) => bytes.length + uptoBulk d + 1
  | (_, d) => uptoBulk d + 1
 end
def uptoSmall : (H : Type) → List (DataW H) → Bool := fun _ ds => decide (uptoBulkAll ds ≤ 1048576)
def OpenSpec.upto (s : _root_.Go.ChangeSpec) : _root_.Go.OpenSpec := { _root_.Go.OpenSpec.ofChange s with cond := some uptoSmall }

/-- 'basculelaw04.SlaveDoes', WHERE WHAT IT READS IS OF BULK AT MOST 1048576: true; the input reads as it did. -/
def slaveDoesUptoRow : OpenClaim := { program := "ytohiblldhdglgaa", sum := "9f9215238e7ca70b74b7f19207446b77b8f7b6447331fd912a16019832e86571", func := "bascule/basculelaw04.SlaveDoes", spec := "slaveDoes", apart := false, narrowed := true }
def SlaveDoesUptoSaid : Prop := slaveDoesUptoRow.holds Try.pinned (OpenSpec.upto slaveDoesSpec)

/-- 'basculelaw04.SlaveReads', WHERE WHAT IT READS IS OF BULK AT MOST 1048576: true; the input reads as it did. -/
def slaveReadsUptoRow : OpenClaim := { program := "ytohiblldhdglgaa", sum := "9f9215238e7ca70b74b7f19207446b77b8f7b6447331fd912a16019832e86571", func := "bascule/basculelaw04.SlaveReads", spec := "slaveReads", apart := false, narrowed := true }
def SlaveReadsUptoSaid : Prop := slaveReadsUptoRow.holds Try.pinned (OpenSpec.upto slaveReadsSpec)

/-- 'basculelaw04.SlaveNil', WHERE WHAT IT READS IS OF BULK AT MOST 1048576: true; the input reads as it did. -/
def slaveNilUptoRow : OpenClaim := { program := "ytohiblldhdglgaa", sum := "9f9215238e7ca70b74b7f19207446b77b8f7b6447331fd912a16019832e86571", func := "bascule/basculelaw04.SlaveNil", spec := "slaveNil", apart := false, narrowed := true }
def SlaveNilUptoSaid : Prop := slaveNilUptoRow.holds Try.pinned (OpenSpec.upto slaveNilSpec)

/-- 'basculelaw04.SlaveAgain', WHERE WHAT IT READS IS OF BULK AT MOST 1048576: true; the input reads as it did. -/
def slaveAgainUptoRow : OpenClaim := { program := "ytohiblldhdglgaa", sum := "9f9215238e7ca70b74b7f19207446b77b8f7b6447331fd912a16019832e86571", func := "bascule/basculelaw04.SlaveAgain", spec := "slaveAgain", apart := false, narrowed := true }
def SlaveAgainUptoSaid : Prop := slaveAgainUptoRow.holds Try.pinned (OpenSpec.upto slaveAgainSpec)

end Rows
end Go.Proofs.Ytohiblldhdglgaa
