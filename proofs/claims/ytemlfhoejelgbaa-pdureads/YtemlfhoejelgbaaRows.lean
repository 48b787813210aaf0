/-
  No cell of these rows narrows 'for every input' (looked for: loops, veiled, ifaces, maps, wideKeys, modest, calm, conditions, laid).
  DERIVED. THE GIVEN ROWS OF THIS SEAT. 7 by the template 'for every input the law returns true; each argument reads behind the call as it read before'; 0 by the template 'total and deterministic' (their statements: YtemlfhoejelgbaaTotals.lean).
  GIVEN WITH THE SEED: the statements are not yours to turn. If you find one false, say at which input.
  Laid BY PROGRAM, IN A SANDBOX (cutbox-rows.mjs): the forced cells as the released guide's own fill.sh prints them over the translation 2499de1c2d476b13… (all of the seat's roots in one cut). By AI agents, Wed Nov 11 2026. No macro, syntax, notation, axiom, sorry.
-/
import Derived.Test.YtemlfhoejelgbaaChecked
import GoSem.Claim
import GoSem.ClaimJoined
import GoSem.ClaimMapViews
import Derived.JoinedTies
import Derived.KernelRfl
namespace Go.Proofs.Ytemlfhoejelgbaa
/- THE CELL 'sum', in the pinned program and in every row, IS THE sha256 OF THE DUMP (.gsa) THAT YtemlfhoejelgbaaProg.lean LOADS. Nothing in Lean hashes anything: it is a label: what it is worth is what the hold of that sum in a sandbox is worth. -/
noncomputable def Try.pinned : Pinned := { name := "ytemlfhoejelgbaa", sum := "2499de1c2d476b13f9c513dfa0d0094e64ca6b42e7ec38be5c3b89f799d5235d", checked := Try.checked }
namespace Rows
def none {H : Type} : Left H := { results := [], args := [] }

/-- 'basculelaw03.PduLays': WHATEVER THE INPUT: true; the input reads as it did. -/
def pduLaysSpec : ChangeSpec := { name := "pduLays", fn := fun _ => fun
  | [d] => { results := [.lit (.bool true)], args := [d] }
  | _ => none }
def pduLaysRow : OpenClaim := { program := "ytemlfhoejelgbaa", sum := "2499de1c2d476b13f9c513dfa0d0094e64ca6b42e7ec38be5c3b89f799d5235d", func := "bascule/basculelaw03.PduLays", spec := "pduLays", apart := false }
def PduLaysSaid : Prop := pduLaysRow.holds Try.pinned (OpenSpec.ofChange pduLaysSpec)

/-- ITS FALSE NEIGHBOUR: 'it returns false'. Refute it at one input. -/
def pduLaysWrong : ChangeSpec := { name := "pduLays", fn := fun _ => fun
  | [d] => { results := [.lit (.bool false)], args := [d] }
  | _ => none }
def PduLaysWrongFalsely : Prop := pduLaysRow.holds Try.pinned (OpenSpec.ofChange pduLaysWrong)

/-- 'basculelaw03.PduParses': WHATEVER THE INPUT: true; the input reads as it did. -/
def pduParsesSpec : ChangeSpec := { name := "pduParses", fn := fun _ => fun
  | [d] => { results := [.lit (.bool true)], args := [d] }
  | _ => none }
def pduParsesRow : OpenClaim := { program := "ytemlfhoejelgbaa", sum := "2499de1c2d476b13f9c513dfa0d0094e64ca6b42e7ec38be5c3b89f799d5235d", func := "bascule/basculelaw03.PduParses", spec := "pduParses", apart := false }
def PduParsesSaid : Prop := pduParsesRow.holds Try.pinned (OpenSpec.ofChange pduParsesSpec)

/-- ITS FALSE NEIGHBOUR: 'it returns false'. Refute it at one input. -/
def pduParsesWrong : ChangeSpec := { name := "pduParses", fn := fun _ => fun
  | [d] => { results := [.lit (.bool false)], args := [d] }
  | _ => none }
def PduParsesWrongFalsely : Prop := pduParsesRow.holds Try.pinned (OpenSpec.ofChange pduParsesWrong)

/-- 'basculelaw03.PduAnswers': WHATEVER THE INPUT: true; the input reads as it did. -/
def pduAnswersSpec : ChangeSpec := { name := "pduAnswers", fn := fun _ => fun
  | [d1, d2] => { results := [.lit (.bool true)], args := [d1, d2] }
  | _ => none }
def pduAnswersRow : OpenClaim := { program := "ytemlfhoejelgbaa", sum := "2499de1c2d476b13f9c513dfa0d0094e64ca6b42e7ec38be5c3b89f799d5235d", func := "bascule/basculelaw03.PduAnswers", spec := "pduAnswers", apart := false }
def PduAnswersSaid : Prop := pduAnswersRow.holds Try.pinned (OpenSpec.ofChange pduAnswersSpec)

/-- ITS FALSE NEIGHBOUR: 'it returns false'. Refute it at one input. -/
def pduAnswersWrong : ChangeSpec := { name := "pduAnswers", fn := fun _ => fun
  | [d1, d2] => { results := [.lit (.bool false)], args := [d1, d2] }
  | _ => none }
def PduAnswersWrongFalsely : Prop := pduAnswersRow.holds Try.pinned (OpenSpec.ofChange pduAnswersWrong)

/-- 'basculelaw03.PduReads': WHATEVER THE INPUT: true; the input reads as it did. -/
def pduReadsSpec : ChangeSpec := { name := "pduReads", fn := fun _ => fun
  | [d1, d2] => { results := [.lit (.bool true)], args := [d1, d2] }
  | _ => none }
def pduReadsRow : OpenClaim := { program := "ytemlfhoejelgbaa", sum := "2499de1c2d476b13f9c513dfa0d0094e64ca6b42e7ec38be5c3b89f799d5235d", func := "bascule/basculelaw03.PduReads", spec := "pduReads", apart := false }
def PduReadsSaid : Prop := pduReadsRow.holds Try.pinned (OpenSpec.ofChange pduReadsSpec)

/-- ITS FALSE NEIGHBOUR: 'it returns false'. Refute it at one input. -/
def pduReadsWrong : ChangeSpec := { name := "pduReads", fn := fun _ => fun
  | [d1, d2] => { results := [.lit (.bool false)], args := [d1, d2] }
  | _ => none }
def PduReadsWrongFalsely : Prop := pduReadsRow.holds Try.pinned (OpenSpec.ofChange pduReadsWrong)

/-- 'basculelaw03.PduBack': WHATEVER THE INPUT: true; the input reads as it did. -/
def pduBackSpec : ChangeSpec := { name := "pduBack", fn := fun _ => fun
  | [d1, d2] => { results := [.lit (.bool true)], args := [d1, d2] }
  | _ => none }
def pduBackRow : OpenClaim := { program := "ytemlfhoejelgbaa", sum := "2499de1c2d476b13f9c513dfa0d0094e64ca6b42e7ec38be5c3b89f799d5235d", func := "bascule/basculelaw03.PduBack", spec := "pduBack", apart := false }
def PduBackSaid : Prop := pduBackRow.holds Try.pinned (OpenSpec.ofChange pduBackSpec)

/-- ITS FALSE NEIGHBOUR: 'it returns false'. Refute it at one input. -/
def pduBackWrong : ChangeSpec := { name := "pduBack", fn := fun _ => fun
  | [d1, d2] => { results := [.lit (.bool false)], args := [d1, d2] }
  | _ => none }
def PduBackWrongFalsely : Prop := pduBackRow.holds Try.pinned (OpenSpec.ofChange pduBackWrong)

/-- 'basculelaw03.PduAgain': WHATEVER THE INPUT: true; the input reads as it did. -/
def pduAgainSpec : ChangeSpec := { name := "pduAgain", fn := fun _ => fun
  | [d1, d2] => { results := [.lit (.bool true)], args := [d1, d2] }
  | _ => none }
def pduAgainRow : OpenClaim := { program := "ytemlfhoejelgbaa", sum := "2499de1c2d476b13f9c513dfa0d0094e64ca6b42e7ec38be5c3b89f799d5235d", func := "bascule/basculelaw03.PduAgain", spec := "pduAgain", apart := false }
def PduAgainSaid : Prop := pduAgainRow.holds Try.pinned (OpenSpec.ofChange pduAgainSpec)

/-- ITS FALSE NEIGHBOUR: 'it returns false'. Refute it at one input. -/
def pduAgainWrong : ChangeSpec := { name := "pduAgain", fn := fun _ => fun
  | [d1, d2] => { results := [.lit (.bool false)], args := [d1, d2] }
  | _ => none }
def PduAgainWrongFalsely : Prop := pduAgainRow.holds Try.pinned (OpenSpec.ofChange pduAgainWrong)

/-- 'basculelaw03.PduSizes': WHATEVER THE INPUT: true; the input reads as it did. -/
def pduSizesSpec : ChangeSpec := { name := "pduSizes", fn := fun _ => fun
  | [d1, d2] => { results := [.lit (.bool true)], args := [d1, d2] }
  | _ => none }
def pduSizesRow : OpenClaim := { program := "ytemlfhoejelgbaa", sum := "2499de1c2d476b13f9c513dfa0d0094e64ca6b42e7ec38be5c3b89f799d5235d", func := "bascule/basculelaw03.PduSizes", spec := "pduSizes", apart := false }
def PduSizesSaid : Prop := pduSizesRow.holds Try.pinned (OpenSpec.ofChange pduSizesSpec)

/-- ITS FALSE NEIGHBOUR: 'it returns false'. Refute it at one input. -/
def pduSizesWrong : ChangeSpec := { name := "pduSizes", fn := fun _ => fun
  | [d1, d2] => { results := [.lit (.bool false)], args := [d1, d2] }
  | _ => none }
def PduSizesWrongFalsely : Prop := pduSizesRow.holds Try.pinned (OpenSpec.ofChange pduSizesWrong)

/- THE SECOND FORM. 'bulk': how many values and letters a reading holds, each counted each time it is reached (what is shared counts as often as it is met; a slice's spare places count too). A statement '..UptoSaid' is the law's where the arguments, and the package variables that the reading takes, are together of bulk at most 1048576: NARROWER than '..Said'. Prove '..Said' where nothing that the law and all that it calls make is longer than what came in: it says more and counts as full. Else prove '..UptoSaid'. A law counts once. -/
mutual
def uptoBulk {H : Type} : DataW H → Nat
  | .lit (.string bytes) => bytes.length + 1
  | .lit _ => 1
  | .nil => 1
  | .ptr d => uptoBulk d + 1
  | .slice elems spare => uptoBulkAll elems + uptoBulkAll spare + 1
  | .agg parts => uptoBulkAll parts + 1
  | .iface _ d => uptoBulk d + 1
  | .map entries => uptoBulkEntries entries + 1
  | .held _ => 1
def uptoBulkAll {H : Type} : List (DataW H) → Nat
  | [] => 0
  | d :: r => uptoBulk d + uptoBulkAll r
def uptoBulkEntries {H : Type} : List (Lit × DataW H) → Nat
  | [] => 0
  | x :: r => uptoBulkEntry x + uptoBulkEntries r
def uptoBulkEntry {H : Type} : Lit × DataW H → Nat
  | (.string bytes, d) => bytes.length + uptoBulk d + 1
  | (_, d) => uptoBulk d + 1
 end
def uptoSmall : (H : Type) → List (DataW H) → Bool := fun _ ds => decide (uptoBulkAll ds ≤ 1048576)
def OpenSpec.upto (s : _root_.Go.ChangeSpec) : _root_.Go.OpenSpec := { _root_.Go.OpenSpec.ofChange s with cond := some uptoSmall }

/-- 'basculelaw03.PduLays', WHERE WHAT IT READS IS OF BULK AT MOST 1048576: true; the input reads as it did. -/
def pduLaysUptoRow : OpenClaim := { program := "ytemlfhoejelgbaa", sum := "2499de1c2d476b13f9c513dfa0d0094e64ca6b42e7ec38be5c3b89f799d5235d", func := "bascule/basculelaw03.PduLays", spec := "pduLays", apart := false, narrowed := true }
def PduLaysUptoSaid : Prop := pduLaysUptoRow.holds Try.pinned (OpenSpec.upto pduLaysSpec)

/-- 'basculelaw03.PduParses', WHERE WHAT IT READS IS OF BULK AT MOST 1048576: true; the input reads as it did. -/
def pduParsesUptoRow : OpenClaim := { program := "ytemlfhoejelgbaa", sum := "2499de1c2d476b13f9c513dfa0d0094e64ca6b42e7ec38be5c3b89f799d5235d", func := "bascule/basculelaw03.PduParses", spec := "pduParses", apart := false, narrowed := true }
def PduParsesUptoSaid : Prop := pduParsesUptoRow.holds Try.pinned (OpenSpec.upto pduParsesSpec)

/-- 'basculelaw03.PduAnswers', WHERE WHAT IT READS IS OF BULK AT MOST 1048576: true; the input reads as it did. -/
def pduAnswersUptoRow : OpenClaim := { program := "ytemlfhoejelgbaa", sum := "2499de1c2d476b13f9c513dfa0d0094e64ca6b42e7ec38be5c3b89f799d5235d", func := "bascule/basculelaw03.PduAnswers", spec := "pduAnswers", apart := false, narrowed := true }
def PduAnswersUptoSaid : Prop := pduAnswersUptoRow.holds Try.pinned (OpenSpec.upto pduAnswersSpec)

/-- 'basculelaw03.PduReads', WHERE WHAT IT READS IS OF BULK AT MOST 1048576: true; the input reads as it did. -/
def pduReadsUptoRow : OpenClaim := { program := "ytemlfhoejelgbaa", sum := "2499de1c2d476b13f9c513dfa0d0094e64ca6b42e7ec38be5c3b89f799d5235d", func := "bascule/basculelaw03.PduReads", spec := "pduReads", apart := false, narrowed := true }
def PduReadsUptoSaid : Prop := pduReadsUptoRow.holds Try.pinned (OpenSpec.upto pduReadsSpec)

/-- 'basculelaw03.PduBack', WHERE WHAT IT READS IS OF BULK AT MOST 1048576: true; the input reads as it did. -/
def pduBackUptoRow : OpenClaim := { program := "ytemlfhoejelgbaa", sum := "2499de1c2d476b13f9c513dfa0d0094e64ca6b42e7ec38be5c3b89f799d5235d", func := "bascule/basculelaw03.PduBack", spec := "pduBack", apart := false, narrowed := true }
def PduBackUptoSaid : Prop := pduBackUptoRow.holds Try.pinned (OpenSpec.upto pduBackSpec)

/-- 'basculelaw03.PduAgain', WHERE WHAT IT READS IS OF BULK AT MOST 1048576: true; the input reads as it did. -/
def pduAgainUptoRow : OpenClaim := { program := "ytemlfhoejelgbaa", sum := "2499de1c2d476b13f9c513dfa0d0094e64ca6b42e7ec38be5c3b89f799d5235d", func := "bascule/basculelaw03.PduAgain", spec := "pduAgain", apart := false, narrowed := true }
def PduAgainUptoSaid : Prop := pduAgainUptoRow.holds Try.pinned (OpenSpec.upto pduAgainSpec)

/-- 'basculelaw03.PduSizes', WHERE WHAT IT READS IS OF BULK AT MOST 1048576: true; the input reads as it did. -/
def pduSizesUptoRow : OpenClaim := { program := "ytemlfhoejelgbaa", sum := "2499de1c2d476b13f9c513dfa0d0094e64ca6b42e7ec38be5c3b89f799d5235d", func := "bascule/basculelaw03.PduSizes", spec := "pduSizes", apart := false, narrowed := true }
def PduSizesUptoSaid : Prop := pduSizesUptoRow.holds Try.pinned (OpenSpec.upto pduSizesSpec)

end Rows
end Go.Proofs.Ytemlfhoejelgbaa
