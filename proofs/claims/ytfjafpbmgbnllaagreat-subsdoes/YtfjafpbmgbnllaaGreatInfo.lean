/-
  What is proved here: how long a byte and an int are in memory, and what they are at first, in this seat's program.
-/
import Derived.Test.YtfjafpbmgbnllaaGreatRows
import Derived.Test.YtfjafpbmgbnllaaGreatBase
namespace Go.Proofs.YtfjafpbmgbnllaaGreat
set_option linter.unusedVariables false
set_option linter.unusedSimpArgs false
open Go.RowKit

theorem u8_info : (Tryz.prog.info? 5).map (fun i => (i.zero, i.size, i.bytes)) = some (some (.int .u8 0), 1, 1) := by kernel_rfl
theorem u8_size : (Tryz.prog.info? 5).map (·.size) = some 1 := by kernel_rfl
theorem int_info : (Tryz.prog.info? 3).map (fun i => (i.zero, i.size, i.bytes)) = some (some (.int .i64 0), 1, 8) := by kernel_rfl
theorem int_size : (Tryz.prog.info? 3).map (·.size) = some 1 := by kernel_rfl

/-- string(b). -/
theorem rdStr {w : World} {A : Option Addr} {n : Nat} {xs : List UInt8} (h : Rd w A n (bv xs)) (c : Nat) : (convert 121 9 (.slice A n c)).run Tryz.prog w = .ok (.string (str xs)) w :=
  h.toStr 121 5 9 Tryz.underlying121 Tryz.underlying5 Tryz.underlying9 c
/-- string(b), in whatever world follows. -/
theorem strOn {v : World} {A : Option Addr} {n : Nat} {xs : List UInt8} (h : Rd v A n (bv xs)) : ∀ w', Below v.heap.size v w' → ∀ c, (convert 121 9 (.slice A n c)).run Tryz.prog w' = .ok (.string (str xs)) w' := fun _ b c => rdStr (h.keep b) c

end Go.Proofs.YtfjafpbmgbnllaaGreat
