/-
  What is proved here: the document's own reader of layer 10 (Read.byte1, word, text), digit and flag. Condition: at most 2^40 bytes.
-/
import Derived.Test.YtkgidimaiedocaaPkMath
import Derived.Test.YtkgidimaiedocaaMem5
import Derived.Test.YtkgidimaiedocaaInfo
import Derived.Test.YtkgidimaiedocaaStructs
import Derived.LoopTactic
import Derived.WalkMore
namespace Go.Proofs.Ytkgidimaiedocaa
set_option linter.unusedVariables false
set_option linter.unusedSimpArgs false
open Go.RowKit

/-- What a call of the reader leaves. -/
def AftR (g : Nat) (w w' : World) : Prop := But (fun i => i = g) w w' ∧ KeepB w w'
theorem AftR.trans {g : Nat} {w w' w'' : World} (h : AftR g w w') (k : AftR g w' w'') : AftR g w w'' := ⟨h.1.trans k.1 (fun _ _ e => e), h.2.trans k.2⟩
theorem AftR.refl (g : Nat) (w : World) : AftR g w w := ⟨But.refl _ _, fun _ _ _ h => h⟩
theorem AftR.below {g B : Nat} {v w w' : World} (h : Below B v w) (k : AftR g w w') (hB : B ≤ g) (hw : B ≤ w.heap.size) : Below B v w' := But.below h k.1 (fun i e => by omega) hw

theorem rB_nil (b : Bool) : rB ([], b) = (0, ([], true)) := rfl
theorem rB_cons (c : UInt8) (t : List UInt8) (b : Bool) : rB (c :: t, b) = (c.toNat, (t, b)) := rfl

theorem rW_le (s : Rdr) : (rW s).2.1.length ≤ s.1.length ∧ (rW s).1 < 65536 := by
  obtain ⟨xs, b⟩ := s
  match xs with
  | [] => simp [rW, rB]
  | [c] => have := c.toNat_lt; simp [rW, rB]; omega
  | c :: d :: t => have := c.toNat_lt; have := d.toNat_lt; simp [rW, rB]; omega
theorem rT_le (s : Rdr) : (rT s).2.1.length ≤ s.1.length ∧ (rT s).1.length ≤ 65535 := by
  have := rW_le s
  unfold rT
  split
  · exact ⟨this.1, by simp⟩
  · simp
    omega

theorem flag_any (b : Bool) (n : Nat) (w : World) : Calls Try.prog 85 #[.bool b, .int .i64 (n : Int)] w fun e w' => e = .returned (.int .i64 (flagB b n : Int)) ∧ w = w' := by
  cases b with
  | true =>
    go_enter Try.func85, Try.ntmps85
    go_wp2_with fail
    go_ret
    exact ⟨rfl, rfl⟩
  | false =>
    go_enter Try.func85, Try.ntmps85
    go_wp2_with fail
    go_ret
    exact ⟨rfl, rfl⟩

end Go.Proofs.Ytkgidimaiedocaa
