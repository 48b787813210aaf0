/-
  What is proved here: what the functions of Go's package strings return that package topic calls: HasPrefix at one sign, Cut at one sign, ContainsAny of + and #, for every text. Condition: texts shorter than 2^40 bytes where they are cut.
-/
import Derived.Test.YtfjafpbmgbnllaaGreatTpMath
import Derived.Test.YtfjafpbmgbnllaaGreatRef9
import Derived.Lib.Bytealg
import Derived.Lib.IndexAny
import Derived.Lib.IndexBytes
import Derived.Lib.AsciiSet
import Derived.Lib.DecodeN
import Derived.Lib.Walk
import Derived.Lib.Strings
import Derived.Laws.RangeAny
import Derived.Laws.Strings3
import Derived.Laws.ResultCell
import Derived.Deep.LoopGhost
import Derived.Deep.WholeRow
import Derived.WalkKit
namespace Go.Proofs.YtfjafpbmgbnllaaGreat
set_option linter.unusedVariables false
set_option linter.unusedSimpArgs false
open Go.RowKit

theorem str_list (xs : List UInt8) : (str xs).data.toList = xs := rfl

set_option maxRecDepth 100000 in
theorem slIndexByte_any (xs : List UInt8) (c : Int) (w : World) :
    Calls Tryz.prog 102 #[.string (str xs), .int .u8 c] w fun e w' => e = .returned (.int .i64 (Lib.indexByte xs c.toNat.toUInt8)) ∧ w' = w := by
  go_enter Tryz.func102, Tryz.ntmps102
  go_wp2
  rw [run_callFunc_extern Tryz.func109 (by kernel_rfl) (by kernel_rfl) (by kernel_rfl) (e := Extern.BytealgIndexByte.indexByte) (by kernel_rfl), Lib.run_indexByteString]
  simp only [Result.andThen]
  rw [Oper.upon_value]
  go_wp2
  go_ret
  exact ⟨rfl, rfl⟩
theorem sIndexByte_any (xs : List UInt8) (c : Int) (w : World) :
    Calls Tryz.prog 106 #[.string (str xs), .int .u8 c] w fun e w' => e = .returned (.int .i64 (Lib.indexByte xs c.toNat.toUInt8)) ∧ w' = w := by
  go_enter Tryz.func106, Tryz.ntmps106
  go_wp2_with (go_at_call 102; refine (slIndexByte_any _ _ _).mono ?_; rintro e w' ⟨rfl, rfl⟩)
  go_ret
  exact ⟨rfl, rfl⟩

theorem iB_none (c : UInt8) : ∀ {x : List UInt8}, c ∉ x → Lib.indexByte x c = -1
  | [], _ => rfl
  | b :: l, h => by
    have h1 : (b == c) = false := by simpa using fun e => h (by simp [e])
    rw [Lib.indexByte, h1, iB_none c (x := l) (fun e => h (by simp [e]))]
    rfl
theorem iB_some (c : UInt8) (t : List UInt8) : ∀ {x : List UInt8}, c ∉ x → Lib.indexByte (x ++ c :: t) c = (x.length : Int)
  | [], _ => by simp [Lib.indexByte]
  | b :: l, h => by
    have h1 : (b == c) = false := by simpa using fun e => h (by simp [e])
    rw [List.cons_append, Lib.indexByte, h1, iB_some c t (x := l) (fun e => h (by simp [e]))]
    have h2 : (((l.length : Nat) : Int) == -1) = false := beq_eq_false_iff_ne.2 (by omega)
    rw [h2]
    simp

set_option maxHeartbeats 2000000 in
set_option maxRecDepth 100000 in
theorem slIndex_one (xs : List UInt8) (c : UInt8) (w : World) :
    Calls Tryz.prog 93 #[.string (str xs), .string ⟨#[c]⟩] w fun e w' => e = .returned (.int .i64 (Lib.indexByte xs c)) ∧ w' = w := by
  go_enter Tryz.func93, Tryz.ntmps93
  go_wp2_with (go_at_call 102; refine (slIndexByte_any _ _ _).mono ?_; rintro e w' ⟨rfl, rfl⟩)
  · have h : ([c] == xs) = true := by assumption
    go_ret
    refine ⟨?_, rfl⟩
    have e : xs = [c] := (beq_iff_eq.1 h).symm
    rw [e]
    simp [Lib.indexByte]
  · go_ret
    exact ⟨rfl, rfl⟩

set_option maxHeartbeats 2000000 in
set_option maxRecDepth 100000 in
theorem slCut_none (xs : List UInt8) (h : (47 : UInt8) ∉ xs) (w : World) :
    Calls Tryz.prog 72 #[.string (str xs), .string ⟨#[47]⟩] w fun e w' => e = .returned (.tuple #[.string (str xs), .string ⟨#[]⟩, .bool false]) ∧ w' = w := by
  have q := iB_none 47 h
  go_enter Tryz.func72, Tryz.ntmps72
  go_wp2_with (go_at_call 93; refine (slIndex_one _ _ _).mono ?_; rintro e w' ⟨rfl, rfl⟩; rw [q])
  go_ret3
  exact ⟨rfl, rfl⟩
set_option maxHeartbeats 2000000 in
set_option maxRecDepth 100000 in
theorem slCut_some (a b : List UInt8) (h : (47 : UInt8) ∉ a) (hs : a.length + b.length ≤ 1000000000000) (w : World) :
    Calls Tryz.prog 72 #[.string (str (a ++ 47 :: b)), .string ⟨#[47]⟩] w fun e w' => e = .returned (.tuple #[.string (str a), .string (str b), .bool true]) ∧ Below w.heap.size w w' := by
  have q := iB_some 47 b h
  obtain ⟨n, hn⟩ : ∃ n, a.length = n := ⟨_, rfl⟩
  obtain ⟨m, hm⟩ : ∃ m, b.length = m := ⟨_, rfl⟩
  have hsz : (str (a ++ 47 :: b)).size = n + (m + 1) := by rw [Lib.size_eq, str_list]; simp [hn, hm]
  have e1 := str_take (a ++ 47 :: b) n
  rw [List.take_append_of_le_length (by omega), List.take_of_length_le (by omega)] at e1
  have e2 := str_drop (a ++ 47 :: b) (n + 1) (n + (m + 1)) (by simp [hn, hm])
  rw [show (a ++ 47 :: b).drop (n + 1) = b by rw [← hn, List.drop_append]; simp] at e2
  rw [hn] at q hs
  rw [hm] at hs
  obtain ⟨s, hs'⟩ : ∃ s, str (a ++ 47 :: b) = s := ⟨_, rfl⟩
  have HI := hide fun W => slIndex_one (a ++ 47 :: b) 47 W
  rw [hs', q] at HI
  rw [hs'] at hsz e1 e2 ⊢
  clear q h hs' hn hm
  have c1 : (n : Int) ≤ (s.size : Int) := by omega
  have c2 : (n : Int) + 1 ≤ (s.size : Int) := by omega
  go_enter Tryz.func72, Tryz.ntmps72
  go_wp2_with (go_at_call 93; refine (HI.out _).mono ?_; rintro e w' ⟨rfl, rfl⟩)
  go_quiet (fail)
  go_wp2
  go_ret3
  exact ⟨rfl, below_drewN (Below.refl _ _) _⟩

theorem sCut_none (xs : List UInt8) (h : (47 : UInt8) ∉ xs) (w : World) :
    Calls Tryz.prog 52 #[.string (str xs), .string ⟨#[47]⟩] w fun e w' => e = .returned (.tuple #[.string (str xs), .string (str []), .bool false]) ∧ Below w.heap.size w w' := by
  go_enter Tryz.func52, Tryz.ntmps52
  go_wp2_with (go_at_call 72; refine (slCut_none _ h _).mono ?_; rintro e w' ⟨rfl, rfl⟩)
  go_ret3
  exact ⟨rfl, Below.refl _ _⟩
theorem sCut_some (a b : List UInt8) (h : (47 : UInt8) ∉ a) (hs : a.length + b.length ≤ 1000000000000) (w : World) :
    Calls Tryz.prog 52 #[.string (str (a ++ 47 :: b)), .string ⟨#[47]⟩] w fun e w' => e = .returned (.tuple #[.string (str a), .string (str b), .bool true]) ∧ Below w.heap.size w w' := by
  have H := hide fun W => slCut_some a b h hs W
  generalize str (a ++ 47 :: b) = s at *
  clear h hs
  go_enter Tryz.func52, Tryz.ntmps52
  go_wp2_with (go_at_call 72; refine (H.out _).mono ?_; rintro e w' ⟨rfl, b1⟩)
  go_ret3
  exact ⟨rfl, b1⟩

/-- Is the first sign c? -/
theorem slHasPrefix_any (c : UInt8) (xs : List UInt8) (w : World) :
    Calls Tryz.prog 74 #[.string (str xs), .string ⟨#[c]⟩] w fun e w' => e = .returned (.bool (decide (xs.head? = some c))) ∧ w' = w := by
  cases xs with
  | nil =>
    have hsz : (str []).size = 0 := rfl
    go_enter Tryz.func74, Tryz.ntmps74
    go_wp2
    go_ret
    exact ⟨rfl, rfl⟩
  | cons x xs =>
    have e1 := str_take (x :: xs) 1
    rw [List.take_succ_cons, List.take_zero] at e1
    have hsz : 1 ≤ (str (x :: xs)).size := by rw [Lib.size_eq, str_list]; simp
    obtain ⟨s, hs⟩ : ∃ s, str (x :: xs) = s := ⟨_, rfl⟩
    rw [hs] at e1 hsz ⊢
    clear hs
    have q : (1 : Int) ≤ (s.size : Int) := by omega
    have e2 : decide ((x :: xs).head? = some c) = (x == c) := by rw [List.head?_cons, Bool.eq_iff_iff]; simp
    rw [e2]
    go_enter Tryz.func74, Tryz.ntmps74
    go_wp2
    go_ret
    exact ⟨rfl, rfl⟩
theorem sHasPrefix_any (c : UInt8) (xs : List UInt8) (w : World) :
    Calls Tryz.prog 54 #[.string (str xs), .string ⟨#[c]⟩] w fun e w' => e = .returned (.bool (decide (xs.head? = some c))) ∧ w' = w := by
  go_enter Tryz.func54, Tryz.ntmps54
  go_wp2_with (go_at_call 74; refine (slHasPrefix_any c xs _).mono ?_; rintro e w' ⟨rfl, rfl⟩)
  go_ret
  exact ⟨rfl, rfl⟩

end Go.Proofs.YtfjafpbmgbnllaaGreat
