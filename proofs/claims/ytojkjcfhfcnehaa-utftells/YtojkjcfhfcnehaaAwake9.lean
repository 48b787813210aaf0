/-
  What is proved here: the chapter's examples of layer 9, asked by the law's own function 'awake', come out true in every world. No condition.
-/
import Derived.Test.YtojkjcfhfcnehaaUt3
import Derived.Test.YtojkjcfhfcnehaaRefA
namespace Go.Proofs.Ytojkjcfhfcnehaa
set_option linter.unusedVariables false
set_option linter.unusedSimpArgs false
open Go.RowKit

theorem pts_ex1 : ptsU [97, 195, 164, 226, 130, 172] = some [97, 228, 8364] := by decide
theorem pts_ex2 : ptsU [192, 128] = none := by decide
theorem pts_ex3 : ptsU [0] = none := by decide
theorem pts_ex4 : ptsU [] = some [] := by decide
theorem txt_ex : txtU [128512] = some [240, 159, 152, 128] := by decide

theorem utPoints_ok (xs : List UInt8) (ps : List Nat) (h : ptsU xs = some ps) (s : ByteArray) (hs : s.data.toList = xs) (w : World) : Calls Try.prog 7 #[.string s] w fun e w' => ∃ A c, e = .returned (.tuple #[.slice A ps.length c, .int .i64 0]) ∧ ps.length ≤ c ∧ Rd w' A ps.length (iv (nts ps)) ∧ Below w.heap.size w w' := by
  refine (utPoints_any s w).mono ?_
  rw [hs]
  rintro e w' (⟨h1, _⟩ | ⟨qs, A, c, h1, h2, h3, h4, h5⟩)
  · rw [h] at h1; cases h1
  · rw [h] at h1
    injection h1 with h1
    subst h1
    exact ⟨A, c, h2, h3, h4, h5⟩
theorem utPoints_no (xs : List UInt8) (h : ptsU xs = none) (s : ByteArray) (hs : s.data.toList = xs) (w : World) : Calls Try.prog 7 #[.string s] w fun e w' => e = .returned (.tuple #[.slice none 0 0, .int .i64 90]) ∧ Below w.heap.size w w' := by
  refine (utPoints_any s w).mono ?_
  rw [hs]
  rintro e w' (⟨_, h1, h2⟩ | ⟨qs, A, c, h1, _⟩)
  · exact ⟨h1, h2⟩
  · rw [h] at h1; cases h1
theorem utText_ok (ps : List Int) (xs : List UInt8) (h : txtU ps = some xs) (A : Option Addr) (l c : Nat) (w : World) (hr : Rd w A l (iv ps)) (hl : l ≤ maxLen) : Calls Try.prog 12 #[.slice A l c] w fun e w' => e = .returned (.tuple #[.string (str xs), .int .i64 0]) ∧ Below w.heap.size w w' := by
  refine (utText_any A l c ps w hr hl).mono ?_
  rintro e w' ⟨⟨h1, _⟩ | ⟨ys, h1, h2⟩, h3⟩
  · rw [h] at h1; cases h1
  · rw [h] at h1
    injection h1 with h1
    subst h1
    exact ⟨h2, h3⟩
theorem utText_no (ps : List Int) (h : txtU ps = none) (A : Option Addr) (l c : Nat) (w : World) (hr : Rd w A l (iv ps)) (hl : l ≤ maxLen) : Calls Try.prog 12 #[.slice A l c] w fun e w' => e = .returned (.tuple #[.string (str []), .int .i64 1]) ∧ Below w.heap.size w w' := by
  refine (utText_any A l c ps w hr hl).mono ?_
  rintro e w' ⟨⟨_, h1⟩ | ⟨ys, h1, _⟩, h3⟩
  · exact ⟨h1, h3⟩
  · rw [h] at h1; cases h1
theorem utIs_of (b : Bool) (xs : List UInt8) (h : (ptsU xs).isSome = b) (s : ByteArray) (hs : s.data.toList = xs) (w : World) : Calls Try.prog 9 #[.string s] w fun e w' => e = .returned (.bool b) ∧ Below w.heap.size w w' := by
  have := utIs_any s w
  rw [hs, h] at this
  exact this

set_option maxHeartbeats 1000000 in
set_option maxRecDepth 100000 in
theorem awake_any (w : World) : Calls Try.prog 10 #[] w fun e w' => e = .returned (.bool true) ∧ Below w.heap.size w w' := by
  go_enter Try.func10, Try.ntmps10
  go_wp2_with fail
  refine (utPoints_ok _ _ pts_ex1 _ rfl w).mono ?_
  rintro e w1 ⟨C, c, rfl, hc, r1, b1⟩
  have Hr1 := hide r1
  have Hb1 := hide b1
  clear r1 b1
  go_wp2_with fail
  refine (utText_ok _ _ txt_ex _ 1 1 _ (Blk.new w1 3 [.int .i64 128512]).rd (by decide)).mono ?_
  rintro e w2 ⟨rfl, b2⟩
  rw [World.size_alloc] at b2
  have Hb2 := hide (((Below.refl w1.heap.size w1).alloc (Nat.le_refl _) (.cells #[Value.int .i64 128512] 3)).trans (b2.mono (Nat.le_succ _)))
  clear b2
  have Hr2 := hide (Hr1.out.keep Hb2.out)
  have s2 := below_on Hb1.out Hb2.out
  have S2 := hide s2
  clear s2
  go_wp2_with fail
  refine (ints_any C _ 3 3 c 3 _ [97, 228, 8364] _ (Hr2.out.keep ((Below.refl _ _).alloc (Nat.le_refl _) _)) (Blk.new w2 3 [.int .i64 97, .int .i64 228, .int .i64 8364]).rd (by omega) (by omega)).mono ?_
  rintro e w3 ⟨rfl, q3, rfl⟩
  have S3 := hide (below_drewN (S2.out.alloc S2.out.size (.cells (arr [.int .i64 97, .int .i64 228, .int .i64 8364]) 3)) q3)
  rw [decide_eq_true (show nts [97, 228, 8364] = [97, 228, 8364] from rfl)]
  have hD : ∃ W3, (w2.alloc (.cells (arr [.int .i64 97, .int .i64 228, .int .i64 8364]) 3)).drewN q3 = W3 := ⟨_, rfl⟩
  obtain ⟨W3, hW3⟩ := hD
  rw [hW3] at S3
  go_wp2_with fail
  refine (utIs_of false [192, 128] (by rw [pts_ex2]; rfl) _ rfl W3).mono ?_
  rintro e w4 ⟨rfl, b4⟩
  have S4 := hide (below_on S3.out b4)
  clear b4
  go_wp2_with fail
  refine (utIs_of false [0] (by rw [pts_ex3]; rfl) _ rfl w4).mono ?_
  rintro e w5 ⟨rfl, b5⟩
  have S5 := hide (below_on S4.out b5)
  clear b5
  go_wp2_with fail
  refine (utIs_of true [] (by rw [pts_ex4]; rfl) _ rfl w5).mono ?_
  rintro e w6 ⟨rfl, b6⟩
  have S6 := hide (below_on S5.out b6)
  clear b6
  go_wp2_with fail
  go_ret
  exact ⟨rfl, S6.out⟩

end Go.Proofs.Ytojkjcfhfcnehaa
