/-
  What is proved here: what pdu's Bytes and Parse return, of any request and any bytes (up to some thousand).
-/
import Derived.Test.YtemlfhoejelgbaaPdu10
namespace Go.Proofs.Ytemlfhoejelgbaa
set_option linter.unusedVariables false
set_option linter.unusedSimpArgs false
open Go.RowKit

/-- A slice that reads and an error's number are handed back. -/
def RetSlE (n : Nat) (vs : List Value) (code : Int) (w : World) (e : Ending) (w' : World) : Prop := ∃ C k, e = .returned (.tuple #[.slice C n k, .int .i64 code]) ∧ n ≤ k ∧ Rd w' C n vs ∧ Below w.heap.size w w'
/-- A request and an error's number are handed back. -/
def RetRqE (r : Rq) (code : Int) (w : World) (e : Ending) (w' : World) : Prop := ∃ C m k, e = .returned (.tuple #[.agg #[.int .i64 r.f, .int .i64 r.a, .int .i64 r.c, .slice C m k, .int .i64 r.t, .int .i64 r.an, .int .i64 r.o], .int .i64 code]) ∧ m ≤ k ∧ Rd w' C m (iv r.vs) ∧ Below w.heap.size w w'

theorem pbytes_no (f a c t an o : Int) (A : Option Addr) (n k : Nat) (vs : List Int) (w : World) (h : Rd w A n (iv vs)) (hn : n ≤ 1000000) (hm : mayB f a c vs t an o = false) :
    Calls Try.prog 12 #[.agg #[.int .i64 f, .int .i64 a, .int .i64 c, .slice A n k, .int .i64 t, .int .i64 an, .int .i64 o]] w (RetSlE 0 [] 1 w) := by
  have HM := hide (fun W (b : Below w.heap.size w W) => mayBe_any f a c t an o A n k vs W (h.keep b) hn)
  rw [hm] at HM
  clear h hm
  go_enter Try.func12, Try.ntmps12
  go_wp2_with fail
  refine (HM.out _ ((Below.refl _ _).alloc (Nat.le_refl _) _)).mono ?_
  rintro e w1 ⟨rfl, b1⟩
  have b2 := ((Below.refl _ _).alloc (Nat.le_refl _) _).trans (b1.mono (by simp))
  go_wp2
  go_ret2
  exact ⟨none, 0, rfl, Nat.le_refl _, Rd.nil _ _, b2⟩

theorem pbytes_ok (f a c t an o : Int) (A : Option Addr) (n k : Nat) (vs : List Int) (w : World) (h : Rd w A n (iv vs)) (hn : n ≤ 1000000) (hm : mayB f a c vs t an o = true) :
    Calls Try.prog 12 #[.agg #[.int .i64 f, .int .i64 a, .int .i64 c, .slice A n k, .int .i64 t, .int .i64 an, .int .i64 o]] w (RetSlE (layL f a c vs t an o).length (bv (layL f a c vs t an o)) 0 w) := by
  have HM := hide (fun W (b : Below w.heap.size w W) => mayBe_any f a c t an o A n k vs W (h.keep b) hn)
  have HL := hide (fun W (b : Below w.heap.size w W) => lay_any f a c t an o A n k vs W (h.keep b) hm)
  rw [hm] at HM
  clear h hm
  generalize layL f a c vs t an o = L at *
  generalize L.length = nL at *
  go_enter Try.func12, Try.ntmps12
  go_wp2_with fail
  refine (HM.out _ ((Below.refl _ _).alloc (Nat.le_refl _) _)).mono ?_
  rintro e w1 ⟨rfl, b1⟩
  have b2 : Below w.heap.size w w1 := ((Below.refl _ _).alloc (Nat.le_refl _) _).trans (b1.mono (by simp))
  obtain ⟨k0, k1, k2, k3, k4, k5, k6⟩ := ((Blk.new w 24 [.int .i64 f, .int .i64 a, .int .i64 c, .slice A n k, .int .i64 t, .int .i64 an, .int .i64 o]).keep b1).seven
  have B2 := hide b2
  clear b1 b2
  go_wp2_with fail
  refine (HL.out _ B2.out).mono ?_
  rintro e w2 ⟨C, kC, rfl, o2, b3⟩
  have B3 := hide (below_on B2.out b3)
  have O2 := hide o2
  clear o2 b3
  go_wp2
  go_ret2
  exact ⟨C, kC, rfl, own_cap O2.out, own_rd O2.out, B3.out⟩

/-- bytes.Equal. -/
theorem equal_any (A B : Option Addr) (n m c d : Nat) (xs ys : List UInt8) (w : World) (h : Rd w A n (bv xs)) (h2 : Rd w B m (bv ys)) :
    Calls Try.prog 35 #[.slice A n c, .slice B m d] w fun e w' => e = .returned (.bool (decide (xs = ys))) ∧ w = w' := by
  have hs1 := rdStr h c
  have hs2 := rdStr h2 d
  have He : Hid ((xs == ys) = decide (xs = ys)) := by
    show _ = _
    rw [Bool.eq_iff_iff]
    simp
  clear h h2
  generalize decide (xs = ys) = b at *
  go_enter Try.func35, Try.ntmps35
  go_wp2
  go_ret
  exact ⟨by rw [← He.out]; simp, rfl⟩

theorem gs_length (xs : List UInt8) : (gs xs).vs.length ≤ 8 * xs.length + 1 := by
  have hw : ∀ n ys, ys.length ≤ n → (wordsL ys).length ≤ n := by
    intro n ys hn
    rw [wordsL_range _ _ (Nat.le_refl _), wordsTo, List.length_map, List.length_range]
    omega
  have hb : ∀ ys n, (bitsL ys n).length ≤ 8 * ys.length := by
    intro ys n
    unfold bitsL
    split
    · rw [unpackL_length]; omega
    · simp
  unfold gs
  repeat' split
  all_goals simp only [List.length_cons, List.length_nil]
  all_goals first | omega | skip
  · have := hb (xs.drop 6) (wAt xs 3).toNat
    simp only [List.length_drop] at this
    omega
  · have := hw xs.length (xs.drop 6) (by simp)
    omega
  · have := hw xs.length (xs.drop 10) (by simp)
    omega

theorem parse_short (xs : List UInt8) (h : xs.length < 5 ∨ 253 < xs.length) : parseL xs = none := by
  unfold parseL
  rw [if_neg]
  rintro ⟨h1, h2⟩
  have := lay_bounds (show mayB (gs xs).f (gs xs).a (gs xs).c (gs xs).vs (gs xs).t (gs xs).an (gs xs).o = true from h1)
  rw [show layL (gs xs).f (gs xs).a (gs xs).c (gs xs).vs (gs xs).t (gs xs).an (gs xs).o = xs from h2] at this
  omega

/-- Parse: too short or too long. -/
theorem parse_no (A : Option Addr) (l c : Nat) (xs : List UInt8) (w : World) (hl : l = 0 ∨ 253 < l) :
    Calls Try.prog 17 #[.slice A l c] w (RetRqE Rq.none 4 w) := by
  have hB := hide (Blk.new w 24 [.int .i64 0, .int .i64 0, .int .i64 0, .slice none 0 0, .int .i64 0, .int .i64 0, .int .i64 0])
  rcases hl with rfl | hl
  · go_enter Try.func17, Try.ntmps17
    go_wp2
    (try simp only [Exit.inBlock, Exit.then])
    refine bodyPost_ret (results_cell_tmp rfl rfl hB.out Try.underlying24 rfl (by kernel_rfl)) rfl ?_
    exact ⟨none, 0, 0, rfl, Nat.le_refl _, Rd.nil _ _, (Below.refl _ _).alloc (Nat.le_refl _) _⟩
  · have q0 : ((l : Int) == 0) = false := by rw [beq_eq_false_iff_ne]; omega
    have q1 : decide (253 < (l : Int)) = true := by simp; omega
    go_enter Try.func17, Try.ntmps17
    go_wp2
    (try simp only [Exit.inBlock, Exit.then])
    refine bodyPost_ret (results_cell_tmp rfl rfl hB.out Try.underlying24 rfl (by kernel_rfl)) rfl ?_
    exact ⟨none, 0, 0, rfl, Nat.le_refl _, Rd.nil _ _, (Below.refl _ _).alloc (Nat.le_refl _) _⟩

end Go.Proofs.Ytemlfhoejelgbaa
