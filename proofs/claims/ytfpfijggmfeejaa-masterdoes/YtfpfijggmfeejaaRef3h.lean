/-
  What is proved here: the document's own Number of a tail of bytes, and its read (words, as many as there are).
-/
import Derived.Test.YtfpfijggmfeejaaPdu8
import Derived.Test.YtfpfijggmfeejaaRef3c
import Derived.Test.YtfpfijggmfeejaaRef3f
namespace Go.Proofs.Ytfpfijggmfeejaa
set_option linter.unusedVariables false
set_option linter.unusedSimpArgs false
open Go.RowKit

theorem refNum (A : Option Addr) (l c i : Nat) (xs : List UInt8) (w : World) (h : Rd w A l (bv xs)) (hc : l ≤ c) (hi : i + 2 ≤ l) :
    Calls Try.prog 74 #[.slice (cutA A i c) (l - i) (c - i)] w fun e w' => e = .returned (.int .i64 (wAt xs i)) ∧ ∃ nq, w' = w.drewN nq := by
  have hxl : xs.length = l := by rw [← bv_length]; exact h.1
  have ht := h.tail i c (by omega) hc
  rw [bv_drop] at ht
  have hx : (xs.drop i)[0]? = some (xs[i]'(by omega)) := by rw [List.getElem?_drop, Nat.add_zero, List.getElem?_eq_getElem]
  have hy : (xs.drop i)[1]? = some (xs[i + 1]'(by omega)) := by rw [List.getElem?_drop, List.getElem?_eq_getElem]
  have := number_any (cutA A i c) (l - i) (c - i) (xs.drop i) w ht (by omega) _ _ hx hy
  rw [wAt_in xs i _ _ (List.getElem?_eq_getElem (by omega)) (List.getElem?_eq_getElem (by omega))]
  exact this

theorem refRead_any (A : Option Addr) (l c : Nat) (xs : List UInt8) (w : World) (h : Rd w A l (bv xs)) (hc : l ≤ c) (hl : l ≤ 100000) (m : Nat) (hm : m = l / 2) :
    Calls Try.prog 56 #[.slice A l c] w (RetOwn 3 m (iv (wordsL xs)) w) := by
  have hxl : xs.length = l := by rw [← bv_length]; exact h.1
  have e0 := wordsL_drop xs 0
  rw [List.drop_zero, hxl, Nat.sub_zero, ← hm] at e0
  rw [e0]
  clear e0
  go_enter Try.func56, Try.ntmps56
  go_wp2
  go_loopw [3, 4] (fun v i wr => ∃ (j : Nat) (C : Option Addr) (k : Nat), j ≤ m ∧ i = .int .i64 ((2 * j : Nat) : Int) ∧ v = .slice C j k ∧ wr.ownsRow w.heap.size 3 1 (.slice C j k) j (iv (wordsTo xs 0 j)) ∧ Below w.heap.size w wr) (fun _ i _ => l + 200 - (intOf i).toNat)
  case atStart => exact ⟨0, none, 0, by omega, rfl, rfl, World.ownsRow_nil _ _ _ _, Below.refl _ _⟩
  case round =>
    obtain ⟨j, C, k, hj, rfl, rfl, hown, hbel⟩ := hrel
    by_cases hlt : j < m
    · have q1 : decide (2 * (j : Int) + 1 < l) = true := by simp; omega
      have hsl := fun W => run_slTail (P := Try.prog) 38 5 Try.underlying38 u8_size A l c (2 * (j : Int)) (2 * j) (by omega) (by omega) W
      have HW := hide (refNum A l c (2 * j) xs wr (h.keep hbel) hc (by omega))
      have Hs := hide (wordsTo_succ xs 0 j)
      rw [Nat.zero_add] at Hs
      have Hown := hide hown
      have Hbel := hide hbel
      clear hown hbel h
      generalize wAt xs (2 * j) = z at *
      go_wp2_with fail
      refine HW.out.mono ?_
      rintro e w1 ⟨rfl, nq, rfl⟩
      have ho : (wr.drewN nq).ownsRow w.heap.size 3 1 (.slice C j k) j (iv (wordsTo xs 0 j)) := Hown.out
      have hb : Below w.heap.size w (wr.drewN nq) := below_drewN Hbel.out nq
      have Ho := hide (ho.alloc (.cells #[.int .i64 z] 3))
      have Hb := hide (hb.alloc hb.size (.cells #[.int .i64 z] 3))
      clear ho hb Hown Hbel HW
      go_wp2_with (at_builtin; refine wpList_app rfl (.tmp 12) (.tmp 17) 35 rfl 3 _ _ Try.underlying35 int_info rfl w.heap.size C j k _ rfl Ho.out _ 1 1 [_] rfl (rd_one _ _ _) (by intro u hu; simp at hu; subst hu; rfl) (by unfold maxLen; omega) (by omega) Hb.out.size ?_; intro A3 c3 w3 o3 g3 b3; rw [show iv (wordsTo xs 0 j) ++ [Value.int .i64 z] = iv (wordsTo xs 0 (j + 1)) from by rw [Hs.out, iv_append]; rfl] at o3)
      exact ⟨⟨j + 1, A3, c3, by omega, by go_num, rfl, o3, Hb.out.trans b3⟩, by simp [intOf]; omega⟩
    · obtain rfl : j = m := by omega
      have q1 : decide (2 * (j : Int) + 1 < l) = false := by simp; omega
      have Hown := hide hown
      have Hbel := hide hbel
      clear hown hbel h
      go_wp2
      go_ret
      exact ⟨C, k, rfl, Hown.out, Hbel.out⟩

/-- A request and a bool are handed back. -/
def RetRqB (r : Rq) (ok : Bool) (w : World) (e : Ending) (w' : World) : Prop := ∃ C m k, e = .returned (.tuple #[.agg #[.int .i64 r.f, .int .i64 r.a, .int .i64 r.c, .slice C m k, .int .i64 r.t, .int .i64 r.an, .int .i64 r.o], .bool ok]) ∧ m ≤ k ∧ Rd w' C m (iv r.vs) ∧ Below w.heap.size w w'
theorem parse_none_of (xs : List UInt8) (h : (gs xs).may = true → (gs xs).lay = xs → False) : parseL xs = none := by
  unfold parseL
  rw [if_neg (fun hh => h hh.1 hh.2)]
/-- How long bytes are that are a request. -/
theorem gs_size (xs : List UInt8) (f a c : Int) (vs : List Int) (t an o : Int) (hg : gs xs = ⟨f, a, c, vs, t, an, o⟩) (h1 : (gs xs).may = true) (h2 : (gs xs).lay = xs) : mayB f a c vs t an o = true ∧ xs.length = sizeOfRq f vs.length := by
  rw [hg] at h1 h2
  have hm : mayB f a c vs t an o = true := h1
  refine ⟨hm, ?_⟩
  have := lay_length hm
  rw [show layL f a c vs t an o = xs from h2] at this
  exact this

end Go.Proofs.Ytfpfijggmfeejaa
