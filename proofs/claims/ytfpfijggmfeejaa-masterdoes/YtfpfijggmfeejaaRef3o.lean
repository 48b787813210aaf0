/-
  What is proved here: what the document's own AnswerParse returns, of a request that may be and of any bytes up to 600.
-/
import Derived.Test.YtfpfijggmfeejaaRef3n
namespace Go.Proofs.Ytfpfijggmfeejaa
set_option linter.unusedVariables false
set_option linter.unusedSimpArgs false
open Go.RowKit

theorem refAnsP_short (f a c t an o : Int) (A B : Option Addr) (n k l d : Nat) (w : World) (hl : l < 2) :
    Calls Try.prog 37 #[.agg #[.int .i64 f, .int .i64 a, .int .i64 c, .slice A n k, .int .i64 t, .int .i64 an, .int .i64 o], .slice B l d] w (RetAnB An.none false w) := by
  have q2 : decide ((l : Int) < 2) = true := by simp; omega
  have HW := hide (three_boxes w [.int .i64 f, .int .i64 a, .int .i64 c, .slice A n k, .int .i64 t, .int .i64 an, .int .i64 o] [.slice none 0 0, .int .i64 0] [.slice none 0 0, .int .i64 0] 37 61 61 _ rfl)
  go_enter Try.func37, Try.ntmps37
  go_wp2
  (try simp only [Exit.inBlock, Exit.then])
  refine bodyPost_ret (results_cell_tmp rfl rfl HW.out.2.1 Try.underlying61 rfl (by kernel_rfl)) rfl ?_
  exact ⟨none, 0, 0, rfl, Nat.le_refl _, Rd.nil _ _, HW.out.2.2.2.1⟩

theorem refAnsP_any (f a c t an o : Int) (A B : Option Addr) (n k l d : Nat) (vs : List Int) (xs : List UInt8) (w : World) (h1 : Rd w A n (iv vs)) (h2 : Rd w B l (bv xs)) (hd : l ≤ d) (hl6 : l ≤ 600) (hM : mayB f a c vs t an o = true) :
    Calls Try.prog 37 #[.agg #[.int .i64 f, .int .i64 a, .int .i64 c, .slice A n k, .int .i64 t, .int .i64 an, .int .i64 o], .slice B l d] w (RetAnB ((ansParseL ⟨f, a, c, vs, t, an, o⟩ xs).getD An.none) (ansParseL ⟨f, a, c, vs, t, an, o⟩ xs).isSome w) := by
  have hxl : xs.length = l := by rw [← bv_length]; exact h2.1
  by_cases hs : l < 2
  · rw [ansParse_short ⟨f, a, c, vs, t, an, o⟩ hM xs (by omega)]
    exact refAnsP_short f a c t an o A B n k l d w hs
  have hl0 : 2 ≤ l := by omega
  have hf := may_func hM
  obtain ⟨b, o', rfl, hbl, hcc⟩ := h2.at_ (k := 0) (by omega)
  have x0 := hcc 0 _ (bv_get xs 0 (by omega))
  rw [Nat.add_zero] at x0
  have x1 := hcc 1 _ (bv_get xs 1 (by omega))
  have hx : xs[0]?.getD 0 = xs[0] := by rw [List.getElem?_eq_getElem (by omega)]; rfl
  have hx' : xs[1]?.getD 0 = xs[1] := by rw [List.getElem?_eq_getElem (by omega)]; rfl
  have hlt := xs[0].toNat_lt
  have hlt1 := xs[1].toNat_lt
  by_cases h128 : ((xs[0].toNat : Nat) : Int) = f + 128
  · have hx128 : (((xs[0]?.getD 0).toNat : Nat) : Int) = f + 128 := by rw [hx]; exact h128
    by_cases hp0 : xs[1].toNat = 0
    · have hz : (((xs[1]?.getD 0).toNat : Nat) : Int) = 0 := by rw [hx', hp0]; rfl
      rw [h128] at x0
      rw [hp0] at x1
      exact refAnsP_zero f a c t an o A b o' n k l d vs xs w hl0 hbl x0 x1 (by omega) (by omega) (ansParse_zero f a c vs t an o xs hM hx128 hz)
    · have hZ : ansParseL ⟨f, a, c, vs, t, an, o⟩ xs = if ansMayB f c ((xs[1].toNat : Nat) : Int) [] = true ∧ ansL f a c vs t an o ((xs[1].toNat : Nat) : Int) [] = xs then some ⟨[], ((xs[1].toNat : Nat) : Int)⟩ else none := by
        by_cases hl2 : xs.length = 2
        · refine ansParse_eq ⟨f, a, c, vs, t, an, o⟩ xs [] _ ?_
          unfold ag
          rw [if_pos ⟨hl2, hx128⟩, hx']
        · rw [ansParse_other f a c vs t an o xs hM hx128 hl2, if_neg]
          rintro ⟨_, h4⟩
          apply hl2
          rw [← h4]
          have : ¬ ((xs[1].toNat : Nat) : Int) = 0 := by omega
          rw [ansL, if_neg this]
          rfl
      exact refAnsP_code f a c t an o _ A b o' n k l d vs xs w h1 h2 hd hl0 hl6 x0 (by omega) (by omega) hM _ h128 x1 (by omega) hlt1 hZ
  · have hn2 : ¬ (xs.length = 2 ∧ (((xs[0]?.getD 0).toNat : Nat) : Int) = f + 128) := by rw [hx]; exact fun hh => h128 hh.2
    by_cases f1 : f = 1
    · subst f1
      exact refAnsP_1 a c t an o _ A b o' n k l d vs xs w h1 h2 hd hl0 hl6 x0 (by omega) (by omega) hM h128 (by unfold ag; rw [if_neg hn2, if_pos (Or.inl rfl)])
    by_cases f2 : f = 2
    · subst f2
      exact refAnsP_2 a c t an o _ A b o' n k l d vs xs w h1 h2 hd hl0 hl6 x0 (by omega) (by omega) hM h128 (by unfold ag; rw [if_neg hn2, if_pos (Or.inr rfl)])
    have n12 : ¬ (f = 1 ∨ f = 2) := by omega
    by_cases f3 : f = 3
    · subst f3
      exact refAnsP_3 a c t an o _ A b o' n k l d vs xs w h1 h2 hd hl0 hl6 x0 (by omega) (by omega) hM h128 (by unfold ag; rw [if_neg hn2, if_neg n12, if_pos (Or.inl rfl)])
    by_cases f4 : f = 4
    · subst f4
      exact refAnsP_4 a c t an o _ A b o' n k l d vs xs w h1 h2 hd hl0 hl6 x0 (by omega) (by omega) hM h128 (by unfold ag; rw [if_neg hn2, if_neg n12, if_pos (Or.inr (Or.inl rfl))])
    by_cases f23 : f = 23
    · subst f23
      exact refAnsP_23 a c t an o _ A b o' n k l d vs xs w h1 h2 hd hl0 hl6 x0 (by omega) (by omega) hM h128 (by unfold ag; rw [if_neg hn2, if_neg n12, if_pos (Or.inr (Or.inr rfl))])
    have n3 : ¬ (f = 3 ∨ f = 4 ∨ f = 23) := by omega
    exact refAnsP_else f a c t an o _ A b o' n k l d vs xs w h1 h2 hd hl0 hl6 x0 (by omega) (by omega) hM h128 (by unfold ag; rw [if_neg hn2, if_neg n12, if_neg n3]) (ne_beq f1) (ne_beq f2) (ne_beq f3) (ne_beq f4) (ne_beq f23)

end Go.Proofs.Ytfpfijggmfeejaa
