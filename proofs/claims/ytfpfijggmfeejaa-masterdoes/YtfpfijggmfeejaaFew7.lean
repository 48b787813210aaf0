/-
  What is proved here: layer 7's own 'few': a script that it lets on is short. No condition of its own.
-/
import Derived.Test.YtfpfijggmfeejaaOpen7
import Derived.LoopTactic
namespace Go.Proofs.Ytfpfijggmfeejaa
set_option linter.unusedVariables false
set_option linter.unusedSimpArgs false
open Go.RowKit

/-- What few answers. -/
def RetFew7 (len : Nat) (xs : Nat → Op7) (w : World) (e : Ending) (w' : World) : Prop := ∃ r : Bool, e = .returned (.bool r) ∧ w = w' ∧ (r = true → len ≤ 150 ∧ ∀ i, i < len → (xs i).r.vs.length ≤ 300 ∧ (xs i).pl ≤ 300 ∧ (xs i).now ≤ 1000000000)
set_option maxRecDepth 100000 in
theorem few7_any (B : Option Addr) (len cap : Nat) (xs : Nat → Op7) (w : World) (h : ScrP7 w B len xs) :
    Calls Try.prog 5 #[.slice B len cap] w (RetFew7 len xs w) := by
  by_cases hl : 150 < len
  · have q : (150 : Int) < (len : Int) := by omega
    clear h
    go_enter Try.func5, Try.ntmps5
    go_wp2
    go_ret
    exact ⟨false, rfl, rfl, fun h => by cases h⟩
  have q0 : ¬ (150 : Int) < (len : Int) := by omega
  have H := hide h
  clear h
  go_enter Try.func5, Try.ntmps5
  go_wp2_with fail
  go_loopw [3] (fun x wr => ∃ i : Nat, x = .int .i64 (i : Int) ∧ i ≤ len ∧ wr = w ∧ ∀ j, j < i → (xs j).r.vs.length ≤ 300 ∧ (xs j).pl ≤ 300 ∧ (xs j).now ≤ 1000000000) (fun x _ => len - (intOf x).toNat)
  case atStart => exact ⟨0, rfl, by omega, rfl, fun j hj => by omega⟩
  case round =>
    obtain ⟨i, rfl, hi, rfl, hall⟩ := hrel
    have HALL := hide hall
    clear hall
    by_cases hlt : i < len
    · have q : (i : Int) < (len : Int) := by omega
      obtain ⟨b, o, rfl, hbl, hc, _⟩ := H.out.at_ hlt
      have c1 : wr.cell? ⟨b, o + i * 12 + 1, none⟩ = some (.int .i64 (xs i).now) := hc 1 _ rfl
      have c6 : wr.cell? ⟨b, o + i * 12 + 6, none⟩ = some (.slice (xs i).A (xs i).r.vs.length (xs i).k) := hc 6 _ rfl
      have c10 : wr.cell? ⟨b, o + i * 12 + 10, none⟩ = some (.slice (xs i).P (xs i).pl (xs i).pk) := hc 10 _ rfl
      clear hc
      cases t1 : decide ((300 : Int) < ((xs i).r.vs.length : Int))
      · cases t2 : decide ((300 : Int) < ((xs i).pl : Int))
        · cases t3 : decide ((1000000000 : Int) < (xs i).now)
          · have hx : (xs i).r.vs.length ≤ 300 ∧ (xs i).pl ≤ 300 ∧ (xs i).now ≤ 1000000000 := by
              simp only [decide_eq_false_iff_not] at t1 t2 t3
              omega
            have HX := hide hx
            clear hx
            go_wp2
            refine ⟨⟨i + 1, by rw [Int.natCast_add]; rfl, by omega, (by first | rfl | trivial), fun j hj => ?_⟩, by simp only [intOf]; omega⟩
            by_cases hji : j < i
            · exact HALL.out j hji
            · obtain rfl : j = i := by omega
              exact HX.out
          · go_wp2
            go_ret
            exact ⟨false, rfl, rfl, fun h => by cases h⟩
        · go_wp2
          go_ret
          exact ⟨false, rfl, rfl, fun h => by cases h⟩
      · go_wp2
        go_ret
        exact ⟨false, rfl, rfl, fun h => by cases h⟩
    · obtain rfl : i = len := by omega
      have q : ¬ (i : Int) < (i : Int) := by omega
      go_wp2
      go_ret
      exact ⟨true, rfl, rfl, fun _ => ⟨by omega, HALL.out⟩⟩
end Go.Proofs.Ytfpfijggmfeejaa
