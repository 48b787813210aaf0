/-
  What is proved here: the law's own 'few': what it says of a script. No condition of its own.
-/
import Derived.Test.YtohiblldhdglgaaScript4
import Derived.Test.YtohiblldhdglgaaRef4h
namespace Go.Proofs.Ytohiblldhdglgaa
set_option linter.unusedVariables false
set_option linter.unusedSimpArgs false
open Go.RowKit

/-- What 'few' answers. -/
def RetFew (len : Nat) (xs : Nat → SOp) (w : World) (e : Ending) (w' : World) : Prop := ∃ r : Bool, e = .returned (.bool r) ∧ w = w' ∧ (r = true → len ≤ 100 ∧ ∀ i, i < len → (xs i).n ≤ 300)

set_option maxHeartbeats 1000000 in
theorem few4_any (B : Option Addr) (len cap : Nat) (xs : Nat → SOp) (w : World) (h : ScrP w B len xs) :
    Calls Try.prog 7 #[.slice B len cap] w (RetFew len xs w) := by
  have HS := hide h
  clear h
  cases t1 : decide (100 < (len : Int))
  case true =>
    go_enter Try.func7, Try.ntmps7
    go_wp2
    go_ret
    exact ⟨false, rfl, rfl, by simp⟩
  have hlen : len ≤ 100 := by simp at t1; omega
  go_enter Try.func7, Try.ntmps7
  go_wp2
  go_loop [3] (fun x => ∃ i : Nat, i ≤ len ∧ x = .int .i64 (i : Int) ∧ ∀ j, j < i → (xs j).n ≤ 300) (fun x => len - (intOf x).toNat)
  case atStart => exact ⟨0, by omega, rfl, fun j hj => by omega⟩
  case round =>
    obtain ⟨i, hi, rfl, hall⟩ := hrel
    have HA := hide hall
    clear hall
    by_cases hlt : i < len
    · obtain ⟨b, o, rfl, hb, hc, hr⟩ := HS.out.at_ hlt
      have c7 : w.cell? ⟨b, o + i * 11 + 4 + 3, none⟩ = some (.slice (xs i).A (xs i).n (xs i).k) := hc 7 _ rfl
      have q : (i : Int) < (len : Int) := by omega
      clear hc hr hb
      cases t2 : decide (300 < ((xs i).n : Int))
      · go_wp2_with fail
        go_round
        case rel =>
          refine ⟨i + 1, by omega, by go_num, fun j hj => ?_⟩
          by_cases e : j = i
          · subst e; simp at t2; omega
          · exact HA.out j (by omega)
        case measure => simp [intOf]; omega
      · go_wp2
        go_ret
        exact ⟨false, rfl, rfl, by simp⟩
    · obtain rfl : i = len := by omega
      have q : ¬ (i : Int) < (i : Int) := by omega
      go_wp2
      go_ret
      exact ⟨true, rfl, rfl, fun _ => ⟨hlen, HA.out⟩⟩

end Go.Proofs.Ytohiblldhdglgaa
