/-
  What is proved here: what maps.DeleteFunc with master's own closure, and master's endRests, leave of the map of rests, in whatever order its entries come. Condition: now is an int.
-/
import Derived.Test.YtnialjikpoembaaMs6
import Derived.Lib.SlMapFilter
import Derived.Maps.Ext
import Derived.Maps.RangeWalk
import Derived.Laws.IdiomRangeMap
import Derived.Deep.LoopGhost
import Derived.WalkKit
import Derived.Shelf.Abstract
namespace Go.Proofs.Ytnialjikpoembaa
set_option linter.unusedVariables false
set_option linter.unusedSimpArgs false
open Go.RowKit Go.Maps Go.Shelf

/-- Has the rest ended? -/
def restOver (now rest : Int) (_ : Lit) : DataW Unit → Bool
  | .lit (.int _ since) => decide (rest ≤ IntKind.i64.wrap (now - since))
  | _ => false
set_option maxRecDepth 100000 in
theorem clos_any (key : Value) (since now rest : Int) (bn bm g : Nat) (W : World) (h1 : W.cell? ⟨bn, 0, none⟩ = some (.int .i64 now)) (h2 : W.cell? ⟨bm, 0, none⟩ = some (.pointer (some ⟨g, 0, none⟩))) (h3 : W.cell? ⟨g, 2, none⟩ = some (.int .i64 rest)) :
    Calls Try.prog 48 (#[key, .int .i64 since] ++ #[.pointer (some ⟨bn, 0, none⟩), .pointer (some ⟨bm, 0, none⟩)]) W fun e w' => e = .returned (.bool (decide (rest ≤ IntKind.i64.wrap (now - since)))) ∧ W.grownBy w' none := by
  go_enter Try.func48, Try.ntmps48
  go_wp2_with fail
  refine wp_region_still_tail 8 (by kernel_rfl) (by kernel_rfl) ?_
  simp only [List.take_succ_cons, List.take_zero, List.drop_succ_cons, List.drop_zero]
  repeat still_step
  refine wpStill_nil ?_
  change wpList _ _ _ _ _ W.drew
  go_wp2
  go_ret
  exact ⟨rfl, ⟨rfl, rfl, rfl, Nat.le_refl _, fun _ _ _ => rfl⟩⟩

set_option maxHeartbeats 4000000 in
set_option maxRecDepth 100000 in
theorem delF_any (pd : Lit → DataW Unit → Bool) (cb : Array Value) (b n : Nat) (D : DataW Unit) (w : World) (hown : w.ownsMap Try.prog 3 (plainElem Try.prog 3) b n D)
    (hdel : ∀ (W : World) (x c : Int), w.grownBy W (some b) → Calls Try.prog 48 (#[.int .i64 x, .int .i64 c] ++ cb) W fun e w' => e = .returned (.bool (pd (.int .i64 x) (.lit (.int .i64 c)))) ∧ W.grownBy w' none) :
    Calls Try.prog 47 #[.map (some b), .func (.func 48) #[] cb] w fun e w' => e = .returned (.tuple #[]) ∧ w'.ownsMap Try.prog 3 (plainElem Try.prog 3) b n (Lib.deleteFuncD pd D) ∧ w.grownBy w' (some b) := by
  obtain ⟨es0, rfl, hap, hkeys⟩ := hown.entries int_keyed7
  have eg : ∀ args w, (callFunc 48 args).run Try.prog w = .ok (.enter 48 args) w := enters_of Try.func48 (by kernel_rfl) rfl
  have HD : Aside _ := hdel
  clear hdel
  go_enter Try.func47, Try.ntmps47
  go_wp2_with (first
    | (at_range; refine wpList_range_own _ rfl _ 70 rfl 3 3 int_keyed7 Try.underlying70 _ b n _ rfl hown ?_; intro w0 hrg0 hg0 hs0)
    | go_in)
  go_frame
  go_loopw [8] (fun _ wr => ∃ (left : Lit → Bool) (cnt : Nat), wr.ranges Try.prog 3 (plainElem Try.prog 3) b w.heap.size n (Fk pd es0 left) left cnt ∧ w.grownBy wr (some b))
    (fun _ wr => wr.rangeLeft b w.heap.size)
  case atStart => exact ⟨_, _, by rw [Fk_start hkeys]; exact hrg0, hg0.but _⟩
  case round =>
    obtain ⟨left, cnt, hrg, hgw⟩ := hrel
    go_wp2_with (first
      | (at_next; refine wpList_next_ranges_ii _ rfl _ rfl 3 3 .i64 .i64 int_keyed7 Try.underlying3 Try.underlying3 b w.heap.size n _ _ _ rfl hrg ?_ ?_)
      | go_in)
    · intro _ hl0
      go_wp2
      go_end0
      exact ⟨rfl, by rw [← Fk_end hl0]; exact hrg.owns, hgw⟩
    · intro x c w1 cnt1 hwx hwc hlx hat hrg1 hlt hg1 hs1 hen
      have hgw1 := hgw.andThen hg1 (fun j hj => by cases hj; exact Or.inl (Nat.le_refl _))
      have hc := HD.out w1 x c hgw1
      have hbl := hrg1.owns.lt
      have hrl := hrg1.lt
      cases hp : pd (.int .i64 x) (.lit (.int .i64 c)) <;> rw [hp] at hc
      · go_wp2_with (first
          | (go_at_fn 48; refine hc.mono ?_; rintro e w2 ⟨rfl, hg2⟩)
          | go_in)
        have hrg2 := hrg1.kept hg2 (by simp) (by simp)
        go_roundw
        case rel => exact ⟨_, cnt1, by rw [← Fk_stays hap (kl := .int .i64 x) trivial hlx hp hat]; exact hrg2, hgw1.andThen hg2 (fun j hj => by cases hj)⟩
        case measure => rw [hrg2.left_eq, hrg.left_eq]; exact hlt
      · go_wp2_with (first
          | (go_at_fn 48; refine hc.mono ?_; rintro e w2 ⟨rfl, hg2⟩; have hrg2 := hrg1.kept hg2 (by simp) (by simp))
          | (at_delete; refine wpList_delete_ranges _ rfl _ _ 70 3 rfl 3 int_keyed7 Try.underlying70 _ b w.heap.size n _ _ _ rfl hrg2 _ _ rfl (keyOf_int_mk Try.underlying3 hwx) ?_; intro w3 cnt3 hrg3 hle hturn; go_frame)
          | go_in)
        rw [strike_twice] at hrg3
        go_roundw
        case rel => exact ⟨_, cnt3, by rw [← Fk_struck hap (kl := .int .i64 x) trivial hlx hp hat]; exact hrg3, (hgw1.andThen hg2 (fun j hj => by cases hj)).andThen hturn.grown (fun j hj => by cases hj; exact Or.inr rfl)⟩
        case measure => rw [hrg3.left_eq, hrg.left_eq]; omega

end Go.Proofs.Ytnialjikpoembaa
