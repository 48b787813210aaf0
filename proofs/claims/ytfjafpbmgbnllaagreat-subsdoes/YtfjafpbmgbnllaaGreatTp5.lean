/-
  What is proved here: what isText, mayStand and Name of package topic return, and what its function levels hands on: the levels of a text, each with whether it is the last. Condition: texts of at most 10^12 bytes.
-/
import Derived.Test.YtfjafpbmgbnllaaGreatTp4
import Derived.RangeFuncNested
import Derived.RangeFuncBound
import Derived.RangeFuncCalls
import Derived.RangeFuncLeaves
import Derived.RangeFuncBox
import Derived.Shelf.Abstract
import Derived.WalkKit
import Derived.OwnWalkIn
import Derived.TacticsInMore
import Derived.LoopNIn
import Derived.LoopIn
namespace Go.Proofs.YtfjafpbmgbnllaaGreat
set_option linter.unusedVariables false
set_option linter.unusedSimpArgs false
open Go.RowKit Go.Shelf

theorem isText_any (xs : List UInt8) (w : World) : Calls Tryz.prog 36 #[.string (str xs)] w fun e w' => e = .returned (.bool (textL xs)) ∧ Below w.heap.size w w' := by
  have H := hide fun W => utIs_any (str xs) W
  rw [str_list] at H
  cases xs with
  | nil =>
    go_enter Tryz.func36, Tryz.ntmps36
    go_wp2_with (go_at_call 50; refine (H.out _).mono ?_; rintro e w' ⟨rfl, b1⟩)
    go_ret
    exact ⟨rfl, Below.refl _ _⟩
  | cons x xs =>
    have q : ((x :: xs) == ([] : List UInt8)) = false := rfl
    unfold textL
    rw [List.isEmpty_cons]
    generalize (ptsU (x :: xs)).isSome = B at *
    go_enter Tryz.func36, Tryz.ntmps36
    go_wp2_with (go_at_call 50; refine (H.out _).mono ?_; rintro e w' ⟨rfl, b1⟩)
    go_ret
    exact ⟨by cases B <;> rfl, b1⟩

theorem mayStand_any (l : List UInt8) (last : Bool) (hs : l.length ≤ 1000000000000) (w : World) :
    Calls Tryz.prog 38 #[.string (str l), .bool last] w fun e w' => e = .returned (.bool (mayS l last)) ∧ Below w.heap.size w w' := by
  have H := hide fun W => hasWild_any l hs W
  unfold mayS
  by_cases h1 : l = [43]
  · subst h1
    rw [if_pos rfl]
    go_enter Tryz.func38, Tryz.ntmps38
    go_wp2_with (go_at_call 40; refine (H.out _).mono ?_; rintro e w' ⟨rfl, b1⟩)
    go_ret
    exact ⟨rfl, Below.refl _ _⟩
  rw [if_neg h1]
  by_cases h2 : l = [35]
  · subst h2
    rw [if_pos rfl]
    go_enter Tryz.func38, Tryz.ntmps38
    go_wp2_with (go_at_call 40; refine (H.out _).mono ?_; rintro e w' ⟨rfl, b1⟩)
    go_ret
    exact ⟨rfl, Below.refl _ _⟩
  rw [if_neg h2]
  have q1 : (l == [43]) = false := beq_eq_false_iff_ne.2 h1
  have q2 : (l == [35]) = false := beq_eq_false_iff_ne.2 h2
  clear h1 h2
  go_enter Tryz.func38, Tryz.ntmps38
  go_wp2_with (go_at_call 40; refine (H.out _).mono ?_; rintro e w' ⟨rfl, b1⟩)
  go_ret
  exact ⟨rfl, b1⟩

/-- Error or none. -/
def errN (ok : Bool) (code : Int) : Int := if ok then 0 else code
theorem name_any (xs : List UInt8) (hs : xs.length ≤ 1000000000000) (w : World) :
    Calls Tryz.prog 24 #[.string (str xs)] w fun e w' => e = .returned (.int .i64 (errN (nameL xs) 120)) ∧ Below w.heap.size w w' := by
  have H1 := hide fun W => isText_any xs W
  have H2 := hide fun W => hasWild_any xs hs W
  unfold nameL
  cases ht : textL xs with
  | false =>
    rw [ht] at H1
    clear ht
    go_enter Tryz.func24, Tryz.ntmps24
    go_wp2_with (go_at_call 36; refine (H1.out _).mono ?_; rintro e w' ⟨rfl, b1⟩)
    go_ret
    exact ⟨rfl, b1⟩
  | true =>
    rw [ht] at H1
    cases hw : wildL xs with
    | false =>
      rw [hw] at H2
      clear ht hw
      go_enter Tryz.func24, Tryz.ntmps24
      go_wp2_with (first
        | (go_at_call 36; refine (H1.out _).mono ?_; rintro e w1 ⟨rfl, b1⟩)
        | (go_at_call 40; refine (H2.out _).mono ?_; rintro e w2 ⟨rfl, b2⟩))
      go_ret
      exact ⟨rfl, below_on b1 b2⟩
    | true =>
      rw [hw] at H2
      clear ht hw
      go_enter Tryz.func24, Tryz.ntmps24
      go_wp2_with (first
        | (go_at_call 36; refine (H1.out _).mono ?_; rintro e w1 ⟨rfl, b1⟩)
        | (go_at_call 40; refine (H2.out _).mono ?_; rintro e w2 ⟨rfl, b2⟩))
      go_ret
      exact ⟨rfl, below_on b1 b2⟩

attribute [local go_sem] Oper.semAt_some

theorem lvls_len : ∀ (x : List UInt8) (l : List UInt8), l ∈ lvls x → l.length ≤ x.length
  | [], l, h => by simp [lvls] at h; simp [h]
  | c :: cs, l, h => by
    have ih := lvls_len cs
    obtain ⟨m, ms, e⟩ := lvls_cons cs
    rw [lvls, e] at h
    rw [e] at ih
    rw [List.length_cons]
    split at h
    · rcases List.mem_cons.1 h with rfl | h
      · simp
      · exact Nat.le_succ_of_le (ih l h)
    · rcases List.mem_cons.1 h with rfl | h
      · have := ih m (by simp)
        rw [List.length_cons]; omega
      · exact Nat.le_succ_of_le (ih l (by simp [h]))
theorem lasts_mem : ∀ (ls : List (List UInt8)) (p : List UInt8 × Bool), p ∈ lasts ls → p.1 ∈ ls
  | [], p, h => by cases h
  | [l], p, h => by rcases List.mem_singleton.1 h with rfl; simp
  | l :: m :: ls, p, h => by
    rcases List.mem_cons.1 h with rfl | h
    · simp
    · exact List.mem_cons_of_mem _ (lasts_mem (m :: ls) p h)
/-- At most 10^12 bytes of a level: a loop's body must do with any level, be it one of the text's or not. -/
def clip (l : List UInt8) : List UInt8 := l.take 1000000000000
theorem clip_len (l : List UInt8) : (clip l).length ≤ 1000000000000 := by unfold clip; rw [List.length_take]; omega
theorem clip_id {l : List UInt8} (h : l.length ≤ 1000000000000) : clip l = l := List.take_of_length_le h

/-- How much of a text is left to part. -/
def lvM : Value → Value → Nat
  | .string s, .bool b => if b then s.size + 1 else 0
  | _, _ => 0
theorem below_grown {w w' : World} (b : Below w.heap.size w w') : w.grownBy w' none := ⟨b.os, b.tape, b.output, b.size, fun k hk _ => b.block k hk⟩

set_option maxRecDepth 100000 in
set_option maxHeartbeats 2000000 in
theorem levels1_in (k : Nat) (hk : 1 ≤ k) (l Bs n₀ : Nat) (xs : List UInt8) (hs : xs.length ≤ 1000000000000) (J Jx : List (List UInt8 × Bool) → World → Prop)
    (hY : ∀ pre x W, J pre W → pre.length < (lasts (lvls xs)).length → YieldAt Fence.wide (k - 1) Tryz.prog l #[.string (str (clip x.1)), .bool x.2] W fun e W' =>
      (e = .returned (.bool true) ∧ J (pre ++ [x]) W' ∧ Below n₀ W W') ∨ (e = .returned (.bool false) ∧ Jx (pre ++ [x]) W'))
    (W : World) (hJa : AbidesFrom W.heap.size J) (hBs : W.cell? ⟨Bs, 0, none⟩ = some (.string (str xs))) (h0 : J [] W) :
    CallsIn Fence.wide k Tryz.prog 51 #[.func (.yield l) #[] #[], .pointer (some ⟨Bs, 0, none⟩)] W fun e W' => (∃ v, e = .returned v) ∧
      ((∃ ys, ys = lasts (lvls xs) ∧ J ys W') ∨ (∃ pre, pre <+: lasts (lvls xs) ∧ Jx pre W')) := by
  refine callsIn_of_wp Tryz.func51 rfl trivial ?_ rfl
  simp only [Tryz.ntmps51, List.size_toArray, List.length_cons, List.length_nil, Nat.reduceAdd, Nat.reduceSub, Array.replicate_succ, Array.replicate_zero, List.push_toArray, List.append_toArray, List.nil_append, List.cons_append]
  gi_wp2
  gi_loopw [3, 4] (fun p q wr => ∃ (pre : List (List UInt8 × Bool)) (left : List UInt8) (more : Bool), p = .string (str left) ∧ q = .bool more ∧ lasts (lvls xs) = pre ++ (if more then lasts (lvls left) else []) ∧ left.length ≤ xs.length ∧ J pre wr) (fun p q _ => lvM p q)
  case atStart => exact ⟨[], xs, true, rfl, rfl, rfl, Nat.le_refl _, h0⟩
  case round =>
    obtain ⟨pre, left, more, rfl, rfl, hx, hl, hJ⟩ := hrel
    cases more with
    | false =>
      have hx' : lasts (lvls xs) = pre := by simpa using hx
      have Hx := hide hx'
      have HJ := hide hJ
      clear hx hx' hJ hY hJa hBs
      gi_wp2
      go_end0
      exact ⟨⟨_, rfl⟩, .inl ⟨_, Hx.out.symm, HJ.out⟩⟩
    | true =>
      replace hx : lasts (lvls xs) = pre ++ lasts (lvls left) := hx
      rcases cut_or left with hc | ⟨a, b, rfl, hc⟩
      · have HC := hide fun V => sCut_none left hc V
        rw [lvls_none hc] at hx
        have hlen : pre.length < (lasts (lvls xs)).length := by rw [hx]; simp [lasts]
        have Hx := hide hx
        have HJ := hide hJ
        have e0 := clip_id (l := left) (by omega)
        have HY := hide fun V hV => hY pre (left, true) V hV hlen
        simp only [e0] at HY
        have HA := hide hJa
        clear hx hJ hY hJa hBs hc hlen e0
        gi_wp2_with (refine ⟨trivial, ?_⟩; gi_at_call 52; refine (callsIn_wide.2 (HC.out _)).mono ?_; rintro e w1 ⟨rfl, b1⟩; obtain ⟨fn, tmps, assign, body, hy, hR⟩ := HY.out w1 (HA.out _ _ _ none HJ.out (below_grown b1) (fun _ e => by cases e)); (try dsimp only at hy))
        refine hR.mono ?_
        rintro e W3 (⟨rfl, hJ3, hk3⟩ | ⟨rfl, hJx3⟩)
        · gi_wp2
          go_roundw
          case rel => exact ⟨pre ++ [(left, true)], [], false, rfl, rfl, by rw [Hx.out]; simp [lasts], by first | omega | (simp; done) | (simp at hl; omega), hJ3⟩
          case measure => first | (simp [lvM, Lib.size_eq, str_list]; done) | (simp [lvM, Lib.size_eq, str_list]; omega)
        · gi_wp2
          refine bodyPost_ret (results_none rfl _ _ _) rfl ?_
          exact ⟨⟨_, rfl⟩, .inr ⟨_, ⟨[], by rw [Hx.out]; simp [lasts]⟩, hJx3⟩⟩
      · have hl2 : a.length + b.length + 1 ≤ xs.length := by simp at hl; omega
        have HC := hide fun V => sCut_some a b hc (by omega) V
        obtain ⟨m, ms, hm⟩ := lvls_cons b
        rw [lvls_cut hc, lasts_cons _ (by rw [hm]; simp)] at hx
        have hlen : pre.length < (lasts (lvls xs)).length := by rw [hx]; simp
        have Hx := hide hx
        have HJ := hide hJ
        have e0 := clip_id (l := a) (by omega)
        have HY := hide fun V hV => hY pre (a, false) V hV hlen
        simp only [e0] at HY
        have HA := hide hJa
        clear hx hJ hY hJa hBs hc hlen hm e0
        gi_wp2_with (refine ⟨trivial, ?_⟩; gi_at_call 52; refine (callsIn_wide.2 (HC.out _)).mono ?_; rintro e w1 ⟨rfl, b1⟩; obtain ⟨fn, tmps, assign, body, hy, hR⟩ := HY.out w1 (HA.out _ _ _ none HJ.out (below_grown b1) (fun _ e => by cases e)); (try dsimp only at hy))
        refine hR.mono ?_
        rintro e W3 (⟨rfl, hJ3, hk3⟩ | ⟨rfl, hJx3⟩)
        · gi_wp2
          go_roundw
          case rel => exact ⟨pre ++ [(a, false)], b, true, rfl, rfl, by rw [Hx.out]; simp [lasts], by first | omega | (simp; done) | (simp at hl; omega), hJ3⟩
          case measure => first | (simp [lvM, Lib.size_eq, str_list]; done) | (simp [lvM, Lib.size_eq, str_list]; omega)
        · gi_wp2
          refine bodyPost_ret (results_none rfl _ _ _) rfl ?_
          exact ⟨⟨_, rfl⟩, .inr ⟨_, ⟨(lasts (lvls b)), by rw [Hx.out]; simp [lasts]⟩, hJx3⟩⟩

theorem levels_stops (k : Nat) (hk : 1 ≤ k) (Bs n₀ : Nat) (xs : List UInt8) (hs : xs.length ≤ 1000000000000) (w : World) (hBs : Bs < w.heap.size) (hc : w.cell? ⟨Bs, 0, none⟩ = some (.string (str xs))) :
    SeqStopsK Fence.wide k Tryz.prog 51 #[.pointer (some ⟨Bs, 0, none⟩)] (fun x : List UInt8 × Bool => #[Value.string (str (clip x.1)), .bool x.2]) (Below n₀) (fun ys => ys = lasts (lvls xs)) (fun pre => pre <+: lasts (lvls xs)) (lasts (lvls xs)).length w := fun l J Jx W hW hJa _ hY h0 =>
  levels1_in k hk l Bs n₀ xs hs J Jx hY W hJa ((hW.cell (p := ⟨Bs, 0, none⟩) hBs).trans hc) h0

/-- levels(s): the text is boxed; the function value holds the box. -/
theorem levels_in (k : Nat) (s : ByteArray) (w : World) :
    CallsIn Fence.wide k Tryz.prog 37 #[.string s] w fun e w' => e = .returned (.func (.func 51) #[] #[.pointer (some ⟨w.heap.size, 0, none⟩)]) ∧ w' = w.alloc (.cells #[.string s] 9) := by
  refine callsIn_of_wp Tryz.func37 rfl trivial ?_ rfl
  simp only [Tryz.ntmps37, List.size_toArray, List.length_cons, List.length_nil, Nat.reduceAdd, Nat.reduceSub, Array.replicate_succ, Array.replicate_zero, List.push_toArray, List.append_toArray, List.nil_append, List.cons_append]
  gi_wp2
  go_ret
  exact ⟨rfl, rfl⟩

end Go.Proofs.YtfjafpbmgbnllaaGreat
