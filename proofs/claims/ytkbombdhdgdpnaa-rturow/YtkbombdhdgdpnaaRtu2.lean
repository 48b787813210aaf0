/-
  What is proved here: what a line of package rtu does (New, silence, end, add, Wait, Feed). Conditions: a line that lies in memory; ticks below 2^62.
-/
import Derived.Test.YtkbombdhdgdpnaaInfo
import Derived.Test.YtkbombdhdgdpnaaMem5
import Derived.WalkMore
import Derived.Laws.NewBlocks
namespace Go.Proofs.Ytkbombdhdgdpnaa
set_option linter.unusedVariables false
set_option linter.unusedSimpArgs false
open Go.RowKit

/-- The blocks that a line writes: its own, and that of what came. -/
def lnS (g : Nat) (A : Option Addr) : Nat → Prop := fun i => i = g ∨ ∃ o, A = some ⟨i, o, none⟩
/-- A line lies in memory. -/
structure LnA (w : World) (g : Nat) (A : Option Addr) (k : Nat) (came : List UInt8) (last gap tick : Int) : Prop where
  str : Blk w g 50 [.slice A came.length k, .int .i64 last, .int .i64 gap, .int .i64 tick]
  own : w.ownsRow 0 5 1 (.slice A came.length k) came.length (bv came)
  ap : ∀ b o, A = some ⟨b, o, none⟩ → b ≠ g
  len : came.length ≤ 257

section
variable {w w' : World} {g : Nat} {A : Option Addr} {k : Nat} {came : List UInt8} {last gap tick : Int}
theorem LnA.off (h : LnA w g A k came last gap tick) (S : Nat → Prop) (hg : ¬ S g) (hA : Off S A) (b : But S w w') : LnA w' g A k came last gap tick := ⟨h.str.but b hg, own_but h.own b hA, h.ap, h.len⟩
theorem LnA.keep (h : LnA w g A k came last gap tick) (b : Below w.heap.size w w') : LnA w' g A k came last gap tick := h.off (fun _ => False) (fun e => e) (fun _ _ _ e => e) (But.ofBelow b _)
theorem LnA.lt (h : LnA w g A k came last gap tick) (i : Nat) (hi : lnS g A i) : i < w.heap.size := by
  rcases hi with rfl | ⟨o, e⟩
  · exact h.str.lt
  · exact own_lt h.own i o e
theorem LnA.cells (h : LnA w g A k came last gap tick) : w.cell? ⟨g, 0, none⟩ = some (.slice A came.length k) ∧ w.cell? ⟨g, 1, none⟩ = some (.int .i64 last) ∧ w.cell? ⟨g, 2, none⟩ = some (.int .i64 gap) ∧ w.cell? ⟨g, 3, none⟩ = some (.int .i64 tick) :=
  ⟨h.str.cell 0, h.str.cell 1, h.str.cell 2, h.str.cell 3⟩
end

/-! ### What a line does -/
/-- What is told of what came, when it is at its end. -/
def endL (came : List UInt8) : List (List UInt8) := if came.length = 0 ∨ 256 < came.length then [] else [came]
def toldL (came : List UInt8) (last gap now : Int) : List (List UInt8) := if now - last < gap then [] else endL came
def leftL (came : List UInt8) (last gap now : Int) : List UInt8 := if now - last < gap then came else []
def addL (came bs : List UInt8) : List UInt8 := (came ++ bs).take 257
def lastL (last now : Int) (bs : List UInt8) : Int := if bs.length = 0 then last else now

theorem silence_any (g : Nat) (last now : Int) (w : World) (c1 : w.cell? ⟨g, 1, none⟩ = some (.int .i64 last)) (h0 : 0 ≤ last) (h1 : 0 ≤ now) (h2 : last ≤ 4611686018427387904) (h3 : now ≤ 4611686018427387904) :
    Calls Try.prog 22 #[.pointer (some ⟨g, 0, none⟩), .int .i64 now] w fun e w' => e = .returned (.int .i64 (now - last)) ∧ w = w' := by
  go_enter Try.func22, Try.ntmps22
  go_wp2
  go_ret
  exact ⟨rfl, rfl⟩

/-- end: what came is told, or dropped; nothing is there any more. -/
def RetEnd (g : Nat) (A : Option Addr) (k : Nat) (came : List UInt8) (last gap tick : Int) (w : World) (e : Ending) (w' : World) : Prop :=
  ∃ O ok rs, e = .returned (.slice O rs.length ok) ∧ RRd w' O rs.length rs ∧ rs.map RowE.xs = endL came ∧ (∀ r ∈ rs, r.A = A) ∧ (rs = [] → O = none) ∧ NewAt w O ∧ LnA w' g none 0 [] last gap tick ∧ But (lnS g A) w w'

theorem LnA.ended {w : World} {g : Nat} {A : Option Addr} {k : Nat} {came : List UInt8} {last gap tick : Int} (h : LnA w g A k came last gap tick) : LnA (w.setCell ⟨g, 0, none⟩ (.slice none 0 0)) g none 0 [] last gap tick :=
  ⟨h.str.set 0 _, World.ownsRow_nil _ _ _ _, (fun _ _ e => by cases e), by simp⟩

theorem end_any (g : Nat) (A : Option Addr) (k : Nat) (came : List UInt8) (last gap tick : Int) (w : World) (h : LnA w g A k came last gap tick) :
    Calls Try.prog 23 #[.pointer (some ⟨g, 0, none⟩)] w (RetEnd g A k came last gap tick w) := by
  obtain ⟨c0, c1, c2, c3⟩ := h.cells
  have f0 := h.str.frozen 0
  have hl := h.len
  have HE := hide h.ended
  have HB : Hid (But (lnS g A) w (w.setCell ⟨g, 0, none⟩ (.slice none 0 0))) := But.setCell w _ (Or.inl rfl)
  have HR : Hid (Rd (w.setCell ⟨g, 0, none⟩ (.slice none 0 0)) A came.length (bv came)) := by
    have hb : But (fun i => i = g) w (w.setCell ⟨g, 0, none⟩ (.slice none 0 0)) := But.setCell w _ rfl
    exact (own_rd h.own).but hb (fun b o e => h.ap b o e)
  clear h
  by_cases hz : came.length = 0
  · have e0 : came = [] := List.eq_nil_of_length_eq_zero hz
    subst e0
    have q : ((([] : List UInt8).length : Int) == 0) = true := rfl
    go_enter Try.func23, Try.ntmps23
    go_wp2
    go_ret
    exact ⟨none, 0, [], rfl, RRd.nil _ _, rfl, by simp, fun _ => rfl, NewAt.nil _, HE.out, HB.out⟩
  by_cases h256 : 256 < came.length
  · have He : Hid (endL came = []) := by show _ = _; unfold endL; rw [if_pos (Or.inr h256)]
    generalize came.length = n at *
    have q : ((n : Int) == 0) = false := by rw [beq_eq_false_iff_ne]; omega
    have q2 : (256 : Int) < (n : Int) := by omega
    go_enter Try.func23, Try.ntmps23
    go_wp2
    go_ret
    exact ⟨none, 0, [], rfl, RRd.nil _ _, by rw [He.out]; rfl, by simp, fun _ => rfl, NewAt.nil _, HE.out, HB.out⟩
  · have He : Hid (endL came = [came]) := by show _ = _; unfold endL; rw [if_neg (by omega)]
    have Hn : Hid ((RowE.mk A k came).v = .slice A came.length k) := rfl
    have HR' : Hid ((RowE.mk A k came).is (w.setCell ⟨g, 0, none⟩ (.slice none 0 0))) := HR.out
    have q : ((came.length : Int) == 0) = false := by rw [beq_eq_false_iff_ne]; omega
    have q2 : ¬ (256 : Int) < (came.length : Int) := by omega
    go_enter Try.func23, Try.ntmps23
    go_wp2
    go_ret
    have b1 : Below (w.setCell ⟨g, 0, none⟩ (.slice none 0 0)).heap.size (w.setCell ⟨g, 0, none⟩ (.slice none 0 0)) ((w.setCell ⟨g, 0, none⟩ (.slice none 0 0)).alloc (.cells #[(RowE.mk A k came).v] 22)) := (Below.refl _ _).alloc (Nat.le_refl _) _
    have r1 := RRd.one 22 _ HR'.out
    rw [show (w.setCell ⟨g, 0, none⟩ (.slice none 0 0)).heap.size = w.heap.size by simp [World.setCell]] at r1
    refine ⟨_, 1, [⟨A, k, came⟩], rfl, r1, by rw [He.out]; rfl, by simp, (fun e => by cases e), ?_, HE.out.keep b1, HB.out.on b1⟩
    intro b o e
    injection e with e
    injection e with e1 _ _
    exact Nat.le_of_eq e1

/-- add: what came, and no more than tells whether it is too much. -/
def RetAdd (g : Nat) (A : Option Addr) (k : Nat) (came : List UInt8) (last gap tick now : Int) (bs : List UInt8) (w : World) (w' : World) : Prop :=
  ∃ A' k', LnA w' g A' k' (addL came bs) (lastL last now bs) gap tick ∧ (A' = A ∨ NewAt w A') ∧ But (lnS g A) w w'


theorem RetAdd.mk {g : Nat} {A : Option Addr} {k : Nat} {came : List UInt8} {last gap tick now : Int} {bs : List UInt8} {w w3 : World} {n j k3 : Nat} {A3 : Option Addr} (hA : addL came bs = came ++ bs.take j) (hL : lastL last now bs = now) (hn : came.length = n) (hj : (bs.take j).length = j) (jn : n + j ≤ 257)
    (ap : ∀ b o, A = some ⟨b, o, none⟩ → b ≠ g) (hg : g < w.heap.size) (s3 : Blk w3 g 50 [.slice A came.length k, .int .i64 last, .int .i64 gap, .int .i64 tick]) (o3 : w3.ownsRow 0 5 1 (.slice A3 (n + j) k3) (n + j) (bv came ++ bv (bs.take j)))
    (b3 : But (fun i => ∃ o, A = some ⟨i, o, none⟩) w w3) (h3 : A3 = A ∨ NewAt w A3) : RetAdd g A k came last gap tick now bs w ((w3.setCell ⟨g, 0, none⟩ (.slice A3 (n + j) k3)).setCell ⟨g, 1, none⟩ (.int .i64 now)) := by
  have ap3 : ∀ b o, A3 = some ⟨b, o, none⟩ → b ≠ g := by
    intro b o e
    rcases h3 with rfl | h3
    · exact ap b o e
    · have := h3 b o e
      omega
  have hlen : (came ++ bs.take j).length = n + j := by rw [List.length_append, hn, hj]
  refine ⟨A3, k3, ?_, h3, ?_⟩
  · rw [hA, hL]
    refine ⟨?_, ?_, ap3, by omega⟩
    · rw [hlen]
      exact (s3.set 0 _).set 1 _
    · rw [hlen, bv_append]
      have b4 : But (fun i => i = g) w3 ((w3.setCell ⟨g, 0, none⟩ (.slice A3 (n + j) k3)).setCell ⟨g, 1, none⟩ (.int .i64 now)) := (But.setCell (S := fun i => i = g) w3 _ rfl).setCell' _ rfl
      exact own_but o3 b4 ap3
  · exact ((b3.wide (S' := lnS g A) (fun _ e => Or.inr e)).setCell' _ (Or.inl rfl)).setCell' _ (Or.inl rfl)

set_option maxHeartbeats 1000000 in
theorem add5_any (g : Nat) (A : Option Addr) (k : Nat) (came : List UInt8) (last gap tick now : Int) (B : Option Addr) (m d : Nat) (bs : List UInt8) (w : World) (h : LnA w g A k came last gap tick) (hr : Rd w B m (bv bs)) (hd : m ≤ d) (hm : m ≤ 100000) :
    Calls Try.prog 21 #[.pointer (some ⟨g, 0, none⟩), .int .i64 now, .slice B m d] w fun e w' => e = .returned (.tuple #[]) ∧ RetAdd g A k came last gap tick now bs w w' := by
  have hbl : bs.length = m := by rw [← bv_length]; exact hr.1
  have hl := h.len
  by_cases hz : m = 0
  · subst hz
    have e0 : bs = [] := List.eq_nil_of_length_eq_zero hbl
    subst e0
    have HR : Hid (RetAdd g A k came last gap tick now [] w w) := by
      refine ⟨A, k, ?_, Or.inl rfl, But.refl _ _⟩
      have e1 : addL came [] = came := by unfold addL; rw [List.append_nil, List.take_of_length_le hl]
      rw [e1]
      exact h
    clear h hr hd hm hbl
    go_enter Try.func21, Try.ntmps21
    go_wp2
    refine bodyPost_ret (results_none rfl _ _ _) rfl ?_
    exact ⟨rfl, HR.out⟩
  have q : ((m : Int) == 0) = false := by rw [beq_eq_false_iff_ne]; omega
  obtain ⟨c0, c1, c2, c3⟩ := h.cells
  obtain ⟨n, hn⟩ : ∃ n, came.length = n := ⟨_, rfl⟩
  rw [hn] at c0 hl
  obtain ⟨j, hj, hjm⟩ : ∃ j : Nat, j = min m (257 - n) ∧ j ≤ m := ⟨_, rfl, Nat.min_le_left _ _⟩
  have hsl := fun W => run_slTo (P := Try.prog) 22 5 Try.underlying22 u8_size B m d (j : Int) j rfl (by omega) W
  have own := h.own
  rw [hn] at own
  have Hown := hide own
  have Hrd := hide (hr.upto j d hjm hd)
  have HA : Hid (addL came bs = came ++ bs.take j) := by
    show _ = _
    unfold addL
    rw [List.take_append, List.take_of_length_le (by omega), hn, hj, ← hbl]
    by_cases hc : bs.length ≤ 257 - n
    · rw [Nat.min_eq_left hc, List.take_of_length_le hc, List.take_of_length_le (Nat.le_refl _)]
    · rw [Nat.min_eq_right (by omega)]
  have HL : Hid (lastL last now bs = now) := by show _ = _; unfold lastL; rw [if_neg (by omega)]
  have f0 := h.str.frozen
  have Hap := hide h.ap
  have Hstr := hide h.str
  have Hn := hide hn
  have Hbl := hide hbl
  have w1 : IntKind.i64.wrap (257 - (n : Int)) = 257 - (n : Int) := by rw [IntKind.wrap_i64]; omega
  have jn : n + j ≤ 257 := by omega
  clear h hr own hn hbl
  by_cases hmin : 257 - n < m
  · have Hj := hide (show j = 257 - n by omega)
    have q1 : (257 : Int) - (n : Int) < (m : Int) := by omega
    have q2 : (257 : Int) - (n : Int) = (j : Int) := by omega
    have qm : (if j < m then (j : Int) else (m : Int)) = (j : Int) := by rw [if_pos (by omega)]
    clear hj
    go_enter Try.func21, Try.ntmps21
    go_wp2
    refine wp_region_held_drew (S := fun _ => True) (by kernel_rfl) ?_ (fun hHeld => ?_)
    · trivial
    refine wpAnyH_take (i := 0) (oi := { dst := some 16, op := _, type := _, pos := _, after := _, guard := _ }) (v := ?v1x1) rfl (by kernel_rfl) (by kernel_rfl) (by kernel_rfl) (fun _ _ _ h => h) (Or.inl ⟨by rfl, ?hy1x1⟩) hHeld ?rest1x1
    case hy1x1 => (intro w hSw; go_simp <;> with_reducible rfl)
    try simp only [Act.put, List.setIfInBounds_toArray, List.set_cons_zero, List.set_cons_succ]
    refine wpAnyH_take (i := 1) (oi := { dst := some 17, op := _, type := _, pos := _, after := _, guard := _ }) (v := ?v1x2) rfl (by kernel_rfl) (by kernel_rfl) (by kernel_rfl) (fun _ _ _ h => h) (Or.inl ⟨by rfl, ?hy1x2⟩) hHeld ?rest1x2
    case hy1x2 => (intro w hSw; go_simp <;> with_reducible rfl)
    try simp only [Act.put, List.setIfInBounds_toArray, List.set_cons_zero, List.set_cons_succ]
    refine wpAnyH_take (i := 2) (oi := { dst := some 18, op := _, type := _, pos := _, after := _, guard := _ }) (v := ?v1x3) rfl (by kernel_rfl) (by kernel_rfl) (by kernel_rfl) (fun _ _ _ h => h) (Or.inl ⟨by rfl, ?hy1x3⟩) hHeld ?rest1x3
    case hy1x3 => (intro w hSw; go_simp <;> with_reducible rfl)
    try simp only [Act.put, List.setIfInBounds_toArray, List.set_cons_zero, List.set_cons_succ]
    refine wpAnyH_take (i := 3) (oi := { dst := some 19, op := _, type := _, pos := _, after := _, guard := _ }) (v := ?v1x4) rfl (by kernel_rfl) (by kernel_rfl) (by kernel_rfl) (fun _ _ _ h => h) (Or.inl ⟨by rfl, ?hy1x4⟩) hHeld ?rest1x4
    case hy1x4 => (intro w hSw; go_simp <;> with_reducible rfl)
    try simp only [Act.put, List.setIfInBounds_toArray, List.set_cons_zero, List.set_cons_succ]
    refine wpAnyH_take (i := 5) (oi := { dst := some 21, op := _, type := _, pos := _, after := _, guard := _ }) (v := ?v1x5) rfl (by kernel_rfl) (by kernel_rfl) (by kernel_rfl) (fun _ _ _ h => h) (Or.inl ⟨by rfl, ?hy1x5⟩) hHeld ?rest1x5
    case hy1x5 => (intro w hSw; go_simp <;> with_reducible rfl)
    try simp only [Act.put, List.setIfInBounds_toArray, List.set_cons_zero, List.set_cons_succ]
    refine wpAnyH_take (i := 6) (oi := { dst := some 22, op := _, type := _, pos := _, after := _, guard := _ }) (v := ?v1x6) rfl (by kernel_rfl) (by kernel_rfl) (by kernel_rfl) (fun _ _ _ h => h) (Or.inl ⟨by rfl, ?hy1x6⟩) hHeld ?rest1x6
    case hy1x6 => (intro w hSw; go_simp <;> with_reducible rfl)
    try simp only [Act.put, List.setIfInBounds_toArray, List.set_cons_zero, List.set_cons_succ]
    refine wpAnyH_take (i := 7) (oi := { dst := some 23, op := _, type := _, pos := _, after := _, guard := _ }) (v := ?v1x7) rfl (by kernel_rfl) (by kernel_rfl) (by kernel_rfl) (fun _ _ _ h => h) (Or.inl ⟨by rfl, ?hy1x7⟩) hHeld ?rest1x7
    case hy1x7 => (intro w hSw; go_simp <;> with_reducible rfl)
    try simp only [Act.put, List.setIfInBounds_toArray, List.set_cons_zero, List.set_cons_succ]
    refine wpAnyH_take (i := 8) (oi := { dst := some 24, op := _, type := _, pos := _, after := _, guard := _ }) (v := ?v1x8) rfl (by kernel_rfl) (by kernel_rfl) (by kernel_rfl) (fun _ _ _ h => h) (Or.inl ⟨by rfl, ?hy1x8⟩) hHeld ?rest1x8
    case hy1x8 => (intro w hSw; go_simp <;> with_reducible rfl)
    try simp only [Act.put, List.setIfInBounds_toArray, List.set_cons_zero, List.set_cons_succ]
    refine wpAnyH_take (i := 9) (oi := { dst := some 25, op := _, type := _, pos := _, after := _, guard := _ }) (v := ?v1x9) rfl (by kernel_rfl) (by kernel_rfl) (by kernel_rfl) (fun _ _ _ h => h) (Or.inl ⟨by rfl, ?hy1x9⟩) hHeld ?rest1x9
    case hy1x9 => (intro w hSw; go_simp <;> with_reducible rfl)
    try simp only [Act.put, List.setIfInBounds_toArray, List.set_cons_zero, List.set_cons_succ]
    refine wpAnyH_take (i := 10) (oi := { dst := some 26, op := _, type := _, pos := _, after := _, guard := _ }) (v := ?v1x10) rfl (by kernel_rfl) (by kernel_rfl) (by kernel_rfl) (fun _ _ _ h => h) (Or.inl ⟨by rfl, ?hy1x10⟩) hHeld ?rest1x10
    case hy1x10 => (intro w hSw; go_simp <;> with_reducible rfl)
    try simp only [Act.put, List.setIfInBounds_toArray, List.set_cons_zero, List.set_cons_succ]
    refine wpAnyH_ready (rs := [4]) (by kernel_rfl) (by simp) (AllReadyH.cons (o := { dst := some 20, op := _, type := _, pos := _, after := _, guard := _ }) rfl (fun K hK => ?_) AllReadyH.nil)
    go_simp
    go_wp2_with fail
    refine hK.out _ _ ?_ (fun hHeld => ?_)
    · trivial
    clear hK K
    try simp only [Act.put, List.setIfInBounds_toArray, List.set_cons_zero, List.set_cons_succ]
    refine wpAnyH_ready (rs := [11]) (by kernel_rfl) (by simp) (AllReadyH.cons (o := { dst := some 27, op := _, type := _, pos := _, after := _, guard := _ }) rfl (fun K hK => ?_) AllReadyH.nil)
    rw [if_pos (by rfl)]
    refine op_app2 (.tmp 20) (.tmp 26) 22 rfl 5 _ _ Try.underlying22 u8_info rfl 0 A n k (bv came) rfl Hown.out B j d (bv (bs.take j)) rfl Hrd.out (bv_one _) (by unfold maxLen; omega) (by omega) (Nat.zero_le _) ?_
    intro A3 k3 w3 o3 b3 h3
    replace b3 := But.after (w := w) ((Below.refl _ _).drew) b3
    have s3 := Hstr.out.but b3 (by rintro ⟨o', e'⟩; exact Hap.out _ _ e' rfl)
    have z0 := s3.cell 0
    have z1 := s3.cell 1
    have y0 := s3.frozen 0
    have y1 := s3.frozen 1
    have zl := s3.lt
    have S3 := hide s3
    have O3 := hide o3
    have B3 := hide b3
    have H3 := hide h3
    clear s3 o3 b3 h3
    refine hK.out _ _ ?_ (fun hHeld => ?_)
    · trivial
    clear hK K
    try simp only [Act.put, List.setIfInBounds_toArray, List.set_cons_zero, List.set_cons_succ]
    refine wpAnyH_take (i := 12) (oi := { dst := some 28, op := _, type := _, pos := _, after := _, guard := _ }) (v := ?v1x13) rfl (by kernel_rfl) (by kernel_rfl) (by kernel_rfl) (fun _ _ _ h => h) (Or.inl ⟨by rfl, ?hy1x13⟩) hHeld ?rest1x13
    case hy1x13 => (intro w hSw; go_simp <;> with_reducible rfl)
    try simp only [Act.put, List.setIfInBounds_toArray, List.set_cons_zero, List.set_cons_succ]
    refine wpAnyH_take (i := 13) (oi := { dst := some 29, op := _, type := _, pos := _, after := _, guard := _ }) (v := ?v1x14) rfl (by kernel_rfl) (by kernel_rfl) (by kernel_rfl) (fun _ _ _ h => h) (Or.inl ⟨by rfl, ?hy1x14⟩) hHeld ?rest1x14
    case hy1x14 => (intro w hSw; go_simp <;> with_reducible rfl)
    try simp only [Act.put, List.setIfInBounds_toArray, List.set_cons_zero, List.set_cons_succ]
    refine wpAnyH_ready (rs := [14]) (by kernel_rfl) (by simp) (AllReadyH.cons (o := { dst := none, op := _, type := _, pos := _, after := _, guard := _ }) rfl (fun K hK => ?_) AllReadyH.nil)
    go_simp
    go_wp2_with fail
    refine hK.out _ _ ?_ (fun hHeld => ?_)
    · trivial
    clear hK K
    try simp only [Act.put, List.setIfInBounds_toArray, List.set_cons_zero, List.set_cons_succ]
    refine wpAnyH_done (by kernel_rfl) ?_ _
    go_wp2
    go_end0
    exact ⟨rfl, RetAdd.mk HA.out HL.out Hn.out (by rw [List.length_take, Hbl.out]; omega) jn Hap.out Hstr.out.lt S3.out O3.out B3.out H3.out⟩
  · obtain rfl : j = m := by omega
    have q1 : ¬ (257 : Int) - (n : Int) < (j : Int) := by omega
    have qm : (if (257 : Int) - (n : Int) < (j : Int) then (257 : Int) - (n : Int) else (j : Int)) = (j : Int) := by rw [if_neg (by omega)]
    clear hj
    go_enter Try.func21, Try.ntmps21
    go_wp2
    refine wp_region_held_drew (S := fun _ => True) (by kernel_rfl) ?_ (fun hHeld => ?_)
    · trivial
    refine wpAnyH_take (i := 0) (oi := { dst := some 16, op := _, type := _, pos := _, after := _, guard := _ }) (v := ?v2x1) rfl (by kernel_rfl) (by kernel_rfl) (by kernel_rfl) (fun _ _ _ h => h) (Or.inl ⟨by rfl, ?hy2x1⟩) hHeld ?rest2x1
    case hy2x1 => (intro w hSw; go_simp <;> with_reducible rfl)
    try simp only [Act.put, List.setIfInBounds_toArray, List.set_cons_zero, List.set_cons_succ]
    refine wpAnyH_take (i := 1) (oi := { dst := some 17, op := _, type := _, pos := _, after := _, guard := _ }) (v := ?v2x2) rfl (by kernel_rfl) (by kernel_rfl) (by kernel_rfl) (fun _ _ _ h => h) (Or.inl ⟨by rfl, ?hy2x2⟩) hHeld ?rest2x2
    case hy2x2 => (intro w hSw; go_simp <;> with_reducible rfl)
    try simp only [Act.put, List.setIfInBounds_toArray, List.set_cons_zero, List.set_cons_succ]
    refine wpAnyH_take (i := 2) (oi := { dst := some 18, op := _, type := _, pos := _, after := _, guard := _ }) (v := ?v2x3) rfl (by kernel_rfl) (by kernel_rfl) (by kernel_rfl) (fun _ _ _ h => h) (Or.inl ⟨by rfl, ?hy2x3⟩) hHeld ?rest2x3
    case hy2x3 => (intro w hSw; go_simp <;> with_reducible rfl)
    try simp only [Act.put, List.setIfInBounds_toArray, List.set_cons_zero, List.set_cons_succ]
    refine wpAnyH_take (i := 3) (oi := { dst := some 19, op := _, type := _, pos := _, after := _, guard := _ }) (v := ?v2x4) rfl (by kernel_rfl) (by kernel_rfl) (by kernel_rfl) (fun _ _ _ h => h) (Or.inl ⟨by rfl, ?hy2x4⟩) hHeld ?rest2x4
    case hy2x4 => (intro w hSw; go_simp <;> with_reducible rfl)
    try simp only [Act.put, List.setIfInBounds_toArray, List.set_cons_zero, List.set_cons_succ]
    refine wpAnyH_take (i := 5) (oi := { dst := some 21, op := _, type := _, pos := _, after := _, guard := _ }) (v := ?v2x5) rfl (by kernel_rfl) (by kernel_rfl) (by kernel_rfl) (fun _ _ _ h => h) (Or.inl ⟨by rfl, ?hy2x5⟩) hHeld ?rest2x5
    case hy2x5 => (intro w hSw; go_simp <;> with_reducible rfl)
    try simp only [Act.put, List.setIfInBounds_toArray, List.set_cons_zero, List.set_cons_succ]
    refine wpAnyH_take (i := 6) (oi := { dst := some 22, op := _, type := _, pos := _, after := _, guard := _ }) (v := ?v2x6) rfl (by kernel_rfl) (by kernel_rfl) (by kernel_rfl) (fun _ _ _ h => h) (Or.inl ⟨by rfl, ?hy2x6⟩) hHeld ?rest2x6
    case hy2x6 => (intro w hSw; go_simp <;> with_reducible rfl)
    try simp only [Act.put, List.setIfInBounds_toArray, List.set_cons_zero, List.set_cons_succ]
    refine wpAnyH_take (i := 7) (oi := { dst := some 23, op := _, type := _, pos := _, after := _, guard := _ }) (v := ?v2x7) rfl (by kernel_rfl) (by kernel_rfl) (by kernel_rfl) (fun _ _ _ h => h) (Or.inl ⟨by rfl, ?hy2x7⟩) hHeld ?rest2x7
    case hy2x7 => (intro w hSw; go_simp <;> with_reducible rfl)
    try simp only [Act.put, List.setIfInBounds_toArray, List.set_cons_zero, List.set_cons_succ]
    refine wpAnyH_take (i := 8) (oi := { dst := some 24, op := _, type := _, pos := _, after := _, guard := _ }) (v := ?v2x8) rfl (by kernel_rfl) (by kernel_rfl) (by kernel_rfl) (fun _ _ _ h => h) (Or.inl ⟨by rfl, ?hy2x8⟩) hHeld ?rest2x8
    case hy2x8 => (intro w hSw; go_simp <;> with_reducible rfl)
    try simp only [Act.put, List.setIfInBounds_toArray, List.set_cons_zero, List.set_cons_succ]
    refine wpAnyH_take (i := 9) (oi := { dst := some 25, op := _, type := _, pos := _, after := _, guard := _ }) (v := ?v2x9) rfl (by kernel_rfl) (by kernel_rfl) (by kernel_rfl) (fun _ _ _ h => h) (Or.inl ⟨by rfl, ?hy2x9⟩) hHeld ?rest2x9
    case hy2x9 => (intro w hSw; go_simp <;> with_reducible rfl)
    try simp only [Act.put, List.setIfInBounds_toArray, List.set_cons_zero, List.set_cons_succ]
    refine wpAnyH_take (i := 10) (oi := { dst := some 26, op := _, type := _, pos := _, after := _, guard := _ }) (v := ?v2x10) rfl (by kernel_rfl) (by kernel_rfl) (by kernel_rfl) (fun _ _ _ h => h) (Or.inl ⟨by rfl, ?hy2x10⟩) hHeld ?rest2x10
    case hy2x10 => (intro w hSw; go_simp <;> with_reducible rfl)
    try simp only [Act.put, List.setIfInBounds_toArray, List.set_cons_zero, List.set_cons_succ]
    refine wpAnyH_ready (rs := [4]) (by kernel_rfl) (by simp) (AllReadyH.cons (o := { dst := some 20, op := _, type := _, pos := _, after := _, guard := _ }) rfl (fun K hK => ?_) AllReadyH.nil)
    go_simp
    go_wp2_with fail
    refine hK.out _ _ ?_ (fun hHeld => ?_)
    · trivial
    clear hK K
    try simp only [Act.put, List.setIfInBounds_toArray, List.set_cons_zero, List.set_cons_succ]
    refine wpAnyH_ready (rs := [11]) (by kernel_rfl) (by simp) (AllReadyH.cons (o := { dst := some 27, op := _, type := _, pos := _, after := _, guard := _ }) rfl (fun K hK => ?_) AllReadyH.nil)
    rw [if_pos (by rfl)]
    refine op_app2 (.tmp 20) (.tmp 26) 22 rfl 5 _ _ Try.underlying22 u8_info rfl 0 A n k (bv came) rfl Hown.out B j d (bv (bs.take j)) rfl Hrd.out (bv_one _) (by unfold maxLen; omega) (by omega) (Nat.zero_le _) ?_
    intro A3 k3 w3 o3 b3 h3
    replace b3 := But.after (w := w) ((Below.refl _ _).drew) b3
    have s3 := Hstr.out.but b3 (by rintro ⟨o', e'⟩; exact Hap.out _ _ e' rfl)
    have z0 := s3.cell 0
    have z1 := s3.cell 1
    have y0 := s3.frozen 0
    have y1 := s3.frozen 1
    have zl := s3.lt
    have S3 := hide s3
    have O3 := hide o3
    have B3 := hide b3
    have H3 := hide h3
    clear s3 o3 b3 h3
    refine hK.out _ _ ?_ (fun hHeld => ?_)
    · trivial
    clear hK K
    try simp only [Act.put, List.setIfInBounds_toArray, List.set_cons_zero, List.set_cons_succ]
    refine wpAnyH_take (i := 12) (oi := { dst := some 28, op := _, type := _, pos := _, after := _, guard := _ }) (v := ?v2x13) rfl (by kernel_rfl) (by kernel_rfl) (by kernel_rfl) (fun _ _ _ h => h) (Or.inl ⟨by rfl, ?hy2x13⟩) hHeld ?rest2x13
    case hy2x13 => (intro w hSw; go_simp <;> with_reducible rfl)
    try simp only [Act.put, List.setIfInBounds_toArray, List.set_cons_zero, List.set_cons_succ]
    refine wpAnyH_take (i := 13) (oi := { dst := some 29, op := _, type := _, pos := _, after := _, guard := _ }) (v := ?v2x14) rfl (by kernel_rfl) (by kernel_rfl) (by kernel_rfl) (fun _ _ _ h => h) (Or.inl ⟨by rfl, ?hy2x14⟩) hHeld ?rest2x14
    case hy2x14 => (intro w hSw; go_simp <;> with_reducible rfl)
    try simp only [Act.put, List.setIfInBounds_toArray, List.set_cons_zero, List.set_cons_succ]
    refine wpAnyH_ready (rs := [14]) (by kernel_rfl) (by simp) (AllReadyH.cons (o := { dst := none, op := _, type := _, pos := _, after := _, guard := _ }) rfl (fun K hK => ?_) AllReadyH.nil)
    go_simp
    go_wp2_with fail
    refine hK.out _ _ ?_ (fun hHeld => ?_)
    · trivial
    clear hK K
    try simp only [Act.put, List.setIfInBounds_toArray, List.set_cons_zero, List.set_cons_succ]
    refine wpAnyH_done (by kernel_rfl) ?_ _
    go_wp2
    go_end0
    exact ⟨rfl, RetAdd.mk HA.out HL.out Hn.out (by rw [List.length_take, Hbl.out]; omega) jn Hap.out Hstr.out.lt S3.out O3.out B3.out H3.out⟩

/-- What Wait, or Feed, answers. -/
def RetTold (g : Nat) (A : Option Addr) (told : List (List UInt8)) (came : List UInt8) (last gap tick : Int) (w : World) (e : Ending) (w' : World) : Prop :=
  ∃ O ok rs A' k', e = .returned (.tuple #[.slice O rs.length ok, .int .i64 0]) ∧ RRd w' O rs.length rs ∧ rs.map RowE.xs = told ∧ LnA w' g A' k' came last gap tick ∧
    (Off (lnS g A') O ∧ ∀ r ∈ rs, Off (lnS g A') r.A) ∧ (∀ r ∈ rs, r.A = A) ∧ (rs = [] → O = none) ∧ NewAt w O ∧ (A' = A ∨ NewAt w A') ∧ But (lnS g A) w w'

theorem LnA.ticked {w : World} {g : Nat} {A : Option Addr} {k : Nat} {came : List UInt8} {last gap tick : Int} (h : LnA w g A k came last gap tick) (now : Int) : LnA (w.setCell ⟨g, 3, none⟩ (.int .i64 now)) g A k came last gap now := by
  have hb : But (fun i => i = g) w (w.setCell ⟨g, 3, none⟩ (.int .i64 now)) := But.setCell w _ rfl
  exact ⟨h.str.set 3 _, own_but h.own hb (fun b o e => h.ap b o e), h.ap, h.len⟩

set_option maxHeartbeats 1000000 in
theorem wait_any (g : Nat) (A : Option Addr) (k : Nat) (came : List UInt8) (last gap tick now : Int) (w : World) (h : LnA w g A k came last gap tick) (h0 : 0 ≤ last) (ht : tick ≤ now) (hn : 0 ≤ now) (hl : last ≤ 4611686018427387904) (hm : now ≤ 4611686018427387904) :
    Calls Try.prog 14 #[.pointer (some ⟨g, 0, none⟩), .int .i64 now] w (RetTold g A (toldL came last gap now) (leftL came last gap now) last gap now w) := by
  obtain ⟨c0, c1, c2, c3⟩ := h.cells
  have f3 := h.str.frozen 3
  have HT := hide (h.ticked now)
  have HB : Hid (But (lnS g A) w (w.setCell ⟨g, 3, none⟩ (.int .i64 now))) := But.setCell w _ (Or.inl rfl)
  have hsz : Hid ((w.setCell ⟨g, 3, none⟩ (.int .i64 now)).heap.size = w.heap.size) := by show _ = _; simp [World.setCell]
  obtain ⟨V, hV⟩ : ∃ V, w.setCell ⟨g, 3, none⟩ (.int .i64 now) = V := ⟨_, rfl⟩
  rw [hV] at HT HB hsz
  have HS : ∀ v, v = V.drew → Hid (Calls Try.prog 22 #[.pointer (some ⟨g, 0, none⟩), .int .i64 now] v fun e w' => e = .returned (.int .i64 (now - last)) ∧ v = w') := by
    rintro v rfl
    exact silence_any g last now _ HT.out.cells.2.1 h0 hn hl hm
  have z2 : ∀ v, v = V.drew → v.cell? ⟨g, 2, none⟩ = some (.int .i64 gap) := by
    rintro v rfl
    exact HT.out.cells.2.2.1
  have q0 : ¬ now < tick := by omega
  clear h
  by_cases hs : now - last < gap
  · have q1 : decide (now - last < gap) = true := decide_eq_true hs
    have HD : Hid (toldL came last gap now = [] ∧ leftL came last gap now = came) := ⟨by unfold toldL; rw [if_pos hs], by unfold leftL; rw [if_pos hs]⟩
    go_enter Try.func14, Try.ntmps14
    go_wp2
    refine wp_region_held_drew (S := fun w' => w' = V.drew) (by kernel_rfl) ?_ (fun hHeld => ?_)
    · rfl
    refine wpAnyH_take (i := 0) (oi := { dst := some 18, op := _, type := _, pos := _, after := _, guard := _ }) (v := ?v3x1) rfl (by kernel_rfl) (by kernel_rfl) (by kernel_rfl) (fun _ _ _ h => h) (Or.inl ⟨by rfl, ?hy3x1⟩) hHeld ?rest3x1
    case hy3x1 => (intro w hSw; go_simp <;> with_reducible rfl)
    try simp only [Act.put, List.setIfInBounds_toArray, List.set_cons_zero, List.set_cons_succ]
    refine wpAnyH_take (i := 1) (oi := { dst := some 19, op := _, type := _, pos := _, after := _, guard := _ }) (v := ?v3x2) rfl (by kernel_rfl) (by kernel_rfl) (by kernel_rfl) (fun _ _ _ h => h) (Or.inl ⟨by rfl, ?hy3x2⟩) hHeld ?rest3x2
    case hy3x2 => (intro w hSw; go_simp <;> with_reducible rfl)
    try simp only [Act.put, List.setIfInBounds_toArray, List.set_cons_zero, List.set_cons_succ]
    refine wpAnyH_take (i := 2) (oi := { dst := some 20, op := _, type := _, pos := _, after := _, guard := _ }) (v := ?v3x3) rfl (by kernel_rfl) (by kernel_rfl) (by kernel_rfl) (fun _ _ _ h => h) (Or.inl ⟨by rfl, ?hy3x3⟩) hHeld ?rest3x3
    case hy3x3 => (intro w hSw; go_simp <;> with_reducible rfl)
    try simp only [Act.put, List.setIfInBounds_toArray, List.set_cons_zero, List.set_cons_succ]
    refine wpAnyH_take (i := 3) (oi := { dst := some 21, op := _, type := _, pos := _, after := _, guard := _ }) (v := ?v3x4) rfl (by kernel_rfl) (by kernel_rfl) (by kernel_rfl) (fun _ _ _ h => h) (Or.inl ⟨by rfl, ?hy3x4⟩) hHeld ?rest3x4
    case hy3x4 => (intro w hSw; go_simp <;> with_reducible rfl)
    try simp only [Act.put, List.setIfInBounds_toArray, List.set_cons_zero, List.set_cons_succ]
    refine wpAnyH_take (i := 5) (oi := { dst := some 23, op := _, type := _, pos := _, after := _, guard := _ }) (v := ?v3x5) rfl (by kernel_rfl) (by kernel_rfl) (by kernel_rfl) (fun _ _ _ h => h) (Or.inl ⟨by rfl, ?hy3x5⟩) hHeld ?rest3x5
    case hy3x5 => (intro w hSw; go_simp <;> with_reducible rfl)
    try simp only [Act.put, List.setIfInBounds_toArray, List.set_cons_zero, List.set_cons_succ]
    refine wpAnyH_take (i := 6) (oi := { dst := some 24, op := _, type := _, pos := _, after := _, guard := _ }) (v := ?v3x6) rfl (by kernel_rfl) (by kernel_rfl) (by kernel_rfl) (fun _ _ _ h => h) (Or.inl ⟨by rfl, ?hy3x6⟩) hHeld ?rest3x6
    case hy3x6 => (intro w hSw; go_simp <;> with_reducible rfl)
    try simp only [Act.put, List.setIfInBounds_toArray, List.set_cons_zero, List.set_cons_succ]
    refine wpAnyH_take (i := 7) (oi := { dst := some 25, op := _, type := _, pos := _, after := _, guard := _ }) (v := ?v3x7) rfl (by kernel_rfl) (by kernel_rfl) (by kernel_rfl) (fun _ _ _ h => h) (Or.inl ⟨by rfl, ?hy3x7⟩) hHeld ?rest3x7
    case hy3x7 => (intro w hSw; go_simp <;> with_reducible rfl)
    try simp only [Act.put, List.setIfInBounds_toArray, List.set_cons_zero, List.set_cons_succ]
    refine wpAnyH_take (i := 8) (oi := { dst := some 26, op := _, type := _, pos := _, after := _, guard := _ }) (v := ?v3x8) rfl (by kernel_rfl) (by kernel_rfl) (by kernel_rfl) (fun _ _ _ h => h) (Or.inl ⟨by rfl, ?hy3x8⟩) hHeld ?rest3x8
    case hy3x8 => (intro w hSw; go_simp <;> with_reducible rfl)
    try simp only [Act.put, List.setIfInBounds_toArray, List.set_cons_zero, List.set_cons_succ]
    refine wpAnyH_ready (rs := [4]) (by kernel_rfl) (by simp) (AllReadyH.cons (o := { dst := some 22, op := _, type := _, pos := _, after := _, guard := _ }) rfl (fun K hK => ?_) AllReadyH.nil)
    go_simp
    refine (HS _ rfl).out.mono ?_
    rintro e w' ⟨rfl, rfl⟩
    go_wp2_with fail
    refine hK.out _ _ ?_ (fun hHeld => ?_)
    · rfl
    clear hK K
    try simp only [Act.put, List.setIfInBounds_toArray, List.set_cons_zero, List.set_cons_succ]
    refine wpAnyH_take (i := 9) (oi := { dst := some 27, op := _, type := _, pos := _, after := _, guard := _ }) (v := ?v3x10) rfl (by kernel_rfl) (by kernel_rfl) (by kernel_rfl) (fun _ _ _ h => h) (Or.inl ⟨by rfl, ?hy3x10⟩) hHeld ?rest3x10
    case hy3x10 => (intro w hSw; go_simp <;> with_reducible rfl)
    try simp only [Act.put, List.setIfInBounds_toArray, List.set_cons_zero, List.set_cons_succ]
    refine wpAnyH_done (by kernel_rfl) ?_ _
    go_wp2
    go_ret2
    obtain ⟨d1, d2⟩ := HD.out
    rw [d1, d2]
    exact ⟨none, 0, [], A, k, rfl, RRd.nil _ _, rfl, HT.out.keep ((Below.refl _ _).drew), ⟨Off.none_ _, by simp⟩, by simp, fun _ => rfl, NewAt.nil _, Or.inl rfl, HB.out.on ((Below.refl _ _).drew)⟩
  · have q1 : decide (now - last < gap) = false := decide_eq_false hs
    have HD : Hid (toldL came last gap now = endL came ∧ leftL came last gap now = []) := ⟨by unfold toldL; rw [if_neg hs], by unfold leftL; rw [if_neg hs]⟩
    go_enter Try.func14, Try.ntmps14
    go_wp2
    refine wp_region_held_drew (S := fun w' => w' = V.drew) (by kernel_rfl) ?_ (fun hHeld => ?_)
    · rfl
    refine wpAnyH_take (i := 0) (oi := { dst := some 18, op := _, type := _, pos := _, after := _, guard := _ }) (v := ?v4x1) rfl (by kernel_rfl) (by kernel_rfl) (by kernel_rfl) (fun _ _ _ h => h) (Or.inl ⟨by rfl, ?hy4x1⟩) hHeld ?rest4x1
    case hy4x1 => (intro w hSw; go_simp <;> with_reducible rfl)
    try simp only [Act.put, List.setIfInBounds_toArray, List.set_cons_zero, List.set_cons_succ]
    refine wpAnyH_take (i := 1) (oi := { dst := some 19, op := _, type := _, pos := _, after := _, guard := _ }) (v := ?v4x2) rfl (by kernel_rfl) (by kernel_rfl) (by kernel_rfl) (fun _ _ _ h => h) (Or.inl ⟨by rfl, ?hy4x2⟩) hHeld ?rest4x2
    case hy4x2 => (intro w hSw; go_simp <;> with_reducible rfl)
    try simp only [Act.put, List.setIfInBounds_toArray, List.set_cons_zero, List.set_cons_succ]
    refine wpAnyH_take (i := 2) (oi := { dst := some 20, op := _, type := _, pos := _, after := _, guard := _ }) (v := ?v4x3) rfl (by kernel_rfl) (by kernel_rfl) (by kernel_rfl) (fun _ _ _ h => h) (Or.inl ⟨by rfl, ?hy4x3⟩) hHeld ?rest4x3
    case hy4x3 => (intro w hSw; go_simp <;> with_reducible rfl)
    try simp only [Act.put, List.setIfInBounds_toArray, List.set_cons_zero, List.set_cons_succ]
    refine wpAnyH_take (i := 3) (oi := { dst := some 21, op := _, type := _, pos := _, after := _, guard := _ }) (v := ?v4x4) rfl (by kernel_rfl) (by kernel_rfl) (by kernel_rfl) (fun _ _ _ h => h) (Or.inl ⟨by rfl, ?hy4x4⟩) hHeld ?rest4x4
    case hy4x4 => (intro w hSw; go_simp <;> with_reducible rfl)
    try simp only [Act.put, List.setIfInBounds_toArray, List.set_cons_zero, List.set_cons_succ]
    refine wpAnyH_take (i := 5) (oi := { dst := some 23, op := _, type := _, pos := _, after := _, guard := _ }) (v := ?v4x5) rfl (by kernel_rfl) (by kernel_rfl) (by kernel_rfl) (fun _ _ _ h => h) (Or.inl ⟨by rfl, ?hy4x5⟩) hHeld ?rest4x5
    case hy4x5 => (intro w hSw; go_simp <;> with_reducible rfl)
    try simp only [Act.put, List.setIfInBounds_toArray, List.set_cons_zero, List.set_cons_succ]
    refine wpAnyH_take (i := 6) (oi := { dst := some 24, op := _, type := _, pos := _, after := _, guard := _ }) (v := ?v4x6) rfl (by kernel_rfl) (by kernel_rfl) (by kernel_rfl) (fun _ _ _ h => h) (Or.inl ⟨by rfl, ?hy4x6⟩) hHeld ?rest4x6
    case hy4x6 => (intro w hSw; go_simp <;> with_reducible rfl)
    try simp only [Act.put, List.setIfInBounds_toArray, List.set_cons_zero, List.set_cons_succ]
    refine wpAnyH_take (i := 7) (oi := { dst := some 25, op := _, type := _, pos := _, after := _, guard := _ }) (v := ?v4x7) rfl (by kernel_rfl) (by kernel_rfl) (by kernel_rfl) (fun _ _ _ h => h) (Or.inl ⟨by rfl, ?hy4x7⟩) hHeld ?rest4x7
    case hy4x7 => (intro w hSw; go_simp <;> with_reducible rfl)
    try simp only [Act.put, List.setIfInBounds_toArray, List.set_cons_zero, List.set_cons_succ]
    refine wpAnyH_take (i := 8) (oi := { dst := some 26, op := _, type := _, pos := _, after := _, guard := _ }) (v := ?v4x8) rfl (by kernel_rfl) (by kernel_rfl) (by kernel_rfl) (fun _ _ _ h => h) (Or.inl ⟨by rfl, ?hy4x8⟩) hHeld ?rest4x8
    case hy4x8 => (intro w hSw; go_simp <;> with_reducible rfl)
    try simp only [Act.put, List.setIfInBounds_toArray, List.set_cons_zero, List.set_cons_succ]
    refine wpAnyH_ready (rs := [4]) (by kernel_rfl) (by simp) (AllReadyH.cons (o := { dst := some 22, op := _, type := _, pos := _, after := _, guard := _ }) rfl (fun K hK => ?_) AllReadyH.nil)
    go_simp
    refine (HS _ rfl).out.mono ?_
    rintro e w' ⟨rfl, rfl⟩
    go_wp2_with fail
    refine hK.out _ _ ?_ (fun hHeld => ?_)
    · rfl
    clear hK K
    try simp only [Act.put, List.setIfInBounds_toArray, List.set_cons_zero, List.set_cons_succ]
    refine wpAnyH_take (i := 9) (oi := { dst := some 27, op := _, type := _, pos := _, after := _, guard := _ }) (v := ?v4x10) rfl (by kernel_rfl) (by kernel_rfl) (by kernel_rfl) (fun _ _ _ h => h) (Or.inl ⟨by rfl, ?hy4x10⟩) hHeld ?rest4x10
    case hy4x10 => (intro w hSw; go_simp <;> with_reducible rfl)
    try simp only [Act.put, List.setIfInBounds_toArray, List.set_cons_zero, List.set_cons_succ]
    refine wpAnyH_done (by kernel_rfl) ?_ _
    go_wp2_with fail
    refine (end_any g A k came last gap now V.drew (HT.out.keep ((Below.refl _ _).drew))).mono ?_
    rintro e w1 ⟨O, ok, rs, rfl, r1, m1, a1, z1, n1, l1, b1⟩
    go_wp2_with fail
    go_ret2
    obtain ⟨d1, d2⟩ := HD.out
    rw [d1, d2]
    have hgw : g < w.heap.size := by rw [← hsz.out]; exact HT.out.str.lt
    have hAw : ∀ b o, A = some ⟨b, o, none⟩ → b ≠ g := HT.out.ap
    refine ⟨O, ok, rs, none, 0, rfl, r1, m1, l1, ⟨?_, ?_⟩, a1, z1, n1.old (Nat.le_of_eq hsz.out.symm), Or.inr (NewAt.nil _), HB.out.trans (But.after ((Below.refl _ _).drew) b1) (fun _ _ e => e)⟩
    · intro b o e hs
      have := n1 b o e
      rcases hs with rfl | ⟨o', e'⟩
      · have hz := hsz.out
        simp at this
        omega
      · cases e'
    · intro r hr b o e hs
      rw [a1 r hr] at e
      rcases hs with rfl | ⟨o', e'⟩
      · exact hAw _ _ e rfl
      · cases e'

/-- Feed. -/
theorem feed_any (g : Nat) (A : Option Addr) (k : Nat) (came : List UInt8) (last gap tick now : Int) (B : Option Addr) (m d : Nat) (bs : List UInt8) (w : World) (h : LnA w g A k came last gap tick) (hr : Rd w B m (bv bs)) (hB : Off (lnS g A) B) (hd : m ≤ d) (hm1 : m ≤ 100000)
    (h0 : 0 ≤ last) (ht : tick ≤ now) (hn : 0 ≤ now) (hl : last ≤ 4611686018427387904) (hm : now ≤ 4611686018427387904) :
    Calls Try.prog 13 #[.pointer (some ⟨g, 0, none⟩), .int .i64 now, .slice B m d] w (RetTold g A (toldL came last gap now) (addL (leftL came last gap now) bs) (lastL last now bs) gap now w) := by
  have HW := hide (wait_any g A k came last gap tick now w h h0 ht hn hl hm)
  have Hr := hide hr
  have hgw := h.str.lt
  have Hh := hide h
  clear h
  go_enter Try.func13, Try.ntmps13
  go_wp2_with fail
  refine HW.out.mono ?_
  rintro e w1 ⟨O, ok, rs, A', k', rfl, r1, m1, l1, ⟨f1, f2⟩, a1, z1, n1, na1, b1⟩
  have R1 := hide r1
  have L1 := hide l1
  have B1 := hide b1
  have Hr1 := hide (Hr.out.but b1 hB)
  have N1 := hide n1
  have hz := b1.size
  clear r1 l1 b1 n1
  go_wp2_with fail
  refine (add5_any g A' k' _ last gap now now B m d bs w1 L1.out Hr1.out hd hm1).mono ?_
  rintro e w2 ⟨rfl, A2, k2, l2, na2, b2⟩
  go_wp2_with fail
  go_ret2
  have hg1 := L1.out.str.lt
  have hoff : ∀ C : Option Addr, Off (lnS g A') C → (∀ b o, C = some ⟨b, o, none⟩ → b < w1.heap.size) → Off (lnS g A2) C := by
    intro C hC hlt b o e hs
    rcases hs with rfl | ⟨o', e'⟩
    · exact hC _ _ e (Or.inl rfl)
    · rcases na2 with rfl | na2
      · exact hC _ _ e (Or.inr ⟨o', e'⟩)
      · have := na2 _ _ e'
        have := hlt _ _ e
        omega
  have hlt : ∀ r ∈ rs, ∀ b o, r.A = some ⟨b, o, none⟩ → b < w1.heap.size := by
    intro r hr b o e
    rw [a1 r hr] at e
    exact Nat.lt_of_lt_of_le (own_lt Hh.out.own b o e) hz
  have hltO : ∀ b o, O = some ⟨b, o, none⟩ → b < w1.heap.size := by
    intro b o e
    rcases Nat.eq_zero_or_pos rs.length with h0 | h0
    · have := z1 (List.eq_nil_of_length_eq_zero h0)
      rw [this] at e
      cases e
    · obtain ⟨b', o', _, e', hb', _⟩ := R1.out.at_ h0
      rw [e'] at e
      injection e with e
      injection e with e1 _ _
      omega
  have hS : ∀ i, i < w.heap.size → lnS g A' i → lnS g A i := by
    intro i hi hs
    rcases hs with rfl | ⟨o', e'⟩
    · exact Or.inl rfl
    · rcases na1 with rfl | na1
      · exact Or.inr ⟨o', e'⟩
      · have := na1 _ _ e'
        omega
  refine ⟨O, ok, rs, A2, k2, rfl, R1.out.but b2 f1 f2, m1, l2, ⟨hoff O f1 hltO, fun r hr => hoff _ (f2 r hr) (hlt r hr)⟩, a1, z1, N1.out, ?_, B1.out.trans b2 hS⟩
  rcases na2 with rfl | na2
  · exact na1
  · exact Or.inr (na2.old hz)

/-- New. -/
theorem rNew_ok (gap : Int) (hg : 1 ≤ gap) (w : World) : Calls Try.prog 12 #[.int .i64 gap] w fun e w' => ∃ g, e = .returned (.tuple #[.pointer (some ⟨g, 0, none⟩), .int .i64 0]) ∧ w.heap.size ≤ g ∧ LnA w' g none 0 [] 0 gap 0 ∧ Below w.heap.size w w' := by
  have q : ¬ gap < 1 := by omega
  go_enter Try.func12, Try.ntmps12
  go_wp2
  go_ret2
  exact ⟨w.heap.size, rfl, Nat.le_refl _, ⟨Blk.new w 50 [.slice none 0 0, .int .i64 0, .int .i64 gap, .int .i64 0], World.ownsRow_nil _ _ _ _, (fun _ _ e => by cases e), by simp⟩, (Below.refl _ _).alloc (Nat.le_refl _) _⟩

end Go.Proofs.Ytkbombdhdgdpnaa
