/-
  What is proved here: what slices.Delete returns of a row of sendings from which one is struck. Condition: at most a million sendings. ALSO: what maps.DeleteFunc with master's own closure, and master's endRests, leave of the map of rests, in whatever order its entries come. Condition: now is an int. ALSO: what master's endRests leaves of the master: a unit is in the map just if it rests. Condition: now is the master's tick. ALSO: what master's next returns (the first that waits whose unit does not rest), and what becomes of the master. Condition: at most a million wait.
-/
import Derived.Test.YtfpfijggmfeejaaMs1
import Derived.Lib.SlMapFilter
import Derived.Maps.Ext
import Derived.Maps.RangeWalk
import Derived.Laws.IdiomRangeMap
import Derived.Deep.LoopGhost
import Derived.WalkKit
import Derived.Shelf.Abstract
namespace Go.Proofs.Ytfpfijggmfeejaa
set_option linter.unusedVariables false
set_option linter.unusedSimpArgs false
open Go.RowKit Go.Maps

theorem send_info : (Try.prog.info? 51).map (·.size) = some 9 := by kernel_rfl
theorem send_info3 : (Try.prog.info? 51).map (fun i => (i.zero, i.size, i.bytes)) = some (some (.agg #[.int .i64 0, .int .i64 0, .int .i64 0, .int .i64 0, .int .i64 0, .slice none 0 0, .int .i64 0, .int .i64 0, .int .i64 0]), 9, 88) := by kernel_rfl
/-- Where x[lo:] begins, an element of s cells. -/
def cutAT (s : Nat) (A : Option Addr) (lo c : Nat) : Option Addr := if c = lo then A else A.map fun a => a.add (lo * s)
theorem run_slTailT {P : Program} (t e : TypeId) (s : Nat) (ht : P.underlying t = some (.slice e)) (hs : (P.info? e).map (·.size) = some s) (A : Option Addr) (l c : Nat) (lo : Int) (lo' : Nat) (elo : lo = lo') (h1 : lo' ≤ l) (w : World) :
    (Instr.slice t (.slice A l c) (some (.int .i64 lo)) none none).run P w = .ok (.slice (cutAT s A lo' c) (l - lo') (c - lo')) w := by
  subst elo
  obtain ⟨i, hi, hsz⟩ := Option.map_eq_some_iff.1 hs
  have a1 : (lo' : Int) ≤ (l : Int) := by omega
  simp [Instr.slice, run_underlying ht, Instr.sliceBounds, run_sliceBound, sizeOf, typeInfo, hi, hsz, cutAT, a1]
theorem run_slToS {P : Program} (t e : TypeId) (s : Nat) (ht : P.underlying t = some (.slice e)) (hs : (P.info? e).map (·.size) = some s) (A : Option Addr) (l c : Nat) (hi : Int) (h' : Nat) (eh : hi = h') (h1 : h' ≤ c) (w : World) :
    (Instr.slice t (.slice A l c) none (some (.int .i64 hi)) none).run P w = .ok (.slice A h' c) w := by
  subst eh
  obtain ⟨i, hi, hsz⟩ := Option.map_eq_some_iff.1 hs
  have a1 : (h' : Int) ≤ (c : Int) := by omega
  have hA : A.map (fun a => a.add 0) = A := by cases A <;> simp [Addr.add]
  simp [Instr.slice, run_underlying ht, Instr.sliceBounds, run_sliceBound, sizeOf, typeInfo, hi, hsz, a1, hA]
/-- x[lo:hi]. -/
theorem run_slMidS {P : Program} (t e : TypeId) (s : Nat) (ht : P.underlying t = some (.slice e)) (hs : (P.info? e).map (·.size) = some s) (A : Option Addr) (l c : Nat) (lo hi : Int) (lo' h' : Nat) (el : lo = lo') (eh : hi = h') (h1 : lo' ≤ h') (h2 : h' ≤ c) (w : World) :
    (Instr.slice t (.slice A l c) (some (.int .i64 lo)) (some (.int .i64 hi)) none).run P w = .ok (.slice (cutAT s A lo' c) (h' - lo') (c - lo')) w := by
  subst el eh
  obtain ⟨i, hi, hsz⟩ := Option.map_eq_some_iff.1 hs
  have a1 : (lo' : Int) ≤ (h' : Int) := by omega
  have a2 : (h' : Int) ≤ (c : Int) := by omega
  simp [Instr.slice, run_underlying ht, Instr.sliceBounds, run_sliceBound, sizeOf, typeInfo, hi, hsz, cutAT, a1, a2]
/-- x[lo:hi:mx]. -/
theorem run_slFullS {P : Program} (t e : TypeId) (s : Nat) (ht : P.underlying t = some (.slice e)) (hs : (P.info? e).map (·.size) = some s) (A : Option Addr) (l c : Nat) (lo hi mx : Int) (lo' h' m' : Nat) (el : lo = lo') (eh : hi = h') (em : mx = m') (h1 : lo' ≤ h') (h2 : h' ≤ m') (h3 : m' ≤ c) (w : World) :
    (Instr.slice t (.slice A l c) (some (.int .i64 lo)) (some (.int .i64 hi)) (some (.int .i64 mx))).run P w = .ok (.slice (cutAT s A lo' m') (h' - lo') (m' - lo')) w := by
  subst el eh em
  obtain ⟨i, hi, hsz⟩ := Option.map_eq_some_iff.1 hs
  have a1 : (lo' : Int) ≤ (h' : Int) := by omega
  have a2 : (h' : Int) ≤ (m' : Int) := by omega
  have a3 : (m' : Int) ≤ (c : Int) := by omega
  simp [Instr.slice, run_underlying ht, Instr.sliceBounds, run_sliceBound, sizeOf, typeInfo, hi, hsz, cutAT, a1, a2, a3]

/-- append(x[:i], x[j:]...), as one operation of a drawn region. -/
theorem op_appIn {P : Program} {w : World} {o : Oper} {a : Act} {K : Act → World → Prop} {Q : Exit → Act → World → Prop} (sl x : Operand) (t : TypeId)
    (ho : o.op = .call { callee := .builtin .append, args := #[sl, x], argTypes := #[t, t] })
    (e : TypeId) (s : Nat) (ht : P.underlying t = some (.slice e)) (hs : (P.info? e).map (·.size) = some s) (g i k N : Nat) (cs ys : List Value) (hB : Blk w g e cs)
    (hsl : a.eval sl = .slice (some ⟨g, 0, none⟩) i k) (B : Addr) (m d : Nat) (hx : a.eval x = .slice (some B) m d) (hN : i + m = N) (hr : Rd w (some B) (m * s) ys) (h1 : ∀ u ∈ ys, u.oneCell' = true) (hroom : N ≤ k) (hfit : i * s + m * s ≤ cs.length)
    (h : ∀ w', Blk w' g e (cs.take (i * s) ++ ys ++ cs.drop (i * s + m * s)) → But (fun b => b = g) w w' → K (a.put o.dst (.slice (some ⟨g, 0, none⟩) N k)) w') : Oper.wp P o a w K Q := by
  obtain ⟨inf, hi, hsz⟩ := Option.map_eq_some_iff.1 hs
  have hl : ys.length = m * inf.size := by rw [hsz]; exact hr.1
  have hrun := run_append_room (P := P) w t o.type e inf ht hi g i k (arr cs) hB B m d ys hl hr.adds h1 (by omega) (by rw [hl, hsz, arr_size]; exact hfit)
  rw [hl, hsz, arr_toList, hN] at hrun
  unfold Oper.wp execOp
  simp only [ho, resolve, invoke, builtin, Sem.run_bind, Sem.run_pure, Result.andThen_ok, List.map_toArray, List.map_cons, List.map_nil, hsl, hx, hrun]
  exact h _ (hB.setRow _) ⟨rfl, rfl, rfl, by simp, fun b _ hb => setRow_other w g b _ (fun e => hb e)⟩

theorem run_clear1 {P : Program} (t e ty : TypeId) (z : Array Value) (ht : P.underlying t = some (.slice e)) (hv : ∀ w, (zeroValue e).run P w = .ok (.agg z) w) (hc : (Value.agg z).cells = z) (h1 : ∀ u ∈ z.toList, u.oneCell' = true) (hz0 : 0 < z.size) (g o c : Nat) (cs : List Value) (w : World) (hB : Blk w g e cs) (hfit : o + z.size ≤ cs.length) :
    (Builtin.clear_ #[t] ty #[.slice (some ⟨g, o, none⟩) 1 c]).run P w = .ok (.tuple #[]) (w.setRow g (arr (cs.take o ++ z.toList ++ cs.drop (o + z.size)))) := by
  have hzc : (Builtin.zeroCells (Value.agg z).cells 1).toList = z.toList := by
    rw [hc]
    unfold Builtin.zeroCells
    apply List.ext_getElem
    · simp
    · intro i h1 h2
      have : i < z.size := by simpa using h2
      simp [Nat.mod_eq_of_lt this, this]
  have hst := run_storeCells_at P g o e z.toList 0 (arr cs) w hB (by rw [arr_size]; simpa using hfit) h1
  simp only [Nat.add_zero, arr_toList, Array.length_toList] at hst
  simp [Builtin.clear_, run_underlying ht, hv, hzc, hst, arr]
theorem send_zero (w : World) : (zeroValue 51).run Try.prog w = .ok (.agg #[.int .i64 0, .int .i64 0, .int .i64 0, .int .i64 0, .int .i64 0, .slice none 0 0, .int .i64 0, .int .i64 0, .int .i64 0]) w := by kernel_rfl
/-- One is struck out of a row. -/
def RetDel (g i n k : Nat) (ws : List SM) (w : World) (e : Ending) (w' : World) : Prop :=
  e = .returned (.slice (some ⟨g, 0, none⟩) (n - 1) k) ∧ w'.ownsRow 0 51 9 (.slice (some ⟨g, 0, none⟩) (n - 1) k) (n - 1) (svs (ws.take i ++ ws.drop (i + 1))) ∧ But (fun b => b = g) w w'
set_option maxRecDepth 100000 in
theorem sdel_any (g i n k : Nat) (ii jj : Int) (ws : List SM) (w : World) (h : w.ownsRow 0 51 9 (.slice (some ⟨g, 0, none⟩) n k) n (svs ws)) (hi : i < n) (hn : n ≤ 1000000) (hii : ii = ((i : Nat) : Int)) (hjj : jj = ((i + 1 : Nat) : Int)) :
    Calls Try.prog 45 #[.slice (some ⟨g, 0, none⟩) n k, .int .i64 ii, .int .i64 jj] w (RetDel g i n k ws w) := by
  have hwl : ws.length = n := by
    have := h.1
    rw [svs_length] at this
    omega
  obtain ⟨cs, hB, hnk, hkm, hcl, hct⟩ : ∃ cs, Blk w g 51 cs ∧ n ≤ k ∧ k ≤ maxLen ∧ cs.length = k * 9 ∧ cs.take (n * 9) = svs ws := by
    rcases h.2 with ⟨hv, _⟩ | ⟨g', cap, cur, hv, _, hh, h1, h2, h3, h4⟩
    · cases hv
    · injection hv with e1 e2 e3
      injection e1 with e1
      injection e1 with e1 _ _
      subst e1 e3
      exact ⟨cur.toList, by simpa [Blk, arr] using hh, h1, h2, by simpa using h3, h4⟩
  have q : (ii == jj) = false := by rw [beq_eq_false_iff_ne]; omega
  have f1 := fun W => run_slFullS (P := Try.prog) 43 51 9 Try.underlying43 send_info (some ⟨g, 0, none⟩) n k ii jj (n : Nat) i (i + 1) n hii hjj rfl (by omega) (by omega) hnk W
  have f2 := fun W => run_slToS (P := Try.prog) 43 51 9 Try.underlying43 send_info (some ⟨g, 0, none⟩) n k ii i hii (by omega) W
  have f3 := fun W => run_slTailT (P := Try.prog) 43 51 9 Try.underlying43 send_info (some ⟨g, 0, none⟩) n k jj (i + 1) hjj (by omega) W
  have f4 := fun W => run_slMidS (P := Try.prog) 43 51 9 Try.underlying43 send_info (some ⟨g, 0, none⟩) (n - 1) k ((n - 1 : Nat) : Int) (n : Nat) (n - 1) n rfl rfl (by omega) (by omega) W
  have hsrc : ∀ W, Blk W g 51 cs → ∃ B, cutAT 9 (some ⟨g, 0, none⟩) (i + 1) k = some B ∧ Rd W (some B) ((n - (i + 1)) * 9) (svs (ws.drop (i + 1))) := by
    intro W hW
    have hl : (svs (ws.drop (i + 1))).length = (n - (i + 1)) * 9 := by rw [svs_length, List.length_drop, hwl]
    unfold cutAT
    split
    · exact ⟨_, rfl, hl, fun h0 => by omega⟩
    · refine ⟨⟨g, (i + 1) * 9, none⟩, by rw [Option.map_some, add_at, Nat.zero_add], hl, fun _ => ⟨g, (i + 1) * 9, rfl, hW.lt, fun j v hv => ?_⟩⟩
      rw [hW.cell]
      rw [← svs_drop, List.getElem?_drop, ← hct, List.getElem?_take] at hv
      split at hv
      · exact hv
      · cases hv
  obtain ⟨B0, eB0, rB0⟩ := hsrc w.drew hB
  rw [eB0] at f3
  have hcut4 : cutAT 9 (some ⟨g, 0, none⟩) (n - 1) k = some ⟨g, (n - 1) * 9, none⟩ := by
    unfold cutAT
    rw [if_neg (by omega), Option.map_some, add_at, Nat.zero_add]
  have e41 : n - (n - 1) = 1 := by omega
  rw [hcut4, e41] at f4
  have hclr := fun ty W cs' (hb : Blk W g 51 cs') (hf : (n - 1) * 9 + 9 ≤ cs'.length) => run_clear1 (P := Try.prog) 43 51 ty _ Try.underlying43 send_zero rfl (by intro u hu; simp at hu; rcases hu with rfl | rfl | rfl <;> rfl) (by decide) g ((n - 1) * 9) (k - (n - 1)) cs' W hb hf
  have F := hide (And.intro hnk (And.intro hcl hct))
  have HB := hide hB
  have HOW := hide h
  have RB := hide rB0
  have HCL := hide hclr
  have HW := hide hwl
  clear h hB hkm hcl hct hsrc rB0 eB0 hcut4 e41 hclr hii hjj hwl hnk
  go_enter Try.func45, Try.ntmps45
  go_wp2_with fail
  refine wp_region_held_drew (S := fun _ => True) (by kernel_rfl) ?_ (fun hHeld => ?_)
  · exact trivial
  refine wpAnyH_take (i := 0) (oi := { dst := some 20, op := _, type := _, pos := _, after := _, guard := _ }) (v := ?v1x1) rfl (by kernel_rfl) (by kernel_rfl) (by kernel_rfl) (fun _ _ _ h => h) (Or.inl ⟨by rfl, ?hy1x1⟩) hHeld ?rest1x1
  case hy1x1 => (intro w hSw; go_simp <;> with_reducible rfl)
  try simp only [Act.put, List.setIfInBounds_toArray, List.set_cons_zero, List.set_cons_succ]
  refine wpAnyH_take (i := 1) (oi := { dst := some 21, op := _, type := _, pos := _, after := _, guard := _ }) (v := ?v1x2) rfl (by kernel_rfl) (by kernel_rfl) (by kernel_rfl) (fun _ _ _ h => h) (Or.inl ⟨by rfl, ?hy1x2⟩) hHeld ?rest1x2
  case hy1x2 => (intro w hSw; go_simp <;> with_reducible rfl)
  try simp only [Act.put, List.setIfInBounds_toArray, List.set_cons_zero, List.set_cons_succ]
  refine wpAnyH_take (i := 2) (oi := { dst := some 22, op := _, type := _, pos := _, after := _, guard := _ }) (v := ?v1x3) rfl (by kernel_rfl) (by kernel_rfl) (by kernel_rfl) (fun _ _ _ h => h) (Or.inl ⟨by rfl, ?hy1x3⟩) hHeld ?rest1x3
  case hy1x3 => (intro w hSw; go_simp <;> with_reducible rfl)
  try simp only [Act.put, List.setIfInBounds_toArray, List.set_cons_zero, List.set_cons_succ]
  refine wpAnyH_take (i := 3) (oi := { dst := some 23, op := _, type := _, pos := _, after := _, guard := _ }) (v := ?v1x4) rfl (by kernel_rfl) (by kernel_rfl) (by kernel_rfl) (fun _ _ _ h => h) (Or.inl ⟨by rfl, ?hy1x4⟩) hHeld ?rest1x4
  case hy1x4 => (intro w hSw; go_simp <;> with_reducible rfl)
  try simp only [Act.put, List.setIfInBounds_toArray, List.set_cons_zero, List.set_cons_succ]
  refine wpAnyH_take (i := 4) (oi := { dst := some 24, op := _, type := _, pos := _, after := _, guard := _ }) (v := ?v1x5) rfl (by kernel_rfl) (by kernel_rfl) (by kernel_rfl) (fun _ _ _ h => h) (Or.inl ⟨by rfl, ?hy1x5⟩) hHeld ?rest1x5
  case hy1x5 => (intro w hSw; go_simp <;> with_reducible rfl)
  try simp only [Act.put, List.setIfInBounds_toArray, List.set_cons_zero, List.set_cons_succ]
  refine wpAnyH_take (i := 5) (oi := { dst := some 25, op := _, type := _, pos := _, after := _, guard := _ }) (v := ?v1x6) rfl (by kernel_rfl) (by kernel_rfl) (by kernel_rfl) (fun _ _ _ h => h) (Or.inl ⟨by rfl, ?hy1x6⟩) hHeld ?rest1x6
  case hy1x6 => (intro w hSw; go_simp <;> with_reducible rfl)
  try simp only [Act.put, List.setIfInBounds_toArray, List.set_cons_zero, List.set_cons_succ]
  refine wpAnyH_ready (rs := [6]) (by kernel_rfl) (by simp) (AllReadyH.cons (o := { dst := some 26, op := _, type := _, pos := _, after := _, guard := _ }) rfl (fun K hK => ?_) AllReadyH.nil)
  rw [if_pos (by rfl)]
  refine op_appIn (.tmp 22) (.tmp 25) 43 rfl 51 9 Try.underlying43 send_info g i k (n - 1) cs (svs (ws.drop (i + 1))) HB.out (by rfl) B0 (n - (i + 1)) (k - (i + 1)) (by rfl) (by omega) RB.out (svs_one _) (by have := F.out.1; omega) (by rw [F.out.2.1]; have := F.out.1; omega) ?_
  intro w1 hb1 hbut1
  have HB1 := hide hb1
  have BU1 := hide hbut1
  clear hb1 hbut1
  refine hK.out _ _ ?_ (fun hHeld => ?_)
  · exact trivial
  clear hK K
  try simp only [Act.put, List.setIfInBounds_toArray, List.set_cons_zero, List.set_cons_succ]
  refine wpAnyH_take (i := 7) (oi := { dst := some 0, op := _, type := _, pos := _, after := _, guard := _ }) (v := ?v1x8) rfl (by kernel_rfl) (by kernel_rfl) (by kernel_rfl) (fun _ _ _ h => h) (Or.inl ⟨by rfl, ?hy1x8⟩) hHeld ?rest1x8
  case hy1x8 => (intro w hSw; go_simp <;> with_reducible rfl)
  try simp only [Act.put, List.setIfInBounds_toArray, List.set_cons_zero, List.set_cons_succ]
  refine wpAnyH_done (by kernel_rfl) ?_ _
  obtain ⟨hnk, hcl, hct⟩ := F.out
  have hwl := HW.out
  have htk : cs.take (i * 9) = svs (ws.take i) := by
    rw [← svs_take, ← hct, List.take_take]
    congr 1
    omega
  have hl1 : (svs (ws.take i) ++ svs (ws.drop (i + 1))).length = (n - 1) * 9 := by
    rw [List.length_append, svs_length, svs_length, List.length_take, List.length_drop]
    omega
  have hlen : (cs.take (i * 9) ++ svs (ws.drop (i + 1)) ++ cs.drop (i * 9 + (n - (i + 1)) * 9)).length = k * 9 := by
    rw [htk, List.length_append, hl1, List.length_drop, hcl]
    omega
  have hc := fun ty => HCL.out ty w1 _ HB1.out (by rw [hlen]; omega)
  generalize hcs2 : (List.take ((n - 1) * 9) _ ++ _ ++ List.drop _ _) = cs2 at hc
  have HC2 := hide hcs2
  clear hcs2
  have HX := hide (And.intro htk (And.intro hl1 hlen))
  clear htk hl1 hlen f1 f2 f3 q hnk hcl hct hwl
  go_wp2
  go_ret
  obtain ⟨htk, hl1, hlen⟩ := HX.out
  obtain ⟨hnk, hcl, hct⟩ := F.out
  refine ⟨rfl, ?_, But.trans (w := w) (But.after (Below.refl _ _).drew BU1.out) (w' := w1) (w'' := w1.setRow g (arr cs2)) ⟨rfl, rfl, rfl, by simp, fun b _ hb => setRow_other w1 g b _ (fun e => hb e)⟩ (fun _ _ e => e)⟩
  have hB2 := HB1.out.setRow cs2
  have hc2 := HC2.out
  have hfront : (cs.take (i * 9) ++ svs (ws.drop (i + 1)) ++ cs.drop (i * 9 + (n - (i + 1)) * 9)).take ((n - 1) * 9) = svs (ws.take i ++ ws.drop (i + 1)) := by
    rw [htk, svs_append, ← hl1, List.take_left]
  refine ⟨by rw [svs_append]; exact hl1, Or.inr ⟨g, k, _, rfl, Nat.zero_le _, hB2, by omega, ?_, ?_, ?_⟩⟩
  · rcases HOW.out.2 with ⟨hv, _⟩ | ⟨_, _, _, hv, _, _, _, h2, _⟩
    · cases hv
    · injection hv with _ _ e3
      omega
  · rw [arr_size, ← hc2, List.length_append, List.length_append, List.length_take, List.length_drop, hlen]
    show min ((n - 1) * 9) (k * 9) + 9 + _ = _
    simp only [List.length_cons, List.length_nil, Array.size]
    omega
  · rw [arr_toList, ← hc2, List.append_assoc, List.take_append_of_le_length (by rw [List.length_take, hlen]; omega), List.take_take, Nat.min_self]
    exact hfront
end Go.Proofs.Ytfpfijggmfeejaa

namespace Go.Proofs.Ytfpfijggmfeejaa
set_option linter.unusedVariables false
set_option linter.unusedSimpArgs false
open Go.RowKit Go.Maps Go.Shelf

/-- Has the rest ended? -/
def restOver (now rest : Int) (_ : Lit) : DataW Unit → Bool
  | .lit (.int _ since) => decide (rest ≤ IntKind.i64.wrap (now - since))
  | _ => false
set_option maxRecDepth 100000 in
theorem clos_any (key : Value) (since now rest : Int) (bn bm g : Nat) (W : World) (h1 : W.cell? ⟨bn, 0, none⟩ = some (.int .i64 now)) (h2 : W.cell? ⟨bm, 0, none⟩ = some (.pointer (some ⟨g, 0, none⟩))) (h3 : W.cell? ⟨g, 2, none⟩ = some (.int .i64 rest)) :
    Calls Try.prog 44 (#[key, .int .i64 since] ++ #[.pointer (some ⟨bn, 0, none⟩), .pointer (some ⟨bm, 0, none⟩)]) W fun e w' => e = .returned (.bool (decide (rest ≤ IntKind.i64.wrap (now - since)))) ∧ W.grownBy w' none := by
  go_enter Try.func44, Try.ntmps44
  go_wp2_with fail
  refine wp_region_still_tail 8 (by kernel_rfl) (by kernel_rfl) ?_
  simp only [List.take_succ_cons, List.take_zero, List.drop_succ_cons, List.drop_zero]
  repeat still_step
  refine wpStill_nil ?_
  change wpList _ _ _ _ _ W.drew
  go_wp2
  go_ret
  exact ⟨rfl, ⟨rfl, rfl, rfl, Nat.le_refl _, fun _ _ _ => rfl⟩⟩

set_option maxHeartbeats 4000000 in
set_option maxRecDepth 100000 in
theorem delF_any (pd : Lit → DataW Unit → Bool) (cb : Array Value) (b n : Nat) (D : DataW Unit) (w : World) (hown : w.ownsMap Try.prog 3 (plainElem Try.prog 3) b n D)
    (hdel : ∀ (W : World) (x c : Int), w.grownBy W (some b) → Calls Try.prog 44 (#[.int .i64 x, .int .i64 c] ++ cb) W fun e w' => e = .returned (.bool (pd (.int .i64 x) (.lit (.int .i64 c)))) ∧ W.grownBy w' none) :
    Calls Try.prog 43 #[.map (some b), .func (.func 44) #[] cb] w fun e w' => e = .returned (.tuple #[]) ∧ w'.ownsMap Try.prog 3 (plainElem Try.prog 3) b n (Lib.deleteFuncD pd D) ∧ w.grownBy w' (some b) := by
  obtain ⟨es0, rfl, hap, hkeys⟩ := hown.entries int_keyed7
  have eg : ∀ args w, (callFunc 44 args).run Try.prog w = .ok (.enter 44 args) w := enters_of Try.func44 (by kernel_rfl) rfl
  have HD : Aside _ := hdel
  clear hdel
  go_enter Try.func43, Try.ntmps43
  go_wp2_with (first
    | (at_range; refine wpList_range_own _ rfl _ 65 rfl 3 3 int_keyed7 Try.underlying65 _ b n _ rfl hown ?_; intro w0 hrg0 hg0 hs0)
    | go_in)
  go_frame
  go_loopw [8] (fun _ wr => ∃ (left : Lit → Bool) (cnt : Nat), wr.ranges Try.prog 3 (plainElem Try.prog 3) b w.heap.size n (Fk pd es0 left) left cnt ∧ w.grownBy wr (some b))
    (fun _ wr => wr.rangeLeft b w.heap.size)
  case atStart => exact ⟨_, _, by rw [Fk_start hkeys]; exact hrg0, hg0.but _⟩
  case round =>
    obtain ⟨left, cnt, hrg, hgw⟩ := hrel
    go_wp2_with (first
      | (at_next; refine wpList_next_ranges_ii _ rfl _ rfl 3 3 .i64 .i64 int_keyed7 Try.underlying3 Try.underlying3 b w.heap.size n _ _ _ rfl hrg ?_ ?_)
      | go_in)
    · intro _ hl0
      go_wp2
      go_end0
      exact ⟨rfl, by rw [← Fk_end hl0]; exact hrg.owns, hgw⟩
    · intro x c w1 cnt1 hwx hwc hlx hat hrg1 hlt hg1 hs1 hen
      have hgw1 := hgw.andThen hg1 (fun j hj => by cases hj; exact Or.inl (Nat.le_refl _))
      have hc := HD.out w1 x c hgw1
      have hbl := hrg1.owns.lt
      have hrl := hrg1.lt
      cases hp : pd (.int .i64 x) (.lit (.int .i64 c)) <;> rw [hp] at hc
      · go_wp2_with (first
          | (go_at_fn 44; refine hc.mono ?_; rintro e w2 ⟨rfl, hg2⟩)
          | go_in)
        have hrg2 := hrg1.kept hg2 (by simp) (by simp)
        go_roundw
        case rel => exact ⟨_, cnt1, by rw [← Fk_stays hap (kl := .int .i64 x) trivial hlx hp hat]; exact hrg2, hgw1.andThen hg2 (fun j hj => by cases hj)⟩
        case measure => rw [hrg2.left_eq, hrg.left_eq]; exact hlt
      · go_wp2_with (first
          | (go_at_fn 44; refine hc.mono ?_; rintro e w2 ⟨rfl, hg2⟩; have hrg2 := hrg1.kept hg2 (by simp) (by simp))
          | (at_delete; refine wpList_delete_ranges _ rfl _ _ 65 3 rfl 3 int_keyed7 Try.underlying65 _ b w.heap.size n _ _ _ rfl hrg2 _ _ rfl (keyOf_int_mk Try.underlying3 hwx) ?_; intro w3 cnt3 hrg3 hle hturn; go_frame)
          | go_in)
        rw [strike_twice] at hrg3
        go_roundw
        case rel => exact ⟨_, cnt3, by rw [← Fk_struck hap (kl := .int .i64 x) trivial hlx hp hat]; exact hrg3, (hgw1.andThen hg2 (fun j hj => by cases hj)).andThen hturn.grown (fun j hj => by cases hj; exact Or.inr rfl)⟩
        case measure => rw [hrg3.left_eq, hrg.left_eq]; omega

end Go.Proofs.Ytfpfijggmfeejaa

namespace Go.Proofs.Ytfpfijggmfeejaa
set_option linter.unusedVariables false
set_option linter.unusedSimpArgs false
open Go.RowKit Go.Maps

section
variable {pd : Lit → DataW Unit → Bool} {D : DataW Unit} {kl : Lit} {d : DataW Unit}
theorem mem_key {es : List (Lit × DataW Unit)} (h : es.any (fun p => p.1.sameKey kl) = true) : ∃ x, (kl, x) ∈ es := by
  obtain ⟨p, hp, hs⟩ := List.any_eq_true.1 h
  have := WideAt.sameKey_eq hs
  subst this
  exact ⟨p.2, hp⟩
theorem has_delF (ht : Tidy D) (hk : WideAt.IsKeyLit kl) (hat : ∀ zd, D.atKey kl zd = d) (hh : has D kl = true) : has (Lib.deleteFuncD pd D) kl = !pd kl d := by
  obtain ⟨es, rfl, hap⟩ := ht
  obtain ⟨x, hx⟩ := mem_key (hh : es.any _ = true)
  have hxd : x = d := (WideAt.atKey_mem .nil hk hap hx).symm.trans (hat .nil)
  subst hxd
  show (es.filter fun p => !pd p.1 p.2).any (fun p => p.1.sameKey kl) = _
  cases hp : pd kl x
  · exact List.any_eq_true.2 ⟨(kl, x), List.mem_filter.2 ⟨hx, by simp [hp]⟩, WideAt.sameKey_self hk⟩
  · rw [Bool.not_true, List.any_eq_false]
    intro q hq hs
    obtain ⟨hq1, hq2⟩ := List.mem_filter.1 hq
    have e := WideAt.sameKey_eq hs
    obtain ⟨q1, q2⟩ := q
    simp only at e hq2
    subst e
    have : q2 = x := (WideAt.atKey_mem .nil hk hap hq1).symm.trans (hat .nil)
    subst this
    rw [hp] at hq2
    cases hq2
theorem at_delF (ht : Tidy D) (hk : WideAt.IsKeyLit kl) (hat : ∀ zd, D.atKey kl zd = d) (hh : has D kl = true) (hp : pd kl d = false) (zd : DataW Unit) : (Lib.deleteFuncD pd D).atKey kl zd = d := by
  obtain ⟨es, rfl, hap⟩ := ht
  obtain ⟨x, hx⟩ := mem_key (hh : es.any _ = true)
  have hxd : x = d := (WideAt.atKey_mem .nil hk hap hx).symm.trans (hat .nil)
  subst hxd
  exact WideAt.atKey_mem zd hk (hap.filter _) (List.mem_filter.2 ⟨hx, by simp [hp]⟩)
theorem has_delF_no (hD : IsMap D) (hh : has D kl = false) : has (Lib.deleteFuncD pd D) kl = false := by
  obtain ⟨es, rfl⟩ := hD
  show (es.filter fun p => !pd p.1 p.2).any (fun p => p.1.sameKey kl) = false
  rw [List.any_eq_false]
  intro q hq hs
  have := List.any_eq_false.1 (hh : es.any _ = false) q (List.mem_filter.1 hq).1
  exact this hs
end
/-- A unit is in the map just if it rests. -/
def RestX (s : MSt) (D : DataW Unit) : Prop := ∀ u : Int, 0 ≤ u → u ≤ 247 → has D (.int .i64 u) = decide (s.now < s.till u)
theorem RestR.over {s : MSt} {D : DataW Unit} (h : RestR s D) (ht : Tidy D) (hw : s.now ≤ 9223372036854775807) : RestR s (Lib.deleteFuncD (restOver s.now s.rest) D) ∧ RestX s (Lib.deleteFuncD (restOver s.now s.rest) D) := by
  have key : ∀ u : Int, 0 ≤ u → u ≤ 247 → ((has D (.int .i64 u) = true ∧ ∃ since : Int, (∀ zd, D.atKey (.int .i64 u) zd = .lit (.int .i64 since)) ∧ s.till u = since + s.rest ∧ 0 ≤ since ∧ since ≤ s.now ∧ has (Lib.deleteFuncD (restOver s.now s.rest) D) (.int .i64 u) = decide (s.now < s.till u)) ∨ (has D (.int .i64 u) = false ∧ s.till u ≤ s.now ∧ has (Lib.deleteFuncD (restOver s.now s.rest) D) (.int .i64 u) = false)) := by
    intro u h0 h1
    obtain ⟨a, b⟩ := h u h0 h1
    cases hh : has D (.int .i64 u)
    · exact Or.inr ⟨rfl, b hh, has_delF_no ht.isMap hh⟩
    · obtain ⟨since, p, q, r, t⟩ := a hh
      refine Or.inl ⟨rfl, since, p, q, r, t, ?_⟩
      rw [has_delF ht (kl := .int .i64 u) trivial p hh]
      have e : IntKind.i64.wrap (s.now - since) = s.now - since := by rw [IntKind.wrap_i64]; omega
      show (!decide (s.rest ≤ IntKind.i64.wrap (s.now - since))) = _
      rw [e]
      by_cases hd : s.rest ≤ s.now - since
      · rw [decide_eq_true hd, decide_eq_false (by omega)]
        rfl
      · rw [decide_eq_false hd, decide_eq_true (by omega)]
        rfl
  constructor
  · intro u h0 h1
    rcases key u h0 h1 with ⟨hh, since, p, q, r, t, k⟩ | ⟨hh, p, k⟩
    · rw [k]
      refine ⟨fun hd => ⟨since, fun zd => ?_, q, r, t⟩, fun hd => by have := of_decide_eq_false hd; omega⟩
      refine at_delF ht (kl := .int .i64 u) trivial p hh ?_ zd
      have hd := of_decide_eq_true hd
      have e : IntKind.i64.wrap (s.now - since) = s.now - since := by rw [IntKind.wrap_i64]; omega
      show decide (s.rest ≤ IntKind.i64.wrap (s.now - since)) = false
      rw [e]
      exact decide_eq_false (by omega)
    · rw [k]
      exact ⟨(fun hd => by cases hd), fun _ => p⟩
  · intro u h0 h1
    rcases key u h0 h1 with ⟨hh, since, p, q, r, t, k⟩ | ⟨hh, p, k⟩
    · exact k
    · rw [k]
      exact (decide_eq_false (by omega)).symm

theorem grown_but {w w' : World} {b : Nat} (g : w.grownBy w' (some b)) : But (fun i => i = b) w w' :=
  ⟨g.os, g.tape, g.output, g.size, fun i hi hs => g.block i hi (fun e => hs (Option.some.inj e))⟩
def overD (m : ML) (s : MSt) : DataW Unit := Lib.deleteFuncD (restOver s.now s.rest) m.D
theorem msEndRests (m : ML) (s : MSt) (now : Int) (w : World) (h : MsA w m s) (hn : s.now = now) (hw : now ≤ 9223372036854775807) :
    Calls Try.prog 29 #[.pointer (some ⟨m.g, 0, none⟩), .int .i64 now] w fun e w' => e = .returned (.tuple #[]) ∧ MsA w' { m with D := overD m s } s ∧ RestX s (overD m s) ∧ But (fun i => i = m.gm) w w' := by
  subst hn
  obtain ⟨c0, c1, c2, c3, c4, c5, c6, c7⟩ := h.blk.eight
  have hgl := h.blk.lt
  have H := hide h
  have HW := hide hw
  clear h c0 c1 c3 c4 c5 c6 hw
  go_enter Try.func29, Try.ntmps29
  go_wp2_with fail
  generalize hV : (w.alloc _).alloc _ = V
  obtain ⟨zA, zB, bV, sV⟩ := two_boxes w [.pointer (some ⟨m.g, 0, none⟩)] [.int .i64 s.now] _ _ V hV.symm
  clear hV
  have hA := H.out.keep bV
  have c2V : V.cell? ⟨m.g, 2, none⟩ = some (.int .i64 s.rest) := hA.blk.cell 2
  have hml := H.out.mp.lt
  have hne := H.out.ne1
  have hcon := delF_any (restOver s.now s.rest) #[.pointer (some ⟨w.heap.size + 1, 0, none⟩), .pointer (some ⟨w.heap.size, 0, none⟩)] m.gm m.n m.D V hA.mp (fun W x c hg => clos_any _ c s.now s.rest _ _ m.g W (hg.cell (zB.cell 0) (fun e => by have := Option.some.inj e; simp at this; omega)) (hg.cell (zA.cell 0) (fun e => by have := Option.some.inj e; simp at this; omega)) (hg.cell c2V (fun e => by have := Option.some.inj e; simp at this; omega)))
  refine hcon.mono ?_
  rintro e w1 ⟨rfl, m1, g1⟩
  have hb := grown_but g1
  obtain ⟨r1, r2⟩ := H.out.rests.over (H.out.mp.tidy int_keyed7) HW.out
  have hA1 : MsA w1 { m with n := m.n, D := overD m s } s := hA.turnM hb _ _ _ m1 r1 rfl rfl rfl rfl
  have A1 := hide hA1
  have R2 := hide r2
  have BB := hide (But.after bV hb)
  clear hA hcon g1 m1 hb r1 r2 hA1 zA zB bV sV c2V hml hne c2 c7
  go_wp2
  go_end0
  exact ⟨rfl, A1.out, R2.out, BB.out⟩
end Go.Proofs.Ytfpfijggmfeejaa

namespace Go.Proofs.Ytfpfijggmfeejaa
set_option linter.unusedVariables false
set_option linter.unusedSimpArgs false
open Go.RowKit Go.Maps

theorem int_zero7 (w : World) : (zeroValue 3).run Try.prog w = .ok (.int .i64 0) w := by kernel_rfl
/-- _, ok := rests[u]. -/
theorem look7 {w : World} {gm n : Nat} {D : DataW Unit} (h : w.ownsMap Try.prog 3 (plainElem Try.prog 3) gm n D) (u : Int) (h0 : 0 ≤ u) (h1 : u ≤ 247) :
    ∃ c : Int, (Instr.lookup 65 (.map (some gm)) (.int .i64 u) true).run Try.prog w = .ok (.tuple #[.int .i64 c, .bool (has D (.int .i64 u))]) w := by
  obtain ⟨v, ps, hr, hv⟩ := h.look_ok int_keyed7 Try.underlying65 (int_zero7 w) (plainElem_int (a := 0) Try.underlying3 (WalkArith.wf_i64 (by omega))) (keyOf_int_mk Try.underlying3 (WalkArith.wf_i64 (n := u) (by omega)))
  obtain ⟨c, rfl, _⟩ := plainElem_int_inv Try.underlying3 hv
  exact ⟨c, hr⟩
theorem own_head {w : World} {base s : Nat} {e : TypeId} {A : Option Addr} {n c : Nat} {xs : List Value} (h : w.ownsRow base e s (.slice A n c) n xs) (hn : 0 < n) : ∃ g, A = some ⟨g, 0, none⟩ := by
  rcases h.2 with ⟨_, h0⟩ | ⟨g, cap, cur, hv, _⟩
  · omega
  · injection hv with hA _ _
    exact ⟨g, hA⟩
/-- One is taken out of those that wait. -/
theorem MsA.taken {w w' : World} {m : ML} {s : MSt} (h : MsA w m s) (b : But m.S w w') (ws' : List SM) (l' : List Wt) (hm : m.o = none) (hblk : Blk w' m.g 68 (mcs { m with ws := ws' } { s with line := l' }))
    (hrow : w'.ownsRow 0 51 9 (.slice m.A ws'.length m.k) ws'.length (svs ws')) (hsub : ∀ x ∈ ws', x ∈ m.ws) (hl : ws'.map SM.wt = l') (hmp : w'.ownsMap Try.prog 3 (plainElem Try.prog 3) m.gm m.n m.D) : MsA w' { m with ws := ws' } { s with line := l' } := by
  refine ⟨hblk, ⟨hrow, fun x hx => (h.line.own x (hsub x hx)).but b (h.off (h.line.own x (hsub x hx)))⟩, hl, ?_, hmp, h.rests⟩
  have ho := h.out
  show OutA w' m.o s.out s.last
  rw [hm] at ho ⊢
  rcases out_cases s with e | ⟨x, t, e⟩
  · rw [e]
    trivial
  · rw [e] at ho
    exact ho.elim
theorem Blk.drew {w : World} {g : Nat} {t : TypeId} {cs : List Value} (h : Blk w g t cs) : Blk w.drew g t cs := h
/-- What next answers. -/
def RetNext (m : ML) (s : MSt) (w : World) (e : Ending) (w' : World) : Prop :=
  match freeAt s.till s.now s.line with
  | none => e = .returned (.pointer none) ∧ MsA w' m s ∧ Below w.heap.size w w'
  | some (a, x, b) => ∃ (p : Nat) (y : SM) (ws' : List SM), e = .returned (.pointer (some ⟨p, 0, none⟩)) ∧ y.wt = x ∧ Blk w' p 76 (y.vs ++ [.int .i64 0, .int .i64 0]) ∧ y.own w' ∧ w.heap.size ≤ p ∧ MsA w' { m with ws := ws' } { s with line := a ++ b } ∧ But m.S w w'
theorem msNext_empty (m : ML) (s : MSt) (w : World) (h : MsA w m s) (hl : m.ws = []) :
    Calls Try.prog 30 #[.pointer (some ⟨m.g, 0, none⟩)] w (RetNext m s w) := by
  obtain ⟨c0, c1, c2, c3, c4, c5, c6, c7⟩ := h.blk.eight
  have hwl : s.line = [] := by rw [← h.wl, hl]; rfl
  rw [hl] at c5
  have c5' : w.cell? ⟨m.g, 5, none⟩ = some (.slice m.A 0 m.k) := c5
  have H := hide h
  have HL := hide hwl
  clear h c0 c1 c2 c3 c4 c5 c6 c7 hl hwl
  go_enter Try.func30, Try.ntmps30
  go_wp2_with fail
  go_step3
  go_wp2_with fail
  go_step3
  go_wp2_with fail
  refine wp_loop_rounds 1 ?_
  rw [rounds_succ]
  go_wp2
  try rw [Exit.noGoto_ret]
  go_ret
  unfold RetNext
  rw [HL.out]
  exact ⟨rfl, H.out, Below.refl _ _⟩
set_option maxRecDepth 100000 in
set_option maxHeartbeats 4000000 in
theorem msNext (m : ML) (s : MSt) (w : World) (h : MsA w m s) (hx : RestX s m.D) (hm : m.o = none) (hu : ∀ x ∈ s.line, 0 ≤ x.u ∧ x.u ≤ 247) (hl : s.line.length ≤ 1000000) :
    Calls Try.prog 30 #[.pointer (some ⟨m.g, 0, none⟩)] w (RetNext m s w) := by
  by_cases hem : m.ws = []
  · exact msNext_empty m s w h hem
  have hpos : 0 < m.ws.length := List.length_pos_iff.2 hem
  obtain ⟨b, eA⟩ := own_head h.line.row hpos
  obtain ⟨c0, c1, c2, c3, c4, c5, c6, c7⟩ := h.blk.eight
  rw [eA] at c5
  have hgl := h.blk.lt
  have hwl : m.ws.length = s.line.length := by rw [← h.wl, List.length_map]
  have hwn : m.ws.length ≤ 1000000 := by omega
  have HU := hide hu
  have HX := hide hx
  have HM := hide hm
  have H := hide h
  have HL := hide hwl
  have HA := hide eA
  generalize hN : m.ws.length = N at c5 hwn hpos
  have HN := hide hN
  have hmg : ∀ W, Below w.heap.size w W → MsA W m s := fun W hb => h.keep hb
  have HK := hide hmg
  clear h hx hu c0 c1 c2 c3 c4 c6 hwl hl hm eA hN hem hmg
  go_enter Try.func30, Try.ntmps30
  go_wp2_with fail
  go_step3
  go_wp2_with fail
  go_step3
  go_wp2_with fail
  go_loopw [12] (fun x wr => ∃ i : Nat, i ≤ N ∧ x = .int .i64 i ∧ Below w.heap.size w wr ∧ ∀ y ∈ m.ws.take i, has m.D (.int .i64 y.u) = true) (fun x _ => N - (intOf x).toNat)
  case atStart => exact ⟨0, by omega, rfl, Below.refl _ _, by simp⟩
  case round =>
    obtain ⟨i, hi, rfl, hb, hall⟩ := hrel
    have HB := hide hb
    have HALL := hide hall
    clear hall
    by_cases hlt : i < N
    · have q : (i : Int) < (N : Int) := by omega
      have hAr := HK.out wr hb
      have hN := HN.out
      have hiw : m.ws[i]? = some m.ws[i] := List.getElem?_eq_getElem (by omega)
      have hrd := ownS_rd hAr.line.row
      obtain ⟨b', o', eA', hbl, hc⟩ := hrd.2 (by omega)
      rw [HA.out] at eA'
      injection eA' with eA'
      injection eA' with e1 e2 _
      subst e1 e2
      have hcc : ∀ j v, (SM.vs m.ws[i])[j]? = some v → wr.cell? ⟨b, 0 + (i * 9 + j), none⟩ = some v := fun j v hv => hc _ _ ((svs_get m.ws i _ j hiw (by have := (List.getElem?_eq_some_iff.1 hv).1; exact this)).trans hv)
      have hy := hAr.line.own _ (List.getElem_mem (l := m.ws) (n := i) (by omega))
      have hyu := HU.out (SM.wt m.ws[i]) (by rw [← H.out.wl]; exact List.mem_map_of_mem (List.getElem_mem _))
      have HI := hide hiw
      generalize m.ws[i] = y at *
      obtain ⟨tk, u, r, V, k⟩ := y
      have hyu' : 0 ≤ u ∧ u ≤ 247 := hyu
      have d0 : wr.cell? ⟨b, i * 9, none⟩ = some (.int .i64 (tk : Nat)) := by simpa using hcc 0 _ rfl
      have d1 : wr.cell? ⟨b, i * 9 + 1, none⟩ = some (.int .i64 u) := by simpa using hcc 1 _ rfl
      have d2 : wr.cell? ⟨b, i * 9 + 2, none⟩ = some (.int .i64 r.f) := by simpa using hcc 2 _ rfl
      have d3 : wr.cell? ⟨b, i * 9 + 3, none⟩ = some (.int .i64 r.a) := by simpa using hcc 3 _ rfl
      have d4 : wr.cell? ⟨b, i * 9 + 4, none⟩ = some (.int .i64 r.c) := by simpa using hcc 4 _ rfl
      have d5 : wr.cell? ⟨b, i * 9 + 5, none⟩ = some (.slice V r.vs.length k) := by simpa using hcc 5 _ rfl
      have d6 : wr.cell? ⟨b, i * 9 + 6, none⟩ = some (.int .i64 r.t) := by simpa using hcc 6 _ rfl
      have d7 : wr.cell? ⟨b, i * 9 + 7, none⟩ = some (.int .i64 r.an) := by simpa using hcc 7 _ rfl
      have d8 : wr.cell? ⟨b, i * 9 + 8, none⟩ = some (.int .i64 r.o) := by simpa using hcc 8 _ rfl
      have HY := hide hy
      have HAR := hide hAr
      clear hcc hc hrd hAr hy hyu hiw hN hb
      go_wp2_with fail
      generalize hV : wr.alloc _ = U
      obtain ⟨zV, bV⟩ := box1 wr 51 (SM.vs ⟨tk, u, r, V, k⟩) U hV.symm
      clear hV d0 d1 d2 d3 d4 d5 d6 d7 d8
      have hAU := HAR.out.keep bV
      obtain ⟨cv, hlook⟩ := look7 (w := U.drew) hAU.mp u hyu'.1 hyu'.2
      have g7 : U.cell? ⟨m.g, 7, none⟩ = some (.map (some m.gm)) := hAU.blk.cell 7
      have g5 : U.cell? ⟨m.g, 5, none⟩ = some (.slice (some ⟨b, 0, none⟩) N m.k) := by rw [← HA.out, ← HN.out]; exact hAU.blk.cell 5
      have e1 : U.cell? ⟨wr.heap.size, 1, none⟩ = some (.int .i64 u) := zV.cell 1
      have HZ := hide zV
      have HAU := hide hAU
      have HBU := hide (below_on HB.out bV)
      have hsU : wr.heap.size < U.heap.size := zV.lt
      clear zV bV hAU
      cases hh : has m.D (.int .i64 u)
      · rw [hh] at hlook
        refine wp_region_held_drew (S := fun w' => w' = U.drew) (by kernel_rfl) ?_ (fun hHeld => ?_)
        · exact rfl
        refine wpAnyH_take (i := 0) (oi := { dst := some 18, op := _, type := _, pos := _, after := _, guard := _ }) (v := ?v2x1) rfl (by kernel_rfl) (by kernel_rfl) (by kernel_rfl) (fun _ _ _ h => h) (Or.inl ⟨by rfl, ?hy2x1⟩) hHeld ?rest2x1
        case hy2x1 => (intro w hSw; go_simp <;> with_reducible rfl)
        try simp only [Act.put, List.setIfInBounds_toArray, List.set_cons_zero, List.set_cons_succ]
        refine wpAnyH_take (i := 1) (oi := { dst := some 19, op := _, type := _, pos := _, after := _, guard := _ }) (v := ?v2x2) rfl (by kernel_rfl) (by kernel_rfl) (by kernel_rfl) (fun _ _ _ h => h) (Or.inl ⟨by rfl, ?hy2x2⟩) hHeld ?rest2x2
        case hy2x2 => (intro w hSw; go_simp <;> with_reducible rfl)
        try simp only [Act.put, List.setIfInBounds_toArray, List.set_cons_zero, List.set_cons_succ]
        refine wpAnyH_take (i := 2) (oi := { dst := some 20, op := _, type := _, pos := _, after := _, guard := _ }) (v := ?v2x3) rfl (by kernel_rfl) (by kernel_rfl) (by kernel_rfl) (fun _ _ _ h => h) (Or.inl ⟨by rfl, ?hy2x3⟩) hHeld ?rest2x3
        case hy2x3 => (intro w hSw; go_simp <;> with_reducible rfl)
        try simp only [Act.put, List.setIfInBounds_toArray, List.set_cons_zero, List.set_cons_succ]
        refine wpAnyH_take (i := 3) (oi := { dst := some 21, op := _, type := _, pos := _, after := _, guard := _ }) (v := ?v2x4) rfl (by kernel_rfl) (by kernel_rfl) (by kernel_rfl) (fun _ _ _ h => h) (Or.inl ⟨by rfl, ?hy2x4⟩) hHeld ?rest2x4
        case hy2x4 => (intro w hSw; go_simp <;> with_reducible rfl)
        try simp only [Act.put, List.setIfInBounds_toArray, List.set_cons_zero, List.set_cons_succ]
        refine wpAnyH_take (i := 4) (oi := { dst := some 22, op := _, type := _, pos := _, after := _, guard := _ }) (v := ?v2x5) rfl (by kernel_rfl) (by kernel_rfl) (by kernel_rfl) (fun _ _ _ h => h) (Or.inl ⟨by rfl, ?hy2x5⟩) hHeld ?rest2x5
        case hy2x5 => (intro w hSw; go_simp <;> with_reducible rfl)
        try simp only [Act.put, List.setIfInBounds_toArray, List.set_cons_zero, List.set_cons_succ]
        refine wpAnyH_take (i := 5) (oi := { dst := some 23, op := _, type := _, pos := _, after := _, guard := _ }) (v := ?v2x6) rfl (by kernel_rfl) (by kernel_rfl) (by kernel_rfl) (fun _ _ _ h => h) (Or.inl ⟨by rfl, ?hy2x6⟩) hHeld ?rest2x6
        case hy2x6 => (intro w hSw; go_simp <;> with_reducible rfl)
        try simp only [Act.put, List.setIfInBounds_toArray, List.set_cons_zero, List.set_cons_succ]
        refine wpAnyH_take (i := 6) (oi := { dst := some 24, op := _, type := _, pos := _, after := _, guard := _ }) (v := ?v2x7) rfl (by kernel_rfl) (by kernel_rfl) (by kernel_rfl) (fun _ _ _ h => h) (Or.inl ⟨by rfl, ?hy2x7⟩) hHeld ?rest2x7
        case hy2x7 => (intro w hSw; go_simp <;> with_reducible rfl)
        try simp only [Act.put, List.setIfInBounds_toArray, List.set_cons_zero, List.set_cons_succ]
        refine wpAnyH_take (i := 7) (oi := { dst := some 17, op := _, type := _, pos := _, after := _, guard := _ }) (v := ?v2x8) rfl (by kernel_rfl) (by kernel_rfl) (by kernel_rfl) (fun _ _ _ h => h) (Or.inl ⟨by rfl, ?hy2x8⟩) hHeld ?rest2x8
        case hy2x8 => (intro w hSw; go_simp <;> with_reducible rfl)
        try simp only [Act.put, List.setIfInBounds_toArray, List.set_cons_zero, List.set_cons_succ]
        refine wpAnyH_take (i := 8) (oi := { dst := some 25, op := _, type := _, pos := _, after := _, guard := _ }) (v := ?v2x9) rfl (by kernel_rfl) (by kernel_rfl) (by kernel_rfl) (fun _ _ _ h => h) (Or.inl ⟨by rfl, ?hy2x9⟩) hHeld ?rest2x9
        case hy2x9 => (intro w hSw; go_simp <;> with_reducible rfl)
        try simp only [Act.put, List.setIfInBounds_toArray, List.set_cons_zero, List.set_cons_succ]
        refine wpAnyH_take (i := 9) (oi := { dst := some 26, op := _, type := _, pos := _, after := _, guard := _ }) (v := ?v2x10) rfl (by kernel_rfl) (by kernel_rfl) (by kernel_rfl) (fun _ _ _ h => h) (Or.inl ⟨by rfl, ?hy2x10⟩) hHeld ?rest2x10
        case hy2x10 => (intro w hSw; go_simp <;> with_reducible rfl)
        try simp only [Act.put, List.setIfInBounds_toArray, List.set_cons_zero, List.set_cons_succ]
        refine wpAnyH_take (i := 10) (oi := { dst := some 5, op := _, type := _, pos := _, after := _, guard := _ }) (v := ?v2x11) rfl (by kernel_rfl) (by kernel_rfl) (by kernel_rfl) (fun _ _ _ h => h) (Or.inl ⟨by rfl, ?hy2x11⟩) hHeld ?rest2x11
        case hy2x11 => (intro w hSw; go_simp <;> with_reducible rfl)
        try simp only [Act.put, List.setIfInBounds_toArray, List.set_cons_zero, List.set_cons_succ]
        refine wpAnyH_take (i := 11) (oi := { dst := some 6, op := _, type := _, pos := _, after := _, guard := _ }) (v := ?v2x12) rfl (by kernel_rfl) (by kernel_rfl) (by kernel_rfl) (fun _ _ _ h => h) (Or.inl ⟨by rfl, ?hy2x12⟩) hHeld ?rest2x12
        case hy2x12 => (intro w hSw; go_simp <;> with_reducible rfl)
        try simp only [Act.put, List.setIfInBounds_toArray, List.set_cons_zero, List.set_cons_succ]
        refine wpAnyH_done (by kernel_rfl) ?_ _
        clear hlook
        go_wp2_with fail
        have hrow : U.drew.ownsRow 0 51 9 (.slice (some ⟨b, 0, none⟩) N m.k) N (svs m.ws) := by
          have := HAU.out.line.row
          rw [HA.out, HN.out] at this
          exact this
        have hbl' : b < wr.heap.size := ownS_lt HAR.out.line.row b 0 HA.out
        have hbg : b ≠ m.g := (HAU.out.ne2 b 0 HA.out).1
        have hbm : b ≠ m.gm := (HAU.out.ne2 b 0 HA.out).2
        refine (sdel_any b i N m.k _ _ m.ws U.drew hrow hlt hwn rfl (by omega)).mono ?_
        rintro e w2 ⟨rfl, o2, b2⟩
        have zG := HAU.out.blk.drew.but b2 (fun e => hbg e.symm)
        have zP := HZ.out.drew.but b2 (by omega)
        have hmp2 := map_but (w := U.drew) HAU.out.mp b2 (fun e => hbm e.symm)
        have HG := hide zG
        have HP := hide zP
        have HO2 := hide o2
        have HB2 := hide b2
        have HM2 := hide hmp2
        have hs2 := b2.size
        obtain ⟨p0, p1, p2, p3, p4, p5, p6, p7, p8⟩ := Blk.nine zP
        have k5 : w2.cell? ⟨m.g, 5, none⟩ = some (.slice m.A m.ws.length m.k) := zG.cell 5
        have fG := zG.frozen
        have lG := zG.lt
        have lP := zP.lt
        have hpg : m.g < wr.heap.size := HAR.out.blk.lt
        simp only at p0 p1 p2 p3 p4 p5 p6 p7 p8
        clear zG zP hmp2 o2 b2 hrow g7 g5 e1
        go_wp2_with fail
        try rw [Exit.noGoto_ret]
        go_ret
        have hX : But (fun i => i = m.g) w2 (w2.setCell ⟨m.g, 5, none⟩ (.slice (some ⟨b, 0, none⟩) (N - 1) m.k)) := But.setCell w2 _ rfl
        have hGX := HG.out.set 5 (.slice (some ⟨b, 0, none⟩) (N - 1) m.k)
        have hsz : (w2.setCell ⟨m.g, 5, none⟩ (.slice (some ⟨b, 0, none⟩) (N - 1) m.k)).heap.size = w2.heap.size := by simp
        clear p0 p1 p2 p3 p4 p5 p6 p7 p8 k5 fG
        generalize w2.setCell ⟨m.g, 5, none⟩ (.slice (some ⟨b, 0, none⟩) (N - 1) m.k) = X at *
        generalize hY : X.alloc _ = Y
        obtain ⟨zY, bY⟩ := box1 X 76 (SM.vs ⟨tk, u, r, V, k⟩ ++ [Value.int IntKind.i64 (0 : Int), Value.int IntKind.i64 (0 : Int)]) Y hY.symm
        rw [hsz] at zY
        clear hY
        have hN := HN.out
        have hA := HA.out
        have hbw : But m.S w Y := by
          have h1 : But m.S w U.drew := But.ofBelow (below_on HBU.out (Below.refl _ _).drew) _
          have h2 : But m.S w w2 := h1.trans HB2.out (fun i _ e => by subst e; exact Or.inr (Or.inr (Or.inl ⟨0, hA⟩)))
          have h3 : But m.S w X := h2.trans hX (fun i _ e => Or.inl e)
          exact h3.on bY
        have hlen : (m.ws.take i ++ m.ws.drop (i + 1)).length = N - 1 := by
          rw [List.length_append, List.length_take, List.length_drop]
          omega
        have hfree : freeAt s.till s.now s.line = some (s.line.take i, ⟨tk, u, r⟩, s.line.drop (i + 1)) := by
          apply freeAt_at
          · rw [← H.out.wl, List.getElem?_map, HI.out]
            rfl
          · intro z hz
            have hzu := HU.out z (List.mem_of_mem_take hz)
            rw [← H.out.wl, ← List.map_take] at hz
            obtain ⟨y, hy, rfl⟩ := List.mem_map.1 hz
            have := HALL.out y hy
            rw [HX.out y.u hzu.1 hzu.2] at this
            exact of_decide_eq_true this
          · have := HX.out u hyu'.1 hyu'.2
            rw [hh] at this
            have := of_decide_eq_false this.symm
            show s.till u ≤ s.now
            omega
        unfold RetNext
        rw [hfree]
        have hsU2 : w.heap.size ≤ U.heap.size := HBU.out.size
        refine ⟨w2.heap.size, ⟨tk, u, r, V, k⟩, m.ws.take i ++ m.ws.drop (i + 1), rfl, rfl, zY, ?_, ?_, ?_, hbw⟩
        · exact (H.out.line.own ⟨tk, u, r, V, k⟩ (List.mem_of_getElem? HI.out)).but hbw (H.out.off (H.out.line.own ⟨tk, u, r, V, k⟩ (List.mem_of_getElem? HI.out)))
        · have : U.drew.heap.size = U.heap.size := rfl
          omega
        · refine H.out.taken hbw _ _ HM.out ?_ ?_ ?_ ?_ ?_
          · have : mcs { m with ws := m.ws.take i ++ m.ws.drop (i + 1) } { s with line := s.line.take i ++ s.line.drop (i + 1) } = (mcs m s).set 5 (.slice (some ⟨b, 0, none⟩) (N - 1) m.k) := by
              show _ = [_, _, _, _, _, _, _, _]
              unfold mcs
              simp only [hlen, hA]
            rw [this]
            exact hGX.keep bY
          · rw [hlen, hA]
            exact ownS_keep (ownS_but HO2.out hX (fun b' o' e' h' => by injection e' with e'; injection e' with e1 _ _; omega)) bY
          · intro x hx
            rcases List.mem_append.1 hx with hx | hx
            · exact List.mem_of_mem_take hx
            · exact List.mem_of_mem_drop hx
          · rw [List.map_append, List.map_take, List.map_drop, H.out.wl]
          · exact map_but (map_but HM2.out hX (fun e => H.out.ne1 e.symm)) (But.ofBelow bY (fun _ => False)) (fun h => h)
      · rw [hh] at hlook
        refine wp_region_held_drew (S := fun w' => w' = U.drew) (by kernel_rfl) ?_ (fun hHeld => ?_)
        · exact rfl
        refine wpAnyH_take (i := 0) (oi := { dst := some 18, op := _, type := _, pos := _, after := _, guard := _ }) (v := ?v3x1) rfl (by kernel_rfl) (by kernel_rfl) (by kernel_rfl) (fun _ _ _ h => h) (Or.inl ⟨by rfl, ?hy3x1⟩) hHeld ?rest3x1
        case hy3x1 => (intro w hSw; go_simp <;> with_reducible rfl)
        try simp only [Act.put, List.setIfInBounds_toArray, List.set_cons_zero, List.set_cons_succ]
        refine wpAnyH_take (i := 1) (oi := { dst := some 19, op := _, type := _, pos := _, after := _, guard := _ }) (v := ?v3x2) rfl (by kernel_rfl) (by kernel_rfl) (by kernel_rfl) (fun _ _ _ h => h) (Or.inl ⟨by rfl, ?hy3x2⟩) hHeld ?rest3x2
        case hy3x2 => (intro w hSw; go_simp <;> with_reducible rfl)
        try simp only [Act.put, List.setIfInBounds_toArray, List.set_cons_zero, List.set_cons_succ]
        refine wpAnyH_take (i := 2) (oi := { dst := some 20, op := _, type := _, pos := _, after := _, guard := _ }) (v := ?v3x3) rfl (by kernel_rfl) (by kernel_rfl) (by kernel_rfl) (fun _ _ _ h => h) (Or.inl ⟨by rfl, ?hy3x3⟩) hHeld ?rest3x3
        case hy3x3 => (intro w hSw; go_simp <;> with_reducible rfl)
        try simp only [Act.put, List.setIfInBounds_toArray, List.set_cons_zero, List.set_cons_succ]
        refine wpAnyH_take (i := 3) (oi := { dst := some 21, op := _, type := _, pos := _, after := _, guard := _ }) (v := ?v3x4) rfl (by kernel_rfl) (by kernel_rfl) (by kernel_rfl) (fun _ _ _ h => h) (Or.inl ⟨by rfl, ?hy3x4⟩) hHeld ?rest3x4
        case hy3x4 => (intro w hSw; go_simp <;> with_reducible rfl)
        try simp only [Act.put, List.setIfInBounds_toArray, List.set_cons_zero, List.set_cons_succ]
        refine wpAnyH_take (i := 4) (oi := { dst := some 22, op := _, type := _, pos := _, after := _, guard := _ }) (v := ?v3x5) rfl (by kernel_rfl) (by kernel_rfl) (by kernel_rfl) (fun _ _ _ h => h) (Or.inl ⟨by rfl, ?hy3x5⟩) hHeld ?rest3x5
        case hy3x5 => (intro w hSw; go_simp <;> with_reducible rfl)
        try simp only [Act.put, List.setIfInBounds_toArray, List.set_cons_zero, List.set_cons_succ]
        refine wpAnyH_take (i := 5) (oi := { dst := some 23, op := _, type := _, pos := _, after := _, guard := _ }) (v := ?v3x6) rfl (by kernel_rfl) (by kernel_rfl) (by kernel_rfl) (fun _ _ _ h => h) (Or.inl ⟨by rfl, ?hy3x6⟩) hHeld ?rest3x6
        case hy3x6 => (intro w hSw; go_simp <;> with_reducible rfl)
        try simp only [Act.put, List.setIfInBounds_toArray, List.set_cons_zero, List.set_cons_succ]
        refine wpAnyH_take (i := 6) (oi := { dst := some 24, op := _, type := _, pos := _, after := _, guard := _ }) (v := ?v3x7) rfl (by kernel_rfl) (by kernel_rfl) (by kernel_rfl) (fun _ _ _ h => h) (Or.inl ⟨by rfl, ?hy3x7⟩) hHeld ?rest3x7
        case hy3x7 => (intro w hSw; go_simp <;> with_reducible rfl)
        try simp only [Act.put, List.setIfInBounds_toArray, List.set_cons_zero, List.set_cons_succ]
        refine wpAnyH_take (i := 7) (oi := { dst := some 17, op := _, type := _, pos := _, after := _, guard := _ }) (v := ?v3x8) rfl (by kernel_rfl) (by kernel_rfl) (by kernel_rfl) (fun _ _ _ h => h) (Or.inl ⟨by rfl, ?hy3x8⟩) hHeld ?rest3x8
        case hy3x8 => (intro w hSw; go_simp <;> with_reducible rfl)
        try simp only [Act.put, List.setIfInBounds_toArray, List.set_cons_zero, List.set_cons_succ]
        refine wpAnyH_take (i := 8) (oi := { dst := some 25, op := _, type := _, pos := _, after := _, guard := _ }) (v := ?v3x9) rfl (by kernel_rfl) (by kernel_rfl) (by kernel_rfl) (fun _ _ _ h => h) (Or.inl ⟨by rfl, ?hy3x9⟩) hHeld ?rest3x9
        case hy3x9 => (intro w hSw; go_simp <;> with_reducible rfl)
        try simp only [Act.put, List.setIfInBounds_toArray, List.set_cons_zero, List.set_cons_succ]
        refine wpAnyH_take (i := 9) (oi := { dst := some 26, op := _, type := _, pos := _, after := _, guard := _ }) (v := ?v3x10) rfl (by kernel_rfl) (by kernel_rfl) (by kernel_rfl) (fun _ _ _ h => h) (Or.inl ⟨by rfl, ?hy3x10⟩) hHeld ?rest3x10
        case hy3x10 => (intro w hSw; go_simp <;> with_reducible rfl)
        try simp only [Act.put, List.setIfInBounds_toArray, List.set_cons_zero, List.set_cons_succ]
        refine wpAnyH_take (i := 10) (oi := { dst := some 5, op := _, type := _, pos := _, after := _, guard := _ }) (v := ?v3x11) rfl (by kernel_rfl) (by kernel_rfl) (by kernel_rfl) (fun _ _ _ h => h) (Or.inl ⟨by rfl, ?hy3x11⟩) hHeld ?rest3x11
        case hy3x11 => (intro w hSw; go_simp <;> with_reducible rfl)
        try simp only [Act.put, List.setIfInBounds_toArray, List.set_cons_zero, List.set_cons_succ]
        refine wpAnyH_take (i := 11) (oi := { dst := some 6, op := _, type := _, pos := _, after := _, guard := _ }) (v := ?v3x12) rfl (by kernel_rfl) (by kernel_rfl) (by kernel_rfl) (fun _ _ _ h => h) (Or.inl ⟨by rfl, ?hy3x12⟩) hHeld ?rest3x12
        case hy3x12 => (intro w hSw; go_simp <;> with_reducible rfl)
        try simp only [Act.put, List.setIfInBounds_toArray, List.set_cons_zero, List.set_cons_succ]
        refine wpAnyH_done (by kernel_rfl) ?_ _
        clear hlook
        go_wp2_with fail
        go_roundw
        case rel =>
          refine ⟨i + 1, by omega, by go_num, below_on HBU.out (Below.refl _ _).drew, ?_⟩
          intro y hy
          rw [List.take_add_one, HI.out] at hy
          rcases List.mem_append.1 hy with hy | hy
          · exact HALL.out y hy
          · simp at hy
            subst hy
            exact hh
        case measure => simp [intOf]; omega
    · obtain rfl : i = N := by omega
      have q : ¬ (i : Int) < (i : Int) := by omega
      go_wp2
      try rw [Exit.noGoto_ret]
      go_ret
      unfold RetNext
      have hN := HN.out
      have hall := HALL.out
      rw [List.take_of_length_le (by omega)] at hall
      have hf : freeAt s.till s.now s.line = none := by
        apply freeAt_all
        intro z hz
        have hzu := HU.out z hz
        rw [← H.out.wl] at hz
        obtain ⟨y, hy, rfl⟩ := List.mem_map.1 hz
        have := hall y hy
        rw [HX.out y.u hzu.1 hzu.2] at this
        exact of_decide_eq_true this
      rw [hf]
      exact ⟨rfl, HK.out wr HB.out, HB.out⟩
end Go.Proofs.Ytfpfijggmfeejaa
