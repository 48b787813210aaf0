/-
  What is proved here: what slices.Delete returns of a row of sendings from which one is struck. Condition: at most a million sendings.
-/
import Derived.Test.YtnialjikpoembaaMs5
namespace Go.Proofs.Ytnialjikpoembaa
set_option linter.unusedVariables false
set_option linter.unusedSimpArgs false
open Go.RowKit Go.Maps

theorem send_info : (Try.prog.info? 51).map (·.size) = some 9 := by kernel_rfl
theorem send_info3 : (Try.prog.info? 51).map (fun i => (i.zero, i.size, i.bytes)) = some (some (.agg #[.int .i64 0, .int .i64 0, .int .i64 0, .int .i64 0, .int .i64 0, .slice none 0 0, .int .i64 0, .int .i64 0, .int .i64 0]), 9, 88) := by kernel_rfl
/-- Where x[lo:] begins, an element of s cells. -/
def cutAT (s : Nat) (A : Option Addr) (lo c : Nat) : Option Addr := if c = lo then A else A.map fun a => a.add (lo * s)
theorem run_slTailT {P : Program} (t e : TypeId) (s : Nat) (ht : P.underlying t = some (.slice e)) (hs : (P.info? e).map (·.size) = some s) (A : Option Addr) (l c : Nat) (lo : Int) (lo' : Nat) (elo : lo = lo') (h1 : lo' ≤ l) (w : World) :
    (Instr.slice t (.slice A l c) (some (.int .i64 lo)) none none).run P w = .ok (.slice (cutAT s A lo' c) (l - lo') (c - lo')) w := by
  subst elo
  obtain ⟨i, hi, hsz⟩ := Option.map_eq_some_iff.1 hs
  have a1 : (lo' : Int) ≤ (l : Int) := by omega
  simp [Instr.slice, run_underlying ht, Instr.sliceBounds, run_sliceBound, sizeOf, typeInfo, hi, hsz, cutAT, a1]
theorem run_slToS {P : Program} (t e : TypeId) (s : Nat) (ht : P.underlying t = some (.slice e)) (hs : (P.info? e).map (·.size) = some s) (A : Option Addr) (l c : Nat) (hi : Int) (h' : Nat) (eh : hi = h') (h1 : h' ≤ c) (w : World) :
    (Instr.slice t (.slice A l c) none (some (.int .i64 hi)) none).run P w = .ok (.slice A h' c) w := by
  subst eh
  obtain ⟨i, hi, hsz⟩ := Option.map_eq_some_iff.1 hs
  have a1 : (h' : Int) ≤ (c : Int) := by omega
  have hA : A.map (fun a => a.add 0) = A := by cases A <;> simp [Addr.add]
  simp [Instr.slice, run_underlying ht, Instr.sliceBounds, run_sliceBound, sizeOf, typeInfo, hi, hsz, a1, hA]
/-- x[lo:hi]. -/
theorem run_slMidS {P : Program} (t e : TypeId) (s : Nat) (ht : P.underlying t = some (.slice e)) (hs : (P.info? e).map (·.size) = some s) (A : Option Addr) (l c : Nat) (lo hi : Int) (lo' h' : Nat) (el : lo = lo') (eh : hi = h') (h1 : lo' ≤ h') (h2 : h' ≤ c) (w : World) :
    (Instr.slice t (.slice A l c) (some (.int .i64 lo)) (some (.int .i64 hi)) none).run P w = .ok (.slice (cutAT s A lo' c) (h' - lo') (c - lo')) w := by
  subst el eh
  obtain ⟨i, hi, hsz⟩ := Option.map_eq_some_iff.1 hs
  have a1 : (lo' : Int) ≤ (h' : Int) := by omega
  have a2 : (h' : Int) ≤ (c : Int) := by omega
  simp [Instr.slice, run_underlying ht, Instr.sliceBounds, run_sliceBound, sizeOf, typeInfo, hi, hsz, cutAT, a1, a2]
/-- x[lo:hi:mx]. -/
theorem run_slFullS {P : Program} (t e : TypeId) (s : Nat) (ht : P.underlying t = some (.slice e)) (hs : (P.info? e).map (·.size) = some s) (A : Option Addr) (l c : Nat) (lo hi mx : Int) (lo' h' m' : Nat) (el : lo = lo') (eh : hi = h') (em : mx = m') (h1 : lo' ≤ h') (h2 : h' ≤ m') (h3 : m' ≤ c) (w : World) :
    (Instr.slice t (.slice A l c) (some (.int .i64 lo)) (some (.int .i64 hi)) (some (.int .i64 mx))).run P w = .ok (.slice (cutAT s A lo' m') (h' - lo') (m' - lo')) w := by
  subst el eh em
  obtain ⟨i, hi, hsz⟩ := Option.map_eq_some_iff.1 hs
  have a1 : (lo' : Int) ≤ (h' : Int) := by omega
  have a2 : (h' : Int) ≤ (m' : Int) := by omega
  have a3 : (m' : Int) ≤ (c : Int) := by omega
  simp [Instr.slice, run_underlying ht, Instr.sliceBounds, run_sliceBound, sizeOf, typeInfo, hi, hsz, cutAT, a1, a2, a3]

/-- append(x[:i], x[j:]...), as one operation of a drawn region. -/
theorem op_appIn {P : Program} {w : World} {o : Oper} {a : Act} {K : Act → World → Prop} {Q : Exit → Act → World → Prop} (sl x : Operand) (t : TypeId)
    (ho : o.op = .call { callee := .builtin .append, args := #[sl, x], argTypes := #[t, t] })
    (e : TypeId) (s : Nat) (ht : P.underlying t = some (.slice e)) (hs : (P.info? e).map (·.size) = some s) (g i k N : Nat) (cs ys : List Value) (hB : Blk w g e cs)
    (hsl : a.eval sl = .slice (some ⟨g, 0, none⟩) i k) (B : Addr) (m d : Nat) (hx : a.eval x = .slice (some B) m d) (hN : i + m = N) (hr : Rd w (some B) (m * s) ys) (h1 : ∀ u ∈ ys, u.oneCell' = true) (hroom : N ≤ k) (hfit : i * s + m * s ≤ cs.length)
    (h : ∀ w', Blk w' g e (cs.take (i * s) ++ ys ++ cs.drop (i * s + m * s)) → But (fun b => b = g) w w' → K (a.put o.dst (.slice (some ⟨g, 0, none⟩) N k)) w') : Oper.wp P o a w K Q := by
  obtain ⟨inf, hi, hsz⟩ := Option.map_eq_some_iff.1 hs
  have hl : ys.length = m * inf.size := by rw [hsz]; exact hr.1
  have hrun := run_append_room (P := P) w t o.type e inf ht hi g i k (arr cs) hB B m d ys hl hr.adds h1 (by omega) (by rw [hl, hsz, arr_size]; exact hfit)
  rw [hl, hsz, arr_toList, hN] at hrun
  unfold Oper.wp execOp
  simp only [ho, resolve, invoke, builtin, Sem.run_bind, Sem.run_pure, Result.andThen_ok, List.map_toArray, List.map_cons, List.map_nil, hsl, hx, hrun]
  exact h _ (hB.setRow _) ⟨rfl, rfl, rfl, by simp, fun b _ hb => setRow_other w g b _ (fun e => hb e)⟩

theorem run_clear1 {P : Program} (t e ty : TypeId) (z : Array Value) (ht : P.underlying t = some (.slice e)) (hv : ∀ w, (zeroValue e).run P w = .ok (.agg z) w) (hc : (Value.agg z).cells = z) (h1 : ∀ u ∈ z.toList, u.oneCell' = true) (hz0 : 0 < z.size) (g o c : Nat) (cs : List Value) (w : World) (hB : Blk w g e cs) (hfit : o + z.size ≤ cs.length) :
    (Builtin.clear_ #[t] ty #[.slice (some ⟨g, o, none⟩) 1 c]).run P w = .ok (.tuple #[]) (w.setRow g (arr (cs.take o ++ z.toList ++ cs.drop (o + z.size)))) := by
  have hzc : (Builtin.zeroCells (Value.agg z).cells 1).toList = z.toList := by
    rw [hc]
    unfold Builtin.zeroCells
    apply List.ext_getElem
    · simp
    · intro i h1 h2
      have : i < z.size := by simpa using h2
      simp [Nat.mod_eq_of_lt this, this]
  have hst := run_storeCells_at P g o e z.toList 0 (arr cs) w hB (by rw [arr_size]; simpa using hfit) h1
  simp only [Nat.add_zero, arr_toList, Array.length_toList] at hst
  simp [Builtin.clear_, run_underlying ht, hv, hzc, hst, arr]
theorem send_zero (w : World) : (zeroValue 51).run Try.prog w = .ok (.agg #[.int .i64 0, .int .i64 0, .int .i64 0, .int .i64 0, .int .i64 0, .slice none 0 0, .int .i64 0, .int .i64 0, .int .i64 0]) w := by kernel_rfl
/-- One is struck out of a row. -/
def RetDel (g i n k : Nat) (ws : List SM) (w : World) (e : Ending) (w' : World) : Prop :=
  e = .returned (.slice (some ⟨g, 0, none⟩) (n - 1) k) ∧ w'.ownsRow 0 51 9 (.slice (some ⟨g, 0, none⟩) (n - 1) k) (n - 1) (svs (ws.take i ++ ws.drop (i + 1))) ∧ But (fun b => b = g) w w'
set_option maxRecDepth 100000 in
theorem sdel_any (g i n k : Nat) (ii jj : Int) (ws : List SM) (w : World) (h : w.ownsRow 0 51 9 (.slice (some ⟨g, 0, none⟩) n k) n (svs ws)) (hi : i < n) (hn : n ≤ 1000000) (hii : ii = ((i : Nat) : Int)) (hjj : jj = ((i + 1 : Nat) : Int)) :
    Calls Try.prog 49 #[.slice (some ⟨g, 0, none⟩) n k, .int .i64 ii, .int .i64 jj] w (RetDel g i n k ws w) := by
  have hwl : ws.length = n := by
    have := h.1
    rw [svs_length] at this
    omega
  obtain ⟨cs, hB, hnk, hkm, hcl, hct⟩ : ∃ cs, Blk w g 51 cs ∧ n ≤ k ∧ k ≤ maxLen ∧ cs.length = k * 9 ∧ cs.take (n * 9) = svs ws := by
    rcases h.2 with ⟨hv, _⟩ | ⟨g', cap, cur, hv, _, hh, h1, h2, h3, h4⟩
    · cases hv
    · injection hv with e1 e2 e3
      injection e1 with e1
      injection e1 with e1 _ _
      subst e1 e3
      exact ⟨cur.toList, by simpa [Blk, arr] using hh, h1, h2, by simpa using h3, h4⟩
  have q : (ii == jj) = false := by rw [beq_eq_false_iff_ne]; omega
  have f1 := fun W => run_slFullS (P := Try.prog) 43 51 9 Try.underlying43 send_info (some ⟨g, 0, none⟩) n k ii jj (n : Nat) i (i + 1) n hii hjj rfl (by omega) (by omega) hnk W
  have f2 := fun W => run_slToS (P := Try.prog) 43 51 9 Try.underlying43 send_info (some ⟨g, 0, none⟩) n k ii i hii (by omega) W
  have f3 := fun W => run_slTailT (P := Try.prog) 43 51 9 Try.underlying43 send_info (some ⟨g, 0, none⟩) n k jj (i + 1) hjj (by omega) W
  have f4 := fun W => run_slMidS (P := Try.prog) 43 51 9 Try.underlying43 send_info (some ⟨g, 0, none⟩) (n - 1) k ((n - 1 : Nat) : Int) (n : Nat) (n - 1) n rfl rfl (by omega) (by omega) W
  have hsrc : ∀ W, Blk W g 51 cs → ∃ B, cutAT 9 (some ⟨g, 0, none⟩) (i + 1) k = some B ∧ Rd W (some B) ((n - (i + 1)) * 9) (svs (ws.drop (i + 1))) := by
    intro W hW
    have hl : (svs (ws.drop (i + 1))).length = (n - (i + 1)) * 9 := by rw [svs_length, List.length_drop, hwl]
    unfold cutAT
    split
    · exact ⟨_, rfl, hl, fun h0 => by omega⟩
    · refine ⟨⟨g, (i + 1) * 9, none⟩, by rw [Option.map_some, add_at, Nat.zero_add], hl, fun _ => ⟨g, (i + 1) * 9, rfl, hW.lt, fun j v hv => ?_⟩⟩
      rw [hW.cell]
      rw [← svs_drop, List.getElem?_drop, ← hct, List.getElem?_take] at hv
      split at hv
      · exact hv
      · cases hv
  obtain ⟨B0, eB0, rB0⟩ := hsrc w.drew hB
  rw [eB0] at f3
  have hcut4 : cutAT 9 (some ⟨g, 0, none⟩) (n - 1) k = some ⟨g, (n - 1) * 9, none⟩ := by
    unfold cutAT
    rw [if_neg (by omega), Option.map_some, add_at, Nat.zero_add]
  have e41 : n - (n - 1) = 1 := by omega
  rw [hcut4, e41] at f4
  have hclr := fun ty W cs' (hb : Blk W g 51 cs') (hf : (n - 1) * 9 + 9 ≤ cs'.length) => run_clear1 (P := Try.prog) 43 51 ty _ Try.underlying43 send_zero rfl (by intro u hu; simp at hu; rcases hu with rfl | rfl | rfl <;> rfl) (by decide) g ((n - 1) * 9) (k - (n - 1)) cs' W hb hf
  have F := hide (And.intro hnk (And.intro hcl hct))
  have HB := hide hB
  have HOW := hide h
  have RB := hide rB0
  have HCL := hide hclr
  have HW := hide hwl
  clear h hB hkm hcl hct hsrc rB0 eB0 hcut4 e41 hclr hii hjj hwl hnk
  go_enter Try.func49, Try.ntmps49
  go_wp2_with fail
  refine wp_region_held_drew (S := fun _ => True) (by kernel_rfl) ?_ (fun hHeld => ?_)
  · exact trivial
  refine wpAnyH_take (i := 0) (oi := { dst := some 20, op := _, type := _, pos := _, after := _, guard := _ }) (v := ?v1x1) rfl (by kernel_rfl) (by kernel_rfl) (by kernel_rfl) (fun _ _ _ h => h) (Or.inl ⟨by rfl, ?hy1x1⟩) hHeld ?rest1x1
  case hy1x1 => (intro w hSw; go_simp <;> with_reducible rfl)
  try simp only [Act.put, List.setIfInBounds_toArray, List.set_cons_zero, List.set_cons_succ]
  refine wpAnyH_take (i := 1) (oi := { dst := some 21, op := _, type := _, pos := _, after := _, guard := _ }) (v := ?v1x2) rfl (by kernel_rfl) (by kernel_rfl) (by kernel_rfl) (fun _ _ _ h => h) (Or.inl ⟨by rfl, ?hy1x2⟩) hHeld ?rest1x2
  case hy1x2 => (intro w hSw; go_simp <;> with_reducible rfl)
  try simp only [Act.put, List.setIfInBounds_toArray, List.set_cons_zero, List.set_cons_succ]
  refine wpAnyH_take (i := 2) (oi := { dst := some 22, op := _, type := _, pos := _, after := _, guard := _ }) (v := ?v1x3) rfl (by kernel_rfl) (by kernel_rfl) (by kernel_rfl) (fun _ _ _ h => h) (Or.inl ⟨by rfl, ?hy1x3⟩) hHeld ?rest1x3
  case hy1x3 => (intro w hSw; go_simp <;> with_reducible rfl)
  try simp only [Act.put, List.setIfInBounds_toArray, List.set_cons_zero, List.set_cons_succ]
  refine wpAnyH_take (i := 3) (oi := { dst := some 23, op := _, type := _, pos := _, after := _, guard := _ }) (v := ?v1x4) rfl (by kernel_rfl) (by kernel_rfl) (by kernel_rfl) (fun _ _ _ h => h) (Or.inl ⟨by rfl, ?hy1x4⟩) hHeld ?rest1x4
  case hy1x4 => (intro w hSw; go_simp <;> with_reducible rfl)
  try simp only [Act.put, List.setIfInBounds_toArray, List.set_cons_zero, List.set_cons_succ]
  refine wpAnyH_take (i := 4) (oi := { dst := some 24, op := _, type := _, pos := _, after := _, guard := _ }) (v := ?v1x5) rfl (by kernel_rfl) (by kernel_rfl) (by kernel_rfl) (fun _ _ _ h => h) (Or.inl ⟨by rfl, ?hy1x5⟩) hHeld ?rest1x5
  case hy1x5 => (intro w hSw; go_simp <;> with_reducible rfl)
  try simp only [Act.put, List.setIfInBounds_toArray, List.set_cons_zero, List.set_cons_succ]
  refine wpAnyH_take (i := 5) (oi := { dst := some 25, op := _, type := _, pos := _, after := _, guard := _ }) (v := ?v1x6) rfl (by kernel_rfl) (by kernel_rfl) (by kernel_rfl) (fun _ _ _ h => h) (Or.inl ⟨by rfl, ?hy1x6⟩) hHeld ?rest1x6
  case hy1x6 => (intro w hSw; go_simp <;> with_reducible rfl)
  try simp only [Act.put, List.setIfInBounds_toArray, List.set_cons_zero, List.set_cons_succ]
  refine wpAnyH_ready (rs := [6]) (by kernel_rfl) (by simp) (AllReadyH.cons (o := { dst := some 26, op := _, type := _, pos := _, after := _, guard := _ }) rfl (fun K hK => ?_) AllReadyH.nil)
  rw [if_pos (by rfl)]
  refine op_appIn (.tmp 22) (.tmp 25) 43 rfl 51 9 Try.underlying43 send_info g i k (n - 1) cs (svs (ws.drop (i + 1))) HB.out (by rfl) B0 (n - (i + 1)) (k - (i + 1)) (by rfl) (by omega) RB.out (svs_one _) (by have := F.out.1; omega) (by rw [F.out.2.1]; have := F.out.1; omega) ?_
  intro w1 hb1 hbut1
  have HB1 := hide hb1
  have BU1 := hide hbut1
  clear hb1 hbut1
  refine hK.out _ _ ?_ (fun hHeld => ?_)
  · exact trivial
  clear hK K
  try simp only [Act.put, List.setIfInBounds_toArray, List.set_cons_zero, List.set_cons_succ]
  refine wpAnyH_take (i := 7) (oi := { dst := some 0, op := _, type := _, pos := _, after := _, guard := _ }) (v := ?v1x8) rfl (by kernel_rfl) (by kernel_rfl) (by kernel_rfl) (fun _ _ _ h => h) (Or.inl ⟨by rfl, ?hy1x8⟩) hHeld ?rest1x8
  case hy1x8 => (intro w hSw; go_simp <;> with_reducible rfl)
  try simp only [Act.put, List.setIfInBounds_toArray, List.set_cons_zero, List.set_cons_succ]
  refine wpAnyH_done (by kernel_rfl) ?_ _
  obtain ⟨hnk, hcl, hct⟩ := F.out
  have hwl := HW.out
  have htk : cs.take (i * 9) = svs (ws.take i) := by
    rw [← svs_take, ← hct, List.take_take]
    congr 1
    omega
  have hl1 : (svs (ws.take i) ++ svs (ws.drop (i + 1))).length = (n - 1) * 9 := by
    rw [List.length_append, svs_length, svs_length, List.length_take, List.length_drop]
    omega
  have hlen : (cs.take (i * 9) ++ svs (ws.drop (i + 1)) ++ cs.drop (i * 9 + (n - (i + 1)) * 9)).length = k * 9 := by
    rw [htk, List.length_append, hl1, List.length_drop, hcl]
    omega
  have hc := fun ty => HCL.out ty w1 _ HB1.out (by rw [hlen]; omega)
  generalize hcs2 : (List.take ((n - 1) * 9) _ ++ _ ++ List.drop _ _) = cs2 at hc
  have HC2 := hide hcs2
  clear hcs2
  have HX := hide (And.intro htk (And.intro hl1 hlen))
  clear htk hl1 hlen f1 f2 f3 q hnk hcl hct hwl
  go_wp2
  go_ret
  obtain ⟨htk, hl1, hlen⟩ := HX.out
  obtain ⟨hnk, hcl, hct⟩ := F.out
  refine ⟨rfl, ?_, But.trans (w := w) (But.after (Below.refl _ _).drew BU1.out) (w' := w1) (w'' := w1.setRow g (arr cs2)) ⟨rfl, rfl, rfl, by simp, fun b _ hb => setRow_other w1 g b _ (fun e => hb e)⟩ (fun _ _ e => e)⟩
  have hB2 := HB1.out.setRow cs2
  have hc2 := HC2.out
  have hfront : (cs.take (i * 9) ++ svs (ws.drop (i + 1)) ++ cs.drop (i * 9 + (n - (i + 1)) * 9)).take ((n - 1) * 9) = svs (ws.take i ++ ws.drop (i + 1)) := by
    rw [htk, svs_append, ← hl1, List.take_left]
  refine ⟨by rw [svs_append]; exact hl1, Or.inr ⟨g, k, _, rfl, Nat.zero_le _, hB2, by omega, ?_, ?_, ?_⟩⟩
  · rcases HOW.out.2 with ⟨hv, _⟩ | ⟨_, _, _, hv, _, _, _, h2, _⟩
    · cases hv
    · injection hv with _ _ e3
      omega
  · rw [arr_size, ← hc2, List.length_append, List.length_append, List.length_take, List.length_drop, hlen]
    show min ((n - 1) * 9) (k * 9) + 9 + _ = _
    simp only [List.length_cons, List.length_nil, Array.size]
    omega
  · rw [arr_toList, ← hc2, List.append_assoc, List.take_append_of_le_length (by rw [List.length_take, hlen]; omega), List.take_take, Nat.min_self]
    exact hfront
end Go.Proofs.Ytnialjikpoembaa
