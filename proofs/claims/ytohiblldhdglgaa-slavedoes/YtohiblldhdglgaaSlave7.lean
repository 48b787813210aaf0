/-
  What is proved here: what slave's New, Set and Get do. Conditions: a slave that lies in memory, its rows words; for New none.
-/
import Derived.Test.YtohiblldhdglgaaSlave6
namespace Go.Proofs.Ytohiblldhdglgaa
set_option linter.unusedVariables false
set_option linter.unusedSimpArgs false
open Go.RowKit

/-- make([]T, n), as one operation. -/
theorem op_mk {P : Program} {w : World} {op : Oper} {a : Act} {K : Act → World → Prop} {Q : Exit → Act → World → Prop} (t e : TypeId) (x y : Operand) (z : Value) (bytes : Nat) (ho : op.op = .makeSlice t x y) (ht : P.underlying t = some (.slice e))
    (hinfo : (P.info? e).map (fun i => (i.zero, i.size, i.bytes)) = some (some z, 1, bytes)) (hz1 : z.cells = #[z]) (n : Nat) (hx : a.eval x = .int .i64 (n : Int)) (hy : a.eval y = .int .i64 (n : Int)) (hbytes : bytes * n ≤ 281474976710656) (h63 : n ≤ 9223372036854775807)
    (h : ∀ w' g, Blk w' g e (List.replicate n z) → w.heap.size ≤ g → Below w.heap.size w w' → K (a.put op.dst (.slice (some ⟨g, 0, none⟩) n n)) w') : op.wp P a w K Q := by
  have hr := run_mk (P := P) t e z bytes ht hinfo hz1 n hbytes h63 w
  unfold Oper.wp execOp
  simp only [ho, hx, hy, Sem.run_bind, Sem.run_pure, Result.andThen_ok, hr]
  exact h _ _ (Blk.new w e _) (Nat.le_refl _) ((Below.refl _ _).alloc (Nat.le_refl _) _)

/-- The rows of a new slave. -/
def newR (nb nw : Nat) : Nat → List Int := fun k => if k < 2 then List.replicate nb 0 else List.replicate nw 0
def four (g1 g2 g3 g4 : Nat) : Nat → Nat := fun k => match k with | 0 => g1 | 1 => g2 | 2 => g3 | _ => g4
theorem iv_rep (n : Nat) : List.replicate n (Value.int .i64 0) = iv (List.replicate n 0) := by simp [iv]
theorem newR_well (nb nw : Nat) (hb : nb ≤ 65536) (hw : nw ≤ 65536) : wellR (newR nb nw) := by
  intro k hk
  unfold newR
  split
  all_goals refine ⟨by simp; omega, fun x hx => ?_⟩
  all_goals have := List.eq_of_mem_replicate hx
  all_goals omega

theorem new_SlA (tS : TypeId) (lo nb nw : Nat) (w : World) (g g1 g2 g3 g4 : Nat) (z1 : Blk w g1 3 (List.replicate nb (.int .i64 0))) (z2 : Blk w g2 3 (List.replicate nb (.int .i64 0))) (z3 : Blk w g3 3 (List.replicate nw (.int .i64 0))) (z4 : Blk w g4 3 (List.replicate nw (.int .i64 0)))
    (zg : Blk w g tS [.slice (some ⟨g1, 0, none⟩) nb nb, .slice (some ⟨g2, 0, none⟩) nb nb, .slice (some ⟨g3, 0, none⟩) nw nw, .slice (some ⟨g4, 0, none⟩) nw nw])
    (l1 : lo ≤ g1) (l2 : lo ≤ g2) (l3 : lo ≤ g3) (l4 : lo ≤ g4) (lg : lo ≤ g) (n12 : g1 ≠ g2) (n13 : g1 ≠ g3) (n14 : g1 ≠ g4) (n23 : g2 ≠ g3) (n24 : g2 ≠ g4) (n34 : g3 ≠ g4) (m1 : g1 ≠ g) (m2 : g2 ≠ g) (m3 : g3 ≠ g) (m4 : g4 ≠ g) :
    SlA tS lo w.heap.size w g (four g1 g2 g3 g4) (newR nb nw) := by
  have r0 : newR nb nw 0 = List.replicate nb 0 := by simp [newR]
  have r1 : newR nb nw 1 = List.replicate nb 0 := by simp [newR]
  have r2 : newR nb nw 2 = List.replicate nw 0 := by simp [newR]
  have r3 : newR nb nw 3 = List.replicate nw 0 := by simp [newR]
  have h1 := z1.lt; have h2 := z2.lt; have h3 := z3.lt; have h4 := z4.lt
  refine ⟨by simpa [rowV, r0, r1, r2, r3, four] using zg, ?_, lg, zg.lt, ?_, ?_, Nat.le_refl _⟩
  · intro k hk
    match k, hk with
    | 0, _ => rw [r0, ← iv_rep]; exact z1
    | 1, _ => rw [r1, ← iv_rep]; exact z2
    | 2, _ => rw [r2, ← iv_rep]; exact z3
    | 3, _ => rw [r3, ← iv_rep]; exact z4
  · intro k hk
    match k, hk with
    | 0, _ => exact ⟨l1, h1, m1⟩
    | 1, _ => exact ⟨l2, h2, m2⟩
    | 2, _ => exact ⟨l3, h3, m3⟩
    | 3, _ => exact ⟨l4, h4, m4⟩
  · intro j k hj hk hne
    match j, k, hj, hk with
    | 0, 0, _, _ => exact absurd rfl hne
    | 0, 1, _, _ => exact n12
    | 0, 2, _, _ => exact n13
    | 0, 3, _, _ => exact n14
    | 1, 0, _, _ => exact n12.symm
    | 1, 1, _, _ => exact absurd rfl hne
    | 1, 2, _, _ => exact n23
    | 1, 3, _, _ => exact n24
    | 2, 0, _, _ => exact n13.symm
    | 2, 1, _, _ => exact n23.symm
    | 2, 2, _, _ => exact absurd rfl hne
    | 2, 3, _, _ => exact n34
    | 3, 0, _, _ => exact n14.symm
    | 3, 1, _, _ => exact n24.symm
    | 3, 2, _, _ => exact n34.symm
    | 3, 3, _, _ => exact absurd rfl hne

/-- New's answer: a slave that lies in memory that is new. -/
def RetNew (tS : TypeId) (nb nw : Nat) (w : World) (x : Ending) (w' : World) : Prop := ∃ g b, x = .returned (.tuple #[.pointer (some ⟨g, 0, none⟩), .int .i64 0]) ∧ SlA tS w.heap.size w'.heap.size w' g b (newR nb nw) ∧ Below w.heap.size w w'

/-! ### Set and Get -/
/-- May this value be set there? -/
def setB (R : Nat → List Int) (kind addr value : Int) : Bool := hasB R kind addr 1 && (decide (0 ≤ value) && decide (value ≤ if kind = 1 ∨ kind = 2 then 1 else 65535))
/-- The rows, once it is. -/
def setR (R : Nat → List Int) (kind addr value : Int) : Nat → List Int := fun j => if (j : Int) + 1 = kind then over (R j) addr.toNat [value] else R j
theorem setR_upd (R : Nat → List Int) (k : Nat) (addr value : Int) : setR R ((k : Int) + 1) addr value = upd R k (over (R k) addr.toNat [value]) := by
  funext j
  unfold setR upd
  by_cases e : j = k
  · subst e; simp
  · rw [if_neg (by omega), if_neg e]
theorem hasB_kind {R : Nat → List Int} {kind addr count : Int} (h : hasB R kind addr count = true) (hc : 1 ≤ count) : ∃ k : Nat, k < 4 ∧ kind = (k : Int) + 1 ∧ 0 ≤ addr ∧ addr ≤ ((R k).length : Int) - count := by
  have hy := hasB_yes h
  rcases kind_or kind with ⟨k, hk, rfl⟩ | hn
  · rw [rowL_kind R k hk] at hy
    exact ⟨k, hk, rfl, hy⟩
  · rw [rowL_no R kind hn] at hy
    simp at hy
    omega
theorem setR_well {R : Nat → List Int} (hw : wellR R) {kind addr value : Int} (h : setB R kind addr value = true) : wellR (setR R kind addr value) := by
  unfold setB at h
  simp only [Bool.and_eq_true, decide_eq_true_eq] at h
  obtain ⟨h1, h2, h3⟩ := h
  obtain ⟨k, hk, rfl, h4, h5⟩ := hasB_kind h1 (by omega)
  rw [setR_upd]
  refine well_upd hw k hk _ _ (by simp; omega) fun x hx => ?_
  obtain rfl : x = value := by simpa using hx
  split at h3 <;> omega

theorem sSet_nil (kind addr value : Int) (w : World) : Calls Try.prog 15 #[.pointer none, .int .i64 kind, .int .i64 addr, .int .i64 value] w fun e w' => e = .returned (.int .i64 3) ∧ w = w' := by
  go_enter Try.func15, Try.ntmps15
  go_wp2
  go_ret
  exact ⟨rfl, rfl⟩

theorem sSet_no (lo hi g : Nat) (b : Nat → Nat) (R : Nat → List Int) (kind addr value : Int) (w : World) (h : SlA 58 lo hi w g b R) (hw : wellR R) (hB : setB R kind addr value = false) :
    Calls Try.prog 15 #[.pointer (some ⟨g, 0, none⟩), .int .i64 kind, .int .i64 addr, .int .i64 value] w fun e w' => e = .returned (.int .i64 1) ∧ Below w.heap.size w w' := by
  have HH := hide (fun W (h : SlA 58 lo hi W g b R) => sHas_any lo hi g b R kind addr 1 W h (hw.len kind) (by omega))
  have HT := hide (fun W => sTop_any kind W)
  have HU := hide (fun W => sUpTo_any value (if kind = 1 ∨ kind = 2 then 1 else 65535) W)
  have H1 := hide h
  unfold setB at hB
  generalize (if kind = 1 ∨ kind = 2 then (1 : Int) else 65535) = tp at *
  cases h1 : hasB R kind addr 1
  · rw [h1] at HH
    clear h hB h1
    go_enter Try.func15, Try.ntmps15
    go_wp2_with fail
    refine (HH.out _ H1.out).mono ?_
    rintro e w1 ⟨rfl, b1⟩
    go_wp2
    go_ret
    exact ⟨rfl, b1⟩
  · rw [h1] at HH hB
    rw [Bool.true_and] at hB
    rw [hB] at HU
    clear h hB h1
    go_enter Try.func15, Try.ntmps15
    go_wp2_with fail
    refine (HH.out _ H1.out).mono ?_
    rintro e w1 ⟨rfl, b1⟩
    go_wp2_with fail
    refine (HT.out _).mono ?_
    rintro e w2 ⟨rfl, rfl⟩
    go_wp2_with fail
    refine (HU.out _).mono ?_
    rintro e w2 ⟨rfl, rfl⟩
    go_wp2
    go_ret
    exact ⟨rfl, b1⟩

theorem iv_over1 (l : List Int) (at_ : Nat) (y : Int) (hlt : at_ < l.length) : (iv l).set at_ (.int .i64 y) = iv (over l at_ [y]) := by
  rw [← iv_over _ _ _ 1 rfl]
  rw [List.set_eq_take_append_cons_drop, if_pos (by rw [iv_length]; exact hlt)]
  simp [iv]

theorem sSet_yes (lo hi g : Nat) (b : Nat → Nat) (R : Nat → List Int) (kind addr value : Int) (w : World) (h : SlA 58 lo hi w g b R) (hw : wellR R) (hB : setB R kind addr value = true) :
    Calls Try.prog 15 #[.pointer (some ⟨g, 0, none⟩), .int .i64 kind, .int .i64 addr, .int .i64 value] w fun e w' => e = .returned (.int .i64 0) ∧ SlA 58 lo hi w' g b (setR R kind addr value) ∧ Oth lo hi w w' := by
  have HH := hide (fun W (h : SlA 58 lo hi W g b R) => sHas_any lo hi g b R kind addr 1 W h (hw.len kind) (by omega))
  have HT := hide (fun W => sTop_any kind W)
  have HU := hide (fun W => sUpTo_any value (if kind = 1 ∨ kind = 2 then 1 else 65535) W)
  have HR := hide (fun W (h : SlA 58 lo hi W g b R) => sRow_any lo hi g b R kind W h)
  have H1 := hide h
  unfold setB at hB
  generalize (if kind = 1 ∨ kind = 2 then (1 : Int) else 65535) = tp at *
  rw [Bool.and_eq_true] at hB
  obtain ⟨h1, h2⟩ := hB
  obtain ⟨k, hk, ek, a0, a1⟩ := hasB_kind h1 (by omega)
  rw [h1] at HH
  rw [h2] at HU
  rw [ek, rowL_kind R k hk, rowA_kind b k hk] at HR
  rw [← ek] at HR
  have EK := hide ek
  clear h h1 h2 ek
  obtain ⟨at_, rfl⟩ : ∃ n : Nat, addr = (n : Int) := ⟨addr.toNat, by omega⟩
  have hlt : at_ < (R k).length := by omega
  have HLT := hide hlt
  go_enter Try.func15, Try.ntmps15
  go_wp2_with fail
  refine (HH.out _ H1.out).mono ?_
  rintro e w1 ⟨rfl, b1⟩
  have B1 := hide b1
  have S1 := hide (H1.out.keep b1)
  clear b1
  go_wp2_with fail
  refine (HT.out _).mono ?_
  rintro e w2 ⟨rfl, rfl⟩
  go_wp2_with fail
  refine (HU.out _).mono ?_
  rintro e w2 ⟨rfl, rfl⟩
  go_wp2_with fail
  refine (HR.out _ S1.out).mono ?_
  rintro e w2 ⟨rfl, rfl⟩
  have c0 : w1.cell? ⟨b k, at_, none⟩ = some (.int .i64 ((R k)[at_])) := by rw [(S1.out.row k hk).cell]; exact iv_get _ _ _
  have cf := (S1.out.row k hk).frozen at_
  go_wp2
  go_ret
  have o1 : Oth (b k) (b k + 1) w1 (w1.setCell ⟨b k, at_, none⟩ (.int .i64 value)) := Oth.setCell w1 _
  have k9 := (S1.out.row k hk).set at_ (.int .i64 value)
  rw [iv_over1 _ _ _ HLT.out] at k9
  rw [EK.out, setR_upd]
  exact ⟨rfl, S1.out.set k hk _ (over_length _ _ _ HLT.out) o1 k9, Oth.after B1.out (S1.out.wide k hk o1)⟩

/-- What Get answers. -/
def getV (R : Nat → List Int) (kind addr : Int) : Int := if hasB R kind addr 1 = true then (rowL R kind)[addr.toNat]?.getD 0 else 0
def getE (R : Nat → List Int) (kind addr : Int) : Int := if hasB R kind addr 1 = true then 0 else 1

theorem sGet_nil (kind addr : Int) (w : World) : Calls Try.prog 17 #[.pointer none, .int .i64 kind, .int .i64 addr] w fun e w' => e = .returned (.tuple #[.int .i64 0, .int .i64 3]) ∧ w = w' := by
  go_enter Try.func17, Try.ntmps17
  go_wp2
  go_ret2
  exact ⟨rfl, rfl⟩

theorem sGet_any (lo hi g : Nat) (b : Nat → Nat) (R : Nat → List Int) (kind addr : Int) (w : World) (h : SlA 58 lo hi w g b R) (hw : wellR R) :
    Calls Try.prog 17 #[.pointer (some ⟨g, 0, none⟩), .int .i64 kind, .int .i64 addr] w fun e w' => e = .returned (.tuple #[.int .i64 (getV R kind addr), .int .i64 (getE R kind addr)]) ∧ Below w.heap.size w w' := by
  have HH := hide (fun W (h : SlA 58 lo hi W g b R) => sHas_any lo hi g b R kind addr 1 W h (hw.len kind) (by omega))
  have HR := hide (fun W (h : SlA 58 lo hi W g b R) => sRow_any lo hi g b R kind W h)
  have H1 := hide h
  unfold getV getE
  cases h1 : hasB R kind addr 1
  · rw [h1] at HH
    rw [if_neg (by simp), if_neg (by simp)]
    clear h h1
    go_enter Try.func17, Try.ntmps17
    go_wp2_with fail
    refine (HH.out _ H1.out).mono ?_
    rintro e w1 ⟨rfl, b1⟩
    go_wp2
    go_ret2
    exact ⟨rfl, b1⟩
  · rw [h1] at HH
    obtain ⟨k, hk, ek, a0, a1⟩ := hasB_kind h1 (by omega)
    rw [if_pos rfl, if_pos rfl]
    rw [show rowL R kind = R k by rw [ek]; exact rowL_kind R k hk] at HR ⊢
    rw [show rowA b kind = some ⟨b k, 0, none⟩ by rw [ek]; exact rowA_kind b k hk] at HR
    clear h h1 ek
    obtain ⟨at_, rfl⟩ : ∃ n : Nat, addr = (n : Int) := ⟨addr.toNat, by omega⟩
    have hlt : at_ < (R k).length := by omega
    rw [show ((R k)[((at_ : Int)).toNat]?).getD 0 = (R k)[at_] by simp [List.getElem?_eq_getElem hlt]]
    have HLT := hide hlt
    go_enter Try.func17, Try.ntmps17
    go_wp2_with fail
    refine (HH.out _ H1.out).mono ?_
    rintro e w1 ⟨rfl, b1⟩
    have B1 := hide b1
    have S1 := hide (H1.out.keep b1)
    clear b1
    go_wp2_with fail
    refine (HR.out _ S1.out).mono ?_
    rintro e w2 ⟨rfl, rfl⟩
    have c0 : w1.cell? ⟨b k, at_, none⟩ = some (.int .i64 ((R k)[at_])) := by rw [(S1.out.row k hk).cell]; exact iv_get _ _ _
    go_wp2
    go_ret2
    exact ⟨rfl, B1.out⟩

end Go.Proofs.Ytohiblldhdglgaa
