/-
  What is proved here: what the document's own New of layer 4 does. No condition of its own.
-/
import Derived.Test.YtohiblldhdglgaaSlave7
import Derived.LoopTactic
namespace Go.Proofs.Ytohiblldhdglgaa
set_option linter.unusedVariables false
set_option linter.unusedSimpArgs false
open Go.RowKit

/-- How long row j is. -/
def szR (nb nw j : Nat) : Nat := if j < 2 then nb else nw
/-- A row that is there, or not yet. -/
def partV (gs : Nat → Nat) (nb nw k j : Nat) : Value := if j < k then .slice (some ⟨gs j, 0, none⟩) (szR nb nw j) (szR nb nw j) else .slice none 0 0
/-- The first k rows of a new slave are made. -/
structure NewP (tS : TypeId) (w : World) (g : Nat) (gs : Nat → Nat) (nb nw k : Nat) (W : World) : Prop where
  str : Blk W g tS [partV gs nb nw k 0, partV gs nb nw k 1, partV gs nb nw k 2, partV gs nb nw k 3]
  row : ∀ j, j < k → Blk W (gs j) 3 (List.replicate (szR nb nw j) (.int .i64 0))
  ge : ∀ j, j < k → w.heap.size ≤ gs j ∧ gs j ≠ g
  ap : ∀ i j, i < k → j < k → i ≠ j → gs i ≠ gs j
  gl : w.heap.size ≤ g
  bel : Below w.heap.size w W

theorem partV_set (gs : Nat → Nat) (nb nw k j g' : Nat) (hj : j ≠ k) : partV (fun i => if i = k then g' else gs i) nb nw (k + 1) j = partV gs nb nw k j := by
  unfold partV
  by_cases h : j < k
  · rw [if_pos (by omega), if_pos h]; simp [hj]
  · rw [if_neg (by omega), if_neg h]
theorem partV_new (gs : Nat → Nat) (nb nw k g' : Nat) : partV (fun i => if i = k then g' else gs i) nb nw (k + 1) k = .slice (some ⟨g', 0, none⟩) (szR nb nw k) (szR nb nw k) := by
  unfold partV
  rw [if_pos (by omega)]
  simp
theorem NewP.next {tS : TypeId} {w W U : World} {g : Nat} {gs : Nat → Nat} {nb nw k g' : Nat} (h : NewP tS w g gs nb nw k W) (hk : k < 4) (b : Below W.heap.size W U) (z : Blk U g' 3 (List.replicate (szR nb nw k) (.int .i64 0))) (ge : W.heap.size ≤ g') :
    NewP tS w g (fun i => if i = k then g' else gs i) nb nw (k + 1) (U.setCell ⟨g, k, none⟩ (.slice (some ⟨g', 0, none⟩) (szR nb nw k) (szR nb nw k))) := by
  have hg := h.str.lt
  have hne : g ≠ g' := by omega
  refine ⟨?_, ?_, ?_, ?_, h.gl, (below_on h.bel b).setCell h.gl _⟩
  · have hs := (h.str.keep b).set k (.slice (some ⟨g', 0, none⟩) (szR nb nw k) (szR nb nw k))
    match k, hk with
    | 0, _ =>
      rw [partV_new, partV_set _ _ _ _ _ _ (by omega), partV_set _ _ _ _ _ _ (by omega), partV_set _ _ _ _ _ _ (by omega)]
      exact hs
    | 1, _ =>
      rw [partV_new, partV_set _ _ _ _ _ _ (by omega), partV_set _ _ _ _ _ _ (by omega), partV_set _ _ _ _ _ _ (by omega)]
      exact hs
    | 2, _ =>
      rw [partV_new, partV_set _ _ _ _ _ _ (by omega), partV_set _ _ _ _ _ _ (by omega), partV_set _ _ _ _ _ _ (by omega)]
      exact hs
    | 3, _ =>
      rw [partV_new, partV_set _ _ _ _ _ _ (by omega), partV_set _ _ _ _ _ _ (by omega), partV_set _ _ _ _ _ _ (by omega)]
      exact hs
  · intro j hj
    by_cases e : j = k
    · subst e
      rw [if_pos rfl]
      exact z.oth hne _ _
    · rw [if_neg e]
      exact ((h.row j (by omega)).keep b).oth (h.ge j (by omega)).2.symm _ _
  · intro j hj
    by_cases e : j = k
    · subst e
      rw [if_pos rfl]
      exact ⟨by have := h.bel.size; omega, hne.symm⟩
    · rw [if_neg e]
      exact h.ge j (by omega)
  · intro i j hi hj hij
    by_cases e : i = k
    · subst e
      rw [if_pos rfl, if_neg (fun h => hij h.symm)]
      have := (h.row j (by omega)).lt
      omega
    · rw [if_neg e]
      by_cases e' : j = k
      · subst e'
        rw [if_pos rfl]
        have := (h.row i (by omega)).lt
        omega
      · rw [if_neg e']
        exact h.ap i j (by omega) (by omega) hij
theorem NewP.start (tS : TypeId) (w : World) (nb nw : Nat) (gs : Nat → Nat) : NewP tS w w.heap.size gs nb nw 0 (w.alloc (.cells #[.slice none 0 0, .slice none 0 0, .slice none 0 0, .slice none 0 0] tS)) :=
  ⟨Blk.new w tS _, fun j hj => by omega, fun j hj => by omega, fun i j hi => by omega, Nat.le_refl _, (Below.refl _ _).alloc (Nat.le_refl _) _⟩
theorem NewP.done {tS : TypeId} {w W : World} {g : Nat} {gs : Nat → Nat} {nb nw : Nat} (h : NewP tS w g gs nb nw 4 W) : SlA tS w.heap.size W.heap.size W g gs (newR nb nw) := by
  refine ⟨?_, ?_, h.gl, h.str.lt, fun k hk => ⟨(h.ge k hk).1, (h.row k hk).lt, (h.ge k hk).2⟩, h.ap, Nat.le_refl _⟩
  · have := h.str
    simpa [partV, szR, rowV, newR] using this
  · intro k hk
    have := h.row k hk
    rw [iv_rep] at this
    unfold szR at this
    unfold newR
    split
    · rwa [if_pos (by assumption)] at this
    · rwa [if_neg (by assumption)] at this

theorem rNew_no (bits words : Int) (h : ¬ (0 ≤ bits ∧ bits ≤ 65536) ∨ ¬ (0 ≤ words ∧ words ≤ 65536)) (w : World) :
    Calls Try.prog 9 #[.int .i64 bits, .int .i64 words] w fun e w' => e = .returned (.tuple #[.pointer none, .bool false]) ∧ w = w' := by
  cases h1 : decide (bits < 0)
  case true =>
    go_enter Try.func9, Try.ntmps9
    go_wp2
    go_ret2
    exact ⟨rfl, rfl⟩
  cases h2 : decide (65536 < bits)
  case true =>
    go_enter Try.func9, Try.ntmps9
    go_wp2
    go_ret2
    exact ⟨rfl, rfl⟩
  cases h3 : decide (words < 0)
  case true =>
    go_enter Try.func9, Try.ntmps9
    go_wp2
    go_ret2
    exact ⟨rfl, rfl⟩
  cases h4 : decide (65536 < words)
  case true =>
    go_enter Try.func9, Try.ntmps9
    go_wp2
    go_ret2
    exact ⟨rfl, rfl⟩
  simp at h1 h2 h3 h4
  omega

def RetRNew (nb nw : Nat) (w : World) (x : Ending) (w' : World) : Prop := ∃ g b, x = .returned (.tuple #[.pointer (some ⟨g, 0, none⟩), .bool true]) ∧ SlA 50 w.heap.size w'.heap.size w' g b (newR nb nw) ∧ Below w.heap.size w w'

theorem NewP.cell {tS : TypeId} {w W U : World} {g : Nat} {gs : Nat → Nat} {nb nw k : Nat} (h : NewP tS w g gs nb nw k W) (hk : k < 4) (b : Below W.heap.size W U) : U.cell? ⟨g, k, none⟩ = some (.slice none 0 0) ∧ U.frozen? ⟨g, k, none⟩ = false := by
  refine ⟨?_, (h.str.keep b).frozen k⟩
  rw [(h.str.keep b).cell]
  match k, hk with
  | 0, _ => simp [partV]
  | 1, _ => simp [partV]
  | 2, _ => simp [partV]
  | 3, _ => simp [partV]

set_option maxHeartbeats 1000000 in
theorem rNew_ok (bits words : Int) (nb nw : Nat) (hb : bits = (nb : Int)) (hw : words = (nw : Int)) (hnb : nb ≤ 65536) (hnw : nw ≤ 65536) (w : World) :
    Calls Try.prog 9 #[.int .i64 bits, .int .i64 words] w (RetRNew nb nw w) := by
  subst hb hw
  have q1 : decide ((nb : Int) < 0) = false := by simp
  have q2 : decide (65536 < (nb : Int)) = false := by simp; omega
  have q3 : decide ((nw : Int) < 0) = false := by simp
  have q4 : decide (65536 < (nw : Int)) = false := by simp; omega
  go_enter Try.func9, Try.ntmps9
  go_wp2
  go_loopw [7] (fun i wr => ∃ (k : Nat) (gs : Nat → Nat), k ≤ 4 ∧ i = .int .i64 (k : Int) ∧ NewP 50 w w.heap.size gs nb nw k wr) (fun i _ => 4 - (intOf i).toNat)
  case atStart => exact ⟨0, fun _ => 0, by omega, rfl, NewP.start _ _ _ _ _⟩
  case round =>
    obtain ⟨k, gs, hk, rfl, hp⟩ := hrel
    have HP := hide hp
    clear hp
    by_cases hlt : k < 4
    · by_cases h1 : 1 < k
      · have esz : szR nb nw k = nw := by unfold szR; rw [if_neg (by omega)]
        have ESZ := hide esz
        clear esz
        go_wp2_with fail
        have k0 : 0 ≤ (k : Int) := by omega
        have k4 : (k : Int) < 4 := by omega
        refine wp_region_held_drew (S := fun _ => True) (by kernel_rfl) ?_ (fun hHeld => ?_)
        · exact trivial
        refine wpAnyH_take (i := 0) (oi := { dst := some 33, op := _, type := _, pos := _, after := _, guard := _ }) (v := ?v1x1) rfl (by kernel_rfl) (by kernel_rfl) (by kernel_rfl) (fun _ _ _ h => h) (Or.inl ⟨by rfl, ?hy1x1⟩) hHeld ?rest1x1
        case hy1x1 => (intro w hSw; go_simp <;> with_reducible rfl)
        try simp only [Act.put, List.setIfInBounds_toArray, List.set_cons_zero, List.set_cons_succ]
        refine wpAnyH_take (i := 1) (oi := { dst := some 34, op := _, type := _, pos := _, after := _, guard := _ }) (v := ?v1x2) rfl (by kernel_rfl) (by kernel_rfl) (by kernel_rfl) (fun _ _ _ h => h) (Or.inl ⟨by rfl, ?hy1x2⟩) hHeld ?rest1x2
        case hy1x2 => (intro w hSw; go_simp <;> with_reducible rfl)
        try simp only [Act.put, List.setIfInBounds_toArray, List.set_cons_zero, List.set_cons_succ]
        refine wpAnyH_take (i := 2) (oi := { dst := some 35, op := _, type := _, pos := _, after := _, guard := _ }) (v := ?v1x3) rfl (by kernel_rfl) (by kernel_rfl) (by kernel_rfl) (fun _ _ _ h => h) (Or.inl ⟨by rfl, ?hy1x3⟩) hHeld ?rest1x3
        case hy1x3 => (intro w hSw; go_simp <;> with_reducible rfl)
        try simp only [Act.put, List.setIfInBounds_toArray, List.set_cons_zero, List.set_cons_succ]
        refine wpAnyH_take (i := 4) (oi := { dst := some 37, op := _, type := _, pos := _, after := _, guard := _ }) (v := ?v1x4) rfl (by kernel_rfl) (by kernel_rfl) (by kernel_rfl) (fun _ _ _ h => h) (Or.inl ⟨by rfl, ?hy1x4⟩) hHeld ?rest1x4
        case hy1x4 => (intro w hSw; go_simp <;> with_reducible rfl)
        try simp only [Act.put, List.setIfInBounds_toArray, List.set_cons_zero, List.set_cons_succ]
        refine wpAnyH_take (i := 5) (oi := { dst := some 38, op := _, type := _, pos := _, after := _, guard := _ }) (v := ?v1x5) rfl (by kernel_rfl) (by kernel_rfl) (by kernel_rfl) (fun _ _ _ h => h) (Or.inl ⟨by rfl, ?hy1x5⟩) hHeld ?rest1x5
        case hy1x5 => (intro w hSw; go_simp <;> with_reducible rfl)
        try simp only [Act.put, List.setIfInBounds_toArray, List.set_cons_zero, List.set_cons_succ]
        refine wpAnyH_ready (rs := [3]) (by kernel_rfl) (by simp) (AllReadyH.cons (o := { dst := some 36, op := _, type := _, pos := _, after := _, guard := _ }) rfl (fun K hK => ?_) AllReadyH.nil)
        rw [if_pos (by rfl)]
        refine op_mk 32 3 (.tmp 35) (.tmp 35) (.int .i64 0) 8 rfl Try.underlying32 int_info rfl nw rfl rfl (by omega) (by omega) ?_
        intro U g' z' ge' bU
        replace bU := below_on (Below.refl wr.heap.size wr).drew bU
        have Z' := hide z'
        have GE : Hid (wr.heap.size ≤ g') := ge'
        have BU := hide bU
        obtain ⟨hc, hf⟩ := HP.out.cell hlt bU
        clear z' ge' bU
        refine hK.out _ _ ?_ (fun hHeld => ?_)
        · exact trivial
        clear hK K
        try simp only [Act.put, List.setIfInBounds_toArray, List.set_cons_zero, List.set_cons_succ]
        refine wpAnyH_take (i := 6) (oi := { dst := some 39, op := _, type := _, pos := _, after := _, guard := _ }) (v := ?v1x7) rfl (by kernel_rfl) (by kernel_rfl) (by kernel_rfl) (fun _ _ _ h => h) (Or.inl ⟨by rfl, ?hy1x7⟩) hHeld ?rest1x7
        case hy1x7 => (intro w hSw; go_simp <;> with_reducible rfl)
        try simp only [Act.put, List.setIfInBounds_toArray, List.set_cons_zero, List.set_cons_succ]
        refine wpAnyH_ready (rs := [7]) (by kernel_rfl) (by simp) (AllReadyH.cons (o := { dst := none, op := _, type := _, pos := _, after := _, guard := _ }) rfl (fun K hK => ?_) AllReadyH.nil)
        go_simp
        go_wp2_with fail
        refine hK.out _ _ ?_ (fun hHeld => ?_)
        · exact trivial
        clear hK K
        try simp only [Act.put, List.setIfInBounds_toArray, List.set_cons_zero, List.set_cons_succ]
        refine wpAnyH_done (by kernel_rfl) ?_ _
        go_wp2_with fail
        go_roundw
        case rel =>
          have hz := Z'.out
          rw [← ESZ.out] at hz
          have hn := HP.out.next hlt BU.out hz GE.out
          rw [ESZ.out] at hn
          exact ⟨k + 1, _, by omega, by go_num, hn⟩
        case measure => simp [intOf]; omega
      · have esz : szR nb nw k = nb := by unfold szR; rw [if_pos (by omega)]
        have ESZ := hide esz
        clear esz
        go_wp2_with fail
        have k0 : 0 ≤ (k : Int) := by omega
        have k4 : (k : Int) < 4 := by omega
        refine wp_region_held_drew (S := fun _ => True) (by kernel_rfl) ?_ (fun hHeld => ?_)
        · exact trivial
        refine wpAnyH_take (i := 0) (oi := { dst := some 33, op := _, type := _, pos := _, after := _, guard := _ }) (v := ?v2x1) rfl (by kernel_rfl) (by kernel_rfl) (by kernel_rfl) (fun _ _ _ h => h) (Or.inl ⟨by rfl, ?hy2x1⟩) hHeld ?rest2x1
        case hy2x1 => (intro w hSw; go_simp <;> with_reducible rfl)
        try simp only [Act.put, List.setIfInBounds_toArray, List.set_cons_zero, List.set_cons_succ]
        refine wpAnyH_take (i := 1) (oi := { dst := some 34, op := _, type := _, pos := _, after := _, guard := _ }) (v := ?v2x2) rfl (by kernel_rfl) (by kernel_rfl) (by kernel_rfl) (fun _ _ _ h => h) (Or.inl ⟨by rfl, ?hy2x2⟩) hHeld ?rest2x2
        case hy2x2 => (intro w hSw; go_simp <;> with_reducible rfl)
        try simp only [Act.put, List.setIfInBounds_toArray, List.set_cons_zero, List.set_cons_succ]
        refine wpAnyH_take (i := 2) (oi := { dst := some 35, op := _, type := _, pos := _, after := _, guard := _ }) (v := ?v2x3) rfl (by kernel_rfl) (by kernel_rfl) (by kernel_rfl) (fun _ _ _ h => h) (Or.inl ⟨by rfl, ?hy2x3⟩) hHeld ?rest2x3
        case hy2x3 => (intro w hSw; go_simp <;> with_reducible rfl)
        try simp only [Act.put, List.setIfInBounds_toArray, List.set_cons_zero, List.set_cons_succ]
        refine wpAnyH_take (i := 4) (oi := { dst := some 37, op := _, type := _, pos := _, after := _, guard := _ }) (v := ?v2x4) rfl (by kernel_rfl) (by kernel_rfl) (by kernel_rfl) (fun _ _ _ h => h) (Or.inl ⟨by rfl, ?hy2x4⟩) hHeld ?rest2x4
        case hy2x4 => (intro w hSw; go_simp <;> with_reducible rfl)
        try simp only [Act.put, List.setIfInBounds_toArray, List.set_cons_zero, List.set_cons_succ]
        refine wpAnyH_take (i := 5) (oi := { dst := some 38, op := _, type := _, pos := _, after := _, guard := _ }) (v := ?v2x5) rfl (by kernel_rfl) (by kernel_rfl) (by kernel_rfl) (fun _ _ _ h => h) (Or.inl ⟨by rfl, ?hy2x5⟩) hHeld ?rest2x5
        case hy2x5 => (intro w hSw; go_simp <;> with_reducible rfl)
        try simp only [Act.put, List.setIfInBounds_toArray, List.set_cons_zero, List.set_cons_succ]
        refine wpAnyH_ready (rs := [3]) (by kernel_rfl) (by simp) (AllReadyH.cons (o := { dst := some 36, op := _, type := _, pos := _, after := _, guard := _ }) rfl (fun K hK => ?_) AllReadyH.nil)
        rw [if_pos (by rfl)]
        refine op_mk 32 3 (.tmp 35) (.tmp 35) (.int .i64 0) 8 rfl Try.underlying32 int_info rfl nb rfl rfl (by omega) (by omega) ?_
        intro U g' z' ge' bU
        replace bU := below_on (Below.refl wr.heap.size wr).drew bU
        have Z' := hide z'
        have GE : Hid (wr.heap.size ≤ g') := ge'
        have BU := hide bU
        obtain ⟨hc, hf⟩ := HP.out.cell hlt bU
        clear z' ge' bU
        refine hK.out _ _ ?_ (fun hHeld => ?_)
        · exact trivial
        clear hK K
        try simp only [Act.put, List.setIfInBounds_toArray, List.set_cons_zero, List.set_cons_succ]
        refine wpAnyH_take (i := 6) (oi := { dst := some 39, op := _, type := _, pos := _, after := _, guard := _ }) (v := ?v2x7) rfl (by kernel_rfl) (by kernel_rfl) (by kernel_rfl) (fun _ _ _ h => h) (Or.inl ⟨by rfl, ?hy2x7⟩) hHeld ?rest2x7
        case hy2x7 => (intro w hSw; go_simp <;> with_reducible rfl)
        try simp only [Act.put, List.setIfInBounds_toArray, List.set_cons_zero, List.set_cons_succ]
        refine wpAnyH_ready (rs := [7]) (by kernel_rfl) (by simp) (AllReadyH.cons (o := { dst := none, op := _, type := _, pos := _, after := _, guard := _ }) rfl (fun K hK => ?_) AllReadyH.nil)
        go_simp
        go_wp2_with fail
        refine hK.out _ _ ?_ (fun hHeld => ?_)
        · exact trivial
        clear hK K
        try simp only [Act.put, List.setIfInBounds_toArray, List.set_cons_zero, List.set_cons_succ]
        refine wpAnyH_done (by kernel_rfl) ?_ _
        go_wp2_with fail
        go_roundw
        case rel =>
          have hz := Z'.out
          rw [← ESZ.out] at hz
          have hn := HP.out.next hlt BU.out hz GE.out
          rw [ESZ.out] at hn
          exact ⟨k + 1, _, by omega, by go_num, hn⟩
        case measure => simp [intOf]; omega
    · obtain rfl : k = 4 := by omega
      go_wp2
      go_ret2
      exact ⟨_, _, rfl, HP.out.done, HP.out.bel⟩

end Go.Proofs.Ytohiblldhdglgaa
