/-
  What is proved here: what New and the index's own enter return and do. Conditions: texts of at most 65535 bytes; at most a million calls.
-/
import Derived.Test.YtfjafpbmgbnllaaGreatSp1
import Derived.Test.YtfjafpbmgbnllaaGreatRoundReg
import Derived.Test.YtfjafpbmgbnllaaGreatBox2
import Derived.Deep.RegionHeld3
import Derived.StillTailTactics
import Derived.Deep.DeepCutAuto
import Derived.Carry
import Derived.Laws.Cover3
namespace Go.Proofs.YtfjafpbmgbnllaaGreat
set_option linter.unusedVariables false
set_option linter.unusedSimpArgs false
open Go.RowKit Go.Maps

theorem run_eql_map (g : Option Nat) (w : World) : (Go.binOp .eql 66 (.map g) (.map none)).run Tryz.prog w = .ok (.bool g.isNone) w := by
  have h2 := run_equal_map_nil (P := Tryz.prog) (w := w) 66 9 80 g Tryz.underlying66
  simp only [Go.binOp]
  simp [h2]
/-- What New answers. -/
def RetNw (w : World) (e : Ending) (w' : World) : Prop :=
  ∃ m : Px, e = .returned (.pointer (some ⟨m.B, 0, none⟩)) ∧ PxA w' m ∧ m.L = [] ∧ m.tn = 0 ∧ m.K = 0 ∧ (∀ i, m.S i → w.heap.size ≤ i) ∧ Below w.heap.size w w'
theorem pNew_any (w : World) : Calls Tryz.prog 5 #[] w (RetNw w) := by
  have hmm := @run_makeMap Tryz.prog
  go_enter Tryz.func5, Tryz.ntmps5
  go_wp2
  go_ret
  obtain ⟨W1, h1⟩ : ∃ W1, w.alloc (.map #[] 0) = W1 := ⟨_, rfl⟩
  have e1 : W1.heap.size = w.heap.size + 1 := by rw [← h1]; simp
  have b1 : Below w.heap.size w W1 := by rw [← h1]; exact (Below.refl _ _).alloc (Nat.le_refl _) _
  have m1 : OW W1 w.heap.size 0 (.map []) := by rw [← h1]; exact World.ownsMap_made w Tryz.prog 59 RW
  obtain ⟨W2, h2⟩ : ∃ W2, W1.alloc (.map #[] 0) = W2 := ⟨_, rfl⟩
  have e2 : W2.heap.size = w.heap.size + 2 := by rw [← h2]; simp [e1]
  have b2 : Below W1.heap.size W1 W2 := by rw [← h2]; exact (Below.refl _ _).alloc (Nat.le_refl _) _
  have m2 : OF W2 (w.heap.size + 1) 0 (.map []) := by rw [← h2, ← e1]; exact World.ownsMap_made W1 Tryz.prog 9 RM
  have m1' : OW W2 w.heap.size 0 (.map []) := map_same m1 (b2.block _ m1.lt)
  have hB : Blk (W2.alloc (.cells #[.map (some w.heap.size), .map (some (w.heap.size + 1)), .int .i64 0] 56)) W2.heap.size 56 [.map (some w.heap.size), .map (some (w.heap.size + 1)), .int .i64 0] := Blk.new W2 56 [.map (some w.heap.size), .map (some (w.heap.size + 1)), .int .i64 0]
  have b3 : Below W2.heap.size W2 (W2.alloc (.cells #[.map (some w.heap.size), .map (some (w.heap.size + 1)), .int .i64 0] 56)) := (Below.refl _ _).alloc (Nat.le_refl _) _
  rw [e2] at hB
  rw [h1, h2]
  generalize W2.alloc (.cells #[.map (some w.heap.size), .map (some (w.heap.size + 1)), .int .i64 0] 56) = W3 at *
  refine ⟨⟨w.heap.size + 2, w.heap.size, w.heap.size + 1, fun _ => none, [], 0, 0⟩, ?_, ⟨hB, OkP.nil, ⟨_, map_same m1' (b3.block _ m1'.lt), WIn.nil⟩, ⟨_, map_same m2 (b3.block _ m2.lt), fun _ _ => rfl⟩, fun c g h => absurd h (by simp), fun e he => absurd he (by simp), fun c d g h => absurd h (by simp), by simp⟩, rfl, rfl, rfl, ?_, ?_⟩
  · simp [e2]
  · rintro i (rfl | rfl | rfl | ⟨c, h⟩)
    · simp
    · simp
    · simp
    · cases h
  · have := below_on (below_on b1 b2) b3
    exact this

/-- What enter does. -/
def RetEn (m : Px) (c f : List UInt8) (w : World) (e : Ending) (w' : World) : Prop :=
  ∃ g D DI, e = .returned (.int .i64 (m.tn + 1)) ∧ Blk w' m.B 56 [.map (some m.gw), .map (some m.gf), .int .i64 (m.tn + 1)] ∧ OF w' m.gf (m.K + 1) D ∧ FIn D (setG m.G c (some g)) ∧
    OI w' g (m.K + 1) DI ∧ (∀ f', has DI (.string f') = (decide (f' = f) || hadP m.L c f')) ∧ (m.G c = some g ∨ m.G c = none ∧ w.heap.size ≤ g) ∧ But (fun i => i = m.B ∨ i = m.gf ∨ m.G c = some i) w w'
theorem setG_self {G : List UInt8 → Option Nat} {c : List UInt8} {g : Nat} (h : G c = some g) : setG G c (some g) = G := by
  funext d
  unfold setG
  by_cases hd : d = c
  · rw [if_pos hd, hd, h]
  · rw [if_neg hd]
theorem FIn.cong {D : DU} {G G' : List UInt8 → Option Nat} (h : FIn D G) (e : G = G') : FIn D G' := e ▸ h
theorem en_done {m : Px} {c f : List UInt8} {w X w3 : World} {g : Nat} {D DI : DU} (hX : But (fun i => i = m.B ∨ i = m.gf ∨ m.G c = some i) w X) (hB : Blk w3 m.B 56 [.map (some m.gw), .map (some m.gf), .int .i64 m.tn]) (hF : OF X m.gf (m.K + 1) D) (hFI : FIn D (setG m.G c (some g)))
    (hI : OI w3 g (m.K + 1) (DI.put (.string f) (.agg []))) (hh : ∀ f', has DI (.string f') = hadP m.L c f') (hm : IsMap DI) (hg3 : X.drew.grownBy w3 (some g)) (n1 : m.gf ≠ g) (n2 : m.B ≠ g) (n3 : m.B ≠ m.gf) (hg : m.G c = some g ∨ m.G c = none ∧ w.heap.size ≤ g) :
    RetEn m c f w (.returned (.int .i64 (m.tn + 1))) (w3.setCell ⟨m.B, 2, none⟩ (.int .i64 (m.tn + 1))) := by
  have hset : But (fun i => i = m.B) w3 (w3.setCell ⟨m.B, 2, none⟩ (.int .i64 (m.tn + 1))) := But.setCell w3 _ rfl
  have h3 : But (fun i => i = g) X w3 := (But.ofBelow (Below.refl _ _).drew _).trans (But.grown (S := fun i => i = g) hg3 (fun k e => by injection e with e; exact e.symm)) (fun _ _ e => e)
  have hF3 : OF w3 m.gf (m.K + 1) D := map_same hF (h3.block m.gf hF.lt n1)
  refine ⟨g, D, DI.put (.string f) (.agg []), rfl, hB.set 2 _, map_same hF3 (hset.block m.gf hF3.lt (fun e => n3 e.symm)), hFI, map_same hI (hset.block g hI.lt (fun e => n2 e.symm)), fun f' => ?_, hg, ?_⟩
  · by_cases hf : f' = f
    · subst hf
      rw [has_put_same hm (strL_key f')]
      simp
    · rw [has_put_other (fun x => hf (by injection x)), hh f']
      simp [hf]
  · refine ((hX.trans h3 fun i hi e => ?_).trans hset fun i _ e => Or.inl e)
    rcases hg with hg | ⟨_, hg⟩
    · exact Or.inr (Or.inr (by rw [hg, show i = g from e]))
    · have h7 : i = g := e
      omega
set_option maxHeartbeats 2000000 in
set_option maxRecDepth 100000 in
theorem pEnter_any (m : Px) (c f : List UInt8) (w : World) (h : PxA w m) (hc : c.length ≤ 65535) (hf : f.length ≤ 65535) (hK : m.K ≤ 1000000) :
    Calls Tryz.prog 21 #[.pointer (some ⟨m.B, 0, none⟩), mkV c f] w (RetEn m c f w) := by
  have H := hide h
  have hmm := @run_makeMap Tryz.prog
  have heq := run_eql_map
  have hBl := h.blk.lt
  have htn : 0 ≤ m.tn ∧ m.tn ≤ 1000000 := ⟨h.ok.n0, by have := h.ok.few; omega⟩
  clear h
  unfold mkV
  go_enter Tryz.func21, Tryz.ntmps21
  go_wp2_with fail
  generalize hV : w.alloc _ = U
  obtain ⟨zV, bV⟩ := box1 w 59 [.string (str c), .string (str f)] U hV.symm
  clear hV
  have hU := H.out.keep bV
  have HU := hide hU
  obtain ⟨k0, k1, k2⟩ : U.cell? ⟨m.B, 0, none⟩ = some (.map (some m.gw)) ∧ U.cell? ⟨m.B, 1, none⟩ = some (.map (some m.gf)) ∧ U.cell? ⟨m.B, 2, none⟩ = some (.int .i64 m.tn) := ⟨hU.blk.cell 0, hU.blk.cell 1, hU.blk.cell 2⟩
  have z0 : U.cell? ⟨w.heap.size, 0, none⟩ = some (.string (str c)) := zV.cell 0
  have z1 : U.cell? ⟨w.heap.size, 1, none⟩ = some (.string (str f)) := zV.cell 1
  have hl : (Instr.lookup 54 (.map (some m.gf)) (.string (str c)) false).run Tryz.prog U.drew = .ok (.map (m.G c)) U.drew := (hU.keep (Below.refl _ _).drew).lookF hc
  have ZV := hide zV
  have BV := hide bV
  clear hU zV bV
  cases hg : m.G c with
  | some g =>
    rw [hg] at hl
    have HGc := hide hg
    clear hg
    refine wp_region_held_drew (S := fun w' => w' = U.drew) (by kernel_rfl) ?_ (fun hHeld => ?_)
    · exact rfl
    refine wpAnyH_take (i := 0) (oi := { dst := some 5, op := _, type := _, pos := _, after := _, guard := _ }) (v := ?v1x1) rfl (by kernel_rfl) (by kernel_rfl) (by kernel_rfl) (fun _ _ _ h => h) (Or.inl ⟨by rfl, ?hy1x1⟩) hHeld ?rest1x1
    case hy1x1 => (intro w hSw; go_simp <;> with_reducible rfl)
    try simp only [Act.put, List.setIfInBounds_toArray, List.set_cons_zero, List.set_cons_succ]
    refine wpAnyH_take (i := 1) (oi := { dst := some 6, op := _, type := _, pos := _, after := _, guard := _ }) (v := ?v1x2) rfl (by kernel_rfl) (by kernel_rfl) (by kernel_rfl) (fun _ _ _ h => h) (Or.inl ⟨by rfl, ?hy1x2⟩) hHeld ?rest1x2
    case hy1x2 => (intro w hSw; go_simp <;> with_reducible rfl)
    try simp only [Act.put, List.setIfInBounds_toArray, List.set_cons_zero, List.set_cons_succ]
    refine wpAnyH_take (i := 2) (oi := { dst := some 7, op := _, type := _, pos := _, after := _, guard := _ }) (v := ?v1x3) rfl (by kernel_rfl) (by kernel_rfl) (by kernel_rfl) (fun _ _ _ h => h) (Or.inl ⟨by rfl, ?hy1x3⟩) hHeld ?rest1x3
    case hy1x3 => (intro w hSw; go_simp <;> with_reducible rfl)
    try simp only [Act.put, List.setIfInBounds_toArray, List.set_cons_zero, List.set_cons_succ]
    refine wpAnyH_take (i := 3) (oi := { dst := some 8, op := _, type := _, pos := _, after := _, guard := _ }) (v := ?v1x4) rfl (by kernel_rfl) (by kernel_rfl) (by kernel_rfl) (fun _ _ _ h => h) (Or.inl ⟨by rfl, ?hy1x4⟩) hHeld ?rest1x4
    case hy1x4 => (intro w hSw; go_simp <;> with_reducible rfl)
    try simp only [Act.put, List.setIfInBounds_toArray, List.set_cons_zero, List.set_cons_succ]
    refine wpAnyH_take (i := 4) (oi := { dst := some 9, op := _, type := _, pos := _, after := _, guard := _ }) (v := ?v1x5) rfl (by kernel_rfl) (by kernel_rfl) (by kernel_rfl) (fun _ _ _ h => h) (Or.inl ⟨by rfl, ?hy1x5⟩) hHeld ?rest1x5
    case hy1x5 => (intro w hSw; go_simp <;> with_reducible rfl)
    try simp only [Act.put, List.setIfInBounds_toArray, List.set_cons_zero, List.set_cons_succ]
    refine wpAnyH_take (i := 5) (oi := { dst := some 10, op := _, type := _, pos := _, after := _, guard := _ }) (v := ?v1x6) rfl (by kernel_rfl) (by kernel_rfl) (by kernel_rfl) (fun _ _ _ h => h) (Or.inl ⟨by rfl, ?hy1x6⟩) hHeld ?rest1x6
    case hy1x6 => (intro w hSw; go_simp <;> with_reducible rfl)
    try simp only [Act.put, List.setIfInBounds_toArray, List.set_cons_zero, List.set_cons_succ]
    refine wpAnyH_take (i := 6) (oi := { dst := some 11, op := _, type := _, pos := _, after := _, guard := _ }) (v := ?v1x7) rfl (by kernel_rfl) (by kernel_rfl) (by kernel_rfl) (fun _ _ _ h => h) (Or.inl ⟨by rfl, ?hy1x7⟩) hHeld ?rest1x7
    case hy1x7 => (intro w hSw; go_simp <;> with_reducible rfl)
    try simp only [Act.put, List.setIfInBounds_toArray, List.set_cons_zero, List.set_cons_succ]
    refine wpAnyH_take (i := 7) (oi := { dst := some 12, op := _, type := _, pos := _, after := _, guard := _ }) (v := ?v1x8) rfl (by kernel_rfl) (by kernel_rfl) (by kernel_rfl) (fun _ _ _ h => h) (Or.inl ⟨by rfl, ?hy1x8⟩) hHeld ?rest1x8
    case hy1x8 => (intro w hSw; go_simp <;> with_reducible rfl)
    try simp only [Act.put, List.setIfInBounds_toArray, List.set_cons_zero, List.set_cons_succ]
    refine wpAnyH_done (by kernel_rfl) ?_ _
    go_wp2_with fail
    obtain ⟨X, hX⟩ : ∃ X, U.drew = X := ⟨_, rfl⟩
    rw [hX] at hl ⊢
    have hU2 : PxA X m := by rw [← hX]; exact HU.out.keep (Below.refl _ _).drew
    have hb2 : Below w.heap.size w X := by rw [← hX]; exact below_on BV.out (Below.refl _ _).drew
    have hz2 : Blk X w.heap.size 59 [.string (str c), .string (str f)] := by rw [← hX]; exact ZV.out
    obtain ⟨g1, g2, ⟨DI, hI, hI2⟩, _⟩ := hU2.im c g HGc.out
    have HU2 := hide hU2
    have BX := hide hU2.blk
    have ZX := hide hz2
    obtain ⟨DF, hF, hFI⟩ := hU2.fm
    have LX : Hid (∀ W, Sam [m.B, w.heap.size, m.gf] X W → (Instr.lookup 54 (.map (some m.gf)) (.string (str c)) false).run Tryz.prog W = .ok (.map (some g)) W) := hide fun W b => by
      rw [← HGc.out]
      exact lookF_of (map_same hF (b m.gf (by simp))) hFI hc
    have SB : Hid (∀ i ∈ [m.B, w.heap.size, m.gf], i < X.heap.size ∧ i ≠ g) := hide (by
      intro i hi
      simp only [List.mem_cons, List.not_mem_nil, or_false] at hi
      rcases hi with rfl | rfl | rfl
      · exact ⟨hU2.blk.lt, hU2.ne_i HGc.out⟩
      · exact ⟨hz2.lt, map_ne hI hz2⟩
      · exact ⟨hF.lt, fun e => g2 e.symm⟩)
    have HI := hide hI
    have HI2 := hide hI2
    have B2 := hide hb2
    have NX := hide (show m.B ≠ g ∧ m.B ≠ m.gf from ⟨hU2.ne_i HGc.out, hU2.ne_f⟩)
    have G2 := hide g2
    have HF := hide hF
    have HFI := hide hFI
    clear hX hU2 hb2 hz2 g1 g2 hI hI2 k0 k1 k2 z0 z1 hl hF hFI hHeld
    have SA : Hid (∀ i ∈ [m.B, w.heap.size, m.gf], i < X.heap.size ∧ i ≠ g) := hide SB.out
    have kX : ∀ W, Sam [m.B, w.heap.size, m.gf] X W → W.cell? ⟨m.B, 1, none⟩ = some (.map (some m.gf)) := fun W b => (BX.out.sam b (by simp)).cell 1
    have zX0 : ∀ W, Sam [m.B, w.heap.size, m.gf] X W → W.cell? ⟨w.heap.size, 0, none⟩ = some (.string (str c)) := fun W b => (ZX.out.sam b (by simp)).cell 0
    have zX1 : ∀ W, Sam [m.B, w.heap.size, m.gf] X W → W.cell? ⟨w.heap.size, 1, none⟩ = some (.string (str f)) := fun W b => (ZX.out.sam b (by simp)).cell 1
    have hlX : ∀ W, Sam [m.B, w.heap.size, m.gf] X W → (Instr.lookup 54 (.map (some m.gf)) (.string (str c)) false).run Tryz.prog W = .ok (.map (some g)) W := LX.out
    refine wp_region_held_drew (S := fun w' => Sam [m.B, w.heap.size, m.gf] X w') (by kernel_rfl) ?_ (fun hHeld => ?_)
    · exact Sam.drew _ _
    refine wpAnyH_take (i := 0) (oi := { dst := some 20, op := _, type := _, pos := _, after := _, guard := _ }) (v := ?v2x1) rfl (by kernel_rfl) (by kernel_rfl) (by kernel_rfl) (fun _ _ _ h => h) (Or.inl ⟨by rfl, ?hy2x1⟩) hHeld ?rest2x1
    case hy2x1 => (intro w hSw; go_simp <;> with_reducible rfl)
    try simp only [Act.put, List.setIfInBounds_toArray, List.set_cons_zero, List.set_cons_succ]
    refine wpAnyH_take (i := 1) (oi := { dst := some 21, op := _, type := _, pos := _, after := _, guard := _ }) (v := ?v2x2) rfl (by kernel_rfl) (by kernel_rfl) (by kernel_rfl) (fun _ _ _ h => h) (Or.inl ⟨by rfl, ?hy2x2⟩) hHeld ?rest2x2
    case hy2x2 => (intro w hSw; go_simp <;> with_reducible rfl)
    try simp only [Act.put, List.setIfInBounds_toArray, List.set_cons_zero, List.set_cons_succ]
    refine wpAnyH_take (i := 2) (oi := { dst := some 22, op := _, type := _, pos := _, after := _, guard := _ }) (v := ?v2x3) rfl (by kernel_rfl) (by kernel_rfl) (by kernel_rfl) (fun _ _ _ h => h) (Or.inl ⟨by rfl, ?hy2x3⟩) hHeld ?rest2x3
    case hy2x3 => (intro w hSw; go_simp <;> with_reducible rfl)
    try simp only [Act.put, List.setIfInBounds_toArray, List.set_cons_zero, List.set_cons_succ]
    refine wpAnyH_take (i := 3) (oi := { dst := some 23, op := _, type := _, pos := _, after := _, guard := _ }) (v := ?v2x4) rfl (by kernel_rfl) (by kernel_rfl) (by kernel_rfl) (fun _ _ _ h => h) (Or.inl ⟨by rfl, ?hy2x4⟩) hHeld ?rest2x4
    case hy2x4 => (intro w hSw; go_simp <;> with_reducible rfl)
    try simp only [Act.put, List.setIfInBounds_toArray, List.set_cons_zero, List.set_cons_succ]
    refine wpAnyH_take (i := 4) (oi := { dst := some 24, op := _, type := _, pos := _, after := _, guard := _ }) (v := ?v2x5) rfl (by kernel_rfl) (by kernel_rfl) (by kernel_rfl) (fun _ _ _ h => h) (Or.inl ⟨by rfl, ?hy2x5⟩) hHeld ?rest2x5
    case hy2x5 => (intro w hSw; go_simp <;> with_reducible rfl)
    try simp only [Act.put, List.setIfInBounds_toArray, List.set_cons_zero, List.set_cons_succ]
    refine wpAnyH_take (i := 5) (oi := { dst := some 25, op := _, type := _, pos := _, after := _, guard := _ }) (v := ?v2x6) rfl (by kernel_rfl) (by kernel_rfl) (by kernel_rfl) (fun _ _ _ h => h) (Or.inl ⟨by rfl, ?hy2x6⟩) hHeld ?rest2x6
    case hy2x6 => (intro w hSw; go_simp <;> with_reducible rfl)
    try simp only [Act.put, List.setIfInBounds_toArray, List.set_cons_zero, List.set_cons_succ]
    refine wpAnyH_take (i := 6) (oi := { dst := some 26, op := _, type := _, pos := _, after := _, guard := _ }) (v := ?v2x7) rfl (by kernel_rfl) (by kernel_rfl) (by kernel_rfl) (fun _ _ _ h => h) (Or.inl ⟨by rfl, ?hy2x7⟩) hHeld ?rest2x7
    case hy2x7 => (intro w hSw; go_simp <;> with_reducible rfl)
    try simp only [Act.put, List.setIfInBounds_toArray, List.set_cons_zero, List.set_cons_succ]
    refine wpAnyH_take (i := 7) (oi := { dst := some 27, op := _, type := _, pos := _, after := _, guard := _ }) (v := ?v2x8) rfl (by kernel_rfl) (by kernel_rfl) (by kernel_rfl) (fun _ _ _ h => h) (Or.inl ⟨by rfl, ?hy2x8⟩) hHeld ?rest2x8
    case hy2x8 => (intro w hSw; go_simp <;> with_reducible rfl)
    try simp only [Act.put, List.setIfInBounds_toArray, List.set_cons_zero, List.set_cons_succ]
    refine wpAnyH_take (i := 8) (oi := { dst := some 28, op := _, type := _, pos := _, after := _, guard := _ }) (v := ?v2x9) rfl (by kernel_rfl) (by kernel_rfl) (by kernel_rfl) (fun _ _ _ h => h) (Or.inl ⟨by rfl, ?hy2x9⟩) hHeld ?rest2x9
    case hy2x9 => (intro w hSw; go_simp <;> with_reducible rfl)
    try simp only [Act.put, List.setIfInBounds_toArray, List.set_cons_zero, List.set_cons_succ]
    refine wpAnyH_take (i := 9) (oi := { dst := some 29, op := _, type := _, pos := _, after := _, guard := _ }) (v := ?v2x10) rfl (by kernel_rfl) (by kernel_rfl) (by kernel_rfl) (fun _ _ _ h => h) (Or.inl ⟨by rfl, ?hy2x10⟩) hHeld ?rest2x10
    case hy2x10 => (intro w hSw; go_simp <;> with_reducible rfl)
    try simp only [Act.put, List.setIfInBounds_toArray, List.set_cons_zero, List.set_cons_succ]
    refine wpAnyH_ready (rs := [10]) (by kernel_rfl) (by simp) (AllReadyH.cons (o := { dst := none, op := _, type := _, pos := _, after := _, guard := _ }) rfl (fun K hK => ?_) AllReadyH.nil)
    rw [if_pos (by rfl)]
    refine op_update (.tmp 26) (.tmp 28) (.tmp 29) 66 rfl 9 80 st_keyed Tryz.underlying66 unitElem g m.K DI (by rfl) (show X.drew.ownsMap Tryz.prog 9 unitElem g m.K DI from HI.out) (by unfold maxLen; omega) (.string (str f)) (.agg #[]) (.string f) (by rfl) (by rfl) (st_key f hf) (.agg []) [] unitElem_mk ?_
    intro w3 hI3 hg3
    have HI3 := hide hI3
    have HG3 := hide hg3
    clear hI3 hg3
    refine hK.out _ _ ?_ (fun hHeld => ?_)
    · exact (Sam.drew _ _).grown HG3.out SA.out
    clear hK K
    try simp only [Act.put, List.setIfInBounds_toArray, List.set_cons_zero, List.set_cons_succ]
    refine wpAnyH_done (by kernel_rfl) ?_ _
    have hg4 : Hid (∀ i, i < X.heap.size → i ≠ g → w3.heap[i]? = X.heap[i]?) := hide fun i hi hne => HG3.out.block i hi (fun e => hne (by injection e))
    have B3 : Blk w3 m.B 56 [.map (some m.gw), .map (some m.gf), .int .i64 m.tn] := (hg4.out m.B BX.out.lt (fun e => NX.out.1 e)).trans BX.out
    have Y2 : w3.cell? ⟨m.B, 2, none⟩ = some (.int .i64 m.tn) := B3.cell 2
    have fr2 := B3.frozen 2
    have HB3 := hide B3
    have wr1 : IntKind.i64.wrap (m.tn + 1) = m.tn + 1 := by obtain ⟨n, hn⟩ : ∃ n : Nat, m.tn + 1 = (n : Int) := ⟨(m.tn + 1).toNat, by omega⟩; rw [hn]; exact wrap_nat n (by omega)
    have HL := HB3.out.lt
    clear B3 kX zX0 zX1 hlX hHeld
    go_wp2_with fail
    go_ret
    exact en_done (But.ofBelow B2.out _) HB3.out (HF.out.mono (Nat.le_succ _)) (by rw [setG_self HGc.out]; exact HFI.out) HI3.out HI2.out HI.out.isMap HG3.out (fun e => G2.out e.symm) NX.out.1 NX.out.2 (Or.inl HGc.out)
  | none =>
    rw [hg] at hl
    have HGc := hide hg
    clear hg
    refine wp_region_held_drew (S := fun w' => w' = U.drew) (by kernel_rfl) ?_ (fun hHeld => ?_)
    · exact rfl
    refine wpAnyH_take (i := 0) (oi := { dst := some 5, op := _, type := _, pos := _, after := _, guard := _ }) (v := ?v3x1) rfl (by kernel_rfl) (by kernel_rfl) (by kernel_rfl) (fun _ _ _ h => h) (Or.inl ⟨by rfl, ?hy3x1⟩) hHeld ?rest3x1
    case hy3x1 => (intro w hSw; go_simp <;> with_reducible rfl)
    try simp only [Act.put, List.setIfInBounds_toArray, List.set_cons_zero, List.set_cons_succ]
    refine wpAnyH_take (i := 1) (oi := { dst := some 6, op := _, type := _, pos := _, after := _, guard := _ }) (v := ?v3x2) rfl (by kernel_rfl) (by kernel_rfl) (by kernel_rfl) (fun _ _ _ h => h) (Or.inl ⟨by rfl, ?hy3x2⟩) hHeld ?rest3x2
    case hy3x2 => (intro w hSw; go_simp <;> with_reducible rfl)
    try simp only [Act.put, List.setIfInBounds_toArray, List.set_cons_zero, List.set_cons_succ]
    refine wpAnyH_take (i := 2) (oi := { dst := some 7, op := _, type := _, pos := _, after := _, guard := _ }) (v := ?v3x3) rfl (by kernel_rfl) (by kernel_rfl) (by kernel_rfl) (fun _ _ _ h => h) (Or.inl ⟨by rfl, ?hy3x3⟩) hHeld ?rest3x3
    case hy3x3 => (intro w hSw; go_simp <;> with_reducible rfl)
    try simp only [Act.put, List.setIfInBounds_toArray, List.set_cons_zero, List.set_cons_succ]
    refine wpAnyH_take (i := 3) (oi := { dst := some 8, op := _, type := _, pos := _, after := _, guard := _ }) (v := ?v3x4) rfl (by kernel_rfl) (by kernel_rfl) (by kernel_rfl) (fun _ _ _ h => h) (Or.inl ⟨by rfl, ?hy3x4⟩) hHeld ?rest3x4
    case hy3x4 => (intro w hSw; go_simp <;> with_reducible rfl)
    try simp only [Act.put, List.setIfInBounds_toArray, List.set_cons_zero, List.set_cons_succ]
    refine wpAnyH_take (i := 4) (oi := { dst := some 9, op := _, type := _, pos := _, after := _, guard := _ }) (v := ?v3x5) rfl (by kernel_rfl) (by kernel_rfl) (by kernel_rfl) (fun _ _ _ h => h) (Or.inl ⟨by rfl, ?hy3x5⟩) hHeld ?rest3x5
    case hy3x5 => (intro w hSw; go_simp <;> with_reducible rfl)
    try simp only [Act.put, List.setIfInBounds_toArray, List.set_cons_zero, List.set_cons_succ]
    refine wpAnyH_take (i := 5) (oi := { dst := some 10, op := _, type := _, pos := _, after := _, guard := _ }) (v := ?v3x6) rfl (by kernel_rfl) (by kernel_rfl) (by kernel_rfl) (fun _ _ _ h => h) (Or.inl ⟨by rfl, ?hy3x6⟩) hHeld ?rest3x6
    case hy3x6 => (intro w hSw; go_simp <;> with_reducible rfl)
    try simp only [Act.put, List.setIfInBounds_toArray, List.set_cons_zero, List.set_cons_succ]
    refine wpAnyH_take (i := 6) (oi := { dst := some 11, op := _, type := _, pos := _, after := _, guard := _ }) (v := ?v3x7) rfl (by kernel_rfl) (by kernel_rfl) (by kernel_rfl) (fun _ _ _ h => h) (Or.inl ⟨by rfl, ?hy3x7⟩) hHeld ?rest3x7
    case hy3x7 => (intro w hSw; go_simp <;> with_reducible rfl)
    try simp only [Act.put, List.setIfInBounds_toArray, List.set_cons_zero, List.set_cons_succ]
    refine wpAnyH_take (i := 7) (oi := { dst := some 12, op := _, type := _, pos := _, after := _, guard := _ }) (v := ?v3x8) rfl (by kernel_rfl) (by kernel_rfl) (by kernel_rfl) (fun _ _ _ h => h) (Or.inl ⟨by rfl, ?hy3x8⟩) hHeld ?rest3x8
    case hy3x8 => (intro w hSw; go_simp <;> with_reducible rfl)
    try simp only [Act.put, List.setIfInBounds_toArray, List.set_cons_zero, List.set_cons_succ]
    refine wpAnyH_done (by kernel_rfl) ?_ _
    go_wp2_with fail
    obtain ⟨V, hV⟩ : ∃ V, U.drew = V := ⟨_, rfl⟩
    rw [hV] at hl ⊢
    have hU2 : PxA V m := by rw [← hV]; exact HU.out.keep (Below.refl _ _).drew
    have hb2 : Below w.heap.size w V := by rw [← hV]; exact below_on BV.out (Below.refl _ _).drew
    have hz2 : Blk V w.heap.size 59 [.string (str c), .string (str f)] := by rw [← hV]; exact ZV.out
    have HU2 := hide hU2
    have HZ2 := hide hz2
    have B2 := hide hb2
    have r1 : ∀ W, Sam [m.B, w.heap.size] V W → W.cell? ⟨m.B, 1, none⟩ = some (.map (some m.gf)) := fun W b => (HU2.out.blk.sam b (by simp)).cell 1
    have r2 : ∀ W, Sam [m.B, w.heap.size] V W → W.cell? ⟨w.heap.size, 0, none⟩ = some (.string (str c)) := fun W b => (HZ2.out.sam b (by simp)).cell 0
    have SL : Hid (∀ i ∈ [m.B, w.heap.size], i < V.heap.size ∧ i ≠ m.gf) := hide (by
      intro i hi
      simp only [List.mem_cons, List.not_mem_nil, or_false] at hi
      rcases hi with rfl | rfl
      · exact ⟨HU2.out.blk.lt, HU2.out.ne_f⟩
      · obtain ⟨D, hD, _⟩ := HU2.out.fm
        exact ⟨HZ2.out.lt, map_ne hD HZ2.out⟩)
    clear hV hU2 hb2 hz2 k0 k1 k2 z0 z1 hl hHeld
    obtain ⟨DF, hF, hFI⟩ := HU2.out.fm
    have bA : Below V.heap.size V (V.drew.alloc (.map #[] 0)) := (Below.refl _ _).drew.alloc (Nat.le_refl _) _
    have hFA : OF (V.drew.alloc (.map #[] 0)) m.gf m.K DF := map_same hF (bA.block _ hF.lt)
    have HFA := hide hFA
    have HF := hide hF
    have HFI := hide hFI
    have BA := hide bA
    clear hF hFI hFA bA
    have SD : Hid (Sam [m.B, w.heap.size] V (V.drew.alloc (.map #[] 0))) := hide (Sam.below BA.out fun i hi => (SL.out i hi).1)
    have hAs : (V.drew.alloc (.map #[] 0)).heap.size = V.heap.size + 1 := by simp
    refine wp_region_held_drew (S := fun w' => Sam [m.B, w.heap.size] V w') (by kernel_rfl) ?_ (fun hHeld => ?_)
    · exact Sam.drew _ _
    refine wpAnyH_take (i := 0) (oi := { dst := some 13, op := _, type := _, pos := _, after := _, guard := _ }) (v := ?v4x1) rfl (by kernel_rfl) (by kernel_rfl) (by kernel_rfl) (fun _ _ _ h => h) (Or.inl ⟨by rfl, ?hy4x1⟩) hHeld ?rest4x1
    case hy4x1 => (intro w hSw; go_simp <;> with_reducible rfl)
    try simp only [Act.put, List.setIfInBounds_toArray, List.set_cons_zero, List.set_cons_succ]
    refine wpAnyH_take (i := 1) (oi := { dst := some 14, op := _, type := _, pos := _, after := _, guard := _ }) (v := ?v4x2) rfl (by kernel_rfl) (by kernel_rfl) (by kernel_rfl) (fun _ _ _ h => h) (Or.inl ⟨by rfl, ?hy4x2⟩) hHeld ?rest4x2
    case hy4x2 => (intro w hSw; go_simp <;> with_reducible rfl)
    try simp only [Act.put, List.setIfInBounds_toArray, List.set_cons_zero, List.set_cons_succ]
    refine wpAnyH_take (i := 2) (oi := { dst := some 15, op := _, type := _, pos := _, after := _, guard := _ }) (v := ?v4x3) rfl (by kernel_rfl) (by kernel_rfl) (by kernel_rfl) (fun _ _ _ h => h) (Or.inl ⟨by rfl, ?hy4x3⟩) hHeld ?rest4x3
    case hy4x3 => (intro w hSw; go_simp <;> with_reducible rfl)
    try simp only [Act.put, List.setIfInBounds_toArray, List.set_cons_zero, List.set_cons_succ]
    refine wpAnyH_take (i := 3) (oi := { dst := some 16, op := _, type := _, pos := _, after := _, guard := _ }) (v := ?v4x4) rfl (by kernel_rfl) (by kernel_rfl) (by kernel_rfl) (fun _ _ _ h => h) (Or.inl ⟨by rfl, ?hy4x4⟩) hHeld ?rest4x4
    case hy4x4 => (intro w hSw; go_simp <;> with_reducible rfl)
    try simp only [Act.put, List.setIfInBounds_toArray, List.set_cons_zero, List.set_cons_succ]
    refine wpAnyH_take (i := 4) (oi := { dst := some 17, op := _, type := _, pos := _, after := _, guard := _ }) (v := ?v4x5) rfl (by kernel_rfl) (by kernel_rfl) (by kernel_rfl) (fun _ _ _ h => h) (Or.inl ⟨by rfl, ?hy4x5⟩) hHeld ?rest4x5
    case hy4x5 => (intro w hSw; go_simp <;> with_reducible rfl)
    try simp only [Act.put, List.setIfInBounds_toArray, List.set_cons_zero, List.set_cons_succ]
    refine wpAnyH_take (i := 5) (oi := { dst := some 18, op := _, type := _, pos := _, after := _, guard := _ }) (v := ?v4x6) rfl (by kernel_rfl) (by kernel_rfl) (by kernel_rfl) (fun _ _ _ h => h) (Or.inl ⟨by rfl, ?hy4x6⟩) hHeld ?rest4x6
    case hy4x6 => (intro w hSw; go_simp <;> with_reducible rfl)
    try simp only [Act.put, List.setIfInBounds_toArray, List.set_cons_zero, List.set_cons_succ]
    refine wpAnyH_ready (rs := [6]) (by kernel_rfl) (by simp) (AllReadyH.cons (o := { dst := some 19, op := _, type := _, pos := _, after := _, guard := _ }) rfl (fun K hK => ?_) AllReadyH.nil)
    go_simp
    go_wp2_with fail
    refine hK.out _ _ ?_ (fun hHeld => ?_)
    · exact SD.out
    clear hK K
    try simp only [Act.put, List.setIfInBounds_toArray, List.set_cons_zero, List.set_cons_succ]
    refine wpAnyH_ready (rs := [7]) (by kernel_rfl) (by simp) (AllReadyH.cons (o := { dst := none, op := _, type := _, pos := _, after := _, guard := _ }) rfl (fun K hK => ?_) AllReadyH.nil)
    rw [if_pos (by rfl)]
    refine op_update (.tmp 16) (.tmp 18) (.tmp 19) 54 rfl 9 66 st_keyed Tryz.underlying54 RM m.gf m.K DF (by rfl) HFA.out (by unfold maxLen; omega) (.string (str c)) (.map (some V.heap.size)) (.string c) (by rfl) (by rfl) (st_key c hc) (mpD (some V.heap.size)) [] (RM_mk (some V.heap.size)) ?_
    intro X hF3 hg3
    have HF3 := hide hF3
    have HG3 := hide hg3
    clear hF3 hg3
    refine hK.out _ _ ?_ (fun hHeld => ?_)
    · exact SD.out.grown HG3.out fun i hi => ⟨by have := (SL.out i hi).1; omega, (SL.out i hi).2⟩
    clear hK K
    try simp only [Act.put, List.setIfInBounds_toArray, List.set_cons_zero, List.set_cons_succ]
    refine wpAnyH_done (by kernel_rfl) ?_ _
    go_wp2_with fail
    have hs0 : (V.alloc (.map #[] 0)).drew.heap.size = V.heap.size + 1 := by show (V.heap.push _).size = _; simp
    have hsX : V.heap.size + 1 ≤ X.heap.size := by have := HG3.out.size; omega
    obtain ⟨g, hgV⟩ : ∃ g, V.heap.size = g := ⟨_, rfl⟩
    have eW : w.heap.size < V.heap.size := HZ2.out.lt
    have eB : m.B < V.heap.size := HU2.out.blk.lt
    have eF : m.gf < V.heap.size := HF.out.lt
    have bX : ∀ i, i < V.heap.size → i ≠ m.gf → X.heap[i]? = V.heap[i]? := fun i hi hne => (HG3.out.block i (by omega) (fun e => hne (by injection e))).trans (BA.out.block i hi)
    have BX : Hid (Blk X m.B 56 [.map (some m.gw), .map (some m.gf), .int .i64 m.tn]) := hide ((bX _ eB HU2.out.ne_f).trans HU2.out.blk)
    have ZX : Hid (Blk X w.heap.size 59 [.string (str c), .string (str f)]) := hide ((bX _ eW (SL.out w.heap.size (by simp)).2).trans HZ2.out)
    have hI0 : OI (V.drew.alloc (.map #[] 0)) g m.K (.map []) := by
      rw [← hgV]
      exact (World.ownsMap_made V.drew Tryz.prog 9 unitElem).mono (Nat.zero_le _)
    have hI : OI X g m.K (.map []) := map_same hI0 (HG3.out.block g hI0.lt (fun e => by injection e with e; omega))
    have HI : Hid (OI X g m.K (.map [])) := hide hI
    have hFX := HF3.out
    have hFG : FIn (DF.put (.string c) (mpD (some V.heap.size))) (setG m.G c (some g)) := by
      rw [hgV]
      exact FIn.put HFI.out HF.out.isMap c g
    have HFX := hide hFX
    have HFG := hide hFG
    have LX : Hid (∀ W, Sam [m.B, w.heap.size, m.gf] X W → (Instr.lookup 54 (.map (some m.gf)) (.string (str c)) false).run Tryz.prog W = .ok (.map (some g)) W) := hide fun W b => by
      have := lookF_of (map_same HFX.out (b m.gf (by simp))) HFG.out hc
      unfold setG at this
      rwa [if_pos rfl] at this
    have SB : Hid (∀ i ∈ [m.B, w.heap.size, m.gf], i < X.heap.size ∧ i ≠ g) := hide (by
      intro i hi
      simp only [List.mem_cons, List.not_mem_nil, or_false] at hi
      rcases hi with rfl | rfl | rfl <;> constructor <;> omega)
    have NX : Hid (m.B ≠ g ∧ m.B ≠ m.gf) := hide ⟨by omega, HU2.out.ne_f⟩
    have hno : Hid (∀ f', has (.map [] : DU) (.string f') = hadP m.L c f') := hide fun f' => by
      cases hh : hadP m.L c f' with
      | false => rfl
      | true =>
        obtain ⟨e, he, e1, _⟩ := (hadP_iff _ _ _).1 hh
        obtain ⟨g', hg'⟩ := HU2.out.al e he
        rw [e1, HGc.out] at hg'
        cases hg'
    have hX : Hid (But (fun i => i = m.B ∨ i = m.gf ∨ m.G c = some i) w X) := hide ((But.ofBelow (below_on B2.out BA.out) _).trans (But.grown (S := fun i => i = m.gf) HG3.out (fun k e => by injection e with e; exact e.symm)) (fun i _ e => Or.inr (Or.inl e)))
    have hgg : Hid (m.G c = some g ∨ m.G c = none ∧ w.heap.size ≤ g) := hide (Or.inr ⟨HGc.out, by omega⟩)
    have hgf : Hid (m.gf ≠ g) := hide (by omega)
    have hDI : Hid ((.map [] : DU) = (.map [])) := hide rfl
    have HN := hide (And.intro hsX hgV)
    rw [hgV]
    clear hs0 hsX hgV eW eB eF bX hI0 hI hFX hFG r1 r2 hAs hHeld
    obtain ⟨DI, hDIe⟩ : ∃ DI : DU, (.map [] : DU) = DI := ⟨_, rfl⟩
    have mDI : IsMap DI := ⟨[], hDIe.symm⟩
    rw [hDIe] at HI hno
    clear hDI hDIe
    have MDI := hide mDI
    clear mDI
    have SA : Hid (∀ i ∈ [m.B, w.heap.size, m.gf], i < X.heap.size ∧ i ≠ g) := hide SB.out
    have kX : ∀ W, Sam [m.B, w.heap.size, m.gf] X W → W.cell? ⟨m.B, 1, none⟩ = some (.map (some m.gf)) := fun W b => (BX.out.sam b (by simp)).cell 1
    have zX0 : ∀ W, Sam [m.B, w.heap.size, m.gf] X W → W.cell? ⟨w.heap.size, 0, none⟩ = some (.string (str c)) := fun W b => (ZX.out.sam b (by simp)).cell 0
    have zX1 : ∀ W, Sam [m.B, w.heap.size, m.gf] X W → W.cell? ⟨w.heap.size, 1, none⟩ = some (.string (str f)) := fun W b => (ZX.out.sam b (by simp)).cell 1
    have hlX : ∀ W, Sam [m.B, w.heap.size, m.gf] X W → (Instr.lookup 54 (.map (some m.gf)) (.string (str c)) false).run Tryz.prog W = .ok (.map (some g)) W := LX.out
    refine wp_region_held_drew (S := fun w' => Sam [m.B, w.heap.size, m.gf] X w') (by kernel_rfl) ?_ (fun hHeld => ?_)
    · exact Sam.drew _ _
    refine wpAnyH_take (i := 0) (oi := { dst := some 20, op := _, type := _, pos := _, after := _, guard := _ }) (v := ?v5x1) rfl (by kernel_rfl) (by kernel_rfl) (by kernel_rfl) (fun _ _ _ h => h) (Or.inl ⟨by rfl, ?hy5x1⟩) hHeld ?rest5x1
    case hy5x1 => (intro w hSw; go_simp <;> with_reducible rfl)
    try simp only [Act.put, List.setIfInBounds_toArray, List.set_cons_zero, List.set_cons_succ]
    refine wpAnyH_take (i := 1) (oi := { dst := some 21, op := _, type := _, pos := _, after := _, guard := _ }) (v := ?v5x2) rfl (by kernel_rfl) (by kernel_rfl) (by kernel_rfl) (fun _ _ _ h => h) (Or.inl ⟨by rfl, ?hy5x2⟩) hHeld ?rest5x2
    case hy5x2 => (intro w hSw; go_simp <;> with_reducible rfl)
    try simp only [Act.put, List.setIfInBounds_toArray, List.set_cons_zero, List.set_cons_succ]
    refine wpAnyH_take (i := 2) (oi := { dst := some 22, op := _, type := _, pos := _, after := _, guard := _ }) (v := ?v5x3) rfl (by kernel_rfl) (by kernel_rfl) (by kernel_rfl) (fun _ _ _ h => h) (Or.inl ⟨by rfl, ?hy5x3⟩) hHeld ?rest5x3
    case hy5x3 => (intro w hSw; go_simp <;> with_reducible rfl)
    try simp only [Act.put, List.setIfInBounds_toArray, List.set_cons_zero, List.set_cons_succ]
    refine wpAnyH_take (i := 3) (oi := { dst := some 23, op := _, type := _, pos := _, after := _, guard := _ }) (v := ?v5x4) rfl (by kernel_rfl) (by kernel_rfl) (by kernel_rfl) (fun _ _ _ h => h) (Or.inl ⟨by rfl, ?hy5x4⟩) hHeld ?rest5x4
    case hy5x4 => (intro w hSw; go_simp <;> with_reducible rfl)
    try simp only [Act.put, List.setIfInBounds_toArray, List.set_cons_zero, List.set_cons_succ]
    refine wpAnyH_take (i := 4) (oi := { dst := some 24, op := _, type := _, pos := _, after := _, guard := _ }) (v := ?v5x5) rfl (by kernel_rfl) (by kernel_rfl) (by kernel_rfl) (fun _ _ _ h => h) (Or.inl ⟨by rfl, ?hy5x5⟩) hHeld ?rest5x5
    case hy5x5 => (intro w hSw; go_simp <;> with_reducible rfl)
    try simp only [Act.put, List.setIfInBounds_toArray, List.set_cons_zero, List.set_cons_succ]
    refine wpAnyH_take (i := 5) (oi := { dst := some 25, op := _, type := _, pos := _, after := _, guard := _ }) (v := ?v5x6) rfl (by kernel_rfl) (by kernel_rfl) (by kernel_rfl) (fun _ _ _ h => h) (Or.inl ⟨by rfl, ?hy5x6⟩) hHeld ?rest5x6
    case hy5x6 => (intro w hSw; go_simp <;> with_reducible rfl)
    try simp only [Act.put, List.setIfInBounds_toArray, List.set_cons_zero, List.set_cons_succ]
    refine wpAnyH_take (i := 6) (oi := { dst := some 26, op := _, type := _, pos := _, after := _, guard := _ }) (v := ?v5x7) rfl (by kernel_rfl) (by kernel_rfl) (by kernel_rfl) (fun _ _ _ h => h) (Or.inl ⟨by rfl, ?hy5x7⟩) hHeld ?rest5x7
    case hy5x7 => (intro w hSw; go_simp <;> with_reducible rfl)
    try simp only [Act.put, List.setIfInBounds_toArray, List.set_cons_zero, List.set_cons_succ]
    refine wpAnyH_take (i := 7) (oi := { dst := some 27, op := _, type := _, pos := _, after := _, guard := _ }) (v := ?v5x8) rfl (by kernel_rfl) (by kernel_rfl) (by kernel_rfl) (fun _ _ _ h => h) (Or.inl ⟨by rfl, ?hy5x8⟩) hHeld ?rest5x8
    case hy5x8 => (intro w hSw; go_simp <;> with_reducible rfl)
    try simp only [Act.put, List.setIfInBounds_toArray, List.set_cons_zero, List.set_cons_succ]
    refine wpAnyH_take (i := 8) (oi := { dst := some 28, op := _, type := _, pos := _, after := _, guard := _ }) (v := ?v5x9) rfl (by kernel_rfl) (by kernel_rfl) (by kernel_rfl) (fun _ _ _ h => h) (Or.inl ⟨by rfl, ?hy5x9⟩) hHeld ?rest5x9
    case hy5x9 => (intro w hSw; go_simp <;> with_reducible rfl)
    try simp only [Act.put, List.setIfInBounds_toArray, List.set_cons_zero, List.set_cons_succ]
    refine wpAnyH_take (i := 9) (oi := { dst := some 29, op := _, type := _, pos := _, after := _, guard := _ }) (v := ?v5x10) rfl (by kernel_rfl) (by kernel_rfl) (by kernel_rfl) (fun _ _ _ h => h) (Or.inl ⟨by rfl, ?hy5x10⟩) hHeld ?rest5x10
    case hy5x10 => (intro w hSw; go_simp <;> with_reducible rfl)
    try simp only [Act.put, List.setIfInBounds_toArray, List.set_cons_zero, List.set_cons_succ]
    refine wpAnyH_ready (rs := [10]) (by kernel_rfl) (by simp) (AllReadyH.cons (o := { dst := none, op := _, type := _, pos := _, after := _, guard := _ }) rfl (fun K hK => ?_) AllReadyH.nil)
    rw [if_pos (by rfl)]
    refine op_update (.tmp 26) (.tmp 28) (.tmp 29) 66 rfl 9 80 st_keyed Tryz.underlying66 unitElem g m.K DI (by rfl) (show X.drew.ownsMap Tryz.prog 9 unitElem g m.K DI from HI.out) (by unfold maxLen; omega) (.string (str f)) (.agg #[]) (.string f) (by rfl) (by rfl) (st_key f hf) (.agg []) [] unitElem_mk ?_
    intro w3 hI3 hg3
    have HI3 := hide hI3
    have HG3 := hide hg3
    clear hI3 hg3
    refine hK.out _ _ ?_ (fun hHeld => ?_)
    · exact (Sam.drew _ _).grown HG3.out SA.out
    clear hK K
    try simp only [Act.put, List.setIfInBounds_toArray, List.set_cons_zero, List.set_cons_succ]
    refine wpAnyH_done (by kernel_rfl) ?_ _
    have hg4 : Hid (∀ i, i < X.heap.size → i ≠ g → w3.heap[i]? = X.heap[i]?) := hide fun i hi hne => HG3.out.block i hi (fun e => hne (by injection e))
    have B3 : Blk w3 m.B 56 [.map (some m.gw), .map (some m.gf), .int .i64 m.tn] := (hg4.out m.B BX.out.lt (fun e => NX.out.1 e)).trans BX.out
    have Y2 : w3.cell? ⟨m.B, 2, none⟩ = some (.int .i64 m.tn) := B3.cell 2
    have fr2 := B3.frozen 2
    have HB3 := hide B3
    have wr1 : IntKind.i64.wrap (m.tn + 1) = m.tn + 1 := by obtain ⟨n, hn⟩ : ∃ n : Nat, m.tn + 1 = (n : Int) := ⟨(m.tn + 1).toNat, by omega⟩; rw [hn]; exact wrap_nat n (by omega)
    have HL := HB3.out.lt
    clear B3 kX zX0 zX1 hlX hHeld
    go_wp2_with fail
    go_ret
    exact en_done hX.out HB3.out HFX.out HFG.out HI3.out hno.out MDI.out HG3.out hgf.out NX.out.1 NX.out.2 hgg.out

end Go.Proofs.YtfjafpbmgbnllaaGreat
