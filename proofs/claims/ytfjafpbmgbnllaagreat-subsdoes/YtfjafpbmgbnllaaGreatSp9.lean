/-
  What is proved here: what the index's Of returns. Conditions: texts of at most 65535 bytes; at most a million calls.
-/
import Derived.Test.YtfjafpbmgbnllaaGreatSp8
import Derived.Test.YtfjafpbmgbnllaaGreatSr4
namespace Go.Proofs.YtfjafpbmgbnllaaGreat
set_option linter.unusedVariables false
set_option linter.unusedSimpArgs false
open Go.RowKit Go.Maps Go.Shelf

theorem stVs_len (l : List (List UInt8)) : (stVs l).length = l.length := by simp [stVs]
theorem st_at {w : World} {A : Option Addr} {l : List (List UInt8)} (h : Rd w A l.length (stVs l)) (k : Nat) (hk : k < l.length) : ∃ b o, A = some ⟨b, o, none⟩ ∧ b < w.heap.size ∧ w.cell? ⟨b, o + k, none⟩ = some (.string (str l[k])) := by
  obtain ⟨b, o, e, hl, hc⟩ := h.at_ (k := k) hk
  refine ⟨b, o, e, hl, hc k _ ?_⟩
  simp [stVs, hk]
/-- What Of answers. -/
def RetPO (es : List SE) (c : List UInt8) (w : World) (e : Ending) (w' : World) : Prop :=
  ∃ O ko, e = .returned (.tuple #[.slice O (ofE es c).length ko, .int .i64 0]) ∧ Rd w' O ((ofE es c).length * 2) (twVs (ofE es c)) ∧ Below w.heap.size w w'
set_option maxHeartbeats 4000000 in
set_option maxRecDepth 100000 in
theorem pOf_any (m : Px) (c : List UInt8) (w : World) (h : PxA w m) (hc : c.length ≤ 65535) (hK : m.K ≤ 1000000) :
    Calls Tryz.prog 16 #[.pointer (some ⟨m.B, 0, none⟩), .string (str c)] w (RetPO (ses m.L) c w) := by
  have H := hide h
  have hfq := field_q
  clear h
  go_enter Tryz.func16, Tryz.ntmps16
  go_upto_region 1 with fail
  generalize hV1 : w.alloc _ = V1
  obtain ⟨b1, hb1, hA1, bV1, hs1⟩ := boxedS (cs := [.pointer (some ⟨m.B, 0, none⟩)]) hV1
  generalize hV2 : V1.alloc _ = V2
  obtain ⟨b2, hb2, hA2, bV2, hs2⟩ := boxedS (cs := [.string (str c)]) hV2
  have bw1 : Below w.heap.size w V1 := by rw [hb1]; exact bV1
  have b12 : Below V1.heap.size V1 V2 := by rw [hb2]; exact bV2
  have HB := hide (below_on bw1 b12)
  have HP := hide (H.out.keep (below_on bw1 b12))
  have HA1 := hide (hA1.keep b12)
  have HA2 := hide hA2
  rw [hb1]
  have e2 : b2 = b1 + 1 := by omega
  have hbw : w.heap.size ≤ b1 := by omega
  rw [← e2]
  clear hV1 hV2 hb1 hb2 bV1 bV2 hs1 hs2 hA1 hA2 bw1 b12 e2
  have cx : V2.cell? ⟨b1, 0, none⟩ = some (.pointer (some ⟨m.B, 0, none⟩)) := HA1.out.cell 0
  go_wp2_with fail
  clear cx
  have r1 : ∀ W, Below V2.heap.size V2 W → W.cell? ⟨b1, 0, none⟩ = some (.pointer (some ⟨m.B, 0, none⟩)) := fun W b => (HA1.out.keep b).cell 0
  have r2 : ∀ W, Below V2.heap.size V2 W → W.cell? ⟨b2, 0, none⟩ = some (.string (str c)) := fun W b => (HA2.out.keep b).cell 0
  have r3 : ∀ W, Below V2.heap.size V2 W → W.cell? ⟨m.B, 1, none⟩ = some (.map (some m.gf)) := fun W b => (HP.out.keep b).blk.cell 1
  have rl : ∀ W, Below V2.heap.size V2 W → (Instr.lookup 54 (.map (some m.gf)) (.string (str c)) false).run Tryz.prog W = .ok (.map (m.G c)) W := fun W b => (HP.out.keep b).lookF hc
  have cK : Calls Tryz.prog 33 #[.map (m.G c)] V2.drew fun e w' => e = .returned (.func (.func 48) #[] #[.pointer (some ⟨V2.heap.size, 0, none⟩)]) ∧ w' = V2.drew.alloc (.cells #[.map (m.G c)] 66) := callsIn_wide.1 (AnyZ.keys_in keysMark Fence.wide 5 trivial rfl (m.G c) V2.drew)
  have CK := hide cK
  have CS := hide fun (W : World) (hW : Below V2.heap.size V2 W) (hBm : V2.heap.size < W.heap.size) (h3 : W.cell? ⟨V2.heap.size, 0, none⟩ = some (.map (m.G c))) => sorted_any m c b1 b2 V2.heap.size (m.G c) W (HP.out.keep hW) hc rfl (by have := HA1.out.lt; have := hW.size; omega) (by have := HA2.out.lt; have := hW.size; omega) hBm ((HA1.out.keep hW).cell 0) ((HA2.out.keep hW).cell 0) h3 hK
  clear cK
  refine wp_region_held_drew (S := fun w' => Below V2.heap.size V2 w') (by kernel_rfl) ?_ (fun hHeld => ?_)
  · exact (Below.refl _ _).drew
  refine wpAnyH_take (i := 0) (oi := { dst := some 12, op := _, type := _, pos := _, after := _, guard := _ }) (v := ?v1x1) rfl (by kernel_rfl) (by kernel_rfl) (by kernel_rfl) (fun _ _ _ h => h) (Or.inl ⟨by rfl, ?hy1x1⟩) hHeld ?rest1x1
  case hy1x1 => (intro w hSw; go_simp <;> with_reducible rfl)
  try simp only [Act.put, List.setIfInBounds_toArray, List.set_cons_zero, List.set_cons_succ]
  refine wpAnyH_take (i := 1) (oi := { dst := some 13, op := _, type := _, pos := _, after := _, guard := _ }) (v := ?v1x2) rfl (by kernel_rfl) (by kernel_rfl) (by kernel_rfl) (fun _ _ _ h => h) (Or.inl ⟨by rfl, ?hy1x2⟩) hHeld ?rest1x2
  case hy1x2 => (intro w hSw; go_simp <;> with_reducible rfl)
  try simp only [Act.put, List.setIfInBounds_toArray, List.set_cons_zero, List.set_cons_succ]
  refine wpAnyH_take (i := 2) (oi := { dst := some 14, op := _, type := _, pos := _, after := _, guard := _ }) (v := ?v1x3) rfl (by kernel_rfl) (by kernel_rfl) (by kernel_rfl) (fun _ _ _ h => h) (Or.inl ⟨by rfl, ?hy1x3⟩) hHeld ?rest1x3
  case hy1x3 => (intro w hSw; go_simp <;> with_reducible rfl)
  try simp only [Act.put, List.setIfInBounds_toArray, List.set_cons_zero, List.set_cons_succ]
  refine wpAnyH_take (i := 3) (oi := { dst := some 15, op := _, type := _, pos := _, after := _, guard := _ }) (v := ?v1x4) rfl (by kernel_rfl) (by kernel_rfl) (by kernel_rfl) (fun _ _ _ h => h) (Or.inl ⟨by rfl, ?hy1x4⟩) hHeld ?rest1x4
  case hy1x4 => (intro w hSw; go_simp <;> with_reducible rfl)
  try simp only [Act.put, List.setIfInBounds_toArray, List.set_cons_zero, List.set_cons_succ]
  refine wpAnyH_take (i := 4) (oi := { dst := some 16, op := _, type := _, pos := _, after := _, guard := _ }) (v := ?v1x5) rfl (by kernel_rfl) (by kernel_rfl) (by kernel_rfl) (fun _ _ _ h => h) (Or.inl ⟨by rfl, ?hy1x5⟩) hHeld ?rest1x5
  case hy1x5 => (intro w hSw; go_simp <;> with_reducible rfl)
  try simp only [Act.put, List.setIfInBounds_toArray, List.set_cons_zero, List.set_cons_succ]
  refine wpAnyH_take (i := 5) (oi := { dst := some 17, op := _, type := _, pos := _, after := _, guard := _ }) (v := ?v1x6) rfl (by kernel_rfl) (by kernel_rfl) (by kernel_rfl) (fun _ _ _ h => h) (Or.inl ⟨by rfl, ?hy1x6⟩) hHeld ?rest1x6
  case hy1x6 => (intro w hSw; go_simp <;> with_reducible rfl)
  try simp only [Act.put, List.setIfInBounds_toArray, List.set_cons_zero, List.set_cons_succ]
  refine wpAnyH_take (i := 7) (oi := { dst := some 19, op := _, type := _, pos := _, after := _, guard := _ }) (v := ?v1x7) rfl (by kernel_rfl) (by kernel_rfl) (by kernel_rfl) (fun _ _ _ h => h) (Or.inl ⟨by rfl, ?hy1x7⟩) hHeld ?rest1x7
  case hy1x7 => (intro w hSw; go_simp <;> with_reducible rfl)
  try simp only [Act.put, List.setIfInBounds_toArray, List.set_cons_zero, List.set_cons_succ]
  refine wpAnyH_ready (rs := [6]) (by kernel_rfl) (by simp) (AllReadyH.cons (o := { dst := some 18, op := _, type := _, pos := _, after := _, guard := _ }) rfl (fun K hK => ?_) AllReadyH.nil)
  go_simp
  refine CK.out.mono ?_
  rintro e X1 ⟨rfl, hX1⟩
  have bX : Below V2.heap.size V2 X1 := by rw [hX1]; exact (Below.refl _ _).drew.alloc (Nat.le_refl _) _
  have cX : X1.cell? ⟨V2.heap.size, 0, none⟩ = some (.map (m.G c)) := by rw [hX1]; exact (Blk.new V2.drew 66 [.map (m.G c)]).cell 0
  have sX : V2.heap.size < X1.heap.size := by rw [hX1]; simp
  have BX := hide bX
  have CX := hide cX
  clear hX1 bX cX
  go_wp2_with fail
  refine hK.out _ _ ?_ (fun hHeld => ?_)
  · exact BX.out
  clear hK K
  try simp only [Act.put, List.setIfInBounds_toArray, List.set_cons_zero, List.set_cons_succ]
  refine wpAnyH_ready (rs := [8]) (by kernel_rfl) (by simp) (AllReadyH.cons (o := { dst := some 20, op := _, type := _, pos := _, after := _, guard := _ }) rfl (fun K hK => ?_) AllReadyH.nil)
  go_simp
  refine (CS.out X1 BX.out sX CX.out).mono ?_
  rintro e w3 ⟨O, ko, rfl, hrd, hb3⟩
  have HRd := hide hrd
  have HB3 := hide (below_on BX.out hb3)
  clear hrd hb3
  go_wp2_with fail
  refine hK.out _ _ ?_ (fun hHeld => ?_)
  · exact HB3.out
  clear hK K
  try simp only [Act.put, List.setIfInBounds_toArray, List.set_cons_zero, List.set_cons_succ]
  refine wpAnyH_take (i := 9) (oi := { dst := some 6, op := _, type := _, pos := _, after := _, guard := _ }) (v := ?v1x10) rfl (by kernel_rfl) (by kernel_rfl) (by kernel_rfl) (fun _ _ _ h => h) (Or.inl ⟨by rfl, ?hy1x10⟩) hHeld ?rest1x10
  case hy1x10 => (intro w hSw; go_simp <;> with_reducible rfl)
  try simp only [Act.put, List.setIfInBounds_toArray, List.set_cons_zero, List.set_cons_succ]
  refine wpAnyH_done (by kernel_rfl) ?_ _
  clear r1 r2 r3 rl hHeld sX
  go_wp2_with fail
  obtain ⟨N, hN⟩ : ∃ N, (fsOf m.L c).length = N := ⟨_, rfl⟩
  have hNK : N ≤ 1000000 := by
    rw [← hN]
    have : (fsOf m.L c).length ≤ m.L.length := by unfold fsOf; rw [List.length_map]; exact List.length_filter_le _ _
    have := H.out.ok.len
    omega
  have HN := hide hN
  rw [hN]
  clear hN
  have hwl : w.heap.size < V2.heap.size := by have := HA1.out.lt; omega
  go_loopw [7, 23] (fun sv iv wr => ∃ (i : Nat) (O2 : Option Addr) (k2 : Nat), i ≤ N ∧ iv = .int .i64 (i : Int) ∧ sv = .slice O2 i k2 ∧ wr.ownsRow w.heap.size 33 2 (.slice O2 i k2) i (twVs (((fsOf m.L c).take i).map fun f => (f, qOf m.L c f))) ∧ (∀ b o, O2 = some ⟨b, o, none⟩ → w3.heap.size ≤ b) ∧ Below w3.heap.size w3 wr) (fun _ iv _ => N - (intOf iv).toNat)
  case atStart => exact ⟨0, none, 0, by omega, rfl, rfl, World.ownsRow_nil _ _ _ _, fun _ _ e => (by cases e), Below.refl _ _⟩
  case round =>
    obtain ⟨i, O2, k2, hi, rfl, rfl, hown, hnew, hbel⟩ := hrel
    have HOwn := hide hown
    have HNew := hide hnew
    have HBl := hide hbel
    clear hown hnew hbel
    have hb2w := below_on HB3.out HBl.out
    have hP := HP.out.keep hb2w
    have HB2 := hide hb2w
    have HPr := hide hP
    clear hb2w hP
    by_cases hlt : i < N
    · have hl : i < (fsOf m.L c).length := by rw [HN.out]; exact hlt
      have hrd := HRd.out.keep HBl.out
      obtain ⟨b, o, rfl, hbl, hcell⟩ := st_at hrd i hl
      have hmem : (fsOf m.L c)[i] ∈ fsOf m.L c := List.getElem_mem hl
      have htk : (fsOf m.L c).take (i + 1) = (fsOf m.L c).take i ++ [(fsOf m.L c)[i]] := (List.take_append_getElem hl).symm
      generalize (fsOf m.L c)[i] = x at *
      have hx : x.length ≤ 65535 := by
        obtain ⟨e, he, _, rfl⟩ := (hadP_iff _ _ _).1 ((fsOf_mem _ _ _).1 hmem)
        exact (H.out.ok.ok e he).2.1
      have q1 : (i : Int) < (N : Int) := by omega
      have HTk := hide htk
      obtain ⟨Q, hQ⟩ : ∃ Q, qOf m.L c x = Q := ⟨_, rfl⟩
      obtain ⟨T, hT⟩ : ∃ T, trn m.L c x 0 = T := ⟨_, rfl⟩
      have r1 : ∀ W, Sam [b1, b2, m.B, m.gw] wr W → W.cell? ⟨b1, 0, none⟩ = some (.pointer (some ⟨m.B, 0, none⟩)) := fun W b => ((HA1.out.keep HB2.out).sam b (by simp)).cell 0
      have r2 : ∀ W, Sam [b1, b2, m.B, m.gw] wr W → W.cell? ⟨b2, 0, none⟩ = some (.string (str c)) := fun W b => ((HA2.out.keep HB2.out).sam b (by simp)).cell 0
      have r3 : ∀ W, Sam [b1, b2, m.B, m.gw] wr W → W.cell? ⟨m.B, 0, none⟩ = some (.map (some m.gw)) := fun W b => (HPr.out.blk.sam b (by simp)).cell 0
      have rl : ∀ W, Sam [b1, b2, m.B, m.gw] wr W → (Instr.lookup 53 (.map (some m.gw)) (.agg #[.string (str c), .string (str x)]) false).run Tryz.prog W = .ok (.agg #[.int .i64 Q, .int .i64 T]) W := fun W b => by
        obtain ⟨D, hD, hi⟩ := HPr.out.wm
        rw [← hQ, ← hT]
        exact look1_of (map_same hD (b m.gw (by simp))) hi HPr.out.ok hc hx
      have HQ := hide hQ
      clear hrd hmem htk hQ hT hl
      go_wp2_with fail
      have bA : Below wr.heap.size wr (wr.alloc (.cells #[.string (str x), .int .i64 Q] 33)).drew := ((Below.refl _ _).alloc (Nat.le_refl _) _).drew
      have HBA := hide bA
      have SL : Hid (∀ j ∈ [b1, b2, m.B, m.gw], j < w3.heap.size) := hide (by
        intro j hj
        simp only [List.mem_cons, List.not_mem_nil, or_false] at hj
        have h3 := HB3.out.size
        rcases hj with rfl | rfl | rfl | rfl
        · have := HA1.out.lt; omega
        · have := HA2.out.lt; omega
        · have := HP.out.blk.lt; omega
        · obtain ⟨D, hD, _⟩ := HP.out.wm; have := hD.lt; omega)
      have hw3 := HBl.out.size
      have hww := hide (Nat.le_trans HB.out.size (Nat.le_trans HB3.out.size (Nat.le_trans HBl.out.size HBA.out.size)))
      clear bA
      refine wp_region_held_drew (S := fun w' => Sam [b1, b2, m.B, m.gw] wr w') (by kernel_rfl) ?_ (fun hHeld => ?_)
      · exact Sam.drew _ _
      refine wpAnyH_take (i := 0) (oi := { dst := some 27, op := _, type := _, pos := _, after := _, guard := _ }) (v := ?v2x1) rfl (by kernel_rfl) (by kernel_rfl) (by kernel_rfl) (fun _ _ _ h => h) (Or.inl ⟨by rfl, ?hy2x1⟩) hHeld ?rest2x1
      case hy2x1 => (intro w hSw; go_simp <;> with_reducible rfl)
      try simp only [Act.put, List.setIfInBounds_toArray, List.set_cons_zero, List.set_cons_succ]
      refine wpAnyH_take (i := 1) (oi := { dst := some 28, op := _, type := _, pos := _, after := _, guard := _ }) (v := ?v2x2) rfl (by kernel_rfl) (by kernel_rfl) (by kernel_rfl) (fun _ _ _ h => h) (Or.inl ⟨by rfl, ?hy2x2⟩) hHeld ?rest2x2
      case hy2x2 => (intro w hSw; go_simp <;> with_reducible rfl)
      try simp only [Act.put, List.setIfInBounds_toArray, List.set_cons_zero, List.set_cons_succ]
      refine wpAnyH_take (i := 2) (oi := { dst := some 29, op := _, type := _, pos := _, after := _, guard := _ }) (v := ?v2x3) rfl (by kernel_rfl) (by kernel_rfl) (by kernel_rfl) (fun _ _ _ h => h) (Or.inl ⟨by rfl, ?hy2x3⟩) hHeld ?rest2x3
      case hy2x3 => (intro w hSw; go_simp <;> with_reducible rfl)
      try simp only [Act.put, List.setIfInBounds_toArray, List.set_cons_zero, List.set_cons_succ]
      refine wpAnyH_take (i := 3) (oi := { dst := some 30, op := _, type := _, pos := _, after := _, guard := _ }) (v := ?v2x4) rfl (by kernel_rfl) (by kernel_rfl) (by kernel_rfl) (fun _ _ _ h => h) (Or.inl ⟨by rfl, ?hy2x4⟩) hHeld ?rest2x4
      case hy2x4 => (intro w hSw; go_simp <;> with_reducible rfl)
      try simp only [Act.put, List.setIfInBounds_toArray, List.set_cons_zero, List.set_cons_succ]
      refine wpAnyH_take (i := 4) (oi := { dst := some 31, op := _, type := _, pos := _, after := _, guard := _ }) (v := ?v2x5) rfl (by kernel_rfl) (by kernel_rfl) (by kernel_rfl) (fun _ _ _ h => h) (Or.inl ⟨by rfl, ?hy2x5⟩) hHeld ?rest2x5
      case hy2x5 => (intro w hSw; go_simp <;> with_reducible rfl)
      try simp only [Act.put, List.setIfInBounds_toArray, List.set_cons_zero, List.set_cons_succ]
      refine wpAnyH_take (i := 5) (oi := { dst := some 32, op := _, type := _, pos := _, after := _, guard := _ }) (v := ?v2x6) rfl (by kernel_rfl) (by kernel_rfl) (by kernel_rfl) (fun _ _ _ h => h) (Or.inl ⟨by rfl, ?hy2x6⟩) hHeld ?rest2x6
      case hy2x6 => (intro w hSw; go_simp <;> with_reducible rfl)
      try simp only [Act.put, List.setIfInBounds_toArray, List.set_cons_zero, List.set_cons_succ]
      refine wpAnyH_take (i := 6) (oi := { dst := some 33, op := _, type := _, pos := _, after := _, guard := _ }) (v := ?v2x7) rfl (by kernel_rfl) (by kernel_rfl) (by kernel_rfl) (fun _ _ _ h => h) (Or.inl ⟨by rfl, ?hy2x7⟩) hHeld ?rest2x7
      case hy2x7 => (intro w hSw; go_simp <;> with_reducible rfl)
      try simp only [Act.put, List.setIfInBounds_toArray, List.set_cons_zero, List.set_cons_succ]
      refine wpAnyH_take (i := 7) (oi := { dst := some 34, op := _, type := _, pos := _, after := _, guard := _ }) (v := ?v2x8) rfl (by kernel_rfl) (by kernel_rfl) (by kernel_rfl) (fun _ _ _ h => h) (Or.inl ⟨by rfl, ?hy2x8⟩) hHeld ?rest2x8
      case hy2x8 => (intro w hSw; go_simp <;> with_reducible rfl)
      try simp only [Act.put, List.setIfInBounds_toArray, List.set_cons_zero, List.set_cons_succ]
      refine wpAnyH_take (i := 8) (oi := { dst := some 35, op := _, type := _, pos := _, after := _, guard := _ }) (v := ?v2x9) rfl (by kernel_rfl) (by kernel_rfl) (by kernel_rfl) (fun _ _ _ h => h) (Or.inl ⟨by rfl, ?hy2x9⟩) hHeld ?rest2x9
      case hy2x9 => (intro w hSw; go_simp <;> with_reducible rfl)
      try simp only [Act.put, List.setIfInBounds_toArray, List.set_cons_zero, List.set_cons_succ]
      refine wpAnyH_take (i := 9) (oi := { dst := some 36, op := _, type := _, pos := _, after := _, guard := _ }) (v := ?v2x10) rfl (by kernel_rfl) (by kernel_rfl) (by kernel_rfl) (fun _ _ _ h => h) (Or.inl ⟨by rfl, ?hy2x10⟩) hHeld ?rest2x10
      case hy2x10 => (intro w hSw; go_simp <;> with_reducible rfl)
      try simp only [Act.put, List.setIfInBounds_toArray, List.set_cons_zero, List.set_cons_succ]
      refine wpAnyH_take (i := 10) (oi := { dst := some 37, op := _, type := _, pos := _, after := _, guard := _ }) (v := ?v2x11) rfl (by kernel_rfl) (by kernel_rfl) (by kernel_rfl) (fun _ _ _ h => h) (Or.inl ⟨by rfl, ?hy2x11⟩) hHeld ?rest2x11
      case hy2x11 => (intro w hSw; go_simp <;> with_reducible rfl)
      try simp only [Act.put, List.setIfInBounds_toArray, List.set_cons_zero, List.set_cons_succ]
      refine wpAnyH_take (i := 11) (oi := { dst := some 38, op := _, type := _, pos := _, after := _, guard := _ }) (v := ?v2x12) rfl (by kernel_rfl) (by kernel_rfl) (by kernel_rfl) (fun _ _ _ h => h) (Or.inl ⟨by rfl, ?hy2x12⟩) hHeld ?rest2x12
      case hy2x12 => (intro w hSw; go_simp <;> with_reducible rfl)
      try simp only [Act.put, List.setIfInBounds_toArray, List.set_cons_zero, List.set_cons_succ]
      refine wpAnyH_ready (rs := [12]) (by kernel_rfl) (by simp) (AllReadyH.cons (o := { dst := some 39, op := _, type := _, pos := _, after := _, guard := _ }) rfl (fun K hK => ?_) AllReadyH.nil)
      go_simp
      go_wp2_with fail
      refine hK.out _ _ ?_ (fun hHeld => ?_)
      · exact Sam.below HBA.out fun j hj => Nat.lt_of_lt_of_le (SL.out j hj) hw3
      clear hK K
      try simp only [Act.put, List.setIfInBounds_toArray, List.set_cons_zero, List.set_cons_succ]
      refine wpAnyH_ready (rs := [13]) (by kernel_rfl) (by simp) (AllReadyH.cons (o := { dst := some 40, op := _, type := _, pos := _, after := _, guard := _ }) rfl (fun K hK => ?_) AllReadyH.nil)
      rw [if_pos (by rfl)]
      refine op_appS (.tmp 27) (.tmp 39) 47 rfl 33 _ 2 24 Tryz.underlying47 sub_info13 rfl (by omega) w.heap.size O2 i k2 (twVs (((fsOf m.L c).take i).map fun f => (f, qOf m.L c f))) rfl (ownS_keep HOwn.out HBA.out) (some ⟨wr.heap.size, 0, none⟩) 1 1 (twOne (x, Q)) rfl (Blk.new wr 33 (twOne (x, Q))).rd (by simpa [twVs] using twVs_one [(x, Q)]) (by unfold maxLen; omega) (by omega) hww.out ?_
      intro A4 k4 w4 o4 b4 h4
      have HO4 := hide o4
      have HB4 := hide b4
      have HH4 := hide h4
      clear o4 b4 h4
      refine hK.out _ _ ?_ (fun hHeld => ?_)
      · exact fun j hj => (HB4.out.block j (Nat.lt_of_lt_of_le (SL.out j hj) (Nat.le_trans hw3 HBA.out.size)) (fun ⟨o, e⟩ => by have := HNew.out j o e; have := SL.out j hj; omega)).trans (HBA.out.block j (Nat.lt_of_lt_of_le (SL.out j hj) hw3))
      clear hK K
      try simp only [Act.put, List.setIfInBounds_toArray, List.set_cons_zero, List.set_cons_succ]
      refine wpAnyH_take (i := 14) (oi := { dst := some 7, op := _, type := _, pos := _, after := _, guard := _ }) (v := ?v2x15) rfl (by kernel_rfl) (by kernel_rfl) (by kernel_rfl) (fun _ _ _ h => h) (Or.inl ⟨by rfl, ?hy2x15⟩) hHeld ?rest2x15
      case hy2x15 => (intro w hSw; go_simp <;> with_reducible rfl)
      try simp only [Act.put, List.setIfInBounds_toArray, List.set_cons_zero, List.set_cons_succ]
      refine wpAnyH_done (by kernel_rfl) ?_ _
      clear r1 r2 r3 rl hHeld
      go_wp2_with fail
      have hb4 : Below w3.heap.size w3 w4 := But.below (below_on HBl.out HBA.out) HB4.out (fun j ⟨o, e⟩ => HNew.out j o e) (Nat.le_trans hw3 HBA.out.size)
      refine ⟨⟨i + 1, A4, k4, by omega, by go_num, rfl, ?_, fun b' o' e => ?_, hb4⟩, by simp [intOf]; omega⟩
      · rw [HTk.out, List.map_append, twVs_app]
        have h9 := HO4.out
        rw [← HQ.out] at h9
        simpa [twVs] using h9
      · rcases HH4.out with h4 | h4
        · rw [h4] at e; exact HNew.out b' o' e
        · have := h4 b' o' e
          have := HBA.out.size
          omega
    · obtain rfl : i = N := by omega
      have q1 : ¬ (i : Int) < (i : Int) := by omega
      go_wp2_with fail
      go_ret2
      have ht : (fsOf m.L c).take i = fsOf m.L c := List.take_of_length_le (by rw [HN.out]; exact Nat.le_refl _)
      have hof := H.out.ok.ofL c
      rw [ht, ← hof] at HOwn
      have hlen : (ofE (ses m.L) c).length = i := by rw [hof, List.length_map, HN.out]
      unfold RetPO
      rw [hlen]
      exact ⟨O2, k2, rfl, ownS_rd HOwn.out, below_on HB.out HB2.out⟩
end Go.Proofs.YtfjafpbmgbnllaaGreat
