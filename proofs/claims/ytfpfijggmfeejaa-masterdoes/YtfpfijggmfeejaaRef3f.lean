/-
  What is proved here: what the document's own Bytes returns, of any request that may be.
-/
import Derived.Test.YtfpfijggmfeejaaRef3e
namespace Go.Proofs.Ytfpfijggmfeejaa
set_option linter.unusedVariables false
set_option linter.unusedSimpArgs false
open Go.RowKit
set_option maxRecDepth 100000 in
theorem refBytes_6 (a c t an o v : Int) (A : Option Addr) (n k : Nat) (w : World) (h : Rd w A n (iv [v])) (ha : 0 ≤ a) (ha' : a ≤ 65535) (hv : 0 ≤ v) (hv' : v ≤ 65535) :
    Calls Try.prog 50 #[.agg #[.int .i64 6, .int .i64 a, .int .i64 c, .slice A n k, .int .i64 t, .int .i64 an, .int .i64 o]] w (RetSl 5 (bv ([6] ++ putL [a, v])) w) := by
  have hl : [v].length = n := by rw [← iv_length]; exact h.1
  simp only [List.length_cons, List.length_nil] at hl
  subst hl
  obtain ⟨b, o', rfl, hbl, hc⟩ := h.at_ (k := 0) (by omega)
  have HR := hide h
  have hu : upToB [a, v] 65535 = true := by simp [upToB]; omega
  have HU := hide hu
  clear h hc hu
  go_enter Try.func50, Try.ntmps50
  go_wp2_with fail
  generalize hW : (w.alloc (.cells #[.int .i64 6, .int .i64 a, .int .i64 c, .slice (some ⟨b, o', none⟩) 1 k, .int .i64 t, .int .i64 an, .int .i64 o] 37)).alloc (.cells #[.int .u8 6] 5) = W
  obtain ⟨hB0, hB1, hBel, hsz⟩ := two_new w [.int .i64 6, .int .i64 a, .int .i64 c, .slice (some ⟨b, o', none⟩) 1 k, .int .i64 t, .int .i64 an, .int .i64 o] 37 5 (.int .u8 6) W hW.symm
  have hs1 : w.heap.size + 1 ≤ W.heap.size := by omega
  clear hW hsz
  have c1 : ∀ w', Below (w.heap.size + 1) W w' → w'.cell? ⟨w.heap.size, 1, none⟩ = some (.int .i64 a) := fun w' hb => (hB0.keepB hb (Nat.lt_succ_self _)).cell 1
  have c3 : ∀ w', Below (w.heap.size + 1) W w' → w'.cell? ⟨w.heap.size, 3, none⟩ = some (.slice (some ⟨b, o', none⟩) 1 k) := fun w' hb => (hB0.keepB hb (Nat.lt_succ_self _)).cell 3
  have cv : ∀ w', Below (w.heap.size + 1) W w' → w'.cell? ⟨b, o', none⟩ = some (.int .i64 v) := fun w' hb => HR.out.on 0 (.int .i64 v) rfl w' (hBel.trans (hb.mono (Nat.le_succ _)))
  refine wp_region_held_drew (S := fun w' => Below (w.heap.size + 1) W w') (by kernel_rfl) ?_ (fun hHeld => ?_)
  · exact (Below.refl _ _).drew
  refine wpAnyH_take (i := 0) (oi := { dst := some 40, op := _, type := _, pos := _, after := _, guard := _ }) (v := ?v1x1) rfl (by kernel_rfl) (by kernel_rfl) (by kernel_rfl) (fun _ _ _ h => h) (Or.inl ⟨by rfl, ?hy1x1⟩) hHeld ?rest1x1
  case hy1x1 => (intro w hSw; go_simp <;> with_reducible rfl)
  try simp only [Act.put, List.setIfInBounds_toArray, List.set_cons_zero, List.set_cons_succ]
  refine wpAnyH_take (i := 1) (oi := { dst := some 41, op := _, type := _, pos := _, after := _, guard := _ }) (v := ?v1x2) rfl (by kernel_rfl) (by kernel_rfl) (by kernel_rfl) (fun _ _ _ h => h) (Or.inl ⟨by rfl, ?hy1x2⟩) hHeld ?rest1x2
  case hy1x2 => (intro w hSw; go_simp <;> with_reducible rfl)
  try simp only [Act.put, List.setIfInBounds_toArray, List.set_cons_zero, List.set_cons_succ]
  refine wpAnyH_take (i := 2) (oi := { dst := some 42, op := _, type := _, pos := _, after := _, guard := _ }) (v := ?v1x3) rfl (by kernel_rfl) (by kernel_rfl) (by kernel_rfl) (fun _ _ _ h => h) (Or.inl ⟨by rfl, ?hy1x3⟩) hHeld ?rest1x3
  case hy1x3 => (intro w hSw; go_simp <;> with_reducible rfl)
  try simp only [Act.put, List.setIfInBounds_toArray, List.set_cons_zero, List.set_cons_succ]
  refine wpAnyH_take (i := 3) (oi := { dst := some 43, op := _, type := _, pos := _, after := _, guard := _ }) (v := ?v1x4) rfl (by kernel_rfl) (by kernel_rfl) (by kernel_rfl) (fun _ _ _ h => h) (Or.inl ⟨by rfl, ?hy1x4⟩) hHeld ?rest1x4
  case hy1x4 => (intro w hSw; go_simp <;> with_reducible rfl)
  try simp only [Act.put, List.setIfInBounds_toArray, List.set_cons_zero, List.set_cons_succ]
  refine wpAnyH_take (i := 4) (oi := { dst := some 44, op := _, type := _, pos := _, after := _, guard := _ }) (v := ?v1x5) rfl (by kernel_rfl) (by kernel_rfl) (by kernel_rfl) (fun _ _ _ h => h) (Or.inl ⟨by rfl, ?hy1x5⟩) hHeld ?rest1x5
  case hy1x5 => (intro w hSw; go_simp <;> with_reducible rfl)
  try simp only [Act.put, List.setIfInBounds_toArray, List.set_cons_zero, List.set_cons_succ]
  refine wpAnyH_take (i := 5) (oi := { dst := some 45, op := _, type := _, pos := _, after := _, guard := _ }) (v := ?v1x6) rfl (by kernel_rfl) (by kernel_rfl) (by kernel_rfl) (fun _ _ _ h => h) (Or.inl ⟨by rfl, ?hy1x6⟩) hHeld ?rest1x6
  case hy1x6 => (intro w hSw; go_simp <;> with_reducible rfl)
  try simp only [Act.put, List.setIfInBounds_toArray, List.set_cons_zero, List.set_cons_succ]
  refine wpAnyH_take (i := 6) (oi := { dst := some 46, op := _, type := _, pos := _, after := _, guard := _ }) (v := ?v1x7) rfl (by kernel_rfl) (by kernel_rfl) (by kernel_rfl) (fun _ _ _ h => h) (Or.inl ⟨by rfl, ?hy1x7⟩) hHeld ?rest1x7
  case hy1x7 => (intro w hSw; go_simp <;> with_reducible rfl)
  try simp only [Act.put, List.setIfInBounds_toArray, List.set_cons_zero, List.set_cons_succ]
  refine wpAnyH_ready (rs := [7]) (by kernel_rfl) (by simp) (AllReadyH.cons (o := { dst := some 47, op := _, type := _, pos := _, after := _, guard := _ }) rfl (fun K hK => ?_) AllReadyH.nil)
  go_simp
  have s1 : Below W.heap.size W (W.drew.alloc (.cells #[.int .i64 a, .int .i64 v] 3)) := (Below.refl _ _).drew.alloc (Nat.le_refl _) _
  go_wp2_with fail
  refine hK.out _ _ ?_ (fun hHeld => ?_)
  · exact s1.mono hs1
  clear hK K
  try simp only [Act.put, List.setIfInBounds_toArray, List.set_cons_zero, List.set_cons_succ]
  refine wpAnyH_ready (rs := [8]) (by kernel_rfl) (by simp) (AllReadyH.cons (o := { dst := some 48, op := _, type := _, pos := _, after := _, guard := _ }) rfl (fun K hK => ?_) AllReadyH.nil)
  go_simp
  refine (refLay_any _ 2 2 [a, v] _ (rd_new W.drew _ rfl 3 [_, _] 2 rfl) HU.out (by omega)).mono ?_
  rintro e w1 ⟨D, kD, rfl, oD, bD⟩
  have s2 := below_on s1 bD
  go_wp2_with fail
  refine hK.out _ _ ?_ (fun hHeld => ?_)
  · exact s2.mono hs1
  clear hK K
  try simp only [Act.put, List.setIfInBounds_toArray, List.set_cons_zero, List.set_cons_succ]
  refine wpAnyH_ready (rs := [9]) (by kernel_rfl) (by simp) (AllReadyH.cons (o := { dst := some 49, op := _, type := _, pos := _, after := _, guard := _ }) rfl (fun K hK => ?_) AllReadyH.nil)
  rw [if_pos (by rfl)]
  refine op_app (.tmp 40) (.tmp 48) 38 rfl 5 _ _ Try.underlying38 u8_info rfl (w.heap.size + 1) _ 1 1 _ rfl (own_keep (hB1.own (Nat.le_refl _) 1 rfl (by decide)) s2) _ 4 kD _ rfl (own_rd oD) (bv_one _) (by unfold maxLen; omega) (by omega) (Nat.le_trans hs1 s2.size) ?_
  intro A3 c3 w3 o3 g3 b3
  have s3 := (s2.mono hs1).trans b3
  refine hK.out _ _ ?_ (fun hHeld => ?_)
  · exact s3
  clear hK K
  try simp only [Act.put, List.setIfInBounds_toArray, List.set_cons_zero, List.set_cons_succ]
  refine wpAnyH_take (i := 10) (oi := { dst := some 3, op := _, type := _, pos := _, after := _, guard := _ }) (v := ?v1x11) rfl (by kernel_rfl) (by kernel_rfl) (by kernel_rfl) (fun _ _ _ h => h) (Or.inl ⟨by rfl, ?hy1x11⟩) hHeld ?rest1x11
  case hy1x11 => (intro w hSw; go_simp <;> with_reducible rfl)
  try simp only [Act.put, List.setIfInBounds_toArray, List.set_cons_zero, List.set_cons_succ]
  refine wpAnyH_done (by kernel_rfl) ?_ _
  have O3 : Hid (w3.ownsRow (w.heap.size + 1) 5 1 (.slice A3 5 c3) 5 (bv ([6] ++ putL [a, v]))) := o3
  have B3 := hide (hBel.trans (s3.mono (Nat.le_succ _)))
  clear o3 b3 g3 s1 s2 s3 hHeld
  go_wp2
  go_ret
  exact ⟨A3, c3, rfl, own_cap O3.out, own_rd O3.out, B3.out⟩

set_option maxRecDepth 100000 in
theorem refBytes_5 (a c t an o v : Int) (A : Option Addr) (n k : Nat) (w : World) (h : Rd w A n (iv [v])) (ha : 0 ≤ a) (ha' : a ≤ 65535) (hv : 0 ≤ v) (hv' : v ≤ 1) :
    Calls Try.prog 50 #[.agg #[.int .i64 5, .int .i64 a, .int .i64 c, .slice A n k, .int .i64 t, .int .i64 an, .int .i64 o]] w (RetSl 5 (bv ([5] ++ putL [a, 65280 * v])) w) := by
  have q2 : IntKind.i64.wrap (65280 * v) = 65280 * v := by rw [IntKind.wrap_i64]; omega
  have hl : [v].length = n := by rw [← iv_length]; exact h.1
  simp only [List.length_cons, List.length_nil] at hl
  subst hl
  obtain ⟨b, o', rfl, hbl, hc⟩ := h.at_ (k := 0) (by omega)
  have HR := hide h
  have hu : upToB [a, (65280 * v)] 65535 = true := by simp [upToB]; omega
  have HU := hide hu
  clear h hc hu
  go_enter Try.func50, Try.ntmps50
  go_wp2_with fail
  generalize hW : (w.alloc (.cells #[.int .i64 5, .int .i64 a, .int .i64 c, .slice (some ⟨b, o', none⟩) 1 k, .int .i64 t, .int .i64 an, .int .i64 o] 37)).alloc (.cells #[.int .u8 5] 5) = W
  obtain ⟨hB0, hB1, hBel, hsz⟩ := two_new w [.int .i64 5, .int .i64 a, .int .i64 c, .slice (some ⟨b, o', none⟩) 1 k, .int .i64 t, .int .i64 an, .int .i64 o] 37 5 (.int .u8 5) W hW.symm
  have hs1 : w.heap.size + 1 ≤ W.heap.size := by omega
  clear hW hsz
  have c1 : ∀ w', Below (w.heap.size + 1) W w' → w'.cell? ⟨w.heap.size, 1, none⟩ = some (.int .i64 a) := fun w' hb => (hB0.keepB hb (Nat.lt_succ_self _)).cell 1
  have c3 : ∀ w', Below (w.heap.size + 1) W w' → w'.cell? ⟨w.heap.size, 3, none⟩ = some (.slice (some ⟨b, o', none⟩) 1 k) := fun w' hb => (hB0.keepB hb (Nat.lt_succ_self _)).cell 3
  have cv : ∀ w', Below (w.heap.size + 1) W w' → w'.cell? ⟨b, o', none⟩ = some (.int .i64 v) := fun w' hb => HR.out.on 0 (.int .i64 v) rfl w' (hBel.trans (hb.mono (Nat.le_succ _)))
  refine wp_region_held_drew (S := fun w' => Below (w.heap.size + 1) W w') (by kernel_rfl) ?_ (fun hHeld => ?_)
  · exact (Below.refl _ _).drew
  refine wpAnyH_take (i := 0) (oi := { dst := some 26, op := _, type := _, pos := _, after := _, guard := _ }) (v := ?v2x1) rfl (by kernel_rfl) (by kernel_rfl) (by kernel_rfl) (fun _ _ _ h => h) (Or.inl ⟨by rfl, ?hy2x1⟩) hHeld ?rest2x1
  case hy2x1 => (intro w hSw; go_simp <;> with_reducible rfl)
  try simp only [Act.put, List.setIfInBounds_toArray, List.set_cons_zero, List.set_cons_succ]
  refine wpAnyH_take (i := 1) (oi := { dst := some 27, op := _, type := _, pos := _, after := _, guard := _ }) (v := ?v2x2) rfl (by kernel_rfl) (by kernel_rfl) (by kernel_rfl) (fun _ _ _ h => h) (Or.inl ⟨by rfl, ?hy2x2⟩) hHeld ?rest2x2
  case hy2x2 => (intro w hSw; go_simp <;> with_reducible rfl)
  try simp only [Act.put, List.setIfInBounds_toArray, List.set_cons_zero, List.set_cons_succ]
  refine wpAnyH_take (i := 2) (oi := { dst := some 28, op := _, type := _, pos := _, after := _, guard := _ }) (v := ?v2x3) rfl (by kernel_rfl) (by kernel_rfl) (by kernel_rfl) (fun _ _ _ h => h) (Or.inl ⟨by rfl, ?hy2x3⟩) hHeld ?rest2x3
  case hy2x3 => (intro w hSw; go_simp <;> with_reducible rfl)
  try simp only [Act.put, List.setIfInBounds_toArray, List.set_cons_zero, List.set_cons_succ]
  refine wpAnyH_take (i := 3) (oi := { dst := some 29, op := _, type := _, pos := _, after := _, guard := _ }) (v := ?v2x4) rfl (by kernel_rfl) (by kernel_rfl) (by kernel_rfl) (fun _ _ _ h => h) (Or.inl ⟨by rfl, ?hy2x4⟩) hHeld ?rest2x4
  case hy2x4 => (intro w hSw; go_simp <;> with_reducible rfl)
  try simp only [Act.put, List.setIfInBounds_toArray, List.set_cons_zero, List.set_cons_succ]
  refine wpAnyH_take (i := 4) (oi := { dst := some 30, op := _, type := _, pos := _, after := _, guard := _ }) (v := ?v2x5) rfl (by kernel_rfl) (by kernel_rfl) (by kernel_rfl) (fun _ _ _ h => h) (Or.inl ⟨by rfl, ?hy2x5⟩) hHeld ?rest2x5
  case hy2x5 => (intro w hSw; go_simp <;> with_reducible rfl)
  try simp only [Act.put, List.setIfInBounds_toArray, List.set_cons_zero, List.set_cons_succ]
  refine wpAnyH_take (i := 5) (oi := { dst := some 31, op := _, type := _, pos := _, after := _, guard := _ }) (v := ?v2x6) rfl (by kernel_rfl) (by kernel_rfl) (by kernel_rfl) (fun _ _ _ h => h) (Or.inl ⟨by rfl, ?hy2x6⟩) hHeld ?rest2x6
  case hy2x6 => (intro w hSw; go_simp <;> with_reducible rfl)
  try simp only [Act.put, List.setIfInBounds_toArray, List.set_cons_zero, List.set_cons_succ]
  refine wpAnyH_take (i := 6) (oi := { dst := some 32, op := _, type := _, pos := _, after := _, guard := _ }) (v := ?v2x7) rfl (by kernel_rfl) (by kernel_rfl) (by kernel_rfl) (fun _ _ _ h => h) (Or.inl ⟨by rfl, ?hy2x7⟩) hHeld ?rest2x7
  case hy2x7 => (intro w hSw; go_simp <;> with_reducible rfl)
  try simp only [Act.put, List.setIfInBounds_toArray, List.set_cons_zero, List.set_cons_succ]
  refine wpAnyH_take (i := 7) (oi := { dst := some 33, op := _, type := _, pos := _, after := _, guard := _ }) (v := ?v2x8) rfl (by kernel_rfl) (by kernel_rfl) (by kernel_rfl) (fun _ _ _ h => h) (Or.inl ⟨by rfl, ?hy2x8⟩) hHeld ?rest2x8
  case hy2x8 => (intro w hSw; go_simp <;> with_reducible rfl)
  try simp only [Act.put, List.setIfInBounds_toArray, List.set_cons_zero, List.set_cons_succ]
  refine wpAnyH_ready (rs := [8]) (by kernel_rfl) (by simp) (AllReadyH.cons (o := { dst := some 34, op := _, type := _, pos := _, after := _, guard := _ }) rfl (fun K hK => ?_) AllReadyH.nil)
  go_simp
  have s1 : Below W.heap.size W (W.drew.alloc (.cells #[.int .i64 a, .int .i64 (65280 * v)] 3)) := (Below.refl _ _).drew.alloc (Nat.le_refl _) _
  go_wp2_with fail
  refine hK.out _ _ ?_ (fun hHeld => ?_)
  · exact s1.mono hs1
  clear hK K
  try simp only [Act.put, List.setIfInBounds_toArray, List.set_cons_zero, List.set_cons_succ]
  refine wpAnyH_ready (rs := [9]) (by kernel_rfl) (by simp) (AllReadyH.cons (o := { dst := some 35, op := _, type := _, pos := _, after := _, guard := _ }) rfl (fun K hK => ?_) AllReadyH.nil)
  go_simp
  refine (refLay_any _ 2 2 [a, (65280 * v)] _ (rd_new W.drew _ rfl 3 [_, _] 2 rfl) HU.out (by omega)).mono ?_
  rintro e w1 ⟨D, kD, rfl, oD, bD⟩
  have s2 := below_on s1 bD
  go_wp2_with fail
  refine hK.out _ _ ?_ (fun hHeld => ?_)
  · exact s2.mono hs1
  clear hK K
  try simp only [Act.put, List.setIfInBounds_toArray, List.set_cons_zero, List.set_cons_succ]
  refine wpAnyH_ready (rs := [10]) (by kernel_rfl) (by simp) (AllReadyH.cons (o := { dst := some 36, op := _, type := _, pos := _, after := _, guard := _ }) rfl (fun K hK => ?_) AllReadyH.nil)
  rw [if_pos (by rfl)]
  refine op_app (.tmp 26) (.tmp 35) 38 rfl 5 _ _ Try.underlying38 u8_info rfl (w.heap.size + 1) _ 1 1 _ rfl (own_keep (hB1.own (Nat.le_refl _) 1 rfl (by decide)) s2) _ 4 kD _ rfl (own_rd oD) (bv_one _) (by unfold maxLen; omega) (by omega) (Nat.le_trans hs1 s2.size) ?_
  intro A3 c3 w3 o3 g3 b3
  have s3 := (s2.mono hs1).trans b3
  refine hK.out _ _ ?_ (fun hHeld => ?_)
  · exact s3
  clear hK K
  try simp only [Act.put, List.setIfInBounds_toArray, List.set_cons_zero, List.set_cons_succ]
  refine wpAnyH_take (i := 11) (oi := { dst := some 3, op := _, type := _, pos := _, after := _, guard := _ }) (v := ?v2x12) rfl (by kernel_rfl) (by kernel_rfl) (by kernel_rfl) (fun _ _ _ h => h) (Or.inl ⟨by rfl, ?hy2x12⟩) hHeld ?rest2x12
  case hy2x12 => (intro w hSw; go_simp <;> with_reducible rfl)
  try simp only [Act.put, List.setIfInBounds_toArray, List.set_cons_zero, List.set_cons_succ]
  refine wpAnyH_done (by kernel_rfl) ?_ _
  have O3 : Hid (w3.ownsRow (w.heap.size + 1) 5 1 (.slice A3 5 c3) 5 (bv ([5] ++ putL [a, (65280 * v)]))) := o3
  have B3 := hide (hBel.trans (s3.mono (Nat.le_succ _)))
  clear o3 b3 g3 s1 s2 s3 hHeld
  go_wp2
  go_ret
  exact ⟨A3, c3, rfl, own_cap O3.out, own_rd O3.out, B3.out⟩

theorem refBytes_any (f a c t an o : Int) (A : Option Addr) (n k : Nat) (vs : List Int) (w : World) (h : Rd w A n (iv vs)) (hm : mayB f a c vs t an o = true) :
    Calls Try.prog 50 #[.agg #[.int .i64 f, .int .i64 a, .int .i64 c, .slice A n k, .int .i64 t, .int .i64 an, .int .i64 o]] w (RetSl (layL f a c vs t an o).length (bv (layL f a c vs t an o)) w) := by
  have hl : vs.length = n := by rw [← iv_length]; exact h.1
  rw [lay_length hm, hl]
  rcases may_cases hm with ⟨hf, h1, h2, h3, h4, rfl, rfl, rfl, rfl⟩ | ⟨hf, h1, h2, h3, h4, rfl, rfl, rfl, rfl⟩ | ⟨rfl, h1, h2, rfl, ⟨v, rfl, h3, h4⟩, rfl, rfl, rfl⟩ | ⟨rfl, h1, h2, rfl, ⟨v, rfl, h3, h4⟩, rfl, rfl, rfl⟩ | ⟨rfl, h1, h2, h3, h4, h5, h6, rfl, rfl, rfl⟩ | ⟨rfl, h1, h2, h3, h4, h5, h6, rfl, rfl, rfl⟩ | ⟨rfl, h1, h2, h3, h4, h5, h6, rfl, rfl, rfl⟩ | ⟨rfl, h1, h2, h3, h4, h5, h6, h7, h8, h9, rfl, rfl⟩
  · rcases hf with rfl | rfl
    · exact (refBytes_1 a c 0 0 0 A n k w (by omega) (by omega) (by omega) (by omega)).mono fun _ _ h => h
    · exact (refBytes_2 a c 0 0 0 A n k w (by omega) (by omega) (by omega) (by omega)).mono fun _ _ h => h
  · rcases hf with rfl | rfl
    · exact (refBytes_3 a c 0 0 0 A n k w (by omega) (by omega) (by omega) (by omega)).mono fun _ _ h => h
    · exact (refBytes_4 a c 0 0 0 A n k w (by omega) (by omega) (by omega) (by omega)).mono fun _ _ h => h
  · exact (refBytes_5 a 0 0 0 0 v A n k w h (by omega) (by omega) (by omega) (by omega)).mono fun _ _ h => h
  · exact (refBytes_6 a 0 0 0 0 v A n k w h (by omega) (by omega) (by omega) (by omega)).mono fun _ _ h => h
  · exact (refBytes_15 a c 0 0 0 A n k _ vs w h (by omega) (by omega) (by omega) (by omega) h6 (by omega) rfl).mono fun _ _ h => h.to (by show 1 + 2 * 2 + (1 + (n + 7) / 8) = 6 + (n + 7) / 8; omega) rfl
  · exact (refBytes_16 a c 0 0 0 A n k vs w h (by omega) (by omega) (by omega) (by omega) h6 (by omega)).mono fun _ _ h => h.to (by show 1 + 2 * 2 + (1 + 2 * n) = 6 + 2 * n; omega) rfl
  · exact (refBytes_22 a 0 0 an o A n k w (by omega) (by omega) (by omega) (by omega) (by omega) (by omega)).mono fun _ _ h => h
  · subst hl
    exact (refBytes_23 a c t 0 0 A _ k vs w h (by omega) (by omega) (by omega) (by omega) (by omega) (by omega) h9 (by omega)).mono fun _ _ h => h.to (by show 1 + 2 * 4 + (1 + 2 * vs.length) = 10 + 2 * vs.length; omega) rfl

end Go.Proofs.Ytfpfijggmfeejaa
