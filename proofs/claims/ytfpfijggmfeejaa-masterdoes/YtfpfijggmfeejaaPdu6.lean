/-
  What is proved here: what pdu's lay returns, of a request that may be, function by function.
-/
import Derived.Test.YtfpfijggmfeejaaPdu4
namespace Go.Proofs.Ytfpfijggmfeejaa
set_option linter.unusedVariables false
set_option linter.unusedSimpArgs false
open Go.RowKit

theorem own_base {w : World} {base base' : Nat} {e : TypeId} {v : Value} {n : Nat} {xs : List Value} (h : w.ownsRow base e 1 v n xs) (hb : base' ≤ base) : w.ownsRow base' e 1 v n xs := by
  refine ⟨h.1, ?_⟩
  rcases h.2 with h2 | ⟨g, cap, cur, hv, hg, r⟩
  · exact .inl h2
  · exact .inr ⟨g, cap, cur, hv, Nat.le_trans hb hg, r⟩

theorem two_new (w : World) (l1 : List Value) (t1 t2 : TypeId) (x : Value) (W : World) (hW : W = (w.alloc (.cells (arr l1) t1)).alloc (.cells #[x] t2)) :
    Blk W w.heap.size t1 l1 ∧ Blk W (w.heap.size + 1) t2 [x] ∧ Below w.heap.size w W ∧ W.heap.size = w.heap.size + 2 := by
  subst hW
  refine ⟨(Blk.new w t1 l1).keep ((Below.refl _ _).alloc (Nat.le_refl _) _), ?_, ((Below.refl _ _).alloc (Nat.le_refl _) _).alloc (by simp) _, by simp⟩
  have := Blk.new (w.alloc (.cells (arr l1) t1)) t2 [x]
  rw [World.size_alloc] at this
  exact this
/-- The cells of a request in memory, in whatever world follows. -/
theorem Blk.on {W : World} {g : Nat} {t : TypeId} {l : List Value} (h : Blk W g t l) (i : Nat) (v : Value) (hv : l[i]? = some v) : ∀ w', Below W.heap.size W w' → w'.cell? ⟨g, i, none⟩ = some v := fun w' b => by
  rw [(h.keep b).cell]; exact hv
theorem Rd.on {W : World} {b o n : Nat} {l : List Value} (h : Rd W (some ⟨b, o, none⟩) n l) (i : Nat) (v : Value) (hv : l[i]? = some v) : ∀ w', Below W.heap.size W w' → w'.cell? ⟨b, o + i, none⟩ = some v := fun w' hb => by
  have hi : i < n := by have := (List.getElem?_eq_some_iff.1 hv).1; have := h.1; omega
  obtain ⟨b', o', e, _, hc⟩ := (h.keep hb).at_ hi
  injection e with e
  injection e with e1 e2
  subst e1 e2
  exact hc i v hv


theorem lay_6 (a c t an o v : Int) (A : Option Addr) (n k : Nat) (w : World) (h : Rd w A n (iv [v])) (ha : 0 ≤ a) (ha' : a ≤ 65535) (hv : 0 ≤ v) (hv' : v ≤ 65535) :
    Calls Try.prog 73 #[.agg #[.int .i64 6, .int .i64 a, .int .i64 c, .slice A n k, .int .i64 t, .int .i64 an, .int .i64 o]] w (RetOwn 5 5 (bv ([6] ++ putL [a, v])) w) := by
  have q1 : IntKind.i64.wrap v = v := by rw [IntKind.wrap_i64]; omega
  have q2 : IntKind.i64.wrap (1 * v) = v := by rw [IntKind.wrap_i64]; omega
  have hl : [v].length = n := by rw [← iv_length]; exact h.1
  simp only [List.length_cons, List.length_nil] at hl
  subst hl
  obtain ⟨b, o', rfl, hbl, hc⟩ := h.at_ (k := 0) (by omega)
  have HR := hide h
  clear h hc
  go_enter Try.func73, Try.ntmps73
  go_wp2_with fail
  generalize hW : (w.alloc (.cells #[.int .i64 6, .int .i64 a, .int .i64 c, .slice (some ⟨b, o', none⟩) 1 k, .int .i64 t, .int .i64 an, .int .i64 o] 37)).alloc (.cells #[.int .u8 6] 5) = W
  obtain ⟨hB0, hB1, hBel, hsz⟩ := two_new w [.int .i64 6, .int .i64 a, .int .i64 c, .slice (some ⟨b, o', none⟩) 1 k, .int .i64 t, .int .i64 an, .int .i64 o] 37 5 (.int .u8 6) W hW.symm
  clear hW hsz
  have c1 := hB0.on 1 _ rfl
  have c2 := hB0.on 2 _ rfl
  have c3 := hB0.on 3 _ rfl
  have c4 := hB0.on 4 _ rfl
  have hRb : Rd W (some ⟨w.heap.size + 1, 0, none⟩) 1 (bv [6]) := hB1.rd
  have cv := (HR.out.keep hBel).on 0 _ rfl
  simp only [Nat.add_zero] at cv
  refine wp_region_held_drew (S := fun w' => Below W.heap.size W w') (by kernel_rfl) ?_ (fun hHeld => ?_)
  · exact (Below.refl _ _).drew
  refine wpAnyH_take (i := 0) (oi := { dst := some 26, op := _, type := _, pos := _, after := _, guard := _ }) (v := ?v1x1) rfl (by kernel_rfl) (by kernel_rfl) (by kernel_rfl) (fun _ _ _ h => h) (Or.inl ⟨by rfl, ?hy1x1⟩) hHeld ?rest1x1
  case hy1x1 => (intro w hSw; go_simp <;> with_reducible rfl)
  try simp only [Act.put, List.setIfInBounds_toArray, List.set_cons_zero, List.set_cons_succ]
  refine wpAnyH_take (i := 1) (oi := { dst := some 27, op := _, type := _, pos := _, after := _, guard := _ }) (v := ?v1x2) rfl (by kernel_rfl) (by kernel_rfl) (by kernel_rfl) (fun _ _ _ h => h) (Or.inl ⟨by rfl, ?hy1x2⟩) hHeld ?rest1x2
  case hy1x2 => (intro w hSw; go_simp <;> with_reducible rfl)
  try simp only [Act.put, List.setIfInBounds_toArray, List.set_cons_zero, List.set_cons_succ]
  refine wpAnyH_take (i := 2) (oi := { dst := some 28, op := _, type := _, pos := _, after := _, guard := _ }) (v := ?v1x3) rfl (by kernel_rfl) (by kernel_rfl) (by kernel_rfl) (fun _ _ _ h => h) (Or.inl ⟨by rfl, ?hy1x3⟩) hHeld ?rest1x3
  case hy1x3 => (intro w hSw; go_simp <;> with_reducible rfl)
  try simp only [Act.put, List.setIfInBounds_toArray, List.set_cons_zero, List.set_cons_succ]
  refine wpAnyH_take (i := 3) (oi := { dst := some 29, op := _, type := _, pos := _, after := _, guard := _ }) (v := ?v1x4) rfl (by kernel_rfl) (by kernel_rfl) (by kernel_rfl) (fun _ _ _ h => h) (Or.inl ⟨by rfl, ?hy1x4⟩) hHeld ?rest1x4
  case hy1x4 => (intro w hSw; go_simp <;> with_reducible rfl)
  try simp only [Act.put, List.setIfInBounds_toArray, List.set_cons_zero, List.set_cons_succ]
  refine wpAnyH_take (i := 4) (oi := { dst := some 30, op := _, type := _, pos := _, after := _, guard := _ }) (v := ?v1x5) rfl (by kernel_rfl) (by kernel_rfl) (by kernel_rfl) (fun _ _ _ h => h) (Or.inl ⟨by rfl, ?hy1x5⟩) hHeld ?rest1x5
  case hy1x5 => (intro w hSw; go_simp <;> with_reducible rfl)
  try simp only [Act.put, List.setIfInBounds_toArray, List.set_cons_zero, List.set_cons_succ]
  refine wpAnyH_take (i := 5) (oi := { dst := some 31, op := _, type := _, pos := _, after := _, guard := _ }) (v := ?v1x6) rfl (by kernel_rfl) (by kernel_rfl) (by kernel_rfl) (fun _ _ _ h => h) (Or.inl ⟨by rfl, ?hy1x6⟩) hHeld ?rest1x6
  case hy1x6 => (intro w hSw; go_simp <;> with_reducible rfl)
  try simp only [Act.put, List.setIfInBounds_toArray, List.set_cons_zero, List.set_cons_succ]
  refine wpAnyH_take (i := 6) (oi := { dst := some 32, op := _, type := _, pos := _, after := _, guard := _ }) (v := ?v1x7) rfl (by kernel_rfl) (by kernel_rfl) (by kernel_rfl) (fun _ _ _ h => h) (Or.inl ⟨by rfl, ?hy1x7⟩) hHeld ?rest1x7
  case hy1x7 => (intro w hSw; go_simp <;> with_reducible rfl)
  try simp only [Act.put, List.setIfInBounds_toArray, List.set_cons_zero, List.set_cons_succ]
  refine wpAnyH_take (i := 7) (oi := { dst := some 33, op := _, type := _, pos := _, after := _, guard := _ }) (v := ?v1x8) rfl (by kernel_rfl) (by kernel_rfl) (by kernel_rfl) (fun _ _ _ h => h) (Or.inl ⟨by rfl, ?hy1x8⟩) hHeld ?rest1x8
  case hy1x8 => (intro w hSw; go_simp <;> with_reducible rfl)
  try simp only [Act.put, List.setIfInBounds_toArray, List.set_cons_zero, List.set_cons_succ]
  refine wpAnyH_take (i := 8) (oi := { dst := some 34, op := _, type := _, pos := _, after := _, guard := _ }) (v := ?v1x9) rfl (by kernel_rfl) (by kernel_rfl) (by kernel_rfl) (fun _ _ _ h => h) (Or.inl ⟨by rfl, ?hy1x9⟩) hHeld ?rest1x9
  case hy1x9 => (intro w hSw; go_simp <;> with_reducible rfl)
  try simp only [Act.put, List.setIfInBounds_toArray, List.set_cons_zero, List.set_cons_succ]
  refine wpAnyH_ready (rs := [9]) (by kernel_rfl) (by simp) (AllReadyH.cons (o := { dst := some 35, op := _, type := _, pos := _, after := _, guard := _ }) rfl (fun K hK => ?_) AllReadyH.nil)
  go_simp
  have s1 := hHeld.alloc hHeld.size (.cells #[.int .i64 a, .int .i64 v] 3)
  go_wp2_with fail
  refine hK.out _ _ ?_ (fun hHeld => ?_)
  · exact s1
  clear hK K
  try simp only [Act.put, List.setIfInBounds_toArray, List.set_cons_zero, List.set_cons_succ]
  refine wpAnyH_ready (rs := [10]) (by kernel_rfl) (by simp) (AllReadyH.cons (o := { dst := some 36, op := _, type := _, pos := _, after := _, guard := _ }) rfl (fun K hK => ?_) AllReadyH.nil)
  go_simp
  refine (pput_any _ _ 1 1 2 2 [6] [a, v] _ (hRb.keep s1) (Blk.new _ _ [_, _]).rd (by simp [upToB]; omega) (by omega) (by omega) (by omega)).mono ?_
  rintro e w1 ⟨C, k1, rfl, o1, b1⟩
  have s2 := below_on s1 b1
  go_wp2_with fail
  refine hK.out _ _ ?_ (fun hHeld => ?_)
  · exact s2
  clear hK K
  try simp only [Act.put, List.setIfInBounds_toArray, List.set_cons_zero, List.set_cons_succ]
  refine wpAnyH_take (i := 11) (oi := { dst := some 3, op := _, type := _, pos := _, after := _, guard := _ }) (v := ?v1x12) rfl (by kernel_rfl) (by kernel_rfl) (by kernel_rfl) (fun _ _ _ h => h) (Or.inl ⟨by rfl, ?hy1x12⟩) hHeld ?rest1x12
  case hy1x12 => (intro w hSw; go_simp <;> with_reducible rfl)
  try simp only [Act.put, List.setIfInBounds_toArray, List.set_cons_zero, List.set_cons_succ]
  refine wpAnyH_done (by kernel_rfl) ?_ _
  have O1 := hide (own_base o1 (Nat.le_trans hBel.size s1.size))
  have B1 := hide (below_on hBel s2)
  clear o1 b1 s1 s2 hHeld
  go_wp2
  go_ret
  exact ⟨C, k1, rfl, O1.out, B1.out⟩

theorem lay_5 (a c t an o v : Int) (A : Option Addr) (n k : Nat) (w : World) (h : Rd w A n (iv [v])) (ha : 0 ≤ a) (ha' : a ≤ 65535) (hv : 0 ≤ v) (hv' : v ≤ 1) :
    Calls Try.prog 73 #[.agg #[.int .i64 5, .int .i64 a, .int .i64 c, .slice A n k, .int .i64 t, .int .i64 an, .int .i64 o]] w (RetOwn 5 5 (bv ([5] ++ putL [a, 65280 * v])) w) := by
  have q2 : IntKind.i64.wrap (65280 * v) = 65280 * v := by rw [IntKind.wrap_i64]; omega
  have hl : [v].length = n := by rw [← iv_length]; exact h.1
  simp only [List.length_cons, List.length_nil] at hl
  subst hl
  obtain ⟨b, o', rfl, hbl, hc⟩ := h.at_ (k := 0) (by omega)
  have HR := hide h
  clear h hc
  go_enter Try.func73, Try.ntmps73
  go_wp2_with fail
  generalize hW : (w.alloc (.cells #[.int .i64 5, .int .i64 a, .int .i64 c, .slice (some ⟨b, o', none⟩) 1 k, .int .i64 t, .int .i64 an, .int .i64 o] 37)).alloc (.cells #[.int .u8 5] 5) = W
  obtain ⟨hB0, hB1, hBel, hsz⟩ := two_new w [.int .i64 5, .int .i64 a, .int .i64 c, .slice (some ⟨b, o', none⟩) 1 k, .int .i64 t, .int .i64 an, .int .i64 o] 37 5 (.int .u8 5) W hW.symm
  clear hW hsz
  have c1 := hB0.on 1 _ rfl
  have c2 := hB0.on 2 _ rfl
  have c3 := hB0.on 3 _ rfl
  have c4 := hB0.on 4 _ rfl
  have hRb : Rd W (some ⟨w.heap.size + 1, 0, none⟩) 1 (bv [5]) := hB1.rd
  have cv := (HR.out.keep hBel).on 0 _ rfl
  simp only [Nat.add_zero] at cv
  refine wp_region_held_drew (S := fun w' => Below W.heap.size W w') (by kernel_rfl) ?_ (fun hHeld => ?_)
  · exact (Below.refl _ _).drew
  refine wpAnyH_take (i := 0) (oi := { dst := some 26, op := _, type := _, pos := _, after := _, guard := _ }) (v := ?v2x1) rfl (by kernel_rfl) (by kernel_rfl) (by kernel_rfl) (fun _ _ _ h => h) (Or.inl ⟨by rfl, ?hy2x1⟩) hHeld ?rest2x1
  case hy2x1 => (intro w hSw; go_simp <;> with_reducible rfl)
  try simp only [Act.put, List.setIfInBounds_toArray, List.set_cons_zero, List.set_cons_succ]
  refine wpAnyH_take (i := 1) (oi := { dst := some 27, op := _, type := _, pos := _, after := _, guard := _ }) (v := ?v2x2) rfl (by kernel_rfl) (by kernel_rfl) (by kernel_rfl) (fun _ _ _ h => h) (Or.inl ⟨by rfl, ?hy2x2⟩) hHeld ?rest2x2
  case hy2x2 => (intro w hSw; go_simp <;> with_reducible rfl)
  try simp only [Act.put, List.setIfInBounds_toArray, List.set_cons_zero, List.set_cons_succ]
  refine wpAnyH_take (i := 2) (oi := { dst := some 28, op := _, type := _, pos := _, after := _, guard := _ }) (v := ?v2x3) rfl (by kernel_rfl) (by kernel_rfl) (by kernel_rfl) (fun _ _ _ h => h) (Or.inl ⟨by rfl, ?hy2x3⟩) hHeld ?rest2x3
  case hy2x3 => (intro w hSw; go_simp <;> with_reducible rfl)
  try simp only [Act.put, List.setIfInBounds_toArray, List.set_cons_zero, List.set_cons_succ]
  refine wpAnyH_take (i := 3) (oi := { dst := some 29, op := _, type := _, pos := _, after := _, guard := _ }) (v := ?v2x4) rfl (by kernel_rfl) (by kernel_rfl) (by kernel_rfl) (fun _ _ _ h => h) (Or.inl ⟨by rfl, ?hy2x4⟩) hHeld ?rest2x4
  case hy2x4 => (intro w hSw; go_simp <;> with_reducible rfl)
  try simp only [Act.put, List.setIfInBounds_toArray, List.set_cons_zero, List.set_cons_succ]
  refine wpAnyH_take (i := 4) (oi := { dst := some 30, op := _, type := _, pos := _, after := _, guard := _ }) (v := ?v2x5) rfl (by kernel_rfl) (by kernel_rfl) (by kernel_rfl) (fun _ _ _ h => h) (Or.inl ⟨by rfl, ?hy2x5⟩) hHeld ?rest2x5
  case hy2x5 => (intro w hSw; go_simp <;> with_reducible rfl)
  try simp only [Act.put, List.setIfInBounds_toArray, List.set_cons_zero, List.set_cons_succ]
  refine wpAnyH_take (i := 5) (oi := { dst := some 31, op := _, type := _, pos := _, after := _, guard := _ }) (v := ?v2x6) rfl (by kernel_rfl) (by kernel_rfl) (by kernel_rfl) (fun _ _ _ h => h) (Or.inl ⟨by rfl, ?hy2x6⟩) hHeld ?rest2x6
  case hy2x6 => (intro w hSw; go_simp <;> with_reducible rfl)
  try simp only [Act.put, List.setIfInBounds_toArray, List.set_cons_zero, List.set_cons_succ]
  refine wpAnyH_take (i := 6) (oi := { dst := some 32, op := _, type := _, pos := _, after := _, guard := _ }) (v := ?v2x7) rfl (by kernel_rfl) (by kernel_rfl) (by kernel_rfl) (fun _ _ _ h => h) (Or.inl ⟨by rfl, ?hy2x7⟩) hHeld ?rest2x7
  case hy2x7 => (intro w hSw; go_simp <;> with_reducible rfl)
  try simp only [Act.put, List.setIfInBounds_toArray, List.set_cons_zero, List.set_cons_succ]
  refine wpAnyH_take (i := 7) (oi := { dst := some 33, op := _, type := _, pos := _, after := _, guard := _ }) (v := ?v2x8) rfl (by kernel_rfl) (by kernel_rfl) (by kernel_rfl) (fun _ _ _ h => h) (Or.inl ⟨by rfl, ?hy2x8⟩) hHeld ?rest2x8
  case hy2x8 => (intro w hSw; go_simp <;> with_reducible rfl)
  try simp only [Act.put, List.setIfInBounds_toArray, List.set_cons_zero, List.set_cons_succ]
  refine wpAnyH_take (i := 8) (oi := { dst := some 34, op := _, type := _, pos := _, after := _, guard := _ }) (v := ?v2x9) rfl (by kernel_rfl) (by kernel_rfl) (by kernel_rfl) (fun _ _ _ h => h) (Or.inl ⟨by rfl, ?hy2x9⟩) hHeld ?rest2x9
  case hy2x9 => (intro w hSw; go_simp <;> with_reducible rfl)
  try simp only [Act.put, List.setIfInBounds_toArray, List.set_cons_zero, List.set_cons_succ]
  refine wpAnyH_ready (rs := [9]) (by kernel_rfl) (by simp) (AllReadyH.cons (o := { dst := some 35, op := _, type := _, pos := _, after := _, guard := _ }) rfl (fun K hK => ?_) AllReadyH.nil)
  go_simp
  have s1 := hHeld.alloc hHeld.size (.cells #[.int .i64 a, .int .i64 (65280 * v)] 3)
  go_wp2_with fail
  refine hK.out _ _ ?_ (fun hHeld => ?_)
  · exact s1
  clear hK K
  try simp only [Act.put, List.setIfInBounds_toArray, List.set_cons_zero, List.set_cons_succ]
  refine wpAnyH_ready (rs := [10]) (by kernel_rfl) (by simp) (AllReadyH.cons (o := { dst := some 36, op := _, type := _, pos := _, after := _, guard := _ }) rfl (fun K hK => ?_) AllReadyH.nil)
  go_simp
  refine (pput_any _ _ 1 1 2 2 [5] [a, (65280 * v)] _ (hRb.keep s1) (Blk.new _ _ [_, _]).rd (by simp [upToB]; omega) (by omega) (by omega) (by omega)).mono ?_
  rintro e w1 ⟨C, k1, rfl, o1, b1⟩
  have s2 := below_on s1 b1
  go_wp2_with fail
  refine hK.out _ _ ?_ (fun hHeld => ?_)
  · exact s2
  clear hK K
  try simp only [Act.put, List.setIfInBounds_toArray, List.set_cons_zero, List.set_cons_succ]
  refine wpAnyH_take (i := 11) (oi := { dst := some 3, op := _, type := _, pos := _, after := _, guard := _ }) (v := ?v2x12) rfl (by kernel_rfl) (by kernel_rfl) (by kernel_rfl) (fun _ _ _ h => h) (Or.inl ⟨by rfl, ?hy2x12⟩) hHeld ?rest2x12
  case hy2x12 => (intro w hSw; go_simp <;> with_reducible rfl)
  try simp only [Act.put, List.setIfInBounds_toArray, List.set_cons_zero, List.set_cons_succ]
  refine wpAnyH_done (by kernel_rfl) ?_ _
  have O1 := hide (own_base o1 (Nat.le_trans hBel.size s1.size))
  have B1 := hide (below_on hBel s2)
  clear o1 b1 s1 s2 hHeld
  go_wp2
  go_ret
  exact ⟨C, k1, rfl, O1.out, B1.out⟩

/-- put, of words that were laid in a slice just ahead. -/
theorem pput_lit (g G l m : Nat) (xs : List UInt8) (vs : List Int) (W : World) (hG : G = W.heap.size) (hB : Rd W (some ⟨g, 0, none⟩) l (bv xs)) (hm : vs.length = m) (hv : upToB vs 65535 = true) (hl : l ≤ 1000) (hm5 : m ≤ 5000) (hm1 : 0 < m) :
    Calls Try.prog 72 #[.slice (some ⟨g, 0, none⟩) l l, .slice (some ⟨G, 0, none⟩) m m] (W.alloc (.cells (arr (iv vs)) 3)) (RetOwn 5 (l + 2 * m) (bv (xs ++ putL vs)) W) := by
  subst hG hm
  have b0 : Below W.heap.size W (W.alloc (.cells (arr (iv vs)) 3)) := (Below.refl _ _).alloc (Nat.le_refl _) _
  have hr := (Blk.new W 3 (iv vs)).rd
  rw [iv_length] at hr
  refine (pput_any _ _ l l vs.length vs.length xs vs _ (hB.keep b0) hr hv hl hm5 hm1).mono ?_
  rintro e w1 ⟨C, k, rfl, o1, b1⟩
  exact ⟨C, k, rfl, own_base o1 b0.size, below_on b0 b1⟩

theorem one_two (w : World) (l1 : List Value) (t1 t2 : TypeId) (x : UInt8) : Rd ((w.alloc (.cells (arr l1) t1)).alloc (.cells #[.int .u8 x.toNat] t2)) (some ⟨w.heap.size + 1, 0, none⟩) 1 (bv [x]) := by
  have := (Blk.new (w.alloc (.cells (arr l1) t1)) t2 (bv [x])).rd
  rw [World.size_alloc] at this
  exact this

theorem lay_22 (a c t an o : Int) (A : Option Addr) (n k : Nat) (w : World) (ha : 0 ≤ a) (ha' : a ≤ 65535) (hn : 0 ≤ an) (hn' : an ≤ 65535) (ho : 0 ≤ o) (ho' : o ≤ 65535) :
    Calls Try.prog 73 #[.agg #[.int .i64 22, .int .i64 a, .int .i64 c, .slice A n k, .int .i64 t, .int .i64 an, .int .i64 o]] w (RetOwn 5 7 (bv ([22] ++ putL [a, an, o])) w) := by
  have hl : upToB [a, an, o] 65535 = true := by simp [upToB]; omega
  have HP := hide (fun G W hG hr => pput_lit (w.heap.size + 1) G 1 3 [22] [a, an, o] W hG hr rfl hl (by omega) (by omega) (by omega))
  have HR := hide (one_two w [.int .i64 22, .int .i64 a, .int .i64 c, .slice A n k, .int .i64 t, .int .i64 an, .int .i64 o] 37 5 22)
  clear hl
  go_enter Try.func73, Try.ntmps73
  go_wp2_with fail
  refine (HP.out _ _ (by simp) HR.out).mono ?_
  rintro e w1 ⟨C, k1, rfl, o1, b1⟩
  have O1 := hide (own_base o1 (by simp; omega) : w1.ownsRow w.heap.size _ 1 _ _ _)
  have B1 := hide (((((Below.refl w.heap.size w).alloc (Nat.le_refl _) _).alloc (by simp) _)).trans (b1.mono (by simp; omega)))
  clear o1 b1
  go_wp2
  go_ret
  exact ⟨C, k1, rfl, O1.out, B1.out⟩

theorem lay_1 (a c t an o : Int) (A : Option Addr) (n k : Nat) (w : World) (ha : 0 ≤ a) (ha' : a ≤ 65535) (hc : 0 ≤ c) (hc' : c ≤ 65535) :
    Calls Try.prog 73 #[.agg #[.int .i64 1, .int .i64 a, .int .i64 c, .slice A n k, .int .i64 t, .int .i64 an, .int .i64 o]] w (RetOwn 5 5 (bv ([1] ++ putL [a, c])) w) := by
  have hl : upToB [a, c] 65535 = true := by simp [upToB]; omega
  have HP := hide (fun G W hG hr => pput_lit (w.heap.size + 1) G 1 2 [1] [a, c] W hG hr rfl hl (by omega) (by omega) (by omega))
  have HR := hide (one_two w [.int .i64 1, .int .i64 a, .int .i64 c, .slice A n k, .int .i64 t, .int .i64 an, .int .i64 o] 37 5 1)
  clear hl
  go_enter Try.func73, Try.ntmps73
  go_wp2_with fail
  refine (HP.out _ _ (by simp) HR.out).mono ?_
  rintro e w1 ⟨C, k1, rfl, o1, b1⟩
  have O1 := hide (own_base o1 (by simp; omega) : w1.ownsRow w.heap.size _ 1 _ _ _)
  have B1 := hide (((((Below.refl w.heap.size w).alloc (Nat.le_refl _) _).alloc (by simp) _)).trans (b1.mono (by simp; omega)))
  clear o1 b1
  go_wp2
  go_ret
  exact ⟨C, k1, rfl, O1.out, B1.out⟩
theorem lay_2 (a c t an o : Int) (A : Option Addr) (n k : Nat) (w : World) (ha : 0 ≤ a) (ha' : a ≤ 65535) (hc : 0 ≤ c) (hc' : c ≤ 65535) :
    Calls Try.prog 73 #[.agg #[.int .i64 2, .int .i64 a, .int .i64 c, .slice A n k, .int .i64 t, .int .i64 an, .int .i64 o]] w (RetOwn 5 5 (bv ([2] ++ putL [a, c])) w) := by
  have hl : upToB [a, c] 65535 = true := by simp [upToB]; omega
  have HP := hide (fun G W hG hr => pput_lit (w.heap.size + 1) G 1 2 [2] [a, c] W hG hr rfl hl (by omega) (by omega) (by omega))
  have HR := hide (one_two w [.int .i64 2, .int .i64 a, .int .i64 c, .slice A n k, .int .i64 t, .int .i64 an, .int .i64 o] 37 5 2)
  clear hl
  go_enter Try.func73, Try.ntmps73
  go_wp2_with fail
  refine (HP.out _ _ (by simp) HR.out).mono ?_
  rintro e w1 ⟨C, k1, rfl, o1, b1⟩
  have O1 := hide (own_base o1 (by simp; omega) : w1.ownsRow w.heap.size _ 1 _ _ _)
  have B1 := hide (((((Below.refl w.heap.size w).alloc (Nat.le_refl _) _).alloc (by simp) _)).trans (b1.mono (by simp; omega)))
  clear o1 b1
  go_wp2
  go_ret
  exact ⟨C, k1, rfl, O1.out, B1.out⟩
theorem lay_3 (a c t an o : Int) (A : Option Addr) (n k : Nat) (w : World) (ha : 0 ≤ a) (ha' : a ≤ 65535) (hc : 0 ≤ c) (hc' : c ≤ 65535) :
    Calls Try.prog 73 #[.agg #[.int .i64 3, .int .i64 a, .int .i64 c, .slice A n k, .int .i64 t, .int .i64 an, .int .i64 o]] w (RetOwn 5 5 (bv ([3] ++ putL [a, c])) w) := by
  have hl : upToB [a, c] 65535 = true := by simp [upToB]; omega
  have HP := hide (fun G W hG hr => pput_lit (w.heap.size + 1) G 1 2 [3] [a, c] W hG hr rfl hl (by omega) (by omega) (by omega))
  have HR := hide (one_two w [.int .i64 3, .int .i64 a, .int .i64 c, .slice A n k, .int .i64 t, .int .i64 an, .int .i64 o] 37 5 3)
  clear hl
  go_enter Try.func73, Try.ntmps73
  go_wp2_with fail
  refine (HP.out _ _ (by simp) HR.out).mono ?_
  rintro e w1 ⟨C, k1, rfl, o1, b1⟩
  have O1 := hide (own_base o1 (by simp; omega) : w1.ownsRow w.heap.size _ 1 _ _ _)
  have B1 := hide (((((Below.refl w.heap.size w).alloc (Nat.le_refl _) _).alloc (by simp) _)).trans (b1.mono (by simp; omega)))
  clear o1 b1
  go_wp2
  go_ret
  exact ⟨C, k1, rfl, O1.out, B1.out⟩
theorem lay_4 (a c t an o : Int) (A : Option Addr) (n k : Nat) (w : World) (ha : 0 ≤ a) (ha' : a ≤ 65535) (hc : 0 ≤ c) (hc' : c ≤ 65535) :
    Calls Try.prog 73 #[.agg #[.int .i64 4, .int .i64 a, .int .i64 c, .slice A n k, .int .i64 t, .int .i64 an, .int .i64 o]] w (RetOwn 5 5 (bv ([4] ++ putL [a, c])) w) := by
  have hl : upToB [a, c] 65535 = true := by simp [upToB]; omega
  have HP := hide (fun G W hG hr => pput_lit (w.heap.size + 1) G 1 2 [4] [a, c] W hG hr rfl hl (by omega) (by omega) (by omega))
  have HR := hide (one_two w [.int .i64 4, .int .i64 a, .int .i64 c, .slice A n k, .int .i64 t, .int .i64 an, .int .i64 o] 37 5 4)
  clear hl
  go_enter Try.func73, Try.ntmps73
  go_wp2_with fail
  refine (HP.out _ _ (by simp) HR.out).mono ?_
  rintro e w1 ⟨C, k1, rfl, o1, b1⟩
  have O1 := hide (own_base o1 (by simp; omega) : w1.ownsRow w.heap.size _ 1 _ _ _)
  have B1 := hide (((((Below.refl w.heap.size w).alloc (Nat.le_refl _) _).alloc (by simp) _)).trans (b1.mono (by simp; omega)))
  clear o1 b1
  go_wp2
  go_ret
  exact ⟨C, k1, rfl, O1.out, B1.out⟩

end Go.Proofs.Ytfpfijggmfeejaa
