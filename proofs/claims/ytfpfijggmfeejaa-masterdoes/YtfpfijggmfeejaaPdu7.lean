/-
  What is proved here: what pdu's lay returns, of a request that may be (the functions that write many), and then of any request that may be.
-/
import Derived.Test.YtfpfijggmfeejaaPdu6
namespace Go.Proofs.Ytfpfijggmfeejaa
set_option linter.unusedVariables false
set_option linter.unusedSimpArgs false
open Go.RowKit

theorem bits_upTo (vs : List Int) : upToB vs 1 = bitsB vs := by
  unfold upToB bitsB
  congr 1
  funext v
  rw [Bool.eq_iff_iff]
  simp
  omega

set_option maxHeartbeats 1000000 in
theorem lay_15 (a c t an o : Int) (A : Option Addr) (n k m : Nat) (vs : List Int) (w : World) (h : Rd w A n (iv vs)) (ha : 0 ≤ a) (ha' : a ≤ 65535) (hc : 0 ≤ c) (hc' : c ≤ 65535) (hv : upToB vs 1 = true) (hn : n ≤ 1968) (hm : m = (n + 7) / 8) :
    Calls Try.prog 73 #[.agg #[.int .i64 15, .int .i64 a, .int .i64 c, .slice A n k, .int .i64 t, .int .i64 an, .int .i64 o]] w (RetOwn 5 (6 + m) (bv ([15] ++ putL [a, c] ++ cntL (packL vs))) w) := by
  have hl : vs.length = n := by rw [← iv_length]; exact h.1
  have hb : bitsB vs = true := by rw [← bits_upTo]; exact hv
  have HPk := hide (fun W b => packed_any A n k m vs W (h.keep b) (by omega) hb hm)
  have hpl : (packL vs).length = m := by rw [packL, pkTo_length, hl, hm]
  have Hpl := hide hpl
  have Hm := hide hm
  have h2 : upToB [a, c] 65535 = true := by simp [upToB]; omega
  have H2 := hide h2
  clear hpl hm h hl hb hv h2
  go_enter Try.func73, Try.ntmps73
  go_wp2_with fail
  generalize hW : (w.alloc (.cells #[.int .i64 15, .int .i64 a, .int .i64 c, .slice A n k, .int .i64 t, .int .i64 an, .int .i64 o] 37)).alloc (.cells #[.int .u8 15] 5) = W
  obtain ⟨hB0, hB1, hBel, hsz⟩ := two_new w [.int .i64 15, .int .i64 a, .int .i64 c, .slice A n k, .int .i64 t, .int .i64 an, .int .i64 o] 37 5 (.int .u8 15) W hW.symm
  clear hW hsz
  have c1 := hB0.on 1 _ rfl
  have c2 := hB0.on 2 _ rfl
  have c3 := hB0.on 3 _ rfl
  have c4 := hB0.on 4 _ rfl
  have hRb : Rd W (some ⟨w.heap.size + 1, 0, none⟩) 1 (bv [15]) := hB1.rd
  clear c4
  refine wp_region_held_drew (S := fun w' => Below W.heap.size W w') (by kernel_rfl) ?_ (fun hHeld => ?_)
  · exact (Below.refl _ _).drew
  refine wpAnyH_take (i := 0) (oi := { dst := some 46, op := _, type := _, pos := _, after := _, guard := _ }) (v := ?v1x1) rfl (by kernel_rfl) (by kernel_rfl) (by kernel_rfl) (fun _ _ _ h => h) (Or.inl ⟨by rfl, ?hy1x1⟩) hHeld ?rest1x1
  case hy1x1 => (intro w hSw; go_simp <;> with_reducible rfl)
  try simp only [Act.put, List.setIfInBounds_toArray, List.set_cons_zero, List.set_cons_succ]
  refine wpAnyH_take (i := 1) (oi := { dst := some 47, op := _, type := _, pos := _, after := _, guard := _ }) (v := ?v1x2) rfl (by kernel_rfl) (by kernel_rfl) (by kernel_rfl) (fun _ _ _ h => h) (Or.inl ⟨by rfl, ?hy1x2⟩) hHeld ?rest1x2
  case hy1x2 => (intro w hSw; go_simp <;> with_reducible rfl)
  try simp only [Act.put, List.setIfInBounds_toArray, List.set_cons_zero, List.set_cons_succ]
  refine wpAnyH_take (i := 2) (oi := { dst := some 48, op := _, type := _, pos := _, after := _, guard := _ }) (v := ?v1x3) rfl (by kernel_rfl) (by kernel_rfl) (by kernel_rfl) (fun _ _ _ h => h) (Or.inl ⟨by rfl, ?hy1x3⟩) hHeld ?rest1x3
  case hy1x3 => (intro w hSw; go_simp <;> with_reducible rfl)
  try simp only [Act.put, List.setIfInBounds_toArray, List.set_cons_zero, List.set_cons_succ]
  refine wpAnyH_take (i := 3) (oi := { dst := some 49, op := _, type := _, pos := _, after := _, guard := _ }) (v := ?v1x4) rfl (by kernel_rfl) (by kernel_rfl) (by kernel_rfl) (fun _ _ _ h => h) (Or.inl ⟨by rfl, ?hy1x4⟩) hHeld ?rest1x4
  case hy1x4 => (intro w hSw; go_simp <;> with_reducible rfl)
  try simp only [Act.put, List.setIfInBounds_toArray, List.set_cons_zero, List.set_cons_succ]
  refine wpAnyH_take (i := 4) (oi := { dst := some 50, op := _, type := _, pos := _, after := _, guard := _ }) (v := ?v1x5) rfl (by kernel_rfl) (by kernel_rfl) (by kernel_rfl) (fun _ _ _ h => h) (Or.inl ⟨by rfl, ?hy1x5⟩) hHeld ?rest1x5
  case hy1x5 => (intro w hSw; go_simp <;> with_reducible rfl)
  try simp only [Act.put, List.setIfInBounds_toArray, List.set_cons_zero, List.set_cons_succ]
  refine wpAnyH_take (i := 7) (oi := { dst := some 53, op := _, type := _, pos := _, after := _, guard := _ }) (v := ?v1x6) rfl (by kernel_rfl) (by kernel_rfl) (by kernel_rfl) (fun _ _ _ h => h) (Or.inl ⟨by rfl, ?hy1x6⟩) hHeld ?rest1x6
  case hy1x6 => (intro w hSw; go_simp <;> with_reducible rfl)
  try simp only [Act.put, List.setIfInBounds_toArray, List.set_cons_zero, List.set_cons_succ]
  refine wpAnyH_take (i := 8) (oi := { dst := some 54, op := _, type := _, pos := _, after := _, guard := _ }) (v := ?v1x7) rfl (by kernel_rfl) (by kernel_rfl) (by kernel_rfl) (fun _ _ _ h => h) (Or.inl ⟨by rfl, ?hy1x7⟩) hHeld ?rest1x7
  case hy1x7 => (intro w hSw; go_simp <;> with_reducible rfl)
  try simp only [Act.put, List.setIfInBounds_toArray, List.set_cons_zero, List.set_cons_succ]
  refine wpAnyH_ready (rs := [5]) (by kernel_rfl) (by simp) (AllReadyH.cons (o := { dst := some 51, op := _, type := _, pos := _, after := _, guard := _ }) rfl (fun K hK => ?_) AllReadyH.nil)
  go_simp
  have s1 := hHeld.alloc hHeld.size (.cells #[.int .i64 a, .int .i64 c] 3)
  go_wp2_with fail
  refine hK.out _ _ ?_ (fun hHeld => ?_)
  · exact s1
  clear hK K
  try simp only [Act.put, List.setIfInBounds_toArray, List.set_cons_zero, List.set_cons_succ]
  refine wpAnyH_ready (rs := [6]) (by kernel_rfl) (by simp) (AllReadyH.cons (o := { dst := some 52, op := _, type := _, pos := _, after := _, guard := _ }) rfl (fun K hK => ?_) AllReadyH.nil)
  go_simp
  refine (pput_any _ _ 1 1 2 2 [15] [a, c] _ (hRb.keep s1) (Blk.new _ _ [_, _]).rd H2.out (by omega) (by omega) (by omega)).mono ?_
  rintro e w1 ⟨C, k1, rfl, o1, b1⟩
  obtain ⟨g, rest, rfl, hg, hbg⟩ := own_blk o1 (by omega)
  have hgl := hbg.lt
  clear hbg rest
  have s2 := below_on s1 b1
  go_wp2_with fail
  refine hK.out _ _ ?_ (fun hHeld => ?_)
  · exact s2
  clear hK K
  try simp only [Act.put, List.setIfInBounds_toArray, List.set_cons_zero, List.set_cons_succ]
  refine wpAnyH_ready (rs := [9]) (by kernel_rfl) (by simp) (AllReadyH.cons (o := { dst := some 55, op := _, type := _, pos := _, after := _, guard := _ }) rfl (fun K hK => ?_) AllReadyH.nil)
  go_simp
  refine (HPk.out _ (below_on hBel s2)).mono ?_
  rintro e w2 ⟨rfl, k2, b2⟩
  have s3 := below_on s2 b2
  go_wp2_with fail
  refine hK.out _ _ ?_ (fun hHeld => ?_)
  · exact s3
  clear hK K
  try simp only [Act.put, List.setIfInBounds_toArray, List.set_cons_zero, List.set_cons_succ]
  refine wpAnyH_ready (rs := [10]) (by kernel_rfl) (by simp) (AllReadyH.cons (o := { dst := some 56, op := _, type := _, pos := _, after := _, guard := _ }) rfl (fun K hK => ?_) AllReadyH.nil)
  go_simp
  refine (pcounted_any _ g w1.heap.size 5 k1 m m _ _ (packL vs) _ (own_keep o1 b2) hgl (k2.reads (Below.refl _ _) m (by rw [bv_length]; exact Hpl.out)) (fun b o e _ => by injection e with e; injection e with e; exact Nat.le_of_eq e) (by omega) (by have := Hm.out; omega) (Nat.le_trans b1.size b2.size)).mono ?_
  rintro e w3 ⟨D, k3, rfl, o3, b3⟩
  have s4 := s3.trans (b3.mono s1.size)
  go_wp2_with fail
  refine hK.out _ _ ?_ (fun hHeld => ?_)
  · exact s4
  clear hK K
  try simp only [Act.put, List.setIfInBounds_toArray, List.set_cons_zero, List.set_cons_succ]
  refine wpAnyH_take (i := 11) (oi := { dst := some 3, op := _, type := _, pos := _, after := _, guard := _ }) (v := ?v1x12) rfl (by kernel_rfl) (by kernel_rfl) (by kernel_rfl) (fun _ _ _ h => h) (Or.inl ⟨by rfl, ?hy1x12⟩) hHeld ?rest1x12
  case hy1x12 => (intro w hSw; go_simp <;> with_reducible rfl)
  try simp only [Act.put, List.setIfInBounds_toArray, List.set_cons_zero, List.set_cons_succ]
  refine wpAnyH_done (by kernel_rfl) ?_ _
  have O1 := hide (own_base o3 (Nat.le_trans hBel.size s1.size))
  have B1 := hide (below_on hBel s4)
  clear o1 b1 s1 s2 hHeld s3 s4 o3 b3 k2 b2
  go_wp2
  go_ret
  exact ⟨D, k3, rfl, O1.out, B1.out⟩

/-- put, behind nothing. -/
theorem pput_nil (A : Option Addr) (n k : Nat) (vs : List Int) (w : World) (h : Rd w A n (iv vs)) (hv : upToB vs 65535 = true) (hn : n ≤ 5000) (hn0 : 0 < n) :
    Calls Try.prog 72 #[.slice none 0 0, .slice A n k] w (RetOwn 5 (2 * n) (bv (putL vs)) w) := by
  have := pput_any none A 0 0 n k [] vs w (Rd.nil _ _) h hv (by omega) hn hn0
  rw [Nat.zero_add, List.nil_append] at this
  exact this

set_option maxHeartbeats 1000000 in
theorem lay_16 (a c t an o : Int) (A : Option Addr) (n k : Nat) (vs : List Int) (w : World) (h : Rd w A n (iv vs)) (ha : 0 ≤ a) (ha' : a ≤ 65535) (hv : upToB vs 65535 = true) (hn0 : 0 < n) (hn : n ≤ 123) :
    Calls Try.prog 73 #[.agg #[.int .i64 16, .int .i64 a, .int .i64 c, .slice A n k, .int .i64 t, .int .i64 an, .int .i64 o]] w (RetOwn 5 (6 + (2 * n)) (bv ([16] ++ putL [a, (n : Int)] ++ cntL (putL vs))) w) := by
  have HPk := hide (fun W b => pput_nil A n k vs W (h.keep b) hv (by omega) hn0)
  have h2 : upToB [a, (n : Int)] 65535 = true := by simp [upToB]; omega
  have H2 := hide h2
  clear h hv h2
  go_enter Try.func73, Try.ntmps73
  go_wp2_with fail
  generalize hW : (w.alloc (.cells #[.int .i64 16, .int .i64 a, .int .i64 c, .slice A n k, .int .i64 t, .int .i64 an, .int .i64 o] 37)).alloc (.cells #[.int .u8 16] 5) = W
  obtain ⟨hB0, hB1, hBel, hsz⟩ := two_new w [.int .i64 16, .int .i64 a, .int .i64 c, .slice A n k, .int .i64 t, .int .i64 an, .int .i64 o] 37 5 (.int .u8 16) W hW.symm
  clear hW hsz
  have c1 := hB0.on 1 _ rfl
  have c2 := hB0.on 2 _ rfl
  have c3 := hB0.on 3 _ rfl
  have c4 := hB0.on 4 _ rfl
  have hRb : Rd W (some ⟨w.heap.size + 1, 0, none⟩) 1 (bv [16]) := hB1.rd
  clear c4
  refine wp_region_held_drew (S := fun w' => Below W.heap.size W w') (by kernel_rfl) ?_ (fun hHeld => ?_)
  · exact (Below.refl _ _).drew
  refine wpAnyH_take (i := 0) (oi := { dst := some 66, op := _, type := _, pos := _, after := _, guard := _ }) (v := ?v2x1) rfl (by kernel_rfl) (by kernel_rfl) (by kernel_rfl) (fun _ _ _ h => h) (Or.inl ⟨by rfl, ?hy2x1⟩) hHeld ?rest2x1
  case hy2x1 => (intro w hSw; go_simp <;> with_reducible rfl)
  try simp only [Act.put, List.setIfInBounds_toArray, List.set_cons_zero, List.set_cons_succ]
  refine wpAnyH_take (i := 1) (oi := { dst := some 67, op := _, type := _, pos := _, after := _, guard := _ }) (v := ?v2x2) rfl (by kernel_rfl) (by kernel_rfl) (by kernel_rfl) (fun _ _ _ h => h) (Or.inl ⟨by rfl, ?hy2x2⟩) hHeld ?rest2x2
  case hy2x2 => (intro w hSw; go_simp <;> with_reducible rfl)
  try simp only [Act.put, List.setIfInBounds_toArray, List.set_cons_zero, List.set_cons_succ]
  refine wpAnyH_take (i := 2) (oi := { dst := some 68, op := _, type := _, pos := _, after := _, guard := _ }) (v := ?v2x3) rfl (by kernel_rfl) (by kernel_rfl) (by kernel_rfl) (fun _ _ _ h => h) (Or.inl ⟨by rfl, ?hy2x3⟩) hHeld ?rest2x3
  case hy2x3 => (intro w hSw; go_simp <;> with_reducible rfl)
  try simp only [Act.put, List.setIfInBounds_toArray, List.set_cons_zero, List.set_cons_succ]
  refine wpAnyH_take (i := 3) (oi := { dst := some 69, op := _, type := _, pos := _, after := _, guard := _ }) (v := ?v2x4) rfl (by kernel_rfl) (by kernel_rfl) (by kernel_rfl) (fun _ _ _ h => h) (Or.inl ⟨by rfl, ?hy2x4⟩) hHeld ?rest2x4
  case hy2x4 => (intro w hSw; go_simp <;> with_reducible rfl)
  try simp only [Act.put, List.setIfInBounds_toArray, List.set_cons_zero, List.set_cons_succ]
  refine wpAnyH_take (i := 4) (oi := { dst := some 70, op := _, type := _, pos := _, after := _, guard := _ }) (v := ?v2x5) rfl (by kernel_rfl) (by kernel_rfl) (by kernel_rfl) (fun _ _ _ h => h) (Or.inl ⟨by rfl, ?hy2x5⟩) hHeld ?rest2x5
  case hy2x5 => (intro w hSw; go_simp <;> with_reducible rfl)
  try simp only [Act.put, List.setIfInBounds_toArray, List.set_cons_zero, List.set_cons_succ]
  refine wpAnyH_take (i := 7) (oi := { dst := some 73, op := _, type := _, pos := _, after := _, guard := _ }) (v := ?v2x6) rfl (by kernel_rfl) (by kernel_rfl) (by kernel_rfl) (fun _ _ _ h => h) (Or.inl ⟨by rfl, ?hy2x6⟩) hHeld ?rest2x6
  case hy2x6 => (intro w hSw; go_simp <;> with_reducible rfl)
  try simp only [Act.put, List.setIfInBounds_toArray, List.set_cons_zero, List.set_cons_succ]
  refine wpAnyH_take (i := 8) (oi := { dst := some 74, op := _, type := _, pos := _, after := _, guard := _ }) (v := ?v2x7) rfl (by kernel_rfl) (by kernel_rfl) (by kernel_rfl) (fun _ _ _ h => h) (Or.inl ⟨by rfl, ?hy2x7⟩) hHeld ?rest2x7
  case hy2x7 => (intro w hSw; go_simp <;> with_reducible rfl)
  try simp only [Act.put, List.setIfInBounds_toArray, List.set_cons_zero, List.set_cons_succ]
  refine wpAnyH_ready (rs := [5]) (by kernel_rfl) (by simp) (AllReadyH.cons (o := { dst := some 71, op := _, type := _, pos := _, after := _, guard := _ }) rfl (fun K hK => ?_) AllReadyH.nil)
  go_simp
  have s1 := hHeld.alloc hHeld.size (.cells #[.int .i64 a, .int .i64 n] 3)
  go_wp2_with fail
  refine hK.out _ _ ?_ (fun hHeld => ?_)
  · exact s1
  clear hK K
  try simp only [Act.put, List.setIfInBounds_toArray, List.set_cons_zero, List.set_cons_succ]
  refine wpAnyH_ready (rs := [6]) (by kernel_rfl) (by simp) (AllReadyH.cons (o := { dst := some 72, op := _, type := _, pos := _, after := _, guard := _ }) rfl (fun K hK => ?_) AllReadyH.nil)
  go_simp
  refine (pput_any _ _ 1 1 2 2 [16] [a, (n : Int)] _ (hRb.keep s1) (Blk.new _ _ [_, _]).rd H2.out (by omega) (by omega) (by omega)).mono ?_
  rintro e w1 ⟨C, k1, rfl, o1, b1⟩
  obtain ⟨g, rest, rfl, hg, hbg⟩ := own_blk o1 (by omega)
  have hgl := hbg.lt
  clear hbg rest
  have s2 := below_on s1 b1
  go_wp2_with fail
  refine hK.out _ _ ?_ (fun hHeld => ?_)
  · exact s2
  clear hK K
  try simp only [Act.put, List.setIfInBounds_toArray, List.set_cons_zero, List.set_cons_succ]
  refine wpAnyH_ready (rs := [9]) (by kernel_rfl) (by simp) (AllReadyH.cons (o := { dst := some 75, op := _, type := _, pos := _, after := _, guard := _ }) rfl (fun K hK => ?_) AllReadyH.nil)
  go_simp
  refine (HPk.out _ (below_on hBel s2)).mono ?_
  rintro e w2 ⟨D2, kk2, rfl, o2, b2⟩
  have s3 := below_on s2 b2
  obtain ⟨g2, rest2, rfl, hg2, hbg2⟩ := own_blk o2 (by omega)
  clear hbg2 rest2
  go_wp2_with fail
  refine hK.out _ _ ?_ (fun hHeld => ?_)
  · exact s3
  clear hK K
  try simp only [Act.put, List.setIfInBounds_toArray, List.set_cons_zero, List.set_cons_succ]
  refine wpAnyH_ready (rs := [10]) (by kernel_rfl) (by simp) (AllReadyH.cons (o := { dst := some 76, op := _, type := _, pos := _, after := _, guard := _ }) rfl (fun K hK => ?_) AllReadyH.nil)
  go_simp
  refine (pcounted_any _ g w1.heap.size 5 k1 (2 * n) kk2 _ _ (putL vs) _ (own_keep o1 b2) hgl (own_rd o2) (fun b o e _ => by injection e with e; injection e with e; omega) (by omega) (by omega) (Nat.le_trans b1.size b2.size)).mono ?_
  rintro e w3 ⟨D, k3, rfl, o3, b3⟩
  have s4 := s3.trans (b3.mono s1.size)
  go_wp2_with fail
  refine hK.out _ _ ?_ (fun hHeld => ?_)
  · exact s4
  clear hK K
  try simp only [Act.put, List.setIfInBounds_toArray, List.set_cons_zero, List.set_cons_succ]
  refine wpAnyH_take (i := 11) (oi := { dst := some 3, op := _, type := _, pos := _, after := _, guard := _ }) (v := ?v2x12) rfl (by kernel_rfl) (by kernel_rfl) (by kernel_rfl) (fun _ _ _ h => h) (Or.inl ⟨by rfl, ?hy2x12⟩) hHeld ?rest2x12
  case hy2x12 => (intro w hSw; go_simp <;> with_reducible rfl)
  try simp only [Act.put, List.setIfInBounds_toArray, List.set_cons_zero, List.set_cons_succ]
  refine wpAnyH_done (by kernel_rfl) ?_ _
  have O1 := hide (own_base o3 (Nat.le_trans hBel.size s1.size))
  have B1 := hide (below_on hBel s4)
  clear o1 b1 s1 s2 hHeld s3 s4 o3 b3 b2
  go_wp2
  go_ret
  exact ⟨D, k3, rfl, O1.out, B1.out⟩

set_option maxHeartbeats 1000000 in
theorem lay_23 (a c t an o : Int) (A : Option Addr) (n k : Nat) (vs : List Int) (w : World) (h : Rd w A n (iv vs)) (ha : 0 ≤ a) (ha' : a ≤ 65535) (hc : 0 ≤ c) (hc' : c ≤ 65535) (ht : 0 ≤ t) (ht' : t ≤ 65535) (hv : upToB vs 65535 = true) (hn0 : 0 < n) (hn : n ≤ 121) :
    Calls Try.prog 73 #[.agg #[.int .i64 23, .int .i64 a, .int .i64 c, .slice A n k, .int .i64 t, .int .i64 an, .int .i64 o]] w (RetOwn 5 (10 + (2 * n)) (bv ([23] ++ putL [a, c] ++ putL [t, (n : Int)] ++ cntL (putL vs))) w) := by
  have HPk := hide (fun W b => pput_nil A n k vs W (h.keep b) hv (by omega) hn0)
  have h2 : upToB [t, (n : Int)] 65535 = true := by simp [upToB]; omega
  have H2 := hide h2
  have hl : upToB [a, c] 65535 = true := by simp [upToB]; omega
  have HP := hide (fun G W hG hr => pput_lit (w.heap.size + 1) G 1 2 [23] [a, c] W hG hr rfl hl (by omega) (by omega) (by omega))
  clear h hv h2 hl
  have hW := two_new w [.int .i64 23, .int .i64 a, .int .i64 c, .slice A n k, .int .i64 t, .int .i64 an, .int .i64 o] 37 5 (.int .u8 23)
  have HW := hide hW
  clear hW
  go_enter Try.func73, Try.ntmps73
  go_wp2_with fail
  obtain ⟨hB0, hB1, hBel, hsz⟩ := HW.out _ rfl
  refine (HP.out _ _ (by simp) hB1.rd).mono ?_
  rintro e V ⟨C0, k0, rfl, o0, b0⟩
  have hB0' := hB0.keep b0
  have c3 := hB0'.on 3 _ rfl
  have hBel0 := below_on hBel b0
  have r0 := own_rd o0
  have c4' := hB0'.cell 4
  simp only [List.getElem?_cons_succ, List.getElem?_cons_zero] at c4'
  clear hB0 hB1 hsz hB0' o0 b0 HW HP hBel
  go_wp2_with fail
  clear c4'
  refine wp_region_held_drew (S := fun w' => Below V.heap.size V w') (by kernel_rfl) ?_ (fun hHeld => ?_)
  · exact (Below.refl _ _).drew
  refine wpAnyH_take (i := 0) (oi := { dst := some 66, op := _, type := _, pos := _, after := _, guard := _ }) (v := ?v3x1) rfl (by kernel_rfl) (by kernel_rfl) (by kernel_rfl) (fun _ _ _ h => h) (Or.inl ⟨by rfl, ?hy3x1⟩) hHeld ?rest3x1
  case hy3x1 => (intro w hSw; go_simp <;> with_reducible rfl)
  try simp only [Act.put, List.setIfInBounds_toArray, List.set_cons_zero, List.set_cons_succ]
  refine wpAnyH_take (i := 1) (oi := { dst := some 67, op := _, type := _, pos := _, after := _, guard := _ }) (v := ?v3x2) rfl (by kernel_rfl) (by kernel_rfl) (by kernel_rfl) (fun _ _ _ h => h) (Or.inl ⟨by rfl, ?hy3x2⟩) hHeld ?rest3x2
  case hy3x2 => (intro w hSw; go_simp <;> with_reducible rfl)
  try simp only [Act.put, List.setIfInBounds_toArray, List.set_cons_zero, List.set_cons_succ]
  refine wpAnyH_take (i := 2) (oi := { dst := some 68, op := _, type := _, pos := _, after := _, guard := _ }) (v := ?v3x3) rfl (by kernel_rfl) (by kernel_rfl) (by kernel_rfl) (fun _ _ _ h => h) (Or.inl ⟨by rfl, ?hy3x3⟩) hHeld ?rest3x3
  case hy3x3 => (intro w hSw; go_simp <;> with_reducible rfl)
  try simp only [Act.put, List.setIfInBounds_toArray, List.set_cons_zero, List.set_cons_succ]
  refine wpAnyH_take (i := 3) (oi := { dst := some 69, op := _, type := _, pos := _, after := _, guard := _ }) (v := ?v3x4) rfl (by kernel_rfl) (by kernel_rfl) (by kernel_rfl) (fun _ _ _ h => h) (Or.inl ⟨by rfl, ?hy3x4⟩) hHeld ?rest3x4
  case hy3x4 => (intro w hSw; go_simp <;> with_reducible rfl)
  try simp only [Act.put, List.setIfInBounds_toArray, List.set_cons_zero, List.set_cons_succ]
  refine wpAnyH_take (i := 4) (oi := { dst := some 70, op := _, type := _, pos := _, after := _, guard := _ }) (v := ?v3x5) rfl (by kernel_rfl) (by kernel_rfl) (by kernel_rfl) (fun _ _ _ h => h) (Or.inl ⟨by rfl, ?hy3x5⟩) hHeld ?rest3x5
  case hy3x5 => (intro w hSw; go_simp <;> with_reducible rfl)
  try simp only [Act.put, List.setIfInBounds_toArray, List.set_cons_zero, List.set_cons_succ]
  refine wpAnyH_take (i := 7) (oi := { dst := some 73, op := _, type := _, pos := _, after := _, guard := _ }) (v := ?v3x6) rfl (by kernel_rfl) (by kernel_rfl) (by kernel_rfl) (fun _ _ _ h => h) (Or.inl ⟨by rfl, ?hy3x6⟩) hHeld ?rest3x6
  case hy3x6 => (intro w hSw; go_simp <;> with_reducible rfl)
  try simp only [Act.put, List.setIfInBounds_toArray, List.set_cons_zero, List.set_cons_succ]
  refine wpAnyH_take (i := 8) (oi := { dst := some 74, op := _, type := _, pos := _, after := _, guard := _ }) (v := ?v3x7) rfl (by kernel_rfl) (by kernel_rfl) (by kernel_rfl) (fun _ _ _ h => h) (Or.inl ⟨by rfl, ?hy3x7⟩) hHeld ?rest3x7
  case hy3x7 => (intro w hSw; go_simp <;> with_reducible rfl)
  try simp only [Act.put, List.setIfInBounds_toArray, List.set_cons_zero, List.set_cons_succ]
  refine wpAnyH_ready (rs := [5]) (by kernel_rfl) (by simp) (AllReadyH.cons (o := { dst := some 71, op := _, type := _, pos := _, after := _, guard := _ }) rfl (fun K hK => ?_) AllReadyH.nil)
  go_simp
  have s1 := hHeld.alloc hHeld.size (.cells #[.int .i64 t, .int .i64 n] 3)
  go_wp2_with fail
  refine hK.out _ _ ?_ (fun hHeld => ?_)
  · exact s1
  clear hK K
  try simp only [Act.put, List.setIfInBounds_toArray, List.set_cons_zero, List.set_cons_succ]
  refine wpAnyH_ready (rs := [6]) (by kernel_rfl) (by simp) (AllReadyH.cons (o := { dst := some 72, op := _, type := _, pos := _, after := _, guard := _ }) rfl (fun K hK => ?_) AllReadyH.nil)
  go_simp
  refine (pput_any _ _ 5 k0 2 2 ([23] ++ putL [a, c]) [t, (n : Int)] _ (r0.keep s1) (Blk.new _ _ [_, _]).rd H2.out (by omega) (by omega) (by omega)).mono ?_
  rintro e w1 ⟨C, k1, rfl, o1, b1⟩
  obtain ⟨g, rest, rfl, hg, hbg⟩ := own_blk o1 (by omega)
  have hgl := hbg.lt
  clear hbg rest
  have s2 := below_on s1 b1
  go_wp2_with fail
  refine hK.out _ _ ?_ (fun hHeld => ?_)
  · exact s2
  clear hK K
  try simp only [Act.put, List.setIfInBounds_toArray, List.set_cons_zero, List.set_cons_succ]
  refine wpAnyH_ready (rs := [9]) (by kernel_rfl) (by simp) (AllReadyH.cons (o := { dst := some 75, op := _, type := _, pos := _, after := _, guard := _ }) rfl (fun K hK => ?_) AllReadyH.nil)
  go_simp
  refine (HPk.out _ (below_on hBel0 s2)).mono ?_
  rintro e w2 ⟨D2, kk2, rfl, o2, b2⟩
  have s3 := below_on s2 b2
  obtain ⟨g2, rest2, rfl, hg2, hbg2⟩ := own_blk o2 (by omega)
  clear hbg2 rest2
  go_wp2_with fail
  refine hK.out _ _ ?_ (fun hHeld => ?_)
  · exact s3
  clear hK K
  try simp only [Act.put, List.setIfInBounds_toArray, List.set_cons_zero, List.set_cons_succ]
  refine wpAnyH_ready (rs := [10]) (by kernel_rfl) (by simp) (AllReadyH.cons (o := { dst := some 76, op := _, type := _, pos := _, after := _, guard := _ }) rfl (fun K hK => ?_) AllReadyH.nil)
  go_simp
  refine (pcounted_any _ g w1.heap.size 9 k1 (2 * n) kk2 _ _ (putL vs) _ (own_keep o1 b2) hgl (own_rd o2) (fun b o e _ => by injection e with e; injection e with e; omega) (by omega) (by omega) (Nat.le_trans b1.size b2.size)).mono ?_
  rintro e w3 ⟨D, k3, rfl, o3, b3⟩
  have s4 := s3.trans (b3.mono s1.size)
  go_wp2_with fail
  refine hK.out _ _ ?_ (fun hHeld => ?_)
  · exact s4
  clear hK K
  try simp only [Act.put, List.setIfInBounds_toArray, List.set_cons_zero, List.set_cons_succ]
  refine wpAnyH_take (i := 11) (oi := { dst := some 3, op := _, type := _, pos := _, after := _, guard := _ }) (v := ?v3x12) rfl (by kernel_rfl) (by kernel_rfl) (by kernel_rfl) (fun _ _ _ h => h) (Or.inl ⟨by rfl, ?hy3x12⟩) hHeld ?rest3x12
  case hy3x12 => (intro w hSw; go_simp <;> with_reducible rfl)
  try simp only [Act.put, List.setIfInBounds_toArray, List.set_cons_zero, List.set_cons_succ]
  refine wpAnyH_done (by kernel_rfl) ?_ _
  have O1 := hide (own_base o3 (Nat.le_trans hBel0.size s1.size))
  have B1 := hide (below_on hBel0 s4)
  clear o1 b1 s1 s2 hHeld s3 s4 o3 b3 b2
  go_wp2
  go_ret
  exact ⟨D, k3, rfl, O1.out, B1.out⟩

end Go.Proofs.Ytfpfijggmfeejaa
