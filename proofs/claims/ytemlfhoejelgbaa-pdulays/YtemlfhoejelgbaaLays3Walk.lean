/-
  What is proved here: the law PduLays returns true for every request, and turns nothing that was there.
-/
import Derived.Test.YtemlfhoejelgbaaAwake3
import Derived.Test.YtemlfhoejelgbaaRef3c
import Derived.Test.YtemlfhoejelgbaaRef3f
namespace Go.Proofs.Ytemlfhoejelgbaa
set_option linter.unusedVariables false
set_option linter.unusedSimpArgs false
open Go.RowKit

theorem own_ge {w : World} {base : Nat} {e : TypeId} {C : Option Addr} {n k : Nat} {vs : List Value} (h : w.ownsRow base e 1 (.slice C n k) n vs) : ∀ b o, C = some ⟨b, o, none⟩ → base ≤ b := fun b o hC => by
  subst hC
  rcases h.2 with ⟨hv, _⟩ | ⟨g, cap, cur, hv, hg, _⟩
  · cases hv
  · injection hv with hA
    injection hA with hA
    injection hA with hA
    omega


set_option maxHeartbeats 1000000 in
theorem lays3_walk (f a c t an o : Int) (A : Option Addr) (n k : Nat) (vs : List Int) (w : World) (h : Rd w A n (iv vs)) :
    Calls Try.prog 3 #[.agg #[.int .i64 f, .int .i64 a, .int .i64 c, .slice A n k, .int .i64 t, .int .i64 an, .int .i64 o]] w fun e w' => e = .returned (.bool true) ∧ Below w.heap.size w w' := by
  have HS := hide (fun W => small3_any f a c t an o A n k W)
  have H0 := hide h
  clear h
  by_cases hn : n ≤ 2100
  · rw [show decide (n ≤ 2100) = true from by simpa using hn] at HS
    have HC := hide (fun B d W (hr : Rd W B n (iv vs)) => check_any f a c t an o B n d vs W hr (by omega))
    have HM := hide (fun W (b : Below w.heap.size w W) => refMay_any f a c t an o A n k vs W (H0.out.keep b) (by omega))
    have HE := hide (fun B d W hr (b : Below w.heap.size w W) => same_yes f a c t an o B A n n d k vs W hr (H0.out.keep b) (by omega))
    cases hM : mayB f a c vs t an o
    · have HB := hide (fun B d W hr => pbytes_no f a c t an o B n d vs W hr (by omega) hM)
      rw [hM] at HC HM
      clear hM
      go_enter Try.func3, Try.ntmps3
      go_wp2_with fail
      generalize hW : w.alloc _ = W
      have hB1 : Blk W w.heap.size 24 [.int .i64 f, .int .i64 a, .int .i64 c, .slice A n k, .int .i64 t, .int .i64 an, .int .i64 o] := by subst hW; exact Blk.new _ _ _
      have hBel : Below w.heap.size w W := by subst hW; exact (Below.refl _ _).alloc (Nat.le_refl _) _
      clear hW
      refine (HS.out _).mono ?_
      rintro e w1 ⟨rfl, b1⟩
      have K := hide (hB1.keep b1)
      have L := hide (below_on hBel b1)
      clear hB1 hBel b1
      obtain ⟨k0, k1, k2, k3, k4, k5, k6⟩ := K.out.seven
      have hg1 : w.heap.size < w1.heap.size := K.out.lt
      have hz := Blk.new (w1.alloc (.cells #[.int .i64 f, .int .i64 a, .int .i64 c, .slice A n k, .int .i64 t, .int .i64 an, .int .i64 o] 24)) 3 []
      rw [World.size_alloc] at hz
      have HO := hide (hz.own (Nat.le_refl _) 0 rfl (by decide))
      have b2 : Below w1.heap.size w1 ((w1.alloc (.cells #[.int .i64 f, .int .i64 a, .int .i64 c, .slice A n k, .int .i64 t, .int .i64 an, .int .i64 o] 24)).alloc (.cells #[] 3)) := ((Below.refl _ _).alloc (Nat.le_refl _) _).alloc (by simp) _
      have R2 := hide (H0.out.keep (below_on L.out b2))
      have G2 := hide ((Blk.new w1 24 [.int .i64 f, .int .i64 a, .int .i64 c, .slice A n k, .int .i64 t, .int .i64 an, .int .i64 o]).al (.cells #[] 3))
      have K2 := hide (K.out.keep b2)
      have L2 := hide (below_on L.out b2)
      clear hz b2
      go_wp2_with (at_builtin; refine wpList_app rfl (.tmp 11) (.tmp 13) 22 rfl 3 _ _ Try.underlying22 int_info rfl (w1.heap.size + 1) _ 0 0 _ rfl HO.out A n k (iv vs) rfl R2.out (iv_one _) (by unfold maxLen; omega) (by omega) (by simp) ?_; intro A3 c3 w3 o3 g3 b3; rw [List.nil_append, Nat.zero_add] at o3; clear k0 k1 k2 k3 k4 k5 k6; have G3 := hide (G2.out.keepB b3 (Nat.lt_succ_self _)); have K3 := hide (K2.out.keepB b3 (by omega)); have L3 := hide (L2.out.trans (b3.mono (by omega))); have O3 := hide o3; obtain ⟨i0, i1, i2, i3, i4, i5, i6⟩ := G3.out.seven; have kF := G3.out.frozen; clear o3 g3 b3 HO R2 G2 K2 L2 L)
      generalize hX : w3.setCell ⟨w1.heap.size, 3, none⟩ (.slice A3 n c3) = X
      have G := hide (show Blk X w1.heap.size 24 [.int .i64 f, .int .i64 a, .int .i64 c, .slice A3 n c3, .int .i64 t, .int .i64 an, .int .i64 o] from by subst hX; exact G3.out.set 3 _)
      have K' := hide (show Blk X w.heap.size 24 _ from by subst hX; exact K3.out.oth (by omega) 3 _)
      have L := hide (show Below w.heap.size w X from by subst hX; exact L3.out.setCell (Nat.le_of_lt hg1) _)
      have R := hide (show Rd X A3 n (iv vs) from by subst hX; exact (own_rd O3.out).set1 (fun b o e => by have := own_ge O3.out b o e; omega) 3 _)
      clear hX kF i0 i1 i2 i3 i4 i5 i6 G3 K3 L3 O3 K
      have K := K'
      clear K'
      clear w3
      refine (HC.out A3 c3 _ R.out).mono ?_
      rintro e w4 ⟨rfl, b4⟩
      have K' := hide (K.out.keep b4)
      have G' := hide (G.out.keep b4)
      have L' := hide (below_on L.out b4)
      have R' := hide (R.out.keep b4)
      clear b4 K G L R
      have K := K'
      have G := G'
      have L := L'
      have R := R'
      clear K' G' L' R'
      obtain ⟨i0, i1, i2, i3, i4, i5, i6⟩ := G.out.seven
      obtain ⟨k0, k1, k2, k3, k4, k5, k6⟩ := K.out.seven
      go_wp2_with fail
      refine (HB.out A3 c3 _ R.out).mono ?_
      rintro e w5 ⟨C, kC, rfl, _, _, b5⟩
      clear i0 i1 i2 i3 i4 i5 i6 k0 k1 k2 k3 k4 k5 k6
      have K' := hide (K.out.keep b5)
      have G' := hide (G.out.keep b5)
      have L' := hide (below_on L.out b5)
      have R' := hide (R.out.keep b5)
      clear b5 K G L R
      have K := K'
      have G := G'
      have L := L'
      have R := R'
      clear K' G' L' R'
      obtain ⟨i0, i1, i2, i3, i4, i5, i6⟩ := G.out.seven
      obtain ⟨k0, k1, k2, k3, k4, k5, k6⟩ := K.out.seven
      go_wp2_with fail
      refine (HE.out A3 c3 _ R.out L.out).mono ?_
      rintro e w6 ⟨rfl, b6⟩
      clear i0 i1 i2 i3 i4 i5 i6 k0 k1 k2 k3 k4 k5 k6
      have K' := hide (K.out.keep b6)
      have G' := hide (G.out.keep b6)
      have L' := hide (below_on L.out b6)
      have R' := hide (R.out.keep b6)
      clear b6 K G L R
      have K := K'
      have G := G'
      have L := L'
      have R := R'
      clear K' G' L' R'
      obtain ⟨i0, i1, i2, i3, i4, i5, i6⟩ := G.out.seven
      obtain ⟨k0, k1, k2, k3, k4, k5, k6⟩ := K.out.seven
      go_wp2_with fail
      refine (HM.out _ L.out).mono ?_
      rintro e w7 ⟨rfl, b7⟩
      clear i0 i1 i2 i3 i4 i5 i6 k0 k1 k2 k3 k4 k5 k6
      have K' := hide (K.out.keep b7)
      have G' := hide (G.out.keep b7)
      have L' := hide (below_on L.out b7)
      have R' := hide (R.out.keep b7)
      clear b7 K G L R
      have K := K'
      have G := G'
      have L := L'
      have R := R'
      clear K' G' L' R'
      go_wp2_with fail
      refine (awake3_any _).mono ?_
      rintro e w8 ⟨rfl, b8⟩
      have K' := hide (K.out.keep b8)
      have G' := hide (G.out.keep b8)
      have L' := hide (below_on L.out b8)
      have R' := hide (R.out.keep b8)
      clear b8 K G L R
      have K := K'
      have G := G'
      have L := L'
      have R := R'
      clear K' G' L' R'
      go_wp2
      go_ret
      exact ⟨rfl, L.out⟩
    · have HB := hide (fun B d W hr => pbytes_ok f a c t an o B n d vs W hr (by omega) hM)
      have HR := hide (fun W (b : Below w.heap.size w W) => refBytes_any f a c t an o A n k vs W (H0.out.keep b) hM)
      have hlb := lay_bounds hM
      rw [hM] at HC HM
      generalize layL f a c vs t an o = X at *
      generalize hnX : X.length = nX at *
      clear hM hnX
      have qn : decide ((nX : Int) ≤ 253) = true := by simp; omega
      have qx : (X == X) = true := by simp
      go_enter Try.func3, Try.ntmps3
      go_wp2_with fail
      generalize hW : w.alloc _ = W
      have hB1 : Blk W w.heap.size 24 [.int .i64 f, .int .i64 a, .int .i64 c, .slice A n k, .int .i64 t, .int .i64 an, .int .i64 o] := by subst hW; exact Blk.new _ _ _
      have hBel : Below w.heap.size w W := by subst hW; exact (Below.refl _ _).alloc (Nat.le_refl _) _
      clear hW
      refine (HS.out _).mono ?_
      rintro e w1 ⟨rfl, b1⟩
      have K := hide (hB1.keep b1)
      have L := hide (below_on hBel b1)
      clear hB1 hBel b1
      obtain ⟨k0, k1, k2, k3, k4, k5, k6⟩ := K.out.seven
      have hg1 : w.heap.size < w1.heap.size := K.out.lt
      have hz := Blk.new (w1.alloc (.cells #[.int .i64 f, .int .i64 a, .int .i64 c, .slice A n k, .int .i64 t, .int .i64 an, .int .i64 o] 24)) 3 []
      rw [World.size_alloc] at hz
      have HO := hide (hz.own (Nat.le_refl _) 0 rfl (by decide))
      have b2 : Below w1.heap.size w1 ((w1.alloc (.cells #[.int .i64 f, .int .i64 a, .int .i64 c, .slice A n k, .int .i64 t, .int .i64 an, .int .i64 o] 24)).alloc (.cells #[] 3)) := ((Below.refl _ _).alloc (Nat.le_refl _) _).alloc (by simp) _
      have R2 := hide (H0.out.keep (below_on L.out b2))
      have G2 := hide ((Blk.new w1 24 [.int .i64 f, .int .i64 a, .int .i64 c, .slice A n k, .int .i64 t, .int .i64 an, .int .i64 o]).al (.cells #[] 3))
      have K2 := hide (K.out.keep b2)
      have L2 := hide (below_on L.out b2)
      clear hz b2
      go_wp2_with (at_builtin; refine wpList_app rfl (.tmp 11) (.tmp 13) 22 rfl 3 _ _ Try.underlying22 int_info rfl (w1.heap.size + 1) _ 0 0 _ rfl HO.out A n k (iv vs) rfl R2.out (iv_one _) (by unfold maxLen; omega) (by omega) (by simp) ?_; intro A3 c3 w3 o3 g3 b3; rw [List.nil_append, Nat.zero_add] at o3; clear k0 k1 k2 k3 k4 k5 k6; have G3 := hide (G2.out.keepB b3 (Nat.lt_succ_self _)); have K3 := hide (K2.out.keepB b3 (by omega)); have L3 := hide (L2.out.trans (b3.mono (by omega))); have O3 := hide o3; obtain ⟨i0, i1, i2, i3, i4, i5, i6⟩ := G3.out.seven; have kF := G3.out.frozen; clear o3 g3 b3 HO R2 G2 K2 L2 L)
      generalize hX : w3.setCell ⟨w1.heap.size, 3, none⟩ (.slice A3 n c3) = X
      have G := hide (show Blk X w1.heap.size 24 [.int .i64 f, .int .i64 a, .int .i64 c, .slice A3 n c3, .int .i64 t, .int .i64 an, .int .i64 o] from by subst hX; exact G3.out.set 3 _)
      have K' := hide (show Blk X w.heap.size 24 _ from by subst hX; exact K3.out.oth (by omega) 3 _)
      have L := hide (show Below w.heap.size w X from by subst hX; exact L3.out.setCell (Nat.le_of_lt hg1) _)
      have R := hide (show Rd X A3 n (iv vs) from by subst hX; exact (own_rd O3.out).set1 (fun b o e => by have := own_ge O3.out b o e; omega) 3 _)
      clear hX kF i0 i1 i2 i3 i4 i5 i6 G3 K3 L3 O3 K
      have K := K'
      clear K'
      clear w3
      refine (HC.out A3 c3 _ R.out).mono ?_
      rintro e w4 ⟨rfl, b4⟩
      have K' := hide (K.out.keep b4)
      have G' := hide (G.out.keep b4)
      have L' := hide (below_on L.out b4)
      have R' := hide (R.out.keep b4)
      clear b4 K G L R
      have K := K'
      have G := G'
      have L := L'
      have R := R'
      clear K' G' L' R'
      obtain ⟨i0, i1, i2, i3, i4, i5, i6⟩ := G.out.seven
      obtain ⟨k0, k1, k2, k3, k4, k5, k6⟩ := K.out.seven
      go_wp2_with fail
      refine (HB.out A3 c3 _ R.out).mono ?_
      rintro e w5 ⟨C, kC, rfl, lC, rC, b5⟩
      have RC := hide rC
      clear rC
      clear i0 i1 i2 i3 i4 i5 i6 k0 k1 k2 k3 k4 k5 k6
      have K' := hide (K.out.keep b5)
      have G' := hide (G.out.keep b5)
      have L' := hide (below_on L.out b5)
      have R' := hide (R.out.keep b5)
      clear b5 K G L R
      have K := K'
      have G := G'
      have L := L'
      have R := R'
      clear K' G' L' R'
      obtain ⟨i0, i1, i2, i3, i4, i5, i6⟩ := G.out.seven
      obtain ⟨k0, k1, k2, k3, k4, k5, k6⟩ := K.out.seven
      go_wp2_with fail
      refine (HE.out A3 c3 _ R.out L.out).mono ?_
      rintro e w6 ⟨rfl, b6⟩
      have RC' := hide (RC.out.keep b6)
      clear RC
      clear i0 i1 i2 i3 i4 i5 i6 k0 k1 k2 k3 k4 k5 k6
      have K' := hide (K.out.keep b6)
      have G' := hide (G.out.keep b6)
      have L' := hide (below_on L.out b6)
      have R' := hide (R.out.keep b6)
      clear b6 K G L R
      have K := K'
      have G := G'
      have L := L'
      have R := R'
      clear K' G' L' R'
      obtain ⟨i0, i1, i2, i3, i4, i5, i6⟩ := G.out.seven
      obtain ⟨k0, k1, k2, k3, k4, k5, k6⟩ := K.out.seven
      go_wp2_with fail
      refine (HM.out _ L.out).mono ?_
      rintro e w7 ⟨rfl, b7⟩
      have RC := RC'.out.keep b7
      clear RC'
      clear i0 i1 i2 i3 i4 i5 i6 k0 k1 k2 k3 k4 k5 k6
      have K' := hide (K.out.keep b7)
      have G' := hide (G.out.keep b7)
      have L' := hide (below_on L.out b7)
      have R' := hide (R.out.keep b7)
      clear b7 K G L R
      have K := K'
      have G := G'
      have L := L'
      have R := R'
      clear K' G' L' R'
      go_wp2_with fail
      have hcv := strOn RC
      have k0 := K.out.on 0 _ rfl
      have k1 := K.out.on 1 _ rfl
      have k2 := K.out.on 2 _ rfl
      have k3 := K.out.on 3 _ rfl
      have k4 := K.out.on 4 _ rfl
      have k5 := K.out.on 5 _ rfl
      have k6 := K.out.on 6 _ rfl
      clear RC
      refine wp_region_held_drew (S := fun w' => Below w7.heap.size w7 w') (by kernel_rfl) ?_ (fun hHeld => ?_)
      · exact (Below.refl _ _).drew
      refine wpAnyH_ready (rs := [0]) (by kernel_rfl) (by simp) (AllReadyH.cons (o := { dst := some 45, op := _, type := _, pos := _, after := _, guard := _ }) rfl (fun K hK => ?_) AllReadyH.nil)
      go_simp
      refine (awake3_any _).mono ?_
      rintro e w8 ⟨rfl, b8⟩
      have s8 := below_on hHeld b8
      go_wp2_with fail
      refine hK.out _ _ ?_ (fun hHeld => ?_)
      · exact s8
      clear hK K
      try simp only [Act.put, List.setIfInBounds_toArray, List.set_cons_zero, List.set_cons_succ]
      refine wpAnyH_take (i := 1) (oi := { dst := some 46, op := _, type := _, pos := _, after := _, guard := _ }) (v := ?v1x2) rfl (by kernel_rfl) (by kernel_rfl) (by kernel_rfl) (fun _ _ _ h => h) (Or.inl ⟨by rfl, ?hy1x2⟩) hHeld ?rest1x2
      case hy1x2 => (intro w hSw; go_simp <;> with_reducible rfl)
      try simp only [Act.put, List.setIfInBounds_toArray, List.set_cons_zero, List.set_cons_succ]
      refine wpAnyH_take (i := 2) (oi := { dst := some 47, op := _, type := _, pos := _, after := _, guard := _ }) (v := ?v1x3) rfl (by kernel_rfl) (by kernel_rfl) (by kernel_rfl) (fun _ _ _ h => h) (Or.inl ⟨by rfl, ?hy1x3⟩) hHeld ?rest1x3
      case hy1x3 => (intro w hSw; go_simp <;> with_reducible rfl)
      try simp only [Act.put, List.setIfInBounds_toArray, List.set_cons_zero, List.set_cons_succ]
      refine wpAnyH_take (i := 3) (oi := { dst := some 48, op := _, type := _, pos := _, after := _, guard := _ }) (v := ?v1x4) rfl (by kernel_rfl) (by kernel_rfl) (by kernel_rfl) (fun _ _ _ h => h) (Or.inl ⟨by rfl, ?hy1x4⟩) hHeld ?rest1x4
      case hy1x4 => (intro w hSw; go_simp <;> with_reducible rfl)
      try simp only [Act.put, List.setIfInBounds_toArray, List.set_cons_zero, List.set_cons_succ]
      refine wpAnyH_take (i := 4) (oi := { dst := some 49, op := _, type := _, pos := _, after := _, guard := _ }) (v := ?v1x5) rfl (by kernel_rfl) (by kernel_rfl) (by kernel_rfl) (fun _ _ _ h => h) (Or.inl ⟨by rfl, ?hy1x5⟩) hHeld ?rest1x5
      case hy1x5 => (intro w hSw; go_simp <;> with_reducible rfl)
      try simp only [Act.put, List.setIfInBounds_toArray, List.set_cons_zero, List.set_cons_succ]
      refine wpAnyH_take (i := 5) (oi := { dst := some 50, op := _, type := _, pos := _, after := _, guard := _ }) (v := ?v1x6) rfl (by kernel_rfl) (by kernel_rfl) (by kernel_rfl) (fun _ _ _ h => h) (Or.inl ⟨by rfl, ?hy1x6⟩) hHeld ?rest1x6
      case hy1x6 => (intro w hSw; go_simp <;> with_reducible rfl)
      try simp only [Act.put, List.setIfInBounds_toArray, List.set_cons_zero, List.set_cons_succ]
      refine wpAnyH_take (i := 6) (oi := { dst := some 51, op := _, type := _, pos := _, after := _, guard := _ }) (v := ?v1x7) rfl (by kernel_rfl) (by kernel_rfl) (by kernel_rfl) (fun _ _ _ h => h) (Or.inl ⟨by rfl, ?hy1x7⟩) hHeld ?rest1x7
      case hy1x7 => (intro w hSw; go_simp <;> with_reducible rfl)
      try simp only [Act.put, List.setIfInBounds_toArray, List.set_cons_zero, List.set_cons_succ]
      refine wpAnyH_take (i := 7) (oi := { dst := some 52, op := _, type := _, pos := _, after := _, guard := _ }) (v := ?v1x8) rfl (by kernel_rfl) (by kernel_rfl) (by kernel_rfl) (fun _ _ _ h => h) (Or.inl ⟨by rfl, ?hy1x8⟩) hHeld ?rest1x8
      case hy1x8 => (intro w hSw; go_simp <;> with_reducible rfl)
      try simp only [Act.put, List.setIfInBounds_toArray, List.set_cons_zero, List.set_cons_succ]
      refine wpAnyH_take (i := 8) (oi := { dst := some 53, op := _, type := _, pos := _, after := _, guard := _ }) (v := ?v1x9) rfl (by kernel_rfl) (by kernel_rfl) (by kernel_rfl) (fun _ _ _ h => h) (Or.inl ⟨by rfl, ?hy1x9⟩) hHeld ?rest1x9
      case hy1x9 => (intro w hSw; go_simp <;> with_reducible rfl)
      try simp only [Act.put, List.setIfInBounds_toArray, List.set_cons_zero, List.set_cons_succ]
      refine wpAnyH_take (i := 9) (oi := { dst := some 54, op := _, type := _, pos := _, after := _, guard := _ }) (v := ?v1x10) rfl (by kernel_rfl) (by kernel_rfl) (by kernel_rfl) (fun _ _ _ h => h) (Or.inl ⟨by rfl, ?hy1x10⟩) hHeld ?rest1x10
      case hy1x10 => (intro w hSw; go_simp <;> with_reducible rfl)
      try simp only [Act.put, List.setIfInBounds_toArray, List.set_cons_zero, List.set_cons_succ]
      refine wpAnyH_take (i := 10) (oi := { dst := some 55, op := _, type := _, pos := _, after := _, guard := _ }) (v := ?v1x11) rfl (by kernel_rfl) (by kernel_rfl) (by kernel_rfl) (fun _ _ _ h => h) (Or.inl ⟨by rfl, ?hy1x11⟩) hHeld ?rest1x11
      case hy1x11 => (intro w hSw; go_simp <;> with_reducible rfl)
      try simp only [Act.put, List.setIfInBounds_toArray, List.set_cons_zero, List.set_cons_succ]
      refine wpAnyH_take (i := 11) (oi := { dst := some 56, op := _, type := _, pos := _, after := _, guard := _ }) (v := ?v1x12) rfl (by kernel_rfl) (by kernel_rfl) (by kernel_rfl) (fun _ _ _ h => h) (Or.inl ⟨by rfl, ?hy1x12⟩) hHeld ?rest1x12
      case hy1x12 => (intro w hSw; go_simp <;> with_reducible rfl)
      try simp only [Act.put, List.setIfInBounds_toArray, List.set_cons_zero, List.set_cons_succ]
      refine wpAnyH_take (i := 12) (oi := { dst := some 57, op := _, type := _, pos := _, after := _, guard := _ }) (v := ?v1x13) rfl (by kernel_rfl) (by kernel_rfl) (by kernel_rfl) (fun _ _ _ h => h) (Or.inl ⟨by rfl, ?hy1x13⟩) hHeld ?rest1x13
      case hy1x13 => (intro w hSw; go_simp <;> with_reducible rfl)
      try simp only [Act.put, List.setIfInBounds_toArray, List.set_cons_zero, List.set_cons_succ]
      refine wpAnyH_take (i := 13) (oi := { dst := some 58, op := _, type := _, pos := _, after := _, guard := _ }) (v := ?v1x14) rfl (by kernel_rfl) (by kernel_rfl) (by kernel_rfl) (fun _ _ _ h => h) (Or.inl ⟨by rfl, ?hy1x14⟩) hHeld ?rest1x14
      case hy1x14 => (intro w hSw; go_simp <;> with_reducible rfl)
      try simp only [Act.put, List.setIfInBounds_toArray, List.set_cons_zero, List.set_cons_succ]
      refine wpAnyH_ready (rs := [14]) (by kernel_rfl) (by simp) (AllReadyH.cons (o := { dst := some 59, op := _, type := _, pos := _, after := _, guard := _ }) rfl (fun K hK => ?_) AllReadyH.nil)
      go_simp
      refine (HR.out _ (below_on L.out s8)).mono ?_
      rintro e w9 ⟨E, kE, rfl, lE, rE, b9⟩
      have s9 := below_on s8 b9
      have hcE := strOn rE
      go_wp2_with fail
      refine hK.out _ _ ?_ (fun hHeld => ?_)
      · exact below_on hHeld b9
      clear hK K
      try simp only [Act.put, List.setIfInBounds_toArray, List.set_cons_zero, List.set_cons_succ]
      refine wpAnyH_strong (S' := fun w' => Below w9.heap.size w9 w') (by intro w' h; exact below_on hHeld h) ?_
      replace hHeld : (fun w' => Below w9.heap.size w9 w') _ := Below.refl _ _
      refine wpAnyH_take (i := 15) (oi := { dst := some 60, op := _, type := _, pos := _, after := _, guard := _ }) (v := ?v1x16) rfl (by kernel_rfl) (by kernel_rfl) (by kernel_rfl) (fun _ _ _ h => h) (Or.inl ⟨by rfl, ?hy1x16⟩) hHeld ?rest1x16
      case hy1x16 => (intro w hSw; go_simp <;> with_reducible rfl)
      try simp only [Act.put, List.setIfInBounds_toArray, List.set_cons_zero, List.set_cons_succ]
      refine wpAnyH_take (i := 16) (oi := { dst := some 61, op := _, type := _, pos := _, after := _, guard := _ }) (v := ?v1x17) rfl (by kernel_rfl) (by kernel_rfl) (by kernel_rfl) (fun _ _ _ h => h) (Or.inl ⟨by rfl, ?hy1x17⟩) hHeld ?rest1x17
      case hy1x17 => (intro w hSw; go_simp <;> with_reducible rfl)
      try simp only [Act.put, List.setIfInBounds_toArray, List.set_cons_zero, List.set_cons_succ]
      refine wpAnyH_take (i := 17) (oi := { dst := some 62, op := _, type := _, pos := _, after := _, guard := _ }) (v := ?v1x18) rfl (by kernel_rfl) (by kernel_rfl) (by kernel_rfl) (fun _ _ _ h => h) (Or.inl ⟨by rfl, ?hy1x18⟩) hHeld ?rest1x18
      case hy1x18 => (intro w hSw; go_simp <;> with_reducible rfl)
      try simp only [Act.put, List.setIfInBounds_toArray, List.set_cons_zero, List.set_cons_succ]
      refine wpAnyH_take (i := 18) (oi := { dst := some 63, op := _, type := _, pos := _, after := _, guard := _ }) (v := ?v1x19) rfl (by kernel_rfl) (by kernel_rfl) (by kernel_rfl) (fun _ _ _ h => h) (Or.inl ⟨by rfl, ?hy1x19⟩) hHeld ?rest1x19
      case hy1x19 => (intro w hSw; go_simp <;> with_reducible rfl)
      try simp only [Act.put, List.setIfInBounds_toArray, List.set_cons_zero, List.set_cons_succ]
      refine wpAnyH_take (i := 19) (oi := { dst := some 64, op := _, type := _, pos := _, after := _, guard := _ }) (v := ?v1x20) rfl (by kernel_rfl) (by kernel_rfl) (by kernel_rfl) (fun _ _ _ h => h) (Or.inl ⟨by rfl, ?hy1x20⟩) hHeld ?rest1x20
      case hy1x20 => (intro w hSw; go_simp <;> with_reducible rfl)
      try simp only [Act.put, List.setIfInBounds_toArray, List.set_cons_zero, List.set_cons_succ]
      refine wpAnyH_take (i := 20) (oi := { dst := some 65, op := _, type := _, pos := _, after := _, guard := _ }) (v := ?v1x21) rfl (by kernel_rfl) (by kernel_rfl) (by kernel_rfl) (fun _ _ _ h => h) (Or.inl ⟨by rfl, ?hy1x21⟩) hHeld ?rest1x21
      case hy1x21 => (intro w hSw; go_simp <;> with_reducible rfl)
      try simp only [Act.put, List.setIfInBounds_toArray, List.set_cons_zero, List.set_cons_succ]
      refine wpAnyH_take (i := 21) (oi := { dst := some 66, op := _, type := _, pos := _, after := _, guard := _ }) (v := ?v1x22) rfl (by kernel_rfl) (by kernel_rfl) (by kernel_rfl) (fun _ _ _ h => h) (Or.inl ⟨by rfl, ?hy1x22⟩) hHeld ?rest1x22
      case hy1x22 => (intro w hSw; go_simp <;> with_reducible rfl)
      try simp only [Act.put, List.setIfInBounds_toArray, List.set_cons_zero, List.set_cons_succ]
      refine wpAnyH_take (i := 22) (oi := { dst := some 67, op := _, type := _, pos := _, after := _, guard := _ }) (v := ?v1x23) rfl (by kernel_rfl) (by kernel_rfl) (by kernel_rfl) (fun _ _ _ h => h) (Or.inl ⟨by rfl, ?hy1x23⟩) hHeld ?rest1x23
      case hy1x23 => (intro w hSw; go_simp <;> with_reducible rfl)
      try simp only [Act.put, List.setIfInBounds_toArray, List.set_cons_zero, List.set_cons_succ]
      refine wpAnyH_take (i := 23) (oi := { dst := some 2, op := _, type := _, pos := _, after := _, guard := _ }) (v := ?v1x24) rfl (by kernel_rfl) (by kernel_rfl) (by kernel_rfl) (fun _ _ _ h => h) (Or.inl ⟨by rfl, ?hy1x24⟩) hHeld ?rest1x24
      case hy1x24 => (intro w hSw; go_simp <;> with_reducible rfl)
      try simp only [Act.put, List.setIfInBounds_toArray, List.set_cons_zero, List.set_cons_succ]
      refine wpAnyH_done (by kernel_rfl) ?_ _
      have L9 := hide (below_on L.out s9)
      clear s8 s9 b8 b9 hHeld rE hcE hcv
      go_wp2
      go_ret
      exact ⟨by simp, L9.out⟩
  · rw [show decide (n ≤ 2100) = false from by simpa using hn] at HS
    go_enter Try.func3, Try.ntmps3
    go_wp2_with fail
    generalize hW : w.alloc _ = W
    have hB1 : Blk W w.heap.size 24 [.int .i64 f, .int .i64 a, .int .i64 c, .slice A n k, .int .i64 t, .int .i64 an, .int .i64 o] := by subst hW; exact Blk.new _ _ _
    have hBel : Below w.heap.size w W := by subst hW; exact (Below.refl _ _).alloc (Nat.le_refl _) _
    clear hW
    refine (HS.out _).mono ?_
    rintro e w1 ⟨rfl, b1⟩
    have K := hide (hB1.keep b1)
    have L := hide (below_on hBel b1)
    clear hB1 hBel b1
    obtain ⟨k0, k1, k2, k3, k4, k5, k6⟩ := K.out.seven
    go_wp2
    go_ret
    exact ⟨rfl, L.out⟩

end Go.Proofs.Ytemlfhoejelgbaa
