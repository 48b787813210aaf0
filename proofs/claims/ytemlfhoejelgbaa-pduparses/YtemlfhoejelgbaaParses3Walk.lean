/-
  What is proved here: the law PduParses returns true for all bytes, and turns nothing that was there.
-/
import Derived.Test.YtemlfhoejelgbaaAwake3
import Derived.Test.YtemlfhoejelgbaaRef3m
namespace Go.Proofs.Ytemlfhoejelgbaa
set_option linter.unusedVariables false
set_option linter.unusedSimpArgs false
open Go.RowKit

set_option maxHeartbeats 1000000 in
theorem parses3_walk (B : Option Addr) (l d : Nat) (xs : List UInt8) (w : World) (h : Rd w B l (bv xs)) (hd : l ≤ d) :
    Calls Try.prog 4 #[.slice B l d] w fun e w' => e = .returned (.bool true) ∧ Below w.heap.size w w' := by
  have H2 := hide h
  clear h
  by_cases hl : l ≤ 600
  · have ql : decide (600 < (l : Int)) = false := by simp; omega
    have HP := hide (fun A c W hr hc => parse_any A l c xs W hr hc)
    have HQ := hide (fun W (b : Below w.heap.size w W) => refParse_any B l d xs W (H2.out.keep b) hd hl)
    have HX : Hid (xs.length = l) := by show _ = _; rw [← bv_length]; exact H2.out.1
    cases hp : parseL xs with
    | none =>
      rw [hp] at HP HQ
      clear hp
      have HE := hide (fun C m kC W hr hm => same_yes 0 0 0 0 0 0 C none m 0 kC 0 [] W hr (Rd.nil _ _) hm)
      have hz := Blk.new w 5 []
      have HO := hide (hz.own (Nat.le_refl _) 0 rfl (by decide))
      have b0 : Below w.heap.size w (w.alloc (.cells #[] 5)) := (Below.refl _ _).alloc (Nat.le_refl _) _
      have R0 := hide (H2.out.keep b0)
      have B0 := hide b0
      clear hz b0
      go_enter Try.func4, Try.ntmps4
      go_wp2_with (at_builtin; refine wpList_app rfl (.tmp 11) (.tmp 12) 28 rfl 5 _ _ Try.underlying28 u8_info rfl w.heap.size _ 0 0 _ rfl HO.out B l d (bv xs) rfl R0.out (bv_one _) (by unfold maxLen; omega) (by omega) (by simp) ?_; intro A3 c3 w3 o3 g3 b3; rw [List.nil_append, Nat.zero_add] at o3; have L := hide (B0.out.trans b3); have O := hide o3; clear o3 g3 b3 HO R0 B0)
      refine (HP.out A3 c3 _ (own_rd O.out) (own_cap O.out)).mono ?_
      rintro e w4 ⟨C, m, kC, rfl, lC, rC, b4⟩
      have RC := hide rC
      have O4 := hide ((own_rd O.out).keep b4)
      have L4 := hide (below_on L.out b4)
      clear rC b4 O L
      go_wp2_with fail
      generalize hX : w4.alloc _ = X
      have bX : Below w4.heap.size w4 X := by subst hX; exact (Below.refl _ _).alloc (Nat.le_refl _) _
      have GX := hide (show Blk X w4.heap.size 24 [.int .i64 0, .int .i64 0, .int .i64 0, .slice C m kC, .int .i64 0, .int .i64 0, .int .i64 0] from by subst hX; exact Blk.new _ _ _)
      clear hX
      refine (HQ.out _ (below_on L4.out bX)).mono ?_
      rintro e w5 ⟨D, mD, kD, rfl, lD, rD, b5⟩
      have s5 := below_on bX b5
      have RC5 := hide (RC.out.keep s5)
      have O5 := hide (O4.out.keep s5)
      have L5 := hide (below_on L4.out s5)
      have G5 := hide (GX.out.keep b5)
      have RD := hide rD
      clear rD b5 s5 bX GX RC O4 L4
      have RC6 : Hid (Rd w5 C m (iv [])) := RC5.out
      have hm0 : m ≤ 1000000 := by have h1 : (iv []).length = m := RC6.out.1; rw [iv_length] at h1; simp only [List.length_nil] at h1; omega
      have hlt := G5.out.lt
      have hs1 := fun ob => rdStr (O5.out.keep ((Below.refl w5.heap.size w5).alloc (Nat.le_refl _) ob)) c3
      have hs2 := fun ob => rdStr (H2.out.keep (below_on L5.out ((Below.refl w5.heap.size w5).alloc (Nat.le_refl _) ob))) d
      have qs : (xs != xs) = false := by simp
      go_wp2_with fail
      refine (awake3_any _).mono ?_
      rintro e w6 ⟨rfl, b6⟩
      have s6 := below_on ((Below.refl w5.heap.size w5).alloc (Nat.le_refl _) _) b6
      have G6 := hide (G5.out.keep s6)
      have L6 := hide (below_on L5.out s6)
      have R6 := hide (RC6.out.keep s6)
      clear b6 s6 hs1 hs2 hlt
      obtain ⟨k0, k1, k2, k3, k4, k5, k6⟩ := G6.out.seven
      go_wp2_with fail
      refine (HE.out C m kC _ R6.out (by omega)).mono ?_
      rintro e w7 ⟨rfl, b7⟩
      have L7 := hide (below_on L6.out b7)
      clear b7
      go_wp2
      go_ret
      exact ⟨rfl, L7.out⟩
    | some r =>
      have hV := gs_length xs
      rw [(parse_some hp).2.2, HX.out] at hV
      rw [hp] at HP HQ
      clear hp
      obtain ⟨f', a', c', vs', t', an', o'⟩ := r
      have HV : Hid (vs'.length ≤ 8 * l + 1) := hV
      clear hV
      have HE := hide (fun C D m mD kC kD W hr hr2 hm => same_yes f' a' c' t' an' o' C D m mD kC kD vs' W hr hr2 hm)
      have hz := Blk.new w 5 []
      have HO := hide (hz.own (Nat.le_refl _) 0 rfl (by decide))
      have b0 : Below w.heap.size w (w.alloc (.cells #[] 5)) := (Below.refl _ _).alloc (Nat.le_refl _) _
      have R0 := hide (H2.out.keep b0)
      have B0 := hide b0
      clear hz b0
      go_enter Try.func4, Try.ntmps4
      go_wp2_with (at_builtin; refine wpList_app rfl (.tmp 11) (.tmp 12) 28 rfl 5 _ _ Try.underlying28 u8_info rfl w.heap.size _ 0 0 _ rfl HO.out B l d (bv xs) rfl R0.out (bv_one _) (by unfold maxLen; omega) (by omega) (by simp) ?_; intro A3 c3 w3 o3 g3 b3; rw [List.nil_append, Nat.zero_add] at o3; have L := hide (B0.out.trans b3); have O := hide o3; clear o3 g3 b3 HO R0 B0)
      refine (HP.out A3 c3 _ (own_rd O.out) (own_cap O.out)).mono ?_
      rintro e w4 ⟨C, m, kC, rfl, lC, rC, b4⟩
      have RC := hide rC
      have O4 := hide ((own_rd O.out).keep b4)
      have L4 := hide (below_on L.out b4)
      clear rC b4 O L
      go_wp2_with fail
      generalize hX : w4.alloc _ = X
      have bX : Below w4.heap.size w4 X := by subst hX; exact (Below.refl _ _).alloc (Nat.le_refl _) _
      have GX := hide (show Blk X w4.heap.size 24 [.int .i64 f', .int .i64 a', .int .i64 c', .slice C m kC, .int .i64 t', .int .i64 an', .int .i64 o'] from by subst hX; exact Blk.new _ _ _)
      clear hX
      refine (HQ.out _ (below_on L4.out bX)).mono ?_
      rintro e w5 ⟨D, mD, kD, rfl, lD, rD, b5⟩
      have s5 := below_on bX b5
      have RC5 := hide (RC.out.keep s5)
      have O5 := hide (O4.out.keep s5)
      have L5 := hide (below_on L4.out s5)
      have G5 := hide (GX.out.keep b5)
      have RD := hide rD
      clear rD b5 s5 bX GX RC O4 L4
      have RC6 : Hid (Rd w5 C m (iv vs')) := RC5.out
      have RD6 : Hid (Rd w5 D mD (iv vs')) := RD.out
      have hm0 : m ≤ 1000000 := by have := HV.out; have h1 : (iv vs').length = m := RC6.out.1; rw [iv_length] at h1; omega
      have hlt := G5.out.lt
      have hs1 := fun ob => rdStr (O5.out.keep ((Below.refl w5.heap.size w5).alloc (Nat.le_refl _) ob)) c3
      have hs2 := fun ob => rdStr (H2.out.keep (below_on L5.out ((Below.refl w5.heap.size w5).alloc (Nat.le_refl _) ob))) d
      have qs : (xs != xs) = false := by simp
      go_wp2_with fail
      refine (awake3_any _).mono ?_
      rintro e w6 ⟨rfl, b6⟩
      have s6 := below_on ((Below.refl w5.heap.size w5).alloc (Nat.le_refl _) _) b6
      have G6 := hide (G5.out.keep s6)
      have F6 := hide ((Blk.new w5 24 [.int .i64 f', .int .i64 a', .int .i64 c', .slice D mD kD, .int .i64 t', .int .i64 an', .int .i64 o']).keep b6)
      have L6 := hide (below_on L5.out s6)
      have R6 := hide (RC6.out.keep s6)
      have Q6 := hide (RD6.out.keep s6)
      clear b6 s6 hs1 hs2 hlt
      obtain ⟨k0, k1, k2, k3, k4, k5, k6⟩ := G6.out.seven
      obtain ⟨j0, j1, j2, j3, j4, j5, j6⟩ := F6.out.seven
      go_wp2_with fail
      refine (HE.out C D m mD kC kD _ R6.out Q6.out (by omega)).mono ?_
      rintro e w7 ⟨rfl, b7⟩
      have L7 := hide (below_on L6.out b7)
      clear b7
      go_wp2
      go_ret
      exact ⟨rfl, L7.out⟩
  · have ql : decide (600 < (l : Int)) = true := by simp; omega
    go_enter Try.func4, Try.ntmps4
    go_wp2
    go_ret
    exact ⟨rfl, Below.refl _ _⟩

end Go.Proofs.Ytemlfhoejelgbaa
