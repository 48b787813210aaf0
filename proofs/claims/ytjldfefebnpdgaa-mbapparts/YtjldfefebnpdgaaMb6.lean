/-
  What is proved here: layer 6's awake (the document's examples) is true. No condition of its own.
-/
import Derived.Test.YtjldfefebnpdgaaMb5
namespace Go.Proofs.Ytjldfefebnpdgaa
set_option linter.unusedVariables false
set_option linter.unusedSimpArgs false
open Go.RowKit

def exF : List UInt8 := [0, 1, 0, 0, 0, 3, 17, 3, 0]
theorem exF_is : aduL ⟨((1 : Nat) : Int), ((17 : Nat) : Int), [3, 0]⟩ = exF := by kernel_rfl
theorem ex1 : fdT [] false (exF.take 8) = [] ∧ fdE [] false (exF.take 8) = 0 ∧ fdL [] false (exF.take 8) = exF.take 8 ∧ fdB [] false (exF.take 8) = false := ⟨by kernel_rfl, by kernel_rfl, by kernel_rfl, by kernel_rfl⟩
theorem ex2 : fdT (exF.take 8) false (exF.drop 8) = [⟨1, 17, [3, 0]⟩] ∧ fdE (exF.take 8) false (exF.drop 8) = 0 := ⟨by kernel_rfl, by kernel_rfl⟩
theorem ex3 : fdE [] false [0, 1, 0, 1, 0, 3] = 50 := by kernel_rfl

theorem one_of_map {rs : List AduM} {a : AduE} (h : rs.map AduM.e = [a]) : ∃ r, rs = [r] ∧ r.e = a := by
  rcases rs with _ | ⟨r, _ | ⟨r', rs⟩⟩
  · simp at h
  · simp at h
    exact ⟨r, rfl, h⟩
  · simp at h

set_option maxHeartbeats 1000000 in
set_option maxRecDepth 100000 in
theorem awake6_any (w : World) : Calls Try.prog 11 #[] w fun e w' => e = .returned (.bool true) ∧ Below w.heap.size w w' := by
  go_enter Try.func11, Try.ntmps11
  go_wp2_with fail
  have b0 : Below w.heap.size w (w.alloc (.cells #[.int .u8 3, .int .u8 0] 5)) := (Below.refl _ _).alloc (Nat.le_refl _) _
  have r0 : Rd (w.alloc (.cells #[.int .u8 3, .int .u8 0] 5)) (some ⟨w.heap.size, 0, none⟩) 2 (bv [3, 0]) := (Blk.new w 5 (bv [3, 0])).rd
  refine (mframe_ok 1 17 _ 2 2 [3, 0] rfl (by omega) (by omega) (by omega) (by omega) _ r0).mono ?_
  rintro e w1 ⟨C, c, rfl, o1, b1⟩
  rw [exF_is] at o1
  have hc := own_cap o1
  have hlt1 := own_lt o1
  have R1 := hide (own_rd o1)
  have B1 := hide (below_on b0 b1)
  clear o1 b0 b1 r0
  go_wp2_with fail
  refine (mnew_any w1).mono ?_
  rintro e w2 ⟨g, rfl, hg, s2, b2⟩
  have S2 := hide s2
  have B2 := hide b2
  clear s2 b2
  go_wp2_with fail
  refine (mnew_any w2).mono ?_
  rintro e w3 ⟨h, rfl, hh, s3, b3⟩
  have G3 := hide (S2.out.keep b3)
  have H3 := hide s3
  have B3 := hide (below_on B2.out b3)
  have hgl : g < w2.heap.size := S2.out.str.lt
  have hhl : h < w3.heap.size := s3.str.lt
  clear s3 b3
  have hsl1 := fun W => run_slTo (P := Try.prog) 22 5 Try.underlying22 u8_size C 9 c 8 8 rfl (by omega) W
  have hsl2 := fun W => run_slTail (P := Try.prog) 22 5 Try.underlying22 u8_size C 9 c 8 8 rfl (by omega) W
  go_wp2_with fail
  have r3 := R1.out.keep B3.out
  refine (mfeed_any g none 0 [] false C 8 c (exF.take 8) w3 G3.out (r3.upto 8 c (by omega) hc) (by simp)).mono ?_
  rintro e w4 ⟨O4, k4, rs4, A4, j4, rfl, t4, _, _, s4, a4, b4⟩
  obtain ⟨e1, e2, e3, e4⟩ := ex1
  rw [e1] at t4
  obtain rfl := List.map_eq_nil_iff.1 t4
  rw [e2]
  rw [e3, e4] at s4
  have offC : ∀ x, w1.heap.size ≤ x → Off (fun i => i = x) C := fun x hx b o e hb => by have := hlt1 b o e; omega
  have R4 := hide (r3.but b4 (offC g hg))
  have H4 := hide (H3.out.but b4 (by omega) (Off.none_ _))
  have S4 := hide s4
  have B4 := hide b4
  have hz4 := b4.size
  clear s4 b4 r3 t4 e1 e2 e3 e4
  go_wp2_with fail
  refine (mleft_any g A4 j4 (exF.take 8) false w4 S4.out).mono ?_
  rintro e w4' ⟨rfl, rfl⟩
  go_wp2_with fail
  refine (mfeed_any g A4 j4 (exF.take 8) false (cutA C 8 c) 1 (c - 8) (exF.drop 8) w4 S4.out (by rw [← bv_drop]; exact R4.out.tail 8 c (by omega) hc) (by decide)).mono ?_
  rintro e w5 ⟨O5, k5, rs5, A5, j5, rfl, t5, r5, ⟨n5, m5⟩, s5, _, b5⟩
  obtain ⟨e1, e2⟩ := ex2
  rw [e1] at t5
  rw [e2]
  obtain ⟨r, rfl, hre⟩ := one_of_map t5
  have hr5 : r.unit = 17 := congrArg AduE.unit hre
  have R5 := hide (R4.out.but b5 (offC g hg))
  have H5 := hide (H4.out.but b5 (by omega) (Off.none_ _))
  have T5 := hide r5
  have N5 := hide n5
  have M5 := hide m5
  have B5 := hide b5
  have hz5 := b5.size
  clear s5 b5 t5 r5 n5 m5 e1 e2
  go_wp2_with fail
  have b6 : Below w5.heap.size w5 (w5.alloc (.cells #[.int .u8 0, .int .u8 1, .int .u8 0, .int .u8 1, .int .u8 0, .int .u8 3] 5)) := (Below.refl _ _).alloc (Nat.le_refl _) _
  have r6 : Rd (w5.alloc (.cells #[.int .u8 0, .int .u8 1, .int .u8 0, .int .u8 1, .int .u8 0, .int .u8 3] 5)) (some ⟨w5.heap.size, 0, none⟩) 6 (bv [0, 1, 0, 1, 0, 3]) := (Blk.new w5 5 (bv [0, 1, 0, 1, 0, 3])).rd
  refine (mfeed_any h none 0 [] false _ 6 6 [0, 1, 0, 1, 0, 3] _ (H5.out.keep b6) r6 (by simp)).mono ?_
  rintro e w7 ⟨O7, k7, rs7, A7, j7, rfl, _, _, _, _, _, b7⟩
  rw [ex3]
  have b57 := But.after b6 b7
  have offO : Off (fun i => i = h) O5 := fun b o e hb => by have := N5.out b o e; omega
  obtain ⟨bb, oo, rr, rfl, _, hrr, _, cu, _, _⟩ := (T5.out.but b57 offO (fun x hx b o e hb => by have := M5.out x hx b o e; omega)).at_ (i := 0) (by simp)
  have cu2 : w7.cell? ⟨bb, oo + 1, none⟩ = some (.int .i64 17) := by
    injection hrr with hrr
    subst hrr
    rw [← hr5]
    simpa using cu
  have d7 := rdStr (R5.out.but b57 (offC h (by omega)))
  have T7 : Hid (Below w.heap.size w w7) := by
    have x4 := But.below (below_on B1.out B3.out) B4.out (fun i e => by have := B1.out.size; omega) (below_on B1.out B3.out).size
    have x5 := But.below x4 B5.out (fun i e => by have := B1.out.size; omega) x4.size
    exact But.below x5 b57 (fun i e => by have := B1.out.size; omega) x5.size
  clear hrr cu b57 b7 b6 r6 hre
  go_wp2
  go_ret
  exact ⟨rfl, T7.out⟩

end Go.Proofs.Ytjldfefebnpdgaa
