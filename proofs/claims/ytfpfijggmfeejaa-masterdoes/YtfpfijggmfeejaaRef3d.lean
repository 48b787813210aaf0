/-
  What is proved here: what the document's own lay and counted return (words one behind the other; a byte that says how many, and the bytes).
-/
import Derived.Test.YtfpfijggmfeejaaPdu8
import Derived.Test.YtfpfijggmfeejaaStructs
namespace Go.Proofs.Ytfpfijggmfeejaa
set_option linter.unusedVariables false
set_option linter.unusedSimpArgs false
open Go.RowKit

theorem Blk.keepB {w w' : World} {g B : Nat} {t : TypeId} {cs : List Value} (h : Blk w g t cs) (hb : Below B w w') (hg : g < B) : Blk w' g t cs := (hb.block g hg).trans h

/-- lay: words one behind the other. -/
theorem refLay_any (A : Option Addr) (m c : Nat) (vs : List Int) (w : World) (h : Rd w A m (iv vs)) (hv : upToB vs 65535 = true) (hm : m ≤ 5000) :
    Calls Try.prog 49 #[.slice A m c] w (RetOwn 5 (2 * m) (bv (putL vs)) w) := by
  have hvl : vs.length = m := by rw [← iv_length]; exact h.1
  have Hvl := hide hvl
  have Hv := hide hv
  clear hvl hv
  go_enter Try.func49, Try.ntmps49
  go_wp2
  go_loopw [3, 4] (fun v i wr => ∃ (k : Nat) (C : Option Addr) (kk : Nat), k ≤ m ∧ i = .int .i64 (k : Int) ∧ v = .slice C (2 * k) kk ∧ wr.ownsRow w.heap.size 5 1 (.slice C (2 * k) kk) (2 * k) (bv (putL (vs.take k))) ∧ Below w.heap.size w wr) (fun _ i _ => m - (intOf i).toNat)
  case atStart => exact ⟨0, none, 0, by omega, rfl, rfl, World.ownsRow_nil _ _ _ _, Below.refl _ _⟩
  case round =>
    obtain ⟨k, C, kk, hk, rfl, rfl, hown, hbel⟩ := hrel
    by_cases hlt : k < m
    · obtain ⟨b, o, rfl, hbl, hc⟩ := h.at_ hlt
      have hlt' : k < vs.length := by rw [Hvl.out]; exact hlt
      have c0 := hc k _ (iv_get vs k hlt')
      have cA : wr.cell? ⟨b, o + k, none⟩ = some (.int .i64 vs[k]) := (hbel.cell (p := ⟨b, o + k, none⟩) hbl).trans c0
      have hw := upToB_get vs 65535 Hv.out k hlt'
      have Htk := hide (putL_take vs k hlt')
      have q : (k : Int) < (m : Int) := by omega
      generalize vs[k] = z at *
      obtain ⟨zn, rfl⟩ := Int.eq_ofNat_of_zero_le hw.1
      have HP := hide (fun W => word_any zn (by omega) W)
      have Hown := hide hown
      have Hbel := hide hbel
      have Htk2 : Hid (bv (putL (vs.take k)) ++ bv (word zn) = bv (putL (vs.take (k + 1)))) := by
        show _ = _
        rw [Htk.out, bv_append]
        rfl
      clear hc c0 hown hbel h Htk
      go_wp2_with fail
      refine (HP.out _).mono ?_
      rintro e w1 ⟨rfl, k1, b1⟩
      have Ho := hide (own_keep Hown.out b1)
      have Hr := hide (k1.reads (Below.refl _ _) 2 rfl)
      have Hb := hide (below_on Hbel.out b1)
      clear k1 b1 Hown Hbel
      go_wp2_with (at_builtin; refine wpList_app rfl (.tmp 11) (.tmp 16) 38 rfl 5 _ _ Try.underlying38 u8_info rfl w.heap.size C (2 * k) kk _ rfl Ho.out _ 2 2 (bv (word zn)) rfl Hr.out (bv_one _) (by unfold maxLen; omega) (by omega) Hb.out.size ?_; intro A3 c3 w3 o3 g3 b3; rw [Htk2.out] at o3)
      exact ⟨⟨k + 1, A3, c3, by omega, by go_num, rfl, o3, Hb.out.trans b3⟩, by simp [intOf]; omega⟩
    · obtain rfl : k = m := by omega
      rw [List.take_of_length_le (Nat.le_of_eq Hvl.out)] at hown
      have Ho := hide hown
      have Hbel := hide hbel
      clear hown hbel h
      go_wp2
      go_ret
      exact ⟨C, kk, rfl, Ho.out, Hbel.out⟩

/-- lay, of words that were laid in a slice just ahead. -/
theorem refLay_lit (G m : Nat) (vs : List Int) (W : World) (hG : G = W.heap.size) (hm : vs.length = m) (hv : upToB vs 65535 = true) (hm5 : m ≤ 5000) :
    Calls Try.prog 49 #[.slice (some ⟨G, 0, none⟩) m m] (W.alloc (.cells (arr (iv vs)) 3)) (RetOwn 5 (2 * m) (bv (putL vs)) W) := by
  subst hG hm
  have b0 : Below W.heap.size W (W.alloc (.cells (arr (iv vs)) 3)) := (Below.refl _ _).alloc (Nat.le_refl _) _
  have hr := (Blk.new W 3 (iv vs)).rd
  rw [iv_length] at hr
  refine (refLay_any _ vs.length vs.length vs _ hr hv hm5).mono ?_
  rintro e w1 ⟨C, k, rfl, o1, b1⟩
  exact ⟨C, k, rfl, own_base o1 b0.size, below_on b0 b1⟩

/-- counted: a byte that says how many, and the bytes. -/
theorem refCounted_any (B : Option Addr) (m d : Nat) (ys : List UInt8) (w : World) (h : Rd w B m (bv ys)) (hm : m ≤ 255) :
    Calls Try.prog 47 #[.slice B m d] w (RetSl (1 + m) (bv (cntL ys)) w) := by
  have hy : ys.length = m := by rw [← bv_length]; exact h.1
  have b0 : Below w.heap.size w (w.alloc (.cells #[.int .u8 (m : Int)] 5)) := (Below.refl _ _).alloc (Nat.le_refl _) _
  have r0 : Rd (w.alloc (.cells #[.int .u8 (m : Int)] 5)) (some ⟨w.heap.size, 0, none⟩) 1 (bv [UInt8.ofNat m]) := by rw [bv_byte m (by omega)]; exact rd_one _ _ _
  have HB := hide (both_any (some ⟨w.heap.size, 0, none⟩) B 1 m 1 d [UInt8.ofNat m] ys _ r0 (h.keep b0) (by omega) (by omega))
  have hq : [UInt8.ofNat m] ++ ys = cntL ys := by rw [cntL, hy]; rfl
  rw [hq] at HB
  have B0 := hide b0
  have qm : (m : Int) % 256 = m := by omega
  clear h hy b0 r0 hq
  go_enter Try.func47, Try.ntmps47
  go_wp2_with fail
  refine HB.out.mono ?_
  rintro e w1 ⟨C, k, rfl, lC, rC, b1⟩
  have RC := hide rC
  have B1 := hide (below_on B0.out b1)
  clear rC b1
  go_wp2
  go_ret
  exact ⟨C, k, rfl, lC, RC.out, B1.out⟩

end Go.Proofs.Ytfpfijggmfeejaa
