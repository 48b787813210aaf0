/-
  What is proved here: the law PacketAgain returns true for every slice of bytes, and writes nothing that was there. No condition.
-/
import Derived.Test.YtjaaeiemgojnbaaAwake10
namespace Go.Proofs.Ytjaaeiemgojnbaa
set_option linter.unusedVariables false
set_option linter.unusedSimpArgs false
open Go.RowKit

theorem readP_short {bs : List UInt8} {p : Pk} (hl : bs.length ≤ 65535) (h : readP bs = some p) : PkS p := by
  rw [← parseQ_eq] at h
  unfold parseQ at h
  cases hq : readQ bs with
  | none => rw [hq] at h; cases h
  | some q =>
    rw [hq] at h
    simp only at h
    split at h
    · injection h with h
      rw [← h]
      exact readQ_short hl hq
    · cases h

set_option maxRecDepth 100000 in
set_option maxHeartbeats 4000000 in
theorem again10_walk (A : Option Addr) (n k : Nat) (xs : List UInt8) (w : World) (h : Rd w A n (bv xs)) (hk : n ≤ k) : Calls Try.prog 6 #[.slice A n k] w fun e w' => e = .returned (.bool true) ∧ Below w.heap.size w w' := by
  have hx : xs.length = n := by rw [← bv_length]; exact h.1
  by_cases hs : (3000 : Int) < (n : Int)
  · clear h hx
    go_enter Try.func6, Try.ntmps6
    go_wp2_with fail
    go_ret
    exact ⟨rfl, Below.refl _ _⟩
  · have P1 := parse_any A n k xs w h hx hk (by omega)
    have HR := hide h
    have HSh := hide (fun p (e : readP xs = some p) => readP_short (by omega) e)
    have HSo := hide (fun p (e : readP xs = some p) => readP_some e)
    have Hx := hide hx
    have AW := awake_any
    clear h hx
    cases hq : readP xs with
    | none =>
      rw [hq] at P1
      have P1 : Calls Try.prog 16 #[.slice A n k] w fun e w' => e = .returned (.tuple #[pkA (zeroP 0) none 0 0 none 0 0, .int .i64 100]) ∧ Below w.heap.size w w' := P1
      clear HSh HSo hq
      go_enter Try.func6, Try.ntmps6
      go_wp2_with fail
      refine P1.mono ?_
      rintro e w1 ⟨rfl, b1⟩
      have B1 := hide b1
      clear b1 P1
      go_upto_region 4 with (refine wpList_storeQ rfl 27 (.tmp 3) (.tmp 13) rfl w1.heap.size 27 (zeroP 0) none 0 0 none 0 0 (zeroP 0) none 0 0 none 0 0 rfl rfl (Blk.new w1 27 (pkVs (zeroP 0) none 0 0 none 0 0)) (by kernel_rfl) ?_; intro V bV BV)
      have bW : Below w1.heap.size w1 V := But.below ((Below.refl _ _).alloc (Nat.le_refl _) _) BV (fun i e => by omega) (by simp)
      have B1 := hide (below_on B1.out bW)
      clear bV BV bW
      go_wp2_with fail
      refine (AW V).mono ?_
      rintro e w2 ⟨rfl, b2⟩
      have B1 := hide (below_on B1.out b2)
      clear b2
      go_wp2_with fail
      go_ret
      exact ⟨rfl, B1.out⟩
    | some p =>
      obtain ⟨hm, hl⟩ := HSo.out p hq
      have hsh := HSh.out p hq
      rw [hq] at P1
      have P1 : Calls Try.prog 16 #[.slice A n k] w fun e w' => ∃ C nc kc S ns ks, e = .returned (.tuple #[pkA p C nc kc S ns ks, .int .i64 0]) ∧ NewAt w C ∧ NewAt w S ∧ PkM w' p C nc kc S ns ks ∧ Below w.heap.size w w' := P1
      have PB := fun C nc kc S ns ks W hM => bytes_any p C nc kc S ns ks W hM hsh
      have PB : ∀ C nc kc S ns ks W, PkM W p C nc kc S ns ks → Calls Try.prog 12 #[pkA p C nc kc S ns ks] W fun e w' => ∃ D d, e = .returned (.tuple #[.slice D n d, .int .i64 0]) ∧ W.heap.size ≤ W.heap.size ∧ Rd w' D n (bv xs) ∧ Below W.heap.size W w' := fun C nc kc S ns ks W hM => (PB C nc kc S ns ks W hM).mono fun e w' hh => by
        unfold ByPost at hh
        rw [if_pos hm, hl, Hx.out] at hh
        obtain ⟨D, d, e1, o1, b1⟩ := hh
        exact ⟨D, d, e1, Nat.le_refl _, own_rd o1, b1⟩
      have PC : ∀ C nc kc S ns ks W, PkM W p C nc kc S ns ks → Calls Try.prog 11 #[pkA p C nc kc S ns ks] W fun e w' => e = .returned (.int .i64 0) ∧ Below W.heap.size W w' := fun C nc kc S ns ks W hM => by
        have := check_any p C nc kc S ns ks W hM hsh
        rw [if_pos hm] at this
        exact this
      clear HSh HSo hq hm hl hsh
      go_enter Try.func6, Try.ntmps6
      go_wp2_with fail
      refine P1.mono ?_
      rintro e w1 ⟨C, nc, kc, S, ns, ks, rfl, -, -, hM, b1⟩
      have B1 := hide b1
      have HM := hide hM
      clear b1 P1 hM
      go_upto_region 4 with (refine wpList_storeQ rfl 27 (.tmp 3) (.tmp 13) rfl w1.heap.size 27 (zeroP 0) none 0 0 none 0 0 p C nc kc S ns ks rfl rfl (Blk.new w1 27 (pkVs (zeroP 0) none 0 0 none 0 0)) (by kernel_rfl) ?_; intro V bV BV)
      have bW : Below w1.heap.size w1 V := But.below ((Below.refl _ _).alloc (Nat.le_refl _) _) BV (fun i e => by omega) (by simp)
      have B1 := hide (below_on B1.out bW)
      have HM := hide (HM.out.keep bW)
      obtain ⟨g, hg⟩ : ∃ g, w1.heap.size = g := ⟨_, rfl⟩
      rw [hg] at bV ⊢
      have HB := hide bV
      clear bV BV bW hg
      go_upto_region 6 with fail
      refine wp_region_lit ?_
      refine wpList_loadP rfl 27 (.tmp 3) rfl g 27 p C nc kc S ns ks rfl HB.out Try.underlying27 rfl (by kernel_rfl) ?_
      go_wp2_with fail
      refine (PB C nc kc S ns ks V HM.out).mono ?_
      rintro e w2 ⟨D, d, rfl, -, hD, b2⟩
      have B1 := hide (below_on B1.out b2)
      have HM := hide (HM.out.keep b2)
      have HB := hide (HB.out.keep b2)
      have HD := hide hD
      clear b2 hD PB
      go_wp2_with fail
      refine (AW w2).mono ?_
      rintro e w3 ⟨rfl, b3⟩
      have B1 := hide (below_on B1.out b3)
      have HM := hide (HM.out.keep b3)
      have HB := hide (HB.out.keep b3)
      have HD := hide (HD.out.keep b3)
      clear b3 AW
      go_upto_region 8 with (refine wpList_loadPg (by rfl) 27 (.tmp 3) rfl g 27 p C nc kc S ns ks rfl HB.out Try.underlying27 rfl (by kernel_rfl) ?_)
      refine (PC C nc kc S ns ks w3 HM.out).mono ?_
      rintro e w4 ⟨rfl, b4⟩
      have B1 := hide (below_on B1.out b4)
      have h1 := rdStr (HD.out.keep b4) d
      have h2 := rdStr (HR.out.keep B1.out) k
      clear b4 PC
      go_wp2_with fail
      go_ret
      exact ⟨by first | rfl | simp, B1.out⟩

end Go.Proofs.Ytjaaeiemgojnbaa
