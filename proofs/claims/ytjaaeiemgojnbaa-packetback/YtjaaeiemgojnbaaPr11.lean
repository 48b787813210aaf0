/-
  What is proved here: what the program's Parse of package packet returns. Condition: at most 65535 bytes.
-/
import Derived.Test.YtjaaeiemgojnbaaPr10
import Derived.Test.YtjaaeiemgojnbaaPrMath
import Derived.Test.YtjaaeiemgojnbaaPq14
namespace Go.Proofs.Ytjaaeiemgojnbaa
set_option linter.unusedVariables false
set_option linter.unusedSimpArgs false
open Go.RowKit

/-- What Parse returns. -/
def PsPost (o : Option Pk) (w : World) (e : Ending) (w' : World) : Prop := match o with
  | none => e = .returned (.tuple #[pkA (zeroP 0) none 0 0 none 0 0, .int .i64 100]) ∧ Below w.heap.size w w'
  | some p => ∃ C nc kc S ns ks, e = .returned (.tuple #[pkA p C nc kc S ns ks, .int .i64 0]) ∧ NewAt w C ∧ NewAt w S ∧ PkM w' p C nc kc S ns ks ∧ Below w.heap.size w w'

set_option maxRecDepth 100000 in
set_option maxHeartbeats 4000000 in
theorem parse_any (A : Option Addr) (n k : Nat) (xs : List UInt8) (w : World) (hR : Rd w A n (bv xs)) (hx : xs.length = n) (hk : n ≤ k) (h65 : n ≤ 65535) : Calls Try.prog 16 #[.slice A n k] w (PsPost (readP xs) w) := by
  rw [← parseQ_eq]
  obtain ⟨O, hO⟩ : ∃ O, parseQ xs = O := ⟨_, rfl⟩
  rw [hO]
  unfold parseQ at hO
  have HO := hide hO
  have PR := fun W (b : Below w.heap.size w W) => pkRead_any A n k xs W (hR.keep b) hx hk h65
  have HS := hide (fun p (h : readQ xs = some p) => readQ_short (by omega) h)
  clear hO hR hx hk h65
  go_enter Try.func16, Try.ntmps16
  go_wp2_with fail
  generalize hW : w.alloc _ = W
  obtain ⟨gr, hgr, hB, bW, -⟩ := boxedP (p := zeroP 0) (C := none) (nc := 0) (kc := 0) (S := none) (ns := 0) (ks := 0) hW
  rw [hgr]
  have Hg := hide hgr
  have HZ := hide hB
  have BW := hide bW
  have P := PR W (by rw [hgr]; exact bW)
  clear hW hgr hB bW PR
  refine P.mono ?_
  clear P
  cases hq : readQ xs with
  | none =>
    have h0 : O = none := by rw [← HO.out, hq]
    have H0 := hide h0
    clear h0
    rintro e w1 ⟨rfl, b1⟩
    have HZ := hide (HZ.out.keep b1)
    have BW := hide (BW.out.trans (b1.mono (by have := BW.out.size; have := Hg.out; have := HZ.out.lt; omega)))
    clear b1
    go_upto_region 2 with (refine wpList_storeQ rfl 27 (.tmp 4) (.tmp 9) rfl w1.heap.size 27 (zeroP 0) none 0 0 none 0 0 (zeroP 0) none 0 0 none 0 0 rfl rfl (Blk.new w1 27 (pkVs (zeroP 0) none 0 0 none 0 0)) (by kernel_rfl) ?_; intro V bV BV)
    have hz1 : Below w1.heap.size w1 V := But.below ((Below.refl _ _).alloc (Nat.le_refl _) _) BV (fun i e => by omega) (by simp)
    have HZ := hide (HZ.out.keep hz1)
    have BW := hide (BW.out.trans (hz1.mono (by have := BW.out.size; have := Hg.out; omega)))
    clear hz1 bV BV
    go_upto_region 99 with (refine wpList_storeQ rfl 27 (.tmp 2) (.tmp 18) rfl gr 27 (zeroP 0) none 0 0 none 0 0 (zeroP 0) none 0 0 none 0 0 rfl rfl HZ.out (by kernel_rfl) ?_; intro V2 bV2 BV2)
    refine bodyPost_ret (results_cell_tmp rfl rfl bV2 Try.underlying27 rfl (by kernel_rfl)) rfl ?_
    rw [H0.out]
    exact ⟨rfl, by rw [Hg.out]; exact But.below BW.out BV2 (fun i e => by omega) (by have := BW.out.size; have := Hg.out; omega)⟩
  | some p =>
    have hS := HS.out p hq
    have hO : O = if mayP p = true then some p else none := by rw [← HO.out, hq]
    have HO2 := hide hO
    clear hO HO
    rintro e w1 ⟨C, nc, kc, S, ns, ks, rfl, hNC, hNS, hM, b1⟩
    have HC := hide (show Off (fun j => j = gr) C from fun b o e h => by have h1 := hNC b o e; have h2 := HZ.out.lt; have h3 : b = gr := h; omega)
    have HSS := hide (show Off (fun j => j = gr) S from fun b o e h => by have h1 := hNS b o e; have h2 := HZ.out.lt; have h3 : b = gr := h; omega)
    have HN := hide (And.intro (hNC.old (by have := BW.out.size; have := Hg.out; omega)) (hNS.old (by have := BW.out.size; have := Hg.out; omega)) : NewAt w C ∧ NewAt w S)
    have HZ := hide (HZ.out.keep b1)
    have BW := hide (BW.out.trans (b1.mono (by have := BW.out.size; have := Hg.out; have := HZ.out.lt; omega)))
    have HM := hide hM
    have hgl : gr < w1.heap.size := HZ.out.lt
    clear b1 hM hNC hNS
    go_upto_region 2 with (refine wpList_storeQ rfl 27 (.tmp 4) (.tmp 9) rfl w1.heap.size 27 (zeroP 0) none 0 0 none 0 0 p C nc kc S ns ks rfl rfl (Blk.new w1 27 (pkVs (zeroP 0) none 0 0 none 0 0)) (by kernel_rfl) ?_; intro V bV BV)
    have hz1 : Below w1.heap.size w1 V := But.below ((Below.refl _ _).alloc (Nat.le_refl _) _) BV (fun i e => by omega) (by simp)
    have HZ := hide (HZ.out.keep hz1)
    have BW := hide (BW.out.trans (hz1.mono (by have := BW.out.size; have := Hg.out; omega)))
    have hM := HM.out.keep hz1
    have PC := check_any p C nc kc S ns ks V hM hS
    have HM := hide hM
    obtain ⟨gp, hgp⟩ : ∃ gp, w1.heap.size = gp := ⟨_, rfl⟩
    rw [hgp] at bV ⊢
    have HP := hide bV
    have hrp : ¬ gr = gp := by omega
    clear hz1 bV BV hM hgp
    go_upto_region 3 with (refine wpList_loadPg (by rfl) 27 (.tmp 4) rfl gp 27 p C nc kc S ns ks rfl HP.out Try.underlying27 rfl (by kernel_rfl) ?_)
    refine PC.mono ?_
    rintro e w2 ⟨rfl, b2⟩
    have HZ := hide (HZ.out.keep b2)
    have HP := hide (HP.out.keep b2)
    have HM := hide (HM.out.keep b2)
    have BW := hide (BW.out.trans (b2.mono (by have := BW.out.size; have := Hg.out; omega)))
    clear b2 PC
    by_cases hm : mayP p = true
    · rw [if_pos hm]
      have h0 : O = some p := by rw [HO2.out, if_pos hm]
      have H0 := hide h0
      clear h0 hm
      go_upto_region 4 with fail
      refine wp_region_lit ?_
      refine wpList_loadP rfl 27 (.tmp 4) rfl gp 27 p C nc kc S ns ks rfl HP.out Try.underlying27 rfl (by kernel_rfl) ?_
      refine wpList_storeQ rfl 27 (.tmp 2) (.tmp 19) rfl gr 27 (zeroP 0) none 0 0 none 0 0 p C nc kc S ns ks rfl rfl HZ.out (by kernel_rfl) ?_
      intro V2 bV2 BV2
      go_wp2_with fail
      refine bodyPost_ret (results_cell_tmp rfl rfl bV2 Try.underlying27 rfl (by kernel_rfl)) rfl ?_
      rw [H0.out]
      obtain ⟨m1, m2, m3, m4, m5, m6⟩ := HM.out
      exact ⟨C, nc, kc, S, ns, ks, rfl, HN.out.1, HN.out.2, ⟨m1, m2, m3.but BV2 HC.out, m4, m5, m6.but BV2 HSS.out⟩, by rw [Hg.out]; exact But.below BW.out BV2 (fun i e => by omega) (by have := BW.out.size; have := Hg.out; omega)⟩
    · rw [if_neg hm]
      have h0 : O = none := by rw [HO2.out, if_neg hm]
      have H0 := hide h0
      clear h0 hm
      go_upto_region 99 with (refine wpList_storeQ rfl 27 (.tmp 2) (.tmp 18) rfl gr 27 (zeroP 0) none 0 0 none 0 0 (zeroP 0) none 0 0 none 0 0 rfl rfl HZ.out (by kernel_rfl) ?_; intro V2 bV2 BV2)
      refine bodyPost_ret (results_cell_tmp rfl rfl bV2 Try.underlying27 rfl (by kernel_rfl)) rfl ?_
      rw [H0.out]
      exact ⟨rfl, by rw [Hg.out]; exact But.below BW.out BV2 (fun i e => by omega) (by have := BW.out.size; have := Hg.out; omega)⟩

end Go.Proofs.Ytjaaeiemgojnbaa
