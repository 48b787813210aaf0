/-
  What is proved here: the law PacketAlone returns true for every packet and every slice of bytes that come in, and writes nothing that was there. No condition of its own.
-/
import Derived.Test.YtjaaeiemgojnbaaAwake10
import Derived.Test.YtjaaeiemgojnbaaLay10
namespace Go.Proofs.Ytjaaeiemgojnbaa
set_option linter.unusedVariables false
set_option linter.unusedSimpArgs false
open Go.RowKit

set_option maxRecDepth 100000 in
set_option maxHeartbeats 4000000 in
theorem alone10_walk (p : Pk) (C : Option Addr) (nc kc : Nat) (S : Option Addr) (ns ks : Nat) (A : Option Addr) (m k : Nat) (ys : List UInt8) (w : World) (hM : PkM w p C nc kc S ns ks) (hL : PkL p) (hA : Rd w A m (bv ys)) (hk : m ≤ k) : Calls Try.prog 7 #[pkA p C nc kc S ns ks, .slice A m k] w fun e w' => e = .returned (.bool true) ∧ Below w.heap.size w w' := by
  have PS := fun W hM => small_any p C nc kc S ns ks W hM hL
  have HM := hide hM
  have HA := hide hA
  have hym : ys.length = m := by rw [← bv_length]; exact hA.1
  have AW := awake_any
  clear hM hL hA
  simp only [pkA] at PS ⊢
  go_enter Try.func7, Try.ntmps7
  go_upto_region 1 with fail
  generalize hW : w.alloc _ = W
  obtain ⟨g, hg, hB, bW, -⟩ := boxedP (p := p) hW
  have bw : Below w.heap.size w W := by rw [hg]; exact bW
  rw [hg]
  have HB := hide hB
  have BW := hide bw
  have HM := hide (HM.out.keep bw)
  have PS := PS W HM.out
  clear hW hg hB bW bw
  refine wp_region_lit ?_
  refine wpList_loadP rfl 27 (.tmp 2) rfl g 27 p C nc kc S ns ks rfl HB.out Try.underlying27 rfl (by kernel_rfl) ?_
  go_wp2_with fail
  refine PS.mono ?_
  rintro e w1 ⟨rfl, b1⟩
  have HB := hide (HB.out.keep b1)
  have BW := hide (below_on BW.out b1)
  have HM := hide (HM.out.keep b1)
  clear b1 PS
  by_cases hs : smallB p = true
  case neg =>
    rw [Bool.not_eq_true] at hs
    rw [hs]
    clear hs hym
    go_wp2_with fail
    go_ret
    exact ⟨rfl, BW.out⟩
  case pos =>
  rw [hs]
  by_cases h0 : m = 0
  · subst h0
    clear hs hym
    go_wp2_with fail
    go_ret
    exact ⟨rfl, BW.out⟩
  have q0 : ((m : Int) == 0) = false := by simp; omega
  by_cases h3 : (300 : Int) < (m : Int)
  · clear hs hym
    go_wp2_with fail
    go_ret
    exact ⟨rfl, BW.out⟩
  have PB := bytes_any p C nc kc S ns ks w1 HM.out (smallB_short hs)
  unfold ByPost at PB
  have HLay := hide (fun hm => small_lay hs hm)
  have HYm := hide hym
  clear hs hym
  go_upto_region 3 with fail
  refine wp_region_lit ?_
  refine wpList_loadP rfl 27 (.tmp 2) rfl g 27 p C nc kc S ns ks rfl HB.out Try.underlying27 rfl (by kernel_rfl) ?_
  go_wp2_with fail
  refine PB.mono ?_
  clear PB
  by_cases hm : mayP p = true
  case neg =>
    simp only [if_neg hm]
    rintro e w2 ⟨rfl, b2⟩
    have BW := hide (below_on BW.out b2)
    clear b2 hm HLay
    go_wp2_with fail
    refine (AW w2).mono ?_
    rintro e w3 ⟨rfl, b3⟩
    have BW := hide (below_on BW.out b3)
    clear b3
    go_wp2_with fail
    go_ret
    exact ⟨rfl, BW.out⟩
  case pos =>
  simp only [if_pos hm]
  rintro e w2 ⟨D, d, rfl, o2, b2⟩
  have hN := HLay.out hm
  have hN2 : 2 ≤ (layP p).length := by
    have hlen := (mayP_parts hm).2.2.2
    have h4 := (dgL_le (bodyP p).length).1
    rw [lay_len, dg_length _ hlen]
    omega
  have hcap := own_cap o2
  have HD := hide (own_rd o2)
  have HMore := hide (show readP (layP p ++ ys) = none from readP_more hm (fun e => by have := HYm.out; rw [e] at this; simp at this; omega))
  have HLess := hide (fun i (h : i < (layP p).length) => readP_less hm i h)
  have PN : ∀ (A : Option Addr) (n k : Nat) (zs : List UInt8) (W : World), readP zs = none → Rd W A n (bv zs) → zs.length = n → n ≤ k → n ≤ 65535 → Calls Try.prog 16 #[.slice A n k] W fun e w' => e = .returned (.tuple #[pkA (zeroP 0) none 0 0 none 0 0, .int .i64 100]) ∧ Below W.heap.size W w' := fun A n k zs W hr hR hx hk h65 => by
    have := parse_any A n k zs W hR hx hk h65
    rw [hr] at this
    exact this
  obtain ⟨xs, hxs⟩ : ∃ xs, layP p = xs := ⟨_, rfl⟩
  rw [hxs] at hN hN2 hcap HD HMore HLess ⊢
  obtain ⟨N, hxN⟩ : ∃ N, xs.length = N := ⟨_, rfl⟩
  rw [hxN] at hN hN2 hcap HD HLess ⊢
  have HXN := hide hxN
  have BW := hide (below_on BW.out b2)
  have HA := hide (HA.out.keep BW.out)
  clear b2 o2 HLay hm hxs hxN HB HM
  go_wp2_with (first
    | (at_builtin; refine wpList_app rfl (.tmp 42) (.tmp 43) 31 rfl 5 _ _ Try.underlying31 u8_info rfl w2.heap.size (some ⟨w2.heap.size, 0, none⟩) 0 0 [] rfl ((Blk.new w2 5 []).own (Nat.le_refl _) 0 rfl (by decide)) D N d (bv xs) rfl (HD.out.keep ((Below.refl _ _).alloc (Nat.le_refl _) _)) (bv_one _) (by unfold maxLen; omega) (by omega) (by simp) ?_; intro A1 d1 w3 o1 g1 b3; rw [Nat.zero_add, List.nil_append] at o1; have hb3 := ((Below.refl w2.heap.size w2).alloc (Nat.le_refl _) (.cells #[] 5)).trans b3)
    | (at_builtin; refine wpList_app rfl (.tmp 44) (.tmp 45) 31 rfl 5 _ _ Try.underlying31 u8_info rfl w2.heap.size A1 N d1 (bv xs) rfl o1 A m k (bv ys) rfl (HA.out.keep hb3) (bv_one _) (by unfold maxLen; omega) (by omega) hb3.size ?_; intro A2 d2 w4 o2 g2 b4; rw [← bv_append] at o2; have hb4 := hb3.trans b4))
  refine (PN A2 (N + m) d2 (xs ++ ys) w4 HMore.out (own_rd o2) (by rw [List.length_append, HXN.out, HYm.out]) (own_cap o2) (by omega)).mono ?_
  rintro e w5 ⟨rfl, b5⟩
  have BW5 := hide (below_on (below_on BW.out hb4) b5)
  have HD5 := hide (HD.out.keep (below_on hb4 b5))
  have hw5 : w2.heap.size ≤ w5.heap.size := (below_on hb4 b5).size
  clear b5 hb4 b4 b3 o1 o2 g1 g2 hb3 HA BW HMore
  go_upto_region 9 with (refine wpList_storeQ rfl 27 (.tmp 7) (.tmp 48) rfl w5.heap.size 27 (zeroP 0) none 0 0 none 0 0 (zeroP 0) none 0 0 none 0 0 rfl rfl (Blk.new w5 27 (pkVs (zeroP 0) none 0 0 none 0 0)) (by kernel_rfl) ?_; intro V bV BV)
  have bW : Below w5.heap.size w5 V := But.below ((Below.refl _ _).alloc (Nat.le_refl _) _) BV (fun i e => by omega) (by simp)
  have BV5 := hide (below_on BW5.out bW)
  have HDV := hide (HD5.out.keep bW)
  clear bV BV bW BW5 HD5 hw5
  have hsl := fun (i : Nat) (h : i ≤ d) W => run_slTo (P := Try.prog) 31 5 Try.underlying31 u8_size D N d (i : Int) i rfl h W
  go_wp2_with fail
  go_loopw [9] (fun i wr => ∃ k : Nat, i = .int .i64 (k : Int) ∧ k ≤ N ∧ Below w.heap.size w wr ∧ Rd wr D N (bv xs)) (fun i _ => N - (intOf i).toNat)
  case atStart => exact ⟨0, rfl, by omega, BV5.out, HDV.out⟩
  case round =>
    obtain ⟨j, rfl, hjN, hbr, hRr⟩ := hrel
    have BR := hide hbr
    have HR := hide hRr
    clear hbr hRr
    by_cases hlt : j < N
    · have q1 : (j : Int) < (N : Int) := by omega
      have hjd : j ≤ d := by omega
      have hs := hsl j hjd
      clear hsl
      have P1 := PN D j d (xs.take j) wr (HLess.out j hlt) (HR.out.upto j d (by omega) hcap) (by rw [List.length_take, HXN.out]; omega) hjd (by omega)
      go_wp2_with fail
      refine P1.mono ?_
      rintro e w6 ⟨rfl, b6⟩
      have BR := hide (below_on BR.out b6)
      have HR := hide (HR.out.keep b6)
      clear b6 P1
      go_upto_region 13 with (refine wpList_storeQ rfl 27 (.tmp 10) (.tmp 61) rfl w6.heap.size 27 (zeroP 0) none 0 0 none 0 0 (zeroP 0) none 0 0 none 0 0 rfl rfl (Blk.new w6 27 (pkVs (zeroP 0) none 0 0 none 0 0)) (by kernel_rfl) ?_; intro V2 bV BV)
      have bW : Below w6.heap.size w6 V2 := But.below ((Below.refl _ _).alloc (Nat.le_refl _) _) BV (fun i e => by omega) (by simp)
      have BR := hide (below_on BR.out bW)
      have HR := hide (HR.out.keep bW)
      clear bV BV bW
      go_wp2_with fail
      exact ⟨⟨j + 1, by go_num, by omega, BR.out, HR.out⟩, by simp [intOf]; omega⟩
    · obtain rfl : j = N := by omega
      have q1 : ¬ (j : Int) < (j : Int) := by omega
      clear hsl
      go_wp2_with fail
      refine (AW wr).mono ?_
      rintro e w6 ⟨rfl, b6⟩
      have BR := hide (below_on BR.out b6)
      clear b6
      go_wp2_with fail
      go_ret
      exact ⟨rfl, BR.out⟩

end Go.Proofs.Ytjaaeiemgojnbaa
