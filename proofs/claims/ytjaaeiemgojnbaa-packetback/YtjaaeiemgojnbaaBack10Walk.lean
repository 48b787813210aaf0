/-
  What is proved here: the law PacketBack returns true for every packet that comes in, and writes nothing that was there. No condition of its own.
-/
import Derived.Test.YtjaaeiemgojnbaaAwake10
import Derived.Test.YtjaaeiemgojnbaaLay10
namespace Go.Proofs.Ytjaaeiemgojnbaa
set_option linter.unusedVariables false
set_option linter.unusedSimpArgs false
open Go.RowKit

set_option maxRecDepth 100000 in
set_option maxHeartbeats 4000000 in
theorem back10_walk (p : Pk) (C : Option Addr) (nc kc : Nat) (S : Option Addr) (ns ks : Nat) (w : World) (hM : PkM w p C nc kc S ns ks) (hL : PkL p) : Calls Try.prog 5 #[pkA p C nc kc S ns ks] w fun e w' => e = .returned (.bool true) ∧ Below w.heap.size w w' := by
  have PS := fun W hM => small_any p C nc kc S ns ks W hM hL
  have HM := hide (fun W (hb : Below w.heap.size w W) => hM.keep hb)
  have AW := awake_any
  clear hM hL
  simp only [pkA] at PS ⊢
  go_enter Try.func5, Try.ntmps5
  go_upto_region 1 with fail
  generalize hW : w.alloc _ = W
  obtain ⟨g, hg, hB, bW, -⟩ := boxedP (p := p) hW
  have bw : Below w.heap.size w W := by rw [hg]; exact bW
  rw [hg]
  have HB := hide hB
  have BW := hide bw
  have PS := PS W (HM.out W bw)
  clear hW hg hB bW bw
  refine wp_region_lit ?_
  refine wpList_loadP rfl 27 (.tmp 1) rfl g 27 p C nc kc S ns ks rfl HB.out Try.underlying27 rfl (by kernel_rfl) ?_
  go_wp2_with fail
  refine PS.mono ?_
  rintro e w1 ⟨rfl, b1⟩
  have HB := hide (HB.out.keep b1)
  have BW := hide (below_on BW.out b1)
  clear b1 PS
  by_cases hs : smallB p = true
  case neg =>
    rw [Bool.not_eq_true] at hs
    rw [hs]
    clear hs
    go_wp2_with fail
    go_ret
    exact ⟨rfl, BW.out⟩
  case pos =>
  rw [hs]
  have hsh := smallB_short hs
  have PB := bytes_any p C nc kc S ns ks w1 (HM.out w1 BW.out) hsh
  have PC := fun W hM => check_any p C nc kc S ns ks W hM hsh
  unfold ByPost at PB
  have HLay := hide (fun hm => small_lay hs hm)
  have HSh := hide hsh
  clear hs hsh
  go_upto_region 3 with fail
  refine wp_region_lit ?_
  refine wpList_loadP rfl 27 (.tmp 1) rfl g 27 p C nc kc S ns ks rfl HB.out Try.underlying27 rfl (by kernel_rfl) ?_
  go_wp2_with fail
  refine PB.mono ?_
  clear PB
  by_cases hm : mayP p = true
  case neg =>
    simp only [if_neg hm] at PC ⊢
    rintro e w2 ⟨rfl, b2⟩
    have BW := hide (below_on BW.out b2)
    have HB := hide (HB.out.keep b2)
    clear b2 hm HLay
    go_wp2_with fail
    refine (AW w2).mono ?_
    rintro e w3 ⟨rfl, b3⟩
    have BW := hide (below_on BW.out b3)
    have HB := hide (HB.out.keep b3)
    have PC := PC w3 (HM.out w3 BW.out)
    clear b3
    go_upto_region 6 with (first
      | (refine wpList_loadPg (by rfl) 27 (.tmp 1) rfl g 27 p C nc kc S ns ks rfl HB.out Try.underlying27 rfl (by kernel_rfl) ?_)
      | (go_at_call 11; refine PC.mono ?_; rintro e w4 ⟨rfl, b4⟩))
    go_ret
    exact ⟨rfl, below_on BW.out b4⟩
  case pos =>
  simp only [if_pos hm]
  rintro e w2 ⟨D, d, rfl, o2, b2⟩
  have hN := HLay.out hm
  have hcap := own_cap o2
  have PP := parse_any D _ d (layP p) w2 (own_rd o2) rfl hcap (by omega)
  rw [readP_lay hm] at PP
  have PP : Calls Try.prog 16 #[.slice D (layP p).length d] w2 fun e w' => ∃ C nc kc S ns ks, e = .returned (.tuple #[pkA p C nc kc S ns ks, .int .i64 0]) ∧ NewAt w2 C ∧ NewAt w2 S ∧ PkM w' p C nc kc S ns ks ∧ Below w2.heap.size w2 w' := PP
  generalize (layP p).length = N at *
  have HB := hide (HB.out.keep b2)
  have BW := hide (below_on BW.out b2)
  clear b2 o2 HLay hm PC
  go_wp2_with fail
  refine PP.mono ?_
  rintro e w3 ⟨C2, nc2, kc2, S2, ns2, ks2, rfl, -, -, hM2, b3⟩
  have HB := hide (HB.out.keep b3)
  have BW := hide (below_on BW.out b3)
  have HM2 := hide hM2
  clear b3 hM2 PP
  go_upto_region 7 with (refine wpList_storeQ rfl 27 (.tmp 5) (.tmp 27) rfl w3.heap.size 27 (zeroP 0) none 0 0 none 0 0 p C2 nc2 kc2 S2 ns2 ks2 rfl rfl (Blk.new w3 27 (pkVs (zeroP 0) none 0 0 none 0 0)) (by kernel_rfl) ?_; intro V bV BV)
  have bW : Below w3.heap.size w3 V := But.below ((Below.refl _ _).alloc (Nat.le_refl _) _) BV (fun i e => by omega) (by simp)
  obtain ⟨h, hh⟩ : ∃ h, w3.heap.size = h := ⟨_, rfl⟩
  rw [hh] at bV ⊢
  have HB := hide (HB.out.keep bW)
  have BW := hide (below_on BW.out bW)
  have HM2 := hide (HM2.out.keep bW)
  have HQ := hide bV
  clear bV BV bW hh
  go_wp2_with fail
  refine (AW V).mono ?_
  rintro e w5 ⟨rfl, b5⟩
  have HB := hide (HB.out.keep b5)
  have BW := hide (below_on BW.out b5)
  have HM2 := hide (HM2.out.keep b5)
  have HQ := hide (HQ.out.keep b5)
  have P7 := same_eq p C2 C nc2 kc2 nc kc S2 S ns2 ks2 ns ks w5 HM2.out (HM.out w5 BW.out) HSh.out.2.2.2.2.2.1 HSh.out.2.2.2.2.2.2.1
  clear b5 AW
  go_upto_region 8 with (first
    | (refine wpList_loadPg (by rfl) 27 (.tmp 5) rfl h 27 p C2 nc2 kc2 S2 ns2 ks2 rfl HQ.out Try.underlying27 rfl (by kernel_rfl) ?_)
    | (refine wpList_loadPg (by rfl) 27 (.tmp 1) rfl g 27 p C nc kc S ns ks rfl HB.out Try.underlying27 rfl (by kernel_rfl) ?_)
    | (go_at_call 18; refine P7.mono ?_; rintro e w6 ⟨rfl, b6⟩))
  go_ret
  exact ⟨rfl, below_on BW.out b6⟩

end Go.Proofs.Ytjaaeiemgojnbaa
