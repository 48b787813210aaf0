/-
  What is proved here: what the document's own 'Bytes' of layer 10 returns for a packet that may be. Conditions: strings and lists of at most 65535.
-/
import Derived.Test.YtdlhcecmodefkaaPk7
import Derived.Test.YtdlhcecmodefkaaPk1
import Derived.Test.YtdlhcecmodefkaaVt3
namespace Go.Proofs.Ytdlhcecmodefkaa
set_option linter.unusedVariables false
set_option linter.unusedSimpArgs false
open Go.RowKit

theorem qos_ok {p : Pk} (hu : p = usedP p) (hok : okP p = true) : 0 ≤ p.qos ∧ p.qos ≤ 2 := by
  have hq := congrArg Pk.qos hu
  unfold okP at hok
  by_cases h1 : p.ty = 1
  · rw [if_pos h1] at hok
    unfold conB at hok
    unfold usedP at hq
    rw [if_pos h1] at hq
    cases hw : p.hasWill with
    | false =>
      rw [hw] at hq
      simp at hq
      omega
    | true =>
      simp only [hw, Bool.not_true, Bool.false_or, Bool.and_eq_true, decide_eq_true_eq] at hok
      exact ⟨hok.2.1.2, hok.2.2⟩
  · by_cases h3 : p.ty = 3
    · rw [if_neg (by omega), if_neg (by omega), if_pos h3] at hok
      unfold pubB at hok
      simp only [Bool.and_eq_true, decide_eq_true_eq] at hok
      exact ⟨hok.1.1.2, hok.1.2⟩
    · have h0 : (usedP p).qos = 0 := by
        unfold usedP
        rw [if_neg h1]
        split
        · rfl
        · repeat' split
          all_goals first
            | rfl
            | (exfalso; omega)
      omega

set_option maxRecDepth 100000 in
set_option maxHeartbeats 8000000 in
theorem rBytes10_any (p : Pk) (C : Option Addr) (nc kc : Nat) (S : Option Addr) (ns ks : Nat) (w : World) (hM : PkM w p C nc kc S ns ks) (hs : PkS p) (hm : mayP p = true) : Calls Try.prog 15 #[pkA p C nc kc S ns ks] w (RetSl (layP p).length (bv (layP p)) w) := by
  obtain ⟨hr, hu, hok, hlen⟩ := mayP_parts hm
  obtain ⟨hfirst, hfl16⟩ := lay_first hm
  have hq := qos_ok hu hok
  have PB := hide (fun (W : World) (hb : Below w.heap.size w W) => body_any p C nc kc S ns ks W (hM.keep hb) hs hr.1 hr.2 hu hok)
  have PF := hide (fun (W : World) => flags_any p C nc kc S ns ks W hq.1 (by omega))
  obtain ⟨t, ht⟩ : ∃ t : Nat, p.ty = (t : Int) := ⟨p.ty.toNat, by omega⟩
  obtain ⟨L, hL⟩ : ∃ L, (bodyP p).length = L := ⟨_, rfl⟩
  obtain ⟨F, hF⟩ : ∃ F, flagsP p = F := ⟨_, rfl⟩
  obtain ⟨BL, hBL⟩ : ∃ BL, bodyP p = BL := ⟨_, rfl⟩
  have hlay : layP p = UInt8.ofNat (16 * t + F) :: (dg L ++ BL) := by unfold layP; rw [hL, ht, Int.toNat_natCast, hF, hBL]
  have hll : (layP p).length = 1 + dgL L + L := by rw [lay_len, hL, dg_length _ (by omega)]
  obtain ⟨M, hM2⟩ : ∃ M, 16 * t + F = M := ⟨_, rfl⟩
  rw [hM2] at hlay
  obtain ⟨XS, hXS⟩ : ∃ XS, layP p = XS := ⟨_, rfl⟩
  rw [hXS] at hlay
  rw [hll, hXS]
  have HX := hide hlay
  rw [hL, hBL] at PB
  rw [hF] at PF hfl16
  rw [hL] at hlen
  have ht14 : t ≤ 14 := by omega
  have Ht := hide ht
  clear hM hs hm hr hu hok hq hfirst hL hF hBL hlay hll ht hXS
  go_enter Try.func15, Try.ntmps15
  simp only [pkA]
  go_upto_region 1 with fail
  generalize hW : w.alloc _ = W
  obtain ⟨g, hg, hB, bW, -⟩ := boxedP (p := p) hW
  have bw : Below w.heap.size w W := by rw [hg]; exact bW
  have hgw : w.heap.size ≤ g := by omega
  rw [hg]
  have HB := hide hB
  have BW := hide bw
  have PB := PB.out W bw
  clear hW hg hB bW bw
  refine wp_region_lit ?_
  refine wpList_loadP rfl 27 (.tmp 1) rfl g 27 p C nc kc S ns ks rfl HB.out Try.underlying27 rfl (by kernel_rfl) ?_
  go_wp2_with fail
  refine PB.mono ?_
  rintro e w1 ⟨D, kd, rfl, hkd, hD, b1⟩
  have HB := hide (HB.out.keep b1)
  have BW := hide (below_on BW.out b1)
  have HD := hide hD
  clear b1 PB hD
  have c0 := (Blk.p18 HB.out).1
  rw [Ht.out] at c0
  have hM256 : M < 256 := by omega
  have v1 : IntKind.i64.wrap (16 * (t : Int)) = 16 * (t : Int) := by rw [IntKind.wrap_i64]; omega
  have v2 : IntKind.i64.wrap (16 * (t : Int) + (F : Int)) = (M : Int) := by rw [IntKind.wrap_i64]; omega
  have v3 : IntKind.u8.wrap (M : Int) = (M : Int) := by rw [IntKind.wrap_u8]; omega
  have hbz : bv [UInt8.ofNat M] = [.int .u8 (M : Int)] := by rw [bv_cons, u8cell hM256]; rfl
  clear hM2
  go_upto_region 2 with fail
  refine wp_region_held_drew (S := fun Z => Z.cell? ⟨g, 0, none⟩ = some (.int .i64 (t : Int)) ∧ Hid (Blk Z g 27 (pkVs p C nc kc S ns ks))) (by kernel_rfl) ?_ (fun hHeld => ?_)
  · exact ⟨c0, hide (show Blk w1.drew g _ _ from HB.out)⟩
  refine wpAnyH_take (i := 0) (oi := { dst := some 7, op := _, type := _, pos := _, after := _, guard := _ }) (v := ?v1x1) rfl (by kernel_rfl) (by kernel_rfl) (by kernel_rfl) (fun _ _ _ h => h) (Or.inl ⟨by rfl, ?hy1x1⟩) hHeld ?rest1x1
  case hy1x1 => (intro w hSw; go_simp <;> with_reducible rfl)
  try simp only [Act.put, List.setIfInBounds_toArray, List.set_cons_zero, List.set_cons_succ]
  refine wpAnyH_take (i := 1) (oi := { dst := some 8, op := _, type := _, pos := _, after := _, guard := _ }) (v := ?v1x2) rfl (by kernel_rfl) (by kernel_rfl) (by kernel_rfl) (fun _ _ _ h => h) (Or.inl ⟨by rfl, ?hy1x2⟩) hHeld ?rest1x2
  case hy1x2 => (intro w hSw; go_simp <;> with_reducible rfl)
  try simp only [Act.put, List.setIfInBounds_toArray, List.set_cons_zero, List.set_cons_succ]
  refine wpAnyH_take (i := 2) (oi := { dst := some 9, op := _, type := _, pos := _, after := _, guard := _ }) (v := ?v1x3) rfl (by kernel_rfl) (by kernel_rfl) (by kernel_rfl) (fun _ _ _ h => h) (Or.inl ⟨by rfl, ?hy1x3⟩) hHeld ?rest1x3
  case hy1x3 => (intro w hSw; go_simp <;> with_reducible rfl)
  try simp only [Act.put, List.setIfInBounds_toArray, List.set_cons_zero, List.set_cons_succ]
  refine wpAnyH_take (i := 3) (oi := { dst := some 10, op := _, type := _, pos := _, after := _, guard := _ }) (v := ?v1x4) rfl (by kernel_rfl) (by kernel_rfl) (by kernel_rfl) (fun _ _ _ h => h) (Or.inl ⟨by rfl, ?hy1x4⟩) hHeld ?rest1x4
  case hy1x4 => (intro w hSw; refine exec_loadP 27 (.tmp 1) ?_ g 27 p C nc kc S ns ks ?_ hSw.2.out Try.underlying27 ?_ ?_; rfl; rfl; rfl; kernel_rfl)
  try simp only [Act.put, List.setIfInBounds_toArray, List.set_cons_zero, List.set_cons_succ]
  refine wpAnyH_ready (rs := [4]) (by kernel_rfl) (by simp) (AllReadyH.cons (o := { dst := some 11, op := _, type := _, pos := _, after := _, guard := _ }) rfl (fun K hK => ?_) AllReadyH.nil)
  go_simp
  refine (PF.out _).mono ?_
  rintro e w5 ⟨rfl, b5⟩
  have BW5 := hide (below_on BW.out.drew b5)
  have HB5 := hide (Blk.keep (w := w1.drew) (show Blk w1.drew g 27 (pkVs p C nc kc S ns ks) from HB.out) b5)
  have HD5 := hide (Rd.keep (w := w1.drew) (show Rd w1.drew D L (bv BL) from HD.out) b5)
  have c5 := (Blk.p18 HB5.out).1
  rw [Ht.out] at c5
  clear b5
  go_wp2_with fail
  refine hK.out _ _ ?_ (fun hHeld => ?_)
  · exact ⟨c5, HB5⟩
  clear hK K
  try simp only [Act.put, List.setIfInBounds_toArray, List.set_cons_zero, List.set_cons_succ]
  refine wpAnyH_take (i := 5) (oi := { dst := some 12, op := _, type := _, pos := _, after := _, guard := _ }) (v := ?v1x6) rfl (by kernel_rfl) (by kernel_rfl) (by kernel_rfl) (fun _ _ _ h => h) (Or.inl ⟨by rfl, ?hy1x6⟩) hHeld ?rest1x6
  case hy1x6 => (intro w hSw; go_simp <;> with_reducible rfl)
  try simp only [Act.put, List.setIfInBounds_toArray, List.set_cons_zero, List.set_cons_succ]
  refine wpAnyH_take (i := 6) (oi := { dst := some 13, op := _, type := _, pos := _, after := _, guard := _ }) (v := ?v1x7) rfl (by kernel_rfl) (by kernel_rfl) (by kernel_rfl) (fun _ _ _ h => h) (Or.inl ⟨by rfl, ?hy1x7⟩) hHeld ?rest1x7
  case hy1x7 => (intro w hSw; go_simp <;> with_reducible rfl)
  try simp only [Act.put, List.setIfInBounds_toArray, List.set_cons_zero, List.set_cons_succ]
  refine wpAnyH_ready (rs := [7]) (by kernel_rfl) (by simp) (AllReadyH.cons (o := { dst := some 14, op := _, type := _, pos := _, after := _, guard := _ }) rfl (fun K hK => ?_) AllReadyH.nil)
  go_simp
  have hal := (Below.refl w5.heap.size w5).alloc (Nat.le_refl _) (.cells (arr [Value.int .u8 (M : Int)]) 5)
  go_wp2_with fail
  refine hK.out _ _ ?_ (fun hHeld => ?_)
  · exact ⟨(hal.cell (p := ⟨g, 0, none⟩) HB5.out.lt).trans c5, hide (HB5.out.keep hal)⟩
  clear hK K
  try simp only [Act.put, List.setIfInBounds_toArray, List.set_cons_zero, List.set_cons_succ]
  refine wpAnyH_take (i := 8) (oi := { dst := some 4, op := _, type := _, pos := _, after := _, guard := _ }) (v := ?v1x9) rfl (by kernel_rfl) (by kernel_rfl) (by kernel_rfl) (fun _ _ _ h => h) (Or.inl ⟨by rfl, ?hy1x9⟩) hHeld ?rest1x9
  case hy1x9 => (intro w hSw; go_simp <;> with_reducible rfl)
  try simp only [Act.put, List.setIfInBounds_toArray, List.set_cons_zero, List.set_cons_succ]
  refine wpAnyH_done (by kernel_rfl) ?_ _
  clear hHeld c0 c5 v1 v2 v3 PF HB HB5 HD BW
  have hown := (Blk.new w5 5 [Value.int .u8 (M : Int)]).own BW5.out.size 1 rfl (by decide)
  go_upto_region 3 with fail
  generalize hV : w5.alloc _ = V
  have hV' : w5.alloc (.cells (arr [Value.int .u8 (M : Int)]) 5) = V := hV
  rw [hV'] at hal hown
  rw [← hbz] at hown
  have HO := hide hown
  have BWV := hide (below_on BW5.out hal)
  have HDV := hide (HD5.out.keep hal)
  obtain ⟨z, hz⟩ : ∃ z, w5.heap.size = z := ⟨_, rfl⟩
  rw [hz] at HO ⊢
  have hDz : 0 < L → Off (fun i => ∃ o, some (⟨z, 0, none⟩ : Addr) = some ⟨i, o, none⟩) D := fun hL b o e ⟨o', e'⟩ => by
    obtain ⟨b', o'', e2, hl, -⟩ := HD5.out.at_ (k := 0) hL
    rw [e] at e2
    injection e2 with e2
    injection e2 with e3
    injection e' with e'
    injection e' with e4
    omega
  have hzb : w.heap.size ≤ z := by rw [← hz]; exact BW5.out.size
  clear hV hV' hal hown BW5 HD5 hz hbz hM256
  have PP := rvPut_any L hlen V
  obtain ⟨dl, hdl⟩ : ∃ dl, dgL L = dl := ⟨_, rfl⟩
  have hd4 := dgL_le L
  rw [hdl] at PP hd4 ⊢
  have HDl := hide hdl
  clear hdl
  go_wp2_with fail
  refine PP.mono ?_
  rintro e w6 ⟨E, ke, rfl, hke, hE, b6⟩
  have HO := hide (own_keep HO.out b6)
  have BW6 := hide (below_on BWV.out b6)
  have HD6 := hide (HDV.out.keep b6)
  have hb := BW6.out.size
  clear b6 PP BWV HDV
  go_wp2_with (first
    | (at_builtin; refine wpList_app2 rfl (.tmp 15) (.tmp 18) 31 rfl 5 _ _ Try.underlying31 u8_info rfl w.heap.size (some ⟨z, 0, none⟩) 1 1 (bv [UInt8.ofNat M]) rfl HO.out E dl ke (bv (dg L)) rfl hE (bv_one _) (by unfold maxLen; omega) (by omega) hb ?_; intro A7 k7 w7 o7 b7 h7; rw [← bv_append] at o7; have HD7 := hide (show Rd w7 D L (bv BL) from ⟨HD6.out.1, fun hn => (HD6.out.but b7 (hDz hn)).2 hn⟩); have bw7 : Below w.heap.size w w7 := But.below BW6.out b7 (fun i ⟨o, e⟩ => by injection e with e; injection e with e1; omega) hb; have hb7 := bw7.size)
    | (at_builtin; refine wpList_appN rfl (.tmp 20) (.tmp 21) 31 rfl 5 _ _ Try.underlying31 u8_info rfl w.heap.size A7 (1 + dl) k7 _ rfl o7 D L kd (bv BL) rfl HD7.out (bv_one _) (1 + dl + L) rfl (by unfold maxLen; omega) (by omega) hb7 ?_; intro A8 k8 w8 o8 b8; rw [← bv_append] at o8))
  go_ret
  rw [HDl.out]
  refine ⟨A8, k8, rfl, own_cap o8, ?_, bw7.trans b8⟩
  rw [HX.out]
  have := own_rd o8
  simpa using this

end Go.Proofs.Ytdlhcecmodefkaa
