/-
  What is proved here: what the document's own Parse of layer 10 returns for bytes of the types 1 to 3. Condition: at most 65535 bytes. ALSO: what the document's own Parse of layer 10 returns for bytes of the type 9. Condition: at most 65535 bytes. ALSO: what the document's own Parse of layer 10 returns for bytes of the types 8, 10. Condition: at most 65535 bytes.
-/
import Derived.Test.YtdlhcecmodefkaaPk13
import Derived.Deep.LoopGhost
namespace Go.Proofs.Ytdlhcecmodefkaa
set_option linter.unusedVariables false
set_option linter.unusedSimpArgs false
open Go.RowKit

theorem conR_short (s : Rdr) : PkS (conR s).1 := by
  have h : ∀ (b : Bool) (s : Rdr), (if b = true then rT s else ([], s)).1.length ≤ 65535 := fun b s => by
    cases b with
    | true => exact (rT_le s).2
    | false => exact Nat.zero_le _
  unfold conR PkS
  exact ⟨h _ _, h _ _, (rT_le _).2, h _ _, h _ _, Nat.zero_le _, Nat.zero_le _, fun s hs => by cases hs⟩

set_option maxRecDepth 100000 in
set_option maxHeartbeats 8000000 in
theorem rparse1 (A : Option Addr) (n k : Nat) (xs : List UInt8) (w : World) (f a b : Nat) (hR : Rd w A n (bv xs)) (hx : xs.length = n) (hk : n ≤ k) (h65 : n ≤ 65535) (h2 : 2 ≤ n) (hf : (xs.headD 0).toNat = f) (hA : atR xs 1 = (a, b, 0)) (ht : f / 16 = 1) :
    Calls Try.prog 17 #[.slice A n k] w (RpPost (readP xs) w) := by
  have HR := hide hR
  have Hx := hide hx
  have Hf := hide hf
  have HA := hide hA
  have hb := atR_putQ xs 1 (by rw [hA])
  rw [hA] at hb
  obtain ⟨j, hj1, hj2, hj3, hbj, -, -⟩ := hb
  simp only at hbj
  have hbn : b ≤ n := by omega
  have hb63 : b ≤ 65535 := by omega
  obtain ⟨CA, hCA⟩ : ∃ CA, cutA A b k = CA := ⟨_, rfl⟩
  have HTL := hide (show ∀ W, Below w.heap.size w W → Rd W CA (n - b) (bv (xs.drop b)) from fun W bb => by rw [← hCA, ← bv_drop]; exact (hR.keep bb).tail b k hbn hk)
  have PA := fun W (hW : Rd W A n (bv xs)) => rvAt_any A n k 1 xs W hW (by unfold maxLen; omega) hx (by omega)
  rw [hA] at PA
  have hsl := fun W => run_slTail (P := Try.prog) 31 5 Try.underlying31 u8_size A n k (b : Int) b rfl (by omega) W
  rw [hCA] at hsl
  obtain ⟨bA, oA, hAe, hbl, hcell⟩ := hR.at_ (k := 0) (by omega)
  have HCL := hide (show ∀ a, CA = some a → a.block < w.heap.size from by rw [← hCA]; exact cutA_loc (fun a e => by rw [hAe] at e; injection e with e; rw [← e]; exact hbl) b k)
  obtain ⟨c, tl, hxc⟩ : ∃ c tl, xs = c :: tl := by cases xs with | nil => simp at hx; omega | cons c tl => exact ⟨c, tl, rfl⟩
  have hcf : c.toNat = f := by rw [← hf, hxc]; rfl
  have HC := hide (show ∀ W, Below w.heap.size w W → W.cell? ⟨bA, oA, none⟩ = some (.int .u8 (f : Int)) from fun W bb => by
    have h0 : w.cell? ⟨bA, oA + 0, none⟩ = some (.int .u8 (c.toNat : Int)) := hcell 0 _ (by rw [hxc]; rfl)
    rw [hcf] at h0
    exact (bb.cell (p := ⟨bA, oA, none⟩) hbl).trans h0)
  have hf255 : f ≤ 255 := by have := c.toNat_lt; omega
  obtain ⟨t, ht16⟩ : ∃ t, f / 16 = t := ⟨_, rfl⟩
  rw [ht16] at ht
  have hq16 : (f : Int) / 16 = (t : Int) := by omega
  have Ht16 := hide ht16
  have Ht := hide ht
  subst hAe
  have qn2 : ¬ (n : Int) < 2 := by omega
  clear hR hx hf hA hj1 hj2 hj3 hbj hCA hcell hxc hcf ht ht16
  go_enter Try.func17, Try.ntmps17
  go_upto_region 1 with fail
  generalize hW : w.alloc _ = W
  obtain ⟨gz, hgz, hBz, bW, hsz⟩ := boxedP (p := zeroP 0) (C := none) (nc := 0) (kc := 0) (S := none) (ns := 0) (ks := 0) hW
  have bw : Below w.heap.size w W := by rw [hgz]; exact bW
  rw [hgz]
  have HZ := hide hBz
  have BW := hide bw
  have Hgz := hide hgz
  have cc := HC.out W bw
  have hzl : gz < W.heap.size := hBz.lt
  clear hW hBz bW bw hsz hgz
  go_upto_region 5 with (refine wpList_storeQ rfl 27 (.tmp 5) (.tmp 21) rfl W.heap.size 27 (zeroP 0) none 0 0 none 0 0 (zeroP (t : Int)) none 0 0 none 0 0 rfl rfl (Blk.new W 27 (pkVs (zeroP 0) none 0 0 none 0 0)) (by kernel_rfl) ?_; intro V1 bV1 BV1)
  have b1 : Below W.heap.size W V1 := But.below ((Below.refl _ _).alloc (Nat.le_refl _) _) BV1 (fun i e => by omega) (by simp)
  obtain ⟨gp, hgp⟩ : ∃ gp, W.heap.size = gp := ⟨_, rfl⟩
  have HP := hide bV1
  rw [hgp] at HP hzl ⊢
  have HZ := hide (HZ.out.keep b1)
  have BW := hide (below_on BW.out b1)
  have hwgp : w.heap.size < gp := by have := Hgz.out; omega
  have hpl := HP.out.lt
  clear bV1 BV1 b1 hgp cc hq16
  have PA := PA V1 (HR.out.keep BW.out)
  go_wp2_with fail
  refine PA.mono ?_
  rintro e V2 ⟨rfl, q, hq⟩
  have b2 : Below V1.heap.size V1 V2 := by rw [hq]; exact below_drewN (Below.refl _ _) q
  have HZ := hide (HZ.out.keep b2)
  have HP := hide (HP.out.keep b2)
  have BW := hide (below_on BW.out b2)
  have hpl := HP.out.lt
  clear PA b2 hq
  go_upto_region 9 with fail
  generalize hV : V2.alloc _ = V
  have hVr : Blk V V2.heap.size 71 [.slice CA (n - b) (k - b), .bool false] := by rw [← hV]; exact Blk.new V2 71 [.slice CA (n - b) (k - b), .bool false]
  have b3 : Below V2.heap.size V2 V := by rw [← hV]; exact (Below.refl _ _).alloc (Nat.le_refl _) _
  obtain ⟨gr, hgr⟩ : ∃ gr, V2.heap.size = gr := ⟨_, rfl⟩
  rw [hgr] at hVr hpl ⊢
  have hld : (xs.drop b).length = n - b := by rw [List.length_drop, Hx.out]
  have BW := hide (below_on BW.out b3)
  have HS := hide (show PsS w.heap.size w V gp gr gz (zeroP (t : Int)) none 0 0 none 0 0 (xs.drop b, false) from ⟨HP.out.keep b3, ⟨CA, k - b, by rw [hld]; exact hVr, by rw [hld]; omega, by rw [hld]; exact HTL.out V BW.out, HCL.out⟩, HZ.out.keep b3, ⟨But.ofBelow BW.out _, KeepB.ofBelow BW.out⟩, by have := Hgz.out; omega⟩)
  have hwgr : w.heap.size ≤ gr := by omega
  have hls : (xs.drop b).length ≤ 65535 := by omega
  obtain ⟨s0, hs0⟩ : ∃ s0 : Rdr, (xs.drop b, false) = s0 := ⟨_, rfl⟩
  have Hs0 := hide hs0
  have hl0 : s0.1.length ≤ 65535 := by rw [← hs0]; exact hls
  rw [hs0] at HS
  obtain ⟨O, hO⟩ : ∃ O, readP xs = O := ⟨_, rfl⟩
  have HO := hide (show (if (bodyR t f s0).2.2 = true ∨ mayP (bodyR t f s0).1 = false ∨ layP (bodyR t f s0).1 ≠ xs then none else some (bodyR t f s0).1) = O from by
    rw [← hO]
    have hn2 : ¬ xs.length < 2 := by have := Hx.out; omega
    unfold readP
    simp only [if_neg hn2, HA.out, Hf.out, Ht16.out, hs0, ne_eq, not_true_eq_false, if_false])
  have HOP := hide (show ∀ e w', RpPost O w e w' → RpPost (readP xs) w e w' from fun e w' h => by rw [hO]; exact h)
  clear HP HZ HA hV hVr b3 hgr hld hls hs0 hO hsl HC Hgz hbl
  have c0 : V.cell? ⟨gp, 0, none⟩ = some (.int .i64 (t : Int)) := HS.out.hp.cell 0
  obtain rfl : t = 1 := Ht.out
  have PC := fun W (hW : RdL w.heap.size W gr s0) => conRead_any gr s0 W hW (by omega)
  unfold CrPost at PC
  obtain ⟨p, hp⟩ : ∃ p, (conR s0).1 = p := ⟨_, rfl⟩
  obtain ⟨s, hs⟩ : ∃ s, (conR s0).2 = s := ⟨_, rfl⟩
  have HPS := hide (show PkS p from by rw [← hp]; exact conR_short s0)
  have HP1 := hide (show p.codes = [] ∧ p.subs = [] from by rw [← hp]; exact ⟨rfl, rfl⟩)
  have HO := hide (show (if s.2 = true ∨ mayP p = false ∨ layP p ≠ xs then none else some p) = O from by have := HO.out; rw [show bodyR 1 f s0 = conR s0 from rfl, hp, hs] at this; exact this)
  rw [hp, hs] at PC
  clear hp hs
  go_upto_region 40 with (first
    | (refine wpList_loadP rfl 27 (.tmp 5) rfl gp 27 (zeroP 1) none 0 0 none 0 0 rfl HS.out.hp Try.underlying27 rfl (by kernel_rfl) ?_)
    | (go_at_call 42; refine (PC _ HS.out.hr).mono ?_; rintro e V3 ⟨rfl, r3, a3⟩; have HS := hide (HS.out.call r3 a3))
    | (refine wpList_storeQ rfl 27 (.tmp 5) (.tmp 42) rfl gp 27 (zeroP 1) none 0 0 none 0 0 p none 0 0 none 0 0 rfl rfl HS.out.hp (by kernel_rfl) ?_; intro V4 bV4 BV4))
  clear PC c0 a3 r3
  have HS0 := hide (HS.out.put bV4 BV4)
  clear HS bV4 BV4
  obtain ⟨C, nc, kc, S, ns, ks, HS, HM, HN, HOF⟩ : ∃ (C : Option Addr) (nc kc : Nat) (S : Option Addr) (ns ks : Nat), Hid (PsS w.heap.size w V4 gp gr gz p C nc kc S ns ks s) ∧ Hid (PkM V4 p C nc kc S ns ks) ∧ Hid (NewAt w C ∧ NewAt w S) ∧ Hid ((0 < nc → Off (fun i => i = gz) C) ∧ (0 < ns → Off (fun i => i = gz) S)) := ⟨none, 0, 0, none, 0, 0, HS0, hide (pkM00 _ p HP1.out.1 HP1.out.2), hide ⟨NewAt.nil _, NewAt.nil _⟩, hide ⟨fun h => by omega, fun h => by omega⟩⟩
  clear HS0
  go_upto_region 40 with fail
  have hwV : Below w.heap.size w V4 := HS.out.aft.below (Below.refl _ _) hwgr (Nat.le_refl _)
  have dX := strOn (HR.out.keep hwV)
  obtain ⟨ys, bd⟩ := s
  obtain ⟨A2, k2, hBr, -⟩ := HS.out.hr
  have hcr0 := hBr.cell 1
  simp only [List.getElem?_cons_zero, List.getElem?_cons_succ] at hcr0
  have hgrl := hBr.lt
  have hPl := HS.out.hp
  clear hBr
  cases bd with
  | true =>
    have hO0 : O = none := by rw [← HO.out, if_pos (Or.inl rfl)]
    have hcr : ∀ w', Below V4.heap.size V4 w' → w'.cell? ⟨gr, 1, none⟩ = some (.bool true) := fun w' h => (h.cell (p := ⟨gr, 1, none⟩) hgrl).trans hcr0
    refine wp_region_held_drew (S := fun w' => Below V4.heap.size V4 w') (by kernel_rfl) ?_ (fun hHeld => ?_)
    · exact (Below.refl _ _).drew
    refine wpAnyH_take (i := 0) (oi := { dst := some 144, op := _, type := _, pos := _, after := _, guard := _ }) (v := ?v1x1) rfl (by kernel_rfl) (by kernel_rfl) (by kernel_rfl) (fun _ _ _ h => h) (Or.inl ⟨by rfl, ?hy1x1⟩) hHeld ?rest1x1
    case hy1x1 => (intro w hSw; go_simp <;> with_reducible rfl)
    try simp only [Act.put, List.setIfInBounds_toArray, List.set_cons_zero, List.set_cons_succ]
    refine wpAnyH_take (i := 1) (oi := { dst := some 145, op := _, type := _, pos := _, after := _, guard := _ }) (v := ?v1x2) rfl (by kernel_rfl) (by kernel_rfl) (by kernel_rfl) (fun _ _ _ h => h) (Or.inl ⟨by rfl, ?hy1x2⟩) hHeld ?rest1x2
    case hy1x2 => (intro w hSw; go_simp <;> with_reducible rfl)
    try simp only [Act.put, List.setIfInBounds_toArray, List.set_cons_zero, List.set_cons_succ]
    refine wpAnyH_take (i := 2) (oi := { dst := some 146, op := _, type := _, pos := _, after := _, guard := _ }) (v := ?v1x3) rfl (by kernel_rfl) (by kernel_rfl) (by kernel_rfl) (fun _ _ _ h => h) (Or.inl ⟨by rfl, ?hy1x3⟩) hHeld ?rest1x3
    case hy1x3 => (intro w hSw; go_simp <;> with_reducible rfl)
    try simp only [Act.put, List.setIfInBounds_toArray, List.set_cons_zero, List.set_cons_succ]
    refine wpAnyH_take (i := 3) (oi := { dst := some 147, op := _, type := _, pos := _, after := _, guard := _ }) (v := ?v1x4) rfl (by kernel_rfl) (by kernel_rfl) (by kernel_rfl) (fun _ _ _ h => h) (Or.inl ⟨by rfl, ?hy1x4⟩) hHeld ?rest1x4
    case hy1x4 => (intro w hSw; go_simp <;> with_reducible rfl)
    try simp only [Act.put, List.setIfInBounds_toArray, List.set_cons_zero, List.set_cons_succ]
    refine wpAnyH_take (i := 4) (oi := { dst := some 148, op := _, type := _, pos := _, after := _, guard := _ }) (v := ?v1x5) rfl (by kernel_rfl) (by kernel_rfl) (by kernel_rfl) (fun _ _ _ h => h) (Or.inl ⟨by rfl, ?hy1x5⟩) hHeld ?rest1x5
    case hy1x5 => (intro w hSw; go_simp <;> with_reducible rfl)
    try simp only [Act.put, List.setIfInBounds_toArray, List.set_cons_zero, List.set_cons_succ]
    refine wpAnyH_take (i := 5) (oi := { dst := some 149, op := _, type := _, pos := _, after := _, guard := _ }) (v := undef) rfl (by kernel_rfl) (by kernel_rfl) (by kernel_rfl) (fun _ _ _ h => h) (Or.inr ⟨by rfl, rfl⟩) hHeld ?_
    try simp only [Act.put, List.setIfInBounds_toArray, List.set_cons_zero, List.set_cons_succ]
    refine wpAnyH_take (i := 6) (oi := { dst := some 150, op := _, type := _, pos := _, after := _, guard := _ }) (v := undef) rfl (by kernel_rfl) (by kernel_rfl) (by kernel_rfl) (fun _ _ _ h => h) (Or.inr ⟨by rfl, rfl⟩) hHeld ?_
    try simp only [Act.put, List.setIfInBounds_toArray, List.set_cons_zero, List.set_cons_succ]
    refine wpAnyH_take (i := 7) (oi := { dst := some 151, op := _, type := _, pos := _, after := _, guard := _ }) (v := undef) rfl (by kernel_rfl) (by kernel_rfl) (by kernel_rfl) (fun _ _ _ h => h) (Or.inr ⟨by rfl, rfl⟩) hHeld ?_
    try simp only [Act.put, List.setIfInBounds_toArray, List.set_cons_zero, List.set_cons_succ]
    refine wpAnyH_take (i := 8) (oi := { dst := some 152, op := _, type := _, pos := _, after := _, guard := _ }) (v := ?v1x9) rfl (by kernel_rfl) (by kernel_rfl) (by kernel_rfl) (fun _ _ _ h => h) (Or.inl ⟨by rfl, ?hy1x9⟩) hHeld ?rest1x9
    case hy1x9 => (intro w hSw; go_simp <;> with_reducible rfl)
    try simp only [Act.put, List.setIfInBounds_toArray, List.set_cons_zero, List.set_cons_succ]
    refine wpAnyH_take (i := 9) (oi := { dst := some 153, op := _, type := _, pos := _, after := _, guard := _ }) (v := ?v1x10) rfl (by kernel_rfl) (by kernel_rfl) (by kernel_rfl) (fun _ _ _ h => h) (Or.inl ⟨by rfl, ?hy1x10⟩) hHeld ?rest1x10
    case hy1x10 => (intro w hSw; go_simp <;> with_reducible rfl)
    try simp only [Act.put, List.setIfInBounds_toArray, List.set_cons_zero, List.set_cons_succ]
    refine wpAnyH_take (i := 10) (oi := { dst := some 154, op := _, type := _, pos := _, after := _, guard := _ }) (v := undef) rfl (by kernel_rfl) (by kernel_rfl) (by kernel_rfl) (fun _ _ _ h => h) (Or.inr ⟨by rfl, rfl⟩) hHeld ?_
    try simp only [Act.put, List.setIfInBounds_toArray, List.set_cons_zero, List.set_cons_succ]
    refine wpAnyH_take (i := 11) (oi := { dst := some 155, op := _, type := _, pos := _, after := _, guard := _ }) (v := undef) rfl (by kernel_rfl) (by kernel_rfl) (by kernel_rfl) (fun _ _ _ h => h) (Or.inr ⟨by rfl, rfl⟩) hHeld ?_
    try simp only [Act.put, List.setIfInBounds_toArray, List.set_cons_zero, List.set_cons_succ]
    refine wpAnyH_take (i := 12) (oi := { dst := some 156, op := _, type := _, pos := _, after := _, guard := _ }) (v := undef) rfl (by kernel_rfl) (by kernel_rfl) (by kernel_rfl) (fun _ _ _ h => h) (Or.inr ⟨by rfl, rfl⟩) hHeld ?_
    try simp only [Act.put, List.setIfInBounds_toArray, List.set_cons_zero, List.set_cons_succ]
    refine wpAnyH_take (i := 13) (oi := { dst := some 157, op := _, type := _, pos := _, after := _, guard := _ }) (v := undef) rfl (by kernel_rfl) (by kernel_rfl) (by kernel_rfl) (fun _ _ _ h => h) (Or.inr ⟨by rfl, rfl⟩) hHeld ?_
    try simp only [Act.put, List.setIfInBounds_toArray, List.set_cons_zero, List.set_cons_succ]
    refine wpAnyH_take (i := 14) (oi := { dst := some 158, op := _, type := _, pos := _, after := _, guard := _ }) (v := undef) rfl (by kernel_rfl) (by kernel_rfl) (by kernel_rfl) (fun _ _ _ h => h) (Or.inr ⟨by rfl, rfl⟩) hHeld ?_
    try simp only [Act.put, List.setIfInBounds_toArray, List.set_cons_zero, List.set_cons_succ]
    refine wpAnyH_take (i := 15) (oi := { dst := some 159, op := _, type := _, pos := _, after := _, guard := _ }) (v := undef) rfl (by kernel_rfl) (by kernel_rfl) (by kernel_rfl) (fun _ _ _ h => h) (Or.inr ⟨by rfl, rfl⟩) hHeld ?_
    try simp only [Act.put, List.setIfInBounds_toArray, List.set_cons_zero, List.set_cons_succ]
    refine wpAnyH_take (i := 16) (oi := { dst := some 160, op := _, type := _, pos := _, after := _, guard := _ }) (v := ?v1x17) rfl (by kernel_rfl) (by kernel_rfl) (by kernel_rfl) (fun _ _ _ h => h) (Or.inl ⟨by rfl, ?hy1x17⟩) hHeld ?rest1x17
    case hy1x17 => (intro w hSw; go_simp <;> with_reducible rfl)
    try simp only [Act.put, List.setIfInBounds_toArray, List.set_cons_zero, List.set_cons_succ]
    refine wpAnyH_done (by kernel_rfl) ?_ _
    clear hcr hcr0 dX
    have HS5 := hide (HS.out.mem hHeld)
    go_upto_region 99 with (refine wpList_storeQ rfl 27 (.tmp 2) (.tmp 161) rfl gz 27 (zeroP 0) none 0 0 none 0 0 (zeroP 0) none 0 0 none 0 0 rfl rfl (HS5.out).hz (by kernel_rfl) ?_; intro V2 bV2 BV2)
    refine bodyPost_ret (results_cell_tmp rfl rfl bV2 Try.underlying27 rfl (by kernel_rfl)) rfl ?_
    refine HOP.out _ _ ?_
    rw [hO0]
    exact ⟨rfl, ((HS5.out).ans BV2).2.below (Below.refl _ _) hwgr (Nat.le_refl _)⟩
  | false =>
    have hcr : ∀ w', Below V4.heap.size V4 w' → w'.cell? ⟨gr, 1, none⟩ = some (.bool false) := fun w' h => (h.cell (p := ⟨gr, 1, none⟩) hgrl).trans hcr0
    have HPB : ∀ w', Below V4.heap.size V4 w' → Blk w' gp 27 (pkVs p C nc kc S ns ks) := fun w' h => hPl.keep h
    have PM := fun W (hb : Below V4.heap.size V4 W) => may_any p C nc kc S ns ks W (HM.out.keep hb) HPS.out
    by_cases hmv : mayP p = true
    case neg =>
      have hmf : mayP p = false := by rw [← Bool.not_eq_true]; exact hmv
      have hO0 : O = none := by rw [← HO.out, if_pos (Or.inr (Or.inl hmf))]
      rw [hmf] at PM
      clear hmv
      refine wp_region_held_drew (S := fun w' => Below V4.heap.size V4 w') (by kernel_rfl) ?_ (fun hHeld => ?_)
      · exact (Below.refl _ _).drew
      refine wpAnyH_take (i := 0) (oi := { dst := some 144, op := _, type := _, pos := _, after := _, guard := _ }) (v := ?v2x1) rfl (by kernel_rfl) (by kernel_rfl) (by kernel_rfl) (fun _ _ _ h => h) (Or.inl ⟨by rfl, ?hy2x1⟩) hHeld ?rest2x1
      case hy2x1 => (intro w hSw; go_simp <;> with_reducible rfl)
      try simp only [Act.put, List.setIfInBounds_toArray, List.set_cons_zero, List.set_cons_succ]
      refine wpAnyH_take (i := 1) (oi := { dst := some 145, op := _, type := _, pos := _, after := _, guard := _ }) (v := ?v2x2) rfl (by kernel_rfl) (by kernel_rfl) (by kernel_rfl) (fun _ _ _ h => h) (Or.inl ⟨by rfl, ?hy2x2⟩) hHeld ?rest2x2
      case hy2x2 => (intro w hSw; go_simp <;> with_reducible rfl)
      try simp only [Act.put, List.setIfInBounds_toArray, List.set_cons_zero, List.set_cons_succ]
      refine wpAnyH_take (i := 2) (oi := { dst := some 146, op := _, type := _, pos := _, after := _, guard := _ }) (v := ?v2x3) rfl (by kernel_rfl) (by kernel_rfl) (by kernel_rfl) (fun _ _ _ h => h) (Or.inl ⟨by rfl, ?hy2x3⟩) hHeld ?rest2x3
      case hy2x3 => (intro w hSw; go_simp <;> with_reducible rfl)
      try simp only [Act.put, List.setIfInBounds_toArray, List.set_cons_zero, List.set_cons_succ]
      refine wpAnyH_take (i := 3) (oi := { dst := some 147, op := _, type := _, pos := _, after := _, guard := _ }) (v := ?v2x4) rfl (by kernel_rfl) (by kernel_rfl) (by kernel_rfl) (fun _ _ _ h => h) (Or.inl ⟨by rfl, ?hy2x4⟩) hHeld ?rest2x4
      case hy2x4 => (intro w hSw; go_simp <;> with_reducible rfl)
      try simp only [Act.put, List.setIfInBounds_toArray, List.set_cons_zero, List.set_cons_succ]
      refine wpAnyH_take (i := 4) (oi := { dst := some 148, op := _, type := _, pos := _, after := _, guard := _ }) (v := ?v2x5) rfl (by kernel_rfl) (by kernel_rfl) (by kernel_rfl) (fun _ _ _ h => h) (Or.inl ⟨by rfl, ?hy2x5⟩) hHeld ?rest2x5
      case hy2x5 => (intro w hSw; go_simp <;> with_reducible rfl)
      try simp only [Act.put, List.setIfInBounds_toArray, List.set_cons_zero, List.set_cons_succ]
      refine wpAnyH_take (i := 5) (oi := { dst := some 149, op := _, type := _, pos := _, after := _, guard := _ }) (v := ?v2x6) rfl (by kernel_rfl) (by kernel_rfl) (by kernel_rfl) (fun _ _ _ h => h) (Or.inl ⟨by rfl, ?hy2x6⟩) hHeld ?rest2x6
      case hy2x6 => (intro w hSw; refine exec_loadP 27 (.tmp 5) ?_ gp 27 p C nc kc S ns ks ?_ (HPB w hSw) Try.underlying27 ?_ ?_; rfl; rfl; rfl; kernel_rfl)
      try simp only [Act.put, List.setIfInBounds_toArray, List.set_cons_zero, List.set_cons_succ]
      refine wpAnyH_ready (rs := [6]) (by kernel_rfl) (by simp) (AllReadyH.cons (o := { dst := some 150, op := _, type := _, pos := _, after := _, guard := _ }) rfl (fun K hK => ?_) AllReadyH.nil)
      go_simp
      refine (PM _ hHeld).mono ?_
      rintro e w6 ⟨rfl, b6⟩
      have s6 := below_on hHeld b6
      go_wp2_with fail
      refine hK.out _ _ ?_ (fun hHeld => ?_)
      · exact s6
      clear hK K
      try simp only [Act.put, List.setIfInBounds_toArray, List.set_cons_zero, List.set_cons_succ]
      refine wpAnyH_take (i := 7) (oi := { dst := some 151, op := _, type := _, pos := _, after := _, guard := _ }) (v := ?v2x8) rfl (by kernel_rfl) (by kernel_rfl) (by kernel_rfl) (fun _ _ _ h => h) (Or.inl ⟨by rfl, ?hy2x8⟩) hHeld ?rest2x8
      case hy2x8 => (intro w hSw; go_simp <;> with_reducible rfl)
      try simp only [Act.put, List.setIfInBounds_toArray, List.set_cons_zero, List.set_cons_succ]
      refine wpAnyH_take (i := 8) (oi := { dst := some 152, op := _, type := _, pos := _, after := _, guard := _ }) (v := ?v2x9) rfl (by kernel_rfl) (by kernel_rfl) (by kernel_rfl) (fun _ _ _ h => h) (Or.inl ⟨by rfl, ?hy2x9⟩) hHeld ?rest2x9
      case hy2x9 => (intro w hSw; go_simp <;> with_reducible rfl)
      try simp only [Act.put, List.setIfInBounds_toArray, List.set_cons_zero, List.set_cons_succ]
      refine wpAnyH_take (i := 9) (oi := { dst := some 153, op := _, type := _, pos := _, after := _, guard := _ }) (v := ?v2x10) rfl (by kernel_rfl) (by kernel_rfl) (by kernel_rfl) (fun _ _ _ h => h) (Or.inl ⟨by rfl, ?hy2x10⟩) hHeld ?rest2x10
      case hy2x10 => (intro w hSw; go_simp <;> with_reducible rfl)
      try simp only [Act.put, List.setIfInBounds_toArray, List.set_cons_zero, List.set_cons_succ]
      refine wpAnyH_take (i := 10) (oi := { dst := some 154, op := _, type := _, pos := _, after := _, guard := _ }) (v := undef) rfl (by kernel_rfl) (by kernel_rfl) (by kernel_rfl) (fun _ _ _ h => h) (Or.inr ⟨by rfl, rfl⟩) hHeld ?_
      try simp only [Act.put, List.setIfInBounds_toArray, List.set_cons_zero, List.set_cons_succ]
      refine wpAnyH_take (i := 11) (oi := { dst := some 155, op := _, type := _, pos := _, after := _, guard := _ }) (v := undef) rfl (by kernel_rfl) (by kernel_rfl) (by kernel_rfl) (fun _ _ _ h => h) (Or.inr ⟨by rfl, rfl⟩) hHeld ?_
      try simp only [Act.put, List.setIfInBounds_toArray, List.set_cons_zero, List.set_cons_succ]
      refine wpAnyH_take (i := 12) (oi := { dst := some 156, op := _, type := _, pos := _, after := _, guard := _ }) (v := undef) rfl (by kernel_rfl) (by kernel_rfl) (by kernel_rfl) (fun _ _ _ h => h) (Or.inr ⟨by rfl, rfl⟩) hHeld ?_
      try simp only [Act.put, List.setIfInBounds_toArray, List.set_cons_zero, List.set_cons_succ]
      refine wpAnyH_take (i := 13) (oi := { dst := some 157, op := _, type := _, pos := _, after := _, guard := _ }) (v := undef) rfl (by kernel_rfl) (by kernel_rfl) (by kernel_rfl) (fun _ _ _ h => h) (Or.inr ⟨by rfl, rfl⟩) hHeld ?_
      try simp only [Act.put, List.setIfInBounds_toArray, List.set_cons_zero, List.set_cons_succ]
      refine wpAnyH_take (i := 14) (oi := { dst := some 158, op := _, type := _, pos := _, after := _, guard := _ }) (v := undef) rfl (by kernel_rfl) (by kernel_rfl) (by kernel_rfl) (fun _ _ _ h => h) (Or.inr ⟨by rfl, rfl⟩) hHeld ?_
      try simp only [Act.put, List.setIfInBounds_toArray, List.set_cons_zero, List.set_cons_succ]
      refine wpAnyH_take (i := 15) (oi := { dst := some 159, op := _, type := _, pos := _, after := _, guard := _ }) (v := undef) rfl (by kernel_rfl) (by kernel_rfl) (by kernel_rfl) (fun _ _ _ h => h) (Or.inr ⟨by rfl, rfl⟩) hHeld ?_
      try simp only [Act.put, List.setIfInBounds_toArray, List.set_cons_zero, List.set_cons_succ]
      refine wpAnyH_take (i := 16) (oi := { dst := some 160, op := _, type := _, pos := _, after := _, guard := _ }) (v := ?v2x17) rfl (by kernel_rfl) (by kernel_rfl) (by kernel_rfl) (fun _ _ _ h => h) (Or.inl ⟨by rfl, ?hy2x17⟩) hHeld ?rest2x17
      case hy2x17 => (intro w hSw; go_simp <;> with_reducible rfl)
      try simp only [Act.put, List.setIfInBounds_toArray, List.set_cons_zero, List.set_cons_succ]
      refine wpAnyH_done (by kernel_rfl) ?_ _
      clear hcr hcr0 dX HPB PM
      have HS5 := hide (HS.out.mem hHeld)
      go_upto_region 99 with (refine wpList_storeQ rfl 27 (.tmp 2) (.tmp 161) rfl gz 27 (zeroP 0) none 0 0 none 0 0 (zeroP 0) none 0 0 none 0 0 rfl rfl (HS5.out).hz (by kernel_rfl) ?_; intro V2 bV2 BV2)
      refine bodyPost_ret (results_cell_tmp rfl rfl bV2 Try.underlying27 rfl (by kernel_rfl)) rfl ?_
      refine HOP.out _ _ ?_
      rw [hO0]
      exact ⟨rfl, ((HS5.out).ans BV2).2.below (Below.refl _ _) hwgr (Nat.le_refl _)⟩
    case pos =>
    have PB := fun W (hb : Below V4.heap.size V4 W) => rBytes10_any p C nc kc S ns ks W (HM.out.keep hb) HPS.out hmv
    rw [hmv] at PM
    by_cases hl : layP p = xs
    case pos =>
      have hO0 : O = some p := by rw [← HO.out, if_neg (by rw [hmv]; simp [hl])]
      rw [hl] at PB
      refine wp_region_held_drew (S := fun w' => Below V4.heap.size V4 w') (by kernel_rfl) ?_ (fun hHeld => ?_)
      · exact (Below.refl _ _).drew
      refine wpAnyH_take (i := 0) (oi := { dst := some 144, op := _, type := _, pos := _, after := _, guard := _ }) (v := ?v3x1) rfl (by kernel_rfl) (by kernel_rfl) (by kernel_rfl) (fun _ _ _ h => h) (Or.inl ⟨by rfl, ?hy3x1⟩) hHeld ?rest3x1
      case hy3x1 => (intro w hSw; go_simp <;> with_reducible rfl)
      try simp only [Act.put, List.setIfInBounds_toArray, List.set_cons_zero, List.set_cons_succ]
      refine wpAnyH_take (i := 1) (oi := { dst := some 145, op := _, type := _, pos := _, after := _, guard := _ }) (v := ?v3x2) rfl (by kernel_rfl) (by kernel_rfl) (by kernel_rfl) (fun _ _ _ h => h) (Or.inl ⟨by rfl, ?hy3x2⟩) hHeld ?rest3x2
      case hy3x2 => (intro w hSw; go_simp <;> with_reducible rfl)
      try simp only [Act.put, List.setIfInBounds_toArray, List.set_cons_zero, List.set_cons_succ]
      refine wpAnyH_take (i := 2) (oi := { dst := some 146, op := _, type := _, pos := _, after := _, guard := _ }) (v := ?v3x3) rfl (by kernel_rfl) (by kernel_rfl) (by kernel_rfl) (fun _ _ _ h => h) (Or.inl ⟨by rfl, ?hy3x3⟩) hHeld ?rest3x3
      case hy3x3 => (intro w hSw; go_simp <;> with_reducible rfl)
      try simp only [Act.put, List.setIfInBounds_toArray, List.set_cons_zero, List.set_cons_succ]
      refine wpAnyH_take (i := 3) (oi := { dst := some 147, op := _, type := _, pos := _, after := _, guard := _ }) (v := ?v3x4) rfl (by kernel_rfl) (by kernel_rfl) (by kernel_rfl) (fun _ _ _ h => h) (Or.inl ⟨by rfl, ?hy3x4⟩) hHeld ?rest3x4
      case hy3x4 => (intro w hSw; go_simp <;> with_reducible rfl)
      try simp only [Act.put, List.setIfInBounds_toArray, List.set_cons_zero, List.set_cons_succ]
      refine wpAnyH_take (i := 4) (oi := { dst := some 148, op := _, type := _, pos := _, after := _, guard := _ }) (v := ?v3x5) rfl (by kernel_rfl) (by kernel_rfl) (by kernel_rfl) (fun _ _ _ h => h) (Or.inl ⟨by rfl, ?hy3x5⟩) hHeld ?rest3x5
      case hy3x5 => (intro w hSw; go_simp <;> with_reducible rfl)
      try simp only [Act.put, List.setIfInBounds_toArray, List.set_cons_zero, List.set_cons_succ]
      refine wpAnyH_take (i := 5) (oi := { dst := some 149, op := _, type := _, pos := _, after := _, guard := _ }) (v := ?v3x6) rfl (by kernel_rfl) (by kernel_rfl) (by kernel_rfl) (fun _ _ _ h => h) (Or.inl ⟨by rfl, ?hy3x6⟩) hHeld ?rest3x6
      case hy3x6 => (intro w hSw; refine exec_loadP 27 (.tmp 5) ?_ gp 27 p C nc kc S ns ks ?_ (HPB w hSw) Try.underlying27 ?_ ?_; rfl; rfl; rfl; kernel_rfl)
      try simp only [Act.put, List.setIfInBounds_toArray, List.set_cons_zero, List.set_cons_succ]
      refine wpAnyH_ready (rs := [6]) (by kernel_rfl) (by simp) (AllReadyH.cons (o := { dst := some 150, op := _, type := _, pos := _, after := _, guard := _ }) rfl (fun K hK => ?_) AllReadyH.nil)
      go_simp
      refine (PM _ hHeld).mono ?_
      rintro e w6 ⟨rfl, b6⟩
      have s6 := below_on hHeld b6
      have dX6 : ∀ w', Below w6.heap.size w6 w' → ∀ c, (convert 31 9 (.slice (some ⟨bA, oA, none⟩) n c)).run Try.prog w' = .ok (.string (str xs)) w' := fun w' h => dX w' (below_on s6 h)
      go_wp2_with fail
      refine hK.out _ _ ?_ (fun hHeld => ?_)
      · exact below_on hHeld b6
      clear hK K
      try simp only [Act.put, List.setIfInBounds_toArray, List.set_cons_zero, List.set_cons_succ]
      refine wpAnyH_strong (S' := fun w' => Below w6.heap.size w6 w') (by intro w' h; exact below_on hHeld h) ?_
      replace hHeld : (fun w' => Below w6.heap.size w6 w') _ := Below.refl _ _
      refine wpAnyH_take (i := 7) (oi := { dst := some 151, op := _, type := _, pos := _, after := _, guard := _ }) (v := ?v3x8) rfl (by kernel_rfl) (by kernel_rfl) (by kernel_rfl) (fun _ _ _ h => h) (Or.inl ⟨by rfl, ?hy3x8⟩) hHeld ?rest3x8
      case hy3x8 => (intro w hSw; go_simp <;> with_reducible rfl)
      try simp only [Act.put, List.setIfInBounds_toArray, List.set_cons_zero, List.set_cons_succ]
      refine wpAnyH_take (i := 8) (oi := { dst := some 152, op := _, type := _, pos := _, after := _, guard := _ }) (v := ?v3x9) rfl (by kernel_rfl) (by kernel_rfl) (by kernel_rfl) (fun _ _ _ h => h) (Or.inl ⟨by rfl, ?hy3x9⟩) hHeld ?rest3x9
      case hy3x9 => (intro w hSw; go_simp <;> with_reducible rfl)
      try simp only [Act.put, List.setIfInBounds_toArray, List.set_cons_zero, List.set_cons_succ]
      refine wpAnyH_take (i := 9) (oi := { dst := some 153, op := _, type := _, pos := _, after := _, guard := _ }) (v := ?v3x10) rfl (by kernel_rfl) (by kernel_rfl) (by kernel_rfl) (fun _ _ _ h => h) (Or.inl ⟨by rfl, ?hy3x10⟩) hHeld ?rest3x10
      case hy3x10 => (intro w hSw; go_simp <;> with_reducible rfl)
      try simp only [Act.put, List.setIfInBounds_toArray, List.set_cons_zero, List.set_cons_succ]
      refine wpAnyH_take (i := 10) (oi := { dst := some 154, op := _, type := _, pos := _, after := _, guard := _ }) (v := ?v3x11) rfl (by kernel_rfl) (by kernel_rfl) (by kernel_rfl) (fun _ _ _ h => h) (Or.inl ⟨by rfl, ?hy3x11⟩) hHeld ?rest3x11
      case hy3x11 => (intro w hSw; refine exec_loadP 27 (.tmp 5) ?_ gp 27 p C nc kc S ns ks ?_ (HPB w (below_on s6 hSw)) Try.underlying27 ?_ ?_; rfl; rfl; rfl; kernel_rfl)
      try simp only [Act.put, List.setIfInBounds_toArray, List.set_cons_zero, List.set_cons_succ]
      refine wpAnyH_take (i := 13) (oi := { dst := some 157, op := _, type := _, pos := _, after := _, guard := _ }) (v := ?v3x12) rfl (by kernel_rfl) (by kernel_rfl) (by kernel_rfl) (fun _ _ _ h => h) (Or.inl ⟨by rfl, ?hy3x12⟩) hHeld ?rest3x12
      case hy3x12 => (intro w hSw; go_simp <;> with_reducible rfl)
      try simp only [Act.put, List.setIfInBounds_toArray, List.set_cons_zero, List.set_cons_succ]
      refine wpAnyH_take (i := 14) (oi := { dst := some 158, op := _, type := _, pos := _, after := _, guard := _ }) (v := ?v3x13) rfl (by kernel_rfl) (by kernel_rfl) (by kernel_rfl) (fun _ _ _ h => h) (Or.inl ⟨by rfl, ?hy3x13⟩) hHeld ?rest3x13
      case hy3x13 => (intro w hSw; go_simp <;> with_reducible rfl)
      try simp only [Act.put, List.setIfInBounds_toArray, List.set_cons_zero, List.set_cons_succ]
      refine wpAnyH_ready (rs := [11]) (by kernel_rfl) (by simp) (AllReadyH.cons (o := { dst := some 155, op := _, type := _, pos := _, after := _, guard := _ }) rfl (fun K hK => ?_) AllReadyH.nil)
      go_simp
      refine (PB _ (below_on s6 hHeld)).mono ?_
      rintro e w7 ⟨G, gk, rfl, hgk, r7, b7⟩
      have s7 := below_on s6 (below_on hHeld b7)
      have dG := strOn r7
      have dX7 : ∀ w', Below w7.heap.size w7 w' → ∀ c, (convert 31 9 (.slice (some ⟨bA, oA, none⟩) n c)).run Try.prog w' = .ok (.string (str xs)) w' := fun w' h => dX w' (below_on s7 h)
      clear dX6
      go_wp2_with fail
      refine hK.out _ _ ?_ (fun hHeld => ?_)
      · exact below_on hHeld b7
      clear hK K
      try simp only [Act.put, List.setIfInBounds_toArray, List.set_cons_zero, List.set_cons_succ]
      refine wpAnyH_strong (S' := fun w' => Below w7.heap.size w7 w') (by intro w' h; exact below_on hHeld h) ?_
      replace hHeld : (fun w' => Below w7.heap.size w7 w') _ := Below.refl _ _
      refine wpAnyH_take (i := 12) (oi := { dst := some 156, op := _, type := _, pos := _, after := _, guard := _ }) (v := ?v3x15) rfl (by kernel_rfl) (by kernel_rfl) (by kernel_rfl) (fun _ _ _ h => h) (Or.inl ⟨by rfl, ?hy3x15⟩) hHeld ?rest3x15
      case hy3x15 => (intro w hSw; go_simp <;> with_reducible rfl)
      try simp only [Act.put, List.setIfInBounds_toArray, List.set_cons_zero, List.set_cons_succ]
      refine wpAnyH_take (i := 15) (oi := { dst := some 159, op := _, type := _, pos := _, after := _, guard := _ }) (v := ?v3x16) rfl (by kernel_rfl) (by kernel_rfl) (by kernel_rfl) (fun _ _ _ h => h) (Or.inl ⟨by rfl, ?hy3x16⟩) hHeld ?rest3x16
      case hy3x16 => (intro w hSw; go_simp <;> with_reducible rfl)
      try simp only [Act.put, List.setIfInBounds_toArray, List.set_cons_zero, List.set_cons_succ]
      refine wpAnyH_take (i := 16) (oi := { dst := some 160, op := _, type := _, pos := _, after := _, guard := _ }) (v := ?v3x17) rfl (by kernel_rfl) (by kernel_rfl) (by kernel_rfl) (fun _ _ _ h => h) (Or.inl ⟨by rfl, ?hy3x17⟩) hHeld ?rest3x17
      case hy3x17 => (intro w hSw; go_simp <;> with_reducible rfl)
      try simp only [Act.put, List.setIfInBounds_toArray, List.set_cons_zero, List.set_cons_succ]
      refine wpAnyH_done (by kernel_rfl) ?_ _
      have hbel := below_on s7 hHeld
      clear hcr hcr0 dX HPB PM PB dG dX7
      have HS5 := hide (HS.out.mem hbel)
      have HM5 := hide (HM.out.keep hbel)
      go_upto_region 99 with (first
        | (refine wpList_loadP rfl 27 (.tmp 5) rfl gp 27 p C nc kc S ns ks rfl HS5.out.hp Try.underlying27 rfl (by kernel_rfl) ?_)
        | (refine wpList_storeQ rfl 27 (.tmp 2) (.tmp 162) rfl gz 27 (zeroP 0) none 0 0 none 0 0 p C nc kc S ns ks rfl rfl HS5.out.hz (by kernel_rfl) ?_; intro V2 bV2 BV2))
      refine bodyPost_ret (results_cell_tmp rfl rfl bV2 Try.underlying27 rfl (by kernel_rfl)) rfl ?_
      refine HOP.out _ _ ?_
      rw [hO0]
      exact ⟨C, nc, kc, S, ns, ks, rfl, HN.out.1, HN.out.2, PkM_but HM5.out BV2 HOF.out.1 HOF.out.2, (HS5.out.ans BV2).2.below (Below.refl _ _) hwgr (Nat.le_refl _)⟩
    case neg =>
      have hO0 : O = none := by rw [← HO.out, if_pos (Or.inr (Or.inr hl))]
      have hlb : (layP p == xs) = false := by rw [beq_eq_false_iff_ne]; exact hl
      clear hl
      refine wp_region_held_drew (S := fun w' => Below V4.heap.size V4 w') (by kernel_rfl) ?_ (fun hHeld => ?_)
      · exact (Below.refl _ _).drew
      refine wpAnyH_take (i := 0) (oi := { dst := some 144, op := _, type := _, pos := _, after := _, guard := _ }) (v := ?v4x1) rfl (by kernel_rfl) (by kernel_rfl) (by kernel_rfl) (fun _ _ _ h => h) (Or.inl ⟨by rfl, ?hy4x1⟩) hHeld ?rest4x1
      case hy4x1 => (intro w hSw; go_simp <;> with_reducible rfl)
      try simp only [Act.put, List.setIfInBounds_toArray, List.set_cons_zero, List.set_cons_succ]
      refine wpAnyH_take (i := 1) (oi := { dst := some 145, op := _, type := _, pos := _, after := _, guard := _ }) (v := ?v4x2) rfl (by kernel_rfl) (by kernel_rfl) (by kernel_rfl) (fun _ _ _ h => h) (Or.inl ⟨by rfl, ?hy4x2⟩) hHeld ?rest4x2
      case hy4x2 => (intro w hSw; go_simp <;> with_reducible rfl)
      try simp only [Act.put, List.setIfInBounds_toArray, List.set_cons_zero, List.set_cons_succ]
      refine wpAnyH_take (i := 2) (oi := { dst := some 146, op := _, type := _, pos := _, after := _, guard := _ }) (v := ?v4x3) rfl (by kernel_rfl) (by kernel_rfl) (by kernel_rfl) (fun _ _ _ h => h) (Or.inl ⟨by rfl, ?hy4x3⟩) hHeld ?rest4x3
      case hy4x3 => (intro w hSw; go_simp <;> with_reducible rfl)
      try simp only [Act.put, List.setIfInBounds_toArray, List.set_cons_zero, List.set_cons_succ]
      refine wpAnyH_take (i := 3) (oi := { dst := some 147, op := _, type := _, pos := _, after := _, guard := _ }) (v := ?v4x4) rfl (by kernel_rfl) (by kernel_rfl) (by kernel_rfl) (fun _ _ _ h => h) (Or.inl ⟨by rfl, ?hy4x4⟩) hHeld ?rest4x4
      case hy4x4 => (intro w hSw; go_simp <;> with_reducible rfl)
      try simp only [Act.put, List.setIfInBounds_toArray, List.set_cons_zero, List.set_cons_succ]
      refine wpAnyH_take (i := 4) (oi := { dst := some 148, op := _, type := _, pos := _, after := _, guard := _ }) (v := ?v4x5) rfl (by kernel_rfl) (by kernel_rfl) (by kernel_rfl) (fun _ _ _ h => h) (Or.inl ⟨by rfl, ?hy4x5⟩) hHeld ?rest4x5
      case hy4x5 => (intro w hSw; go_simp <;> with_reducible rfl)
      try simp only [Act.put, List.setIfInBounds_toArray, List.set_cons_zero, List.set_cons_succ]
      refine wpAnyH_take (i := 5) (oi := { dst := some 149, op := _, type := _, pos := _, after := _, guard := _ }) (v := ?v4x6) rfl (by kernel_rfl) (by kernel_rfl) (by kernel_rfl) (fun _ _ _ h => h) (Or.inl ⟨by rfl, ?hy4x6⟩) hHeld ?rest4x6
      case hy4x6 => (intro w hSw; refine exec_loadP 27 (.tmp 5) ?_ gp 27 p C nc kc S ns ks ?_ (HPB w hSw) Try.underlying27 ?_ ?_; rfl; rfl; rfl; kernel_rfl)
      try simp only [Act.put, List.setIfInBounds_toArray, List.set_cons_zero, List.set_cons_succ]
      refine wpAnyH_ready (rs := [6]) (by kernel_rfl) (by simp) (AllReadyH.cons (o := { dst := some 150, op := _, type := _, pos := _, after := _, guard := _ }) rfl (fun K hK => ?_) AllReadyH.nil)
      go_simp
      refine (PM _ hHeld).mono ?_
      rintro e w6 ⟨rfl, b6⟩
      have s6 := below_on hHeld b6
      have dX6 : ∀ w', Below w6.heap.size w6 w' → ∀ c, (convert 31 9 (.slice (some ⟨bA, oA, none⟩) n c)).run Try.prog w' = .ok (.string (str xs)) w' := fun w' h => dX w' (below_on s6 h)
      go_wp2_with fail
      refine hK.out _ _ ?_ (fun hHeld => ?_)
      · exact below_on hHeld b6
      clear hK K
      try simp only [Act.put, List.setIfInBounds_toArray, List.set_cons_zero, List.set_cons_succ]
      refine wpAnyH_strong (S' := fun w' => Below w6.heap.size w6 w') (by intro w' h; exact below_on hHeld h) ?_
      replace hHeld : (fun w' => Below w6.heap.size w6 w') _ := Below.refl _ _
      refine wpAnyH_take (i := 7) (oi := { dst := some 151, op := _, type := _, pos := _, after := _, guard := _ }) (v := ?v4x8) rfl (by kernel_rfl) (by kernel_rfl) (by kernel_rfl) (fun _ _ _ h => h) (Or.inl ⟨by rfl, ?hy4x8⟩) hHeld ?rest4x8
      case hy4x8 => (intro w hSw; go_simp <;> with_reducible rfl)
      try simp only [Act.put, List.setIfInBounds_toArray, List.set_cons_zero, List.set_cons_succ]
      refine wpAnyH_take (i := 8) (oi := { dst := some 152, op := _, type := _, pos := _, after := _, guard := _ }) (v := ?v4x9) rfl (by kernel_rfl) (by kernel_rfl) (by kernel_rfl) (fun _ _ _ h => h) (Or.inl ⟨by rfl, ?hy4x9⟩) hHeld ?rest4x9
      case hy4x9 => (intro w hSw; go_simp <;> with_reducible rfl)
      try simp only [Act.put, List.setIfInBounds_toArray, List.set_cons_zero, List.set_cons_succ]
      refine wpAnyH_take (i := 9) (oi := { dst := some 153, op := _, type := _, pos := _, after := _, guard := _ }) (v := ?v4x10) rfl (by kernel_rfl) (by kernel_rfl) (by kernel_rfl) (fun _ _ _ h => h) (Or.inl ⟨by rfl, ?hy4x10⟩) hHeld ?rest4x10
      case hy4x10 => (intro w hSw; go_simp <;> with_reducible rfl)
      try simp only [Act.put, List.setIfInBounds_toArray, List.set_cons_zero, List.set_cons_succ]
      refine wpAnyH_take (i := 10) (oi := { dst := some 154, op := _, type := _, pos := _, after := _, guard := _ }) (v := ?v4x11) rfl (by kernel_rfl) (by kernel_rfl) (by kernel_rfl) (fun _ _ _ h => h) (Or.inl ⟨by rfl, ?hy4x11⟩) hHeld ?rest4x11
      case hy4x11 => (intro w hSw; refine exec_loadP 27 (.tmp 5) ?_ gp 27 p C nc kc S ns ks ?_ (HPB w (below_on s6 hSw)) Try.underlying27 ?_ ?_; rfl; rfl; rfl; kernel_rfl)
      try simp only [Act.put, List.setIfInBounds_toArray, List.set_cons_zero, List.set_cons_succ]
      refine wpAnyH_take (i := 13) (oi := { dst := some 157, op := _, type := _, pos := _, after := _, guard := _ }) (v := ?v4x12) rfl (by kernel_rfl) (by kernel_rfl) (by kernel_rfl) (fun _ _ _ h => h) (Or.inl ⟨by rfl, ?hy4x12⟩) hHeld ?rest4x12
      case hy4x12 => (intro w hSw; go_simp <;> with_reducible rfl)
      try simp only [Act.put, List.setIfInBounds_toArray, List.set_cons_zero, List.set_cons_succ]
      refine wpAnyH_take (i := 14) (oi := { dst := some 158, op := _, type := _, pos := _, after := _, guard := _ }) (v := ?v4x13) rfl (by kernel_rfl) (by kernel_rfl) (by kernel_rfl) (fun _ _ _ h => h) (Or.inl ⟨by rfl, ?hy4x13⟩) hHeld ?rest4x13
      case hy4x13 => (intro w hSw; go_simp <;> with_reducible rfl)
      try simp only [Act.put, List.setIfInBounds_toArray, List.set_cons_zero, List.set_cons_succ]
      refine wpAnyH_ready (rs := [11]) (by kernel_rfl) (by simp) (AllReadyH.cons (o := { dst := some 155, op := _, type := _, pos := _, after := _, guard := _ }) rfl (fun K hK => ?_) AllReadyH.nil)
      go_simp
      refine (PB _ (below_on s6 hHeld)).mono ?_
      rintro e w7 ⟨G, gk, rfl, hgk, r7, b7⟩
      have s7 := below_on s6 (below_on hHeld b7)
      have dG := strOn r7
      have dX7 : ∀ w', Below w7.heap.size w7 w' → ∀ c, (convert 31 9 (.slice (some ⟨bA, oA, none⟩) n c)).run Try.prog w' = .ok (.string (str xs)) w' := fun w' h => dX w' (below_on s7 h)
      clear dX6
      go_wp2_with fail
      refine hK.out _ _ ?_ (fun hHeld => ?_)
      · exact below_on hHeld b7
      clear hK K
      try simp only [Act.put, List.setIfInBounds_toArray, List.set_cons_zero, List.set_cons_succ]
      refine wpAnyH_strong (S' := fun w' => Below w7.heap.size w7 w') (by intro w' h; exact below_on hHeld h) ?_
      replace hHeld : (fun w' => Below w7.heap.size w7 w') _ := Below.refl _ _
      refine wpAnyH_take (i := 12) (oi := { dst := some 156, op := _, type := _, pos := _, after := _, guard := _ }) (v := ?v4x15) rfl (by kernel_rfl) (by kernel_rfl) (by kernel_rfl) (fun _ _ _ h => h) (Or.inl ⟨by rfl, ?hy4x15⟩) hHeld ?rest4x15
      case hy4x15 => (intro w hSw; go_simp <;> with_reducible rfl)
      try simp only [Act.put, List.setIfInBounds_toArray, List.set_cons_zero, List.set_cons_succ]
      refine wpAnyH_take (i := 15) (oi := { dst := some 159, op := _, type := _, pos := _, after := _, guard := _ }) (v := ?v4x16) rfl (by kernel_rfl) (by kernel_rfl) (by kernel_rfl) (fun _ _ _ h => h) (Or.inl ⟨by rfl, ?hy4x16⟩) hHeld ?rest4x16
      case hy4x16 => (intro w hSw; go_simp <;> with_reducible rfl)
      try simp only [Act.put, List.setIfInBounds_toArray, List.set_cons_zero, List.set_cons_succ]
      refine wpAnyH_take (i := 16) (oi := { dst := some 160, op := _, type := _, pos := _, after := _, guard := _ }) (v := ?v4x17) rfl (by kernel_rfl) (by kernel_rfl) (by kernel_rfl) (fun _ _ _ h => h) (Or.inl ⟨by rfl, ?hy4x17⟩) hHeld ?rest4x17
      case hy4x17 => (intro w hSw; go_simp <;> with_reducible rfl)
      try simp only [Act.put, List.setIfInBounds_toArray, List.set_cons_zero, List.set_cons_succ]
      refine wpAnyH_done (by kernel_rfl) ?_ _
      have hbel := below_on s7 hHeld
      clear hcr hcr0 dX HPB PM PB dG dX7
      have HS5 := hide (HS.out.mem hbel)
      go_upto_region 99 with (refine wpList_storeQ rfl 27 (.tmp 2) (.tmp 161) rfl gz 27 (zeroP 0) none 0 0 none 0 0 (zeroP 0) none 0 0 none 0 0 rfl rfl (HS5.out).hz (by kernel_rfl) ?_; intro V2 bV2 BV2)
      refine bodyPost_ret (results_cell_tmp rfl rfl bV2 Try.underlying27 rfl (by kernel_rfl)) rfl ?_
      refine HOP.out _ _ ?_
      rw [hO0]
      exact ⟨rfl, ((HS5.out).ans BV2).2.below (Below.refl _ _) hwgr (Nat.le_refl _)⟩

set_option maxRecDepth 100000 in
set_option maxHeartbeats 8000000 in
theorem rparse2 (A : Option Addr) (n k : Nat) (xs : List UInt8) (w : World) (f a b : Nat) (hR : Rd w A n (bv xs)) (hx : xs.length = n) (hk : n ≤ k) (h65 : n ≤ 65535) (h2 : 2 ≤ n) (hf : (xs.headD 0).toNat = f) (hA : atR xs 1 = (a, b, 0)) (ht : f / 16 = 2) :
    Calls Try.prog 17 #[.slice A n k] w (RpPost (readP xs) w) := by
  have HR := hide hR
  have Hx := hide hx
  have Hf := hide hf
  have HA := hide hA
  have hb := atR_putQ xs 1 (by rw [hA])
  rw [hA] at hb
  obtain ⟨j, hj1, hj2, hj3, hbj, -, -⟩ := hb
  simp only at hbj
  have hbn : b ≤ n := by omega
  have hb63 : b ≤ 65535 := by omega
  obtain ⟨CA, hCA⟩ : ∃ CA, cutA A b k = CA := ⟨_, rfl⟩
  have HTL := hide (show ∀ W, Below w.heap.size w W → Rd W CA (n - b) (bv (xs.drop b)) from fun W bb => by rw [← hCA, ← bv_drop]; exact (hR.keep bb).tail b k hbn hk)
  have PA := fun W (hW : Rd W A n (bv xs)) => rvAt_any A n k 1 xs W hW (by unfold maxLen; omega) hx (by omega)
  rw [hA] at PA
  have hsl := fun W => run_slTail (P := Try.prog) 31 5 Try.underlying31 u8_size A n k (b : Int) b rfl (by omega) W
  rw [hCA] at hsl
  obtain ⟨bA, oA, hAe, hbl, hcell⟩ := hR.at_ (k := 0) (by omega)
  have HCL := hide (show ∀ a, CA = some a → a.block < w.heap.size from by rw [← hCA]; exact cutA_loc (fun a e => by rw [hAe] at e; injection e with e; rw [← e]; exact hbl) b k)
  obtain ⟨c, tl, hxc⟩ : ∃ c tl, xs = c :: tl := by cases xs with | nil => simp at hx; omega | cons c tl => exact ⟨c, tl, rfl⟩
  have hcf : c.toNat = f := by rw [← hf, hxc]; rfl
  have HC := hide (show ∀ W, Below w.heap.size w W → W.cell? ⟨bA, oA, none⟩ = some (.int .u8 (f : Int)) from fun W bb => by
    have h0 : w.cell? ⟨bA, oA + 0, none⟩ = some (.int .u8 (c.toNat : Int)) := hcell 0 _ (by rw [hxc]; rfl)
    rw [hcf] at h0
    exact (bb.cell (p := ⟨bA, oA, none⟩) hbl).trans h0)
  have hf255 : f ≤ 255 := by have := c.toNat_lt; omega
  obtain ⟨t, ht16⟩ : ∃ t, f / 16 = t := ⟨_, rfl⟩
  rw [ht16] at ht
  have hq16 : (f : Int) / 16 = (t : Int) := by omega
  have Ht16 := hide ht16
  have Ht := hide ht
  subst hAe
  have qn2 : ¬ (n : Int) < 2 := by omega
  clear hR hx hf hA hj1 hj2 hj3 hbj hCA hcell hxc hcf ht ht16
  go_enter Try.func17, Try.ntmps17
  go_upto_region 1 with fail
  generalize hW : w.alloc _ = W
  obtain ⟨gz, hgz, hBz, bW, hsz⟩ := boxedP (p := zeroP 0) (C := none) (nc := 0) (kc := 0) (S := none) (ns := 0) (ks := 0) hW
  have bw : Below w.heap.size w W := by rw [hgz]; exact bW
  rw [hgz]
  have HZ := hide hBz
  have BW := hide bw
  have Hgz := hide hgz
  have cc := HC.out W bw
  have hzl : gz < W.heap.size := hBz.lt
  clear hW hBz bW bw hsz hgz
  go_upto_region 5 with (refine wpList_storeQ rfl 27 (.tmp 5) (.tmp 21) rfl W.heap.size 27 (zeroP 0) none 0 0 none 0 0 (zeroP (t : Int)) none 0 0 none 0 0 rfl rfl (Blk.new W 27 (pkVs (zeroP 0) none 0 0 none 0 0)) (by kernel_rfl) ?_; intro V1 bV1 BV1)
  have b1 : Below W.heap.size W V1 := But.below ((Below.refl _ _).alloc (Nat.le_refl _) _) BV1 (fun i e => by omega) (by simp)
  obtain ⟨gp, hgp⟩ : ∃ gp, W.heap.size = gp := ⟨_, rfl⟩
  have HP := hide bV1
  rw [hgp] at HP hzl ⊢
  have HZ := hide (HZ.out.keep b1)
  have BW := hide (below_on BW.out b1)
  have hwgp : w.heap.size < gp := by have := Hgz.out; omega
  have hpl := HP.out.lt
  clear bV1 BV1 b1 hgp cc hq16
  have PA := PA V1 (HR.out.keep BW.out)
  go_wp2_with fail
  refine PA.mono ?_
  rintro e V2 ⟨rfl, q, hq⟩
  have b2 : Below V1.heap.size V1 V2 := by rw [hq]; exact below_drewN (Below.refl _ _) q
  have HZ := hide (HZ.out.keep b2)
  have HP := hide (HP.out.keep b2)
  have BW := hide (below_on BW.out b2)
  have hpl := HP.out.lt
  clear PA b2 hq
  go_upto_region 9 with fail
  generalize hV : V2.alloc _ = V
  have hVr : Blk V V2.heap.size 71 [.slice CA (n - b) (k - b), .bool false] := by rw [← hV]; exact Blk.new V2 71 [.slice CA (n - b) (k - b), .bool false]
  have b3 : Below V2.heap.size V2 V := by rw [← hV]; exact (Below.refl _ _).alloc (Nat.le_refl _) _
  obtain ⟨gr, hgr⟩ : ∃ gr, V2.heap.size = gr := ⟨_, rfl⟩
  rw [hgr] at hVr hpl ⊢
  have hld : (xs.drop b).length = n - b := by rw [List.length_drop, Hx.out]
  have BW := hide (below_on BW.out b3)
  have HS := hide (show PsS w.heap.size w V gp gr gz (zeroP (t : Int)) none 0 0 none 0 0 (xs.drop b, false) from ⟨HP.out.keep b3, ⟨CA, k - b, by rw [hld]; exact hVr, by rw [hld]; omega, by rw [hld]; exact HTL.out V BW.out, HCL.out⟩, HZ.out.keep b3, ⟨But.ofBelow BW.out _, KeepB.ofBelow BW.out⟩, by have := Hgz.out; omega⟩)
  have hwgr : w.heap.size ≤ gr := by omega
  have hls : (xs.drop b).length ≤ 65535 := by omega
  obtain ⟨s0, hs0⟩ : ∃ s0 : Rdr, (xs.drop b, false) = s0 := ⟨_, rfl⟩
  have Hs0 := hide hs0
  have hl0 : s0.1.length ≤ 65535 := by rw [← hs0]; exact hls
  rw [hs0] at HS
  obtain ⟨O, hO⟩ : ∃ O, readP xs = O := ⟨_, rfl⟩
  have HO := hide (show (if (bodyR t f s0).2.2 = true ∨ mayP (bodyR t f s0).1 = false ∨ layP (bodyR t f s0).1 ≠ xs then none else some (bodyR t f s0).1) = O from by
    rw [← hO]
    have hn2 : ¬ xs.length < 2 := by have := Hx.out; omega
    unfold readP
    simp only [if_neg hn2, HA.out, Hf.out, Ht16.out, hs0, ne_eq, not_true_eq_false, if_false])
  have HOP := hide (show ∀ e w', RpPost O w e w' → RpPost (readP xs) w e w' from fun e w' h => by rw [hO]; exact h)
  clear HP HZ HA hV hVr b3 hgr hld hls hs0 hO hsl HC Hgz hbl
  have c0 : V.cell? ⟨gp, 0, none⟩ = some (.int .i64 (t : Int)) := HS.out.hp.cell 0
  obtain rfl : t = 2 := Ht.out
  have PB1 := hide (fun W s' (hR : RdL w.heap.size W gr s') hl => rdBL_any gr s' W hR hl)
  obtain ⟨x1, hx1⟩ : ∃ x1, (rB s0).1 = x1 := ⟨_, rfl⟩
  obtain ⟨s1, hs1⟩ : ∃ s1, (rB s0).2 = s1 := ⟨_, rfl⟩
  obtain ⟨x2, hx2⟩ : ∃ x2, (rB s1).1 = x2 := ⟨_, rfl⟩
  obtain ⟨s, hs⟩ : ∃ s, (rB s1).2 = s := ⟨_, rfl⟩
  have h255 : x1 ≤ 255 := by rw [← hx1]; exact (rB_lt s0).1
  have hl1 : s1.1.length ≤ 65535 := by rw [← hs1]; exact Nat.le_trans (rB_lt s0).2 hl0
  have PD := hide (fun W => digit_any x1 1 (by omega) (by omega) h255 W)
  obtain ⟨pr, hpr⟩ : ∃ pr, digB x1 1 = pr := ⟨_, rfl⟩
  rw [hpr] at PD
  obtain ⟨p, hp⟩ : ∃ p : Pk, ⟨2, false, 0, [], [], 0, false, [], false, 0, false, false, false, [], [], pr, [(x2 : Int)], []⟩ = p := ⟨_, rfl⟩
  have Hp := hide hp
  have HPS := hide (show PkS p from by rw [← hp]; simp [PkS])
  have HO := hide (show (if s.2 = true ∨ mayP p = false ∨ layP p ≠ xs then none else some p) = O from by
    have := HO.out
    rw [show bodyR 2 f s0 = (p, s) from by unfold bodyR; rw [if_neg (by omega), if_pos rfl, hx1, hs1, hx2, hs, hpr, ← hp]; rfl] at this
    exact this)
  have Hx1 := hide hx1
  have Hs1 := hide hs1
  have Hx2 := hide hx2
  have Hs := hide hs
  clear hx1 hs1 hx2 hs hpr hp
  go_upto_region 14 with (first
    | (go_at_call 44; refine (PB1.out _ s0 HS.out.hr (by omega)).mono ?_; rintro e V3 ⟨rfl, r3, a3⟩; rw [Hs1.out] at r3; rw [Hx1.out]; have HS := hide (HS.out.call r3 a3))
    | (go_at_call 43; refine (PD.out _).mono ?_; rintro e Vx ⟨rfl, rfl⟩; have cc : V3.cell? ⟨gp, 15, none⟩ = some (.bool false) := HS.out.hp.cell 15; have ff := HS.out.hp.frozen))
  have HS := hide (HS.out.set 15 (.bool pr) ⟨2, false, 0, [], [], 0, false, [], false, 0, false, false, false, [], [], pr, [], []⟩ rfl)
  generalize V3.setCell ⟨gp, 15, none⟩ (.bool pr) = V4 at *
  clear cc ff r3 a3 PD c0
  go_upto_region 40 with (go_at_call 44; refine (PB1.out _ s1 HS.out.hr (by omega)).mono ?_; rintro e V5 ⟨rfl, r3, a3⟩; rw [Hs.out] at r3; rw [Hx2.out]; have HS := hide (HS.out.call r3 a3); have hnb := (Below.refl V5.heap.size V5).alloc (Nat.le_refl _) (.cells (arr [.int .i64 (x2 : Int)]) 3); have hgl : gp < V5.heap.size := HS.out.hp.lt; have hzl : gz < V5.heap.size := HS.out.hz.lt; have hwl : w.heap.size ≤ V5.heap.size := HS.out.aft.1.size; have HSm := hide (HS.out.mem hnb); have cc : (V5.alloc (.cells #[.int .i64 (x2 : Int)] 3)).cell? ⟨gp, 16, none⟩ = some (.slice none 0 0) := HSm.out.hp.cell 16; have ff : ∀ i, (V5.alloc (.cells #[.int .i64 (x2 : Int)] 3)).frozen? ⟨gp, i, none⟩ = false := HSm.out.hp.frozen)
  have hset : But (fun i => i = gp) V5 (V5.setCell ⟨gp, 16, none⟩ (.slice (some ⟨V5.heap.size, 0, none⟩) 1 1)) := But.setCell V5 _ rfl
  have HS6 := hide (HS.out.put (p' := p) (C' := some ⟨V5.heap.size, 0, none⟩) (nc' := 1) (kc' := 1) (S' := none) (ns' := 0) (ks' := 0) (by rw [← Hp.out]; exact HS.out.hp.set 16 (.slice (some ⟨V5.heap.size, 0, none⟩) 1 1)) hset)
  have hs6 : (V5.setCell ⟨gp, 16, none⟩ (.slice (some ⟨V5.heap.size, 0, none⟩) 1 1)).heap.size = V5.heap.size := by simp [World.setCell]
  generalize V5.setCell ⟨gp, 16, none⟩ (.slice (some ⟨V5.heap.size, 0, none⟩) 1 1) = V6 at *
  generalize hV7 : V6.alloc _ = V7
  have hV7' : V6.alloc (.cells (arr [.int .i64 (x2 : Int)]) 3) = V7 := hV7
  have hb7 := (Below.refl V6.heap.size V6).alloc (Nat.le_refl _) (.cells (arr [.int .i64 (x2 : Int)]) 3)
  have hR6 := (Blk.new V6 3 [.int .i64 (x2 : Int)]).rd
  rw [hV7'] at hb7 hR6
  have HS0 := hide (HS6.out.mem hb7)
  have hoff : ∀ g, g < V5.heap.size → Off (fun i => i = g) (some (⟨V5.heap.size, 0, none⟩ : Addr)) := fun g hg b o e hb => by
    injection e with e
    injection e with e1
    have hb' : b = g := hb
    omega
  obtain ⟨g5, hg5⟩ : ∃ g5, V5.heap.size = g5 := ⟨_, rfl⟩
  rw [hs6] at hR6
  rw [hg5] at HS0 hoff hR6 hgl hzl hwl
  clear HSm HS6 hset hV7 hV7' hb7 hnb hs6
  have HC1 := hide (show p.codes = [(x2 : Int)] ∧ p.subs = [] from by rw [← Hp.out]; exact ⟨rfl, rfl⟩)
  clear HS cc ff r3 a3 hg5
  obtain ⟨C, nc, kc, S, ns, ks, HS, HM, HN, HOF⟩ : ∃ (C : Option Addr) (nc kc : Nat) (S : Option Addr) (ns ks : Nat), Hid (PsS w.heap.size w V7 gp gr gz p C nc kc S ns ks s) ∧ Hid (PkM V7 p C nc kc S ns ks) ∧ Hid (NewAt w C ∧ NewAt w S) ∧ Hid ((0 < nc → Off (fun i => i = gz) C) ∧ (0 < ns → Off (fun i => i = gz) S)) := ⟨some ⟨g5, 0, none⟩, 1, 1, none, 0, 0, HS0, hide ⟨by rw [HC1.out.1]; rfl, Nat.le_refl _, by rw [HC1.out.1]; exact hR6, by rw [HC1.out.2]; rfl, Nat.le_refl _, by rw [HC1.out.2]; exact Rd.nil _ _⟩, hide ⟨fun b o e => by injection e with e; injection e with e1; omega, NewAt.nil _⟩, hide ⟨fun _ => hoff gz hzl, fun h => by omega⟩⟩
  clear HS0 hR6 hoff
  go_upto_region 40 with fail
  have hwV : Below w.heap.size w V7 := HS.out.aft.below (Below.refl _ _) hwgr (Nat.le_refl _)
  have dX := strOn (HR.out.keep hwV)
  obtain ⟨ys, bd⟩ := s
  obtain ⟨A2, k2, hBr, -⟩ := HS.out.hr
  have hcr0 := hBr.cell 1
  simp only [List.getElem?_cons_zero, List.getElem?_cons_succ] at hcr0
  have hgrl := hBr.lt
  have hPl := HS.out.hp
  clear hBr
  cases bd with
  | true =>
    have hO0 : O = none := by rw [← HO.out, if_pos (Or.inl rfl)]
    have hcr : ∀ w', Below V7.heap.size V7 w' → w'.cell? ⟨gr, 1, none⟩ = some (.bool true) := fun w' h => (h.cell (p := ⟨gr, 1, none⟩) hgrl).trans hcr0
    refine wp_region_held_drew (S := fun w' => Below V7.heap.size V7 w') (by kernel_rfl) ?_ (fun hHeld => ?_)
    · exact (Below.refl _ _).drew
    refine wpAnyH_take (i := 0) (oi := { dst := some 144, op := _, type := _, pos := _, after := _, guard := _ }) (v := ?v5x1) rfl (by kernel_rfl) (by kernel_rfl) (by kernel_rfl) (fun _ _ _ h => h) (Or.inl ⟨by rfl, ?hy5x1⟩) hHeld ?rest5x1
    case hy5x1 => (intro w hSw; go_simp <;> with_reducible rfl)
    try simp only [Act.put, List.setIfInBounds_toArray, List.set_cons_zero, List.set_cons_succ]
    refine wpAnyH_take (i := 1) (oi := { dst := some 145, op := _, type := _, pos := _, after := _, guard := _ }) (v := ?v5x2) rfl (by kernel_rfl) (by kernel_rfl) (by kernel_rfl) (fun _ _ _ h => h) (Or.inl ⟨by rfl, ?hy5x2⟩) hHeld ?rest5x2
    case hy5x2 => (intro w hSw; go_simp <;> with_reducible rfl)
    try simp only [Act.put, List.setIfInBounds_toArray, List.set_cons_zero, List.set_cons_succ]
    refine wpAnyH_take (i := 2) (oi := { dst := some 146, op := _, type := _, pos := _, after := _, guard := _ }) (v := ?v5x3) rfl (by kernel_rfl) (by kernel_rfl) (by kernel_rfl) (fun _ _ _ h => h) (Or.inl ⟨by rfl, ?hy5x3⟩) hHeld ?rest5x3
    case hy5x3 => (intro w hSw; go_simp <;> with_reducible rfl)
    try simp only [Act.put, List.setIfInBounds_toArray, List.set_cons_zero, List.set_cons_succ]
    refine wpAnyH_take (i := 3) (oi := { dst := some 147, op := _, type := _, pos := _, after := _, guard := _ }) (v := ?v5x4) rfl (by kernel_rfl) (by kernel_rfl) (by kernel_rfl) (fun _ _ _ h => h) (Or.inl ⟨by rfl, ?hy5x4⟩) hHeld ?rest5x4
    case hy5x4 => (intro w hSw; go_simp <;> with_reducible rfl)
    try simp only [Act.put, List.setIfInBounds_toArray, List.set_cons_zero, List.set_cons_succ]
    refine wpAnyH_take (i := 4) (oi := { dst := some 148, op := _, type := _, pos := _, after := _, guard := _ }) (v := ?v5x5) rfl (by kernel_rfl) (by kernel_rfl) (by kernel_rfl) (fun _ _ _ h => h) (Or.inl ⟨by rfl, ?hy5x5⟩) hHeld ?rest5x5
    case hy5x5 => (intro w hSw; go_simp <;> with_reducible rfl)
    try simp only [Act.put, List.setIfInBounds_toArray, List.set_cons_zero, List.set_cons_succ]
    refine wpAnyH_take (i := 5) (oi := { dst := some 149, op := _, type := _, pos := _, after := _, guard := _ }) (v := undef) rfl (by kernel_rfl) (by kernel_rfl) (by kernel_rfl) (fun _ _ _ h => h) (Or.inr ⟨by rfl, rfl⟩) hHeld ?_
    try simp only [Act.put, List.setIfInBounds_toArray, List.set_cons_zero, List.set_cons_succ]
    refine wpAnyH_take (i := 6) (oi := { dst := some 150, op := _, type := _, pos := _, after := _, guard := _ }) (v := undef) rfl (by kernel_rfl) (by kernel_rfl) (by kernel_rfl) (fun _ _ _ h => h) (Or.inr ⟨by rfl, rfl⟩) hHeld ?_
    try simp only [Act.put, List.setIfInBounds_toArray, List.set_cons_zero, List.set_cons_succ]
    refine wpAnyH_take (i := 7) (oi := { dst := some 151, op := _, type := _, pos := _, after := _, guard := _ }) (v := undef) rfl (by kernel_rfl) (by kernel_rfl) (by kernel_rfl) (fun _ _ _ h => h) (Or.inr ⟨by rfl, rfl⟩) hHeld ?_
    try simp only [Act.put, List.setIfInBounds_toArray, List.set_cons_zero, List.set_cons_succ]
    refine wpAnyH_take (i := 8) (oi := { dst := some 152, op := _, type := _, pos := _, after := _, guard := _ }) (v := ?v5x9) rfl (by kernel_rfl) (by kernel_rfl) (by kernel_rfl) (fun _ _ _ h => h) (Or.inl ⟨by rfl, ?hy5x9⟩) hHeld ?rest5x9
    case hy5x9 => (intro w hSw; go_simp <;> with_reducible rfl)
    try simp only [Act.put, List.setIfInBounds_toArray, List.set_cons_zero, List.set_cons_succ]
    refine wpAnyH_take (i := 9) (oi := { dst := some 153, op := _, type := _, pos := _, after := _, guard := _ }) (v := ?v5x10) rfl (by kernel_rfl) (by kernel_rfl) (by kernel_rfl) (fun _ _ _ h => h) (Or.inl ⟨by rfl, ?hy5x10⟩) hHeld ?rest5x10
    case hy5x10 => (intro w hSw; go_simp <;> with_reducible rfl)
    try simp only [Act.put, List.setIfInBounds_toArray, List.set_cons_zero, List.set_cons_succ]
    refine wpAnyH_take (i := 10) (oi := { dst := some 154, op := _, type := _, pos := _, after := _, guard := _ }) (v := undef) rfl (by kernel_rfl) (by kernel_rfl) (by kernel_rfl) (fun _ _ _ h => h) (Or.inr ⟨by rfl, rfl⟩) hHeld ?_
    try simp only [Act.put, List.setIfInBounds_toArray, List.set_cons_zero, List.set_cons_succ]
    refine wpAnyH_take (i := 11) (oi := { dst := some 155, op := _, type := _, pos := _, after := _, guard := _ }) (v := undef) rfl (by kernel_rfl) (by kernel_rfl) (by kernel_rfl) (fun _ _ _ h => h) (Or.inr ⟨by rfl, rfl⟩) hHeld ?_
    try simp only [Act.put, List.setIfInBounds_toArray, List.set_cons_zero, List.set_cons_succ]
    refine wpAnyH_take (i := 12) (oi := { dst := some 156, op := _, type := _, pos := _, after := _, guard := _ }) (v := undef) rfl (by kernel_rfl) (by kernel_rfl) (by kernel_rfl) (fun _ _ _ h => h) (Or.inr ⟨by rfl, rfl⟩) hHeld ?_
    try simp only [Act.put, List.setIfInBounds_toArray, List.set_cons_zero, List.set_cons_succ]
    refine wpAnyH_take (i := 13) (oi := { dst := some 157, op := _, type := _, pos := _, after := _, guard := _ }) (v := undef) rfl (by kernel_rfl) (by kernel_rfl) (by kernel_rfl) (fun _ _ _ h => h) (Or.inr ⟨by rfl, rfl⟩) hHeld ?_
    try simp only [Act.put, List.setIfInBounds_toArray, List.set_cons_zero, List.set_cons_succ]
    refine wpAnyH_take (i := 14) (oi := { dst := some 158, op := _, type := _, pos := _, after := _, guard := _ }) (v := undef) rfl (by kernel_rfl) (by kernel_rfl) (by kernel_rfl) (fun _ _ _ h => h) (Or.inr ⟨by rfl, rfl⟩) hHeld ?_
    try simp only [Act.put, List.setIfInBounds_toArray, List.set_cons_zero, List.set_cons_succ]
    refine wpAnyH_take (i := 15) (oi := { dst := some 159, op := _, type := _, pos := _, after := _, guard := _ }) (v := undef) rfl (by kernel_rfl) (by kernel_rfl) (by kernel_rfl) (fun _ _ _ h => h) (Or.inr ⟨by rfl, rfl⟩) hHeld ?_
    try simp only [Act.put, List.setIfInBounds_toArray, List.set_cons_zero, List.set_cons_succ]
    refine wpAnyH_take (i := 16) (oi := { dst := some 160, op := _, type := _, pos := _, after := _, guard := _ }) (v := ?v5x17) rfl (by kernel_rfl) (by kernel_rfl) (by kernel_rfl) (fun _ _ _ h => h) (Or.inl ⟨by rfl, ?hy5x17⟩) hHeld ?rest5x17
    case hy5x17 => (intro w hSw; go_simp <;> with_reducible rfl)
    try simp only [Act.put, List.setIfInBounds_toArray, List.set_cons_zero, List.set_cons_succ]
    refine wpAnyH_done (by kernel_rfl) ?_ _
    clear hcr hcr0 dX
    have HS5 := hide (HS.out.mem hHeld)
    go_upto_region 99 with (refine wpList_storeQ rfl 27 (.tmp 2) (.tmp 161) rfl gz 27 (zeroP 0) none 0 0 none 0 0 (zeroP 0) none 0 0 none 0 0 rfl rfl (HS5.out).hz (by kernel_rfl) ?_; intro V2 bV2 BV2)
    refine bodyPost_ret (results_cell_tmp rfl rfl bV2 Try.underlying27 rfl (by kernel_rfl)) rfl ?_
    refine HOP.out _ _ ?_
    rw [hO0]
    exact ⟨rfl, ((HS5.out).ans BV2).2.below (Below.refl _ _) hwgr (Nat.le_refl _)⟩
  | false =>
    have hcr : ∀ w', Below V7.heap.size V7 w' → w'.cell? ⟨gr, 1, none⟩ = some (.bool false) := fun w' h => (h.cell (p := ⟨gr, 1, none⟩) hgrl).trans hcr0
    have HPB : ∀ w', Below V7.heap.size V7 w' → Blk w' gp 27 (pkVs p C nc kc S ns ks) := fun w' h => hPl.keep h
    have PM := fun W (hb : Below V7.heap.size V7 W) => may_any p C nc kc S ns ks W (HM.out.keep hb) HPS.out
    by_cases hmv : mayP p = true
    case neg =>
      have hmf : mayP p = false := by rw [← Bool.not_eq_true]; exact hmv
      have hO0 : O = none := by rw [← HO.out, if_pos (Or.inr (Or.inl hmf))]
      rw [hmf] at PM
      clear hmv
      refine wp_region_held_drew (S := fun w' => Below V7.heap.size V7 w') (by kernel_rfl) ?_ (fun hHeld => ?_)
      · exact (Below.refl _ _).drew
      refine wpAnyH_take (i := 0) (oi := { dst := some 144, op := _, type := _, pos := _, after := _, guard := _ }) (v := ?v6x1) rfl (by kernel_rfl) (by kernel_rfl) (by kernel_rfl) (fun _ _ _ h => h) (Or.inl ⟨by rfl, ?hy6x1⟩) hHeld ?rest6x1
      case hy6x1 => (intro w hSw; go_simp <;> with_reducible rfl)
      try simp only [Act.put, List.setIfInBounds_toArray, List.set_cons_zero, List.set_cons_succ]
      refine wpAnyH_take (i := 1) (oi := { dst := some 145, op := _, type := _, pos := _, after := _, guard := _ }) (v := ?v6x2) rfl (by kernel_rfl) (by kernel_rfl) (by kernel_rfl) (fun _ _ _ h => h) (Or.inl ⟨by rfl, ?hy6x2⟩) hHeld ?rest6x2
      case hy6x2 => (intro w hSw; go_simp <;> with_reducible rfl)
      try simp only [Act.put, List.setIfInBounds_toArray, List.set_cons_zero, List.set_cons_succ]
      refine wpAnyH_take (i := 2) (oi := { dst := some 146, op := _, type := _, pos := _, after := _, guard := _ }) (v := ?v6x3) rfl (by kernel_rfl) (by kernel_rfl) (by kernel_rfl) (fun _ _ _ h => h) (Or.inl ⟨by rfl, ?hy6x3⟩) hHeld ?rest6x3
      case hy6x3 => (intro w hSw; go_simp <;> with_reducible rfl)
      try simp only [Act.put, List.setIfInBounds_toArray, List.set_cons_zero, List.set_cons_succ]
      refine wpAnyH_take (i := 3) (oi := { dst := some 147, op := _, type := _, pos := _, after := _, guard := _ }) (v := ?v6x4) rfl (by kernel_rfl) (by kernel_rfl) (by kernel_rfl) (fun _ _ _ h => h) (Or.inl ⟨by rfl, ?hy6x4⟩) hHeld ?rest6x4
      case hy6x4 => (intro w hSw; go_simp <;> with_reducible rfl)
      try simp only [Act.put, List.setIfInBounds_toArray, List.set_cons_zero, List.set_cons_succ]
      refine wpAnyH_take (i := 4) (oi := { dst := some 148, op := _, type := _, pos := _, after := _, guard := _ }) (v := ?v6x5) rfl (by kernel_rfl) (by kernel_rfl) (by kernel_rfl) (fun _ _ _ h => h) (Or.inl ⟨by rfl, ?hy6x5⟩) hHeld ?rest6x5
      case hy6x5 => (intro w hSw; go_simp <;> with_reducible rfl)
      try simp only [Act.put, List.setIfInBounds_toArray, List.set_cons_zero, List.set_cons_succ]
      refine wpAnyH_take (i := 5) (oi := { dst := some 149, op := _, type := _, pos := _, after := _, guard := _ }) (v := ?v6x6) rfl (by kernel_rfl) (by kernel_rfl) (by kernel_rfl) (fun _ _ _ h => h) (Or.inl ⟨by rfl, ?hy6x6⟩) hHeld ?rest6x6
      case hy6x6 => (intro w hSw; refine exec_loadP 27 (.tmp 5) ?_ gp 27 p C nc kc S ns ks ?_ (HPB w hSw) Try.underlying27 ?_ ?_; rfl; rfl; rfl; kernel_rfl)
      try simp only [Act.put, List.setIfInBounds_toArray, List.set_cons_zero, List.set_cons_succ]
      refine wpAnyH_ready (rs := [6]) (by kernel_rfl) (by simp) (AllReadyH.cons (o := { dst := some 150, op := _, type := _, pos := _, after := _, guard := _ }) rfl (fun K hK => ?_) AllReadyH.nil)
      go_simp
      refine (PM _ hHeld).mono ?_
      rintro e w6 ⟨rfl, b6⟩
      have s6 := below_on hHeld b6
      go_wp2_with fail
      refine hK.out _ _ ?_ (fun hHeld => ?_)
      · exact s6
      clear hK K
      try simp only [Act.put, List.setIfInBounds_toArray, List.set_cons_zero, List.set_cons_succ]
      refine wpAnyH_take (i := 7) (oi := { dst := some 151, op := _, type := _, pos := _, after := _, guard := _ }) (v := ?v6x8) rfl (by kernel_rfl) (by kernel_rfl) (by kernel_rfl) (fun _ _ _ h => h) (Or.inl ⟨by rfl, ?hy6x8⟩) hHeld ?rest6x8
      case hy6x8 => (intro w hSw; go_simp <;> with_reducible rfl)
      try simp only [Act.put, List.setIfInBounds_toArray, List.set_cons_zero, List.set_cons_succ]
      refine wpAnyH_take (i := 8) (oi := { dst := some 152, op := _, type := _, pos := _, after := _, guard := _ }) (v := ?v6x9) rfl (by kernel_rfl) (by kernel_rfl) (by kernel_rfl) (fun _ _ _ h => h) (Or.inl ⟨by rfl, ?hy6x9⟩) hHeld ?rest6x9
      case hy6x9 => (intro w hSw; go_simp <;> with_reducible rfl)
      try simp only [Act.put, List.setIfInBounds_toArray, List.set_cons_zero, List.set_cons_succ]
      refine wpAnyH_take (i := 9) (oi := { dst := some 153, op := _, type := _, pos := _, after := _, guard := _ }) (v := ?v6x10) rfl (by kernel_rfl) (by kernel_rfl) (by kernel_rfl) (fun _ _ _ h => h) (Or.inl ⟨by rfl, ?hy6x10⟩) hHeld ?rest6x10
      case hy6x10 => (intro w hSw; go_simp <;> with_reducible rfl)
      try simp only [Act.put, List.setIfInBounds_toArray, List.set_cons_zero, List.set_cons_succ]
      refine wpAnyH_take (i := 10) (oi := { dst := some 154, op := _, type := _, pos := _, after := _, guard := _ }) (v := undef) rfl (by kernel_rfl) (by kernel_rfl) (by kernel_rfl) (fun _ _ _ h => h) (Or.inr ⟨by rfl, rfl⟩) hHeld ?_
      try simp only [Act.put, List.setIfInBounds_toArray, List.set_cons_zero, List.set_cons_succ]
      refine wpAnyH_take (i := 11) (oi := { dst := some 155, op := _, type := _, pos := _, after := _, guard := _ }) (v := undef) rfl (by kernel_rfl) (by kernel_rfl) (by kernel_rfl) (fun _ _ _ h => h) (Or.inr ⟨by rfl, rfl⟩) hHeld ?_
      try simp only [Act.put, List.setIfInBounds_toArray, List.set_cons_zero, List.set_cons_succ]
      refine wpAnyH_take (i := 12) (oi := { dst := some 156, op := _, type := _, pos := _, after := _, guard := _ }) (v := undef) rfl (by kernel_rfl) (by kernel_rfl) (by kernel_rfl) (fun _ _ _ h => h) (Or.inr ⟨by rfl, rfl⟩) hHeld ?_
      try simp only [Act.put, List.setIfInBounds_toArray, List.set_cons_zero, List.set_cons_succ]
      refine wpAnyH_take (i := 13) (oi := { dst := some 157, op := _, type := _, pos := _, after := _, guard := _ }) (v := undef) rfl (by kernel_rfl) (by kernel_rfl) (by kernel_rfl) (fun _ _ _ h => h) (Or.inr ⟨by rfl, rfl⟩) hHeld ?_
      try simp only [Act.put, List.setIfInBounds_toArray, List.set_cons_zero, List.set_cons_succ]
      refine wpAnyH_take (i := 14) (oi := { dst := some 158, op := _, type := _, pos := _, after := _, guard := _ }) (v := undef) rfl (by kernel_rfl) (by kernel_rfl) (by kernel_rfl) (fun _ _ _ h => h) (Or.inr ⟨by rfl, rfl⟩) hHeld ?_
      try simp only [Act.put, List.setIfInBounds_toArray, List.set_cons_zero, List.set_cons_succ]
      refine wpAnyH_take (i := 15) (oi := { dst := some 159, op := _, type := _, pos := _, after := _, guard := _ }) (v := undef) rfl (by kernel_rfl) (by kernel_rfl) (by kernel_rfl) (fun _ _ _ h => h) (Or.inr ⟨by rfl, rfl⟩) hHeld ?_
      try simp only [Act.put, List.setIfInBounds_toArray, List.set_cons_zero, List.set_cons_succ]
      refine wpAnyH_take (i := 16) (oi := { dst := some 160, op := _, type := _, pos := _, after := _, guard := _ }) (v := ?v6x17) rfl (by kernel_rfl) (by kernel_rfl) (by kernel_rfl) (fun _ _ _ h => h) (Or.inl ⟨by rfl, ?hy6x17⟩) hHeld ?rest6x17
      case hy6x17 => (intro w hSw; go_simp <;> with_reducible rfl)
      try simp only [Act.put, List.setIfInBounds_toArray, List.set_cons_zero, List.set_cons_succ]
      refine wpAnyH_done (by kernel_rfl) ?_ _
      clear hcr hcr0 dX HPB PM
      have HS5 := hide (HS.out.mem hHeld)
      go_upto_region 99 with (refine wpList_storeQ rfl 27 (.tmp 2) (.tmp 161) rfl gz 27 (zeroP 0) none 0 0 none 0 0 (zeroP 0) none 0 0 none 0 0 rfl rfl (HS5.out).hz (by kernel_rfl) ?_; intro V2 bV2 BV2)
      refine bodyPost_ret (results_cell_tmp rfl rfl bV2 Try.underlying27 rfl (by kernel_rfl)) rfl ?_
      refine HOP.out _ _ ?_
      rw [hO0]
      exact ⟨rfl, ((HS5.out).ans BV2).2.below (Below.refl _ _) hwgr (Nat.le_refl _)⟩
    case pos =>
    have PB := fun W (hb : Below V7.heap.size V7 W) => rBytes10_any p C nc kc S ns ks W (HM.out.keep hb) HPS.out hmv
    rw [hmv] at PM
    by_cases hl : layP p = xs
    case pos =>
      have hO0 : O = some p := by rw [← HO.out, if_neg (by rw [hmv]; simp [hl])]
      rw [hl] at PB
      refine wp_region_held_drew (S := fun w' => Below V7.heap.size V7 w') (by kernel_rfl) ?_ (fun hHeld => ?_)
      · exact (Below.refl _ _).drew
      refine wpAnyH_take (i := 0) (oi := { dst := some 144, op := _, type := _, pos := _, after := _, guard := _ }) (v := ?v7x1) rfl (by kernel_rfl) (by kernel_rfl) (by kernel_rfl) (fun _ _ _ h => h) (Or.inl ⟨by rfl, ?hy7x1⟩) hHeld ?rest7x1
      case hy7x1 => (intro w hSw; go_simp <;> with_reducible rfl)
      try simp only [Act.put, List.setIfInBounds_toArray, List.set_cons_zero, List.set_cons_succ]
      refine wpAnyH_take (i := 1) (oi := { dst := some 145, op := _, type := _, pos := _, after := _, guard := _ }) (v := ?v7x2) rfl (by kernel_rfl) (by kernel_rfl) (by kernel_rfl) (fun _ _ _ h => h) (Or.inl ⟨by rfl, ?hy7x2⟩) hHeld ?rest7x2
      case hy7x2 => (intro w hSw; go_simp <;> with_reducible rfl)
      try simp only [Act.put, List.setIfInBounds_toArray, List.set_cons_zero, List.set_cons_succ]
      refine wpAnyH_take (i := 2) (oi := { dst := some 146, op := _, type := _, pos := _, after := _, guard := _ }) (v := ?v7x3) rfl (by kernel_rfl) (by kernel_rfl) (by kernel_rfl) (fun _ _ _ h => h) (Or.inl ⟨by rfl, ?hy7x3⟩) hHeld ?rest7x3
      case hy7x3 => (intro w hSw; go_simp <;> with_reducible rfl)
      try simp only [Act.put, List.setIfInBounds_toArray, List.set_cons_zero, List.set_cons_succ]
      refine wpAnyH_take (i := 3) (oi := { dst := some 147, op := _, type := _, pos := _, after := _, guard := _ }) (v := ?v7x4) rfl (by kernel_rfl) (by kernel_rfl) (by kernel_rfl) (fun _ _ _ h => h) (Or.inl ⟨by rfl, ?hy7x4⟩) hHeld ?rest7x4
      case hy7x4 => (intro w hSw; go_simp <;> with_reducible rfl)
      try simp only [Act.put, List.setIfInBounds_toArray, List.set_cons_zero, List.set_cons_succ]
      refine wpAnyH_take (i := 4) (oi := { dst := some 148, op := _, type := _, pos := _, after := _, guard := _ }) (v := ?v7x5) rfl (by kernel_rfl) (by kernel_rfl) (by kernel_rfl) (fun _ _ _ h => h) (Or.inl ⟨by rfl, ?hy7x5⟩) hHeld ?rest7x5
      case hy7x5 => (intro w hSw; go_simp <;> with_reducible rfl)
      try simp only [Act.put, List.setIfInBounds_toArray, List.set_cons_zero, List.set_cons_succ]
      refine wpAnyH_take (i := 5) (oi := { dst := some 149, op := _, type := _, pos := _, after := _, guard := _ }) (v := ?v7x6) rfl (by kernel_rfl) (by kernel_rfl) (by kernel_rfl) (fun _ _ _ h => h) (Or.inl ⟨by rfl, ?hy7x6⟩) hHeld ?rest7x6
      case hy7x6 => (intro w hSw; refine exec_loadP 27 (.tmp 5) ?_ gp 27 p C nc kc S ns ks ?_ (HPB w hSw) Try.underlying27 ?_ ?_; rfl; rfl; rfl; kernel_rfl)
      try simp only [Act.put, List.setIfInBounds_toArray, List.set_cons_zero, List.set_cons_succ]
      refine wpAnyH_ready (rs := [6]) (by kernel_rfl) (by simp) (AllReadyH.cons (o := { dst := some 150, op := _, type := _, pos := _, after := _, guard := _ }) rfl (fun K hK => ?_) AllReadyH.nil)
      go_simp
      refine (PM _ hHeld).mono ?_
      rintro e w6 ⟨rfl, b6⟩
      have s6 := below_on hHeld b6
      have dX6 : ∀ w', Below w6.heap.size w6 w' → ∀ c, (convert 31 9 (.slice (some ⟨bA, oA, none⟩) n c)).run Try.prog w' = .ok (.string (str xs)) w' := fun w' h => dX w' (below_on s6 h)
      go_wp2_with fail
      refine hK.out _ _ ?_ (fun hHeld => ?_)
      · exact below_on hHeld b6
      clear hK K
      try simp only [Act.put, List.setIfInBounds_toArray, List.set_cons_zero, List.set_cons_succ]
      refine wpAnyH_strong (S' := fun w' => Below w6.heap.size w6 w') (by intro w' h; exact below_on hHeld h) ?_
      replace hHeld : (fun w' => Below w6.heap.size w6 w') _ := Below.refl _ _
      refine wpAnyH_take (i := 7) (oi := { dst := some 151, op := _, type := _, pos := _, after := _, guard := _ }) (v := ?v7x8) rfl (by kernel_rfl) (by kernel_rfl) (by kernel_rfl) (fun _ _ _ h => h) (Or.inl ⟨by rfl, ?hy7x8⟩) hHeld ?rest7x8
      case hy7x8 => (intro w hSw; go_simp <;> with_reducible rfl)
      try simp only [Act.put, List.setIfInBounds_toArray, List.set_cons_zero, List.set_cons_succ]
      refine wpAnyH_take (i := 8) (oi := { dst := some 152, op := _, type := _, pos := _, after := _, guard := _ }) (v := ?v7x9) rfl (by kernel_rfl) (by kernel_rfl) (by kernel_rfl) (fun _ _ _ h => h) (Or.inl ⟨by rfl, ?hy7x9⟩) hHeld ?rest7x9
      case hy7x9 => (intro w hSw; go_simp <;> with_reducible rfl)
      try simp only [Act.put, List.setIfInBounds_toArray, List.set_cons_zero, List.set_cons_succ]
      refine wpAnyH_take (i := 9) (oi := { dst := some 153, op := _, type := _, pos := _, after := _, guard := _ }) (v := ?v7x10) rfl (by kernel_rfl) (by kernel_rfl) (by kernel_rfl) (fun _ _ _ h => h) (Or.inl ⟨by rfl, ?hy7x10⟩) hHeld ?rest7x10
      case hy7x10 => (intro w hSw; go_simp <;> with_reducible rfl)
      try simp only [Act.put, List.setIfInBounds_toArray, List.set_cons_zero, List.set_cons_succ]
      refine wpAnyH_take (i := 10) (oi := { dst := some 154, op := _, type := _, pos := _, after := _, guard := _ }) (v := ?v7x11) rfl (by kernel_rfl) (by kernel_rfl) (by kernel_rfl) (fun _ _ _ h => h) (Or.inl ⟨by rfl, ?hy7x11⟩) hHeld ?rest7x11
      case hy7x11 => (intro w hSw; refine exec_loadP 27 (.tmp 5) ?_ gp 27 p C nc kc S ns ks ?_ (HPB w (below_on s6 hSw)) Try.underlying27 ?_ ?_; rfl; rfl; rfl; kernel_rfl)
      try simp only [Act.put, List.setIfInBounds_toArray, List.set_cons_zero, List.set_cons_succ]
      refine wpAnyH_take (i := 13) (oi := { dst := some 157, op := _, type := _, pos := _, after := _, guard := _ }) (v := ?v7x12) rfl (by kernel_rfl) (by kernel_rfl) (by kernel_rfl) (fun _ _ _ h => h) (Or.inl ⟨by rfl, ?hy7x12⟩) hHeld ?rest7x12
      case hy7x12 => (intro w hSw; go_simp <;> with_reducible rfl)
      try simp only [Act.put, List.setIfInBounds_toArray, List.set_cons_zero, List.set_cons_succ]
      refine wpAnyH_take (i := 14) (oi := { dst := some 158, op := _, type := _, pos := _, after := _, guard := _ }) (v := ?v7x13) rfl (by kernel_rfl) (by kernel_rfl) (by kernel_rfl) (fun _ _ _ h => h) (Or.inl ⟨by rfl, ?hy7x13⟩) hHeld ?rest7x13
      case hy7x13 => (intro w hSw; go_simp <;> with_reducible rfl)
      try simp only [Act.put, List.setIfInBounds_toArray, List.set_cons_zero, List.set_cons_succ]
      refine wpAnyH_ready (rs := [11]) (by kernel_rfl) (by simp) (AllReadyH.cons (o := { dst := some 155, op := _, type := _, pos := _, after := _, guard := _ }) rfl (fun K hK => ?_) AllReadyH.nil)
      go_simp
      refine (PB _ (below_on s6 hHeld)).mono ?_
      rintro e w7 ⟨G, gk, rfl, hgk, r7, b7⟩
      have s7 := below_on s6 (below_on hHeld b7)
      have dG := strOn r7
      have dX7 : ∀ w', Below w7.heap.size w7 w' → ∀ c, (convert 31 9 (.slice (some ⟨bA, oA, none⟩) n c)).run Try.prog w' = .ok (.string (str xs)) w' := fun w' h => dX w' (below_on s7 h)
      clear dX6
      go_wp2_with fail
      refine hK.out _ _ ?_ (fun hHeld => ?_)
      · exact below_on hHeld b7
      clear hK K
      try simp only [Act.put, List.setIfInBounds_toArray, List.set_cons_zero, List.set_cons_succ]
      refine wpAnyH_strong (S' := fun w' => Below w7.heap.size w7 w') (by intro w' h; exact below_on hHeld h) ?_
      replace hHeld : (fun w' => Below w7.heap.size w7 w') _ := Below.refl _ _
      refine wpAnyH_take (i := 12) (oi := { dst := some 156, op := _, type := _, pos := _, after := _, guard := _ }) (v := ?v7x15) rfl (by kernel_rfl) (by kernel_rfl) (by kernel_rfl) (fun _ _ _ h => h) (Or.inl ⟨by rfl, ?hy7x15⟩) hHeld ?rest7x15
      case hy7x15 => (intro w hSw; go_simp <;> with_reducible rfl)
      try simp only [Act.put, List.setIfInBounds_toArray, List.set_cons_zero, List.set_cons_succ]
      refine wpAnyH_take (i := 15) (oi := { dst := some 159, op := _, type := _, pos := _, after := _, guard := _ }) (v := ?v7x16) rfl (by kernel_rfl) (by kernel_rfl) (by kernel_rfl) (fun _ _ _ h => h) (Or.inl ⟨by rfl, ?hy7x16⟩) hHeld ?rest7x16
      case hy7x16 => (intro w hSw; go_simp <;> with_reducible rfl)
      try simp only [Act.put, List.setIfInBounds_toArray, List.set_cons_zero, List.set_cons_succ]
      refine wpAnyH_take (i := 16) (oi := { dst := some 160, op := _, type := _, pos := _, after := _, guard := _ }) (v := ?v7x17) rfl (by kernel_rfl) (by kernel_rfl) (by kernel_rfl) (fun _ _ _ h => h) (Or.inl ⟨by rfl, ?hy7x17⟩) hHeld ?rest7x17
      case hy7x17 => (intro w hSw; go_simp <;> with_reducible rfl)
      try simp only [Act.put, List.setIfInBounds_toArray, List.set_cons_zero, List.set_cons_succ]
      refine wpAnyH_done (by kernel_rfl) ?_ _
      have hbel := below_on s7 hHeld
      clear hcr hcr0 dX HPB PM PB dG dX7
      have HS5 := hide (HS.out.mem hbel)
      have HM5 := hide (HM.out.keep hbel)
      go_upto_region 99 with (first
        | (refine wpList_loadP rfl 27 (.tmp 5) rfl gp 27 p C nc kc S ns ks rfl HS5.out.hp Try.underlying27 rfl (by kernel_rfl) ?_)
        | (refine wpList_storeQ rfl 27 (.tmp 2) (.tmp 162) rfl gz 27 (zeroP 0) none 0 0 none 0 0 p C nc kc S ns ks rfl rfl HS5.out.hz (by kernel_rfl) ?_; intro V2 bV2 BV2))
      refine bodyPost_ret (results_cell_tmp rfl rfl bV2 Try.underlying27 rfl (by kernel_rfl)) rfl ?_
      refine HOP.out _ _ ?_
      rw [hO0]
      exact ⟨C, nc, kc, S, ns, ks, rfl, HN.out.1, HN.out.2, PkM_but HM5.out BV2 HOF.out.1 HOF.out.2, (HS5.out.ans BV2).2.below (Below.refl _ _) hwgr (Nat.le_refl _)⟩
    case neg =>
      have hO0 : O = none := by rw [← HO.out, if_pos (Or.inr (Or.inr hl))]
      have hlb : (layP p == xs) = false := by rw [beq_eq_false_iff_ne]; exact hl
      clear hl
      refine wp_region_held_drew (S := fun w' => Below V7.heap.size V7 w') (by kernel_rfl) ?_ (fun hHeld => ?_)
      · exact (Below.refl _ _).drew
      refine wpAnyH_take (i := 0) (oi := { dst := some 144, op := _, type := _, pos := _, after := _, guard := _ }) (v := ?v8x1) rfl (by kernel_rfl) (by kernel_rfl) (by kernel_rfl) (fun _ _ _ h => h) (Or.inl ⟨by rfl, ?hy8x1⟩) hHeld ?rest8x1
      case hy8x1 => (intro w hSw; go_simp <;> with_reducible rfl)
      try simp only [Act.put, List.setIfInBounds_toArray, List.set_cons_zero, List.set_cons_succ]
      refine wpAnyH_take (i := 1) (oi := { dst := some 145, op := _, type := _, pos := _, after := _, guard := _ }) (v := ?v8x2) rfl (by kernel_rfl) (by kernel_rfl) (by kernel_rfl) (fun _ _ _ h => h) (Or.inl ⟨by rfl, ?hy8x2⟩) hHeld ?rest8x2
      case hy8x2 => (intro w hSw; go_simp <;> with_reducible rfl)
      try simp only [Act.put, List.setIfInBounds_toArray, List.set_cons_zero, List.set_cons_succ]
      refine wpAnyH_take (i := 2) (oi := { dst := some 146, op := _, type := _, pos := _, after := _, guard := _ }) (v := ?v8x3) rfl (by kernel_rfl) (by kernel_rfl) (by kernel_rfl) (fun _ _ _ h => h) (Or.inl ⟨by rfl, ?hy8x3⟩) hHeld ?rest8x3
      case hy8x3 => (intro w hSw; go_simp <;> with_reducible rfl)
      try simp only [Act.put, List.setIfInBounds_toArray, List.set_cons_zero, List.set_cons_succ]
      refine wpAnyH_take (i := 3) (oi := { dst := some 147, op := _, type := _, pos := _, after := _, guard := _ }) (v := ?v8x4) rfl (by kernel_rfl) (by kernel_rfl) (by kernel_rfl) (fun _ _ _ h => h) (Or.inl ⟨by rfl, ?hy8x4⟩) hHeld ?rest8x4
      case hy8x4 => (intro w hSw; go_simp <;> with_reducible rfl)
      try simp only [Act.put, List.setIfInBounds_toArray, List.set_cons_zero, List.set_cons_succ]
      refine wpAnyH_take (i := 4) (oi := { dst := some 148, op := _, type := _, pos := _, after := _, guard := _ }) (v := ?v8x5) rfl (by kernel_rfl) (by kernel_rfl) (by kernel_rfl) (fun _ _ _ h => h) (Or.inl ⟨by rfl, ?hy8x5⟩) hHeld ?rest8x5
      case hy8x5 => (intro w hSw; go_simp <;> with_reducible rfl)
      try simp only [Act.put, List.setIfInBounds_toArray, List.set_cons_zero, List.set_cons_succ]
      refine wpAnyH_take (i := 5) (oi := { dst := some 149, op := _, type := _, pos := _, after := _, guard := _ }) (v := ?v8x6) rfl (by kernel_rfl) (by kernel_rfl) (by kernel_rfl) (fun _ _ _ h => h) (Or.inl ⟨by rfl, ?hy8x6⟩) hHeld ?rest8x6
      case hy8x6 => (intro w hSw; refine exec_loadP 27 (.tmp 5) ?_ gp 27 p C nc kc S ns ks ?_ (HPB w hSw) Try.underlying27 ?_ ?_; rfl; rfl; rfl; kernel_rfl)
      try simp only [Act.put, List.setIfInBounds_toArray, List.set_cons_zero, List.set_cons_succ]
      refine wpAnyH_ready (rs := [6]) (by kernel_rfl) (by simp) (AllReadyH.cons (o := { dst := some 150, op := _, type := _, pos := _, after := _, guard := _ }) rfl (fun K hK => ?_) AllReadyH.nil)
      go_simp
      refine (PM _ hHeld).mono ?_
      rintro e w6 ⟨rfl, b6⟩
      have s6 := below_on hHeld b6
      have dX6 : ∀ w', Below w6.heap.size w6 w' → ∀ c, (convert 31 9 (.slice (some ⟨bA, oA, none⟩) n c)).run Try.prog w' = .ok (.string (str xs)) w' := fun w' h => dX w' (below_on s6 h)
      go_wp2_with fail
      refine hK.out _ _ ?_ (fun hHeld => ?_)
      · exact below_on hHeld b6
      clear hK K
      try simp only [Act.put, List.setIfInBounds_toArray, List.set_cons_zero, List.set_cons_succ]
      refine wpAnyH_strong (S' := fun w' => Below w6.heap.size w6 w') (by intro w' h; exact below_on hHeld h) ?_
      replace hHeld : (fun w' => Below w6.heap.size w6 w') _ := Below.refl _ _
      refine wpAnyH_take (i := 7) (oi := { dst := some 151, op := _, type := _, pos := _, after := _, guard := _ }) (v := ?v8x8) rfl (by kernel_rfl) (by kernel_rfl) (by kernel_rfl) (fun _ _ _ h => h) (Or.inl ⟨by rfl, ?hy8x8⟩) hHeld ?rest8x8
      case hy8x8 => (intro w hSw; go_simp <;> with_reducible rfl)
      try simp only [Act.put, List.setIfInBounds_toArray, List.set_cons_zero, List.set_cons_succ]
      refine wpAnyH_take (i := 8) (oi := { dst := some 152, op := _, type := _, pos := _, after := _, guard := _ }) (v := ?v8x9) rfl (by kernel_rfl) (by kernel_rfl) (by kernel_rfl) (fun _ _ _ h => h) (Or.inl ⟨by rfl, ?hy8x9⟩) hHeld ?rest8x9
      case hy8x9 => (intro w hSw; go_simp <;> with_reducible rfl)
      try simp only [Act.put, List.setIfInBounds_toArray, List.set_cons_zero, List.set_cons_succ]
      refine wpAnyH_take (i := 9) (oi := { dst := some 153, op := _, type := _, pos := _, after := _, guard := _ }) (v := ?v8x10) rfl (by kernel_rfl) (by kernel_rfl) (by kernel_rfl) (fun _ _ _ h => h) (Or.inl ⟨by rfl, ?hy8x10⟩) hHeld ?rest8x10
      case hy8x10 => (intro w hSw; go_simp <;> with_reducible rfl)
      try simp only [Act.put, List.setIfInBounds_toArray, List.set_cons_zero, List.set_cons_succ]
      refine wpAnyH_take (i := 10) (oi := { dst := some 154, op := _, type := _, pos := _, after := _, guard := _ }) (v := ?v8x11) rfl (by kernel_rfl) (by kernel_rfl) (by kernel_rfl) (fun _ _ _ h => h) (Or.inl ⟨by rfl, ?hy8x11⟩) hHeld ?rest8x11
      case hy8x11 => (intro w hSw; refine exec_loadP 27 (.tmp 5) ?_ gp 27 p C nc kc S ns ks ?_ (HPB w (below_on s6 hSw)) Try.underlying27 ?_ ?_; rfl; rfl; rfl; kernel_rfl)
      try simp only [Act.put, List.setIfInBounds_toArray, List.set_cons_zero, List.set_cons_succ]
      refine wpAnyH_take (i := 13) (oi := { dst := some 157, op := _, type := _, pos := _, after := _, guard := _ }) (v := ?v8x12) rfl (by kernel_rfl) (by kernel_rfl) (by kernel_rfl) (fun _ _ _ h => h) (Or.inl ⟨by rfl, ?hy8x12⟩) hHeld ?rest8x12
      case hy8x12 => (intro w hSw; go_simp <;> with_reducible rfl)
      try simp only [Act.put, List.setIfInBounds_toArray, List.set_cons_zero, List.set_cons_succ]
      refine wpAnyH_take (i := 14) (oi := { dst := some 158, op := _, type := _, pos := _, after := _, guard := _ }) (v := ?v8x13) rfl (by kernel_rfl) (by kernel_rfl) (by kernel_rfl) (fun _ _ _ h => h) (Or.inl ⟨by rfl, ?hy8x13⟩) hHeld ?rest8x13
      case hy8x13 => (intro w hSw; go_simp <;> with_reducible rfl)
      try simp only [Act.put, List.setIfInBounds_toArray, List.set_cons_zero, List.set_cons_succ]
      refine wpAnyH_ready (rs := [11]) (by kernel_rfl) (by simp) (AllReadyH.cons (o := { dst := some 155, op := _, type := _, pos := _, after := _, guard := _ }) rfl (fun K hK => ?_) AllReadyH.nil)
      go_simp
      refine (PB _ (below_on s6 hHeld)).mono ?_
      rintro e w7 ⟨G, gk, rfl, hgk, r7, b7⟩
      have s7 := below_on s6 (below_on hHeld b7)
      have dG := strOn r7
      have dX7 : ∀ w', Below w7.heap.size w7 w' → ∀ c, (convert 31 9 (.slice (some ⟨bA, oA, none⟩) n c)).run Try.prog w' = .ok (.string (str xs)) w' := fun w' h => dX w' (below_on s7 h)
      clear dX6
      go_wp2_with fail
      refine hK.out _ _ ?_ (fun hHeld => ?_)
      · exact below_on hHeld b7
      clear hK K
      try simp only [Act.put, List.setIfInBounds_toArray, List.set_cons_zero, List.set_cons_succ]
      refine wpAnyH_strong (S' := fun w' => Below w7.heap.size w7 w') (by intro w' h; exact below_on hHeld h) ?_
      replace hHeld : (fun w' => Below w7.heap.size w7 w') _ := Below.refl _ _
      refine wpAnyH_take (i := 12) (oi := { dst := some 156, op := _, type := _, pos := _, after := _, guard := _ }) (v := ?v8x15) rfl (by kernel_rfl) (by kernel_rfl) (by kernel_rfl) (fun _ _ _ h => h) (Or.inl ⟨by rfl, ?hy8x15⟩) hHeld ?rest8x15
      case hy8x15 => (intro w hSw; go_simp <;> with_reducible rfl)
      try simp only [Act.put, List.setIfInBounds_toArray, List.set_cons_zero, List.set_cons_succ]
      refine wpAnyH_take (i := 15) (oi := { dst := some 159, op := _, type := _, pos := _, after := _, guard := _ }) (v := ?v8x16) rfl (by kernel_rfl) (by kernel_rfl) (by kernel_rfl) (fun _ _ _ h => h) (Or.inl ⟨by rfl, ?hy8x16⟩) hHeld ?rest8x16
      case hy8x16 => (intro w hSw; go_simp <;> with_reducible rfl)
      try simp only [Act.put, List.setIfInBounds_toArray, List.set_cons_zero, List.set_cons_succ]
      refine wpAnyH_take (i := 16) (oi := { dst := some 160, op := _, type := _, pos := _, after := _, guard := _ }) (v := ?v8x17) rfl (by kernel_rfl) (by kernel_rfl) (by kernel_rfl) (fun _ _ _ h => h) (Or.inl ⟨by rfl, ?hy8x17⟩) hHeld ?rest8x17
      case hy8x17 => (intro w hSw; go_simp <;> with_reducible rfl)
      try simp only [Act.put, List.setIfInBounds_toArray, List.set_cons_zero, List.set_cons_succ]
      refine wpAnyH_done (by kernel_rfl) ?_ _
      have hbel := below_on s7 hHeld
      clear hcr hcr0 dX HPB PM PB dG dX7
      have HS5 := hide (HS.out.mem hbel)
      go_upto_region 99 with (refine wpList_storeQ rfl 27 (.tmp 2) (.tmp 161) rfl gz 27 (zeroP 0) none 0 0 none 0 0 (zeroP 0) none 0 0 none 0 0 rfl rfl (HS5.out).hz (by kernel_rfl) ?_; intro V2 bV2 BV2)
      refine bodyPost_ret (results_cell_tmp rfl rfl bV2 Try.underlying27 rfl (by kernel_rfl)) rfl ?_
      refine HOP.out _ _ ?_
      rw [hO0]
      exact ⟨rfl, ((HS5.out).ans BV2).2.below (Below.refl _ _) hwgr (Nat.le_refl _)⟩

end Go.Proofs.Ytdlhcecmodefkaa

namespace Go.Proofs.Ytdlhcecmodefkaa
set_option linter.unusedVariables false
set_option linter.unusedSimpArgs false
open Go.RowKit

theorem PsS.row {L : Nat} {w V V' : World} {gp gr gz : Nat} {p : Pk} {C : Option Addr} {nc kc : Nat} {S : Option Addr} {ns ks : Nat} {s : Rdr} (h : PsS L w V gp gr gz p C nc kc S ns ks s) {T : Nat → Prop} (b : But T V V') (hT : ∀ i, T i → L ≤ i ∧ w.heap.size ≤ i ∧ i ≠ gp ∧ i ≠ gr ∧ i ≠ gz) : PsS L w V' gp gr gz p C nc kc S ns ks s := by
  obtain ⟨A, k, hB, hk, hR, hL⟩ := h.hr
  refine ⟨h.hp.but b (fun e => (hT _ e).2.2.1 rfl), ⟨A, k, hB.but b (fun e => (hT _ e).2.2.2.1 rfl), hk, hR.but b (fun x o e ht => by have h1 : x < L := hL _ e; have := (hT x ht).1; omega), hL⟩, h.hz.but b (fun e => (hT _ e).2.2.2.2 rfl), ⟨h.aft.1.trans b (fun i hi e => by have := (hT i e).2.1; omega), fun B l xs hr => ?_⟩, h.ne⟩
  refine ⟨hr.1, fun hl => ?_⟩
  obtain ⟨x, o, e, hx, -⟩ := hr.2 hl
  exact ((h.aft.2 B l xs hr).but b (fun x' o' e' ht => by rw [e] at e'; injection e' with e'; injection e' with e1; have := (hT x' ht).2.1; omega)).2 hl

set_option maxRecDepth 100000 in
set_option maxHeartbeats 8000000 in
theorem rparse9 (A : Option Addr) (n k : Nat) (xs : List UInt8) (w : World) (f a b : Nat) (hR : Rd w A n (bv xs)) (hx : xs.length = n) (hk : n ≤ k) (h65 : n ≤ 65535) (h2 : 2 ≤ n) (hf : (xs.headD 0).toNat = f) (hA : atR xs 1 = (a, b, 0)) (ht : f / 16 = 9) :
    Calls Try.prog 17 #[.slice A n k] w (RpPost (readP xs) w) := by
  have HR := hide hR
  have Hx := hide hx
  have Hf := hide hf
  have HA := hide hA
  have hb := atR_putQ xs 1 (by rw [hA])
  rw [hA] at hb
  obtain ⟨j, hj1, hj2, hj3, hbj, -, -⟩ := hb
  simp only at hbj
  have hbn : b ≤ n := by omega
  have hb63 : b ≤ 65535 := by omega
  obtain ⟨CA, hCA⟩ : ∃ CA, cutA A b k = CA := ⟨_, rfl⟩
  have HTL := hide (show ∀ W, Below w.heap.size w W → Rd W CA (n - b) (bv (xs.drop b)) from fun W bb => by rw [← hCA, ← bv_drop]; exact (hR.keep bb).tail b k hbn hk)
  have PA := fun W (hW : Rd W A n (bv xs)) => rvAt_any A n k 1 xs W hW (by unfold maxLen; omega) hx (by omega)
  rw [hA] at PA
  have hsl := fun W => run_slTail (P := Try.prog) 31 5 Try.underlying31 u8_size A n k (b : Int) b rfl (by omega) W
  rw [hCA] at hsl
  obtain ⟨bA, oA, hAe, hbl, hcell⟩ := hR.at_ (k := 0) (by omega)
  have HCL := hide (show ∀ a, CA = some a → a.block < w.heap.size from by rw [← hCA]; exact cutA_loc (fun a e => by rw [hAe] at e; injection e with e; rw [← e]; exact hbl) b k)
  obtain ⟨c, tl, hxc⟩ : ∃ c tl, xs = c :: tl := by cases xs with | nil => simp at hx; omega | cons c tl => exact ⟨c, tl, rfl⟩
  have hcf : c.toNat = f := by rw [← hf, hxc]; rfl
  have HC := hide (show ∀ W, Below w.heap.size w W → W.cell? ⟨bA, oA, none⟩ = some (.int .u8 (f : Int)) from fun W bb => by
    have h0 : w.cell? ⟨bA, oA + 0, none⟩ = some (.int .u8 (c.toNat : Int)) := hcell 0 _ (by rw [hxc]; rfl)
    rw [hcf] at h0
    exact (bb.cell (p := ⟨bA, oA, none⟩) hbl).trans h0)
  have hf255 : f ≤ 255 := by have := c.toNat_lt; omega
  obtain ⟨t, ht16⟩ : ∃ t, f / 16 = t := ⟨_, rfl⟩
  rw [ht16] at ht
  have hq16 : (f : Int) / 16 = (t : Int) := by omega
  have Ht16 := hide ht16
  have Ht := hide ht
  subst hAe
  have qn2 : ¬ (n : Int) < 2 := by omega
  clear hR hx hf hA hj1 hj2 hj3 hbj hCA hcell hxc hcf ht ht16
  go_enter Try.func17, Try.ntmps17
  go_upto_region 1 with fail
  generalize hW : w.alloc _ = W
  obtain ⟨gz, hgz, hBz, bW, hsz⟩ := boxedP (p := zeroP 0) (C := none) (nc := 0) (kc := 0) (S := none) (ns := 0) (ks := 0) hW
  have bw : Below w.heap.size w W := by rw [hgz]; exact bW
  rw [hgz]
  have HZ := hide hBz
  have BW := hide bw
  have Hgz := hide hgz
  have cc := HC.out W bw
  have hzl : gz < W.heap.size := hBz.lt
  clear hW hBz bW bw hsz hgz
  go_upto_region 5 with (refine wpList_storeQ rfl 27 (.tmp 5) (.tmp 21) rfl W.heap.size 27 (zeroP 0) none 0 0 none 0 0 (zeroP (t : Int)) none 0 0 none 0 0 rfl rfl (Blk.new W 27 (pkVs (zeroP 0) none 0 0 none 0 0)) (by kernel_rfl) ?_; intro V1 bV1 BV1)
  have b1 : Below W.heap.size W V1 := But.below ((Below.refl _ _).alloc (Nat.le_refl _) _) BV1 (fun i e => by omega) (by simp)
  obtain ⟨gp, hgp⟩ : ∃ gp, W.heap.size = gp := ⟨_, rfl⟩
  have HP := hide bV1
  rw [hgp] at HP hzl ⊢
  have HZ := hide (HZ.out.keep b1)
  have BW := hide (below_on BW.out b1)
  have hwgp : w.heap.size < gp := by have := Hgz.out; omega
  have hpl := HP.out.lt
  clear bV1 BV1 b1 hgp cc hq16
  have PA := PA V1 (HR.out.keep BW.out)
  go_wp2_with fail
  refine PA.mono ?_
  rintro e V2 ⟨rfl, q, hq⟩
  have b2 : Below V1.heap.size V1 V2 := by rw [hq]; exact below_drewN (Below.refl _ _) q
  have HZ := hide (HZ.out.keep b2)
  have HP := hide (HP.out.keep b2)
  have BW := hide (below_on BW.out b2)
  have hpl := HP.out.lt
  clear PA b2 hq
  go_upto_region 9 with fail
  generalize hV : V2.alloc _ = V
  have hVr : Blk V V2.heap.size 71 [.slice CA (n - b) (k - b), .bool false] := by rw [← hV]; exact Blk.new V2 71 [.slice CA (n - b) (k - b), .bool false]
  have b3 : Below V2.heap.size V2 V := by rw [← hV]; exact (Below.refl _ _).alloc (Nat.le_refl _) _
  obtain ⟨gr, hgr⟩ : ∃ gr, V2.heap.size = gr := ⟨_, rfl⟩
  rw [hgr] at hVr hpl ⊢
  have hld : (xs.drop b).length = n - b := by rw [List.length_drop, Hx.out]
  have BW := hide (below_on BW.out b3)
  have HS := hide (show PsS w.heap.size w V gp gr gz (zeroP (t : Int)) none 0 0 none 0 0 (xs.drop b, false) from ⟨HP.out.keep b3, ⟨CA, k - b, by rw [hld]; exact hVr, by rw [hld]; omega, by rw [hld]; exact HTL.out V BW.out, HCL.out⟩, HZ.out.keep b3, ⟨But.ofBelow BW.out _, KeepB.ofBelow BW.out⟩, by have := Hgz.out; omega⟩)
  have hwgr : w.heap.size ≤ gr := by omega
  have hls : (xs.drop b).length ≤ 65535 := by omega
  obtain ⟨s0, hs0⟩ : ∃ s0 : Rdr, (xs.drop b, false) = s0 := ⟨_, rfl⟩
  have Hs0 := hide hs0
  have hl0 : s0.1.length ≤ 65535 := by rw [← hs0]; exact hls
  rw [hs0] at HS
  obtain ⟨O, hO⟩ : ∃ O, readP xs = O := ⟨_, rfl⟩
  have HO := hide (show (if (bodyR t f s0).2.2 = true ∨ mayP (bodyR t f s0).1 = false ∨ layP (bodyR t f s0).1 ≠ xs then none else some (bodyR t f s0).1) = O from by
    rw [← hO]
    have hn2 : ¬ xs.length < 2 := by have := Hx.out; omega
    unfold readP
    simp only [if_neg hn2, HA.out, Hf.out, Ht16.out, hs0, ne_eq, not_true_eq_false, if_false])
  have HOP := hide (show ∀ e w', RpPost O w e w' → RpPost (readP xs) w e w' from fun e w' h => by rw [hO]; exact h)
  clear HP HZ HA hV hVr b3 hgr hld hls hs0 hO hsl HC Hgz hbl
  have c0 : V.cell? ⟨gp, 0, none⟩ = some (.int .i64 (t : Int)) := HS.out.hp.cell 0
  obtain rfl : t = 9 := Ht.out
  have PB1 := hide (fun W s' (hR : RdL w.heap.size W gr s') hl => rdBL_any gr s' W hR hl)
  have PW := fun W (hW : RdL w.heap.size W gr s0) => rdWL_any gr s0 W hW (by omega)
  obtain ⟨id, hid⟩ : ∃ id, (rW s0).1 = id := ⟨_, rfl⟩
  obtain ⟨s1, hs1⟩ : ∃ s1, (rW s0).2 = s1 := ⟨_, rfl⟩
  rw [hid, hs1] at PW
  have hl1 : s1.1.length ≤ 65535 := by rw [← hs1]; exact Nat.le_trans (rW_le s0).1 hl0
  obtain ⟨ys, bd⟩ := s1
  obtain ⟨all, hall⟩ : ∃ all : List Int, ys.map (fun c => (c.toNat : Int)) = all := ⟨_, rfl⟩
  obtain ⟨p, hp⟩ : ∃ p : Pk, ⟨9, false, (id : Int), [], [], 0, false, [], false, 0, false, false, false, [], [], false, all, []⟩ = p := ⟨_, rfl⟩
  obtain ⟨s, hs⟩ : ∃ s : Rdr, ([], bd) = s := ⟨_, rfl⟩
  have hal : all.length ≤ 65535 := by rw [← hall, List.length_map]; exact hl1
  have HPS := hide (show PkS p from by rw [← hp]; simp only [PkS, List.length_nil]; exact ⟨by omega, by omega, by omega, by omega, by omega, hal, by omega, fun s hs => by cases hs⟩)
  have HO := hide (show (if s.2 = true ∨ mayP p = false ∨ layP p ≠ xs then none else some p) = O from by
    have := HO.out
    rw [show bodyR 9 f s0 = (p, s) from by unfold bodyR; rw [if_neg (by omega), if_neg (by omega), if_neg (by omega), if_neg (by omega), if_neg (by omega), if_pos rfl, hid, hs1, ← hp, ← hs, ← hall]; rfl] at this
    exact this)
  have Hp := hide hp
  have Hs := hide hs
  have HAll := hide hall
  simp only at hl1
  clear hid hs1 hp hs hall
  go_wp2_with (go_at_call 46; refine (PW _ HS.out.hr).mono ?_; rintro e V3 ⟨rfl, r3, a3⟩; have HS := hide (HS.out.call r3 a3); have cc : V3.cell? ⟨gp, 2, none⟩ = some (.int .i64 0) := HS.out.hp.cell 2; have ff := HS.out.hp.frozen; clear r3 a3)
  have HS := hide (HS.out.set 2 (.int .i64 (id : Int)) ⟨9, false, (id : Int), [], [], 0, false, [], false, 0, false, false, false, [], [], false, [], []⟩ rfl)
  generalize V3.setCell ⟨gp, 2, none⟩ (.int .i64 (id : Int)) = V4 at *
  clear cc ff c0 PW
  go_loopg [] ys.length (fun k wr => ∃ (dn : List Int) (C : Option Addr) (kc : Nat) (zs : List UInt8), zs.length = k ∧ dn ++ zs.map (fun c => (c.toNat : Int)) = all ∧ PsS w.heap.size w wr gp gr gz ⟨9, false, (id : Int), [], [], 0, false, [], false, 0, false, false, false, [], [], false, dn, []⟩ C dn.length kc none 0 0 (zs, bd) ∧ wr.ownsRow w.heap.size 3 1 (.slice C dn.length kc) dn.length (iv dn) ∧ (∀ b o, C = some ⟨b, o, none⟩ → b ≠ gp ∧ b ≠ gr ∧ b ≠ gz))
  case atStart => exact ⟨[], none, 0, ys, rfl, by simpa using HAll.out, HS.out, World.ownsRow_nil _ _ _ _, fun _ _ e => by cases e⟩
  case round =>
    obtain ⟨dn, C, kc, zs, hzk, hal2, hS, hO, hoff⟩ := hrel
    have HS := hide hS
    have HO2 := hide hO
    have HOff := hide hoff
    have HAl := hide hal2
    obtain ⟨A3, k3, hBr3, hk3, hR3, hL3⟩ := hS.hr
    have hdn : dn.length + zs.length ≤ 65535 := by
      have := congrArg List.length hal2
      simp at this
      omega
    have hCn : ∀ b o, C = some ⟨b, o, none⟩ → w.heap.size ≤ b := fun b o e => ownS_new hO b o e
    clear hS hO hoff hal2
    cases zs with
    | nil =>
      have cr : wr.cell? ⟨gr, 0, none⟩ = some (.slice A3 0 k3) := hBr3.cell 0
      have hdn2 : dn = all := by simpa using HAl.out
      subst hdn2
      clear hBr3 hk3 hR3 hL3
      go_upto_region 40 with fail
      clear cr
      have HS0 := HS
      have HM0 : PkM wr p C dn.length kc none 0 0 := by
        rw [← Hp.out]
        exact ⟨rfl, own_cap HO2.out, own_rd HO2.out, rfl, Nat.le_refl _, Rd.nil _ _⟩
      obtain ⟨C, nc, kc, S, ns, ks, HS, HM, HN, HOF⟩ : ∃ (C : Option Addr) (nc kc : Nat) (S : Option Addr) (ns ks : Nat), Hid (PsS w.heap.size w wr gp gr gz p C nc kc S ns ks s) ∧ Hid (PkM wr p C nc kc S ns ks) ∧ Hid (NewAt w C ∧ NewAt w S) ∧ Hid ((0 < nc → Off (fun i => i = gz) C) ∧ (0 < ns → Off (fun i => i = gz) S)) := ⟨C, dn.length, kc, none, 0, 0, hide (by rw [← Hp.out, ← Hs.out]; exact HS0.out), hide HM0, hide ⟨hCn, NewAt.nil _⟩, hide ⟨fun _ b o e h => (HOff.out b o e).2.2 h, fun h => by omega⟩⟩
      clear HS0 HM0
      go_upto_region 40 with fail
      have hwV : Below w.heap.size w wr := HS.out.aft.below (Below.refl _ _) hwgr (Nat.le_refl _)
      have dX := strOn (HR.out.keep hwV)
      obtain ⟨ys, bd⟩ := s
      obtain ⟨A2, k2, hBr, -⟩ := HS.out.hr
      have hcr0 := hBr.cell 1
      simp only [List.getElem?_cons_zero, List.getElem?_cons_succ] at hcr0
      have hgrl := hBr.lt
      have hPl := HS.out.hp
      clear hBr
      cases bd with
      | true =>
        have hO0 : O = none := by rw [← HO.out, if_pos (Or.inl rfl)]
        have hcr : ∀ w', Below wr.heap.size wr w' → w'.cell? ⟨gr, 1, none⟩ = some (.bool true) := fun w' h => (h.cell (p := ⟨gr, 1, none⟩) hgrl).trans hcr0
        refine wp_region_held_drew (S := fun w' => Below wr.heap.size wr w') (by kernel_rfl) ?_ (fun hHeld => ?_)
        · exact (Below.refl _ _).drew
        refine wpAnyH_take (i := 0) (oi := { dst := some 144, op := _, type := _, pos := _, after := _, guard := _ }) (v := ?v9x1) rfl (by kernel_rfl) (by kernel_rfl) (by kernel_rfl) (fun _ _ _ h => h) (Or.inl ⟨by rfl, ?hy9x1⟩) hHeld ?rest9x1
        case hy9x1 => (intro w hSw; go_simp <;> with_reducible rfl)
        try simp only [Act.put, List.setIfInBounds_toArray, List.set_cons_zero, List.set_cons_succ]
        refine wpAnyH_take (i := 1) (oi := { dst := some 145, op := _, type := _, pos := _, after := _, guard := _ }) (v := ?v9x2) rfl (by kernel_rfl) (by kernel_rfl) (by kernel_rfl) (fun _ _ _ h => h) (Or.inl ⟨by rfl, ?hy9x2⟩) hHeld ?rest9x2
        case hy9x2 => (intro w hSw; go_simp <;> with_reducible rfl)
        try simp only [Act.put, List.setIfInBounds_toArray, List.set_cons_zero, List.set_cons_succ]
        refine wpAnyH_take (i := 2) (oi := { dst := some 146, op := _, type := _, pos := _, after := _, guard := _ }) (v := ?v9x3) rfl (by kernel_rfl) (by kernel_rfl) (by kernel_rfl) (fun _ _ _ h => h) (Or.inl ⟨by rfl, ?hy9x3⟩) hHeld ?rest9x3
        case hy9x3 => (intro w hSw; go_simp <;> with_reducible rfl)
        try simp only [Act.put, List.setIfInBounds_toArray, List.set_cons_zero, List.set_cons_succ]
        refine wpAnyH_take (i := 3) (oi := { dst := some 147, op := _, type := _, pos := _, after := _, guard := _ }) (v := ?v9x4) rfl (by kernel_rfl) (by kernel_rfl) (by kernel_rfl) (fun _ _ _ h => h) (Or.inl ⟨by rfl, ?hy9x4⟩) hHeld ?rest9x4
        case hy9x4 => (intro w hSw; go_simp <;> with_reducible rfl)
        try simp only [Act.put, List.setIfInBounds_toArray, List.set_cons_zero, List.set_cons_succ]
        refine wpAnyH_take (i := 4) (oi := { dst := some 148, op := _, type := _, pos := _, after := _, guard := _ }) (v := ?v9x5) rfl (by kernel_rfl) (by kernel_rfl) (by kernel_rfl) (fun _ _ _ h => h) (Or.inl ⟨by rfl, ?hy9x5⟩) hHeld ?rest9x5
        case hy9x5 => (intro w hSw; go_simp <;> with_reducible rfl)
        try simp only [Act.put, List.setIfInBounds_toArray, List.set_cons_zero, List.set_cons_succ]
        refine wpAnyH_take (i := 5) (oi := { dst := some 149, op := _, type := _, pos := _, after := _, guard := _ }) (v := undef) rfl (by kernel_rfl) (by kernel_rfl) (by kernel_rfl) (fun _ _ _ h => h) (Or.inr ⟨by rfl, rfl⟩) hHeld ?_
        try simp only [Act.put, List.setIfInBounds_toArray, List.set_cons_zero, List.set_cons_succ]
        refine wpAnyH_take (i := 6) (oi := { dst := some 150, op := _, type := _, pos := _, after := _, guard := _ }) (v := undef) rfl (by kernel_rfl) (by kernel_rfl) (by kernel_rfl) (fun _ _ _ h => h) (Or.inr ⟨by rfl, rfl⟩) hHeld ?_
        try simp only [Act.put, List.setIfInBounds_toArray, List.set_cons_zero, List.set_cons_succ]
        refine wpAnyH_take (i := 7) (oi := { dst := some 151, op := _, type := _, pos := _, after := _, guard := _ }) (v := undef) rfl (by kernel_rfl) (by kernel_rfl) (by kernel_rfl) (fun _ _ _ h => h) (Or.inr ⟨by rfl, rfl⟩) hHeld ?_
        try simp only [Act.put, List.setIfInBounds_toArray, List.set_cons_zero, List.set_cons_succ]
        refine wpAnyH_take (i := 8) (oi := { dst := some 152, op := _, type := _, pos := _, after := _, guard := _ }) (v := ?v9x9) rfl (by kernel_rfl) (by kernel_rfl) (by kernel_rfl) (fun _ _ _ h => h) (Or.inl ⟨by rfl, ?hy9x9⟩) hHeld ?rest9x9
        case hy9x9 => (intro w hSw; go_simp <;> with_reducible rfl)
        try simp only [Act.put, List.setIfInBounds_toArray, List.set_cons_zero, List.set_cons_succ]
        refine wpAnyH_take (i := 9) (oi := { dst := some 153, op := _, type := _, pos := _, after := _, guard := _ }) (v := ?v9x10) rfl (by kernel_rfl) (by kernel_rfl) (by kernel_rfl) (fun _ _ _ h => h) (Or.inl ⟨by rfl, ?hy9x10⟩) hHeld ?rest9x10
        case hy9x10 => (intro w hSw; go_simp <;> with_reducible rfl)
        try simp only [Act.put, List.setIfInBounds_toArray, List.set_cons_zero, List.set_cons_succ]
        refine wpAnyH_take (i := 10) (oi := { dst := some 154, op := _, type := _, pos := _, after := _, guard := _ }) (v := undef) rfl (by kernel_rfl) (by kernel_rfl) (by kernel_rfl) (fun _ _ _ h => h) (Or.inr ⟨by rfl, rfl⟩) hHeld ?_
        try simp only [Act.put, List.setIfInBounds_toArray, List.set_cons_zero, List.set_cons_succ]
        refine wpAnyH_take (i := 11) (oi := { dst := some 155, op := _, type := _, pos := _, after := _, guard := _ }) (v := undef) rfl (by kernel_rfl) (by kernel_rfl) (by kernel_rfl) (fun _ _ _ h => h) (Or.inr ⟨by rfl, rfl⟩) hHeld ?_
        try simp only [Act.put, List.setIfInBounds_toArray, List.set_cons_zero, List.set_cons_succ]
        refine wpAnyH_take (i := 12) (oi := { dst := some 156, op := _, type := _, pos := _, after := _, guard := _ }) (v := undef) rfl (by kernel_rfl) (by kernel_rfl) (by kernel_rfl) (fun _ _ _ h => h) (Or.inr ⟨by rfl, rfl⟩) hHeld ?_
        try simp only [Act.put, List.setIfInBounds_toArray, List.set_cons_zero, List.set_cons_succ]
        refine wpAnyH_take (i := 13) (oi := { dst := some 157, op := _, type := _, pos := _, after := _, guard := _ }) (v := undef) rfl (by kernel_rfl) (by kernel_rfl) (by kernel_rfl) (fun _ _ _ h => h) (Or.inr ⟨by rfl, rfl⟩) hHeld ?_
        try simp only [Act.put, List.setIfInBounds_toArray, List.set_cons_zero, List.set_cons_succ]
        refine wpAnyH_take (i := 14) (oi := { dst := some 158, op := _, type := _, pos := _, after := _, guard := _ }) (v := undef) rfl (by kernel_rfl) (by kernel_rfl) (by kernel_rfl) (fun _ _ _ h => h) (Or.inr ⟨by rfl, rfl⟩) hHeld ?_
        try simp only [Act.put, List.setIfInBounds_toArray, List.set_cons_zero, List.set_cons_succ]
        refine wpAnyH_take (i := 15) (oi := { dst := some 159, op := _, type := _, pos := _, after := _, guard := _ }) (v := undef) rfl (by kernel_rfl) (by kernel_rfl) (by kernel_rfl) (fun _ _ _ h => h) (Or.inr ⟨by rfl, rfl⟩) hHeld ?_
        try simp only [Act.put, List.setIfInBounds_toArray, List.set_cons_zero, List.set_cons_succ]
        refine wpAnyH_take (i := 16) (oi := { dst := some 160, op := _, type := _, pos := _, after := _, guard := _ }) (v := ?v9x17) rfl (by kernel_rfl) (by kernel_rfl) (by kernel_rfl) (fun _ _ _ h => h) (Or.inl ⟨by rfl, ?hy9x17⟩) hHeld ?rest9x17
        case hy9x17 => (intro w hSw; go_simp <;> with_reducible rfl)
        try simp only [Act.put, List.setIfInBounds_toArray, List.set_cons_zero, List.set_cons_succ]
        refine wpAnyH_done (by kernel_rfl) ?_ _
        clear hcr hcr0 dX
        have HS5 := hide (HS.out.mem hHeld)
        go_upto_region 99 with (refine wpList_storeQ rfl 27 (.tmp 2) (.tmp 161) rfl gz 27 (zeroP 0) none 0 0 none 0 0 (zeroP 0) none 0 0 none 0 0 rfl rfl (HS5.out).hz (by kernel_rfl) ?_; intro V2 bV2 BV2)
        refine bodyPost_ret (results_cell_tmp rfl rfl bV2 Try.underlying27 rfl (by kernel_rfl)) rfl ?_
        refine HOP.out _ _ ?_
        rw [hO0]
        exact ⟨rfl, ((HS5.out).ans BV2).2.below (Below.refl _ _) hwgr (Nat.le_refl _)⟩
      | false =>
        have hcr : ∀ w', Below wr.heap.size wr w' → w'.cell? ⟨gr, 1, none⟩ = some (.bool false) := fun w' h => (h.cell (p := ⟨gr, 1, none⟩) hgrl).trans hcr0
        have HPB : ∀ w', Below wr.heap.size wr w' → Blk w' gp 27 (pkVs p C nc kc S ns ks) := fun w' h => hPl.keep h
        have PM := fun W (hb : Below wr.heap.size wr W) => may_any p C nc kc S ns ks W (HM.out.keep hb) HPS.out
        by_cases hmv : mayP p = true
        case neg =>
          have hmf : mayP p = false := by rw [← Bool.not_eq_true]; exact hmv
          have hO0 : O = none := by rw [← HO.out, if_pos (Or.inr (Or.inl hmf))]
          rw [hmf] at PM
          clear hmv
          refine wp_region_held_drew (S := fun w' => Below wr.heap.size wr w') (by kernel_rfl) ?_ (fun hHeld => ?_)
          · exact (Below.refl _ _).drew
          refine wpAnyH_take (i := 0) (oi := { dst := some 144, op := _, type := _, pos := _, after := _, guard := _ }) (v := ?v10x1) rfl (by kernel_rfl) (by kernel_rfl) (by kernel_rfl) (fun _ _ _ h => h) (Or.inl ⟨by rfl, ?hy10x1⟩) hHeld ?rest10x1
          case hy10x1 => (intro w hSw; go_simp <;> with_reducible rfl)
          try simp only [Act.put, List.setIfInBounds_toArray, List.set_cons_zero, List.set_cons_succ]
          refine wpAnyH_take (i := 1) (oi := { dst := some 145, op := _, type := _, pos := _, after := _, guard := _ }) (v := ?v10x2) rfl (by kernel_rfl) (by kernel_rfl) (by kernel_rfl) (fun _ _ _ h => h) (Or.inl ⟨by rfl, ?hy10x2⟩) hHeld ?rest10x2
          case hy10x2 => (intro w hSw; go_simp <;> with_reducible rfl)
          try simp only [Act.put, List.setIfInBounds_toArray, List.set_cons_zero, List.set_cons_succ]
          refine wpAnyH_take (i := 2) (oi := { dst := some 146, op := _, type := _, pos := _, after := _, guard := _ }) (v := ?v10x3) rfl (by kernel_rfl) (by kernel_rfl) (by kernel_rfl) (fun _ _ _ h => h) (Or.inl ⟨by rfl, ?hy10x3⟩) hHeld ?rest10x3
          case hy10x3 => (intro w hSw; go_simp <;> with_reducible rfl)
          try simp only [Act.put, List.setIfInBounds_toArray, List.set_cons_zero, List.set_cons_succ]
          refine wpAnyH_take (i := 3) (oi := { dst := some 147, op := _, type := _, pos := _, after := _, guard := _ }) (v := ?v10x4) rfl (by kernel_rfl) (by kernel_rfl) (by kernel_rfl) (fun _ _ _ h => h) (Or.inl ⟨by rfl, ?hy10x4⟩) hHeld ?rest10x4
          case hy10x4 => (intro w hSw; go_simp <;> with_reducible rfl)
          try simp only [Act.put, List.setIfInBounds_toArray, List.set_cons_zero, List.set_cons_succ]
          refine wpAnyH_take (i := 4) (oi := { dst := some 148, op := _, type := _, pos := _, after := _, guard := _ }) (v := ?v10x5) rfl (by kernel_rfl) (by kernel_rfl) (by kernel_rfl) (fun _ _ _ h => h) (Or.inl ⟨by rfl, ?hy10x5⟩) hHeld ?rest10x5
          case hy10x5 => (intro w hSw; go_simp <;> with_reducible rfl)
          try simp only [Act.put, List.setIfInBounds_toArray, List.set_cons_zero, List.set_cons_succ]
          refine wpAnyH_take (i := 5) (oi := { dst := some 149, op := _, type := _, pos := _, after := _, guard := _ }) (v := ?v10x6) rfl (by kernel_rfl) (by kernel_rfl) (by kernel_rfl) (fun _ _ _ h => h) (Or.inl ⟨by rfl, ?hy10x6⟩) hHeld ?rest10x6
          case hy10x6 => (intro w hSw; refine exec_loadP 27 (.tmp 5) ?_ gp 27 p C nc kc S ns ks ?_ (HPB w hSw) Try.underlying27 ?_ ?_; rfl; rfl; rfl; kernel_rfl)
          try simp only [Act.put, List.setIfInBounds_toArray, List.set_cons_zero, List.set_cons_succ]
          refine wpAnyH_ready (rs := [6]) (by kernel_rfl) (by simp) (AllReadyH.cons (o := { dst := some 150, op := _, type := _, pos := _, after := _, guard := _ }) rfl (fun K hK => ?_) AllReadyH.nil)
          go_simp
          refine (PM _ hHeld).mono ?_
          rintro e w6 ⟨rfl, b6⟩
          have s6 := below_on hHeld b6
          go_wp2_with fail
          refine hK.out _ _ ?_ (fun hHeld => ?_)
          · exact s6
          clear hK K
          try simp only [Act.put, List.setIfInBounds_toArray, List.set_cons_zero, List.set_cons_succ]
          refine wpAnyH_take (i := 7) (oi := { dst := some 151, op := _, type := _, pos := _, after := _, guard := _ }) (v := ?v10x8) rfl (by kernel_rfl) (by kernel_rfl) (by kernel_rfl) (fun _ _ _ h => h) (Or.inl ⟨by rfl, ?hy10x8⟩) hHeld ?rest10x8
          case hy10x8 => (intro w hSw; go_simp <;> with_reducible rfl)
          try simp only [Act.put, List.setIfInBounds_toArray, List.set_cons_zero, List.set_cons_succ]
          refine wpAnyH_take (i := 8) (oi := { dst := some 152, op := _, type := _, pos := _, after := _, guard := _ }) (v := ?v10x9) rfl (by kernel_rfl) (by kernel_rfl) (by kernel_rfl) (fun _ _ _ h => h) (Or.inl ⟨by rfl, ?hy10x9⟩) hHeld ?rest10x9
          case hy10x9 => (intro w hSw; go_simp <;> with_reducible rfl)
          try simp only [Act.put, List.setIfInBounds_toArray, List.set_cons_zero, List.set_cons_succ]
          refine wpAnyH_take (i := 9) (oi := { dst := some 153, op := _, type := _, pos := _, after := _, guard := _ }) (v := ?v10x10) rfl (by kernel_rfl) (by kernel_rfl) (by kernel_rfl) (fun _ _ _ h => h) (Or.inl ⟨by rfl, ?hy10x10⟩) hHeld ?rest10x10
          case hy10x10 => (intro w hSw; go_simp <;> with_reducible rfl)
          try simp only [Act.put, List.setIfInBounds_toArray, List.set_cons_zero, List.set_cons_succ]
          refine wpAnyH_take (i := 10) (oi := { dst := some 154, op := _, type := _, pos := _, after := _, guard := _ }) (v := undef) rfl (by kernel_rfl) (by kernel_rfl) (by kernel_rfl) (fun _ _ _ h => h) (Or.inr ⟨by rfl, rfl⟩) hHeld ?_
          try simp only [Act.put, List.setIfInBounds_toArray, List.set_cons_zero, List.set_cons_succ]
          refine wpAnyH_take (i := 11) (oi := { dst := some 155, op := _, type := _, pos := _, after := _, guard := _ }) (v := undef) rfl (by kernel_rfl) (by kernel_rfl) (by kernel_rfl) (fun _ _ _ h => h) (Or.inr ⟨by rfl, rfl⟩) hHeld ?_
          try simp only [Act.put, List.setIfInBounds_toArray, List.set_cons_zero, List.set_cons_succ]
          refine wpAnyH_take (i := 12) (oi := { dst := some 156, op := _, type := _, pos := _, after := _, guard := _ }) (v := undef) rfl (by kernel_rfl) (by kernel_rfl) (by kernel_rfl) (fun _ _ _ h => h) (Or.inr ⟨by rfl, rfl⟩) hHeld ?_
          try simp only [Act.put, List.setIfInBounds_toArray, List.set_cons_zero, List.set_cons_succ]
          refine wpAnyH_take (i := 13) (oi := { dst := some 157, op := _, type := _, pos := _, after := _, guard := _ }) (v := undef) rfl (by kernel_rfl) (by kernel_rfl) (by kernel_rfl) (fun _ _ _ h => h) (Or.inr ⟨by rfl, rfl⟩) hHeld ?_
          try simp only [Act.put, List.setIfInBounds_toArray, List.set_cons_zero, List.set_cons_succ]
          refine wpAnyH_take (i := 14) (oi := { dst := some 158, op := _, type := _, pos := _, after := _, guard := _ }) (v := undef) rfl (by kernel_rfl) (by kernel_rfl) (by kernel_rfl) (fun _ _ _ h => h) (Or.inr ⟨by rfl, rfl⟩) hHeld ?_
          try simp only [Act.put, List.setIfInBounds_toArray, List.set_cons_zero, List.set_cons_succ]
          refine wpAnyH_take (i := 15) (oi := { dst := some 159, op := _, type := _, pos := _, after := _, guard := _ }) (v := undef) rfl (by kernel_rfl) (by kernel_rfl) (by kernel_rfl) (fun _ _ _ h => h) (Or.inr ⟨by rfl, rfl⟩) hHeld ?_
          try simp only [Act.put, List.setIfInBounds_toArray, List.set_cons_zero, List.set_cons_succ]
          refine wpAnyH_take (i := 16) (oi := { dst := some 160, op := _, type := _, pos := _, after := _, guard := _ }) (v := ?v10x17) rfl (by kernel_rfl) (by kernel_rfl) (by kernel_rfl) (fun _ _ _ h => h) (Or.inl ⟨by rfl, ?hy10x17⟩) hHeld ?rest10x17
          case hy10x17 => (intro w hSw; go_simp <;> with_reducible rfl)
          try simp only [Act.put, List.setIfInBounds_toArray, List.set_cons_zero, List.set_cons_succ]
          refine wpAnyH_done (by kernel_rfl) ?_ _
          clear hcr hcr0 dX HPB PM
          have HS5 := hide (HS.out.mem hHeld)
          go_upto_region 99 with (refine wpList_storeQ rfl 27 (.tmp 2) (.tmp 161) rfl gz 27 (zeroP 0) none 0 0 none 0 0 (zeroP 0) none 0 0 none 0 0 rfl rfl (HS5.out).hz (by kernel_rfl) ?_; intro V2 bV2 BV2)
          refine bodyPost_ret (results_cell_tmp rfl rfl bV2 Try.underlying27 rfl (by kernel_rfl)) rfl ?_
          refine HOP.out _ _ ?_
          rw [hO0]
          exact ⟨rfl, ((HS5.out).ans BV2).2.below (Below.refl _ _) hwgr (Nat.le_refl _)⟩
        case pos =>
        have PB := fun W (hb : Below wr.heap.size wr W) => rBytes10_any p C nc kc S ns ks W (HM.out.keep hb) HPS.out hmv
        rw [hmv] at PM
        by_cases hl : layP p = xs
        case pos =>
          have hO0 : O = some p := by rw [← HO.out, if_neg (by rw [hmv]; simp [hl])]
          rw [hl] at PB
          refine wp_region_held_drew (S := fun w' => Below wr.heap.size wr w') (by kernel_rfl) ?_ (fun hHeld => ?_)
          · exact (Below.refl _ _).drew
          refine wpAnyH_take (i := 0) (oi := { dst := some 144, op := _, type := _, pos := _, after := _, guard := _ }) (v := ?v11x1) rfl (by kernel_rfl) (by kernel_rfl) (by kernel_rfl) (fun _ _ _ h => h) (Or.inl ⟨by rfl, ?hy11x1⟩) hHeld ?rest11x1
          case hy11x1 => (intro w hSw; go_simp <;> with_reducible rfl)
          try simp only [Act.put, List.setIfInBounds_toArray, List.set_cons_zero, List.set_cons_succ]
          refine wpAnyH_take (i := 1) (oi := { dst := some 145, op := _, type := _, pos := _, after := _, guard := _ }) (v := ?v11x2) rfl (by kernel_rfl) (by kernel_rfl) (by kernel_rfl) (fun _ _ _ h => h) (Or.inl ⟨by rfl, ?hy11x2⟩) hHeld ?rest11x2
          case hy11x2 => (intro w hSw; go_simp <;> with_reducible rfl)
          try simp only [Act.put, List.setIfInBounds_toArray, List.set_cons_zero, List.set_cons_succ]
          refine wpAnyH_take (i := 2) (oi := { dst := some 146, op := _, type := _, pos := _, after := _, guard := _ }) (v := ?v11x3) rfl (by kernel_rfl) (by kernel_rfl) (by kernel_rfl) (fun _ _ _ h => h) (Or.inl ⟨by rfl, ?hy11x3⟩) hHeld ?rest11x3
          case hy11x3 => (intro w hSw; go_simp <;> with_reducible rfl)
          try simp only [Act.put, List.setIfInBounds_toArray, List.set_cons_zero, List.set_cons_succ]
          refine wpAnyH_take (i := 3) (oi := { dst := some 147, op := _, type := _, pos := _, after := _, guard := _ }) (v := ?v11x4) rfl (by kernel_rfl) (by kernel_rfl) (by kernel_rfl) (fun _ _ _ h => h) (Or.inl ⟨by rfl, ?hy11x4⟩) hHeld ?rest11x4
          case hy11x4 => (intro w hSw; go_simp <;> with_reducible rfl)
          try simp only [Act.put, List.setIfInBounds_toArray, List.set_cons_zero, List.set_cons_succ]
          refine wpAnyH_take (i := 4) (oi := { dst := some 148, op := _, type := _, pos := _, after := _, guard := _ }) (v := ?v11x5) rfl (by kernel_rfl) (by kernel_rfl) (by kernel_rfl) (fun _ _ _ h => h) (Or.inl ⟨by rfl, ?hy11x5⟩) hHeld ?rest11x5
          case hy11x5 => (intro w hSw; go_simp <;> with_reducible rfl)
          try simp only [Act.put, List.setIfInBounds_toArray, List.set_cons_zero, List.set_cons_succ]
          refine wpAnyH_take (i := 5) (oi := { dst := some 149, op := _, type := _, pos := _, after := _, guard := _ }) (v := ?v11x6) rfl (by kernel_rfl) (by kernel_rfl) (by kernel_rfl) (fun _ _ _ h => h) (Or.inl ⟨by rfl, ?hy11x6⟩) hHeld ?rest11x6
          case hy11x6 => (intro w hSw; refine exec_loadP 27 (.tmp 5) ?_ gp 27 p C nc kc S ns ks ?_ (HPB w hSw) Try.underlying27 ?_ ?_; rfl; rfl; rfl; kernel_rfl)
          try simp only [Act.put, List.setIfInBounds_toArray, List.set_cons_zero, List.set_cons_succ]
          refine wpAnyH_ready (rs := [6]) (by kernel_rfl) (by simp) (AllReadyH.cons (o := { dst := some 150, op := _, type := _, pos := _, after := _, guard := _ }) rfl (fun K hK => ?_) AllReadyH.nil)
          go_simp
          refine (PM _ hHeld).mono ?_
          rintro e w6 ⟨rfl, b6⟩
          have s6 := below_on hHeld b6
          have dX6 : ∀ w', Below w6.heap.size w6 w' → ∀ c, (convert 31 9 (.slice (some ⟨bA, oA, none⟩) n c)).run Try.prog w' = .ok (.string (str xs)) w' := fun w' h => dX w' (below_on s6 h)
          go_wp2_with fail
          refine hK.out _ _ ?_ (fun hHeld => ?_)
          · exact below_on hHeld b6
          clear hK K
          try simp only [Act.put, List.setIfInBounds_toArray, List.set_cons_zero, List.set_cons_succ]
          refine wpAnyH_strong (S' := fun w' => Below w6.heap.size w6 w') (by intro w' h; exact below_on hHeld h) ?_
          replace hHeld : (fun w' => Below w6.heap.size w6 w') _ := Below.refl _ _
          refine wpAnyH_take (i := 7) (oi := { dst := some 151, op := _, type := _, pos := _, after := _, guard := _ }) (v := ?v11x8) rfl (by kernel_rfl) (by kernel_rfl) (by kernel_rfl) (fun _ _ _ h => h) (Or.inl ⟨by rfl, ?hy11x8⟩) hHeld ?rest11x8
          case hy11x8 => (intro w hSw; go_simp <;> with_reducible rfl)
          try simp only [Act.put, List.setIfInBounds_toArray, List.set_cons_zero, List.set_cons_succ]
          refine wpAnyH_take (i := 8) (oi := { dst := some 152, op := _, type := _, pos := _, after := _, guard := _ }) (v := ?v11x9) rfl (by kernel_rfl) (by kernel_rfl) (by kernel_rfl) (fun _ _ _ h => h) (Or.inl ⟨by rfl, ?hy11x9⟩) hHeld ?rest11x9
          case hy11x9 => (intro w hSw; go_simp <;> with_reducible rfl)
          try simp only [Act.put, List.setIfInBounds_toArray, List.set_cons_zero, List.set_cons_succ]
          refine wpAnyH_take (i := 9) (oi := { dst := some 153, op := _, type := _, pos := _, after := _, guard := _ }) (v := ?v11x10) rfl (by kernel_rfl) (by kernel_rfl) (by kernel_rfl) (fun _ _ _ h => h) (Or.inl ⟨by rfl, ?hy11x10⟩) hHeld ?rest11x10
          case hy11x10 => (intro w hSw; go_simp <;> with_reducible rfl)
          try simp only [Act.put, List.setIfInBounds_toArray, List.set_cons_zero, List.set_cons_succ]
          refine wpAnyH_take (i := 10) (oi := { dst := some 154, op := _, type := _, pos := _, after := _, guard := _ }) (v := ?v11x11) rfl (by kernel_rfl) (by kernel_rfl) (by kernel_rfl) (fun _ _ _ h => h) (Or.inl ⟨by rfl, ?hy11x11⟩) hHeld ?rest11x11
          case hy11x11 => (intro w hSw; refine exec_loadP 27 (.tmp 5) ?_ gp 27 p C nc kc S ns ks ?_ (HPB w (below_on s6 hSw)) Try.underlying27 ?_ ?_; rfl; rfl; rfl; kernel_rfl)
          try simp only [Act.put, List.setIfInBounds_toArray, List.set_cons_zero, List.set_cons_succ]
          refine wpAnyH_take (i := 13) (oi := { dst := some 157, op := _, type := _, pos := _, after := _, guard := _ }) (v := ?v11x12) rfl (by kernel_rfl) (by kernel_rfl) (by kernel_rfl) (fun _ _ _ h => h) (Or.inl ⟨by rfl, ?hy11x12⟩) hHeld ?rest11x12
          case hy11x12 => (intro w hSw; go_simp <;> with_reducible rfl)
          try simp only [Act.put, List.setIfInBounds_toArray, List.set_cons_zero, List.set_cons_succ]
          refine wpAnyH_take (i := 14) (oi := { dst := some 158, op := _, type := _, pos := _, after := _, guard := _ }) (v := ?v11x13) rfl (by kernel_rfl) (by kernel_rfl) (by kernel_rfl) (fun _ _ _ h => h) (Or.inl ⟨by rfl, ?hy11x13⟩) hHeld ?rest11x13
          case hy11x13 => (intro w hSw; go_simp <;> with_reducible rfl)
          try simp only [Act.put, List.setIfInBounds_toArray, List.set_cons_zero, List.set_cons_succ]
          refine wpAnyH_ready (rs := [11]) (by kernel_rfl) (by simp) (AllReadyH.cons (o := { dst := some 155, op := _, type := _, pos := _, after := _, guard := _ }) rfl (fun K hK => ?_) AllReadyH.nil)
          go_simp
          refine (PB _ (below_on s6 hHeld)).mono ?_
          rintro e w7 ⟨G, gk, rfl, hgk, r7, b7⟩
          have s7 := below_on s6 (below_on hHeld b7)
          have dG := strOn r7
          have dX7 : ∀ w', Below w7.heap.size w7 w' → ∀ c, (convert 31 9 (.slice (some ⟨bA, oA, none⟩) n c)).run Try.prog w' = .ok (.string (str xs)) w' := fun w' h => dX w' (below_on s7 h)
          clear dX6
          go_wp2_with fail
          refine hK.out _ _ ?_ (fun hHeld => ?_)
          · exact below_on hHeld b7
          clear hK K
          try simp only [Act.put, List.setIfInBounds_toArray, List.set_cons_zero, List.set_cons_succ]
          refine wpAnyH_strong (S' := fun w' => Below w7.heap.size w7 w') (by intro w' h; exact below_on hHeld h) ?_
          replace hHeld : (fun w' => Below w7.heap.size w7 w') _ := Below.refl _ _
          refine wpAnyH_take (i := 12) (oi := { dst := some 156, op := _, type := _, pos := _, after := _, guard := _ }) (v := ?v11x15) rfl (by kernel_rfl) (by kernel_rfl) (by kernel_rfl) (fun _ _ _ h => h) (Or.inl ⟨by rfl, ?hy11x15⟩) hHeld ?rest11x15
          case hy11x15 => (intro w hSw; go_simp <;> with_reducible rfl)
          try simp only [Act.put, List.setIfInBounds_toArray, List.set_cons_zero, List.set_cons_succ]
          refine wpAnyH_take (i := 15) (oi := { dst := some 159, op := _, type := _, pos := _, after := _, guard := _ }) (v := ?v11x16) rfl (by kernel_rfl) (by kernel_rfl) (by kernel_rfl) (fun _ _ _ h => h) (Or.inl ⟨by rfl, ?hy11x16⟩) hHeld ?rest11x16
          case hy11x16 => (intro w hSw; go_simp <;> with_reducible rfl)
          try simp only [Act.put, List.setIfInBounds_toArray, List.set_cons_zero, List.set_cons_succ]
          refine wpAnyH_take (i := 16) (oi := { dst := some 160, op := _, type := _, pos := _, after := _, guard := _ }) (v := ?v11x17) rfl (by kernel_rfl) (by kernel_rfl) (by kernel_rfl) (fun _ _ _ h => h) (Or.inl ⟨by rfl, ?hy11x17⟩) hHeld ?rest11x17
          case hy11x17 => (intro w hSw; go_simp <;> with_reducible rfl)
          try simp only [Act.put, List.setIfInBounds_toArray, List.set_cons_zero, List.set_cons_succ]
          refine wpAnyH_done (by kernel_rfl) ?_ _
          have hbel := below_on s7 hHeld
          clear hcr hcr0 dX HPB PM PB dG dX7
          have HS5 := hide (HS.out.mem hbel)
          have HM5 := hide (HM.out.keep hbel)
          go_upto_region 99 with (first
            | (refine wpList_loadP rfl 27 (.tmp 5) rfl gp 27 p C nc kc S ns ks rfl HS5.out.hp Try.underlying27 rfl (by kernel_rfl) ?_)
            | (refine wpList_storeQ rfl 27 (.tmp 2) (.tmp 162) rfl gz 27 (zeroP 0) none 0 0 none 0 0 p C nc kc S ns ks rfl rfl HS5.out.hz (by kernel_rfl) ?_; intro V2 bV2 BV2))
          refine bodyPost_ret (results_cell_tmp rfl rfl bV2 Try.underlying27 rfl (by kernel_rfl)) rfl ?_
          refine HOP.out _ _ ?_
          rw [hO0]
          exact ⟨C, nc, kc, S, ns, ks, rfl, HN.out.1, HN.out.2, PkM_but HM5.out BV2 HOF.out.1 HOF.out.2, (HS5.out.ans BV2).2.below (Below.refl _ _) hwgr (Nat.le_refl _)⟩
        case neg =>
          have hO0 : O = none := by rw [← HO.out, if_pos (Or.inr (Or.inr hl))]
          have hlb : (layP p == xs) = false := by rw [beq_eq_false_iff_ne]; exact hl
          clear hl
          refine wp_region_held_drew (S := fun w' => Below wr.heap.size wr w') (by kernel_rfl) ?_ (fun hHeld => ?_)
          · exact (Below.refl _ _).drew
          refine wpAnyH_take (i := 0) (oi := { dst := some 144, op := _, type := _, pos := _, after := _, guard := _ }) (v := ?v12x1) rfl (by kernel_rfl) (by kernel_rfl) (by kernel_rfl) (fun _ _ _ h => h) (Or.inl ⟨by rfl, ?hy12x1⟩) hHeld ?rest12x1
          case hy12x1 => (intro w hSw; go_simp <;> with_reducible rfl)
          try simp only [Act.put, List.setIfInBounds_toArray, List.set_cons_zero, List.set_cons_succ]
          refine wpAnyH_take (i := 1) (oi := { dst := some 145, op := _, type := _, pos := _, after := _, guard := _ }) (v := ?v12x2) rfl (by kernel_rfl) (by kernel_rfl) (by kernel_rfl) (fun _ _ _ h => h) (Or.inl ⟨by rfl, ?hy12x2⟩) hHeld ?rest12x2
          case hy12x2 => (intro w hSw; go_simp <;> with_reducible rfl)
          try simp only [Act.put, List.setIfInBounds_toArray, List.set_cons_zero, List.set_cons_succ]
          refine wpAnyH_take (i := 2) (oi := { dst := some 146, op := _, type := _, pos := _, after := _, guard := _ }) (v := ?v12x3) rfl (by kernel_rfl) (by kernel_rfl) (by kernel_rfl) (fun _ _ _ h => h) (Or.inl ⟨by rfl, ?hy12x3⟩) hHeld ?rest12x3
          case hy12x3 => (intro w hSw; go_simp <;> with_reducible rfl)
          try simp only [Act.put, List.setIfInBounds_toArray, List.set_cons_zero, List.set_cons_succ]
          refine wpAnyH_take (i := 3) (oi := { dst := some 147, op := _, type := _, pos := _, after := _, guard := _ }) (v := ?v12x4) rfl (by kernel_rfl) (by kernel_rfl) (by kernel_rfl) (fun _ _ _ h => h) (Or.inl ⟨by rfl, ?hy12x4⟩) hHeld ?rest12x4
          case hy12x4 => (intro w hSw; go_simp <;> with_reducible rfl)
          try simp only [Act.put, List.setIfInBounds_toArray, List.set_cons_zero, List.set_cons_succ]
          refine wpAnyH_take (i := 4) (oi := { dst := some 148, op := _, type := _, pos := _, after := _, guard := _ }) (v := ?v12x5) rfl (by kernel_rfl) (by kernel_rfl) (by kernel_rfl) (fun _ _ _ h => h) (Or.inl ⟨by rfl, ?hy12x5⟩) hHeld ?rest12x5
          case hy12x5 => (intro w hSw; go_simp <;> with_reducible rfl)
          try simp only [Act.put, List.setIfInBounds_toArray, List.set_cons_zero, List.set_cons_succ]
          refine wpAnyH_take (i := 5) (oi := { dst := some 149, op := _, type := _, pos := _, after := _, guard := _ }) (v := ?v12x6) rfl (by kernel_rfl) (by kernel_rfl) (by kernel_rfl) (fun _ _ _ h => h) (Or.inl ⟨by rfl, ?hy12x6⟩) hHeld ?rest12x6
          case hy12x6 => (intro w hSw; refine exec_loadP 27 (.tmp 5) ?_ gp 27 p C nc kc S ns ks ?_ (HPB w hSw) Try.underlying27 ?_ ?_; rfl; rfl; rfl; kernel_rfl)
          try simp only [Act.put, List.setIfInBounds_toArray, List.set_cons_zero, List.set_cons_succ]
          refine wpAnyH_ready (rs := [6]) (by kernel_rfl) (by simp) (AllReadyH.cons (o := { dst := some 150, op := _, type := _, pos := _, after := _, guard := _ }) rfl (fun K hK => ?_) AllReadyH.nil)
          go_simp
          refine (PM _ hHeld).mono ?_
          rintro e w6 ⟨rfl, b6⟩
          have s6 := below_on hHeld b6
          have dX6 : ∀ w', Below w6.heap.size w6 w' → ∀ c, (convert 31 9 (.slice (some ⟨bA, oA, none⟩) n c)).run Try.prog w' = .ok (.string (str xs)) w' := fun w' h => dX w' (below_on s6 h)
          go_wp2_with fail
          refine hK.out _ _ ?_ (fun hHeld => ?_)
          · exact below_on hHeld b6
          clear hK K
          try simp only [Act.put, List.setIfInBounds_toArray, List.set_cons_zero, List.set_cons_succ]
          refine wpAnyH_strong (S' := fun w' => Below w6.heap.size w6 w') (by intro w' h; exact below_on hHeld h) ?_
          replace hHeld : (fun w' => Below w6.heap.size w6 w') _ := Below.refl _ _
          refine wpAnyH_take (i := 7) (oi := { dst := some 151, op := _, type := _, pos := _, after := _, guard := _ }) (v := ?v12x8) rfl (by kernel_rfl) (by kernel_rfl) (by kernel_rfl) (fun _ _ _ h => h) (Or.inl ⟨by rfl, ?hy12x8⟩) hHeld ?rest12x8
          case hy12x8 => (intro w hSw; go_simp <;> with_reducible rfl)
          try simp only [Act.put, List.setIfInBounds_toArray, List.set_cons_zero, List.set_cons_succ]
          refine wpAnyH_take (i := 8) (oi := { dst := some 152, op := _, type := _, pos := _, after := _, guard := _ }) (v := ?v12x9) rfl (by kernel_rfl) (by kernel_rfl) (by kernel_rfl) (fun _ _ _ h => h) (Or.inl ⟨by rfl, ?hy12x9⟩) hHeld ?rest12x9
          case hy12x9 => (intro w hSw; go_simp <;> with_reducible rfl)
          try simp only [Act.put, List.setIfInBounds_toArray, List.set_cons_zero, List.set_cons_succ]
          refine wpAnyH_take (i := 9) (oi := { dst := some 153, op := _, type := _, pos := _, after := _, guard := _ }) (v := ?v12x10) rfl (by kernel_rfl) (by kernel_rfl) (by kernel_rfl) (fun _ _ _ h => h) (Or.inl ⟨by rfl, ?hy12x10⟩) hHeld ?rest12x10
          case hy12x10 => (intro w hSw; go_simp <;> with_reducible rfl)
          try simp only [Act.put, List.setIfInBounds_toArray, List.set_cons_zero, List.set_cons_succ]
          refine wpAnyH_take (i := 10) (oi := { dst := some 154, op := _, type := _, pos := _, after := _, guard := _ }) (v := ?v12x11) rfl (by kernel_rfl) (by kernel_rfl) (by kernel_rfl) (fun _ _ _ h => h) (Or.inl ⟨by rfl, ?hy12x11⟩) hHeld ?rest12x11
          case hy12x11 => (intro w hSw; refine exec_loadP 27 (.tmp 5) ?_ gp 27 p C nc kc S ns ks ?_ (HPB w (below_on s6 hSw)) Try.underlying27 ?_ ?_; rfl; rfl; rfl; kernel_rfl)
          try simp only [Act.put, List.setIfInBounds_toArray, List.set_cons_zero, List.set_cons_succ]
          refine wpAnyH_take (i := 13) (oi := { dst := some 157, op := _, type := _, pos := _, after := _, guard := _ }) (v := ?v12x12) rfl (by kernel_rfl) (by kernel_rfl) (by kernel_rfl) (fun _ _ _ h => h) (Or.inl ⟨by rfl, ?hy12x12⟩) hHeld ?rest12x12
          case hy12x12 => (intro w hSw; go_simp <;> with_reducible rfl)
          try simp only [Act.put, List.setIfInBounds_toArray, List.set_cons_zero, List.set_cons_succ]
          refine wpAnyH_take (i := 14) (oi := { dst := some 158, op := _, type := _, pos := _, after := _, guard := _ }) (v := ?v12x13) rfl (by kernel_rfl) (by kernel_rfl) (by kernel_rfl) (fun _ _ _ h => h) (Or.inl ⟨by rfl, ?hy12x13⟩) hHeld ?rest12x13
          case hy12x13 => (intro w hSw; go_simp <;> with_reducible rfl)
          try simp only [Act.put, List.setIfInBounds_toArray, List.set_cons_zero, List.set_cons_succ]
          refine wpAnyH_ready (rs := [11]) (by kernel_rfl) (by simp) (AllReadyH.cons (o := { dst := some 155, op := _, type := _, pos := _, after := _, guard := _ }) rfl (fun K hK => ?_) AllReadyH.nil)
          go_simp
          refine (PB _ (below_on s6 hHeld)).mono ?_
          rintro e w7 ⟨G, gk, rfl, hgk, r7, b7⟩
          have s7 := below_on s6 (below_on hHeld b7)
          have dG := strOn r7
          have dX7 : ∀ w', Below w7.heap.size w7 w' → ∀ c, (convert 31 9 (.slice (some ⟨bA, oA, none⟩) n c)).run Try.prog w' = .ok (.string (str xs)) w' := fun w' h => dX w' (below_on s7 h)
          clear dX6
          go_wp2_with fail
          refine hK.out _ _ ?_ (fun hHeld => ?_)
          · exact below_on hHeld b7
          clear hK K
          try simp only [Act.put, List.setIfInBounds_toArray, List.set_cons_zero, List.set_cons_succ]
          refine wpAnyH_strong (S' := fun w' => Below w7.heap.size w7 w') (by intro w' h; exact below_on hHeld h) ?_
          replace hHeld : (fun w' => Below w7.heap.size w7 w') _ := Below.refl _ _
          refine wpAnyH_take (i := 12) (oi := { dst := some 156, op := _, type := _, pos := _, after := _, guard := _ }) (v := ?v12x15) rfl (by kernel_rfl) (by kernel_rfl) (by kernel_rfl) (fun _ _ _ h => h) (Or.inl ⟨by rfl, ?hy12x15⟩) hHeld ?rest12x15
          case hy12x15 => (intro w hSw; go_simp <;> with_reducible rfl)
          try simp only [Act.put, List.setIfInBounds_toArray, List.set_cons_zero, List.set_cons_succ]
          refine wpAnyH_take (i := 15) (oi := { dst := some 159, op := _, type := _, pos := _, after := _, guard := _ }) (v := ?v12x16) rfl (by kernel_rfl) (by kernel_rfl) (by kernel_rfl) (fun _ _ _ h => h) (Or.inl ⟨by rfl, ?hy12x16⟩) hHeld ?rest12x16
          case hy12x16 => (intro w hSw; go_simp <;> with_reducible rfl)
          try simp only [Act.put, List.setIfInBounds_toArray, List.set_cons_zero, List.set_cons_succ]
          refine wpAnyH_take (i := 16) (oi := { dst := some 160, op := _, type := _, pos := _, after := _, guard := _ }) (v := ?v12x17) rfl (by kernel_rfl) (by kernel_rfl) (by kernel_rfl) (fun _ _ _ h => h) (Or.inl ⟨by rfl, ?hy12x17⟩) hHeld ?rest12x17
          case hy12x17 => (intro w hSw; go_simp <;> with_reducible rfl)
          try simp only [Act.put, List.setIfInBounds_toArray, List.set_cons_zero, List.set_cons_succ]
          refine wpAnyH_done (by kernel_rfl) ?_ _
          have hbel := below_on s7 hHeld
          clear hcr hcr0 dX HPB PM PB dG dX7
          have HS5 := hide (HS.out.mem hbel)
          go_upto_region 99 with (refine wpList_storeQ rfl 27 (.tmp 2) (.tmp 161) rfl gz 27 (zeroP 0) none 0 0 none 0 0 (zeroP 0) none 0 0 none 0 0 rfl rfl (HS5.out).hz (by kernel_rfl) ?_; intro V2 bV2 BV2)
          refine bodyPost_ret (results_cell_tmp rfl rfl bV2 Try.underlying27 rfl (by kernel_rfl)) rfl ?_
          refine HOP.out _ _ ?_
          rw [hO0]
          exact ⟨rfl, ((HS5.out).ans BV2).2.below (Below.refl _ _) hwgr (Nat.le_refl _)⟩
    | cons c zs =>
      have cr : wr.cell? ⟨gr, 0, none⟩ = some (.slice A3 (zs.length + 1) k3) := hBr3.cell 0
      obtain ⟨x, hx⟩ : ∃ x, c.toNat = x := ⟨_, rfl⟩
      have Hx := hide hx
      have hsub : zs.length < gk := by rw [← hzk]; simp
      have cc0 : wr.cell? ⟨gp, 16, none⟩ = some (.slice C dn.length kc) := HS.out.hp.cell 16
      simp only [List.length_cons] at hdn
      obtain ⟨nd, hnd⟩ : ∃ nd, dn.length = nd := ⟨_, rfl⟩
      rw [hnd] at HS HO2 cc0 hdn
      have Hnd := hide hnd
      clear hBr3 hk3 hR3 hL3 hx hnd hzk
      go_upto_region 39 with fail
      clear cr
      refine wp_region_held_drew (S := fun Z => True) (by kernel_rfl) ?_ (fun hHeld => ?_)
      · trivial
      refine wpAnyH_take (i := 0) (oi := { dst := some 137, op := _, type := _, pos := _, after := _, guard := _ }) (v := ?v13x1) rfl (by kernel_rfl) (by kernel_rfl) (by kernel_rfl) (fun _ _ _ h => h) (Or.inl ⟨by rfl, ?hy13x1⟩) hHeld ?rest13x1
      case hy13x1 => (intro w hSw; go_simp <;> with_reducible rfl)
      try simp only [Act.put, List.setIfInBounds_toArray, List.set_cons_zero, List.set_cons_succ]
      refine wpAnyH_take (i := 2) (oi := { dst := some 139, op := _, type := _, pos := _, after := _, guard := _ }) (v := ?v13x2) rfl (by kernel_rfl) (by kernel_rfl) (by kernel_rfl) (fun _ _ _ h => h) (Or.inl ⟨by rfl, ?hy13x2⟩) hHeld ?rest13x2
      case hy13x2 => (intro w hSw; go_simp <;> with_reducible rfl)
      try simp only [Act.put, List.setIfInBounds_toArray, List.set_cons_zero, List.set_cons_succ]
      refine wpAnyH_ready (rs := [1, 3]) (by kernel_rfl) (by simp) (AllReadyH.cons (o := { dst := some 138, op := _, type := _, pos := _, after := _, guard := _ }) rfl (fun K hK => ?way13x3x1) (AllReadyH.cons (o := { dst := some 140, op := _, type := _, pos := _, after := _, guard := _ }) rfl (fun K hK => ?way13x3x3) AllReadyH.nil))
      case' way13x3x1 =>
        go_simp
        go_wp2_with fail
        refine hK.out _ _ ?_ (fun hHeld => ?_)
        · trivial
        clear hK K
        try simp only [Act.put, List.setIfInBounds_toArray, List.set_cons_zero, List.set_cons_succ]
        refine wpAnyH_ready (rs := [3]) (by kernel_rfl) (by simp) (AllReadyH.cons (o := { dst := some 140, op := _, type := _, pos := _, after := _, guard := _ }) rfl (fun K hK => ?_) AllReadyH.nil)
        go_simp
        refine (PB1.out _ (c :: zs, bd) (RdL.keep HS.out.hr ((Below.refl _ _).drew)) (by simp; omega)).mono ?_
        rintro e w5 ⟨rfl, r5, a5⟩
        rw [rB_cons] at r5 ⊢
        simp only [Hx.out] at r5 ⊢
        have a5' : AftR gr wr w5 := AftR.trans (show AftR gr wr wr.drew from ⟨But.ofBelow ((Below.refl _ _).drew) _, KeepB.ofBelow ((Below.refl _ _).drew)⟩) a5
        have HS5 := hide (HS.out.call r5 a5')
        have HO5 := hide (own_but HO2.out a5'.1 (fun b o e h => (HOff.out b o e).2.1 h))
        have cc5 : w5.cell? ⟨gp, 16, none⟩ = some (.slice C nd kc) := HS5.out.hp.cell 16
        have hgl5 : gp < w5.heap.size := HS5.out.hp.lt
        have hwl5 : w.heap.size ≤ w5.heap.size := HS5.out.aft.1.size
        have hal5 := (Below.refl w5.heap.size w5).alloc (Nat.le_refl _) (.cells (arr [.int .i64 (x : Int)]) 3)
        have HSa := hide (HS5.out.mem hal5)
        have cc5a : (w5.alloc (.cells #[.int .i64 (x : Int)] 3)).cell? ⟨gp, 16, none⟩ = some (.slice C nd kc) := HSa.out.hp.cell 16
        clear r5 a5 a5'
        go_wp2_with fail
        refine hK.out _ _ ?_ (fun hHeld => ?_)
        · trivial
        clear hK K
        try simp only [Act.put, List.setIfInBounds_toArray, List.set_cons_zero, List.set_cons_succ]
        refine wpAnyH_ready (rs := [4]) (by kernel_rfl) (by simp) (AllReadyH.cons (o := { dst := some 141, op := _, type := _, pos := _, after := _, guard := _ }) rfl (fun K hK => ?_) AllReadyH.nil)
        go_simp
        go_wp2_with fail
        refine hK.out _ _ ?_ (fun hHeld => ?_)
        · trivial
        clear hK K
        try simp only [Act.put, List.setIfInBounds_toArray, List.set_cons_zero, List.set_cons_succ]
        refine wpAnyH_ready (rs := [5]) (by kernel_rfl) (by simp) (AllReadyH.cons (o := { dst := some 142, op := _, type := _, pos := _, after := _, guard := _ }) rfl (fun K hK => ?_) AllReadyH.nil)
        rw [if_pos (by rfl)]
        refine op_app2 (.tmp 138) (.tmp 141) 24 rfl 3 _ _ Try.underlying24 int_info rfl w.heap.size C nd kc (iv dn) rfl (own_keep HO5.out hal5) (some ⟨w5.heap.size, 0, none⟩) 1 1 (iv [(x : Int)]) rfl (Blk.new w5 3 [.int .i64 (x : Int)]).rd (iv_one _) (by unfold maxLen; omega) (by omega) (Nat.le_trans hwl5 hal5.size) ?_
        intro A6 c6 w6 o6 b6 h6
        rw [← iv_append] at o6
        have HS6 := hide (HSa.out.row b6 (fun i ⟨o, e⟩ => ⟨hCn i o e, hCn i o e, (HOff.out i o e).1, (HOff.out i o e).2.1, (HOff.out i o e).2.2⟩))
        have cc6 : w6.cell? ⟨gp, 16, none⟩ = some (.slice C nd kc) := HS6.out.hp.cell 16
        have ff6 := HS6.out.hp.frozen
        have O6 := hide o6
        have H6 := hide (show ∀ b o, A6 = some ⟨b, o, none⟩ → b ≠ gp ∧ b ≠ gr ∧ b ≠ gz from fun b o e => by
          rcases h6 with rfl | h6
          · exact HOff.out b o e
          · have h1 : (w5.alloc (.cells (arr [.int .i64 (x : Int)]) 3)).heap.size ≤ b := h6 b o e
            have h2 := HSa.out.hp.lt
            have h3 := HSa.out.hz.lt
            obtain ⟨A9, k9, hB9, -⟩ := HSa.out.hr
            have h4 := hB9.lt
            omega)
        clear o6 b6 h6
        refine hK.out _ _ ?_ (fun hHeld => ?_)
        · trivial
        clear hK K
        try simp only [Act.put, List.setIfInBounds_toArray, List.set_cons_zero, List.set_cons_succ]
        refine wpAnyH_take (i := 6) (oi := { dst := some 143, op := _, type := _, pos := _, after := _, guard := _ }) (v := ?v13x7) rfl (by kernel_rfl) (by kernel_rfl) (by kernel_rfl) (fun _ _ _ h => h) (Or.inl ⟨by rfl, ?hy13x7⟩) hHeld ?rest13x7
        case hy13x7 => (intro w hSw; go_simp <;> with_reducible rfl)
        try simp only [Act.put, List.setIfInBounds_toArray, List.set_cons_zero, List.set_cons_succ]
        refine wpAnyH_ready (rs := [7]) (by kernel_rfl) (by simp) (AllReadyH.cons (o := { dst := none, op := _, type := _, pos := _, after := _, guard := _ }) rfl (fun K hK => ?_) AllReadyH.nil)
        go_simp
        go_wp2_with fail
        refine hK.out _ _ ?_ (fun hHeld => ?_)
        · trivial
        clear hK K
        try simp only [Act.put, List.setIfInBounds_toArray, List.set_cons_zero, List.set_cons_succ]
        refine wpAnyH_done (by kernel_rfl) ?_ _
      case' way13x3x3 =>
        go_simp
        refine (PB1.out _ (c :: zs, bd) (RdL.keep HS.out.hr ((Below.refl _ _).drew)) (by simp; omega)).mono ?_
        rintro e w5 ⟨rfl, r5, a5⟩
        rw [rB_cons] at r5 ⊢
        simp only [Hx.out] at r5 ⊢
        have a5' : AftR gr wr w5 := AftR.trans (show AftR gr wr wr.drew from ⟨But.ofBelow ((Below.refl _ _).drew) _, KeepB.ofBelow ((Below.refl _ _).drew)⟩) a5
        have HS5 := hide (HS.out.call r5 a5')
        have HO5 := hide (own_but HO2.out a5'.1 (fun b o e h => (HOff.out b o e).2.1 h))
        have cc5 : w5.cell? ⟨gp, 16, none⟩ = some (.slice C nd kc) := HS5.out.hp.cell 16
        have hgl5 : gp < w5.heap.size := HS5.out.hp.lt
        have hwl5 : w.heap.size ≤ w5.heap.size := HS5.out.aft.1.size
        have hal5 := (Below.refl w5.heap.size w5).alloc (Nat.le_refl _) (.cells (arr [.int .i64 (x : Int)]) 3)
        have HSa := hide (HS5.out.mem hal5)
        have cc5a : (w5.alloc (.cells #[.int .i64 (x : Int)] 3)).cell? ⟨gp, 16, none⟩ = some (.slice C nd kc) := HSa.out.hp.cell 16
        clear r5 a5 a5'
        go_wp2_with fail
        refine hK.out _ _ ?_ (fun hHeld => ?_)
        · trivial
        clear hK K
        try simp only [Act.put, List.setIfInBounds_toArray, List.set_cons_zero, List.set_cons_succ]
        refine wpAnyH_ready (rs := [1, 4]) (by kernel_rfl) (by simp) (AllReadyH.cons (o := { dst := some 138, op := _, type := _, pos := _, after := _, guard := _ }) rfl (fun K hK => ?way13x9x1) (AllReadyH.cons (o := { dst := some 141, op := _, type := _, pos := _, after := _, guard := _ }) rfl (fun K hK => ?way13x9x4) AllReadyH.nil))
        case' way13x9x1 =>
          go_simp
          go_wp2_with fail
          refine hK.out _ _ ?_ (fun hHeld => ?_)
          · trivial
          clear hK K
          try simp only [Act.put, List.setIfInBounds_toArray, List.set_cons_zero, List.set_cons_succ]
          refine wpAnyH_ready (rs := [4]) (by kernel_rfl) (by simp) (AllReadyH.cons (o := { dst := some 141, op := _, type := _, pos := _, after := _, guard := _ }) rfl (fun K hK => ?_) AllReadyH.nil)
          go_simp
          go_wp2_with fail
          refine hK.out _ _ ?_ (fun hHeld => ?_)
          · trivial
          clear hK K
          try simp only [Act.put, List.setIfInBounds_toArray, List.set_cons_zero, List.set_cons_succ]
          refine wpAnyH_ready (rs := [5]) (by kernel_rfl) (by simp) (AllReadyH.cons (o := { dst := some 142, op := _, type := _, pos := _, after := _, guard := _ }) rfl (fun K hK => ?_) AllReadyH.nil)
          rw [if_pos (by rfl)]
          refine op_app2 (.tmp 138) (.tmp 141) 24 rfl 3 _ _ Try.underlying24 int_info rfl w.heap.size C nd kc (iv dn) rfl (own_keep HO5.out hal5) (some ⟨w5.heap.size, 0, none⟩) 1 1 (iv [(x : Int)]) rfl (Blk.new w5 3 [.int .i64 (x : Int)]).rd (iv_one _) (by unfold maxLen; omega) (by omega) (Nat.le_trans hwl5 hal5.size) ?_
          intro A6 c6 w6 o6 b6 h6
          rw [← iv_append] at o6
          have HS6 := hide (HSa.out.row b6 (fun i ⟨o, e⟩ => ⟨hCn i o e, hCn i o e, (HOff.out i o e).1, (HOff.out i o e).2.1, (HOff.out i o e).2.2⟩))
          have cc6 : w6.cell? ⟨gp, 16, none⟩ = some (.slice C nd kc) := HS6.out.hp.cell 16
          have ff6 := HS6.out.hp.frozen
          have O6 := hide o6
          have H6 := hide (show ∀ b o, A6 = some ⟨b, o, none⟩ → b ≠ gp ∧ b ≠ gr ∧ b ≠ gz from fun b o e => by
            rcases h6 with rfl | h6
            · exact HOff.out b o e
            · have h1 : (w5.alloc (.cells (arr [.int .i64 (x : Int)]) 3)).heap.size ≤ b := h6 b o e
              have h2 := HSa.out.hp.lt
              have h3 := HSa.out.hz.lt
              obtain ⟨A9, k9, hB9, -⟩ := HSa.out.hr
              have h4 := hB9.lt
              omega)
          clear o6 b6 h6
          refine hK.out _ _ ?_ (fun hHeld => ?_)
          · trivial
          clear hK K
          try simp only [Act.put, List.setIfInBounds_toArray, List.set_cons_zero, List.set_cons_succ]
          refine wpAnyH_take (i := 6) (oi := { dst := some 143, op := _, type := _, pos := _, after := _, guard := _ }) (v := ?v13x12) rfl (by kernel_rfl) (by kernel_rfl) (by kernel_rfl) (fun _ _ _ h => h) (Or.inl ⟨by rfl, ?hy13x12⟩) hHeld ?rest13x12
          case hy13x12 => (intro w hSw; go_simp <;> with_reducible rfl)
          try simp only [Act.put, List.setIfInBounds_toArray, List.set_cons_zero, List.set_cons_succ]
          refine wpAnyH_ready (rs := [7]) (by kernel_rfl) (by simp) (AllReadyH.cons (o := { dst := none, op := _, type := _, pos := _, after := _, guard := _ }) rfl (fun K hK => ?_) AllReadyH.nil)
          go_simp
          go_wp2_with fail
          refine hK.out _ _ ?_ (fun hHeld => ?_)
          · trivial
          clear hK K
          try simp only [Act.put, List.setIfInBounds_toArray, List.set_cons_zero, List.set_cons_succ]
          refine wpAnyH_done (by kernel_rfl) ?_ _
        case' way13x9x4 =>
          go_simp
          go_wp2_with fail
          refine hK.out _ _ ?_ (fun hHeld => ?_)
          · trivial
          clear hK K
          try simp only [Act.put, List.setIfInBounds_toArray, List.set_cons_zero, List.set_cons_succ]
          refine wpAnyH_ready (rs := [1]) (by kernel_rfl) (by simp) (AllReadyH.cons (o := { dst := some 138, op := _, type := _, pos := _, after := _, guard := _ }) rfl (fun K hK => ?_) AllReadyH.nil)
          go_simp
          go_wp2_with fail
          refine hK.out _ _ ?_ (fun hHeld => ?_)
          · trivial
          clear hK K
          try simp only [Act.put, List.setIfInBounds_toArray, List.set_cons_zero, List.set_cons_succ]
          refine wpAnyH_ready (rs := [5]) (by kernel_rfl) (by simp) (AllReadyH.cons (o := { dst := some 142, op := _, type := _, pos := _, after := _, guard := _ }) rfl (fun K hK => ?_) AllReadyH.nil)
          rw [if_pos (by rfl)]
          refine op_app2 (.tmp 138) (.tmp 141) 24 rfl 3 _ _ Try.underlying24 int_info rfl w.heap.size C nd kc (iv dn) rfl (own_keep HO5.out hal5) (some ⟨w5.heap.size, 0, none⟩) 1 1 (iv [(x : Int)]) rfl (Blk.new w5 3 [.int .i64 (x : Int)]).rd (iv_one _) (by unfold maxLen; omega) (by omega) (Nat.le_trans hwl5 hal5.size) ?_
          intro A6 c6 w6 o6 b6 h6
          rw [← iv_append] at o6
          have HS6 := hide (HSa.out.row b6 (fun i ⟨o, e⟩ => ⟨hCn i o e, hCn i o e, (HOff.out i o e).1, (HOff.out i o e).2.1, (HOff.out i o e).2.2⟩))
          have cc6 : w6.cell? ⟨gp, 16, none⟩ = some (.slice C nd kc) := HS6.out.hp.cell 16
          have ff6 := HS6.out.hp.frozen
          have O6 := hide o6
          have H6 := hide (show ∀ b o, A6 = some ⟨b, o, none⟩ → b ≠ gp ∧ b ≠ gr ∧ b ≠ gz from fun b o e => by
            rcases h6 with rfl | h6
            · exact HOff.out b o e
            · have h1 : (w5.alloc (.cells (arr [.int .i64 (x : Int)]) 3)).heap.size ≤ b := h6 b o e
              have h2 := HSa.out.hp.lt
              have h3 := HSa.out.hz.lt
              obtain ⟨A9, k9, hB9, -⟩ := HSa.out.hr
              have h4 := hB9.lt
              omega)
          clear o6 b6 h6
          refine hK.out _ _ ?_ (fun hHeld => ?_)
          · trivial
          clear hK K
          try simp only [Act.put, List.setIfInBounds_toArray, List.set_cons_zero, List.set_cons_succ]
          refine wpAnyH_take (i := 6) (oi := { dst := some 143, op := _, type := _, pos := _, after := _, guard := _ }) (v := ?v13x16) rfl (by kernel_rfl) (by kernel_rfl) (by kernel_rfl) (fun _ _ _ h => h) (Or.inl ⟨by rfl, ?hy13x16⟩) hHeld ?rest13x16
          case hy13x16 => (intro w hSw; go_simp <;> with_reducible rfl)
          try simp only [Act.put, List.setIfInBounds_toArray, List.set_cons_zero, List.set_cons_succ]
          refine wpAnyH_ready (rs := [7]) (by kernel_rfl) (by simp) (AllReadyH.cons (o := { dst := none, op := _, type := _, pos := _, after := _, guard := _ }) rfl (fun K hK => ?_) AllReadyH.nil)
          go_simp
          go_wp2_with fail
          refine hK.out _ _ ?_ (fun hHeld => ?_)
          · trivial
          clear hK K
          try simp only [Act.put, List.setIfInBounds_toArray, List.set_cons_zero, List.set_cons_succ]
          refine wpAnyH_done (by kernel_rfl) ?_ _
      all_goals
        clear cc0 cc5 cc5a cc6 ff6
        have hset : But (fun i => i = gp) w6 (w6.setCell ⟨gp, 16, none⟩ (.slice A6 (nd + 1) c6)) := But.setCell w6 _ rfl
        have HS7 := hide (HS6.out.put (p' := ⟨9, false, (id : Int), [], [], 0, false, [], false, 0, false, false, false, [], [], false, dn ++ [(x : Int)], []⟩) (C' := A6) (nc' := nd + 1) (kc' := c6) (S' := none) (ns' := 0) (ks' := 0) (HS6.out.hp.set 16 (.slice A6 (nd + 1) c6)) hset)
        have O7 := hide (own_but O6.out hset (fun b o e h => (H6.out b o e).1 h))
        generalize w6.setCell ⟨gp, 16, none⟩ (.slice A6 (nd + 1) c6) = w7 at *
        clear hset
        go_wp2_with fail
        go_roundg zs.length
        case measure => exact hsub
        case rel =>
          have hln : (dn ++ [(x : Int)]).length = nd + 1 := by rw [List.length_append, Hnd.out]; rfl
          exact ⟨dn ++ [(x : Int)], A6, c6, zs, rfl, by have := HAl.out; rw [← this, List.map_cons, Hx.out, List.append_assoc]; rfl, by rw [hln]; exact HS7.out, by rw [hln]; exact O7.out, H6.out⟩

end Go.Proofs.Ytdlhcecmodefkaa

namespace Go.Proofs.Ytdlhcecmodefkaa
set_option linter.unusedVariables false
set_option linter.unusedSimpArgs false
open Go.RowKit

theorem subsR_short (t : Int) : ∀ (k : Nat) (s : Rdr), (subsR t k s).1.length ≤ k ∧ ∀ x ∈ (subsR t k s).1, x.1.length ≤ 65535
  | 0, s => ⟨Nat.le_refl _, fun x hx => by cases hx⟩
  | k + 1, s => by
    unfold subsR
    split
    · split
      · have h := subsR_short t k (rB (rT s).2).2
        refine ⟨by simp; exact h.1, fun x hx => ?_⟩
        rcases List.mem_cons.1 hx with rfl | hx
        · exact (rT_le s).2
        · exact h.2 x hx
      · have h := subsR_short t k (rT s).2
        refine ⟨by simp; exact h.1, fun x hx => ?_⟩
        rcases List.mem_cons.1 hx with rfl | hx
        · exact (rT_le s).2
        · exact h.2 x hx
    · exact ⟨Nat.zero_le _, fun x hx => by cases hx⟩
theorem rT_lt (s : Rdr) (h : s.1 ≠ []) : (rT s).2.1.length + 1 ≤ s.1.length := by
  obtain ⟨zs, bd⟩ := s
  have h1 : (rW (zs, bd)).2.1.length + 1 ≤ zs.length := by
    match zs, h with
    | [c], _ => simp [rW, rB]
    | c :: d :: t, _ => simp [rW, rB]
  unfold rT
  split
  · exact h1
  · simp
    omega
theorem ownS_cap8 {w : World} {base s : Nat} {e : TypeId} {A : Option Addr} {n c : Nat} {xs : List Value} (h : w.ownsRow base e s (.slice A n c) n xs) : n ≤ c := by
  rcases h.2 with ⟨hv, h0⟩ | ⟨g, cap, cur, hv, hg, hh, hc, r⟩
  · omega
  · injection hv with _ _ hk
    omega
theorem subsR_go8 (k : Nat) (s : Rdr) (h : s.1 ≠ [] ∧ s.2 = false) : subsR 8 (k + 1) s = (((rT s).1, ((rB (rT s).2).1 : Int)) :: (subsR 8 k (rB (rT s).2).2).1, (subsR 8 k (rB (rT s).2).2).2) := by
  show (if s.1 ≠ [] ∧ s.2 = false then _ else _) = _
  rw [if_pos h, if_pos rfl]
theorem subsR_go10 (k : Nat) (s : Rdr) (h : s.1 ≠ [] ∧ s.2 = false) : subsR 10 (k + 1) s = (((rT s).1, 0) :: (subsR 10 k (rT s).2).1, (subsR 10 k (rT s).2).2) := by
  show (if s.1 ≠ [] ∧ s.2 = false then _ else _) = _
  rw [if_pos h, if_neg (by omega)]
theorem sub_info10 : (Try.prog.info? 59).map (fun i => (i.zero, i.size, i.bytes)) = some (some (.agg #[.string ByteArray.empty, .int .i64 0]), 2, 24) := by kernel_rfl
theorem subsR_stop (t : Int) (k : Nat) (s : Rdr) (h : s.1 = [] ∨ s.2 = true) : subsR t k s = ([], s) := by
  cases k with
  | zero => rfl
  | succ k =>
    unfold subsR
    rw [if_neg (fun hh => by rcases h with h | h; exact hh.1 h; rw [h] at hh; cases hh.2)]

set_option maxRecDepth 100000 in
set_option maxHeartbeats 8000000 in
theorem rparse8 (A : Option Addr) (n k : Nat) (xs : List UInt8) (w : World) (f a b : Nat) (hR : Rd w A n (bv xs)) (hx : xs.length = n) (hk : n ≤ k) (h65 : n ≤ 65535) (h2 : 2 ≤ n) (hf : (xs.headD 0).toNat = f) (hA : atR xs 1 = (a, b, 0)) (ht : f / 16 = 8 ∨ f / 16 = 10) :
    Calls Try.prog 17 #[.slice A n k] w (RpPost (readP xs) w) := by
  have HR := hide hR
  have Hx := hide hx
  have Hf := hide hf
  have HA := hide hA
  have hb := atR_putQ xs 1 (by rw [hA])
  rw [hA] at hb
  obtain ⟨j, hj1, hj2, hj3, hbj, -, -⟩ := hb
  simp only at hbj
  have hbn : b ≤ n := by omega
  have hb63 : b ≤ 65535 := by omega
  obtain ⟨CA, hCA⟩ : ∃ CA, cutA A b k = CA := ⟨_, rfl⟩
  have HTL := hide (show ∀ W, Below w.heap.size w W → Rd W CA (n - b) (bv (xs.drop b)) from fun W bb => by rw [← hCA, ← bv_drop]; exact (hR.keep bb).tail b k hbn hk)
  have PA := fun W (hW : Rd W A n (bv xs)) => rvAt_any A n k 1 xs W hW (by unfold maxLen; omega) hx (by omega)
  rw [hA] at PA
  have hsl := fun W => run_slTail (P := Try.prog) 31 5 Try.underlying31 u8_size A n k (b : Int) b rfl (by omega) W
  rw [hCA] at hsl
  obtain ⟨bA, oA, hAe, hbl, hcell⟩ := hR.at_ (k := 0) (by omega)
  have HCL := hide (show ∀ a, CA = some a → a.block < w.heap.size from by rw [← hCA]; exact cutA_loc (fun a e => by rw [hAe] at e; injection e with e; rw [← e]; exact hbl) b k)
  obtain ⟨c, tl, hxc⟩ : ∃ c tl, xs = c :: tl := by cases xs with | nil => simp at hx; omega | cons c tl => exact ⟨c, tl, rfl⟩
  have hcf : c.toNat = f := by rw [← hf, hxc]; rfl
  have HC := hide (show ∀ W, Below w.heap.size w W → W.cell? ⟨bA, oA, none⟩ = some (.int .u8 (f : Int)) from fun W bb => by
    have h0 : w.cell? ⟨bA, oA + 0, none⟩ = some (.int .u8 (c.toNat : Int)) := hcell 0 _ (by rw [hxc]; rfl)
    rw [hcf] at h0
    exact (bb.cell (p := ⟨bA, oA, none⟩) hbl).trans h0)
  have hf255 : f ≤ 255 := by have := c.toNat_lt; omega
  obtain ⟨t, ht16⟩ : ∃ t, f / 16 = t := ⟨_, rfl⟩
  rw [ht16] at ht
  have hq16 : (f : Int) / 16 = (t : Int) := by omega
  have Ht16 := hide ht16
  have Ht := hide ht
  subst hAe
  have qn2 : ¬ (n : Int) < 2 := by omega
  clear hR hx hf hA hj1 hj2 hj3 hbj hCA hcell hxc hcf ht ht16
  go_enter Try.func17, Try.ntmps17
  go_upto_region 1 with fail
  generalize hW : w.alloc _ = W
  obtain ⟨gz, hgz, hBz, bW, hsz⟩ := boxedP (p := zeroP 0) (C := none) (nc := 0) (kc := 0) (S := none) (ns := 0) (ks := 0) hW
  have bw : Below w.heap.size w W := by rw [hgz]; exact bW
  rw [hgz]
  have HZ := hide hBz
  have BW := hide bw
  have Hgz := hide hgz
  have cc := HC.out W bw
  have hzl : gz < W.heap.size := hBz.lt
  clear hW hBz bW bw hsz hgz
  go_upto_region 5 with (refine wpList_storeQ rfl 27 (.tmp 5) (.tmp 21) rfl W.heap.size 27 (zeroP 0) none 0 0 none 0 0 (zeroP (t : Int)) none 0 0 none 0 0 rfl rfl (Blk.new W 27 (pkVs (zeroP 0) none 0 0 none 0 0)) (by kernel_rfl) ?_; intro V1 bV1 BV1)
  have b1 : Below W.heap.size W V1 := But.below ((Below.refl _ _).alloc (Nat.le_refl _) _) BV1 (fun i e => by omega) (by simp)
  obtain ⟨gp, hgp⟩ : ∃ gp, W.heap.size = gp := ⟨_, rfl⟩
  have HP := hide bV1
  rw [hgp] at HP hzl ⊢
  have HZ := hide (HZ.out.keep b1)
  have BW := hide (below_on BW.out b1)
  have hwgp : w.heap.size < gp := by have := Hgz.out; omega
  have hpl := HP.out.lt
  clear bV1 BV1 b1 hgp cc hq16
  have PA := PA V1 (HR.out.keep BW.out)
  go_wp2_with fail
  refine PA.mono ?_
  rintro e V2 ⟨rfl, q, hq⟩
  have b2 : Below V1.heap.size V1 V2 := by rw [hq]; exact below_drewN (Below.refl _ _) q
  have HZ := hide (HZ.out.keep b2)
  have HP := hide (HP.out.keep b2)
  have BW := hide (below_on BW.out b2)
  have hpl := HP.out.lt
  clear PA b2 hq
  go_upto_region 9 with fail
  generalize hV : V2.alloc _ = V
  have hVr : Blk V V2.heap.size 71 [.slice CA (n - b) (k - b), .bool false] := by rw [← hV]; exact Blk.new V2 71 [.slice CA (n - b) (k - b), .bool false]
  have b3 : Below V2.heap.size V2 V := by rw [← hV]; exact (Below.refl _ _).alloc (Nat.le_refl _) _
  obtain ⟨gr, hgr⟩ : ∃ gr, V2.heap.size = gr := ⟨_, rfl⟩
  rw [hgr] at hVr hpl ⊢
  have hld : (xs.drop b).length = n - b := by rw [List.length_drop, Hx.out]
  have BW := hide (below_on BW.out b3)
  have HS := hide (show PsS w.heap.size w V gp gr gz (zeroP (t : Int)) none 0 0 none 0 0 (xs.drop b, false) from ⟨HP.out.keep b3, ⟨CA, k - b, by rw [hld]; exact hVr, by rw [hld]; omega, by rw [hld]; exact HTL.out V BW.out, HCL.out⟩, HZ.out.keep b3, ⟨But.ofBelow BW.out _, KeepB.ofBelow BW.out⟩, by have := Hgz.out; omega⟩)
  have hwgr : w.heap.size ≤ gr := by omega
  have hls : (xs.drop b).length ≤ 65535 := by omega
  obtain ⟨s0, hs0⟩ : ∃ s0 : Rdr, (xs.drop b, false) = s0 := ⟨_, rfl⟩
  have Hs0 := hide hs0
  have hl0 : s0.1.length ≤ 65535 := by rw [← hs0]; exact hls
  rw [hs0] at HS
  obtain ⟨O, hO⟩ : ∃ O, readP xs = O := ⟨_, rfl⟩
  have HO := hide (show (if (bodyR t f s0).2.2 = true ∨ mayP (bodyR t f s0).1 = false ∨ layP (bodyR t f s0).1 ≠ xs then none else some (bodyR t f s0).1) = O from by
    rw [← hO]
    have hn2 : ¬ xs.length < 2 := by have := Hx.out; omega
    unfold readP
    simp only [if_neg hn2, HA.out, Hf.out, Ht16.out, hs0, ne_eq, not_true_eq_false, if_false])
  have HOP := hide (show ∀ e w', RpPost O w e w' → RpPost (readP xs) w e w' from fun e w' h => by rw [hO]; exact h)
  clear HP HZ HA hV hVr b3 hgr hld hls hs0 hO hsl HC Hgz hbl
  have c0 : V.cell? ⟨gp, 0, none⟩ = some (.int .i64 (t : Int)) := HS.out.hp.cell 0
  have PB1 := hide (fun W s' (hR : RdL w.heap.size W gr s') hl => rdBL_any gr s' W hR hl)
  have PT := hide (fun W s' (hR : RdL w.heap.size W gr s') hl => rdTL_any gr s' W hR hl)
  have PW := fun W (hW : RdL w.heap.size W gr s0) => rdWL_any gr s0 W hW (by omega)
  obtain ⟨id, hid⟩ : ∃ id, (rW s0).1 = id := ⟨_, rfl⟩
  obtain ⟨s1, hs1⟩ : ∃ s1, (rW s0).2 = s1 := ⟨_, rfl⟩
  rw [hid, hs1] at PW
  have hl1 : s1.1.length ≤ 65535 := by rw [← hs1]; exact Nat.le_trans (rW_le s0).1 hl0
  obtain ⟨all, hall⟩ : ∃ all, (subsR (t : Int) s1.1.length s1).1 = all := ⟨_, rfl⟩
  obtain ⟨s, hs⟩ : ∃ s, (subsR (t : Int) s1.1.length s1).2 = s := ⟨_, rfl⟩
  have hsh := subsR_short (t : Int) s1.1.length s1
  rw [hall] at hsh
  obtain ⟨p, hp⟩ : ∃ p : Pk, ⟨(t : Int), false, (id : Int), [], [], 0, false, [], false, 0, false, false, false, [], [], false, [], all⟩ = p := ⟨_, rfl⟩
  have HPS := hide (show PkS p from by rw [← hp]; simp only [PkS, List.length_nil]; exact ⟨by omega, by omega, by omega, by omega, by omega, by omega, by omega, hsh.2⟩)
  have HO := hide (show (if s.2 = true ∨ mayP p = false ∨ layP p ≠ xs then none else some p) = O from by
    have := HO.out
    have hT := Ht.out
    rw [show bodyR t f s0 = (p, s) from by unfold bodyR; rw [if_neg (by omega), if_neg (by omega), if_neg (by omega), if_neg (by omega), if_pos hT, hid, hs1, ← hp]; simp only [hall, hs]; rfl] at this
    exact this)
  have Hp := hide hp
  have HS1 := hide hs
  have HAll := hide hall
  clear hid hs1 hp hs hall hsh
  rcases Ht.out with rfl | rfl
  · skip
    go_wp2_with (go_at_call 46; refine (PW _ HS.out.hr).mono ?_; rintro e V3 ⟨rfl, r3, a3⟩; have HS := hide (HS.out.call r3 a3); have cc : V3.cell? ⟨gp, 2, none⟩ = some (.int .i64 0) := HS.out.hp.cell 2; have ff := HS.out.hp.frozen; clear r3 a3)
    have HS := hide (HS.out.set 2 (.int .i64 (id : Int)) ⟨8, false, (id : Int), [], [], 0, false, [], false, 0, false, false, false, [], [], false, [], []⟩ rfl)
    generalize V3.setCell ⟨gp, 2, none⟩ (.int .i64 (id : Int)) = V4 at *
    clear cc ff c0 PW
    go_loopg [] s1.1.length (fun k wr => ∃ (dn : List (List UInt8 × Int)) (S : Option Addr) (ks : Nat) (s' : Rdr), dn ++ (subsR 8 k s').1 = all ∧ (subsR 8 k s').2 = s ∧ s'.1.length ≤ k ∧ dn.length + s'.1.length ≤ 65535 ∧ PsS w.heap.size w wr gp gr gz ⟨8, false, (id : Int), [], [], 0, false, [], false, 0, false, false, false, [], [], false, [], dn⟩ none 0 0 S dn.length ks s' ∧ wr.ownsRow w.heap.size 59 2 (.slice S dn.length ks) dn.length (subVs dn) ∧ (∀ b o, S = some ⟨b, o, none⟩ → b ≠ gp ∧ b ≠ gr ∧ b ≠ gz))
    case atStart => exact ⟨[], none, 0, s1, by have := HAll.out; simpa using this, by have := HS1.out; simpa using this, Nat.le_refl _, by simpa using hl1, HS.out, World.ownsRow_nil _ _ _ _, fun _ _ e => by cases e⟩
    case round =>
      obtain ⟨dn, S, ks, s', hal2, hsE, hlk, hdl, hS, hO, hoff⟩ := hrel
      have HS := hide hS
      have HO2 := hide hO
      have HOff := hide hoff
      have HAl := hide hal2
      have HSE := hide hsE
      have hSn : ∀ b o, S = some ⟨b, o, none⟩ → w.heap.size ≤ b := fun b o e => ownS_new hO b o e
      obtain ⟨zs, bd⟩ := s'
      obtain ⟨A3, k3, hBr3, -⟩ := hS.hr
      clear hS hO hoff hal2 hsE
      simp only at hlk hdl
      cases zs with
      | nil =>
        have cr : wr.cell? ⟨gr, 0, none⟩ = some (.slice A3 0 k3) := hBr3.cell 0
        have hst := subsR_stop 8 gk ([], bd) (Or.inl rfl)
        have hdn2 : dn = all := by have := HAl.out; rw [hst] at this; simpa using this
        have hss : ([], bd) = s := by have := HSE.out; rw [hst] at this; exact this
        subst hdn2
        clear hBr3 hst
        go_upto_region 40 with fail
        have HS0 := HS
        have HM0 : PkM wr p none 0 0 S dn.length ks := by
          rw [← Hp.out]
          exact ⟨rfl, Nat.le_refl _, Rd.nil _ _, rfl, ownS_cap8 HO2.out, ownS_rd HO2.out⟩
        obtain ⟨C, nc, kc, S, ns, ks, HS, HM, HN, HOF⟩ : ∃ (C : Option Addr) (nc kc : Nat) (S : Option Addr) (ns ks : Nat), Hid (PsS w.heap.size w wr gp gr gz p C nc kc S ns ks s) ∧ Hid (PkM wr p C nc kc S ns ks) ∧ Hid (NewAt w C ∧ NewAt w S) ∧ Hid ((0 < nc → Off (fun i => i = gz) C) ∧ (0 < ns → Off (fun i => i = gz) S)) := ⟨none, 0, 0, S, dn.length, ks, hide (by rw [← Hp.out, ← hss]; exact HS0.out), hide HM0, hide ⟨NewAt.nil _, hSn⟩, hide ⟨fun h => by omega, fun _ b o e h => (HOff.out b o e).2.2 h⟩⟩
        clear HS0 HM0 hss
        go_upto_region 40 with fail
        have hwV : Below w.heap.size w wr := HS.out.aft.below (Below.refl _ _) hwgr (Nat.le_refl _)
        have dX := strOn (HR.out.keep hwV)
        obtain ⟨ys, bd⟩ := s
        obtain ⟨A2, k2, hBr, -⟩ := HS.out.hr
        have hcr0 := hBr.cell 1
        simp only [List.getElem?_cons_zero, List.getElem?_cons_succ] at hcr0
        have hgrl := hBr.lt
        have hPl := HS.out.hp
        clear hBr
        cases bd with
        | true =>
          have hO0 : O = none := by rw [← HO.out, if_pos (Or.inl rfl)]
          have hcr : ∀ w', Below wr.heap.size wr w' → w'.cell? ⟨gr, 1, none⟩ = some (.bool true) := fun w' h => (h.cell (p := ⟨gr, 1, none⟩) hgrl).trans hcr0
          refine wp_region_held_drew (S := fun w' => Below wr.heap.size wr w') (by kernel_rfl) ?_ (fun hHeld => ?_)
          · exact (Below.refl _ _).drew
          refine wpAnyH_take (i := 0) (oi := { dst := some 144, op := _, type := _, pos := _, after := _, guard := _ }) (v := ?v14x1) rfl (by kernel_rfl) (by kernel_rfl) (by kernel_rfl) (fun _ _ _ h => h) (Or.inl ⟨by rfl, ?hy14x1⟩) hHeld ?rest14x1
          case hy14x1 => (intro w hSw; go_simp <;> with_reducible rfl)
          try simp only [Act.put, List.setIfInBounds_toArray, List.set_cons_zero, List.set_cons_succ]
          refine wpAnyH_take (i := 1) (oi := { dst := some 145, op := _, type := _, pos := _, after := _, guard := _ }) (v := ?v14x2) rfl (by kernel_rfl) (by kernel_rfl) (by kernel_rfl) (fun _ _ _ h => h) (Or.inl ⟨by rfl, ?hy14x2⟩) hHeld ?rest14x2
          case hy14x2 => (intro w hSw; go_simp <;> with_reducible rfl)
          try simp only [Act.put, List.setIfInBounds_toArray, List.set_cons_zero, List.set_cons_succ]
          refine wpAnyH_take (i := 2) (oi := { dst := some 146, op := _, type := _, pos := _, after := _, guard := _ }) (v := ?v14x3) rfl (by kernel_rfl) (by kernel_rfl) (by kernel_rfl) (fun _ _ _ h => h) (Or.inl ⟨by rfl, ?hy14x3⟩) hHeld ?rest14x3
          case hy14x3 => (intro w hSw; go_simp <;> with_reducible rfl)
          try simp only [Act.put, List.setIfInBounds_toArray, List.set_cons_zero, List.set_cons_succ]
          refine wpAnyH_take (i := 3) (oi := { dst := some 147, op := _, type := _, pos := _, after := _, guard := _ }) (v := ?v14x4) rfl (by kernel_rfl) (by kernel_rfl) (by kernel_rfl) (fun _ _ _ h => h) (Or.inl ⟨by rfl, ?hy14x4⟩) hHeld ?rest14x4
          case hy14x4 => (intro w hSw; go_simp <;> with_reducible rfl)
          try simp only [Act.put, List.setIfInBounds_toArray, List.set_cons_zero, List.set_cons_succ]
          refine wpAnyH_take (i := 4) (oi := { dst := some 148, op := _, type := _, pos := _, after := _, guard := _ }) (v := ?v14x5) rfl (by kernel_rfl) (by kernel_rfl) (by kernel_rfl) (fun _ _ _ h => h) (Or.inl ⟨by rfl, ?hy14x5⟩) hHeld ?rest14x5
          case hy14x5 => (intro w hSw; go_simp <;> with_reducible rfl)
          try simp only [Act.put, List.setIfInBounds_toArray, List.set_cons_zero, List.set_cons_succ]
          refine wpAnyH_take (i := 5) (oi := { dst := some 149, op := _, type := _, pos := _, after := _, guard := _ }) (v := undef) rfl (by kernel_rfl) (by kernel_rfl) (by kernel_rfl) (fun _ _ _ h => h) (Or.inr ⟨by rfl, rfl⟩) hHeld ?_
          try simp only [Act.put, List.setIfInBounds_toArray, List.set_cons_zero, List.set_cons_succ]
          refine wpAnyH_take (i := 6) (oi := { dst := some 150, op := _, type := _, pos := _, after := _, guard := _ }) (v := undef) rfl (by kernel_rfl) (by kernel_rfl) (by kernel_rfl) (fun _ _ _ h => h) (Or.inr ⟨by rfl, rfl⟩) hHeld ?_
          try simp only [Act.put, List.setIfInBounds_toArray, List.set_cons_zero, List.set_cons_succ]
          refine wpAnyH_take (i := 7) (oi := { dst := some 151, op := _, type := _, pos := _, after := _, guard := _ }) (v := undef) rfl (by kernel_rfl) (by kernel_rfl) (by kernel_rfl) (fun _ _ _ h => h) (Or.inr ⟨by rfl, rfl⟩) hHeld ?_
          try simp only [Act.put, List.setIfInBounds_toArray, List.set_cons_zero, List.set_cons_succ]
          refine wpAnyH_take (i := 8) (oi := { dst := some 152, op := _, type := _, pos := _, after := _, guard := _ }) (v := ?v14x9) rfl (by kernel_rfl) (by kernel_rfl) (by kernel_rfl) (fun _ _ _ h => h) (Or.inl ⟨by rfl, ?hy14x9⟩) hHeld ?rest14x9
          case hy14x9 => (intro w hSw; go_simp <;> with_reducible rfl)
          try simp only [Act.put, List.setIfInBounds_toArray, List.set_cons_zero, List.set_cons_succ]
          refine wpAnyH_take (i := 9) (oi := { dst := some 153, op := _, type := _, pos := _, after := _, guard := _ }) (v := ?v14x10) rfl (by kernel_rfl) (by kernel_rfl) (by kernel_rfl) (fun _ _ _ h => h) (Or.inl ⟨by rfl, ?hy14x10⟩) hHeld ?rest14x10
          case hy14x10 => (intro w hSw; go_simp <;> with_reducible rfl)
          try simp only [Act.put, List.setIfInBounds_toArray, List.set_cons_zero, List.set_cons_succ]
          refine wpAnyH_take (i := 10) (oi := { dst := some 154, op := _, type := _, pos := _, after := _, guard := _ }) (v := undef) rfl (by kernel_rfl) (by kernel_rfl) (by kernel_rfl) (fun _ _ _ h => h) (Or.inr ⟨by rfl, rfl⟩) hHeld ?_
          try simp only [Act.put, List.setIfInBounds_toArray, List.set_cons_zero, List.set_cons_succ]
          refine wpAnyH_take (i := 11) (oi := { dst := some 155, op := _, type := _, pos := _, after := _, guard := _ }) (v := undef) rfl (by kernel_rfl) (by kernel_rfl) (by kernel_rfl) (fun _ _ _ h => h) (Or.inr ⟨by rfl, rfl⟩) hHeld ?_
          try simp only [Act.put, List.setIfInBounds_toArray, List.set_cons_zero, List.set_cons_succ]
          refine wpAnyH_take (i := 12) (oi := { dst := some 156, op := _, type := _, pos := _, after := _, guard := _ }) (v := undef) rfl (by kernel_rfl) (by kernel_rfl) (by kernel_rfl) (fun _ _ _ h => h) (Or.inr ⟨by rfl, rfl⟩) hHeld ?_
          try simp only [Act.put, List.setIfInBounds_toArray, List.set_cons_zero, List.set_cons_succ]
          refine wpAnyH_take (i := 13) (oi := { dst := some 157, op := _, type := _, pos := _, after := _, guard := _ }) (v := undef) rfl (by kernel_rfl) (by kernel_rfl) (by kernel_rfl) (fun _ _ _ h => h) (Or.inr ⟨by rfl, rfl⟩) hHeld ?_
          try simp only [Act.put, List.setIfInBounds_toArray, List.set_cons_zero, List.set_cons_succ]
          refine wpAnyH_take (i := 14) (oi := { dst := some 158, op := _, type := _, pos := _, after := _, guard := _ }) (v := undef) rfl (by kernel_rfl) (by kernel_rfl) (by kernel_rfl) (fun _ _ _ h => h) (Or.inr ⟨by rfl, rfl⟩) hHeld ?_
          try simp only [Act.put, List.setIfInBounds_toArray, List.set_cons_zero, List.set_cons_succ]
          refine wpAnyH_take (i := 15) (oi := { dst := some 159, op := _, type := _, pos := _, after := _, guard := _ }) (v := undef) rfl (by kernel_rfl) (by kernel_rfl) (by kernel_rfl) (fun _ _ _ h => h) (Or.inr ⟨by rfl, rfl⟩) hHeld ?_
          try simp only [Act.put, List.setIfInBounds_toArray, List.set_cons_zero, List.set_cons_succ]
          refine wpAnyH_take (i := 16) (oi := { dst := some 160, op := _, type := _, pos := _, after := _, guard := _ }) (v := ?v14x17) rfl (by kernel_rfl) (by kernel_rfl) (by kernel_rfl) (fun _ _ _ h => h) (Or.inl ⟨by rfl, ?hy14x17⟩) hHeld ?rest14x17
          case hy14x17 => (intro w hSw; go_simp <;> with_reducible rfl)
          try simp only [Act.put, List.setIfInBounds_toArray, List.set_cons_zero, List.set_cons_succ]
          refine wpAnyH_done (by kernel_rfl) ?_ _
          clear hcr hcr0 dX
          have HS5 := hide (HS.out.mem hHeld)
          go_upto_region 99 with (refine wpList_storeQ rfl 27 (.tmp 2) (.tmp 161) rfl gz 27 (zeroP 0) none 0 0 none 0 0 (zeroP 0) none 0 0 none 0 0 rfl rfl (HS5.out).hz (by kernel_rfl) ?_; intro V2 bV2 BV2)
          refine bodyPost_ret (results_cell_tmp rfl rfl bV2 Try.underlying27 rfl (by kernel_rfl)) rfl ?_
          refine HOP.out _ _ ?_
          rw [hO0]
          exact ⟨rfl, ((HS5.out).ans BV2).2.below (Below.refl _ _) hwgr (Nat.le_refl _)⟩
        | false =>
          have hcr : ∀ w', Below wr.heap.size wr w' → w'.cell? ⟨gr, 1, none⟩ = some (.bool false) := fun w' h => (h.cell (p := ⟨gr, 1, none⟩) hgrl).trans hcr0
          have HPB : ∀ w', Below wr.heap.size wr w' → Blk w' gp 27 (pkVs p C nc kc S ns ks) := fun w' h => hPl.keep h
          have PM := fun W (hb : Below wr.heap.size wr W) => may_any p C nc kc S ns ks W (HM.out.keep hb) HPS.out
          by_cases hmv : mayP p = true
          case neg =>
            have hmf : mayP p = false := by rw [← Bool.not_eq_true]; exact hmv
            have hO0 : O = none := by rw [← HO.out, if_pos (Or.inr (Or.inl hmf))]
            rw [hmf] at PM
            clear hmv
            refine wp_region_held_drew (S := fun w' => Below wr.heap.size wr w') (by kernel_rfl) ?_ (fun hHeld => ?_)
            · exact (Below.refl _ _).drew
            refine wpAnyH_take (i := 0) (oi := { dst := some 144, op := _, type := _, pos := _, after := _, guard := _ }) (v := ?v15x1) rfl (by kernel_rfl) (by kernel_rfl) (by kernel_rfl) (fun _ _ _ h => h) (Or.inl ⟨by rfl, ?hy15x1⟩) hHeld ?rest15x1
            case hy15x1 => (intro w hSw; go_simp <;> with_reducible rfl)
            try simp only [Act.put, List.setIfInBounds_toArray, List.set_cons_zero, List.set_cons_succ]
            refine wpAnyH_take (i := 1) (oi := { dst := some 145, op := _, type := _, pos := _, after := _, guard := _ }) (v := ?v15x2) rfl (by kernel_rfl) (by kernel_rfl) (by kernel_rfl) (fun _ _ _ h => h) (Or.inl ⟨by rfl, ?hy15x2⟩) hHeld ?rest15x2
            case hy15x2 => (intro w hSw; go_simp <;> with_reducible rfl)
            try simp only [Act.put, List.setIfInBounds_toArray, List.set_cons_zero, List.set_cons_succ]
            refine wpAnyH_take (i := 2) (oi := { dst := some 146, op := _, type := _, pos := _, after := _, guard := _ }) (v := ?v15x3) rfl (by kernel_rfl) (by kernel_rfl) (by kernel_rfl) (fun _ _ _ h => h) (Or.inl ⟨by rfl, ?hy15x3⟩) hHeld ?rest15x3
            case hy15x3 => (intro w hSw; go_simp <;> with_reducible rfl)
            try simp only [Act.put, List.setIfInBounds_toArray, List.set_cons_zero, List.set_cons_succ]
            refine wpAnyH_take (i := 3) (oi := { dst := some 147, op := _, type := _, pos := _, after := _, guard := _ }) (v := ?v15x4) rfl (by kernel_rfl) (by kernel_rfl) (by kernel_rfl) (fun _ _ _ h => h) (Or.inl ⟨by rfl, ?hy15x4⟩) hHeld ?rest15x4
            case hy15x4 => (intro w hSw; go_simp <;> with_reducible rfl)
            try simp only [Act.put, List.setIfInBounds_toArray, List.set_cons_zero, List.set_cons_succ]
            refine wpAnyH_take (i := 4) (oi := { dst := some 148, op := _, type := _, pos := _, after := _, guard := _ }) (v := ?v15x5) rfl (by kernel_rfl) (by kernel_rfl) (by kernel_rfl) (fun _ _ _ h => h) (Or.inl ⟨by rfl, ?hy15x5⟩) hHeld ?rest15x5
            case hy15x5 => (intro w hSw; go_simp <;> with_reducible rfl)
            try simp only [Act.put, List.setIfInBounds_toArray, List.set_cons_zero, List.set_cons_succ]
            refine wpAnyH_take (i := 5) (oi := { dst := some 149, op := _, type := _, pos := _, after := _, guard := _ }) (v := ?v15x6) rfl (by kernel_rfl) (by kernel_rfl) (by kernel_rfl) (fun _ _ _ h => h) (Or.inl ⟨by rfl, ?hy15x6⟩) hHeld ?rest15x6
            case hy15x6 => (intro w hSw; refine exec_loadP 27 (.tmp 5) ?_ gp 27 p C nc kc S ns ks ?_ (HPB w hSw) Try.underlying27 ?_ ?_; rfl; rfl; rfl; kernel_rfl)
            try simp only [Act.put, List.setIfInBounds_toArray, List.set_cons_zero, List.set_cons_succ]
            refine wpAnyH_ready (rs := [6]) (by kernel_rfl) (by simp) (AllReadyH.cons (o := { dst := some 150, op := _, type := _, pos := _, after := _, guard := _ }) rfl (fun K hK => ?_) AllReadyH.nil)
            go_simp
            refine (PM _ hHeld).mono ?_
            rintro e w6 ⟨rfl, b6⟩
            have s6 := below_on hHeld b6
            go_wp2_with fail
            refine hK.out _ _ ?_ (fun hHeld => ?_)
            · exact s6
            clear hK K
            try simp only [Act.put, List.setIfInBounds_toArray, List.set_cons_zero, List.set_cons_succ]
            refine wpAnyH_take (i := 7) (oi := { dst := some 151, op := _, type := _, pos := _, after := _, guard := _ }) (v := ?v15x8) rfl (by kernel_rfl) (by kernel_rfl) (by kernel_rfl) (fun _ _ _ h => h) (Or.inl ⟨by rfl, ?hy15x8⟩) hHeld ?rest15x8
            case hy15x8 => (intro w hSw; go_simp <;> with_reducible rfl)
            try simp only [Act.put, List.setIfInBounds_toArray, List.set_cons_zero, List.set_cons_succ]
            refine wpAnyH_take (i := 8) (oi := { dst := some 152, op := _, type := _, pos := _, after := _, guard := _ }) (v := ?v15x9) rfl (by kernel_rfl) (by kernel_rfl) (by kernel_rfl) (fun _ _ _ h => h) (Or.inl ⟨by rfl, ?hy15x9⟩) hHeld ?rest15x9
            case hy15x9 => (intro w hSw; go_simp <;> with_reducible rfl)
            try simp only [Act.put, List.setIfInBounds_toArray, List.set_cons_zero, List.set_cons_succ]
            refine wpAnyH_take (i := 9) (oi := { dst := some 153, op := _, type := _, pos := _, after := _, guard := _ }) (v := ?v15x10) rfl (by kernel_rfl) (by kernel_rfl) (by kernel_rfl) (fun _ _ _ h => h) (Or.inl ⟨by rfl, ?hy15x10⟩) hHeld ?rest15x10
            case hy15x10 => (intro w hSw; go_simp <;> with_reducible rfl)
            try simp only [Act.put, List.setIfInBounds_toArray, List.set_cons_zero, List.set_cons_succ]
            refine wpAnyH_take (i := 10) (oi := { dst := some 154, op := _, type := _, pos := _, after := _, guard := _ }) (v := undef) rfl (by kernel_rfl) (by kernel_rfl) (by kernel_rfl) (fun _ _ _ h => h) (Or.inr ⟨by rfl, rfl⟩) hHeld ?_
            try simp only [Act.put, List.setIfInBounds_toArray, List.set_cons_zero, List.set_cons_succ]
            refine wpAnyH_take (i := 11) (oi := { dst := some 155, op := _, type := _, pos := _, after := _, guard := _ }) (v := undef) rfl (by kernel_rfl) (by kernel_rfl) (by kernel_rfl) (fun _ _ _ h => h) (Or.inr ⟨by rfl, rfl⟩) hHeld ?_
            try simp only [Act.put, List.setIfInBounds_toArray, List.set_cons_zero, List.set_cons_succ]
            refine wpAnyH_take (i := 12) (oi := { dst := some 156, op := _, type := _, pos := _, after := _, guard := _ }) (v := undef) rfl (by kernel_rfl) (by kernel_rfl) (by kernel_rfl) (fun _ _ _ h => h) (Or.inr ⟨by rfl, rfl⟩) hHeld ?_
            try simp only [Act.put, List.setIfInBounds_toArray, List.set_cons_zero, List.set_cons_succ]
            refine wpAnyH_take (i := 13) (oi := { dst := some 157, op := _, type := _, pos := _, after := _, guard := _ }) (v := undef) rfl (by kernel_rfl) (by kernel_rfl) (by kernel_rfl) (fun _ _ _ h => h) (Or.inr ⟨by rfl, rfl⟩) hHeld ?_
            try simp only [Act.put, List.setIfInBounds_toArray, List.set_cons_zero, List.set_cons_succ]
            refine wpAnyH_take (i := 14) (oi := { dst := some 158, op := _, type := _, pos := _, after := _, guard := _ }) (v := undef) rfl (by kernel_rfl) (by kernel_rfl) (by kernel_rfl) (fun _ _ _ h => h) (Or.inr ⟨by rfl, rfl⟩) hHeld ?_
            try simp only [Act.put, List.setIfInBounds_toArray, List.set_cons_zero, List.set_cons_succ]
            refine wpAnyH_take (i := 15) (oi := { dst := some 159, op := _, type := _, pos := _, after := _, guard := _ }) (v := undef) rfl (by kernel_rfl) (by kernel_rfl) (by kernel_rfl) (fun _ _ _ h => h) (Or.inr ⟨by rfl, rfl⟩) hHeld ?_
            try simp only [Act.put, List.setIfInBounds_toArray, List.set_cons_zero, List.set_cons_succ]
            refine wpAnyH_take (i := 16) (oi := { dst := some 160, op := _, type := _, pos := _, after := _, guard := _ }) (v := ?v15x17) rfl (by kernel_rfl) (by kernel_rfl) (by kernel_rfl) (fun _ _ _ h => h) (Or.inl ⟨by rfl, ?hy15x17⟩) hHeld ?rest15x17
            case hy15x17 => (intro w hSw; go_simp <;> with_reducible rfl)
            try simp only [Act.put, List.setIfInBounds_toArray, List.set_cons_zero, List.set_cons_succ]
            refine wpAnyH_done (by kernel_rfl) ?_ _
            clear hcr hcr0 dX HPB PM
            have HS5 := hide (HS.out.mem hHeld)
            go_upto_region 99 with (refine wpList_storeQ rfl 27 (.tmp 2) (.tmp 161) rfl gz 27 (zeroP 0) none 0 0 none 0 0 (zeroP 0) none 0 0 none 0 0 rfl rfl (HS5.out).hz (by kernel_rfl) ?_; intro V2 bV2 BV2)
            refine bodyPost_ret (results_cell_tmp rfl rfl bV2 Try.underlying27 rfl (by kernel_rfl)) rfl ?_
            refine HOP.out _ _ ?_
            rw [hO0]
            exact ⟨rfl, ((HS5.out).ans BV2).2.below (Below.refl _ _) hwgr (Nat.le_refl _)⟩
          case pos =>
          have PB := fun W (hb : Below wr.heap.size wr W) => rBytes10_any p C nc kc S ns ks W (HM.out.keep hb) HPS.out hmv
          rw [hmv] at PM
          by_cases hl : layP p = xs
          case pos =>
            have hO0 : O = some p := by rw [← HO.out, if_neg (by rw [hmv]; simp [hl])]
            rw [hl] at PB
            refine wp_region_held_drew (S := fun w' => Below wr.heap.size wr w') (by kernel_rfl) ?_ (fun hHeld => ?_)
            · exact (Below.refl _ _).drew
            refine wpAnyH_take (i := 0) (oi := { dst := some 144, op := _, type := _, pos := _, after := _, guard := _ }) (v := ?v16x1) rfl (by kernel_rfl) (by kernel_rfl) (by kernel_rfl) (fun _ _ _ h => h) (Or.inl ⟨by rfl, ?hy16x1⟩) hHeld ?rest16x1
            case hy16x1 => (intro w hSw; go_simp <;> with_reducible rfl)
            try simp only [Act.put, List.setIfInBounds_toArray, List.set_cons_zero, List.set_cons_succ]
            refine wpAnyH_take (i := 1) (oi := { dst := some 145, op := _, type := _, pos := _, after := _, guard := _ }) (v := ?v16x2) rfl (by kernel_rfl) (by kernel_rfl) (by kernel_rfl) (fun _ _ _ h => h) (Or.inl ⟨by rfl, ?hy16x2⟩) hHeld ?rest16x2
            case hy16x2 => (intro w hSw; go_simp <;> with_reducible rfl)
            try simp only [Act.put, List.setIfInBounds_toArray, List.set_cons_zero, List.set_cons_succ]
            refine wpAnyH_take (i := 2) (oi := { dst := some 146, op := _, type := _, pos := _, after := _, guard := _ }) (v := ?v16x3) rfl (by kernel_rfl) (by kernel_rfl) (by kernel_rfl) (fun _ _ _ h => h) (Or.inl ⟨by rfl, ?hy16x3⟩) hHeld ?rest16x3
            case hy16x3 => (intro w hSw; go_simp <;> with_reducible rfl)
            try simp only [Act.put, List.setIfInBounds_toArray, List.set_cons_zero, List.set_cons_succ]
            refine wpAnyH_take (i := 3) (oi := { dst := some 147, op := _, type := _, pos := _, after := _, guard := _ }) (v := ?v16x4) rfl (by kernel_rfl) (by kernel_rfl) (by kernel_rfl) (fun _ _ _ h => h) (Or.inl ⟨by rfl, ?hy16x4⟩) hHeld ?rest16x4
            case hy16x4 => (intro w hSw; go_simp <;> with_reducible rfl)
            try simp only [Act.put, List.setIfInBounds_toArray, List.set_cons_zero, List.set_cons_succ]
            refine wpAnyH_take (i := 4) (oi := { dst := some 148, op := _, type := _, pos := _, after := _, guard := _ }) (v := ?v16x5) rfl (by kernel_rfl) (by kernel_rfl) (by kernel_rfl) (fun _ _ _ h => h) (Or.inl ⟨by rfl, ?hy16x5⟩) hHeld ?rest16x5
            case hy16x5 => (intro w hSw; go_simp <;> with_reducible rfl)
            try simp only [Act.put, List.setIfInBounds_toArray, List.set_cons_zero, List.set_cons_succ]
            refine wpAnyH_take (i := 5) (oi := { dst := some 149, op := _, type := _, pos := _, after := _, guard := _ }) (v := ?v16x6) rfl (by kernel_rfl) (by kernel_rfl) (by kernel_rfl) (fun _ _ _ h => h) (Or.inl ⟨by rfl, ?hy16x6⟩) hHeld ?rest16x6
            case hy16x6 => (intro w hSw; refine exec_loadP 27 (.tmp 5) ?_ gp 27 p C nc kc S ns ks ?_ (HPB w hSw) Try.underlying27 ?_ ?_; rfl; rfl; rfl; kernel_rfl)
            try simp only [Act.put, List.setIfInBounds_toArray, List.set_cons_zero, List.set_cons_succ]
            refine wpAnyH_ready (rs := [6]) (by kernel_rfl) (by simp) (AllReadyH.cons (o := { dst := some 150, op := _, type := _, pos := _, after := _, guard := _ }) rfl (fun K hK => ?_) AllReadyH.nil)
            go_simp
            refine (PM _ hHeld).mono ?_
            rintro e w6 ⟨rfl, b6⟩
            have s6 := below_on hHeld b6
            have dX6 : ∀ w', Below w6.heap.size w6 w' → ∀ c, (convert 31 9 (.slice (some ⟨bA, oA, none⟩) n c)).run Try.prog w' = .ok (.string (str xs)) w' := fun w' h => dX w' (below_on s6 h)
            go_wp2_with fail
            refine hK.out _ _ ?_ (fun hHeld => ?_)
            · exact below_on hHeld b6
            clear hK K
            try simp only [Act.put, List.setIfInBounds_toArray, List.set_cons_zero, List.set_cons_succ]
            refine wpAnyH_strong (S' := fun w' => Below w6.heap.size w6 w') (by intro w' h; exact below_on hHeld h) ?_
            replace hHeld : (fun w' => Below w6.heap.size w6 w') _ := Below.refl _ _
            refine wpAnyH_take (i := 7) (oi := { dst := some 151, op := _, type := _, pos := _, after := _, guard := _ }) (v := ?v16x8) rfl (by kernel_rfl) (by kernel_rfl) (by kernel_rfl) (fun _ _ _ h => h) (Or.inl ⟨by rfl, ?hy16x8⟩) hHeld ?rest16x8
            case hy16x8 => (intro w hSw; go_simp <;> with_reducible rfl)
            try simp only [Act.put, List.setIfInBounds_toArray, List.set_cons_zero, List.set_cons_succ]
            refine wpAnyH_take (i := 8) (oi := { dst := some 152, op := _, type := _, pos := _, after := _, guard := _ }) (v := ?v16x9) rfl (by kernel_rfl) (by kernel_rfl) (by kernel_rfl) (fun _ _ _ h => h) (Or.inl ⟨by rfl, ?hy16x9⟩) hHeld ?rest16x9
            case hy16x9 => (intro w hSw; go_simp <;> with_reducible rfl)
            try simp only [Act.put, List.setIfInBounds_toArray, List.set_cons_zero, List.set_cons_succ]
            refine wpAnyH_take (i := 9) (oi := { dst := some 153, op := _, type := _, pos := _, after := _, guard := _ }) (v := ?v16x10) rfl (by kernel_rfl) (by kernel_rfl) (by kernel_rfl) (fun _ _ _ h => h) (Or.inl ⟨by rfl, ?hy16x10⟩) hHeld ?rest16x10
            case hy16x10 => (intro w hSw; go_simp <;> with_reducible rfl)
            try simp only [Act.put, List.setIfInBounds_toArray, List.set_cons_zero, List.set_cons_succ]
            refine wpAnyH_take (i := 10) (oi := { dst := some 154, op := _, type := _, pos := _, after := _, guard := _ }) (v := ?v16x11) rfl (by kernel_rfl) (by kernel_rfl) (by kernel_rfl) (fun _ _ _ h => h) (Or.inl ⟨by rfl, ?hy16x11⟩) hHeld ?rest16x11
            case hy16x11 => (intro w hSw; refine exec_loadP 27 (.tmp 5) ?_ gp 27 p C nc kc S ns ks ?_ (HPB w (below_on s6 hSw)) Try.underlying27 ?_ ?_; rfl; rfl; rfl; kernel_rfl)
            try simp only [Act.put, List.setIfInBounds_toArray, List.set_cons_zero, List.set_cons_succ]
            refine wpAnyH_take (i := 13) (oi := { dst := some 157, op := _, type := _, pos := _, after := _, guard := _ }) (v := ?v16x12) rfl (by kernel_rfl) (by kernel_rfl) (by kernel_rfl) (fun _ _ _ h => h) (Or.inl ⟨by rfl, ?hy16x12⟩) hHeld ?rest16x12
            case hy16x12 => (intro w hSw; go_simp <;> with_reducible rfl)
            try simp only [Act.put, List.setIfInBounds_toArray, List.set_cons_zero, List.set_cons_succ]
            refine wpAnyH_take (i := 14) (oi := { dst := some 158, op := _, type := _, pos := _, after := _, guard := _ }) (v := ?v16x13) rfl (by kernel_rfl) (by kernel_rfl) (by kernel_rfl) (fun _ _ _ h => h) (Or.inl ⟨by rfl, ?hy16x13⟩) hHeld ?rest16x13
            case hy16x13 => (intro w hSw; go_simp <;> with_reducible rfl)
            try simp only [Act.put, List.setIfInBounds_toArray, List.set_cons_zero, List.set_cons_succ]
            refine wpAnyH_ready (rs := [11]) (by kernel_rfl) (by simp) (AllReadyH.cons (o := { dst := some 155, op := _, type := _, pos := _, after := _, guard := _ }) rfl (fun K hK => ?_) AllReadyH.nil)
            go_simp
            refine (PB _ (below_on s6 hHeld)).mono ?_
            rintro e w7 ⟨G, gk, rfl, hgk, r7, b7⟩
            have s7 := below_on s6 (below_on hHeld b7)
            have dG := strOn r7
            have dX7 : ∀ w', Below w7.heap.size w7 w' → ∀ c, (convert 31 9 (.slice (some ⟨bA, oA, none⟩) n c)).run Try.prog w' = .ok (.string (str xs)) w' := fun w' h => dX w' (below_on s7 h)
            clear dX6
            go_wp2_with fail
            refine hK.out _ _ ?_ (fun hHeld => ?_)
            · exact below_on hHeld b7
            clear hK K
            try simp only [Act.put, List.setIfInBounds_toArray, List.set_cons_zero, List.set_cons_succ]
            refine wpAnyH_strong (S' := fun w' => Below w7.heap.size w7 w') (by intro w' h; exact below_on hHeld h) ?_
            replace hHeld : (fun w' => Below w7.heap.size w7 w') _ := Below.refl _ _
            refine wpAnyH_take (i := 12) (oi := { dst := some 156, op := _, type := _, pos := _, after := _, guard := _ }) (v := ?v16x15) rfl (by kernel_rfl) (by kernel_rfl) (by kernel_rfl) (fun _ _ _ h => h) (Or.inl ⟨by rfl, ?hy16x15⟩) hHeld ?rest16x15
            case hy16x15 => (intro w hSw; go_simp <;> with_reducible rfl)
            try simp only [Act.put, List.setIfInBounds_toArray, List.set_cons_zero, List.set_cons_succ]
            refine wpAnyH_take (i := 15) (oi := { dst := some 159, op := _, type := _, pos := _, after := _, guard := _ }) (v := ?v16x16) rfl (by kernel_rfl) (by kernel_rfl) (by kernel_rfl) (fun _ _ _ h => h) (Or.inl ⟨by rfl, ?hy16x16⟩) hHeld ?rest16x16
            case hy16x16 => (intro w hSw; go_simp <;> with_reducible rfl)
            try simp only [Act.put, List.setIfInBounds_toArray, List.set_cons_zero, List.set_cons_succ]
            refine wpAnyH_take (i := 16) (oi := { dst := some 160, op := _, type := _, pos := _, after := _, guard := _ }) (v := ?v16x17) rfl (by kernel_rfl) (by kernel_rfl) (by kernel_rfl) (fun _ _ _ h => h) (Or.inl ⟨by rfl, ?hy16x17⟩) hHeld ?rest16x17
            case hy16x17 => (intro w hSw; go_simp <;> with_reducible rfl)
            try simp only [Act.put, List.setIfInBounds_toArray, List.set_cons_zero, List.set_cons_succ]
            refine wpAnyH_done (by kernel_rfl) ?_ _
            have hbel := below_on s7 hHeld
            clear hcr hcr0 dX HPB PM PB dG dX7
            have HS5 := hide (HS.out.mem hbel)
            have HM5 := hide (HM.out.keep hbel)
            go_upto_region 99 with (first
              | (refine wpList_loadP rfl 27 (.tmp 5) rfl gp 27 p C nc kc S ns ks rfl HS5.out.hp Try.underlying27 rfl (by kernel_rfl) ?_)
              | (refine wpList_storeQ rfl 27 (.tmp 2) (.tmp 162) rfl gz 27 (zeroP 0) none 0 0 none 0 0 p C nc kc S ns ks rfl rfl HS5.out.hz (by kernel_rfl) ?_; intro V2 bV2 BV2))
            refine bodyPost_ret (results_cell_tmp rfl rfl bV2 Try.underlying27 rfl (by kernel_rfl)) rfl ?_
            refine HOP.out _ _ ?_
            rw [hO0]
            exact ⟨C, nc, kc, S, ns, ks, rfl, HN.out.1, HN.out.2, PkM_but HM5.out BV2 HOF.out.1 HOF.out.2, (HS5.out.ans BV2).2.below (Below.refl _ _) hwgr (Nat.le_refl _)⟩
          case neg =>
            have hO0 : O = none := by rw [← HO.out, if_pos (Or.inr (Or.inr hl))]
            have hlb : (layP p == xs) = false := by rw [beq_eq_false_iff_ne]; exact hl
            clear hl
            refine wp_region_held_drew (S := fun w' => Below wr.heap.size wr w') (by kernel_rfl) ?_ (fun hHeld => ?_)
            · exact (Below.refl _ _).drew
            refine wpAnyH_take (i := 0) (oi := { dst := some 144, op := _, type := _, pos := _, after := _, guard := _ }) (v := ?v17x1) rfl (by kernel_rfl) (by kernel_rfl) (by kernel_rfl) (fun _ _ _ h => h) (Or.inl ⟨by rfl, ?hy17x1⟩) hHeld ?rest17x1
            case hy17x1 => (intro w hSw; go_simp <;> with_reducible rfl)
            try simp only [Act.put, List.setIfInBounds_toArray, List.set_cons_zero, List.set_cons_succ]
            refine wpAnyH_take (i := 1) (oi := { dst := some 145, op := _, type := _, pos := _, after := _, guard := _ }) (v := ?v17x2) rfl (by kernel_rfl) (by kernel_rfl) (by kernel_rfl) (fun _ _ _ h => h) (Or.inl ⟨by rfl, ?hy17x2⟩) hHeld ?rest17x2
            case hy17x2 => (intro w hSw; go_simp <;> with_reducible rfl)
            try simp only [Act.put, List.setIfInBounds_toArray, List.set_cons_zero, List.set_cons_succ]
            refine wpAnyH_take (i := 2) (oi := { dst := some 146, op := _, type := _, pos := _, after := _, guard := _ }) (v := ?v17x3) rfl (by kernel_rfl) (by kernel_rfl) (by kernel_rfl) (fun _ _ _ h => h) (Or.inl ⟨by rfl, ?hy17x3⟩) hHeld ?rest17x3
            case hy17x3 => (intro w hSw; go_simp <;> with_reducible rfl)
            try simp only [Act.put, List.setIfInBounds_toArray, List.set_cons_zero, List.set_cons_succ]
            refine wpAnyH_take (i := 3) (oi := { dst := some 147, op := _, type := _, pos := _, after := _, guard := _ }) (v := ?v17x4) rfl (by kernel_rfl) (by kernel_rfl) (by kernel_rfl) (fun _ _ _ h => h) (Or.inl ⟨by rfl, ?hy17x4⟩) hHeld ?rest17x4
            case hy17x4 => (intro w hSw; go_simp <;> with_reducible rfl)
            try simp only [Act.put, List.setIfInBounds_toArray, List.set_cons_zero, List.set_cons_succ]
            refine wpAnyH_take (i := 4) (oi := { dst := some 148, op := _, type := _, pos := _, after := _, guard := _ }) (v := ?v17x5) rfl (by kernel_rfl) (by kernel_rfl) (by kernel_rfl) (fun _ _ _ h => h) (Or.inl ⟨by rfl, ?hy17x5⟩) hHeld ?rest17x5
            case hy17x5 => (intro w hSw; go_simp <;> with_reducible rfl)
            try simp only [Act.put, List.setIfInBounds_toArray, List.set_cons_zero, List.set_cons_succ]
            refine wpAnyH_take (i := 5) (oi := { dst := some 149, op := _, type := _, pos := _, after := _, guard := _ }) (v := ?v17x6) rfl (by kernel_rfl) (by kernel_rfl) (by kernel_rfl) (fun _ _ _ h => h) (Or.inl ⟨by rfl, ?hy17x6⟩) hHeld ?rest17x6
            case hy17x6 => (intro w hSw; refine exec_loadP 27 (.tmp 5) ?_ gp 27 p C nc kc S ns ks ?_ (HPB w hSw) Try.underlying27 ?_ ?_; rfl; rfl; rfl; kernel_rfl)
            try simp only [Act.put, List.setIfInBounds_toArray, List.set_cons_zero, List.set_cons_succ]
            refine wpAnyH_ready (rs := [6]) (by kernel_rfl) (by simp) (AllReadyH.cons (o := { dst := some 150, op := _, type := _, pos := _, after := _, guard := _ }) rfl (fun K hK => ?_) AllReadyH.nil)
            go_simp
            refine (PM _ hHeld).mono ?_
            rintro e w6 ⟨rfl, b6⟩
            have s6 := below_on hHeld b6
            have dX6 : ∀ w', Below w6.heap.size w6 w' → ∀ c, (convert 31 9 (.slice (some ⟨bA, oA, none⟩) n c)).run Try.prog w' = .ok (.string (str xs)) w' := fun w' h => dX w' (below_on s6 h)
            go_wp2_with fail
            refine hK.out _ _ ?_ (fun hHeld => ?_)
            · exact below_on hHeld b6
            clear hK K
            try simp only [Act.put, List.setIfInBounds_toArray, List.set_cons_zero, List.set_cons_succ]
            refine wpAnyH_strong (S' := fun w' => Below w6.heap.size w6 w') (by intro w' h; exact below_on hHeld h) ?_
            replace hHeld : (fun w' => Below w6.heap.size w6 w') _ := Below.refl _ _
            refine wpAnyH_take (i := 7) (oi := { dst := some 151, op := _, type := _, pos := _, after := _, guard := _ }) (v := ?v17x8) rfl (by kernel_rfl) (by kernel_rfl) (by kernel_rfl) (fun _ _ _ h => h) (Or.inl ⟨by rfl, ?hy17x8⟩) hHeld ?rest17x8
            case hy17x8 => (intro w hSw; go_simp <;> with_reducible rfl)
            try simp only [Act.put, List.setIfInBounds_toArray, List.set_cons_zero, List.set_cons_succ]
            refine wpAnyH_take (i := 8) (oi := { dst := some 152, op := _, type := _, pos := _, after := _, guard := _ }) (v := ?v17x9) rfl (by kernel_rfl) (by kernel_rfl) (by kernel_rfl) (fun _ _ _ h => h) (Or.inl ⟨by rfl, ?hy17x9⟩) hHeld ?rest17x9
            case hy17x9 => (intro w hSw; go_simp <;> with_reducible rfl)
            try simp only [Act.put, List.setIfInBounds_toArray, List.set_cons_zero, List.set_cons_succ]
            refine wpAnyH_take (i := 9) (oi := { dst := some 153, op := _, type := _, pos := _, after := _, guard := _ }) (v := ?v17x10) rfl (by kernel_rfl) (by kernel_rfl) (by kernel_rfl) (fun _ _ _ h => h) (Or.inl ⟨by rfl, ?hy17x10⟩) hHeld ?rest17x10
            case hy17x10 => (intro w hSw; go_simp <;> with_reducible rfl)
            try simp only [Act.put, List.setIfInBounds_toArray, List.set_cons_zero, List.set_cons_succ]
            refine wpAnyH_take (i := 10) (oi := { dst := some 154, op := _, type := _, pos := _, after := _, guard := _ }) (v := ?v17x11) rfl (by kernel_rfl) (by kernel_rfl) (by kernel_rfl) (fun _ _ _ h => h) (Or.inl ⟨by rfl, ?hy17x11⟩) hHeld ?rest17x11
            case hy17x11 => (intro w hSw; refine exec_loadP 27 (.tmp 5) ?_ gp 27 p C nc kc S ns ks ?_ (HPB w (below_on s6 hSw)) Try.underlying27 ?_ ?_; rfl; rfl; rfl; kernel_rfl)
            try simp only [Act.put, List.setIfInBounds_toArray, List.set_cons_zero, List.set_cons_succ]
            refine wpAnyH_take (i := 13) (oi := { dst := some 157, op := _, type := _, pos := _, after := _, guard := _ }) (v := ?v17x12) rfl (by kernel_rfl) (by kernel_rfl) (by kernel_rfl) (fun _ _ _ h => h) (Or.inl ⟨by rfl, ?hy17x12⟩) hHeld ?rest17x12
            case hy17x12 => (intro w hSw; go_simp <;> with_reducible rfl)
            try simp only [Act.put, List.setIfInBounds_toArray, List.set_cons_zero, List.set_cons_succ]
            refine wpAnyH_take (i := 14) (oi := { dst := some 158, op := _, type := _, pos := _, after := _, guard := _ }) (v := ?v17x13) rfl (by kernel_rfl) (by kernel_rfl) (by kernel_rfl) (fun _ _ _ h => h) (Or.inl ⟨by rfl, ?hy17x13⟩) hHeld ?rest17x13
            case hy17x13 => (intro w hSw; go_simp <;> with_reducible rfl)
            try simp only [Act.put, List.setIfInBounds_toArray, List.set_cons_zero, List.set_cons_succ]
            refine wpAnyH_ready (rs := [11]) (by kernel_rfl) (by simp) (AllReadyH.cons (o := { dst := some 155, op := _, type := _, pos := _, after := _, guard := _ }) rfl (fun K hK => ?_) AllReadyH.nil)
            go_simp
            refine (PB _ (below_on s6 hHeld)).mono ?_
            rintro e w7 ⟨G, gk, rfl, hgk, r7, b7⟩
            have s7 := below_on s6 (below_on hHeld b7)
            have dG := strOn r7
            have dX7 : ∀ w', Below w7.heap.size w7 w' → ∀ c, (convert 31 9 (.slice (some ⟨bA, oA, none⟩) n c)).run Try.prog w' = .ok (.string (str xs)) w' := fun w' h => dX w' (below_on s7 h)
            clear dX6
            go_wp2_with fail
            refine hK.out _ _ ?_ (fun hHeld => ?_)
            · exact below_on hHeld b7
            clear hK K
            try simp only [Act.put, List.setIfInBounds_toArray, List.set_cons_zero, List.set_cons_succ]
            refine wpAnyH_strong (S' := fun w' => Below w7.heap.size w7 w') (by intro w' h; exact below_on hHeld h) ?_
            replace hHeld : (fun w' => Below w7.heap.size w7 w') _ := Below.refl _ _
            refine wpAnyH_take (i := 12) (oi := { dst := some 156, op := _, type := _, pos := _, after := _, guard := _ }) (v := ?v17x15) rfl (by kernel_rfl) (by kernel_rfl) (by kernel_rfl) (fun _ _ _ h => h) (Or.inl ⟨by rfl, ?hy17x15⟩) hHeld ?rest17x15
            case hy17x15 => (intro w hSw; go_simp <;> with_reducible rfl)
            try simp only [Act.put, List.setIfInBounds_toArray, List.set_cons_zero, List.set_cons_succ]
            refine wpAnyH_take (i := 15) (oi := { dst := some 159, op := _, type := _, pos := _, after := _, guard := _ }) (v := ?v17x16) rfl (by kernel_rfl) (by kernel_rfl) (by kernel_rfl) (fun _ _ _ h => h) (Or.inl ⟨by rfl, ?hy17x16⟩) hHeld ?rest17x16
            case hy17x16 => (intro w hSw; go_simp <;> with_reducible rfl)
            try simp only [Act.put, List.setIfInBounds_toArray, List.set_cons_zero, List.set_cons_succ]
            refine wpAnyH_take (i := 16) (oi := { dst := some 160, op := _, type := _, pos := _, after := _, guard := _ }) (v := ?v17x17) rfl (by kernel_rfl) (by kernel_rfl) (by kernel_rfl) (fun _ _ _ h => h) (Or.inl ⟨by rfl, ?hy17x17⟩) hHeld ?rest17x17
            case hy17x17 => (intro w hSw; go_simp <;> with_reducible rfl)
            try simp only [Act.put, List.setIfInBounds_toArray, List.set_cons_zero, List.set_cons_succ]
            refine wpAnyH_done (by kernel_rfl) ?_ _
            have hbel := below_on s7 hHeld
            clear hcr hcr0 dX HPB PM PB dG dX7
            have HS5 := hide (HS.out.mem hbel)
            go_upto_region 99 with (refine wpList_storeQ rfl 27 (.tmp 2) (.tmp 161) rfl gz 27 (zeroP 0) none 0 0 none 0 0 (zeroP 0) none 0 0 none 0 0 rfl rfl (HS5.out).hz (by kernel_rfl) ?_; intro V2 bV2 BV2)
            refine bodyPost_ret (results_cell_tmp rfl rfl bV2 Try.underlying27 rfl (by kernel_rfl)) rfl ?_
            refine HOP.out _ _ ?_
            rw [hO0]
            exact ⟨rfl, ((HS5.out).ans BV2).2.below (Below.refl _ _) hwgr (Nat.le_refl _)⟩
      | cons c zt =>
        have cr : wr.cell? ⟨gr, 0, none⟩ = some (.slice A3 (zt.length + 1) k3) := hBr3.cell 0
        have cb : wr.cell? ⟨gr, 1, none⟩ = some (.bool bd) := hBr3.cell 1
        cases bd with
        | true =>
          have hst := subsR_stop 8 gk (c :: zt, true) (Or.inr rfl)
          have hdn2 : dn = all := by have := HAl.out; rw [hst] at this; simpa using this
          have hss : (c :: zt, true) = s := by have := HSE.out; rw [hst] at this; exact this
          subst hdn2
          clear hBr3 hst
          go_upto_region 40 with fail
          have HS0 := HS
          have HM0 : PkM wr p none 0 0 S dn.length ks := by
            rw [← Hp.out]
            exact ⟨rfl, Nat.le_refl _, Rd.nil _ _, rfl, ownS_cap8 HO2.out, ownS_rd HO2.out⟩
          obtain ⟨C, nc, kc, S, ns, ks, HS, HM, HN, HOF⟩ : ∃ (C : Option Addr) (nc kc : Nat) (S : Option Addr) (ns ks : Nat), Hid (PsS w.heap.size w wr gp gr gz p C nc kc S ns ks s) ∧ Hid (PkM wr p C nc kc S ns ks) ∧ Hid (NewAt w C ∧ NewAt w S) ∧ Hid ((0 < nc → Off (fun i => i = gz) C) ∧ (0 < ns → Off (fun i => i = gz) S)) := ⟨none, 0, 0, S, dn.length, ks, hide (by rw [← Hp.out, ← hss]; exact HS0.out), hide HM0, hide ⟨NewAt.nil _, hSn⟩, hide ⟨fun h => by omega, fun _ b o e h => (HOff.out b o e).2.2 h⟩⟩
          clear HS0 HM0 hss
          clear cb
          go_upto_region 40 with fail
          have hwV : Below w.heap.size w wr := HS.out.aft.below (Below.refl _ _) hwgr (Nat.le_refl _)
          have dX := strOn (HR.out.keep hwV)
          obtain ⟨ys, bd⟩ := s
          obtain ⟨A2, k2, hBr, -⟩ := HS.out.hr
          have hcr0 := hBr.cell 1
          simp only [List.getElem?_cons_zero, List.getElem?_cons_succ] at hcr0
          have hgrl := hBr.lt
          have hPl := HS.out.hp
          clear hBr
          cases bd with
          | true =>
            have hO0 : O = none := by rw [← HO.out, if_pos (Or.inl rfl)]
            have hcr : ∀ w', Below wr.heap.size wr w' → w'.cell? ⟨gr, 1, none⟩ = some (.bool true) := fun w' h => (h.cell (p := ⟨gr, 1, none⟩) hgrl).trans hcr0
            refine wp_region_held_drew (S := fun w' => Below wr.heap.size wr w') (by kernel_rfl) ?_ (fun hHeld => ?_)
            · exact (Below.refl _ _).drew
            refine wpAnyH_take (i := 0) (oi := { dst := some 144, op := _, type := _, pos := _, after := _, guard := _ }) (v := ?v18x1) rfl (by kernel_rfl) (by kernel_rfl) (by kernel_rfl) (fun _ _ _ h => h) (Or.inl ⟨by rfl, ?hy18x1⟩) hHeld ?rest18x1
            case hy18x1 => (intro w hSw; go_simp <;> with_reducible rfl)
            try simp only [Act.put, List.setIfInBounds_toArray, List.set_cons_zero, List.set_cons_succ]
            refine wpAnyH_take (i := 1) (oi := { dst := some 145, op := _, type := _, pos := _, after := _, guard := _ }) (v := ?v18x2) rfl (by kernel_rfl) (by kernel_rfl) (by kernel_rfl) (fun _ _ _ h => h) (Or.inl ⟨by rfl, ?hy18x2⟩) hHeld ?rest18x2
            case hy18x2 => (intro w hSw; go_simp <;> with_reducible rfl)
            try simp only [Act.put, List.setIfInBounds_toArray, List.set_cons_zero, List.set_cons_succ]
            refine wpAnyH_take (i := 2) (oi := { dst := some 146, op := _, type := _, pos := _, after := _, guard := _ }) (v := ?v18x3) rfl (by kernel_rfl) (by kernel_rfl) (by kernel_rfl) (fun _ _ _ h => h) (Or.inl ⟨by rfl, ?hy18x3⟩) hHeld ?rest18x3
            case hy18x3 => (intro w hSw; go_simp <;> with_reducible rfl)
            try simp only [Act.put, List.setIfInBounds_toArray, List.set_cons_zero, List.set_cons_succ]
            refine wpAnyH_take (i := 3) (oi := { dst := some 147, op := _, type := _, pos := _, after := _, guard := _ }) (v := ?v18x4) rfl (by kernel_rfl) (by kernel_rfl) (by kernel_rfl) (fun _ _ _ h => h) (Or.inl ⟨by rfl, ?hy18x4⟩) hHeld ?rest18x4
            case hy18x4 => (intro w hSw; go_simp <;> with_reducible rfl)
            try simp only [Act.put, List.setIfInBounds_toArray, List.set_cons_zero, List.set_cons_succ]
            refine wpAnyH_take (i := 4) (oi := { dst := some 148, op := _, type := _, pos := _, after := _, guard := _ }) (v := ?v18x5) rfl (by kernel_rfl) (by kernel_rfl) (by kernel_rfl) (fun _ _ _ h => h) (Or.inl ⟨by rfl, ?hy18x5⟩) hHeld ?rest18x5
            case hy18x5 => (intro w hSw; go_simp <;> with_reducible rfl)
            try simp only [Act.put, List.setIfInBounds_toArray, List.set_cons_zero, List.set_cons_succ]
            refine wpAnyH_take (i := 5) (oi := { dst := some 149, op := _, type := _, pos := _, after := _, guard := _ }) (v := undef) rfl (by kernel_rfl) (by kernel_rfl) (by kernel_rfl) (fun _ _ _ h => h) (Or.inr ⟨by rfl, rfl⟩) hHeld ?_
            try simp only [Act.put, List.setIfInBounds_toArray, List.set_cons_zero, List.set_cons_succ]
            refine wpAnyH_take (i := 6) (oi := { dst := some 150, op := _, type := _, pos := _, after := _, guard := _ }) (v := undef) rfl (by kernel_rfl) (by kernel_rfl) (by kernel_rfl) (fun _ _ _ h => h) (Or.inr ⟨by rfl, rfl⟩) hHeld ?_
            try simp only [Act.put, List.setIfInBounds_toArray, List.set_cons_zero, List.set_cons_succ]
            refine wpAnyH_take (i := 7) (oi := { dst := some 151, op := _, type := _, pos := _, after := _, guard := _ }) (v := undef) rfl (by kernel_rfl) (by kernel_rfl) (by kernel_rfl) (fun _ _ _ h => h) (Or.inr ⟨by rfl, rfl⟩) hHeld ?_
            try simp only [Act.put, List.setIfInBounds_toArray, List.set_cons_zero, List.set_cons_succ]
            refine wpAnyH_take (i := 8) (oi := { dst := some 152, op := _, type := _, pos := _, after := _, guard := _ }) (v := ?v18x9) rfl (by kernel_rfl) (by kernel_rfl) (by kernel_rfl) (fun _ _ _ h => h) (Or.inl ⟨by rfl, ?hy18x9⟩) hHeld ?rest18x9
            case hy18x9 => (intro w hSw; go_simp <;> with_reducible rfl)
            try simp only [Act.put, List.setIfInBounds_toArray, List.set_cons_zero, List.set_cons_succ]
            refine wpAnyH_take (i := 9) (oi := { dst := some 153, op := _, type := _, pos := _, after := _, guard := _ }) (v := ?v18x10) rfl (by kernel_rfl) (by kernel_rfl) (by kernel_rfl) (fun _ _ _ h => h) (Or.inl ⟨by rfl, ?hy18x10⟩) hHeld ?rest18x10
            case hy18x10 => (intro w hSw; go_simp <;> with_reducible rfl)
            try simp only [Act.put, List.setIfInBounds_toArray, List.set_cons_zero, List.set_cons_succ]
            refine wpAnyH_take (i := 10) (oi := { dst := some 154, op := _, type := _, pos := _, after := _, guard := _ }) (v := undef) rfl (by kernel_rfl) (by kernel_rfl) (by kernel_rfl) (fun _ _ _ h => h) (Or.inr ⟨by rfl, rfl⟩) hHeld ?_
            try simp only [Act.put, List.setIfInBounds_toArray, List.set_cons_zero, List.set_cons_succ]
            refine wpAnyH_take (i := 11) (oi := { dst := some 155, op := _, type := _, pos := _, after := _, guard := _ }) (v := undef) rfl (by kernel_rfl) (by kernel_rfl) (by kernel_rfl) (fun _ _ _ h => h) (Or.inr ⟨by rfl, rfl⟩) hHeld ?_
            try simp only [Act.put, List.setIfInBounds_toArray, List.set_cons_zero, List.set_cons_succ]
            refine wpAnyH_take (i := 12) (oi := { dst := some 156, op := _, type := _, pos := _, after := _, guard := _ }) (v := undef) rfl (by kernel_rfl) (by kernel_rfl) (by kernel_rfl) (fun _ _ _ h => h) (Or.inr ⟨by rfl, rfl⟩) hHeld ?_
            try simp only [Act.put, List.setIfInBounds_toArray, List.set_cons_zero, List.set_cons_succ]
            refine wpAnyH_take (i := 13) (oi := { dst := some 157, op := _, type := _, pos := _, after := _, guard := _ }) (v := undef) rfl (by kernel_rfl) (by kernel_rfl) (by kernel_rfl) (fun _ _ _ h => h) (Or.inr ⟨by rfl, rfl⟩) hHeld ?_
            try simp only [Act.put, List.setIfInBounds_toArray, List.set_cons_zero, List.set_cons_succ]
            refine wpAnyH_take (i := 14) (oi := { dst := some 158, op := _, type := _, pos := _, after := _, guard := _ }) (v := undef) rfl (by kernel_rfl) (by kernel_rfl) (by kernel_rfl) (fun _ _ _ h => h) (Or.inr ⟨by rfl, rfl⟩) hHeld ?_
            try simp only [Act.put, List.setIfInBounds_toArray, List.set_cons_zero, List.set_cons_succ]
            refine wpAnyH_take (i := 15) (oi := { dst := some 159, op := _, type := _, pos := _, after := _, guard := _ }) (v := undef) rfl (by kernel_rfl) (by kernel_rfl) (by kernel_rfl) (fun _ _ _ h => h) (Or.inr ⟨by rfl, rfl⟩) hHeld ?_
            try simp only [Act.put, List.setIfInBounds_toArray, List.set_cons_zero, List.set_cons_succ]
            refine wpAnyH_take (i := 16) (oi := { dst := some 160, op := _, type := _, pos := _, after := _, guard := _ }) (v := ?v18x17) rfl (by kernel_rfl) (by kernel_rfl) (by kernel_rfl) (fun _ _ _ h => h) (Or.inl ⟨by rfl, ?hy18x17⟩) hHeld ?rest18x17
            case hy18x17 => (intro w hSw; go_simp <;> with_reducible rfl)
            try simp only [Act.put, List.setIfInBounds_toArray, List.set_cons_zero, List.set_cons_succ]
            refine wpAnyH_done (by kernel_rfl) ?_ _
            clear hcr hcr0 dX
            have HS5 := hide (HS.out.mem hHeld)
            go_upto_region 99 with (refine wpList_storeQ rfl 27 (.tmp 2) (.tmp 161) rfl gz 27 (zeroP 0) none 0 0 none 0 0 (zeroP 0) none 0 0 none 0 0 rfl rfl (HS5.out).hz (by kernel_rfl) ?_; intro V2 bV2 BV2)
            refine bodyPost_ret (results_cell_tmp rfl rfl bV2 Try.underlying27 rfl (by kernel_rfl)) rfl ?_
            refine HOP.out _ _ ?_
            rw [hO0]
            exact ⟨rfl, ((HS5.out).ans BV2).2.below (Below.refl _ _) hwgr (Nat.le_refl _)⟩
          | false =>
            have hcr : ∀ w', Below wr.heap.size wr w' → w'.cell? ⟨gr, 1, none⟩ = some (.bool false) := fun w' h => (h.cell (p := ⟨gr, 1, none⟩) hgrl).trans hcr0
            have HPB : ∀ w', Below wr.heap.size wr w' → Blk w' gp 27 (pkVs p C nc kc S ns ks) := fun w' h => hPl.keep h
            have PM := fun W (hb : Below wr.heap.size wr W) => may_any p C nc kc S ns ks W (HM.out.keep hb) HPS.out
            by_cases hmv : mayP p = true
            case neg =>
              have hmf : mayP p = false := by rw [← Bool.not_eq_true]; exact hmv
              have hO0 : O = none := by rw [← HO.out, if_pos (Or.inr (Or.inl hmf))]
              rw [hmf] at PM
              clear hmv
              refine wp_region_held_drew (S := fun w' => Below wr.heap.size wr w') (by kernel_rfl) ?_ (fun hHeld => ?_)
              · exact (Below.refl _ _).drew
              refine wpAnyH_take (i := 0) (oi := { dst := some 144, op := _, type := _, pos := _, after := _, guard := _ }) (v := ?v19x1) rfl (by kernel_rfl) (by kernel_rfl) (by kernel_rfl) (fun _ _ _ h => h) (Or.inl ⟨by rfl, ?hy19x1⟩) hHeld ?rest19x1
              case hy19x1 => (intro w hSw; go_simp <;> with_reducible rfl)
              try simp only [Act.put, List.setIfInBounds_toArray, List.set_cons_zero, List.set_cons_succ]
              refine wpAnyH_take (i := 1) (oi := { dst := some 145, op := _, type := _, pos := _, after := _, guard := _ }) (v := ?v19x2) rfl (by kernel_rfl) (by kernel_rfl) (by kernel_rfl) (fun _ _ _ h => h) (Or.inl ⟨by rfl, ?hy19x2⟩) hHeld ?rest19x2
              case hy19x2 => (intro w hSw; go_simp <;> with_reducible rfl)
              try simp only [Act.put, List.setIfInBounds_toArray, List.set_cons_zero, List.set_cons_succ]
              refine wpAnyH_take (i := 2) (oi := { dst := some 146, op := _, type := _, pos := _, after := _, guard := _ }) (v := ?v19x3) rfl (by kernel_rfl) (by kernel_rfl) (by kernel_rfl) (fun _ _ _ h => h) (Or.inl ⟨by rfl, ?hy19x3⟩) hHeld ?rest19x3
              case hy19x3 => (intro w hSw; go_simp <;> with_reducible rfl)
              try simp only [Act.put, List.setIfInBounds_toArray, List.set_cons_zero, List.set_cons_succ]
              refine wpAnyH_take (i := 3) (oi := { dst := some 147, op := _, type := _, pos := _, after := _, guard := _ }) (v := ?v19x4) rfl (by kernel_rfl) (by kernel_rfl) (by kernel_rfl) (fun _ _ _ h => h) (Or.inl ⟨by rfl, ?hy19x4⟩) hHeld ?rest19x4
              case hy19x4 => (intro w hSw; go_simp <;> with_reducible rfl)
              try simp only [Act.put, List.setIfInBounds_toArray, List.set_cons_zero, List.set_cons_succ]
              refine wpAnyH_take (i := 4) (oi := { dst := some 148, op := _, type := _, pos := _, after := _, guard := _ }) (v := ?v19x5) rfl (by kernel_rfl) (by kernel_rfl) (by kernel_rfl) (fun _ _ _ h => h) (Or.inl ⟨by rfl, ?hy19x5⟩) hHeld ?rest19x5
              case hy19x5 => (intro w hSw; go_simp <;> with_reducible rfl)
              try simp only [Act.put, List.setIfInBounds_toArray, List.set_cons_zero, List.set_cons_succ]
              refine wpAnyH_take (i := 5) (oi := { dst := some 149, op := _, type := _, pos := _, after := _, guard := _ }) (v := ?v19x6) rfl (by kernel_rfl) (by kernel_rfl) (by kernel_rfl) (fun _ _ _ h => h) (Or.inl ⟨by rfl, ?hy19x6⟩) hHeld ?rest19x6
              case hy19x6 => (intro w hSw; refine exec_loadP 27 (.tmp 5) ?_ gp 27 p C nc kc S ns ks ?_ (HPB w hSw) Try.underlying27 ?_ ?_; rfl; rfl; rfl; kernel_rfl)
              try simp only [Act.put, List.setIfInBounds_toArray, List.set_cons_zero, List.set_cons_succ]
              refine wpAnyH_ready (rs := [6]) (by kernel_rfl) (by simp) (AllReadyH.cons (o := { dst := some 150, op := _, type := _, pos := _, after := _, guard := _ }) rfl (fun K hK => ?_) AllReadyH.nil)
              go_simp
              refine (PM _ hHeld).mono ?_
              rintro e w6 ⟨rfl, b6⟩
              have s6 := below_on hHeld b6
              go_wp2_with fail
              refine hK.out _ _ ?_ (fun hHeld => ?_)
              · exact s6
              clear hK K
              try simp only [Act.put, List.setIfInBounds_toArray, List.set_cons_zero, List.set_cons_succ]
              refine wpAnyH_take (i := 7) (oi := { dst := some 151, op := _, type := _, pos := _, after := _, guard := _ }) (v := ?v19x8) rfl (by kernel_rfl) (by kernel_rfl) (by kernel_rfl) (fun _ _ _ h => h) (Or.inl ⟨by rfl, ?hy19x8⟩) hHeld ?rest19x8
              case hy19x8 => (intro w hSw; go_simp <;> with_reducible rfl)
              try simp only [Act.put, List.setIfInBounds_toArray, List.set_cons_zero, List.set_cons_succ]
              refine wpAnyH_take (i := 8) (oi := { dst := some 152, op := _, type := _, pos := _, after := _, guard := _ }) (v := ?v19x9) rfl (by kernel_rfl) (by kernel_rfl) (by kernel_rfl) (fun _ _ _ h => h) (Or.inl ⟨by rfl, ?hy19x9⟩) hHeld ?rest19x9
              case hy19x9 => (intro w hSw; go_simp <;> with_reducible rfl)
              try simp only [Act.put, List.setIfInBounds_toArray, List.set_cons_zero, List.set_cons_succ]
              refine wpAnyH_take (i := 9) (oi := { dst := some 153, op := _, type := _, pos := _, after := _, guard := _ }) (v := ?v19x10) rfl (by kernel_rfl) (by kernel_rfl) (by kernel_rfl) (fun _ _ _ h => h) (Or.inl ⟨by rfl, ?hy19x10⟩) hHeld ?rest19x10
              case hy19x10 => (intro w hSw; go_simp <;> with_reducible rfl)
              try simp only [Act.put, List.setIfInBounds_toArray, List.set_cons_zero, List.set_cons_succ]
              refine wpAnyH_take (i := 10) (oi := { dst := some 154, op := _, type := _, pos := _, after := _, guard := _ }) (v := undef) rfl (by kernel_rfl) (by kernel_rfl) (by kernel_rfl) (fun _ _ _ h => h) (Or.inr ⟨by rfl, rfl⟩) hHeld ?_
              try simp only [Act.put, List.setIfInBounds_toArray, List.set_cons_zero, List.set_cons_succ]
              refine wpAnyH_take (i := 11) (oi := { dst := some 155, op := _, type := _, pos := _, after := _, guard := _ }) (v := undef) rfl (by kernel_rfl) (by kernel_rfl) (by kernel_rfl) (fun _ _ _ h => h) (Or.inr ⟨by rfl, rfl⟩) hHeld ?_
              try simp only [Act.put, List.setIfInBounds_toArray, List.set_cons_zero, List.set_cons_succ]
              refine wpAnyH_take (i := 12) (oi := { dst := some 156, op := _, type := _, pos := _, after := _, guard := _ }) (v := undef) rfl (by kernel_rfl) (by kernel_rfl) (by kernel_rfl) (fun _ _ _ h => h) (Or.inr ⟨by rfl, rfl⟩) hHeld ?_
              try simp only [Act.put, List.setIfInBounds_toArray, List.set_cons_zero, List.set_cons_succ]
              refine wpAnyH_take (i := 13) (oi := { dst := some 157, op := _, type := _, pos := _, after := _, guard := _ }) (v := undef) rfl (by kernel_rfl) (by kernel_rfl) (by kernel_rfl) (fun _ _ _ h => h) (Or.inr ⟨by rfl, rfl⟩) hHeld ?_
              try simp only [Act.put, List.setIfInBounds_toArray, List.set_cons_zero, List.set_cons_succ]
              refine wpAnyH_take (i := 14) (oi := { dst := some 158, op := _, type := _, pos := _, after := _, guard := _ }) (v := undef) rfl (by kernel_rfl) (by kernel_rfl) (by kernel_rfl) (fun _ _ _ h => h) (Or.inr ⟨by rfl, rfl⟩) hHeld ?_
              try simp only [Act.put, List.setIfInBounds_toArray, List.set_cons_zero, List.set_cons_succ]
              refine wpAnyH_take (i := 15) (oi := { dst := some 159, op := _, type := _, pos := _, after := _, guard := _ }) (v := undef) rfl (by kernel_rfl) (by kernel_rfl) (by kernel_rfl) (fun _ _ _ h => h) (Or.inr ⟨by rfl, rfl⟩) hHeld ?_
              try simp only [Act.put, List.setIfInBounds_toArray, List.set_cons_zero, List.set_cons_succ]
              refine wpAnyH_take (i := 16) (oi := { dst := some 160, op := _, type := _, pos := _, after := _, guard := _ }) (v := ?v19x17) rfl (by kernel_rfl) (by kernel_rfl) (by kernel_rfl) (fun _ _ _ h => h) (Or.inl ⟨by rfl, ?hy19x17⟩) hHeld ?rest19x17
              case hy19x17 => (intro w hSw; go_simp <;> with_reducible rfl)
              try simp only [Act.put, List.setIfInBounds_toArray, List.set_cons_zero, List.set_cons_succ]
              refine wpAnyH_done (by kernel_rfl) ?_ _
              clear hcr hcr0 dX HPB PM
              have HS5 := hide (HS.out.mem hHeld)
              go_upto_region 99 with (refine wpList_storeQ rfl 27 (.tmp 2) (.tmp 161) rfl gz 27 (zeroP 0) none 0 0 none 0 0 (zeroP 0) none 0 0 none 0 0 rfl rfl (HS5.out).hz (by kernel_rfl) ?_; intro V2 bV2 BV2)
              refine bodyPost_ret (results_cell_tmp rfl rfl bV2 Try.underlying27 rfl (by kernel_rfl)) rfl ?_
              refine HOP.out _ _ ?_
              rw [hO0]
              exact ⟨rfl, ((HS5.out).ans BV2).2.below (Below.refl _ _) hwgr (Nat.le_refl _)⟩
            case pos =>
            have PB := fun W (hb : Below wr.heap.size wr W) => rBytes10_any p C nc kc S ns ks W (HM.out.keep hb) HPS.out hmv
            rw [hmv] at PM
            by_cases hl : layP p = xs
            case pos =>
              have hO0 : O = some p := by rw [← HO.out, if_neg (by rw [hmv]; simp [hl])]
              rw [hl] at PB
              refine wp_region_held_drew (S := fun w' => Below wr.heap.size wr w') (by kernel_rfl) ?_ (fun hHeld => ?_)
              · exact (Below.refl _ _).drew
              refine wpAnyH_take (i := 0) (oi := { dst := some 144, op := _, type := _, pos := _, after := _, guard := _ }) (v := ?v20x1) rfl (by kernel_rfl) (by kernel_rfl) (by kernel_rfl) (fun _ _ _ h => h) (Or.inl ⟨by rfl, ?hy20x1⟩) hHeld ?rest20x1
              case hy20x1 => (intro w hSw; go_simp <;> with_reducible rfl)
              try simp only [Act.put, List.setIfInBounds_toArray, List.set_cons_zero, List.set_cons_succ]
              refine wpAnyH_take (i := 1) (oi := { dst := some 145, op := _, type := _, pos := _, after := _, guard := _ }) (v := ?v20x2) rfl (by kernel_rfl) (by kernel_rfl) (by kernel_rfl) (fun _ _ _ h => h) (Or.inl ⟨by rfl, ?hy20x2⟩) hHeld ?rest20x2
              case hy20x2 => (intro w hSw; go_simp <;> with_reducible rfl)
              try simp only [Act.put, List.setIfInBounds_toArray, List.set_cons_zero, List.set_cons_succ]
              refine wpAnyH_take (i := 2) (oi := { dst := some 146, op := _, type := _, pos := _, after := _, guard := _ }) (v := ?v20x3) rfl (by kernel_rfl) (by kernel_rfl) (by kernel_rfl) (fun _ _ _ h => h) (Or.inl ⟨by rfl, ?hy20x3⟩) hHeld ?rest20x3
              case hy20x3 => (intro w hSw; go_simp <;> with_reducible rfl)
              try simp only [Act.put, List.setIfInBounds_toArray, List.set_cons_zero, List.set_cons_succ]
              refine wpAnyH_take (i := 3) (oi := { dst := some 147, op := _, type := _, pos := _, after := _, guard := _ }) (v := ?v20x4) rfl (by kernel_rfl) (by kernel_rfl) (by kernel_rfl) (fun _ _ _ h => h) (Or.inl ⟨by rfl, ?hy20x4⟩) hHeld ?rest20x4
              case hy20x4 => (intro w hSw; go_simp <;> with_reducible rfl)
              try simp only [Act.put, List.setIfInBounds_toArray, List.set_cons_zero, List.set_cons_succ]
              refine wpAnyH_take (i := 4) (oi := { dst := some 148, op := _, type := _, pos := _, after := _, guard := _ }) (v := ?v20x5) rfl (by kernel_rfl) (by kernel_rfl) (by kernel_rfl) (fun _ _ _ h => h) (Or.inl ⟨by rfl, ?hy20x5⟩) hHeld ?rest20x5
              case hy20x5 => (intro w hSw; go_simp <;> with_reducible rfl)
              try simp only [Act.put, List.setIfInBounds_toArray, List.set_cons_zero, List.set_cons_succ]
              refine wpAnyH_take (i := 5) (oi := { dst := some 149, op := _, type := _, pos := _, after := _, guard := _ }) (v := ?v20x6) rfl (by kernel_rfl) (by kernel_rfl) (by kernel_rfl) (fun _ _ _ h => h) (Or.inl ⟨by rfl, ?hy20x6⟩) hHeld ?rest20x6
              case hy20x6 => (intro w hSw; refine exec_loadP 27 (.tmp 5) ?_ gp 27 p C nc kc S ns ks ?_ (HPB w hSw) Try.underlying27 ?_ ?_; rfl; rfl; rfl; kernel_rfl)
              try simp only [Act.put, List.setIfInBounds_toArray, List.set_cons_zero, List.set_cons_succ]
              refine wpAnyH_ready (rs := [6]) (by kernel_rfl) (by simp) (AllReadyH.cons (o := { dst := some 150, op := _, type := _, pos := _, after := _, guard := _ }) rfl (fun K hK => ?_) AllReadyH.nil)
              go_simp
              refine (PM _ hHeld).mono ?_
              rintro e w6 ⟨rfl, b6⟩
              have s6 := below_on hHeld b6
              have dX6 : ∀ w', Below w6.heap.size w6 w' → ∀ c, (convert 31 9 (.slice (some ⟨bA, oA, none⟩) n c)).run Try.prog w' = .ok (.string (str xs)) w' := fun w' h => dX w' (below_on s6 h)
              go_wp2_with fail
              refine hK.out _ _ ?_ (fun hHeld => ?_)
              · exact below_on hHeld b6
              clear hK K
              try simp only [Act.put, List.setIfInBounds_toArray, List.set_cons_zero, List.set_cons_succ]
              refine wpAnyH_strong (S' := fun w' => Below w6.heap.size w6 w') (by intro w' h; exact below_on hHeld h) ?_
              replace hHeld : (fun w' => Below w6.heap.size w6 w') _ := Below.refl _ _
              refine wpAnyH_take (i := 7) (oi := { dst := some 151, op := _, type := _, pos := _, after := _, guard := _ }) (v := ?v20x8) rfl (by kernel_rfl) (by kernel_rfl) (by kernel_rfl) (fun _ _ _ h => h) (Or.inl ⟨by rfl, ?hy20x8⟩) hHeld ?rest20x8
              case hy20x8 => (intro w hSw; go_simp <;> with_reducible rfl)
              try simp only [Act.put, List.setIfInBounds_toArray, List.set_cons_zero, List.set_cons_succ]
              refine wpAnyH_take (i := 8) (oi := { dst := some 152, op := _, type := _, pos := _, after := _, guard := _ }) (v := ?v20x9) rfl (by kernel_rfl) (by kernel_rfl) (by kernel_rfl) (fun _ _ _ h => h) (Or.inl ⟨by rfl, ?hy20x9⟩) hHeld ?rest20x9
              case hy20x9 => (intro w hSw; go_simp <;> with_reducible rfl)
              try simp only [Act.put, List.setIfInBounds_toArray, List.set_cons_zero, List.set_cons_succ]
              refine wpAnyH_take (i := 9) (oi := { dst := some 153, op := _, type := _, pos := _, after := _, guard := _ }) (v := ?v20x10) rfl (by kernel_rfl) (by kernel_rfl) (by kernel_rfl) (fun _ _ _ h => h) (Or.inl ⟨by rfl, ?hy20x10⟩) hHeld ?rest20x10
              case hy20x10 => (intro w hSw; go_simp <;> with_reducible rfl)
              try simp only [Act.put, List.setIfInBounds_toArray, List.set_cons_zero, List.set_cons_succ]
              refine wpAnyH_take (i := 10) (oi := { dst := some 154, op := _, type := _, pos := _, after := _, guard := _ }) (v := ?v20x11) rfl (by kernel_rfl) (by kernel_rfl) (by kernel_rfl) (fun _ _ _ h => h) (Or.inl ⟨by rfl, ?hy20x11⟩) hHeld ?rest20x11
              case hy20x11 => (intro w hSw; refine exec_loadP 27 (.tmp 5) ?_ gp 27 p C nc kc S ns ks ?_ (HPB w (below_on s6 hSw)) Try.underlying27 ?_ ?_; rfl; rfl; rfl; kernel_rfl)
              try simp only [Act.put, List.setIfInBounds_toArray, List.set_cons_zero, List.set_cons_succ]
              refine wpAnyH_take (i := 13) (oi := { dst := some 157, op := _, type := _, pos := _, after := _, guard := _ }) (v := ?v20x12) rfl (by kernel_rfl) (by kernel_rfl) (by kernel_rfl) (fun _ _ _ h => h) (Or.inl ⟨by rfl, ?hy20x12⟩) hHeld ?rest20x12
              case hy20x12 => (intro w hSw; go_simp <;> with_reducible rfl)
              try simp only [Act.put, List.setIfInBounds_toArray, List.set_cons_zero, List.set_cons_succ]
              refine wpAnyH_take (i := 14) (oi := { dst := some 158, op := _, type := _, pos := _, after := _, guard := _ }) (v := ?v20x13) rfl (by kernel_rfl) (by kernel_rfl) (by kernel_rfl) (fun _ _ _ h => h) (Or.inl ⟨by rfl, ?hy20x13⟩) hHeld ?rest20x13
              case hy20x13 => (intro w hSw; go_simp <;> with_reducible rfl)
              try simp only [Act.put, List.setIfInBounds_toArray, List.set_cons_zero, List.set_cons_succ]
              refine wpAnyH_ready (rs := [11]) (by kernel_rfl) (by simp) (AllReadyH.cons (o := { dst := some 155, op := _, type := _, pos := _, after := _, guard := _ }) rfl (fun K hK => ?_) AllReadyH.nil)
              go_simp
              refine (PB _ (below_on s6 hHeld)).mono ?_
              rintro e w7 ⟨G, gk, rfl, hgk, r7, b7⟩
              have s7 := below_on s6 (below_on hHeld b7)
              have dG := strOn r7
              have dX7 : ∀ w', Below w7.heap.size w7 w' → ∀ c, (convert 31 9 (.slice (some ⟨bA, oA, none⟩) n c)).run Try.prog w' = .ok (.string (str xs)) w' := fun w' h => dX w' (below_on s7 h)
              clear dX6
              go_wp2_with fail
              refine hK.out _ _ ?_ (fun hHeld => ?_)
              · exact below_on hHeld b7
              clear hK K
              try simp only [Act.put, List.setIfInBounds_toArray, List.set_cons_zero, List.set_cons_succ]
              refine wpAnyH_strong (S' := fun w' => Below w7.heap.size w7 w') (by intro w' h; exact below_on hHeld h) ?_
              replace hHeld : (fun w' => Below w7.heap.size w7 w') _ := Below.refl _ _
              refine wpAnyH_take (i := 12) (oi := { dst := some 156, op := _, type := _, pos := _, after := _, guard := _ }) (v := ?v20x15) rfl (by kernel_rfl) (by kernel_rfl) (by kernel_rfl) (fun _ _ _ h => h) (Or.inl ⟨by rfl, ?hy20x15⟩) hHeld ?rest20x15
              case hy20x15 => (intro w hSw; go_simp <;> with_reducible rfl)
              try simp only [Act.put, List.setIfInBounds_toArray, List.set_cons_zero, List.set_cons_succ]
              refine wpAnyH_take (i := 15) (oi := { dst := some 159, op := _, type := _, pos := _, after := _, guard := _ }) (v := ?v20x16) rfl (by kernel_rfl) (by kernel_rfl) (by kernel_rfl) (fun _ _ _ h => h) (Or.inl ⟨by rfl, ?hy20x16⟩) hHeld ?rest20x16
              case hy20x16 => (intro w hSw; go_simp <;> with_reducible rfl)
              try simp only [Act.put, List.setIfInBounds_toArray, List.set_cons_zero, List.set_cons_succ]
              refine wpAnyH_take (i := 16) (oi := { dst := some 160, op := _, type := _, pos := _, after := _, guard := _ }) (v := ?v20x17) rfl (by kernel_rfl) (by kernel_rfl) (by kernel_rfl) (fun _ _ _ h => h) (Or.inl ⟨by rfl, ?hy20x17⟩) hHeld ?rest20x17
              case hy20x17 => (intro w hSw; go_simp <;> with_reducible rfl)
              try simp only [Act.put, List.setIfInBounds_toArray, List.set_cons_zero, List.set_cons_succ]
              refine wpAnyH_done (by kernel_rfl) ?_ _
              have hbel := below_on s7 hHeld
              clear hcr hcr0 dX HPB PM PB dG dX7
              have HS5 := hide (HS.out.mem hbel)
              have HM5 := hide (HM.out.keep hbel)
              go_upto_region 99 with (first
                | (refine wpList_loadP rfl 27 (.tmp 5) rfl gp 27 p C nc kc S ns ks rfl HS5.out.hp Try.underlying27 rfl (by kernel_rfl) ?_)
                | (refine wpList_storeQ rfl 27 (.tmp 2) (.tmp 162) rfl gz 27 (zeroP 0) none 0 0 none 0 0 p C nc kc S ns ks rfl rfl HS5.out.hz (by kernel_rfl) ?_; intro V2 bV2 BV2))
              refine bodyPost_ret (results_cell_tmp rfl rfl bV2 Try.underlying27 rfl (by kernel_rfl)) rfl ?_
              refine HOP.out _ _ ?_
              rw [hO0]
              exact ⟨C, nc, kc, S, ns, ks, rfl, HN.out.1, HN.out.2, PkM_but HM5.out BV2 HOF.out.1 HOF.out.2, (HS5.out.ans BV2).2.below (Below.refl _ _) hwgr (Nat.le_refl _)⟩
            case neg =>
              have hO0 : O = none := by rw [← HO.out, if_pos (Or.inr (Or.inr hl))]
              have hlb : (layP p == xs) = false := by rw [beq_eq_false_iff_ne]; exact hl
              clear hl
              refine wp_region_held_drew (S := fun w' => Below wr.heap.size wr w') (by kernel_rfl) ?_ (fun hHeld => ?_)
              · exact (Below.refl _ _).drew
              refine wpAnyH_take (i := 0) (oi := { dst := some 144, op := _, type := _, pos := _, after := _, guard := _ }) (v := ?v21x1) rfl (by kernel_rfl) (by kernel_rfl) (by kernel_rfl) (fun _ _ _ h => h) (Or.inl ⟨by rfl, ?hy21x1⟩) hHeld ?rest21x1
              case hy21x1 => (intro w hSw; go_simp <;> with_reducible rfl)
              try simp only [Act.put, List.setIfInBounds_toArray, List.set_cons_zero, List.set_cons_succ]
              refine wpAnyH_take (i := 1) (oi := { dst := some 145, op := _, type := _, pos := _, after := _, guard := _ }) (v := ?v21x2) rfl (by kernel_rfl) (by kernel_rfl) (by kernel_rfl) (fun _ _ _ h => h) (Or.inl ⟨by rfl, ?hy21x2⟩) hHeld ?rest21x2
              case hy21x2 => (intro w hSw; go_simp <;> with_reducible rfl)
              try simp only [Act.put, List.setIfInBounds_toArray, List.set_cons_zero, List.set_cons_succ]
              refine wpAnyH_take (i := 2) (oi := { dst := some 146, op := _, type := _, pos := _, after := _, guard := _ }) (v := ?v21x3) rfl (by kernel_rfl) (by kernel_rfl) (by kernel_rfl) (fun _ _ _ h => h) (Or.inl ⟨by rfl, ?hy21x3⟩) hHeld ?rest21x3
              case hy21x3 => (intro w hSw; go_simp <;> with_reducible rfl)
              try simp only [Act.put, List.setIfInBounds_toArray, List.set_cons_zero, List.set_cons_succ]
              refine wpAnyH_take (i := 3) (oi := { dst := some 147, op := _, type := _, pos := _, after := _, guard := _ }) (v := ?v21x4) rfl (by kernel_rfl) (by kernel_rfl) (by kernel_rfl) (fun _ _ _ h => h) (Or.inl ⟨by rfl, ?hy21x4⟩) hHeld ?rest21x4
              case hy21x4 => (intro w hSw; go_simp <;> with_reducible rfl)
              try simp only [Act.put, List.setIfInBounds_toArray, List.set_cons_zero, List.set_cons_succ]
              refine wpAnyH_take (i := 4) (oi := { dst := some 148, op := _, type := _, pos := _, after := _, guard := _ }) (v := ?v21x5) rfl (by kernel_rfl) (by kernel_rfl) (by kernel_rfl) (fun _ _ _ h => h) (Or.inl ⟨by rfl, ?hy21x5⟩) hHeld ?rest21x5
              case hy21x5 => (intro w hSw; go_simp <;> with_reducible rfl)
              try simp only [Act.put, List.setIfInBounds_toArray, List.set_cons_zero, List.set_cons_succ]
              refine wpAnyH_take (i := 5) (oi := { dst := some 149, op := _, type := _, pos := _, after := _, guard := _ }) (v := ?v21x6) rfl (by kernel_rfl) (by kernel_rfl) (by kernel_rfl) (fun _ _ _ h => h) (Or.inl ⟨by rfl, ?hy21x6⟩) hHeld ?rest21x6
              case hy21x6 => (intro w hSw; refine exec_loadP 27 (.tmp 5) ?_ gp 27 p C nc kc S ns ks ?_ (HPB w hSw) Try.underlying27 ?_ ?_; rfl; rfl; rfl; kernel_rfl)
              try simp only [Act.put, List.setIfInBounds_toArray, List.set_cons_zero, List.set_cons_succ]
              refine wpAnyH_ready (rs := [6]) (by kernel_rfl) (by simp) (AllReadyH.cons (o := { dst := some 150, op := _, type := _, pos := _, after := _, guard := _ }) rfl (fun K hK => ?_) AllReadyH.nil)
              go_simp
              refine (PM _ hHeld).mono ?_
              rintro e w6 ⟨rfl, b6⟩
              have s6 := below_on hHeld b6
              have dX6 : ∀ w', Below w6.heap.size w6 w' → ∀ c, (convert 31 9 (.slice (some ⟨bA, oA, none⟩) n c)).run Try.prog w' = .ok (.string (str xs)) w' := fun w' h => dX w' (below_on s6 h)
              go_wp2_with fail
              refine hK.out _ _ ?_ (fun hHeld => ?_)
              · exact below_on hHeld b6
              clear hK K
              try simp only [Act.put, List.setIfInBounds_toArray, List.set_cons_zero, List.set_cons_succ]
              refine wpAnyH_strong (S' := fun w' => Below w6.heap.size w6 w') (by intro w' h; exact below_on hHeld h) ?_
              replace hHeld : (fun w' => Below w6.heap.size w6 w') _ := Below.refl _ _
              refine wpAnyH_take (i := 7) (oi := { dst := some 151, op := _, type := _, pos := _, after := _, guard := _ }) (v := ?v21x8) rfl (by kernel_rfl) (by kernel_rfl) (by kernel_rfl) (fun _ _ _ h => h) (Or.inl ⟨by rfl, ?hy21x8⟩) hHeld ?rest21x8
              case hy21x8 => (intro w hSw; go_simp <;> with_reducible rfl)
              try simp only [Act.put, List.setIfInBounds_toArray, List.set_cons_zero, List.set_cons_succ]
              refine wpAnyH_take (i := 8) (oi := { dst := some 152, op := _, type := _, pos := _, after := _, guard := _ }) (v := ?v21x9) rfl (by kernel_rfl) (by kernel_rfl) (by kernel_rfl) (fun _ _ _ h => h) (Or.inl ⟨by rfl, ?hy21x9⟩) hHeld ?rest21x9
              case hy21x9 => (intro w hSw; go_simp <;> with_reducible rfl)
              try simp only [Act.put, List.setIfInBounds_toArray, List.set_cons_zero, List.set_cons_succ]
              refine wpAnyH_take (i := 9) (oi := { dst := some 153, op := _, type := _, pos := _, after := _, guard := _ }) (v := ?v21x10) rfl (by kernel_rfl) (by kernel_rfl) (by kernel_rfl) (fun _ _ _ h => h) (Or.inl ⟨by rfl, ?hy21x10⟩) hHeld ?rest21x10
              case hy21x10 => (intro w hSw; go_simp <;> with_reducible rfl)
              try simp only [Act.put, List.setIfInBounds_toArray, List.set_cons_zero, List.set_cons_succ]
              refine wpAnyH_take (i := 10) (oi := { dst := some 154, op := _, type := _, pos := _, after := _, guard := _ }) (v := ?v21x11) rfl (by kernel_rfl) (by kernel_rfl) (by kernel_rfl) (fun _ _ _ h => h) (Or.inl ⟨by rfl, ?hy21x11⟩) hHeld ?rest21x11
              case hy21x11 => (intro w hSw; refine exec_loadP 27 (.tmp 5) ?_ gp 27 p C nc kc S ns ks ?_ (HPB w (below_on s6 hSw)) Try.underlying27 ?_ ?_; rfl; rfl; rfl; kernel_rfl)
              try simp only [Act.put, List.setIfInBounds_toArray, List.set_cons_zero, List.set_cons_succ]
              refine wpAnyH_take (i := 13) (oi := { dst := some 157, op := _, type := _, pos := _, after := _, guard := _ }) (v := ?v21x12) rfl (by kernel_rfl) (by kernel_rfl) (by kernel_rfl) (fun _ _ _ h => h) (Or.inl ⟨by rfl, ?hy21x12⟩) hHeld ?rest21x12
              case hy21x12 => (intro w hSw; go_simp <;> with_reducible rfl)
              try simp only [Act.put, List.setIfInBounds_toArray, List.set_cons_zero, List.set_cons_succ]
              refine wpAnyH_take (i := 14) (oi := { dst := some 158, op := _, type := _, pos := _, after := _, guard := _ }) (v := ?v21x13) rfl (by kernel_rfl) (by kernel_rfl) (by kernel_rfl) (fun _ _ _ h => h) (Or.inl ⟨by rfl, ?hy21x13⟩) hHeld ?rest21x13
              case hy21x13 => (intro w hSw; go_simp <;> with_reducible rfl)
              try simp only [Act.put, List.setIfInBounds_toArray, List.set_cons_zero, List.set_cons_succ]
              refine wpAnyH_ready (rs := [11]) (by kernel_rfl) (by simp) (AllReadyH.cons (o := { dst := some 155, op := _, type := _, pos := _, after := _, guard := _ }) rfl (fun K hK => ?_) AllReadyH.nil)
              go_simp
              refine (PB _ (below_on s6 hHeld)).mono ?_
              rintro e w7 ⟨G, gk, rfl, hgk, r7, b7⟩
              have s7 := below_on s6 (below_on hHeld b7)
              have dG := strOn r7
              have dX7 : ∀ w', Below w7.heap.size w7 w' → ∀ c, (convert 31 9 (.slice (some ⟨bA, oA, none⟩) n c)).run Try.prog w' = .ok (.string (str xs)) w' := fun w' h => dX w' (below_on s7 h)
              clear dX6
              go_wp2_with fail
              refine hK.out _ _ ?_ (fun hHeld => ?_)
              · exact below_on hHeld b7
              clear hK K
              try simp only [Act.put, List.setIfInBounds_toArray, List.set_cons_zero, List.set_cons_succ]
              refine wpAnyH_strong (S' := fun w' => Below w7.heap.size w7 w') (by intro w' h; exact below_on hHeld h) ?_
              replace hHeld : (fun w' => Below w7.heap.size w7 w') _ := Below.refl _ _
              refine wpAnyH_take (i := 12) (oi := { dst := some 156, op := _, type := _, pos := _, after := _, guard := _ }) (v := ?v21x15) rfl (by kernel_rfl) (by kernel_rfl) (by kernel_rfl) (fun _ _ _ h => h) (Or.inl ⟨by rfl, ?hy21x15⟩) hHeld ?rest21x15
              case hy21x15 => (intro w hSw; go_simp <;> with_reducible rfl)
              try simp only [Act.put, List.setIfInBounds_toArray, List.set_cons_zero, List.set_cons_succ]
              refine wpAnyH_take (i := 15) (oi := { dst := some 159, op := _, type := _, pos := _, after := _, guard := _ }) (v := ?v21x16) rfl (by kernel_rfl) (by kernel_rfl) (by kernel_rfl) (fun _ _ _ h => h) (Or.inl ⟨by rfl, ?hy21x16⟩) hHeld ?rest21x16
              case hy21x16 => (intro w hSw; go_simp <;> with_reducible rfl)
              try simp only [Act.put, List.setIfInBounds_toArray, List.set_cons_zero, List.set_cons_succ]
              refine wpAnyH_take (i := 16) (oi := { dst := some 160, op := _, type := _, pos := _, after := _, guard := _ }) (v := ?v21x17) rfl (by kernel_rfl) (by kernel_rfl) (by kernel_rfl) (fun _ _ _ h => h) (Or.inl ⟨by rfl, ?hy21x17⟩) hHeld ?rest21x17
              case hy21x17 => (intro w hSw; go_simp <;> with_reducible rfl)
              try simp only [Act.put, List.setIfInBounds_toArray, List.set_cons_zero, List.set_cons_succ]
              refine wpAnyH_done (by kernel_rfl) ?_ _
              have hbel := below_on s7 hHeld
              clear hcr hcr0 dX HPB PM PB dG dX7
              have HS5 := hide (HS.out.mem hbel)
              go_upto_region 99 with (refine wpList_storeQ rfl 27 (.tmp 2) (.tmp 161) rfl gz 27 (zeroP 0) none 0 0 none 0 0 (zeroP 0) none 0 0 none 0 0 rfl rfl (HS5.out).hz (by kernel_rfl) ?_; intro V2 bV2 BV2)
              refine bodyPost_ret (results_cell_tmp rfl rfl bV2 Try.underlying27 rfl (by kernel_rfl)) rfl ?_
              refine HOP.out _ _ ?_
              rw [hO0]
              exact ⟨rfl, ((HS5.out).ans BV2).2.below (Below.refl _ _) hwgr (Nat.le_refl _)⟩
        | false =>
          obtain ⟨k', rfl⟩ : ∃ k', gk = k' + 1 := ⟨gk - 1, by simp at hlk; omega⟩
          have hlt := rT_lt (c :: zt, false) (by simp)
          obtain ⟨fl, hfl⟩ : ∃ fl, (rT (c :: zt, false)).1 = fl := ⟨_, rfl⟩
          obtain ⟨s2, hs2⟩ : ∃ s2, (rT (c :: zt, false)).2 = s2 := ⟨_, rfl⟩
          rw [hs2] at hlt
          simp only [List.length_cons] at hlt hlk hdl
          have PT1 := fun W (hW : RdL w.heap.size W gr (c :: zt, false)) => PT.out W (c :: zt, false) hW (by simp; omega)
          rw [hfl, hs2] at PT1
          obtain ⟨nd, hnd⟩ : ∃ nd, dn.length = nd := ⟨_, rfl⟩
          rw [hnd] at HS HO2 hdl
          have Hnd := hide hnd
          obtain ⟨q, hq⟩ : ∃ q, (rB s2).1 = q := ⟨_, rfl⟩
          obtain ⟨s3, hs3⟩ : ∃ s3, (rB s2).2 = s3 := ⟨_, rfl⟩
          have hl3 : s3.1.length ≤ s2.1.length := by rw [← hs3]; exact (rB_lt s2).2
          have PB2 := fun W (hW : RdL w.heap.size W gr s2) => PB1.out W s2 hW (by omega)
          rw [hq, hs3] at PB2
          have hun : subsR 8 (k' + 1) (c :: zt, false) = ((fl, (q : Int)) :: (subsR 8 k' s3).1, (subsR 8 k' s3).2) := by
            rw [subsR_go8 _ _ ⟨by simp, rfl⟩, hfl, hs2, hq, hs3]
          have HAl := hide (show dn ++ (fl, (q : Int)) :: (subsR 8 k' s3).1 = all by have := HAl.out; rw [hun] at this; exact this)
          have HSE := hide (show (subsR 8 k' s3).2 = s by have := HSE.out; rw [hun] at this; exact this)
          clear hun hq hs3
          clear hBr3 hnd hfl hs2
          go_upto_region 33 with (go_at_call 45; refine (PT1 _ HS.out.hr).mono ?_; rintro e V5 ⟨rfl, r5, a5⟩; have HS5 := hide (HS.out.call r5 a5); have HO5 := hide (ownS_but HO2.out a5.1 (fun b o e h => (HOff.out b o e).2.1 h)))
          clear cr cb
          have hb5 := (Below.refl V5.heap.size V5).alloc (Nat.le_refl _) (.cells (arr [.string (str fl), .int .i64 0]) 59)
          have hgs := Blk.new V5 59 [.string (str fl), .int .i64 0]
          have hgp5 := HS5.out.hp.lt
          have hgz5 := HS5.out.hz.lt
          have hgr5 : gr < V5.heap.size := by obtain ⟨A9, k9, hB9, -⟩ := HS5.out.hr; exact hB9.lt
          have hw5 : w.heap.size ≤ V5.heap.size := HS5.out.aft.1.size
          have hS5 : ∀ b o, S = some ⟨b, o, none⟩ → b < V5.heap.size := fun b o e => ownS_lt HO5.out b o e
          generalize hV6 : V5.alloc _ = V6
          have hV6' : V5.alloc (.cells (arr [.string (str fl), .int .i64 0]) 59) = V6 := hV6
          rw [hV6'] at hb5 hgs
          have HS6 := hide (HS5.out.mem hb5)
          have HO6 := hide (ownS_keep HO5.out hb5)
          obtain ⟨gs, hgse⟩ : ∃ gs, V5.heap.size = gs := ⟨_, rfl⟩
          rw [hgse] at hgs hgp5 hgz5 hgr5 hw5 hS5 ⊢
          have HG := hide hgs
          have c0 : V6.cell? ⟨gp, 0, none⟩ = some (.int .i64 8) := HS6.out.hp.cell 0
          clear hV6 hV6' hb5 hgs hgse a5 r5 HS5 HO5
          go_upto_region 35 with (go_at_call 44; refine (PB2 _ HS6.out.hr).mono ?_; rintro e V7 ⟨rfl, r7, a7⟩; have HS7 := hide (HS6.out.call r7 a7); have HO7 := hide (ownS_but HO6.out a7.1 (fun b o e h => (HOff.out b o e).2.1 h)); have HG7 := hide (HG.out.but a7.1 (by omega)); have cs : V7.cell? ⟨gs, 1, none⟩ = some (.int .i64 0) := HG7.out.cell 1; have fs := HG7.out.frozen)
          have hset : But (fun i => i = gs) V7 (V7.setCell ⟨gs, 1, none⟩ (.int .i64 (q : Int))) := But.setCell V7 _ rfl
          have HS8 := hide (HS7.out.row hset (fun i e => by have e' : i = gs := e; omega))
          have HO8 := hide (ownS_but HO7.out hset (fun b o e h => by have := hS5 b o e; have h' : b = gs := h; omega))
          have HG8 := hide (HG7.out.set 1 (.int .i64 (q : Int)))
          generalize V7.setCell ⟨gs, 1, none⟩ (.int .i64 (q : Int)) = V8 at *
          clear cs fs r7 a7 hset HS7 HO7 HG7 c0
          have c17 : V8.cell? ⟨gp, 17, none⟩ = some (.slice S nd ks) := HS8.out.hp.cell 17
          have g0 : V8.cell? ⟨gs, 0, none⟩ = some (.string (str fl)) := HG8.out.cell 0
          have g1 : V8.cell? ⟨gs, 1, none⟩ = some (.int .i64 (q : Int)) := HG8.out.cell 1
          have hbs := (Below.refl V8.heap.size V8).alloc (Nat.le_refl _) (.cells (arr (subVs [(fl, (q : Int))])) 59)
          have HS9 := hide (HS8.out.mem hbs)
          have hw8 : w.heap.size ≤ V8.heap.size := HS8.out.aft.1.size
          go_wp2_with (at_builtin; refine wpList_appS rfl (.tmp 121) (.tmp 123) 25 rfl 59 _ 2 24 Try.underlying25 sub_info10 rfl (by omega) w.heap.size S nd ks (subVs dn) rfl (ownS_keep HO8.out hbs) _ 1 1 (subVs [(fl, (q : Int))]) rfl (Blk.new V8 59 (subVs [(fl, (q : Int))])).rd (subVs_one _) (by unfold maxLen; omega) (by omega) (Nat.le_trans hw8 hbs.size) ?_; intro A9 c9 w9 o9 b9 h9; rw [← subVs_append] at o9; have HSX := hide (HS9.out.row b9 (fun i ⟨o, e⟩ => ⟨hSn i o e, hSn i o e, (HOff.out i o e).1, (HOff.out i o e).2.1, (HOff.out i o e).2.2⟩)); have c9x : w9.cell? ⟨gp, 17, none⟩ = some (.slice S nd ks) := HSX.out.hp.cell 17; have f9x := HSX.out.hp.frozen; have O9 := hide o9; have H9 := hide h9; clear o9 b9 h9 c17 g0 g1)
          go_roundg k'
          case measure => omega
          case rel =>
            have hset : But (fun i => i = gp) w9 (w9.setCell ⟨gp, 17, none⟩ (.slice A9 (nd + 1) c9)) := But.setCell w9 _ rfl
            have hoff9 : ∀ b o, A9 = some ⟨b, o, none⟩ → b ≠ gp ∧ b ≠ gr ∧ b ≠ gz := fun b o e => by
              rcases H9.out with rfl | h9
              · exact HOff.out b o e
              · have h1 : (V8.alloc (.cells (arr (subVs [(fl, (q : Int))])) 59)).heap.size ≤ b := h9 b o e
                have h2 := HS9.out.hp.lt
                have h3 := HS9.out.hz.lt
                obtain ⟨A8, k8, hB8, -⟩ := HS9.out.hr
                have h4 := hB8.lt
                omega
            have hln : (dn ++ [(fl, (q : Int))]).length = nd + 1 := by rw [List.length_append, Hnd.out]; rfl
            refine ⟨dn ++ [(fl, (q : Int))], A9, c9, s3, by rw [List.append_assoc]; exact HAl.out, HSE.out, by omega, by rw [hln]; omega, ?_, ?_, hoff9⟩
            · rw [hln]
              exact HSX.out.put (p' := ⟨8, false, (id : Int), [], [], 0, false, [], false, 0, false, false, false, [], [], false, [], dn ++ [(fl, (q : Int))]⟩) (HSX.out.hp.set 17 (.slice A9 (nd + 1) c9)) hset
            · rw [hln]
              exact ownS_but O9.out hset (fun b o e h => (hoff9 b o e).1 h)
  · skip
    go_wp2_with (go_at_call 46; refine (PW _ HS.out.hr).mono ?_; rintro e V3 ⟨rfl, r3, a3⟩; have HS := hide (HS.out.call r3 a3); have cc : V3.cell? ⟨gp, 2, none⟩ = some (.int .i64 0) := HS.out.hp.cell 2; have ff := HS.out.hp.frozen; clear r3 a3)
    have HS := hide (HS.out.set 2 (.int .i64 (id : Int)) ⟨10, false, (id : Int), [], [], 0, false, [], false, 0, false, false, false, [], [], false, [], []⟩ rfl)
    generalize V3.setCell ⟨gp, 2, none⟩ (.int .i64 (id : Int)) = V4 at *
    clear cc ff c0 PW
    go_loopg [] s1.1.length (fun k wr => ∃ (dn : List (List UInt8 × Int)) (S : Option Addr) (ks : Nat) (s' : Rdr), dn ++ (subsR 10 k s').1 = all ∧ (subsR 10 k s').2 = s ∧ s'.1.length ≤ k ∧ dn.length + s'.1.length ≤ 65535 ∧ PsS w.heap.size w wr gp gr gz ⟨10, false, (id : Int), [], [], 0, false, [], false, 0, false, false, false, [], [], false, [], dn⟩ none 0 0 S dn.length ks s' ∧ wr.ownsRow w.heap.size 59 2 (.slice S dn.length ks) dn.length (subVs dn) ∧ (∀ b o, S = some ⟨b, o, none⟩ → b ≠ gp ∧ b ≠ gr ∧ b ≠ gz))
    case atStart => exact ⟨[], none, 0, s1, by have := HAll.out; simpa using this, by have := HS1.out; simpa using this, Nat.le_refl _, by simpa using hl1, HS.out, World.ownsRow_nil _ _ _ _, fun _ _ e => by cases e⟩
    case round =>
      obtain ⟨dn, S, ks, s', hal2, hsE, hlk, hdl, hS, hO, hoff⟩ := hrel
      have HS := hide hS
      have HO2 := hide hO
      have HOff := hide hoff
      have HAl := hide hal2
      have HSE := hide hsE
      have hSn : ∀ b o, S = some ⟨b, o, none⟩ → w.heap.size ≤ b := fun b o e => ownS_new hO b o e
      obtain ⟨zs, bd⟩ := s'
      obtain ⟨A3, k3, hBr3, -⟩ := hS.hr
      clear hS hO hoff hal2 hsE
      simp only at hlk hdl
      cases zs with
      | nil =>
        have cr : wr.cell? ⟨gr, 0, none⟩ = some (.slice A3 0 k3) := hBr3.cell 0
        have hst := subsR_stop 10 gk ([], bd) (Or.inl rfl)
        have hdn2 : dn = all := by have := HAl.out; rw [hst] at this; simpa using this
        have hss : ([], bd) = s := by have := HSE.out; rw [hst] at this; exact this
        subst hdn2
        clear hBr3 hst
        go_upto_region 40 with fail
        have HS0 := HS
        have HM0 : PkM wr p none 0 0 S dn.length ks := by
          rw [← Hp.out]
          exact ⟨rfl, Nat.le_refl _, Rd.nil _ _, rfl, ownS_cap8 HO2.out, ownS_rd HO2.out⟩
        obtain ⟨C, nc, kc, S, ns, ks, HS, HM, HN, HOF⟩ : ∃ (C : Option Addr) (nc kc : Nat) (S : Option Addr) (ns ks : Nat), Hid (PsS w.heap.size w wr gp gr gz p C nc kc S ns ks s) ∧ Hid (PkM wr p C nc kc S ns ks) ∧ Hid (NewAt w C ∧ NewAt w S) ∧ Hid ((0 < nc → Off (fun i => i = gz) C) ∧ (0 < ns → Off (fun i => i = gz) S)) := ⟨none, 0, 0, S, dn.length, ks, hide (by rw [← Hp.out, ← hss]; exact HS0.out), hide HM0, hide ⟨NewAt.nil _, hSn⟩, hide ⟨fun h => by omega, fun _ b o e h => (HOff.out b o e).2.2 h⟩⟩
        clear HS0 HM0 hss
        go_upto_region 40 with fail
        have hwV : Below w.heap.size w wr := HS.out.aft.below (Below.refl _ _) hwgr (Nat.le_refl _)
        have dX := strOn (HR.out.keep hwV)
        obtain ⟨ys, bd⟩ := s
        obtain ⟨A2, k2, hBr, -⟩ := HS.out.hr
        have hcr0 := hBr.cell 1
        simp only [List.getElem?_cons_zero, List.getElem?_cons_succ] at hcr0
        have hgrl := hBr.lt
        have hPl := HS.out.hp
        clear hBr
        cases bd with
        | true =>
          have hO0 : O = none := by rw [← HO.out, if_pos (Or.inl rfl)]
          have hcr : ∀ w', Below wr.heap.size wr w' → w'.cell? ⟨gr, 1, none⟩ = some (.bool true) := fun w' h => (h.cell (p := ⟨gr, 1, none⟩) hgrl).trans hcr0
          refine wp_region_held_drew (S := fun w' => Below wr.heap.size wr w') (by kernel_rfl) ?_ (fun hHeld => ?_)
          · exact (Below.refl _ _).drew
          refine wpAnyH_take (i := 0) (oi := { dst := some 144, op := _, type := _, pos := _, after := _, guard := _ }) (v := ?v22x1) rfl (by kernel_rfl) (by kernel_rfl) (by kernel_rfl) (fun _ _ _ h => h) (Or.inl ⟨by rfl, ?hy22x1⟩) hHeld ?rest22x1
          case hy22x1 => (intro w hSw; go_simp <;> with_reducible rfl)
          try simp only [Act.put, List.setIfInBounds_toArray, List.set_cons_zero, List.set_cons_succ]
          refine wpAnyH_take (i := 1) (oi := { dst := some 145, op := _, type := _, pos := _, after := _, guard := _ }) (v := ?v22x2) rfl (by kernel_rfl) (by kernel_rfl) (by kernel_rfl) (fun _ _ _ h => h) (Or.inl ⟨by rfl, ?hy22x2⟩) hHeld ?rest22x2
          case hy22x2 => (intro w hSw; go_simp <;> with_reducible rfl)
          try simp only [Act.put, List.setIfInBounds_toArray, List.set_cons_zero, List.set_cons_succ]
          refine wpAnyH_take (i := 2) (oi := { dst := some 146, op := _, type := _, pos := _, after := _, guard := _ }) (v := ?v22x3) rfl (by kernel_rfl) (by kernel_rfl) (by kernel_rfl) (fun _ _ _ h => h) (Or.inl ⟨by rfl, ?hy22x3⟩) hHeld ?rest22x3
          case hy22x3 => (intro w hSw; go_simp <;> with_reducible rfl)
          try simp only [Act.put, List.setIfInBounds_toArray, List.set_cons_zero, List.set_cons_succ]
          refine wpAnyH_take (i := 3) (oi := { dst := some 147, op := _, type := _, pos := _, after := _, guard := _ }) (v := ?v22x4) rfl (by kernel_rfl) (by kernel_rfl) (by kernel_rfl) (fun _ _ _ h => h) (Or.inl ⟨by rfl, ?hy22x4⟩) hHeld ?rest22x4
          case hy22x4 => (intro w hSw; go_simp <;> with_reducible rfl)
          try simp only [Act.put, List.setIfInBounds_toArray, List.set_cons_zero, List.set_cons_succ]
          refine wpAnyH_take (i := 4) (oi := { dst := some 148, op := _, type := _, pos := _, after := _, guard := _ }) (v := ?v22x5) rfl (by kernel_rfl) (by kernel_rfl) (by kernel_rfl) (fun _ _ _ h => h) (Or.inl ⟨by rfl, ?hy22x5⟩) hHeld ?rest22x5
          case hy22x5 => (intro w hSw; go_simp <;> with_reducible rfl)
          try simp only [Act.put, List.setIfInBounds_toArray, List.set_cons_zero, List.set_cons_succ]
          refine wpAnyH_take (i := 5) (oi := { dst := some 149, op := _, type := _, pos := _, after := _, guard := _ }) (v := undef) rfl (by kernel_rfl) (by kernel_rfl) (by kernel_rfl) (fun _ _ _ h => h) (Or.inr ⟨by rfl, rfl⟩) hHeld ?_
          try simp only [Act.put, List.setIfInBounds_toArray, List.set_cons_zero, List.set_cons_succ]
          refine wpAnyH_take (i := 6) (oi := { dst := some 150, op := _, type := _, pos := _, after := _, guard := _ }) (v := undef) rfl (by kernel_rfl) (by kernel_rfl) (by kernel_rfl) (fun _ _ _ h => h) (Or.inr ⟨by rfl, rfl⟩) hHeld ?_
          try simp only [Act.put, List.setIfInBounds_toArray, List.set_cons_zero, List.set_cons_succ]
          refine wpAnyH_take (i := 7) (oi := { dst := some 151, op := _, type := _, pos := _, after := _, guard := _ }) (v := undef) rfl (by kernel_rfl) (by kernel_rfl) (by kernel_rfl) (fun _ _ _ h => h) (Or.inr ⟨by rfl, rfl⟩) hHeld ?_
          try simp only [Act.put, List.setIfInBounds_toArray, List.set_cons_zero, List.set_cons_succ]
          refine wpAnyH_take (i := 8) (oi := { dst := some 152, op := _, type := _, pos := _, after := _, guard := _ }) (v := ?v22x9) rfl (by kernel_rfl) (by kernel_rfl) (by kernel_rfl) (fun _ _ _ h => h) (Or.inl ⟨by rfl, ?hy22x9⟩) hHeld ?rest22x9
          case hy22x9 => (intro w hSw; go_simp <;> with_reducible rfl)
          try simp only [Act.put, List.setIfInBounds_toArray, List.set_cons_zero, List.set_cons_succ]
          refine wpAnyH_take (i := 9) (oi := { dst := some 153, op := _, type := _, pos := _, after := _, guard := _ }) (v := ?v22x10) rfl (by kernel_rfl) (by kernel_rfl) (by kernel_rfl) (fun _ _ _ h => h) (Or.inl ⟨by rfl, ?hy22x10⟩) hHeld ?rest22x10
          case hy22x10 => (intro w hSw; go_simp <;> with_reducible rfl)
          try simp only [Act.put, List.setIfInBounds_toArray, List.set_cons_zero, List.set_cons_succ]
          refine wpAnyH_take (i := 10) (oi := { dst := some 154, op := _, type := _, pos := _, after := _, guard := _ }) (v := undef) rfl (by kernel_rfl) (by kernel_rfl) (by kernel_rfl) (fun _ _ _ h => h) (Or.inr ⟨by rfl, rfl⟩) hHeld ?_
          try simp only [Act.put, List.setIfInBounds_toArray, List.set_cons_zero, List.set_cons_succ]
          refine wpAnyH_take (i := 11) (oi := { dst := some 155, op := _, type := _, pos := _, after := _, guard := _ }) (v := undef) rfl (by kernel_rfl) (by kernel_rfl) (by kernel_rfl) (fun _ _ _ h => h) (Or.inr ⟨by rfl, rfl⟩) hHeld ?_
          try simp only [Act.put, List.setIfInBounds_toArray, List.set_cons_zero, List.set_cons_succ]
          refine wpAnyH_take (i := 12) (oi := { dst := some 156, op := _, type := _, pos := _, after := _, guard := _ }) (v := undef) rfl (by kernel_rfl) (by kernel_rfl) (by kernel_rfl) (fun _ _ _ h => h) (Or.inr ⟨by rfl, rfl⟩) hHeld ?_
          try simp only [Act.put, List.setIfInBounds_toArray, List.set_cons_zero, List.set_cons_succ]
          refine wpAnyH_take (i := 13) (oi := { dst := some 157, op := _, type := _, pos := _, after := _, guard := _ }) (v := undef) rfl (by kernel_rfl) (by kernel_rfl) (by kernel_rfl) (fun _ _ _ h => h) (Or.inr ⟨by rfl, rfl⟩) hHeld ?_
          try simp only [Act.put, List.setIfInBounds_toArray, List.set_cons_zero, List.set_cons_succ]
          refine wpAnyH_take (i := 14) (oi := { dst := some 158, op := _, type := _, pos := _, after := _, guard := _ }) (v := undef) rfl (by kernel_rfl) (by kernel_rfl) (by kernel_rfl) (fun _ _ _ h => h) (Or.inr ⟨by rfl, rfl⟩) hHeld ?_
          try simp only [Act.put, List.setIfInBounds_toArray, List.set_cons_zero, List.set_cons_succ]
          refine wpAnyH_take (i := 15) (oi := { dst := some 159, op := _, type := _, pos := _, after := _, guard := _ }) (v := undef) rfl (by kernel_rfl) (by kernel_rfl) (by kernel_rfl) (fun _ _ _ h => h) (Or.inr ⟨by rfl, rfl⟩) hHeld ?_
          try simp only [Act.put, List.setIfInBounds_toArray, List.set_cons_zero, List.set_cons_succ]
          refine wpAnyH_take (i := 16) (oi := { dst := some 160, op := _, type := _, pos := _, after := _, guard := _ }) (v := ?v22x17) rfl (by kernel_rfl) (by kernel_rfl) (by kernel_rfl) (fun _ _ _ h => h) (Or.inl ⟨by rfl, ?hy22x17⟩) hHeld ?rest22x17
          case hy22x17 => (intro w hSw; go_simp <;> with_reducible rfl)
          try simp only [Act.put, List.setIfInBounds_toArray, List.set_cons_zero, List.set_cons_succ]
          refine wpAnyH_done (by kernel_rfl) ?_ _
          clear hcr hcr0 dX
          have HS5 := hide (HS.out.mem hHeld)
          go_upto_region 99 with (refine wpList_storeQ rfl 27 (.tmp 2) (.tmp 161) rfl gz 27 (zeroP 0) none 0 0 none 0 0 (zeroP 0) none 0 0 none 0 0 rfl rfl (HS5.out).hz (by kernel_rfl) ?_; intro V2 bV2 BV2)
          refine bodyPost_ret (results_cell_tmp rfl rfl bV2 Try.underlying27 rfl (by kernel_rfl)) rfl ?_
          refine HOP.out _ _ ?_
          rw [hO0]
          exact ⟨rfl, ((HS5.out).ans BV2).2.below (Below.refl _ _) hwgr (Nat.le_refl _)⟩
        | false =>
          have hcr : ∀ w', Below wr.heap.size wr w' → w'.cell? ⟨gr, 1, none⟩ = some (.bool false) := fun w' h => (h.cell (p := ⟨gr, 1, none⟩) hgrl).trans hcr0
          have HPB : ∀ w', Below wr.heap.size wr w' → Blk w' gp 27 (pkVs p C nc kc S ns ks) := fun w' h => hPl.keep h
          have PM := fun W (hb : Below wr.heap.size wr W) => may_any p C nc kc S ns ks W (HM.out.keep hb) HPS.out
          by_cases hmv : mayP p = true
          case neg =>
            have hmf : mayP p = false := by rw [← Bool.not_eq_true]; exact hmv
            have hO0 : O = none := by rw [← HO.out, if_pos (Or.inr (Or.inl hmf))]
            rw [hmf] at PM
            clear hmv
            refine wp_region_held_drew (S := fun w' => Below wr.heap.size wr w') (by kernel_rfl) ?_ (fun hHeld => ?_)
            · exact (Below.refl _ _).drew
            refine wpAnyH_take (i := 0) (oi := { dst := some 144, op := _, type := _, pos := _, after := _, guard := _ }) (v := ?v23x1) rfl (by kernel_rfl) (by kernel_rfl) (by kernel_rfl) (fun _ _ _ h => h) (Or.inl ⟨by rfl, ?hy23x1⟩) hHeld ?rest23x1
            case hy23x1 => (intro w hSw; go_simp <;> with_reducible rfl)
            try simp only [Act.put, List.setIfInBounds_toArray, List.set_cons_zero, List.set_cons_succ]
            refine wpAnyH_take (i := 1) (oi := { dst := some 145, op := _, type := _, pos := _, after := _, guard := _ }) (v := ?v23x2) rfl (by kernel_rfl) (by kernel_rfl) (by kernel_rfl) (fun _ _ _ h => h) (Or.inl ⟨by rfl, ?hy23x2⟩) hHeld ?rest23x2
            case hy23x2 => (intro w hSw; go_simp <;> with_reducible rfl)
            try simp only [Act.put, List.setIfInBounds_toArray, List.set_cons_zero, List.set_cons_succ]
            refine wpAnyH_take (i := 2) (oi := { dst := some 146, op := _, type := _, pos := _, after := _, guard := _ }) (v := ?v23x3) rfl (by kernel_rfl) (by kernel_rfl) (by kernel_rfl) (fun _ _ _ h => h) (Or.inl ⟨by rfl, ?hy23x3⟩) hHeld ?rest23x3
            case hy23x3 => (intro w hSw; go_simp <;> with_reducible rfl)
            try simp only [Act.put, List.setIfInBounds_toArray, List.set_cons_zero, List.set_cons_succ]
            refine wpAnyH_take (i := 3) (oi := { dst := some 147, op := _, type := _, pos := _, after := _, guard := _ }) (v := ?v23x4) rfl (by kernel_rfl) (by kernel_rfl) (by kernel_rfl) (fun _ _ _ h => h) (Or.inl ⟨by rfl, ?hy23x4⟩) hHeld ?rest23x4
            case hy23x4 => (intro w hSw; go_simp <;> with_reducible rfl)
            try simp only [Act.put, List.setIfInBounds_toArray, List.set_cons_zero, List.set_cons_succ]
            refine wpAnyH_take (i := 4) (oi := { dst := some 148, op := _, type := _, pos := _, after := _, guard := _ }) (v := ?v23x5) rfl (by kernel_rfl) (by kernel_rfl) (by kernel_rfl) (fun _ _ _ h => h) (Or.inl ⟨by rfl, ?hy23x5⟩) hHeld ?rest23x5
            case hy23x5 => (intro w hSw; go_simp <;> with_reducible rfl)
            try simp only [Act.put, List.setIfInBounds_toArray, List.set_cons_zero, List.set_cons_succ]
            refine wpAnyH_take (i := 5) (oi := { dst := some 149, op := _, type := _, pos := _, after := _, guard := _ }) (v := ?v23x6) rfl (by kernel_rfl) (by kernel_rfl) (by kernel_rfl) (fun _ _ _ h => h) (Or.inl ⟨by rfl, ?hy23x6⟩) hHeld ?rest23x6
            case hy23x6 => (intro w hSw; refine exec_loadP 27 (.tmp 5) ?_ gp 27 p C nc kc S ns ks ?_ (HPB w hSw) Try.underlying27 ?_ ?_; rfl; rfl; rfl; kernel_rfl)
            try simp only [Act.put, List.setIfInBounds_toArray, List.set_cons_zero, List.set_cons_succ]
            refine wpAnyH_ready (rs := [6]) (by kernel_rfl) (by simp) (AllReadyH.cons (o := { dst := some 150, op := _, type := _, pos := _, after := _, guard := _ }) rfl (fun K hK => ?_) AllReadyH.nil)
            go_simp
            refine (PM _ hHeld).mono ?_
            rintro e w6 ⟨rfl, b6⟩
            have s6 := below_on hHeld b6
            go_wp2_with fail
            refine hK.out _ _ ?_ (fun hHeld => ?_)
            · exact s6
            clear hK K
            try simp only [Act.put, List.setIfInBounds_toArray, List.set_cons_zero, List.set_cons_succ]
            refine wpAnyH_take (i := 7) (oi := { dst := some 151, op := _, type := _, pos := _, after := _, guard := _ }) (v := ?v23x8) rfl (by kernel_rfl) (by kernel_rfl) (by kernel_rfl) (fun _ _ _ h => h) (Or.inl ⟨by rfl, ?hy23x8⟩) hHeld ?rest23x8
            case hy23x8 => (intro w hSw; go_simp <;> with_reducible rfl)
            try simp only [Act.put, List.setIfInBounds_toArray, List.set_cons_zero, List.set_cons_succ]
            refine wpAnyH_take (i := 8) (oi := { dst := some 152, op := _, type := _, pos := _, after := _, guard := _ }) (v := ?v23x9) rfl (by kernel_rfl) (by kernel_rfl) (by kernel_rfl) (fun _ _ _ h => h) (Or.inl ⟨by rfl, ?hy23x9⟩) hHeld ?rest23x9
            case hy23x9 => (intro w hSw; go_simp <;> with_reducible rfl)
            try simp only [Act.put, List.setIfInBounds_toArray, List.set_cons_zero, List.set_cons_succ]
            refine wpAnyH_take (i := 9) (oi := { dst := some 153, op := _, type := _, pos := _, after := _, guard := _ }) (v := ?v23x10) rfl (by kernel_rfl) (by kernel_rfl) (by kernel_rfl) (fun _ _ _ h => h) (Or.inl ⟨by rfl, ?hy23x10⟩) hHeld ?rest23x10
            case hy23x10 => (intro w hSw; go_simp <;> with_reducible rfl)
            try simp only [Act.put, List.setIfInBounds_toArray, List.set_cons_zero, List.set_cons_succ]
            refine wpAnyH_take (i := 10) (oi := { dst := some 154, op := _, type := _, pos := _, after := _, guard := _ }) (v := undef) rfl (by kernel_rfl) (by kernel_rfl) (by kernel_rfl) (fun _ _ _ h => h) (Or.inr ⟨by rfl, rfl⟩) hHeld ?_
            try simp only [Act.put, List.setIfInBounds_toArray, List.set_cons_zero, List.set_cons_succ]
            refine wpAnyH_take (i := 11) (oi := { dst := some 155, op := _, type := _, pos := _, after := _, guard := _ }) (v := undef) rfl (by kernel_rfl) (by kernel_rfl) (by kernel_rfl) (fun _ _ _ h => h) (Or.inr ⟨by rfl, rfl⟩) hHeld ?_
            try simp only [Act.put, List.setIfInBounds_toArray, List.set_cons_zero, List.set_cons_succ]
            refine wpAnyH_take (i := 12) (oi := { dst := some 156, op := _, type := _, pos := _, after := _, guard := _ }) (v := undef) rfl (by kernel_rfl) (by kernel_rfl) (by kernel_rfl) (fun _ _ _ h => h) (Or.inr ⟨by rfl, rfl⟩) hHeld ?_
            try simp only [Act.put, List.setIfInBounds_toArray, List.set_cons_zero, List.set_cons_succ]
            refine wpAnyH_take (i := 13) (oi := { dst := some 157, op := _, type := _, pos := _, after := _, guard := _ }) (v := undef) rfl (by kernel_rfl) (by kernel_rfl) (by kernel_rfl) (fun _ _ _ h => h) (Or.inr ⟨by rfl, rfl⟩) hHeld ?_
            try simp only [Act.put, List.setIfInBounds_toArray, List.set_cons_zero, List.set_cons_succ]
            refine wpAnyH_take (i := 14) (oi := { dst := some 158, op := _, type := _, pos := _, after := _, guard := _ }) (v := undef) rfl (by kernel_rfl) (by kernel_rfl) (by kernel_rfl) (fun _ _ _ h => h) (Or.inr ⟨by rfl, rfl⟩) hHeld ?_
            try simp only [Act.put, List.setIfInBounds_toArray, List.set_cons_zero, List.set_cons_succ]
            refine wpAnyH_take (i := 15) (oi := { dst := some 159, op := _, type := _, pos := _, after := _, guard := _ }) (v := undef) rfl (by kernel_rfl) (by kernel_rfl) (by kernel_rfl) (fun _ _ _ h => h) (Or.inr ⟨by rfl, rfl⟩) hHeld ?_
            try simp only [Act.put, List.setIfInBounds_toArray, List.set_cons_zero, List.set_cons_succ]
            refine wpAnyH_take (i := 16) (oi := { dst := some 160, op := _, type := _, pos := _, after := _, guard := _ }) (v := ?v23x17) rfl (by kernel_rfl) (by kernel_rfl) (by kernel_rfl) (fun _ _ _ h => h) (Or.inl ⟨by rfl, ?hy23x17⟩) hHeld ?rest23x17
            case hy23x17 => (intro w hSw; go_simp <;> with_reducible rfl)
            try simp only [Act.put, List.setIfInBounds_toArray, List.set_cons_zero, List.set_cons_succ]
            refine wpAnyH_done (by kernel_rfl) ?_ _
            clear hcr hcr0 dX HPB PM
            have HS5 := hide (HS.out.mem hHeld)
            go_upto_region 99 with (refine wpList_storeQ rfl 27 (.tmp 2) (.tmp 161) rfl gz 27 (zeroP 0) none 0 0 none 0 0 (zeroP 0) none 0 0 none 0 0 rfl rfl (HS5.out).hz (by kernel_rfl) ?_; intro V2 bV2 BV2)
            refine bodyPost_ret (results_cell_tmp rfl rfl bV2 Try.underlying27 rfl (by kernel_rfl)) rfl ?_
            refine HOP.out _ _ ?_
            rw [hO0]
            exact ⟨rfl, ((HS5.out).ans BV2).2.below (Below.refl _ _) hwgr (Nat.le_refl _)⟩
          case pos =>
          have PB := fun W (hb : Below wr.heap.size wr W) => rBytes10_any p C nc kc S ns ks W (HM.out.keep hb) HPS.out hmv
          rw [hmv] at PM
          by_cases hl : layP p = xs
          case pos =>
            have hO0 : O = some p := by rw [← HO.out, if_neg (by rw [hmv]; simp [hl])]
            rw [hl] at PB
            refine wp_region_held_drew (S := fun w' => Below wr.heap.size wr w') (by kernel_rfl) ?_ (fun hHeld => ?_)
            · exact (Below.refl _ _).drew
            refine wpAnyH_take (i := 0) (oi := { dst := some 144, op := _, type := _, pos := _, after := _, guard := _ }) (v := ?v24x1) rfl (by kernel_rfl) (by kernel_rfl) (by kernel_rfl) (fun _ _ _ h => h) (Or.inl ⟨by rfl, ?hy24x1⟩) hHeld ?rest24x1
            case hy24x1 => (intro w hSw; go_simp <;> with_reducible rfl)
            try simp only [Act.put, List.setIfInBounds_toArray, List.set_cons_zero, List.set_cons_succ]
            refine wpAnyH_take (i := 1) (oi := { dst := some 145, op := _, type := _, pos := _, after := _, guard := _ }) (v := ?v24x2) rfl (by kernel_rfl) (by kernel_rfl) (by kernel_rfl) (fun _ _ _ h => h) (Or.inl ⟨by rfl, ?hy24x2⟩) hHeld ?rest24x2
            case hy24x2 => (intro w hSw; go_simp <;> with_reducible rfl)
            try simp only [Act.put, List.setIfInBounds_toArray, List.set_cons_zero, List.set_cons_succ]
            refine wpAnyH_take (i := 2) (oi := { dst := some 146, op := _, type := _, pos := _, after := _, guard := _ }) (v := ?v24x3) rfl (by kernel_rfl) (by kernel_rfl) (by kernel_rfl) (fun _ _ _ h => h) (Or.inl ⟨by rfl, ?hy24x3⟩) hHeld ?rest24x3
            case hy24x3 => (intro w hSw; go_simp <;> with_reducible rfl)
            try simp only [Act.put, List.setIfInBounds_toArray, List.set_cons_zero, List.set_cons_succ]
            refine wpAnyH_take (i := 3) (oi := { dst := some 147, op := _, type := _, pos := _, after := _, guard := _ }) (v := ?v24x4) rfl (by kernel_rfl) (by kernel_rfl) (by kernel_rfl) (fun _ _ _ h => h) (Or.inl ⟨by rfl, ?hy24x4⟩) hHeld ?rest24x4
            case hy24x4 => (intro w hSw; go_simp <;> with_reducible rfl)
            try simp only [Act.put, List.setIfInBounds_toArray, List.set_cons_zero, List.set_cons_succ]
            refine wpAnyH_take (i := 4) (oi := { dst := some 148, op := _, type := _, pos := _, after := _, guard := _ }) (v := ?v24x5) rfl (by kernel_rfl) (by kernel_rfl) (by kernel_rfl) (fun _ _ _ h => h) (Or.inl ⟨by rfl, ?hy24x5⟩) hHeld ?rest24x5
            case hy24x5 => (intro w hSw; go_simp <;> with_reducible rfl)
            try simp only [Act.put, List.setIfInBounds_toArray, List.set_cons_zero, List.set_cons_succ]
            refine wpAnyH_take (i := 5) (oi := { dst := some 149, op := _, type := _, pos := _, after := _, guard := _ }) (v := ?v24x6) rfl (by kernel_rfl) (by kernel_rfl) (by kernel_rfl) (fun _ _ _ h => h) (Or.inl ⟨by rfl, ?hy24x6⟩) hHeld ?rest24x6
            case hy24x6 => (intro w hSw; refine exec_loadP 27 (.tmp 5) ?_ gp 27 p C nc kc S ns ks ?_ (HPB w hSw) Try.underlying27 ?_ ?_; rfl; rfl; rfl; kernel_rfl)
            try simp only [Act.put, List.setIfInBounds_toArray, List.set_cons_zero, List.set_cons_succ]
            refine wpAnyH_ready (rs := [6]) (by kernel_rfl) (by simp) (AllReadyH.cons (o := { dst := some 150, op := _, type := _, pos := _, after := _, guard := _ }) rfl (fun K hK => ?_) AllReadyH.nil)
            go_simp
            refine (PM _ hHeld).mono ?_
            rintro e w6 ⟨rfl, b6⟩
            have s6 := below_on hHeld b6
            have dX6 : ∀ w', Below w6.heap.size w6 w' → ∀ c, (convert 31 9 (.slice (some ⟨bA, oA, none⟩) n c)).run Try.prog w' = .ok (.string (str xs)) w' := fun w' h => dX w' (below_on s6 h)
            go_wp2_with fail
            refine hK.out _ _ ?_ (fun hHeld => ?_)
            · exact below_on hHeld b6
            clear hK K
            try simp only [Act.put, List.setIfInBounds_toArray, List.set_cons_zero, List.set_cons_succ]
            refine wpAnyH_strong (S' := fun w' => Below w6.heap.size w6 w') (by intro w' h; exact below_on hHeld h) ?_
            replace hHeld : (fun w' => Below w6.heap.size w6 w') _ := Below.refl _ _
            refine wpAnyH_take (i := 7) (oi := { dst := some 151, op := _, type := _, pos := _, after := _, guard := _ }) (v := ?v24x8) rfl (by kernel_rfl) (by kernel_rfl) (by kernel_rfl) (fun _ _ _ h => h) (Or.inl ⟨by rfl, ?hy24x8⟩) hHeld ?rest24x8
            case hy24x8 => (intro w hSw; go_simp <;> with_reducible rfl)
            try simp only [Act.put, List.setIfInBounds_toArray, List.set_cons_zero, List.set_cons_succ]
            refine wpAnyH_take (i := 8) (oi := { dst := some 152, op := _, type := _, pos := _, after := _, guard := _ }) (v := ?v24x9) rfl (by kernel_rfl) (by kernel_rfl) (by kernel_rfl) (fun _ _ _ h => h) (Or.inl ⟨by rfl, ?hy24x9⟩) hHeld ?rest24x9
            case hy24x9 => (intro w hSw; go_simp <;> with_reducible rfl)
            try simp only [Act.put, List.setIfInBounds_toArray, List.set_cons_zero, List.set_cons_succ]
            refine wpAnyH_take (i := 9) (oi := { dst := some 153, op := _, type := _, pos := _, after := _, guard := _ }) (v := ?v24x10) rfl (by kernel_rfl) (by kernel_rfl) (by kernel_rfl) (fun _ _ _ h => h) (Or.inl ⟨by rfl, ?hy24x10⟩) hHeld ?rest24x10
            case hy24x10 => (intro w hSw; go_simp <;> with_reducible rfl)
            try simp only [Act.put, List.setIfInBounds_toArray, List.set_cons_zero, List.set_cons_succ]
            refine wpAnyH_take (i := 10) (oi := { dst := some 154, op := _, type := _, pos := _, after := _, guard := _ }) (v := ?v24x11) rfl (by kernel_rfl) (by kernel_rfl) (by kernel_rfl) (fun _ _ _ h => h) (Or.inl ⟨by rfl, ?hy24x11⟩) hHeld ?rest24x11
            case hy24x11 => (intro w hSw; refine exec_loadP 27 (.tmp 5) ?_ gp 27 p C nc kc S ns ks ?_ (HPB w (below_on s6 hSw)) Try.underlying27 ?_ ?_; rfl; rfl; rfl; kernel_rfl)
            try simp only [Act.put, List.setIfInBounds_toArray, List.set_cons_zero, List.set_cons_succ]
            refine wpAnyH_take (i := 13) (oi := { dst := some 157, op := _, type := _, pos := _, after := _, guard := _ }) (v := ?v24x12) rfl (by kernel_rfl) (by kernel_rfl) (by kernel_rfl) (fun _ _ _ h => h) (Or.inl ⟨by rfl, ?hy24x12⟩) hHeld ?rest24x12
            case hy24x12 => (intro w hSw; go_simp <;> with_reducible rfl)
            try simp only [Act.put, List.setIfInBounds_toArray, List.set_cons_zero, List.set_cons_succ]
            refine wpAnyH_take (i := 14) (oi := { dst := some 158, op := _, type := _, pos := _, after := _, guard := _ }) (v := ?v24x13) rfl (by kernel_rfl) (by kernel_rfl) (by kernel_rfl) (fun _ _ _ h => h) (Or.inl ⟨by rfl, ?hy24x13⟩) hHeld ?rest24x13
            case hy24x13 => (intro w hSw; go_simp <;> with_reducible rfl)
            try simp only [Act.put, List.setIfInBounds_toArray, List.set_cons_zero, List.set_cons_succ]
            refine wpAnyH_ready (rs := [11]) (by kernel_rfl) (by simp) (AllReadyH.cons (o := { dst := some 155, op := _, type := _, pos := _, after := _, guard := _ }) rfl (fun K hK => ?_) AllReadyH.nil)
            go_simp
            refine (PB _ (below_on s6 hHeld)).mono ?_
            rintro e w7 ⟨G, gk, rfl, hgk, r7, b7⟩
            have s7 := below_on s6 (below_on hHeld b7)
            have dG := strOn r7
            have dX7 : ∀ w', Below w7.heap.size w7 w' → ∀ c, (convert 31 9 (.slice (some ⟨bA, oA, none⟩) n c)).run Try.prog w' = .ok (.string (str xs)) w' := fun w' h => dX w' (below_on s7 h)
            clear dX6
            go_wp2_with fail
            refine hK.out _ _ ?_ (fun hHeld => ?_)
            · exact below_on hHeld b7
            clear hK K
            try simp only [Act.put, List.setIfInBounds_toArray, List.set_cons_zero, List.set_cons_succ]
            refine wpAnyH_strong (S' := fun w' => Below w7.heap.size w7 w') (by intro w' h; exact below_on hHeld h) ?_
            replace hHeld : (fun w' => Below w7.heap.size w7 w') _ := Below.refl _ _
            refine wpAnyH_take (i := 12) (oi := { dst := some 156, op := _, type := _, pos := _, after := _, guard := _ }) (v := ?v24x15) rfl (by kernel_rfl) (by kernel_rfl) (by kernel_rfl) (fun _ _ _ h => h) (Or.inl ⟨by rfl, ?hy24x15⟩) hHeld ?rest24x15
            case hy24x15 => (intro w hSw; go_simp <;> with_reducible rfl)
            try simp only [Act.put, List.setIfInBounds_toArray, List.set_cons_zero, List.set_cons_succ]
            refine wpAnyH_take (i := 15) (oi := { dst := some 159, op := _, type := _, pos := _, after := _, guard := _ }) (v := ?v24x16) rfl (by kernel_rfl) (by kernel_rfl) (by kernel_rfl) (fun _ _ _ h => h) (Or.inl ⟨by rfl, ?hy24x16⟩) hHeld ?rest24x16
            case hy24x16 => (intro w hSw; go_simp <;> with_reducible rfl)
            try simp only [Act.put, List.setIfInBounds_toArray, List.set_cons_zero, List.set_cons_succ]
            refine wpAnyH_take (i := 16) (oi := { dst := some 160, op := _, type := _, pos := _, after := _, guard := _ }) (v := ?v24x17) rfl (by kernel_rfl) (by kernel_rfl) (by kernel_rfl) (fun _ _ _ h => h) (Or.inl ⟨by rfl, ?hy24x17⟩) hHeld ?rest24x17
            case hy24x17 => (intro w hSw; go_simp <;> with_reducible rfl)
            try simp only [Act.put, List.setIfInBounds_toArray, List.set_cons_zero, List.set_cons_succ]
            refine wpAnyH_done (by kernel_rfl) ?_ _
            have hbel := below_on s7 hHeld
            clear hcr hcr0 dX HPB PM PB dG dX7
            have HS5 := hide (HS.out.mem hbel)
            have HM5 := hide (HM.out.keep hbel)
            go_upto_region 99 with (first
              | (refine wpList_loadP rfl 27 (.tmp 5) rfl gp 27 p C nc kc S ns ks rfl HS5.out.hp Try.underlying27 rfl (by kernel_rfl) ?_)
              | (refine wpList_storeQ rfl 27 (.tmp 2) (.tmp 162) rfl gz 27 (zeroP 0) none 0 0 none 0 0 p C nc kc S ns ks rfl rfl HS5.out.hz (by kernel_rfl) ?_; intro V2 bV2 BV2))
            refine bodyPost_ret (results_cell_tmp rfl rfl bV2 Try.underlying27 rfl (by kernel_rfl)) rfl ?_
            refine HOP.out _ _ ?_
            rw [hO0]
            exact ⟨C, nc, kc, S, ns, ks, rfl, HN.out.1, HN.out.2, PkM_but HM5.out BV2 HOF.out.1 HOF.out.2, (HS5.out.ans BV2).2.below (Below.refl _ _) hwgr (Nat.le_refl _)⟩
          case neg =>
            have hO0 : O = none := by rw [← HO.out, if_pos (Or.inr (Or.inr hl))]
            have hlb : (layP p == xs) = false := by rw [beq_eq_false_iff_ne]; exact hl
            clear hl
            refine wp_region_held_drew (S := fun w' => Below wr.heap.size wr w') (by kernel_rfl) ?_ (fun hHeld => ?_)
            · exact (Below.refl _ _).drew
            refine wpAnyH_take (i := 0) (oi := { dst := some 144, op := _, type := _, pos := _, after := _, guard := _ }) (v := ?v25x1) rfl (by kernel_rfl) (by kernel_rfl) (by kernel_rfl) (fun _ _ _ h => h) (Or.inl ⟨by rfl, ?hy25x1⟩) hHeld ?rest25x1
            case hy25x1 => (intro w hSw; go_simp <;> with_reducible rfl)
            try simp only [Act.put, List.setIfInBounds_toArray, List.set_cons_zero, List.set_cons_succ]
            refine wpAnyH_take (i := 1) (oi := { dst := some 145, op := _, type := _, pos := _, after := _, guard := _ }) (v := ?v25x2) rfl (by kernel_rfl) (by kernel_rfl) (by kernel_rfl) (fun _ _ _ h => h) (Or.inl ⟨by rfl, ?hy25x2⟩) hHeld ?rest25x2
            case hy25x2 => (intro w hSw; go_simp <;> with_reducible rfl)
            try simp only [Act.put, List.setIfInBounds_toArray, List.set_cons_zero, List.set_cons_succ]
            refine wpAnyH_take (i := 2) (oi := { dst := some 146, op := _, type := _, pos := _, after := _, guard := _ }) (v := ?v25x3) rfl (by kernel_rfl) (by kernel_rfl) (by kernel_rfl) (fun _ _ _ h => h) (Or.inl ⟨by rfl, ?hy25x3⟩) hHeld ?rest25x3
            case hy25x3 => (intro w hSw; go_simp <;> with_reducible rfl)
            try simp only [Act.put, List.setIfInBounds_toArray, List.set_cons_zero, List.set_cons_succ]
            refine wpAnyH_take (i := 3) (oi := { dst := some 147, op := _, type := _, pos := _, after := _, guard := _ }) (v := ?v25x4) rfl (by kernel_rfl) (by kernel_rfl) (by kernel_rfl) (fun _ _ _ h => h) (Or.inl ⟨by rfl, ?hy25x4⟩) hHeld ?rest25x4
            case hy25x4 => (intro w hSw; go_simp <;> with_reducible rfl)
            try simp only [Act.put, List.setIfInBounds_toArray, List.set_cons_zero, List.set_cons_succ]
            refine wpAnyH_take (i := 4) (oi := { dst := some 148, op := _, type := _, pos := _, after := _, guard := _ }) (v := ?v25x5) rfl (by kernel_rfl) (by kernel_rfl) (by kernel_rfl) (fun _ _ _ h => h) (Or.inl ⟨by rfl, ?hy25x5⟩) hHeld ?rest25x5
            case hy25x5 => (intro w hSw; go_simp <;> with_reducible rfl)
            try simp only [Act.put, List.setIfInBounds_toArray, List.set_cons_zero, List.set_cons_succ]
            refine wpAnyH_take (i := 5) (oi := { dst := some 149, op := _, type := _, pos := _, after := _, guard := _ }) (v := ?v25x6) rfl (by kernel_rfl) (by kernel_rfl) (by kernel_rfl) (fun _ _ _ h => h) (Or.inl ⟨by rfl, ?hy25x6⟩) hHeld ?rest25x6
            case hy25x6 => (intro w hSw; refine exec_loadP 27 (.tmp 5) ?_ gp 27 p C nc kc S ns ks ?_ (HPB w hSw) Try.underlying27 ?_ ?_; rfl; rfl; rfl; kernel_rfl)
            try simp only [Act.put, List.setIfInBounds_toArray, List.set_cons_zero, List.set_cons_succ]
            refine wpAnyH_ready (rs := [6]) (by kernel_rfl) (by simp) (AllReadyH.cons (o := { dst := some 150, op := _, type := _, pos := _, after := _, guard := _ }) rfl (fun K hK => ?_) AllReadyH.nil)
            go_simp
            refine (PM _ hHeld).mono ?_
            rintro e w6 ⟨rfl, b6⟩
            have s6 := below_on hHeld b6
            have dX6 : ∀ w', Below w6.heap.size w6 w' → ∀ c, (convert 31 9 (.slice (some ⟨bA, oA, none⟩) n c)).run Try.prog w' = .ok (.string (str xs)) w' := fun w' h => dX w' (below_on s6 h)
            go_wp2_with fail
            refine hK.out _ _ ?_ (fun hHeld => ?_)
            · exact below_on hHeld b6
            clear hK K
            try simp only [Act.put, List.setIfInBounds_toArray, List.set_cons_zero, List.set_cons_succ]
            refine wpAnyH_strong (S' := fun w' => Below w6.heap.size w6 w') (by intro w' h; exact below_on hHeld h) ?_
            replace hHeld : (fun w' => Below w6.heap.size w6 w') _ := Below.refl _ _
            refine wpAnyH_take (i := 7) (oi := { dst := some 151, op := _, type := _, pos := _, after := _, guard := _ }) (v := ?v25x8) rfl (by kernel_rfl) (by kernel_rfl) (by kernel_rfl) (fun _ _ _ h => h) (Or.inl ⟨by rfl, ?hy25x8⟩) hHeld ?rest25x8
            case hy25x8 => (intro w hSw; go_simp <;> with_reducible rfl)
            try simp only [Act.put, List.setIfInBounds_toArray, List.set_cons_zero, List.set_cons_succ]
            refine wpAnyH_take (i := 8) (oi := { dst := some 152, op := _, type := _, pos := _, after := _, guard := _ }) (v := ?v25x9) rfl (by kernel_rfl) (by kernel_rfl) (by kernel_rfl) (fun _ _ _ h => h) (Or.inl ⟨by rfl, ?hy25x9⟩) hHeld ?rest25x9
            case hy25x9 => (intro w hSw; go_simp <;> with_reducible rfl)
            try simp only [Act.put, List.setIfInBounds_toArray, List.set_cons_zero, List.set_cons_succ]
            refine wpAnyH_take (i := 9) (oi := { dst := some 153, op := _, type := _, pos := _, after := _, guard := _ }) (v := ?v25x10) rfl (by kernel_rfl) (by kernel_rfl) (by kernel_rfl) (fun _ _ _ h => h) (Or.inl ⟨by rfl, ?hy25x10⟩) hHeld ?rest25x10
            case hy25x10 => (intro w hSw; go_simp <;> with_reducible rfl)
            try simp only [Act.put, List.setIfInBounds_toArray, List.set_cons_zero, List.set_cons_succ]
            refine wpAnyH_take (i := 10) (oi := { dst := some 154, op := _, type := _, pos := _, after := _, guard := _ }) (v := ?v25x11) rfl (by kernel_rfl) (by kernel_rfl) (by kernel_rfl) (fun _ _ _ h => h) (Or.inl ⟨by rfl, ?hy25x11⟩) hHeld ?rest25x11
            case hy25x11 => (intro w hSw; refine exec_loadP 27 (.tmp 5) ?_ gp 27 p C nc kc S ns ks ?_ (HPB w (below_on s6 hSw)) Try.underlying27 ?_ ?_; rfl; rfl; rfl; kernel_rfl)
            try simp only [Act.put, List.setIfInBounds_toArray, List.set_cons_zero, List.set_cons_succ]
            refine wpAnyH_take (i := 13) (oi := { dst := some 157, op := _, type := _, pos := _, after := _, guard := _ }) (v := ?v25x12) rfl (by kernel_rfl) (by kernel_rfl) (by kernel_rfl) (fun _ _ _ h => h) (Or.inl ⟨by rfl, ?hy25x12⟩) hHeld ?rest25x12
            case hy25x12 => (intro w hSw; go_simp <;> with_reducible rfl)
            try simp only [Act.put, List.setIfInBounds_toArray, List.set_cons_zero, List.set_cons_succ]
            refine wpAnyH_take (i := 14) (oi := { dst := some 158, op := _, type := _, pos := _, after := _, guard := _ }) (v := ?v25x13) rfl (by kernel_rfl) (by kernel_rfl) (by kernel_rfl) (fun _ _ _ h => h) (Or.inl ⟨by rfl, ?hy25x13⟩) hHeld ?rest25x13
            case hy25x13 => (intro w hSw; go_simp <;> with_reducible rfl)
            try simp only [Act.put, List.setIfInBounds_toArray, List.set_cons_zero, List.set_cons_succ]
            refine wpAnyH_ready (rs := [11]) (by kernel_rfl) (by simp) (AllReadyH.cons (o := { dst := some 155, op := _, type := _, pos := _, after := _, guard := _ }) rfl (fun K hK => ?_) AllReadyH.nil)
            go_simp
            refine (PB _ (below_on s6 hHeld)).mono ?_
            rintro e w7 ⟨G, gk, rfl, hgk, r7, b7⟩
            have s7 := below_on s6 (below_on hHeld b7)
            have dG := strOn r7
            have dX7 : ∀ w', Below w7.heap.size w7 w' → ∀ c, (convert 31 9 (.slice (some ⟨bA, oA, none⟩) n c)).run Try.prog w' = .ok (.string (str xs)) w' := fun w' h => dX w' (below_on s7 h)
            clear dX6
            go_wp2_with fail
            refine hK.out _ _ ?_ (fun hHeld => ?_)
            · exact below_on hHeld b7
            clear hK K
            try simp only [Act.put, List.setIfInBounds_toArray, List.set_cons_zero, List.set_cons_succ]
            refine wpAnyH_strong (S' := fun w' => Below w7.heap.size w7 w') (by intro w' h; exact below_on hHeld h) ?_
            replace hHeld : (fun w' => Below w7.heap.size w7 w') _ := Below.refl _ _
            refine wpAnyH_take (i := 12) (oi := { dst := some 156, op := _, type := _, pos := _, after := _, guard := _ }) (v := ?v25x15) rfl (by kernel_rfl) (by kernel_rfl) (by kernel_rfl) (fun _ _ _ h => h) (Or.inl ⟨by rfl, ?hy25x15⟩) hHeld ?rest25x15
            case hy25x15 => (intro w hSw; go_simp <;> with_reducible rfl)
            try simp only [Act.put, List.setIfInBounds_toArray, List.set_cons_zero, List.set_cons_succ]
            refine wpAnyH_take (i := 15) (oi := { dst := some 159, op := _, type := _, pos := _, after := _, guard := _ }) (v := ?v25x16) rfl (by kernel_rfl) (by kernel_rfl) (by kernel_rfl) (fun _ _ _ h => h) (Or.inl ⟨by rfl, ?hy25x16⟩) hHeld ?rest25x16
            case hy25x16 => (intro w hSw; go_simp <;> with_reducible rfl)
            try simp only [Act.put, List.setIfInBounds_toArray, List.set_cons_zero, List.set_cons_succ]
            refine wpAnyH_take (i := 16) (oi := { dst := some 160, op := _, type := _, pos := _, after := _, guard := _ }) (v := ?v25x17) rfl (by kernel_rfl) (by kernel_rfl) (by kernel_rfl) (fun _ _ _ h => h) (Or.inl ⟨by rfl, ?hy25x17⟩) hHeld ?rest25x17
            case hy25x17 => (intro w hSw; go_simp <;> with_reducible rfl)
            try simp only [Act.put, List.setIfInBounds_toArray, List.set_cons_zero, List.set_cons_succ]
            refine wpAnyH_done (by kernel_rfl) ?_ _
            have hbel := below_on s7 hHeld
            clear hcr hcr0 dX HPB PM PB dG dX7
            have HS5 := hide (HS.out.mem hbel)
            go_upto_region 99 with (refine wpList_storeQ rfl 27 (.tmp 2) (.tmp 161) rfl gz 27 (zeroP 0) none 0 0 none 0 0 (zeroP 0) none 0 0 none 0 0 rfl rfl (HS5.out).hz (by kernel_rfl) ?_; intro V2 bV2 BV2)
            refine bodyPost_ret (results_cell_tmp rfl rfl bV2 Try.underlying27 rfl (by kernel_rfl)) rfl ?_
            refine HOP.out _ _ ?_
            rw [hO0]
            exact ⟨rfl, ((HS5.out).ans BV2).2.below (Below.refl _ _) hwgr (Nat.le_refl _)⟩
      | cons c zt =>
        have cr : wr.cell? ⟨gr, 0, none⟩ = some (.slice A3 (zt.length + 1) k3) := hBr3.cell 0
        have cb : wr.cell? ⟨gr, 1, none⟩ = some (.bool bd) := hBr3.cell 1
        cases bd with
        | true =>
          have hst := subsR_stop 10 gk (c :: zt, true) (Or.inr rfl)
          have hdn2 : dn = all := by have := HAl.out; rw [hst] at this; simpa using this
          have hss : (c :: zt, true) = s := by have := HSE.out; rw [hst] at this; exact this
          subst hdn2
          clear hBr3 hst
          go_upto_region 40 with fail
          have HS0 := HS
          have HM0 : PkM wr p none 0 0 S dn.length ks := by
            rw [← Hp.out]
            exact ⟨rfl, Nat.le_refl _, Rd.nil _ _, rfl, ownS_cap8 HO2.out, ownS_rd HO2.out⟩
          obtain ⟨C, nc, kc, S, ns, ks, HS, HM, HN, HOF⟩ : ∃ (C : Option Addr) (nc kc : Nat) (S : Option Addr) (ns ks : Nat), Hid (PsS w.heap.size w wr gp gr gz p C nc kc S ns ks s) ∧ Hid (PkM wr p C nc kc S ns ks) ∧ Hid (NewAt w C ∧ NewAt w S) ∧ Hid ((0 < nc → Off (fun i => i = gz) C) ∧ (0 < ns → Off (fun i => i = gz) S)) := ⟨none, 0, 0, S, dn.length, ks, hide (by rw [← Hp.out, ← hss]; exact HS0.out), hide HM0, hide ⟨NewAt.nil _, hSn⟩, hide ⟨fun h => by omega, fun _ b o e h => (HOff.out b o e).2.2 h⟩⟩
          clear HS0 HM0 hss
          clear cb
          go_upto_region 40 with fail
          have hwV : Below w.heap.size w wr := HS.out.aft.below (Below.refl _ _) hwgr (Nat.le_refl _)
          have dX := strOn (HR.out.keep hwV)
          obtain ⟨ys, bd⟩ := s
          obtain ⟨A2, k2, hBr, -⟩ := HS.out.hr
          have hcr0 := hBr.cell 1
          simp only [List.getElem?_cons_zero, List.getElem?_cons_succ] at hcr0
          have hgrl := hBr.lt
          have hPl := HS.out.hp
          clear hBr
          cases bd with
          | true =>
            have hO0 : O = none := by rw [← HO.out, if_pos (Or.inl rfl)]
            have hcr : ∀ w', Below wr.heap.size wr w' → w'.cell? ⟨gr, 1, none⟩ = some (.bool true) := fun w' h => (h.cell (p := ⟨gr, 1, none⟩) hgrl).trans hcr0
            refine wp_region_held_drew (S := fun w' => Below wr.heap.size wr w') (by kernel_rfl) ?_ (fun hHeld => ?_)
            · exact (Below.refl _ _).drew
            refine wpAnyH_take (i := 0) (oi := { dst := some 144, op := _, type := _, pos := _, after := _, guard := _ }) (v := ?v26x1) rfl (by kernel_rfl) (by kernel_rfl) (by kernel_rfl) (fun _ _ _ h => h) (Or.inl ⟨by rfl, ?hy26x1⟩) hHeld ?rest26x1
            case hy26x1 => (intro w hSw; go_simp <;> with_reducible rfl)
            try simp only [Act.put, List.setIfInBounds_toArray, List.set_cons_zero, List.set_cons_succ]
            refine wpAnyH_take (i := 1) (oi := { dst := some 145, op := _, type := _, pos := _, after := _, guard := _ }) (v := ?v26x2) rfl (by kernel_rfl) (by kernel_rfl) (by kernel_rfl) (fun _ _ _ h => h) (Or.inl ⟨by rfl, ?hy26x2⟩) hHeld ?rest26x2
            case hy26x2 => (intro w hSw; go_simp <;> with_reducible rfl)
            try simp only [Act.put, List.setIfInBounds_toArray, List.set_cons_zero, List.set_cons_succ]
            refine wpAnyH_take (i := 2) (oi := { dst := some 146, op := _, type := _, pos := _, after := _, guard := _ }) (v := ?v26x3) rfl (by kernel_rfl) (by kernel_rfl) (by kernel_rfl) (fun _ _ _ h => h) (Or.inl ⟨by rfl, ?hy26x3⟩) hHeld ?rest26x3
            case hy26x3 => (intro w hSw; go_simp <;> with_reducible rfl)
            try simp only [Act.put, List.setIfInBounds_toArray, List.set_cons_zero, List.set_cons_succ]
            refine wpAnyH_take (i := 3) (oi := { dst := some 147, op := _, type := _, pos := _, after := _, guard := _ }) (v := ?v26x4) rfl (by kernel_rfl) (by kernel_rfl) (by kernel_rfl) (fun _ _ _ h => h) (Or.inl ⟨by rfl, ?hy26x4⟩) hHeld ?rest26x4
            case hy26x4 => (intro w hSw; go_simp <;> with_reducible rfl)
            try simp only [Act.put, List.setIfInBounds_toArray, List.set_cons_zero, List.set_cons_succ]
            refine wpAnyH_take (i := 4) (oi := { dst := some 148, op := _, type := _, pos := _, after := _, guard := _ }) (v := ?v26x5) rfl (by kernel_rfl) (by kernel_rfl) (by kernel_rfl) (fun _ _ _ h => h) (Or.inl ⟨by rfl, ?hy26x5⟩) hHeld ?rest26x5
            case hy26x5 => (intro w hSw; go_simp <;> with_reducible rfl)
            try simp only [Act.put, List.setIfInBounds_toArray, List.set_cons_zero, List.set_cons_succ]
            refine wpAnyH_take (i := 5) (oi := { dst := some 149, op := _, type := _, pos := _, after := _, guard := _ }) (v := undef) rfl (by kernel_rfl) (by kernel_rfl) (by kernel_rfl) (fun _ _ _ h => h) (Or.inr ⟨by rfl, rfl⟩) hHeld ?_
            try simp only [Act.put, List.setIfInBounds_toArray, List.set_cons_zero, List.set_cons_succ]
            refine wpAnyH_take (i := 6) (oi := { dst := some 150, op := _, type := _, pos := _, after := _, guard := _ }) (v := undef) rfl (by kernel_rfl) (by kernel_rfl) (by kernel_rfl) (fun _ _ _ h => h) (Or.inr ⟨by rfl, rfl⟩) hHeld ?_
            try simp only [Act.put, List.setIfInBounds_toArray, List.set_cons_zero, List.set_cons_succ]
            refine wpAnyH_take (i := 7) (oi := { dst := some 151, op := _, type := _, pos := _, after := _, guard := _ }) (v := undef) rfl (by kernel_rfl) (by kernel_rfl) (by kernel_rfl) (fun _ _ _ h => h) (Or.inr ⟨by rfl, rfl⟩) hHeld ?_
            try simp only [Act.put, List.setIfInBounds_toArray, List.set_cons_zero, List.set_cons_succ]
            refine wpAnyH_take (i := 8) (oi := { dst := some 152, op := _, type := _, pos := _, after := _, guard := _ }) (v := ?v26x9) rfl (by kernel_rfl) (by kernel_rfl) (by kernel_rfl) (fun _ _ _ h => h) (Or.inl ⟨by rfl, ?hy26x9⟩) hHeld ?rest26x9
            case hy26x9 => (intro w hSw; go_simp <;> with_reducible rfl)
            try simp only [Act.put, List.setIfInBounds_toArray, List.set_cons_zero, List.set_cons_succ]
            refine wpAnyH_take (i := 9) (oi := { dst := some 153, op := _, type := _, pos := _, after := _, guard := _ }) (v := ?v26x10) rfl (by kernel_rfl) (by kernel_rfl) (by kernel_rfl) (fun _ _ _ h => h) (Or.inl ⟨by rfl, ?hy26x10⟩) hHeld ?rest26x10
            case hy26x10 => (intro w hSw; go_simp <;> with_reducible rfl)
            try simp only [Act.put, List.setIfInBounds_toArray, List.set_cons_zero, List.set_cons_succ]
            refine wpAnyH_take (i := 10) (oi := { dst := some 154, op := _, type := _, pos := _, after := _, guard := _ }) (v := undef) rfl (by kernel_rfl) (by kernel_rfl) (by kernel_rfl) (fun _ _ _ h => h) (Or.inr ⟨by rfl, rfl⟩) hHeld ?_
            try simp only [Act.put, List.setIfInBounds_toArray, List.set_cons_zero, List.set_cons_succ]
            refine wpAnyH_take (i := 11) (oi := { dst := some 155, op := _, type := _, pos := _, after := _, guard := _ }) (v := undef) rfl (by kernel_rfl) (by kernel_rfl) (by kernel_rfl) (fun _ _ _ h => h) (Or.inr ⟨by rfl, rfl⟩) hHeld ?_
            try simp only [Act.put, List.setIfInBounds_toArray, List.set_cons_zero, List.set_cons_succ]
            refine wpAnyH_take (i := 12) (oi := { dst := some 156, op := _, type := _, pos := _, after := _, guard := _ }) (v := undef) rfl (by kernel_rfl) (by kernel_rfl) (by kernel_rfl) (fun _ _ _ h => h) (Or.inr ⟨by rfl, rfl⟩) hHeld ?_
            try simp only [Act.put, List.setIfInBounds_toArray, List.set_cons_zero, List.set_cons_succ]
            refine wpAnyH_take (i := 13) (oi := { dst := some 157, op := _, type := _, pos := _, after := _, guard := _ }) (v := undef) rfl (by kernel_rfl) (by kernel_rfl) (by kernel_rfl) (fun _ _ _ h => h) (Or.inr ⟨by rfl, rfl⟩) hHeld ?_
            try simp only [Act.put, List.setIfInBounds_toArray, List.set_cons_zero, List.set_cons_succ]
            refine wpAnyH_take (i := 14) (oi := { dst := some 158, op := _, type := _, pos := _, after := _, guard := _ }) (v := undef) rfl (by kernel_rfl) (by kernel_rfl) (by kernel_rfl) (fun _ _ _ h => h) (Or.inr ⟨by rfl, rfl⟩) hHeld ?_
            try simp only [Act.put, List.setIfInBounds_toArray, List.set_cons_zero, List.set_cons_succ]
            refine wpAnyH_take (i := 15) (oi := { dst := some 159, op := _, type := _, pos := _, after := _, guard := _ }) (v := undef) rfl (by kernel_rfl) (by kernel_rfl) (by kernel_rfl) (fun _ _ _ h => h) (Or.inr ⟨by rfl, rfl⟩) hHeld ?_
            try simp only [Act.put, List.setIfInBounds_toArray, List.set_cons_zero, List.set_cons_succ]
            refine wpAnyH_take (i := 16) (oi := { dst := some 160, op := _, type := _, pos := _, after := _, guard := _ }) (v := ?v26x17) rfl (by kernel_rfl) (by kernel_rfl) (by kernel_rfl) (fun _ _ _ h => h) (Or.inl ⟨by rfl, ?hy26x17⟩) hHeld ?rest26x17
            case hy26x17 => (intro w hSw; go_simp <;> with_reducible rfl)
            try simp only [Act.put, List.setIfInBounds_toArray, List.set_cons_zero, List.set_cons_succ]
            refine wpAnyH_done (by kernel_rfl) ?_ _
            clear hcr hcr0 dX
            have HS5 := hide (HS.out.mem hHeld)
            go_upto_region 99 with (refine wpList_storeQ rfl 27 (.tmp 2) (.tmp 161) rfl gz 27 (zeroP 0) none 0 0 none 0 0 (zeroP 0) none 0 0 none 0 0 rfl rfl (HS5.out).hz (by kernel_rfl) ?_; intro V2 bV2 BV2)
            refine bodyPost_ret (results_cell_tmp rfl rfl bV2 Try.underlying27 rfl (by kernel_rfl)) rfl ?_
            refine HOP.out _ _ ?_
            rw [hO0]
            exact ⟨rfl, ((HS5.out).ans BV2).2.below (Below.refl _ _) hwgr (Nat.le_refl _)⟩
          | false =>
            have hcr : ∀ w', Below wr.heap.size wr w' → w'.cell? ⟨gr, 1, none⟩ = some (.bool false) := fun w' h => (h.cell (p := ⟨gr, 1, none⟩) hgrl).trans hcr0
            have HPB : ∀ w', Below wr.heap.size wr w' → Blk w' gp 27 (pkVs p C nc kc S ns ks) := fun w' h => hPl.keep h
            have PM := fun W (hb : Below wr.heap.size wr W) => may_any p C nc kc S ns ks W (HM.out.keep hb) HPS.out
            by_cases hmv : mayP p = true
            case neg =>
              have hmf : mayP p = false := by rw [← Bool.not_eq_true]; exact hmv
              have hO0 : O = none := by rw [← HO.out, if_pos (Or.inr (Or.inl hmf))]
              rw [hmf] at PM
              clear hmv
              refine wp_region_held_drew (S := fun w' => Below wr.heap.size wr w') (by kernel_rfl) ?_ (fun hHeld => ?_)
              · exact (Below.refl _ _).drew
              refine wpAnyH_take (i := 0) (oi := { dst := some 144, op := _, type := _, pos := _, after := _, guard := _ }) (v := ?v27x1) rfl (by kernel_rfl) (by kernel_rfl) (by kernel_rfl) (fun _ _ _ h => h) (Or.inl ⟨by rfl, ?hy27x1⟩) hHeld ?rest27x1
              case hy27x1 => (intro w hSw; go_simp <;> with_reducible rfl)
              try simp only [Act.put, List.setIfInBounds_toArray, List.set_cons_zero, List.set_cons_succ]
              refine wpAnyH_take (i := 1) (oi := { dst := some 145, op := _, type := _, pos := _, after := _, guard := _ }) (v := ?v27x2) rfl (by kernel_rfl) (by kernel_rfl) (by kernel_rfl) (fun _ _ _ h => h) (Or.inl ⟨by rfl, ?hy27x2⟩) hHeld ?rest27x2
              case hy27x2 => (intro w hSw; go_simp <;> with_reducible rfl)
              try simp only [Act.put, List.setIfInBounds_toArray, List.set_cons_zero, List.set_cons_succ]
              refine wpAnyH_take (i := 2) (oi := { dst := some 146, op := _, type := _, pos := _, after := _, guard := _ }) (v := ?v27x3) rfl (by kernel_rfl) (by kernel_rfl) (by kernel_rfl) (fun _ _ _ h => h) (Or.inl ⟨by rfl, ?hy27x3⟩) hHeld ?rest27x3
              case hy27x3 => (intro w hSw; go_simp <;> with_reducible rfl)
              try simp only [Act.put, List.setIfInBounds_toArray, List.set_cons_zero, List.set_cons_succ]
              refine wpAnyH_take (i := 3) (oi := { dst := some 147, op := _, type := _, pos := _, after := _, guard := _ }) (v := ?v27x4) rfl (by kernel_rfl) (by kernel_rfl) (by kernel_rfl) (fun _ _ _ h => h) (Or.inl ⟨by rfl, ?hy27x4⟩) hHeld ?rest27x4
              case hy27x4 => (intro w hSw; go_simp <;> with_reducible rfl)
              try simp only [Act.put, List.setIfInBounds_toArray, List.set_cons_zero, List.set_cons_succ]
              refine wpAnyH_take (i := 4) (oi := { dst := some 148, op := _, type := _, pos := _, after := _, guard := _ }) (v := ?v27x5) rfl (by kernel_rfl) (by kernel_rfl) (by kernel_rfl) (fun _ _ _ h => h) (Or.inl ⟨by rfl, ?hy27x5⟩) hHeld ?rest27x5
              case hy27x5 => (intro w hSw; go_simp <;> with_reducible rfl)
              try simp only [Act.put, List.setIfInBounds_toArray, List.set_cons_zero, List.set_cons_succ]
              refine wpAnyH_take (i := 5) (oi := { dst := some 149, op := _, type := _, pos := _, after := _, guard := _ }) (v := ?v27x6) rfl (by kernel_rfl) (by kernel_rfl) (by kernel_rfl) (fun _ _ _ h => h) (Or.inl ⟨by rfl, ?hy27x6⟩) hHeld ?rest27x6
              case hy27x6 => (intro w hSw; refine exec_loadP 27 (.tmp 5) ?_ gp 27 p C nc kc S ns ks ?_ (HPB w hSw) Try.underlying27 ?_ ?_; rfl; rfl; rfl; kernel_rfl)
              try simp only [Act.put, List.setIfInBounds_toArray, List.set_cons_zero, List.set_cons_succ]
              refine wpAnyH_ready (rs := [6]) (by kernel_rfl) (by simp) (AllReadyH.cons (o := { dst := some 150, op := _, type := _, pos := _, after := _, guard := _ }) rfl (fun K hK => ?_) AllReadyH.nil)
              go_simp
              refine (PM _ hHeld).mono ?_
              rintro e w6 ⟨rfl, b6⟩
              have s6 := below_on hHeld b6
              go_wp2_with fail
              refine hK.out _ _ ?_ (fun hHeld => ?_)
              · exact s6
              clear hK K
              try simp only [Act.put, List.setIfInBounds_toArray, List.set_cons_zero, List.set_cons_succ]
              refine wpAnyH_take (i := 7) (oi := { dst := some 151, op := _, type := _, pos := _, after := _, guard := _ }) (v := ?v27x8) rfl (by kernel_rfl) (by kernel_rfl) (by kernel_rfl) (fun _ _ _ h => h) (Or.inl ⟨by rfl, ?hy27x8⟩) hHeld ?rest27x8
              case hy27x8 => (intro w hSw; go_simp <;> with_reducible rfl)
              try simp only [Act.put, List.setIfInBounds_toArray, List.set_cons_zero, List.set_cons_succ]
              refine wpAnyH_take (i := 8) (oi := { dst := some 152, op := _, type := _, pos := _, after := _, guard := _ }) (v := ?v27x9) rfl (by kernel_rfl) (by kernel_rfl) (by kernel_rfl) (fun _ _ _ h => h) (Or.inl ⟨by rfl, ?hy27x9⟩) hHeld ?rest27x9
              case hy27x9 => (intro w hSw; go_simp <;> with_reducible rfl)
              try simp only [Act.put, List.setIfInBounds_toArray, List.set_cons_zero, List.set_cons_succ]
              refine wpAnyH_take (i := 9) (oi := { dst := some 153, op := _, type := _, pos := _, after := _, guard := _ }) (v := ?v27x10) rfl (by kernel_rfl) (by kernel_rfl) (by kernel_rfl) (fun _ _ _ h => h) (Or.inl ⟨by rfl, ?hy27x10⟩) hHeld ?rest27x10
              case hy27x10 => (intro w hSw; go_simp <;> with_reducible rfl)
              try simp only [Act.put, List.setIfInBounds_toArray, List.set_cons_zero, List.set_cons_succ]
              refine wpAnyH_take (i := 10) (oi := { dst := some 154, op := _, type := _, pos := _, after := _, guard := _ }) (v := undef) rfl (by kernel_rfl) (by kernel_rfl) (by kernel_rfl) (fun _ _ _ h => h) (Or.inr ⟨by rfl, rfl⟩) hHeld ?_
              try simp only [Act.put, List.setIfInBounds_toArray, List.set_cons_zero, List.set_cons_succ]
              refine wpAnyH_take (i := 11) (oi := { dst := some 155, op := _, type := _, pos := _, after := _, guard := _ }) (v := undef) rfl (by kernel_rfl) (by kernel_rfl) (by kernel_rfl) (fun _ _ _ h => h) (Or.inr ⟨by rfl, rfl⟩) hHeld ?_
              try simp only [Act.put, List.setIfInBounds_toArray, List.set_cons_zero, List.set_cons_succ]
              refine wpAnyH_take (i := 12) (oi := { dst := some 156, op := _, type := _, pos := _, after := _, guard := _ }) (v := undef) rfl (by kernel_rfl) (by kernel_rfl) (by kernel_rfl) (fun _ _ _ h => h) (Or.inr ⟨by rfl, rfl⟩) hHeld ?_
              try simp only [Act.put, List.setIfInBounds_toArray, List.set_cons_zero, List.set_cons_succ]
              refine wpAnyH_take (i := 13) (oi := { dst := some 157, op := _, type := _, pos := _, after := _, guard := _ }) (v := undef) rfl (by kernel_rfl) (by kernel_rfl) (by kernel_rfl) (fun _ _ _ h => h) (Or.inr ⟨by rfl, rfl⟩) hHeld ?_
              try simp only [Act.put, List.setIfInBounds_toArray, List.set_cons_zero, List.set_cons_succ]
              refine wpAnyH_take (i := 14) (oi := { dst := some 158, op := _, type := _, pos := _, after := _, guard := _ }) (v := undef) rfl (by kernel_rfl) (by kernel_rfl) (by kernel_rfl) (fun _ _ _ h => h) (Or.inr ⟨by rfl, rfl⟩) hHeld ?_
              try simp only [Act.put, List.setIfInBounds_toArray, List.set_cons_zero, List.set_cons_succ]
              refine wpAnyH_take (i := 15) (oi := { dst := some 159, op := _, type := _, pos := _, after := _, guard := _ }) (v := undef) rfl (by kernel_rfl) (by kernel_rfl) (by kernel_rfl) (fun _ _ _ h => h) (Or.inr ⟨by rfl, rfl⟩) hHeld ?_
              try simp only [Act.put, List.setIfInBounds_toArray, List.set_cons_zero, List.set_cons_succ]
              refine wpAnyH_take (i := 16) (oi := { dst := some 160, op := _, type := _, pos := _, after := _, guard := _ }) (v := ?v27x17) rfl (by kernel_rfl) (by kernel_rfl) (by kernel_rfl) (fun _ _ _ h => h) (Or.inl ⟨by rfl, ?hy27x17⟩) hHeld ?rest27x17
              case hy27x17 => (intro w hSw; go_simp <;> with_reducible rfl)
              try simp only [Act.put, List.setIfInBounds_toArray, List.set_cons_zero, List.set_cons_succ]
              refine wpAnyH_done (by kernel_rfl) ?_ _
              clear hcr hcr0 dX HPB PM
              have HS5 := hide (HS.out.mem hHeld)
              go_upto_region 99 with (refine wpList_storeQ rfl 27 (.tmp 2) (.tmp 161) rfl gz 27 (zeroP 0) none 0 0 none 0 0 (zeroP 0) none 0 0 none 0 0 rfl rfl (HS5.out).hz (by kernel_rfl) ?_; intro V2 bV2 BV2)
              refine bodyPost_ret (results_cell_tmp rfl rfl bV2 Try.underlying27 rfl (by kernel_rfl)) rfl ?_
              refine HOP.out _ _ ?_
              rw [hO0]
              exact ⟨rfl, ((HS5.out).ans BV2).2.below (Below.refl _ _) hwgr (Nat.le_refl _)⟩
            case pos =>
            have PB := fun W (hb : Below wr.heap.size wr W) => rBytes10_any p C nc kc S ns ks W (HM.out.keep hb) HPS.out hmv
            rw [hmv] at PM
            by_cases hl : layP p = xs
            case pos =>
              have hO0 : O = some p := by rw [← HO.out, if_neg (by rw [hmv]; simp [hl])]
              rw [hl] at PB
              refine wp_region_held_drew (S := fun w' => Below wr.heap.size wr w') (by kernel_rfl) ?_ (fun hHeld => ?_)
              · exact (Below.refl _ _).drew
              refine wpAnyH_take (i := 0) (oi := { dst := some 144, op := _, type := _, pos := _, after := _, guard := _ }) (v := ?v28x1) rfl (by kernel_rfl) (by kernel_rfl) (by kernel_rfl) (fun _ _ _ h => h) (Or.inl ⟨by rfl, ?hy28x1⟩) hHeld ?rest28x1
              case hy28x1 => (intro w hSw; go_simp <;> with_reducible rfl)
              try simp only [Act.put, List.setIfInBounds_toArray, List.set_cons_zero, List.set_cons_succ]
              refine wpAnyH_take (i := 1) (oi := { dst := some 145, op := _, type := _, pos := _, after := _, guard := _ }) (v := ?v28x2) rfl (by kernel_rfl) (by kernel_rfl) (by kernel_rfl) (fun _ _ _ h => h) (Or.inl ⟨by rfl, ?hy28x2⟩) hHeld ?rest28x2
              case hy28x2 => (intro w hSw; go_simp <;> with_reducible rfl)
              try simp only [Act.put, List.setIfInBounds_toArray, List.set_cons_zero, List.set_cons_succ]
              refine wpAnyH_take (i := 2) (oi := { dst := some 146, op := _, type := _, pos := _, after := _, guard := _ }) (v := ?v28x3) rfl (by kernel_rfl) (by kernel_rfl) (by kernel_rfl) (fun _ _ _ h => h) (Or.inl ⟨by rfl, ?hy28x3⟩) hHeld ?rest28x3
              case hy28x3 => (intro w hSw; go_simp <;> with_reducible rfl)
              try simp only [Act.put, List.setIfInBounds_toArray, List.set_cons_zero, List.set_cons_succ]
              refine wpAnyH_take (i := 3) (oi := { dst := some 147, op := _, type := _, pos := _, after := _, guard := _ }) (v := ?v28x4) rfl (by kernel_rfl) (by kernel_rfl) (by kernel_rfl) (fun _ _ _ h => h) (Or.inl ⟨by rfl, ?hy28x4⟩) hHeld ?rest28x4
              case hy28x4 => (intro w hSw; go_simp <;> with_reducible rfl)
              try simp only [Act.put, List.setIfInBounds_toArray, List.set_cons_zero, List.set_cons_succ]
              refine wpAnyH_take (i := 4) (oi := { dst := some 148, op := _, type := _, pos := _, after := _, guard := _ }) (v := ?v28x5) rfl (by kernel_rfl) (by kernel_rfl) (by kernel_rfl) (fun _ _ _ h => h) (Or.inl ⟨by rfl, ?hy28x5⟩) hHeld ?rest28x5
              case hy28x5 => (intro w hSw; go_simp <;> with_reducible rfl)
              try simp only [Act.put, List.setIfInBounds_toArray, List.set_cons_zero, List.set_cons_succ]
              refine wpAnyH_take (i := 5) (oi := { dst := some 149, op := _, type := _, pos := _, after := _, guard := _ }) (v := ?v28x6) rfl (by kernel_rfl) (by kernel_rfl) (by kernel_rfl) (fun _ _ _ h => h) (Or.inl ⟨by rfl, ?hy28x6⟩) hHeld ?rest28x6
              case hy28x6 => (intro w hSw; refine exec_loadP 27 (.tmp 5) ?_ gp 27 p C nc kc S ns ks ?_ (HPB w hSw) Try.underlying27 ?_ ?_; rfl; rfl; rfl; kernel_rfl)
              try simp only [Act.put, List.setIfInBounds_toArray, List.set_cons_zero, List.set_cons_succ]
              refine wpAnyH_ready (rs := [6]) (by kernel_rfl) (by simp) (AllReadyH.cons (o := { dst := some 150, op := _, type := _, pos := _, after := _, guard := _ }) rfl (fun K hK => ?_) AllReadyH.nil)
              go_simp
              refine (PM _ hHeld).mono ?_
              rintro e w6 ⟨rfl, b6⟩
              have s6 := below_on hHeld b6
              have dX6 : ∀ w', Below w6.heap.size w6 w' → ∀ c, (convert 31 9 (.slice (some ⟨bA, oA, none⟩) n c)).run Try.prog w' = .ok (.string (str xs)) w' := fun w' h => dX w' (below_on s6 h)
              go_wp2_with fail
              refine hK.out _ _ ?_ (fun hHeld => ?_)
              · exact below_on hHeld b6
              clear hK K
              try simp only [Act.put, List.setIfInBounds_toArray, List.set_cons_zero, List.set_cons_succ]
              refine wpAnyH_strong (S' := fun w' => Below w6.heap.size w6 w') (by intro w' h; exact below_on hHeld h) ?_
              replace hHeld : (fun w' => Below w6.heap.size w6 w') _ := Below.refl _ _
              refine wpAnyH_take (i := 7) (oi := { dst := some 151, op := _, type := _, pos := _, after := _, guard := _ }) (v := ?v28x8) rfl (by kernel_rfl) (by kernel_rfl) (by kernel_rfl) (fun _ _ _ h => h) (Or.inl ⟨by rfl, ?hy28x8⟩) hHeld ?rest28x8
              case hy28x8 => (intro w hSw; go_simp <;> with_reducible rfl)
              try simp only [Act.put, List.setIfInBounds_toArray, List.set_cons_zero, List.set_cons_succ]
              refine wpAnyH_take (i := 8) (oi := { dst := some 152, op := _, type := _, pos := _, after := _, guard := _ }) (v := ?v28x9) rfl (by kernel_rfl) (by kernel_rfl) (by kernel_rfl) (fun _ _ _ h => h) (Or.inl ⟨by rfl, ?hy28x9⟩) hHeld ?rest28x9
              case hy28x9 => (intro w hSw; go_simp <;> with_reducible rfl)
              try simp only [Act.put, List.setIfInBounds_toArray, List.set_cons_zero, List.set_cons_succ]
              refine wpAnyH_take (i := 9) (oi := { dst := some 153, op := _, type := _, pos := _, after := _, guard := _ }) (v := ?v28x10) rfl (by kernel_rfl) (by kernel_rfl) (by kernel_rfl) (fun _ _ _ h => h) (Or.inl ⟨by rfl, ?hy28x10⟩) hHeld ?rest28x10
              case hy28x10 => (intro w hSw; go_simp <;> with_reducible rfl)
              try simp only [Act.put, List.setIfInBounds_toArray, List.set_cons_zero, List.set_cons_succ]
              refine wpAnyH_take (i := 10) (oi := { dst := some 154, op := _, type := _, pos := _, after := _, guard := _ }) (v := ?v28x11) rfl (by kernel_rfl) (by kernel_rfl) (by kernel_rfl) (fun _ _ _ h => h) (Or.inl ⟨by rfl, ?hy28x11⟩) hHeld ?rest28x11
              case hy28x11 => (intro w hSw; refine exec_loadP 27 (.tmp 5) ?_ gp 27 p C nc kc S ns ks ?_ (HPB w (below_on s6 hSw)) Try.underlying27 ?_ ?_; rfl; rfl; rfl; kernel_rfl)
              try simp only [Act.put, List.setIfInBounds_toArray, List.set_cons_zero, List.set_cons_succ]
              refine wpAnyH_take (i := 13) (oi := { dst := some 157, op := _, type := _, pos := _, after := _, guard := _ }) (v := ?v28x12) rfl (by kernel_rfl) (by kernel_rfl) (by kernel_rfl) (fun _ _ _ h => h) (Or.inl ⟨by rfl, ?hy28x12⟩) hHeld ?rest28x12
              case hy28x12 => (intro w hSw; go_simp <;> with_reducible rfl)
              try simp only [Act.put, List.setIfInBounds_toArray, List.set_cons_zero, List.set_cons_succ]
              refine wpAnyH_take (i := 14) (oi := { dst := some 158, op := _, type := _, pos := _, after := _, guard := _ }) (v := ?v28x13) rfl (by kernel_rfl) (by kernel_rfl) (by kernel_rfl) (fun _ _ _ h => h) (Or.inl ⟨by rfl, ?hy28x13⟩) hHeld ?rest28x13
              case hy28x13 => (intro w hSw; go_simp <;> with_reducible rfl)
              try simp only [Act.put, List.setIfInBounds_toArray, List.set_cons_zero, List.set_cons_succ]
              refine wpAnyH_ready (rs := [11]) (by kernel_rfl) (by simp) (AllReadyH.cons (o := { dst := some 155, op := _, type := _, pos := _, after := _, guard := _ }) rfl (fun K hK => ?_) AllReadyH.nil)
              go_simp
              refine (PB _ (below_on s6 hHeld)).mono ?_
              rintro e w7 ⟨G, gk, rfl, hgk, r7, b7⟩
              have s7 := below_on s6 (below_on hHeld b7)
              have dG := strOn r7
              have dX7 : ∀ w', Below w7.heap.size w7 w' → ∀ c, (convert 31 9 (.slice (some ⟨bA, oA, none⟩) n c)).run Try.prog w' = .ok (.string (str xs)) w' := fun w' h => dX w' (below_on s7 h)
              clear dX6
              go_wp2_with fail
              refine hK.out _ _ ?_ (fun hHeld => ?_)
              · exact below_on hHeld b7
              clear hK K
              try simp only [Act.put, List.setIfInBounds_toArray, List.set_cons_zero, List.set_cons_succ]
              refine wpAnyH_strong (S' := fun w' => Below w7.heap.size w7 w') (by intro w' h; exact below_on hHeld h) ?_
              replace hHeld : (fun w' => Below w7.heap.size w7 w') _ := Below.refl _ _
              refine wpAnyH_take (i := 12) (oi := { dst := some 156, op := _, type := _, pos := _, after := _, guard := _ }) (v := ?v28x15) rfl (by kernel_rfl) (by kernel_rfl) (by kernel_rfl) (fun _ _ _ h => h) (Or.inl ⟨by rfl, ?hy28x15⟩) hHeld ?rest28x15
              case hy28x15 => (intro w hSw; go_simp <;> with_reducible rfl)
              try simp only [Act.put, List.setIfInBounds_toArray, List.set_cons_zero, List.set_cons_succ]
              refine wpAnyH_take (i := 15) (oi := { dst := some 159, op := _, type := _, pos := _, after := _, guard := _ }) (v := ?v28x16) rfl (by kernel_rfl) (by kernel_rfl) (by kernel_rfl) (fun _ _ _ h => h) (Or.inl ⟨by rfl, ?hy28x16⟩) hHeld ?rest28x16
              case hy28x16 => (intro w hSw; go_simp <;> with_reducible rfl)
              try simp only [Act.put, List.setIfInBounds_toArray, List.set_cons_zero, List.set_cons_succ]
              refine wpAnyH_take (i := 16) (oi := { dst := some 160, op := _, type := _, pos := _, after := _, guard := _ }) (v := ?v28x17) rfl (by kernel_rfl) (by kernel_rfl) (by kernel_rfl) (fun _ _ _ h => h) (Or.inl ⟨by rfl, ?hy28x17⟩) hHeld ?rest28x17
              case hy28x17 => (intro w hSw; go_simp <;> with_reducible rfl)
              try simp only [Act.put, List.setIfInBounds_toArray, List.set_cons_zero, List.set_cons_succ]
              refine wpAnyH_done (by kernel_rfl) ?_ _
              have hbel := below_on s7 hHeld
              clear hcr hcr0 dX HPB PM PB dG dX7
              have HS5 := hide (HS.out.mem hbel)
              have HM5 := hide (HM.out.keep hbel)
              go_upto_region 99 with (first
                | (refine wpList_loadP rfl 27 (.tmp 5) rfl gp 27 p C nc kc S ns ks rfl HS5.out.hp Try.underlying27 rfl (by kernel_rfl) ?_)
                | (refine wpList_storeQ rfl 27 (.tmp 2) (.tmp 162) rfl gz 27 (zeroP 0) none 0 0 none 0 0 p C nc kc S ns ks rfl rfl HS5.out.hz (by kernel_rfl) ?_; intro V2 bV2 BV2))
              refine bodyPost_ret (results_cell_tmp rfl rfl bV2 Try.underlying27 rfl (by kernel_rfl)) rfl ?_
              refine HOP.out _ _ ?_
              rw [hO0]
              exact ⟨C, nc, kc, S, ns, ks, rfl, HN.out.1, HN.out.2, PkM_but HM5.out BV2 HOF.out.1 HOF.out.2, (HS5.out.ans BV2).2.below (Below.refl _ _) hwgr (Nat.le_refl _)⟩
            case neg =>
              have hO0 : O = none := by rw [← HO.out, if_pos (Or.inr (Or.inr hl))]
              have hlb : (layP p == xs) = false := by rw [beq_eq_false_iff_ne]; exact hl
              clear hl
              refine wp_region_held_drew (S := fun w' => Below wr.heap.size wr w') (by kernel_rfl) ?_ (fun hHeld => ?_)
              · exact (Below.refl _ _).drew
              refine wpAnyH_take (i := 0) (oi := { dst := some 144, op := _, type := _, pos := _, after := _, guard := _ }) (v := ?v29x1) rfl (by kernel_rfl) (by kernel_rfl) (by kernel_rfl) (fun _ _ _ h => h) (Or.inl ⟨by rfl, ?hy29x1⟩) hHeld ?rest29x1
              case hy29x1 => (intro w hSw; go_simp <;> with_reducible rfl)
              try simp only [Act.put, List.setIfInBounds_toArray, List.set_cons_zero, List.set_cons_succ]
              refine wpAnyH_take (i := 1) (oi := { dst := some 145, op := _, type := _, pos := _, after := _, guard := _ }) (v := ?v29x2) rfl (by kernel_rfl) (by kernel_rfl) (by kernel_rfl) (fun _ _ _ h => h) (Or.inl ⟨by rfl, ?hy29x2⟩) hHeld ?rest29x2
              case hy29x2 => (intro w hSw; go_simp <;> with_reducible rfl)
              try simp only [Act.put, List.setIfInBounds_toArray, List.set_cons_zero, List.set_cons_succ]
              refine wpAnyH_take (i := 2) (oi := { dst := some 146, op := _, type := _, pos := _, after := _, guard := _ }) (v := ?v29x3) rfl (by kernel_rfl) (by kernel_rfl) (by kernel_rfl) (fun _ _ _ h => h) (Or.inl ⟨by rfl, ?hy29x3⟩) hHeld ?rest29x3
              case hy29x3 => (intro w hSw; go_simp <;> with_reducible rfl)
              try simp only [Act.put, List.setIfInBounds_toArray, List.set_cons_zero, List.set_cons_succ]
              refine wpAnyH_take (i := 3) (oi := { dst := some 147, op := _, type := _, pos := _, after := _, guard := _ }) (v := ?v29x4) rfl (by kernel_rfl) (by kernel_rfl) (by kernel_rfl) (fun _ _ _ h => h) (Or.inl ⟨by rfl, ?hy29x4⟩) hHeld ?rest29x4
              case hy29x4 => (intro w hSw; go_simp <;> with_reducible rfl)
              try simp only [Act.put, List.setIfInBounds_toArray, List.set_cons_zero, List.set_cons_succ]
              refine wpAnyH_take (i := 4) (oi := { dst := some 148, op := _, type := _, pos := _, after := _, guard := _ }) (v := ?v29x5) rfl (by kernel_rfl) (by kernel_rfl) (by kernel_rfl) (fun _ _ _ h => h) (Or.inl ⟨by rfl, ?hy29x5⟩) hHeld ?rest29x5
              case hy29x5 => (intro w hSw; go_simp <;> with_reducible rfl)
              try simp only [Act.put, List.setIfInBounds_toArray, List.set_cons_zero, List.set_cons_succ]
              refine wpAnyH_take (i := 5) (oi := { dst := some 149, op := _, type := _, pos := _, after := _, guard := _ }) (v := ?v29x6) rfl (by kernel_rfl) (by kernel_rfl) (by kernel_rfl) (fun _ _ _ h => h) (Or.inl ⟨by rfl, ?hy29x6⟩) hHeld ?rest29x6
              case hy29x6 => (intro w hSw; refine exec_loadP 27 (.tmp 5) ?_ gp 27 p C nc kc S ns ks ?_ (HPB w hSw) Try.underlying27 ?_ ?_; rfl; rfl; rfl; kernel_rfl)
              try simp only [Act.put, List.setIfInBounds_toArray, List.set_cons_zero, List.set_cons_succ]
              refine wpAnyH_ready (rs := [6]) (by kernel_rfl) (by simp) (AllReadyH.cons (o := { dst := some 150, op := _, type := _, pos := _, after := _, guard := _ }) rfl (fun K hK => ?_) AllReadyH.nil)
              go_simp
              refine (PM _ hHeld).mono ?_
              rintro e w6 ⟨rfl, b6⟩
              have s6 := below_on hHeld b6
              have dX6 : ∀ w', Below w6.heap.size w6 w' → ∀ c, (convert 31 9 (.slice (some ⟨bA, oA, none⟩) n c)).run Try.prog w' = .ok (.string (str xs)) w' := fun w' h => dX w' (below_on s6 h)
              go_wp2_with fail
              refine hK.out _ _ ?_ (fun hHeld => ?_)
              · exact below_on hHeld b6
              clear hK K
              try simp only [Act.put, List.setIfInBounds_toArray, List.set_cons_zero, List.set_cons_succ]
              refine wpAnyH_strong (S' := fun w' => Below w6.heap.size w6 w') (by intro w' h; exact below_on hHeld h) ?_
              replace hHeld : (fun w' => Below w6.heap.size w6 w') _ := Below.refl _ _
              refine wpAnyH_take (i := 7) (oi := { dst := some 151, op := _, type := _, pos := _, after := _, guard := _ }) (v := ?v29x8) rfl (by kernel_rfl) (by kernel_rfl) (by kernel_rfl) (fun _ _ _ h => h) (Or.inl ⟨by rfl, ?hy29x8⟩) hHeld ?rest29x8
              case hy29x8 => (intro w hSw; go_simp <;> with_reducible rfl)
              try simp only [Act.put, List.setIfInBounds_toArray, List.set_cons_zero, List.set_cons_succ]
              refine wpAnyH_take (i := 8) (oi := { dst := some 152, op := _, type := _, pos := _, after := _, guard := _ }) (v := ?v29x9) rfl (by kernel_rfl) (by kernel_rfl) (by kernel_rfl) (fun _ _ _ h => h) (Or.inl ⟨by rfl, ?hy29x9⟩) hHeld ?rest29x9
              case hy29x9 => (intro w hSw; go_simp <;> with_reducible rfl)
              try simp only [Act.put, List.setIfInBounds_toArray, List.set_cons_zero, List.set_cons_succ]
              refine wpAnyH_take (i := 9) (oi := { dst := some 153, op := _, type := _, pos := _, after := _, guard := _ }) (v := ?v29x10) rfl (by kernel_rfl) (by kernel_rfl) (by kernel_rfl) (fun _ _ _ h => h) (Or.inl ⟨by rfl, ?hy29x10⟩) hHeld ?rest29x10
              case hy29x10 => (intro w hSw; go_simp <;> with_reducible rfl)
              try simp only [Act.put, List.setIfInBounds_toArray, List.set_cons_zero, List.set_cons_succ]
              refine wpAnyH_take (i := 10) (oi := { dst := some 154, op := _, type := _, pos := _, after := _, guard := _ }) (v := ?v29x11) rfl (by kernel_rfl) (by kernel_rfl) (by kernel_rfl) (fun _ _ _ h => h) (Or.inl ⟨by rfl, ?hy29x11⟩) hHeld ?rest29x11
              case hy29x11 => (intro w hSw; refine exec_loadP 27 (.tmp 5) ?_ gp 27 p C nc kc S ns ks ?_ (HPB w (below_on s6 hSw)) Try.underlying27 ?_ ?_; rfl; rfl; rfl; kernel_rfl)
              try simp only [Act.put, List.setIfInBounds_toArray, List.set_cons_zero, List.set_cons_succ]
              refine wpAnyH_take (i := 13) (oi := { dst := some 157, op := _, type := _, pos := _, after := _, guard := _ }) (v := ?v29x12) rfl (by kernel_rfl) (by kernel_rfl) (by kernel_rfl) (fun _ _ _ h => h) (Or.inl ⟨by rfl, ?hy29x12⟩) hHeld ?rest29x12
              case hy29x12 => (intro w hSw; go_simp <;> with_reducible rfl)
              try simp only [Act.put, List.setIfInBounds_toArray, List.set_cons_zero, List.set_cons_succ]
              refine wpAnyH_take (i := 14) (oi := { dst := some 158, op := _, type := _, pos := _, after := _, guard := _ }) (v := ?v29x13) rfl (by kernel_rfl) (by kernel_rfl) (by kernel_rfl) (fun _ _ _ h => h) (Or.inl ⟨by rfl, ?hy29x13⟩) hHeld ?rest29x13
              case hy29x13 => (intro w hSw; go_simp <;> with_reducible rfl)
              try simp only [Act.put, List.setIfInBounds_toArray, List.set_cons_zero, List.set_cons_succ]
              refine wpAnyH_ready (rs := [11]) (by kernel_rfl) (by simp) (AllReadyH.cons (o := { dst := some 155, op := _, type := _, pos := _, after := _, guard := _ }) rfl (fun K hK => ?_) AllReadyH.nil)
              go_simp
              refine (PB _ (below_on s6 hHeld)).mono ?_
              rintro e w7 ⟨G, gk, rfl, hgk, r7, b7⟩
              have s7 := below_on s6 (below_on hHeld b7)
              have dG := strOn r7
              have dX7 : ∀ w', Below w7.heap.size w7 w' → ∀ c, (convert 31 9 (.slice (some ⟨bA, oA, none⟩) n c)).run Try.prog w' = .ok (.string (str xs)) w' := fun w' h => dX w' (below_on s7 h)
              clear dX6
              go_wp2_with fail
              refine hK.out _ _ ?_ (fun hHeld => ?_)
              · exact below_on hHeld b7
              clear hK K
              try simp only [Act.put, List.setIfInBounds_toArray, List.set_cons_zero, List.set_cons_succ]
              refine wpAnyH_strong (S' := fun w' => Below w7.heap.size w7 w') (by intro w' h; exact below_on hHeld h) ?_
              replace hHeld : (fun w' => Below w7.heap.size w7 w') _ := Below.refl _ _
              refine wpAnyH_take (i := 12) (oi := { dst := some 156, op := _, type := _, pos := _, after := _, guard := _ }) (v := ?v29x15) rfl (by kernel_rfl) (by kernel_rfl) (by kernel_rfl) (fun _ _ _ h => h) (Or.inl ⟨by rfl, ?hy29x15⟩) hHeld ?rest29x15
              case hy29x15 => (intro w hSw; go_simp <;> with_reducible rfl)
              try simp only [Act.put, List.setIfInBounds_toArray, List.set_cons_zero, List.set_cons_succ]
              refine wpAnyH_take (i := 15) (oi := { dst := some 159, op := _, type := _, pos := _, after := _, guard := _ }) (v := ?v29x16) rfl (by kernel_rfl) (by kernel_rfl) (by kernel_rfl) (fun _ _ _ h => h) (Or.inl ⟨by rfl, ?hy29x16⟩) hHeld ?rest29x16
              case hy29x16 => (intro w hSw; go_simp <;> with_reducible rfl)
              try simp only [Act.put, List.setIfInBounds_toArray, List.set_cons_zero, List.set_cons_succ]
              refine wpAnyH_take (i := 16) (oi := { dst := some 160, op := _, type := _, pos := _, after := _, guard := _ }) (v := ?v29x17) rfl (by kernel_rfl) (by kernel_rfl) (by kernel_rfl) (fun _ _ _ h => h) (Or.inl ⟨by rfl, ?hy29x17⟩) hHeld ?rest29x17
              case hy29x17 => (intro w hSw; go_simp <;> with_reducible rfl)
              try simp only [Act.put, List.setIfInBounds_toArray, List.set_cons_zero, List.set_cons_succ]
              refine wpAnyH_done (by kernel_rfl) ?_ _
              have hbel := below_on s7 hHeld
              clear hcr hcr0 dX HPB PM PB dG dX7
              have HS5 := hide (HS.out.mem hbel)
              go_upto_region 99 with (refine wpList_storeQ rfl 27 (.tmp 2) (.tmp 161) rfl gz 27 (zeroP 0) none 0 0 none 0 0 (zeroP 0) none 0 0 none 0 0 rfl rfl (HS5.out).hz (by kernel_rfl) ?_; intro V2 bV2 BV2)
              refine bodyPost_ret (results_cell_tmp rfl rfl bV2 Try.underlying27 rfl (by kernel_rfl)) rfl ?_
              refine HOP.out _ _ ?_
              rw [hO0]
              exact ⟨rfl, ((HS5.out).ans BV2).2.below (Below.refl _ _) hwgr (Nat.le_refl _)⟩
        | false =>
          obtain ⟨k', rfl⟩ : ∃ k', gk = k' + 1 := ⟨gk - 1, by simp at hlk; omega⟩
          have hlt := rT_lt (c :: zt, false) (by simp)
          obtain ⟨fl, hfl⟩ : ∃ fl, (rT (c :: zt, false)).1 = fl := ⟨_, rfl⟩
          obtain ⟨s2, hs2⟩ : ∃ s2, (rT (c :: zt, false)).2 = s2 := ⟨_, rfl⟩
          rw [hs2] at hlt
          simp only [List.length_cons] at hlt hlk hdl
          have PT1 := fun W (hW : RdL w.heap.size W gr (c :: zt, false)) => PT.out W (c :: zt, false) hW (by simp; omega)
          rw [hfl, hs2] at PT1
          obtain ⟨nd, hnd⟩ : ∃ nd, dn.length = nd := ⟨_, rfl⟩
          rw [hnd] at HS HO2 hdl
          have Hnd := hide hnd
          obtain ⟨q, hq⟩ : ∃ q : Nat, 0 = q := ⟨_, rfl⟩
          obtain ⟨s3, hs3⟩ : ∃ s3, s2 = s3 := ⟨_, rfl⟩
          have hl3 : s3.1.length ≤ s2.1.length := by rw [← hs3]; exact Nat.le_refl _
          have hun : subsR 10 (k' + 1) (c :: zt, false) = ((fl, (q : Int)) :: (subsR 10 k' s3).1, (subsR 10 k' s3).2) := by
            rw [subsR_go10 _ _ ⟨by simp, rfl⟩, hfl, hs2, ← hq, hs3]
            rfl
          have HAl := hide (show dn ++ (fl, (q : Int)) :: (subsR 10 k' s3).1 = all by have := HAl.out; rw [hun] at this; exact this)
          have HSE := hide (show (subsR 10 k' s3).2 = s by have := HSE.out; rw [hun] at this; exact this)
          have Hq := hide hq
          have Hs3 := hide hs3
          clear hun hq hs3
          clear hBr3 hnd hfl hs2
          go_upto_region 33 with (go_at_call 45; refine (PT1 _ HS.out.hr).mono ?_; rintro e V5 ⟨rfl, r5, a5⟩; have HS5 := hide (HS.out.call r5 a5); have HO5 := hide (ownS_but HO2.out a5.1 (fun b o e h => (HOff.out b o e).2.1 h)))
          clear cr cb
          have hb5 := (Below.refl V5.heap.size V5).alloc (Nat.le_refl _) (.cells (arr [.string (str fl), .int .i64 0]) 59)
          have hgs := Blk.new V5 59 [.string (str fl), .int .i64 0]
          have hgp5 := HS5.out.hp.lt
          have hgz5 := HS5.out.hz.lt
          have hgr5 : gr < V5.heap.size := by obtain ⟨A9, k9, hB9, -⟩ := HS5.out.hr; exact hB9.lt
          have hw5 : w.heap.size ≤ V5.heap.size := HS5.out.aft.1.size
          have hS5 : ∀ b o, S = some ⟨b, o, none⟩ → b < V5.heap.size := fun b o e => ownS_lt HO5.out b o e
          generalize hV6 : V5.alloc _ = V6
          have hV6' : V5.alloc (.cells (arr [.string (str fl), .int .i64 0]) 59) = V6 := hV6
          rw [hV6'] at hb5 hgs
          have HS6 := hide (HS5.out.mem hb5)
          have HO6 := hide (ownS_keep HO5.out hb5)
          obtain ⟨gs, hgse⟩ : ∃ gs, V5.heap.size = gs := ⟨_, rfl⟩
          rw [hgse] at hgs hgp5 hgz5 hgr5 hw5 hS5 ⊢
          have HG := hide hgs
          have c0 : V6.cell? ⟨gp, 0, none⟩ = some (.int .i64 10) := HS6.out.hp.cell 0
          clear hV6 hV6' hb5 hgs hgse a5 r5 HS5 HO5
          obtain rfl := Hq.out
          obtain rfl := Hs3.out
          go_upto_region 35 with fail
          obtain ⟨q, hq⟩ : ∃ q : Nat, 0 = q := ⟨_, rfl⟩
          have hqi : (0 : Int) = (q : Int) := by rw [← hq]; rfl
          have HS8 := HS6
          have HO8 := HO6
          have HG8 : Hid (Blk V6 gs 59 [.string (str fl), .int .i64 (q : Int)]) := hide (by rw [← hqi]; exact HG.out)
          have HAl : Hid (dn ++ (fl, (q : Int)) :: (subsR 10 k' s2).1 = all) := hide (by rw [← hqi]; exact HAl.out)
          clear c0 hq hqi
          have c17 : V6.cell? ⟨gp, 17, none⟩ = some (.slice S nd ks) := HS8.out.hp.cell 17
          have g0 : V6.cell? ⟨gs, 0, none⟩ = some (.string (str fl)) := HG8.out.cell 0
          have g1 : V6.cell? ⟨gs, 1, none⟩ = some (.int .i64 (q : Int)) := HG8.out.cell 1
          have hbs := (Below.refl V6.heap.size V6).alloc (Nat.le_refl _) (.cells (arr (subVs [(fl, (q : Int))])) 59)
          have HS9 := hide (HS8.out.mem hbs)
          have hw8 : w.heap.size ≤ V6.heap.size := HS8.out.aft.1.size
          go_wp2_with (at_builtin; refine wpList_appS rfl (.tmp 121) (.tmp 123) 25 rfl 59 _ 2 24 Try.underlying25 sub_info10 rfl (by omega) w.heap.size S nd ks (subVs dn) rfl (ownS_keep HO8.out hbs) _ 1 1 (subVs [(fl, (q : Int))]) rfl (Blk.new V6 59 (subVs [(fl, (q : Int))])).rd (subVs_one _) (by unfold maxLen; omega) (by omega) (Nat.le_trans hw8 hbs.size) ?_; intro A9 c9 w9 o9 b9 h9; rw [← subVs_append] at o9; have HSX := hide (HS9.out.row b9 (fun i ⟨o, e⟩ => ⟨hSn i o e, hSn i o e, (HOff.out i o e).1, (HOff.out i o e).2.1, (HOff.out i o e).2.2⟩)); have c9x : w9.cell? ⟨gp, 17, none⟩ = some (.slice S nd ks) := HSX.out.hp.cell 17; have f9x := HSX.out.hp.frozen; have O9 := hide o9; have H9 := hide h9; clear o9 b9 h9 c17 g0 g1)
          go_roundg k'
          case measure => omega
          case rel =>
            have hset : But (fun i => i = gp) w9 (w9.setCell ⟨gp, 17, none⟩ (.slice A9 (nd + 1) c9)) := But.setCell w9 _ rfl
            have hoff9 : ∀ b o, A9 = some ⟨b, o, none⟩ → b ≠ gp ∧ b ≠ gr ∧ b ≠ gz := fun b o e => by
              rcases H9.out with rfl | h9
              · exact HOff.out b o e
              · have h1 : (V6.alloc (.cells (arr (subVs [(fl, (q : Int))])) 59)).heap.size ≤ b := h9 b o e
                have h2 := HS9.out.hp.lt
                have h3 := HS9.out.hz.lt
                obtain ⟨A8, k8, hB8, -⟩ := HS9.out.hr
                have h4 := hB8.lt
                omega
            have hln : (dn ++ [(fl, (q : Int))]).length = nd + 1 := by rw [List.length_append, Hnd.out]; rfl
            refine ⟨dn ++ [(fl, (q : Int))], A9, c9, s2, by rw [List.append_assoc]; exact HAl.out, HSE.out, by omega, by rw [hln]; omega, ?_, ?_, hoff9⟩
            · rw [hln]
              exact HSX.out.put (p' := ⟨10, false, (id : Int), [], [], 0, false, [], false, 0, false, false, false, [], [], false, [], dn ++ [(fl, (q : Int))]⟩) (HSX.out.hp.set 17 (.slice A9 (nd + 1) c9)) hset
            · rw [hln]
              exact ownS_but O9.out hset (fun b o e h => (hoff9 b o e).1 h)

end Go.Proofs.Ytdlhcecmodefkaa
