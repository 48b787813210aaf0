/-
  What is proved here: what the document's own Parse of layer 10 returns for bytes of the types 4 to 7, 11. Condition: at most 65535 bytes.
-/
import Derived.Test.YtdlhcecmodefkaaPkR2
import Derived.Test.YtdlhcecmodefkaaPk10
import Derived.Test.YtdlhcecmodefkaaPk11
import Derived.Test.YtdlhcecmodefkaaPrMath
import Derived.Test.YtdlhcecmodefkaaVt4
namespace Go.Proofs.Ytdlhcecmodefkaa
set_option linter.unusedVariables false
set_option linter.unusedSimpArgs false
open Go.RowKit

/-- What Parse returns. -/
def RpPost (o : Option Pk) (w : World) (e : Ending) (w' : World) : Prop := match o with
  | none => e = .returned (.tuple #[pkA (zeroP 0) none 0 0 none 0 0, .bool false]) ∧ Below w.heap.size w w'
  | some p => ∃ C nc kc S ns ks, e = .returned (.tuple #[pkA p C nc kc S ns ks, .bool true]) ∧ NewAt w C ∧ NewAt w S ∧ PkM w' p C nc kc S ns ks ∧ Below w.heap.size w w'

theorem PkM_but {w w' : World} {p : Pk} {C : Option Addr} {nc kc : Nat} {S : Option Addr} {ns ks g : Nat} (h : PkM w p C nc kc S ns ks) (b : But (fun i => i = g) w w') (hC : 0 < nc → Off (fun i => i = g) C) (hS : 0 < ns → Off (fun i => i = g) S) : PkM w' p C nc kc S ns ks := by
  obtain ⟨m1, m2, m3, m4, m5, m6⟩ := h
  exact ⟨m1, m2, ⟨m3.1, fun hn => (m3.but b (hC hn)).2 hn⟩, m4, m5, ⟨m6.1, fun hn => (m6.but b (hS (by omega))).2 hn⟩⟩
theorem pkM00 (w : World) (p : Pk) (h1 : p.codes = []) (h2 : p.subs = []) : PkM w p none 0 0 none 0 0 := by
  refine ⟨by rw [h1]; rfl, Nat.le_refl _, by rw [h1]; exact Rd.nil _ _, by rw [h2]; rfl, Nat.le_refl _, by rw [h2]; exact Rd.nil _ _⟩

set_option maxRecDepth 100000 in
set_option maxHeartbeats 8000000 in
theorem rparse4 (A : Option Addr) (n k : Nat) (xs : List UInt8) (w : World) (f a b : Nat) (hR : Rd w A n (bv xs)) (hx : xs.length = n) (hk : n ≤ k) (h65 : n ≤ 65535) (h2 : 2 ≤ n) (hf : (xs.headD 0).toNat = f) (hA : atR xs 1 = (a, b, 0)) (ht : f / 16 = 4 ∨ f / 16 = 5 ∨ f / 16 = 6 ∨ f / 16 = 7 ∨ f / 16 = 11) :
    Calls Try.prog 17 #[.slice A n k] w (RpPost (readP xs) w) := by
  have HR := hide hR
  have Hx := hide hx
  have Hf := hide hf
  have HA := hide hA
  have hb := atR_putQ xs 1 (by rw [hA])
  rw [hA] at hb
  obtain ⟨j, hj1, hj2, hj3, hbj, -, -⟩ := hb
  simp only at hbj
  have hbn : b ≤ n := by omega
  have hb63 : b ≤ 65535 := by omega
  obtain ⟨CA, hCA⟩ : ∃ CA, cutA A b k = CA := ⟨_, rfl⟩
  have HTL := hide (show ∀ W, Below w.heap.size w W → Rd W CA (n - b) (bv (xs.drop b)) from fun W bb => by rw [← hCA, ← bv_drop]; exact (hR.keep bb).tail b k hbn hk)
  have PA := fun W (hW : Rd W A n (bv xs)) => rvAt_any A n k 1 xs W hW (by unfold maxLen; omega) hx (by omega)
  rw [hA] at PA
  have hsl := fun W => run_slTail (P := Try.prog) 31 5 Try.underlying31 u8_size A n k (b : Int) b rfl (by omega) W
  rw [hCA] at hsl
  obtain ⟨bA, oA, hAe, hbl, hcell⟩ := hR.at_ (k := 0) (by omega)
  have HCL := hide (show ∀ a, CA = some a → a.block < w.heap.size from by rw [← hCA]; exact cutA_loc (fun a e => by rw [hAe] at e; injection e with e; rw [← e]; exact hbl) b k)
  obtain ⟨c, tl, hxc⟩ : ∃ c tl, xs = c :: tl := by cases xs with | nil => simp at hx; omega | cons c tl => exact ⟨c, tl, rfl⟩
  have hcf : c.toNat = f := by rw [← hf, hxc]; rfl
  have HC := hide (show ∀ W, Below w.heap.size w W → W.cell? ⟨bA, oA, none⟩ = some (.int .u8 (f : Int)) from fun W bb => by
    have h0 : w.cell? ⟨bA, oA + 0, none⟩ = some (.int .u8 (c.toNat : Int)) := hcell 0 _ (by rw [hxc]; rfl)
    rw [hcf] at h0
    exact (bb.cell (p := ⟨bA, oA, none⟩) hbl).trans h0)
  have hf255 : f ≤ 255 := by have := c.toNat_lt; omega
  obtain ⟨t, ht16⟩ : ∃ t, f / 16 = t := ⟨_, rfl⟩
  rw [ht16] at ht
  have hq16 : (f : Int) / 16 = (t : Int) := by omega
  have Ht16 := hide ht16
  have Ht := hide ht
  subst hAe
  have qn2 : ¬ (n : Int) < 2 := by omega
  clear hR hx hf hA hj1 hj2 hj3 hbj hCA hcell hxc hcf ht ht16
  go_enter Try.func17, Try.ntmps17
  go_upto_region 1 with fail
  generalize hW : w.alloc _ = W
  obtain ⟨gz, hgz, hBz, bW, hsz⟩ := boxedP (p := zeroP 0) (C := none) (nc := 0) (kc := 0) (S := none) (ns := 0) (ks := 0) hW
  have bw : Below w.heap.size w W := by rw [hgz]; exact bW
  rw [hgz]
  have HZ := hide hBz
  have BW := hide bw
  have Hgz := hide hgz
  have cc := HC.out W bw
  have hzl : gz < W.heap.size := hBz.lt
  clear hW hBz bW bw hsz hgz
  go_upto_region 5 with (refine wpList_storeQ rfl 27 (.tmp 5) (.tmp 21) rfl W.heap.size 27 (zeroP 0) none 0 0 none 0 0 (zeroP (t : Int)) none 0 0 none 0 0 rfl rfl (Blk.new W 27 (pkVs (zeroP 0) none 0 0 none 0 0)) (by kernel_rfl) ?_; intro V1 bV1 BV1)
  have b1 : Below W.heap.size W V1 := But.below ((Below.refl _ _).alloc (Nat.le_refl _) _) BV1 (fun i e => by omega) (by simp)
  obtain ⟨gp, hgp⟩ : ∃ gp, W.heap.size = gp := ⟨_, rfl⟩
  have HP := hide bV1
  rw [hgp] at HP hzl ⊢
  have HZ := hide (HZ.out.keep b1)
  have BW := hide (below_on BW.out b1)
  have hwgp : w.heap.size < gp := by have := Hgz.out; omega
  have hpl := HP.out.lt
  clear bV1 BV1 b1 hgp cc hq16
  have PA := PA V1 (HR.out.keep BW.out)
  go_wp2_with fail
  refine PA.mono ?_
  rintro e V2 ⟨rfl, q, hq⟩
  have b2 : Below V1.heap.size V1 V2 := by rw [hq]; exact below_drewN (Below.refl _ _) q
  have HZ := hide (HZ.out.keep b2)
  have HP := hide (HP.out.keep b2)
  have BW := hide (below_on BW.out b2)
  have hpl := HP.out.lt
  clear PA b2 hq
  go_upto_region 9 with fail
  generalize hV : V2.alloc _ = V
  have hVr : Blk V V2.heap.size 71 [.slice CA (n - b) (k - b), .bool false] := by rw [← hV]; exact Blk.new V2 71 [.slice CA (n - b) (k - b), .bool false]
  have b3 : Below V2.heap.size V2 V := by rw [← hV]; exact (Below.refl _ _).alloc (Nat.le_refl _) _
  obtain ⟨gr, hgr⟩ : ∃ gr, V2.heap.size = gr := ⟨_, rfl⟩
  rw [hgr] at hVr hpl ⊢
  have hld : (xs.drop b).length = n - b := by rw [List.length_drop, Hx.out]
  have BW := hide (below_on BW.out b3)
  have HS := hide (show PsS w.heap.size w V gp gr gz (zeroP (t : Int)) none 0 0 none 0 0 (xs.drop b, false) from ⟨HP.out.keep b3, ⟨CA, k - b, by rw [hld]; exact hVr, by rw [hld]; omega, by rw [hld]; exact HTL.out V BW.out, HCL.out⟩, HZ.out.keep b3, ⟨But.ofBelow BW.out _, KeepB.ofBelow BW.out⟩, by have := Hgz.out; omega⟩)
  have hwgr : w.heap.size ≤ gr := by omega
  have hls : (xs.drop b).length ≤ 65535 := by omega
  obtain ⟨s0, hs0⟩ : ∃ s0 : Rdr, (xs.drop b, false) = s0 := ⟨_, rfl⟩
  have Hs0 := hide hs0
  have hl0 : s0.1.length ≤ 65535 := by rw [← hs0]; exact hls
  rw [hs0] at HS
  obtain ⟨O, hO⟩ : ∃ O, readP xs = O := ⟨_, rfl⟩
  have HO := hide (show (if (bodyR t f s0).2.2 = true ∨ mayP (bodyR t f s0).1 = false ∨ layP (bodyR t f s0).1 ≠ xs then none else some (bodyR t f s0).1) = O from by
    rw [← hO]
    have hn2 : ¬ xs.length < 2 := by have := Hx.out; omega
    unfold readP
    simp only [if_neg hn2, HA.out, Hf.out, Ht16.out, hs0, ne_eq, not_true_eq_false, if_false])
  have HOP := hide (show ∀ e w', RpPost O w e w' → RpPost (readP xs) w e w' from fun e w' h => by rw [hO]; exact h)
  clear HP HZ HA hV hVr b3 hgr hld hls hs0 hO hsl HC Hgz hbl
  have c0 : V.cell? ⟨gp, 0, none⟩ = some (.int .i64 (t : Int)) := HS.out.hp.cell 0
  have PW := fun W (hW : RdL w.heap.size W gr s0) => rdWL_any gr s0 W hW (by omega)
  obtain ⟨id, hid⟩ : ∃ id, (rW s0).1 = id := ⟨_, rfl⟩
  obtain ⟨s, hs⟩ : ∃ s, (rW s0).2 = s := ⟨_, rfl⟩
  rw [hid, hs] at PW
  have Hid' := hide hid
  have Hs := hide hs
  obtain ⟨p, hp⟩ : ∃ p : Pk, ⟨(t : Int), false, (id : Int), [], [], 0, false, [], false, 0, false, false, false, [], [], false, [], []⟩ = p := ⟨_, rfl⟩
  have Hp := hide hp
  have HBR := hide (show bodyR t f s0 = (p, s) from by
    unfold bodyR
    have := Ht.out
    rw [if_neg (by omega), if_neg (by omega), if_neg (by omega), if_pos Ht.out, hid, hs, ← hp]
    rfl)
  clear hid hs hp
  rcases Ht.out with rfl | rfl | rfl | rfl | rfl
  · skip
    go_upto_region 40 with (go_at_call 46; refine (PW _ HS.out.hr).mono ?_; rintro e V3 ⟨rfl, r3, a3⟩; have HS := hide (HS.out.call r3 a3); have cc : V3.cell? ⟨gp, 2, none⟩ = some (.int .i64 0) := HS.out.hp.cell 2; have ff := HS.out.hp.frozen; clear r3 a3)
    have HS := hide (HS.out.set 2 (.int .i64 (id : Int)) ⟨_, false, (id : Int), [], [], 0, false, [], false, 0, false, false, false, [], [], false, [], []⟩ rfl)
    generalize V3.setCell ⟨gp, 2, none⟩ (.int .i64 (id : Int)) = V4 at *
    clear cc ff c0 PW
    have HS0 := HS
    have HPS := hide (show PkS p from by rw [← Hp.out]; simp [PkS])
    obtain ⟨C, nc, kc, S, ns, ks, HS, HM, HN, HOF⟩ : ∃ (C : Option Addr) (nc kc : Nat) (S : Option Addr) (ns ks : Nat), Hid (PsS w.heap.size w V4 gp gr gz p C nc kc S ns ks s) ∧ Hid (PkM V4 p C nc kc S ns ks) ∧ Hid (NewAt w C ∧ NewAt w S) ∧ Hid ((0 < nc → Off (fun i => i = gz) C) ∧ (0 < ns → Off (fun i => i = gz) S)) := ⟨none, 0, 0, none, 0, 0, hide (by rw [← Hp.out]; exact HS0.out), hide (pkM00 _ p (by rw [← Hp.out]; first | done | rfl) (by rw [← Hp.out]; first | done | rfl)), hide ⟨NewAt.nil _, NewAt.nil _⟩, hide ⟨fun h => by omega, fun h => by omega⟩⟩
    have HO := hide (show (if s.2 = true ∨ mayP p = false ∨ layP p ≠ xs then none else some p) = O from by have := HO.out; rw [HBR.out] at this; exact this)
    clear HS0 HBR
    go_upto_region 40 with fail
    have hwV : Below w.heap.size w V4 := HS.out.aft.below (Below.refl _ _) hwgr (Nat.le_refl _)
    have dX := strOn (HR.out.keep hwV)
    obtain ⟨ys, bd⟩ := s
    obtain ⟨A2, k2, hBr, -⟩ := HS.out.hr
    have hcr0 := hBr.cell 1
    simp only [List.getElem?_cons_zero, List.getElem?_cons_succ] at hcr0
    have hgrl := hBr.lt
    have hPl := HS.out.hp
    clear hBr
    cases bd with
    | true =>
      have hO0 : O = none := by rw [← HO.out, if_pos (Or.inl rfl)]
      have hcr : ∀ w', Below V4.heap.size V4 w' → w'.cell? ⟨gr, 1, none⟩ = some (.bool true) := fun w' h => (h.cell (p := ⟨gr, 1, none⟩) hgrl).trans hcr0
      refine wp_region_held_drew (S := fun w' => Below V4.heap.size V4 w') (by kernel_rfl) ?_ (fun hHeld => ?_)
      · exact (Below.refl _ _).drew
      refine wpAnyH_take (i := 0) (oi := { dst := some 144, op := _, type := _, pos := _, after := _, guard := _ }) (v := ?v1x1) rfl (by kernel_rfl) (by kernel_rfl) (by kernel_rfl) (fun _ _ _ h => h) (Or.inl ⟨by rfl, ?hy1x1⟩) hHeld ?rest1x1
      case hy1x1 => (intro w hSw; go_simp <;> with_reducible rfl)
      try simp only [Act.put, List.setIfInBounds_toArray, List.set_cons_zero, List.set_cons_succ]
      refine wpAnyH_take (i := 1) (oi := { dst := some 145, op := _, type := _, pos := _, after := _, guard := _ }) (v := ?v1x2) rfl (by kernel_rfl) (by kernel_rfl) (by kernel_rfl) (fun _ _ _ h => h) (Or.inl ⟨by rfl, ?hy1x2⟩) hHeld ?rest1x2
      case hy1x2 => (intro w hSw; go_simp <;> with_reducible rfl)
      try simp only [Act.put, List.setIfInBounds_toArray, List.set_cons_zero, List.set_cons_succ]
      refine wpAnyH_take (i := 2) (oi := { dst := some 146, op := _, type := _, pos := _, after := _, guard := _ }) (v := ?v1x3) rfl (by kernel_rfl) (by kernel_rfl) (by kernel_rfl) (fun _ _ _ h => h) (Or.inl ⟨by rfl, ?hy1x3⟩) hHeld ?rest1x3
      case hy1x3 => (intro w hSw; go_simp <;> with_reducible rfl)
      try simp only [Act.put, List.setIfInBounds_toArray, List.set_cons_zero, List.set_cons_succ]
      refine wpAnyH_take (i := 3) (oi := { dst := some 147, op := _, type := _, pos := _, after := _, guard := _ }) (v := ?v1x4) rfl (by kernel_rfl) (by kernel_rfl) (by kernel_rfl) (fun _ _ _ h => h) (Or.inl ⟨by rfl, ?hy1x4⟩) hHeld ?rest1x4
      case hy1x4 => (intro w hSw; go_simp <;> with_reducible rfl)
      try simp only [Act.put, List.setIfInBounds_toArray, List.set_cons_zero, List.set_cons_succ]
      refine wpAnyH_take (i := 4) (oi := { dst := some 148, op := _, type := _, pos := _, after := _, guard := _ }) (v := ?v1x5) rfl (by kernel_rfl) (by kernel_rfl) (by kernel_rfl) (fun _ _ _ h => h) (Or.inl ⟨by rfl, ?hy1x5⟩) hHeld ?rest1x5
      case hy1x5 => (intro w hSw; go_simp <;> with_reducible rfl)
      try simp only [Act.put, List.setIfInBounds_toArray, List.set_cons_zero, List.set_cons_succ]
      refine wpAnyH_take (i := 5) (oi := { dst := some 149, op := _, type := _, pos := _, after := _, guard := _ }) (v := undef) rfl (by kernel_rfl) (by kernel_rfl) (by kernel_rfl) (fun _ _ _ h => h) (Or.inr ⟨by rfl, rfl⟩) hHeld ?_
      try simp only [Act.put, List.setIfInBounds_toArray, List.set_cons_zero, List.set_cons_succ]
      refine wpAnyH_take (i := 6) (oi := { dst := some 150, op := _, type := _, pos := _, after := _, guard := _ }) (v := undef) rfl (by kernel_rfl) (by kernel_rfl) (by kernel_rfl) (fun _ _ _ h => h) (Or.inr ⟨by rfl, rfl⟩) hHeld ?_
      try simp only [Act.put, List.setIfInBounds_toArray, List.set_cons_zero, List.set_cons_succ]
      refine wpAnyH_take (i := 7) (oi := { dst := some 151, op := _, type := _, pos := _, after := _, guard := _ }) (v := undef) rfl (by kernel_rfl) (by kernel_rfl) (by kernel_rfl) (fun _ _ _ h => h) (Or.inr ⟨by rfl, rfl⟩) hHeld ?_
      try simp only [Act.put, List.setIfInBounds_toArray, List.set_cons_zero, List.set_cons_succ]
      refine wpAnyH_take (i := 8) (oi := { dst := some 152, op := _, type := _, pos := _, after := _, guard := _ }) (v := ?v1x9) rfl (by kernel_rfl) (by kernel_rfl) (by kernel_rfl) (fun _ _ _ h => h) (Or.inl ⟨by rfl, ?hy1x9⟩) hHeld ?rest1x9
      case hy1x9 => (intro w hSw; go_simp <;> with_reducible rfl)
      try simp only [Act.put, List.setIfInBounds_toArray, List.set_cons_zero, List.set_cons_succ]
      refine wpAnyH_take (i := 9) (oi := { dst := some 153, op := _, type := _, pos := _, after := _, guard := _ }) (v := ?v1x10) rfl (by kernel_rfl) (by kernel_rfl) (by kernel_rfl) (fun _ _ _ h => h) (Or.inl ⟨by rfl, ?hy1x10⟩) hHeld ?rest1x10
      case hy1x10 => (intro w hSw; go_simp <;> with_reducible rfl)
      try simp only [Act.put, List.setIfInBounds_toArray, List.set_cons_zero, List.set_cons_succ]
      refine wpAnyH_take (i := 10) (oi := { dst := some 154, op := _, type := _, pos := _, after := _, guard := _ }) (v := undef) rfl (by kernel_rfl) (by kernel_rfl) (by kernel_rfl) (fun _ _ _ h => h) (Or.inr ⟨by rfl, rfl⟩) hHeld ?_
      try simp only [Act.put, List.setIfInBounds_toArray, List.set_cons_zero, List.set_cons_succ]
      refine wpAnyH_take (i := 11) (oi := { dst := some 155, op := _, type := _, pos := _, after := _, guard := _ }) (v := undef) rfl (by kernel_rfl) (by kernel_rfl) (by kernel_rfl) (fun _ _ _ h => h) (Or.inr ⟨by rfl, rfl⟩) hHeld ?_
      try simp only [Act.put, List.setIfInBounds_toArray, List.set_cons_zero, List.set_cons_succ]
      refine wpAnyH_take (i := 12) (oi := { dst := some 156, op := _, type := _, pos := _, after := _, guard := _ }) (v := undef) rfl (by kernel_rfl) (by kernel_rfl) (by kernel_rfl) (fun _ _ _ h => h) (Or.inr ⟨by rfl, rfl⟩) hHeld ?_
      try simp only [Act.put, List.setIfInBounds_toArray, List.set_cons_zero, List.set_cons_succ]
      refine wpAnyH_take (i := 13) (oi := { dst := some 157, op := _, type := _, pos := _, after := _, guard := _ }) (v := undef) rfl (by kernel_rfl) (by kernel_rfl) (by kernel_rfl) (fun _ _ _ h => h) (Or.inr ⟨by rfl, rfl⟩) hHeld ?_
      try simp only [Act.put, List.setIfInBounds_toArray, List.set_cons_zero, List.set_cons_succ]
      refine wpAnyH_take (i := 14) (oi := { dst := some 158, op := _, type := _, pos := _, after := _, guard := _ }) (v := undef) rfl (by kernel_rfl) (by kernel_rfl) (by kernel_rfl) (fun _ _ _ h => h) (Or.inr ⟨by rfl, rfl⟩) hHeld ?_
      try simp only [Act.put, List.setIfInBounds_toArray, List.set_cons_zero, List.set_cons_succ]
      refine wpAnyH_take (i := 15) (oi := { dst := some 159, op := _, type := _, pos := _, after := _, guard := _ }) (v := undef) rfl (by kernel_rfl) (by kernel_rfl) (by kernel_rfl) (fun _ _ _ h => h) (Or.inr ⟨by rfl, rfl⟩) hHeld ?_
      try simp only [Act.put, List.setIfInBounds_toArray, List.set_cons_zero, List.set_cons_succ]
      refine wpAnyH_take (i := 16) (oi := { dst := some 160, op := _, type := _, pos := _, after := _, guard := _ }) (v := ?v1x17) rfl (by kernel_rfl) (by kernel_rfl) (by kernel_rfl) (fun _ _ _ h => h) (Or.inl ⟨by rfl, ?hy1x17⟩) hHeld ?rest1x17
      case hy1x17 => (intro w hSw; go_simp <;> with_reducible rfl)
      try simp only [Act.put, List.setIfInBounds_toArray, List.set_cons_zero, List.set_cons_succ]
      refine wpAnyH_done (by kernel_rfl) ?_ _
      clear hcr hcr0 dX
      have HS5 := hide (HS.out.mem hHeld)
      go_upto_region 99 with (refine wpList_storeQ rfl 27 (.tmp 2) (.tmp 161) rfl gz 27 (zeroP 0) none 0 0 none 0 0 (zeroP 0) none 0 0 none 0 0 rfl rfl (HS5.out).hz (by kernel_rfl) ?_; intro V2 bV2 BV2)
      refine bodyPost_ret (results_cell_tmp rfl rfl bV2 Try.underlying27 rfl (by kernel_rfl)) rfl ?_
      refine HOP.out _ _ ?_
      rw [hO0]
      exact ⟨rfl, ((HS5.out).ans BV2).2.below (Below.refl _ _) hwgr (Nat.le_refl _)⟩
    | false =>
      have hcr : ∀ w', Below V4.heap.size V4 w' → w'.cell? ⟨gr, 1, none⟩ = some (.bool false) := fun w' h => (h.cell (p := ⟨gr, 1, none⟩) hgrl).trans hcr0
      have HPB : ∀ w', Below V4.heap.size V4 w' → Blk w' gp 27 (pkVs p C nc kc S ns ks) := fun w' h => hPl.keep h
      have PM := fun W (hb : Below V4.heap.size V4 W) => may_any p C nc kc S ns ks W (HM.out.keep hb) HPS.out
      by_cases hmv : mayP p = true
      case neg =>
        have hmf : mayP p = false := by rw [← Bool.not_eq_true]; exact hmv
        have hO0 : O = none := by rw [← HO.out, if_pos (Or.inr (Or.inl hmf))]
        rw [hmf] at PM
        clear hmv
        refine wp_region_held_drew (S := fun w' => Below V4.heap.size V4 w') (by kernel_rfl) ?_ (fun hHeld => ?_)
        · exact (Below.refl _ _).drew
        refine wpAnyH_take (i := 0) (oi := { dst := some 144, op := _, type := _, pos := _, after := _, guard := _ }) (v := ?v2x1) rfl (by kernel_rfl) (by kernel_rfl) (by kernel_rfl) (fun _ _ _ h => h) (Or.inl ⟨by rfl, ?hy2x1⟩) hHeld ?rest2x1
        case hy2x1 => (intro w hSw; go_simp <;> with_reducible rfl)
        try simp only [Act.put, List.setIfInBounds_toArray, List.set_cons_zero, List.set_cons_succ]
        refine wpAnyH_take (i := 1) (oi := { dst := some 145, op := _, type := _, pos := _, after := _, guard := _ }) (v := ?v2x2) rfl (by kernel_rfl) (by kernel_rfl) (by kernel_rfl) (fun _ _ _ h => h) (Or.inl ⟨by rfl, ?hy2x2⟩) hHeld ?rest2x2
        case hy2x2 => (intro w hSw; go_simp <;> with_reducible rfl)
        try simp only [Act.put, List.setIfInBounds_toArray, List.set_cons_zero, List.set_cons_succ]
        refine wpAnyH_take (i := 2) (oi := { dst := some 146, op := _, type := _, pos := _, after := _, guard := _ }) (v := ?v2x3) rfl (by kernel_rfl) (by kernel_rfl) (by kernel_rfl) (fun _ _ _ h => h) (Or.inl ⟨by rfl, ?hy2x3⟩) hHeld ?rest2x3
        case hy2x3 => (intro w hSw; go_simp <;> with_reducible rfl)
        try simp only [Act.put, List.setIfInBounds_toArray, List.set_cons_zero, List.set_cons_succ]
        refine wpAnyH_take (i := 3) (oi := { dst := some 147, op := _, type := _, pos := _, after := _, guard := _ }) (v := ?v2x4) rfl (by kernel_rfl) (by kernel_rfl) (by kernel_rfl) (fun _ _ _ h => h) (Or.inl ⟨by rfl, ?hy2x4⟩) hHeld ?rest2x4
        case hy2x4 => (intro w hSw; go_simp <;> with_reducible rfl)
        try simp only [Act.put, List.setIfInBounds_toArray, List.set_cons_zero, List.set_cons_succ]
        refine wpAnyH_take (i := 4) (oi := { dst := some 148, op := _, type := _, pos := _, after := _, guard := _ }) (v := ?v2x5) rfl (by kernel_rfl) (by kernel_rfl) (by kernel_rfl) (fun _ _ _ h => h) (Or.inl ⟨by rfl, ?hy2x5⟩) hHeld ?rest2x5
        case hy2x5 => (intro w hSw; go_simp <;> with_reducible rfl)
        try simp only [Act.put, List.setIfInBounds_toArray, List.set_cons_zero, List.set_cons_succ]
        refine wpAnyH_take (i := 5) (oi := { dst := some 149, op := _, type := _, pos := _, after := _, guard := _ }) (v := ?v2x6) rfl (by kernel_rfl) (by kernel_rfl) (by kernel_rfl) (fun _ _ _ h => h) (Or.inl ⟨by rfl, ?hy2x6⟩) hHeld ?rest2x6
        case hy2x6 => (intro w hSw; refine exec_loadP 27 (.tmp 5) ?_ gp 27 p C nc kc S ns ks ?_ (HPB w hSw) Try.underlying27 ?_ ?_; rfl; rfl; rfl; kernel_rfl)
        try simp only [Act.put, List.setIfInBounds_toArray, List.set_cons_zero, List.set_cons_succ]
        refine wpAnyH_ready (rs := [6]) (by kernel_rfl) (by simp) (AllReadyH.cons (o := { dst := some 150, op := _, type := _, pos := _, after := _, guard := _ }) rfl (fun K hK => ?_) AllReadyH.nil)
        go_simp
        refine (PM _ hHeld).mono ?_
        rintro e w6 ⟨rfl, b6⟩
        have s6 := below_on hHeld b6
        go_wp2_with fail
        refine hK.out _ _ ?_ (fun hHeld => ?_)
        · exact s6
        clear hK K
        try simp only [Act.put, List.setIfInBounds_toArray, List.set_cons_zero, List.set_cons_succ]
        refine wpAnyH_take (i := 7) (oi := { dst := some 151, op := _, type := _, pos := _, after := _, guard := _ }) (v := ?v2x8) rfl (by kernel_rfl) (by kernel_rfl) (by kernel_rfl) (fun _ _ _ h => h) (Or.inl ⟨by rfl, ?hy2x8⟩) hHeld ?rest2x8
        case hy2x8 => (intro w hSw; go_simp <;> with_reducible rfl)
        try simp only [Act.put, List.setIfInBounds_toArray, List.set_cons_zero, List.set_cons_succ]
        refine wpAnyH_take (i := 8) (oi := { dst := some 152, op := _, type := _, pos := _, after := _, guard := _ }) (v := ?v2x9) rfl (by kernel_rfl) (by kernel_rfl) (by kernel_rfl) (fun _ _ _ h => h) (Or.inl ⟨by rfl, ?hy2x9⟩) hHeld ?rest2x9
        case hy2x9 => (intro w hSw; go_simp <;> with_reducible rfl)
        try simp only [Act.put, List.setIfInBounds_toArray, List.set_cons_zero, List.set_cons_succ]
        refine wpAnyH_take (i := 9) (oi := { dst := some 153, op := _, type := _, pos := _, after := _, guard := _ }) (v := ?v2x10) rfl (by kernel_rfl) (by kernel_rfl) (by kernel_rfl) (fun _ _ _ h => h) (Or.inl ⟨by rfl, ?hy2x10⟩) hHeld ?rest2x10
        case hy2x10 => (intro w hSw; go_simp <;> with_reducible rfl)
        try simp only [Act.put, List.setIfInBounds_toArray, List.set_cons_zero, List.set_cons_succ]
        refine wpAnyH_take (i := 10) (oi := { dst := some 154, op := _, type := _, pos := _, after := _, guard := _ }) (v := undef) rfl (by kernel_rfl) (by kernel_rfl) (by kernel_rfl) (fun _ _ _ h => h) (Or.inr ⟨by rfl, rfl⟩) hHeld ?_
        try simp only [Act.put, List.setIfInBounds_toArray, List.set_cons_zero, List.set_cons_succ]
        refine wpAnyH_take (i := 11) (oi := { dst := some 155, op := _, type := _, pos := _, after := _, guard := _ }) (v := undef) rfl (by kernel_rfl) (by kernel_rfl) (by kernel_rfl) (fun _ _ _ h => h) (Or.inr ⟨by rfl, rfl⟩) hHeld ?_
        try simp only [Act.put, List.setIfInBounds_toArray, List.set_cons_zero, List.set_cons_succ]
        refine wpAnyH_take (i := 12) (oi := { dst := some 156, op := _, type := _, pos := _, after := _, guard := _ }) (v := undef) rfl (by kernel_rfl) (by kernel_rfl) (by kernel_rfl) (fun _ _ _ h => h) (Or.inr ⟨by rfl, rfl⟩) hHeld ?_
        try simp only [Act.put, List.setIfInBounds_toArray, List.set_cons_zero, List.set_cons_succ]
        refine wpAnyH_take (i := 13) (oi := { dst := some 157, op := _, type := _, pos := _, after := _, guard := _ }) (v := undef) rfl (by kernel_rfl) (by kernel_rfl) (by kernel_rfl) (fun _ _ _ h => h) (Or.inr ⟨by rfl, rfl⟩) hHeld ?_
        try simp only [Act.put, List.setIfInBounds_toArray, List.set_cons_zero, List.set_cons_succ]
        refine wpAnyH_take (i := 14) (oi := { dst := some 158, op := _, type := _, pos := _, after := _, guard := _ }) (v := undef) rfl (by kernel_rfl) (by kernel_rfl) (by kernel_rfl) (fun _ _ _ h => h) (Or.inr ⟨by rfl, rfl⟩) hHeld ?_
        try simp only [Act.put, List.setIfInBounds_toArray, List.set_cons_zero, List.set_cons_succ]
        refine wpAnyH_take (i := 15) (oi := { dst := some 159, op := _, type := _, pos := _, after := _, guard := _ }) (v := undef) rfl (by kernel_rfl) (by kernel_rfl) (by kernel_rfl) (fun _ _ _ h => h) (Or.inr ⟨by rfl, rfl⟩) hHeld ?_
        try simp only [Act.put, List.setIfInBounds_toArray, List.set_cons_zero, List.set_cons_succ]
        refine wpAnyH_take (i := 16) (oi := { dst := some 160, op := _, type := _, pos := _, after := _, guard := _ }) (v := ?v2x17) rfl (by kernel_rfl) (by kernel_rfl) (by kernel_rfl) (fun _ _ _ h => h) (Or.inl ⟨by rfl, ?hy2x17⟩) hHeld ?rest2x17
        case hy2x17 => (intro w hSw; go_simp <;> with_reducible rfl)
        try simp only [Act.put, List.setIfInBounds_toArray, List.set_cons_zero, List.set_cons_succ]
        refine wpAnyH_done (by kernel_rfl) ?_ _
        clear hcr hcr0 dX HPB PM
        have HS5 := hide (HS.out.mem hHeld)
        go_upto_region 99 with (refine wpList_storeQ rfl 27 (.tmp 2) (.tmp 161) rfl gz 27 (zeroP 0) none 0 0 none 0 0 (zeroP 0) none 0 0 none 0 0 rfl rfl (HS5.out).hz (by kernel_rfl) ?_; intro V2 bV2 BV2)
        refine bodyPost_ret (results_cell_tmp rfl rfl bV2 Try.underlying27 rfl (by kernel_rfl)) rfl ?_
        refine HOP.out _ _ ?_
        rw [hO0]
        exact ⟨rfl, ((HS5.out).ans BV2).2.below (Below.refl _ _) hwgr (Nat.le_refl _)⟩
      case pos =>
      have PB := fun W (hb : Below V4.heap.size V4 W) => rBytes10_any p C nc kc S ns ks W (HM.out.keep hb) HPS.out hmv
      rw [hmv] at PM
      by_cases hl : layP p = xs
      case pos =>
        have hO0 : O = some p := by rw [← HO.out, if_neg (by rw [hmv]; simp [hl])]
        rw [hl] at PB
        refine wp_region_held_drew (S := fun w' => Below V4.heap.size V4 w') (by kernel_rfl) ?_ (fun hHeld => ?_)
        · exact (Below.refl _ _).drew
        refine wpAnyH_take (i := 0) (oi := { dst := some 144, op := _, type := _, pos := _, after := _, guard := _ }) (v := ?v3x1) rfl (by kernel_rfl) (by kernel_rfl) (by kernel_rfl) (fun _ _ _ h => h) (Or.inl ⟨by rfl, ?hy3x1⟩) hHeld ?rest3x1
        case hy3x1 => (intro w hSw; go_simp <;> with_reducible rfl)
        try simp only [Act.put, List.setIfInBounds_toArray, List.set_cons_zero, List.set_cons_succ]
        refine wpAnyH_take (i := 1) (oi := { dst := some 145, op := _, type := _, pos := _, after := _, guard := _ }) (v := ?v3x2) rfl (by kernel_rfl) (by kernel_rfl) (by kernel_rfl) (fun _ _ _ h => h) (Or.inl ⟨by rfl, ?hy3x2⟩) hHeld ?rest3x2
        case hy3x2 => (intro w hSw; go_simp <;> with_reducible rfl)
        try simp only [Act.put, List.setIfInBounds_toArray, List.set_cons_zero, List.set_cons_succ]
        refine wpAnyH_take (i := 2) (oi := { dst := some 146, op := _, type := _, pos := _, after := _, guard := _ }) (v := ?v3x3) rfl (by kernel_rfl) (by kernel_rfl) (by kernel_rfl) (fun _ _ _ h => h) (Or.inl ⟨by rfl, ?hy3x3⟩) hHeld ?rest3x3
        case hy3x3 => (intro w hSw; go_simp <;> with_reducible rfl)
        try simp only [Act.put, List.setIfInBounds_toArray, List.set_cons_zero, List.set_cons_succ]
        refine wpAnyH_take (i := 3) (oi := { dst := some 147, op := _, type := _, pos := _, after := _, guard := _ }) (v := ?v3x4) rfl (by kernel_rfl) (by kernel_rfl) (by kernel_rfl) (fun _ _ _ h => h) (Or.inl ⟨by rfl, ?hy3x4⟩) hHeld ?rest3x4
        case hy3x4 => (intro w hSw; go_simp <;> with_reducible rfl)
        try simp only [Act.put, List.setIfInBounds_toArray, List.set_cons_zero, List.set_cons_succ]
        refine wpAnyH_take (i := 4) (oi := { dst := some 148, op := _, type := _, pos := _, after := _, guard := _ }) (v := ?v3x5) rfl (by kernel_rfl) (by kernel_rfl) (by kernel_rfl) (fun _ _ _ h => h) (Or.inl ⟨by rfl, ?hy3x5⟩) hHeld ?rest3x5
        case hy3x5 => (intro w hSw; go_simp <;> with_reducible rfl)
        try simp only [Act.put, List.setIfInBounds_toArray, List.set_cons_zero, List.set_cons_succ]
        refine wpAnyH_take (i := 5) (oi := { dst := some 149, op := _, type := _, pos := _, after := _, guard := _ }) (v := ?v3x6) rfl (by kernel_rfl) (by kernel_rfl) (by kernel_rfl) (fun _ _ _ h => h) (Or.inl ⟨by rfl, ?hy3x6⟩) hHeld ?rest3x6
        case hy3x6 => (intro w hSw; refine exec_loadP 27 (.tmp 5) ?_ gp 27 p C nc kc S ns ks ?_ (HPB w hSw) Try.underlying27 ?_ ?_; rfl; rfl; rfl; kernel_rfl)
        try simp only [Act.put, List.setIfInBounds_toArray, List.set_cons_zero, List.set_cons_succ]
        refine wpAnyH_ready (rs := [6]) (by kernel_rfl) (by simp) (AllReadyH.cons (o := { dst := some 150, op := _, type := _, pos := _, after := _, guard := _ }) rfl (fun K hK => ?_) AllReadyH.nil)
        go_simp
        refine (PM _ hHeld).mono ?_
        rintro e w6 ⟨rfl, b6⟩
        have s6 := below_on hHeld b6
        have dX6 : ∀ w', Below w6.heap.size w6 w' → ∀ c, (convert 31 9 (.slice (some ⟨bA, oA, none⟩) n c)).run Try.prog w' = .ok (.string (str xs)) w' := fun w' h => dX w' (below_on s6 h)
        go_wp2_with fail
        refine hK.out _ _ ?_ (fun hHeld => ?_)
        · exact below_on hHeld b6
        clear hK K
        try simp only [Act.put, List.setIfInBounds_toArray, List.set_cons_zero, List.set_cons_succ]
        refine wpAnyH_strong (S' := fun w' => Below w6.heap.size w6 w') (by intro w' h; exact below_on hHeld h) ?_
        replace hHeld : (fun w' => Below w6.heap.size w6 w') _ := Below.refl _ _
        refine wpAnyH_take (i := 7) (oi := { dst := some 151, op := _, type := _, pos := _, after := _, guard := _ }) (v := ?v3x8) rfl (by kernel_rfl) (by kernel_rfl) (by kernel_rfl) (fun _ _ _ h => h) (Or.inl ⟨by rfl, ?hy3x8⟩) hHeld ?rest3x8
        case hy3x8 => (intro w hSw; go_simp <;> with_reducible rfl)
        try simp only [Act.put, List.setIfInBounds_toArray, List.set_cons_zero, List.set_cons_succ]
        refine wpAnyH_take (i := 8) (oi := { dst := some 152, op := _, type := _, pos := _, after := _, guard := _ }) (v := ?v3x9) rfl (by kernel_rfl) (by kernel_rfl) (by kernel_rfl) (fun _ _ _ h => h) (Or.inl ⟨by rfl, ?hy3x9⟩) hHeld ?rest3x9
        case hy3x9 => (intro w hSw; go_simp <;> with_reducible rfl)
        try simp only [Act.put, List.setIfInBounds_toArray, List.set_cons_zero, List.set_cons_succ]
        refine wpAnyH_take (i := 9) (oi := { dst := some 153, op := _, type := _, pos := _, after := _, guard := _ }) (v := ?v3x10) rfl (by kernel_rfl) (by kernel_rfl) (by kernel_rfl) (fun _ _ _ h => h) (Or.inl ⟨by rfl, ?hy3x10⟩) hHeld ?rest3x10
        case hy3x10 => (intro w hSw; go_simp <;> with_reducible rfl)
        try simp only [Act.put, List.setIfInBounds_toArray, List.set_cons_zero, List.set_cons_succ]
        refine wpAnyH_take (i := 10) (oi := { dst := some 154, op := _, type := _, pos := _, after := _, guard := _ }) (v := ?v3x11) rfl (by kernel_rfl) (by kernel_rfl) (by kernel_rfl) (fun _ _ _ h => h) (Or.inl ⟨by rfl, ?hy3x11⟩) hHeld ?rest3x11
        case hy3x11 => (intro w hSw; refine exec_loadP 27 (.tmp 5) ?_ gp 27 p C nc kc S ns ks ?_ (HPB w (below_on s6 hSw)) Try.underlying27 ?_ ?_; rfl; rfl; rfl; kernel_rfl)
        try simp only [Act.put, List.setIfInBounds_toArray, List.set_cons_zero, List.set_cons_succ]
        refine wpAnyH_take (i := 13) (oi := { dst := some 157, op := _, type := _, pos := _, after := _, guard := _ }) (v := ?v3x12) rfl (by kernel_rfl) (by kernel_rfl) (by kernel_rfl) (fun _ _ _ h => h) (Or.inl ⟨by rfl, ?hy3x12⟩) hHeld ?rest3x12
        case hy3x12 => (intro w hSw; go_simp <;> with_reducible rfl)
        try simp only [Act.put, List.setIfInBounds_toArray, List.set_cons_zero, List.set_cons_succ]
        refine wpAnyH_take (i := 14) (oi := { dst := some 158, op := _, type := _, pos := _, after := _, guard := _ }) (v := ?v3x13) rfl (by kernel_rfl) (by kernel_rfl) (by kernel_rfl) (fun _ _ _ h => h) (Or.inl ⟨by rfl, ?hy3x13⟩) hHeld ?rest3x13
        case hy3x13 => (intro w hSw; go_simp <;> with_reducible rfl)
        try simp only [Act.put, List.setIfInBounds_toArray, List.set_cons_zero, List.set_cons_succ]
        refine wpAnyH_ready (rs := [11]) (by kernel_rfl) (by simp) (AllReadyH.cons (o := { dst := some 155, op := _, type := _, pos := _, after := _, guard := _ }) rfl (fun K hK => ?_) AllReadyH.nil)
        go_simp
        refine (PB _ (below_on s6 hHeld)).mono ?_
        rintro e w7 ⟨G, gk, rfl, hgk, r7, b7⟩
        have s7 := below_on s6 (below_on hHeld b7)
        have dG := strOn r7
        have dX7 : ∀ w', Below w7.heap.size w7 w' → ∀ c, (convert 31 9 (.slice (some ⟨bA, oA, none⟩) n c)).run Try.prog w' = .ok (.string (str xs)) w' := fun w' h => dX w' (below_on s7 h)
        clear dX6
        go_wp2_with fail
        refine hK.out _ _ ?_ (fun hHeld => ?_)
        · exact below_on hHeld b7
        clear hK K
        try simp only [Act.put, List.setIfInBounds_toArray, List.set_cons_zero, List.set_cons_succ]
        refine wpAnyH_strong (S' := fun w' => Below w7.heap.size w7 w') (by intro w' h; exact below_on hHeld h) ?_
        replace hHeld : (fun w' => Below w7.heap.size w7 w') _ := Below.refl _ _
        refine wpAnyH_take (i := 12) (oi := { dst := some 156, op := _, type := _, pos := _, after := _, guard := _ }) (v := ?v3x15) rfl (by kernel_rfl) (by kernel_rfl) (by kernel_rfl) (fun _ _ _ h => h) (Or.inl ⟨by rfl, ?hy3x15⟩) hHeld ?rest3x15
        case hy3x15 => (intro w hSw; go_simp <;> with_reducible rfl)
        try simp only [Act.put, List.setIfInBounds_toArray, List.set_cons_zero, List.set_cons_succ]
        refine wpAnyH_take (i := 15) (oi := { dst := some 159, op := _, type := _, pos := _, after := _, guard := _ }) (v := ?v3x16) rfl (by kernel_rfl) (by kernel_rfl) (by kernel_rfl) (fun _ _ _ h => h) (Or.inl ⟨by rfl, ?hy3x16⟩) hHeld ?rest3x16
        case hy3x16 => (intro w hSw; go_simp <;> with_reducible rfl)
        try simp only [Act.put, List.setIfInBounds_toArray, List.set_cons_zero, List.set_cons_succ]
        refine wpAnyH_take (i := 16) (oi := { dst := some 160, op := _, type := _, pos := _, after := _, guard := _ }) (v := ?v3x17) rfl (by kernel_rfl) (by kernel_rfl) (by kernel_rfl) (fun _ _ _ h => h) (Or.inl ⟨by rfl, ?hy3x17⟩) hHeld ?rest3x17
        case hy3x17 => (intro w hSw; go_simp <;> with_reducible rfl)
        try simp only [Act.put, List.setIfInBounds_toArray, List.set_cons_zero, List.set_cons_succ]
        refine wpAnyH_done (by kernel_rfl) ?_ _
        have hbel := below_on s7 hHeld
        clear hcr hcr0 dX HPB PM PB dG dX7
        have HS5 := hide (HS.out.mem hbel)
        have HM5 := hide (HM.out.keep hbel)
        go_upto_region 99 with (first
          | (refine wpList_loadP rfl 27 (.tmp 5) rfl gp 27 p C nc kc S ns ks rfl HS5.out.hp Try.underlying27 rfl (by kernel_rfl) ?_)
          | (refine wpList_storeQ rfl 27 (.tmp 2) (.tmp 162) rfl gz 27 (zeroP 0) none 0 0 none 0 0 p C nc kc S ns ks rfl rfl HS5.out.hz (by kernel_rfl) ?_; intro V2 bV2 BV2))
        refine bodyPost_ret (results_cell_tmp rfl rfl bV2 Try.underlying27 rfl (by kernel_rfl)) rfl ?_
        refine HOP.out _ _ ?_
        rw [hO0]
        exact ⟨C, nc, kc, S, ns, ks, rfl, HN.out.1, HN.out.2, PkM_but HM5.out BV2 HOF.out.1 HOF.out.2, (HS5.out.ans BV2).2.below (Below.refl _ _) hwgr (Nat.le_refl _)⟩
      case neg =>
        have hO0 : O = none := by rw [← HO.out, if_pos (Or.inr (Or.inr hl))]
        have hlb : (layP p == xs) = false := by rw [beq_eq_false_iff_ne]; exact hl
        clear hl
        refine wp_region_held_drew (S := fun w' => Below V4.heap.size V4 w') (by kernel_rfl) ?_ (fun hHeld => ?_)
        · exact (Below.refl _ _).drew
        refine wpAnyH_take (i := 0) (oi := { dst := some 144, op := _, type := _, pos := _, after := _, guard := _ }) (v := ?v4x1) rfl (by kernel_rfl) (by kernel_rfl) (by kernel_rfl) (fun _ _ _ h => h) (Or.inl ⟨by rfl, ?hy4x1⟩) hHeld ?rest4x1
        case hy4x1 => (intro w hSw; go_simp <;> with_reducible rfl)
        try simp only [Act.put, List.setIfInBounds_toArray, List.set_cons_zero, List.set_cons_succ]
        refine wpAnyH_take (i := 1) (oi := { dst := some 145, op := _, type := _, pos := _, after := _, guard := _ }) (v := ?v4x2) rfl (by kernel_rfl) (by kernel_rfl) (by kernel_rfl) (fun _ _ _ h => h) (Or.inl ⟨by rfl, ?hy4x2⟩) hHeld ?rest4x2
        case hy4x2 => (intro w hSw; go_simp <;> with_reducible rfl)
        try simp only [Act.put, List.setIfInBounds_toArray, List.set_cons_zero, List.set_cons_succ]
        refine wpAnyH_take (i := 2) (oi := { dst := some 146, op := _, type := _, pos := _, after := _, guard := _ }) (v := ?v4x3) rfl (by kernel_rfl) (by kernel_rfl) (by kernel_rfl) (fun _ _ _ h => h) (Or.inl ⟨by rfl, ?hy4x3⟩) hHeld ?rest4x3
        case hy4x3 => (intro w hSw; go_simp <;> with_reducible rfl)
        try simp only [Act.put, List.setIfInBounds_toArray, List.set_cons_zero, List.set_cons_succ]
        refine wpAnyH_take (i := 3) (oi := { dst := some 147, op := _, type := _, pos := _, after := _, guard := _ }) (v := ?v4x4) rfl (by kernel_rfl) (by kernel_rfl) (by kernel_rfl) (fun _ _ _ h => h) (Or.inl ⟨by rfl, ?hy4x4⟩) hHeld ?rest4x4
        case hy4x4 => (intro w hSw; go_simp <;> with_reducible rfl)
        try simp only [Act.put, List.setIfInBounds_toArray, List.set_cons_zero, List.set_cons_succ]
        refine wpAnyH_take (i := 4) (oi := { dst := some 148, op := _, type := _, pos := _, after := _, guard := _ }) (v := ?v4x5) rfl (by kernel_rfl) (by kernel_rfl) (by kernel_rfl) (fun _ _ _ h => h) (Or.inl ⟨by rfl, ?hy4x5⟩) hHeld ?rest4x5
        case hy4x5 => (intro w hSw; go_simp <;> with_reducible rfl)
        try simp only [Act.put, List.setIfInBounds_toArray, List.set_cons_zero, List.set_cons_succ]
        refine wpAnyH_take (i := 5) (oi := { dst := some 149, op := _, type := _, pos := _, after := _, guard := _ }) (v := ?v4x6) rfl (by kernel_rfl) (by kernel_rfl) (by kernel_rfl) (fun _ _ _ h => h) (Or.inl ⟨by rfl, ?hy4x6⟩) hHeld ?rest4x6
        case hy4x6 => (intro w hSw; refine exec_loadP 27 (.tmp 5) ?_ gp 27 p C nc kc S ns ks ?_ (HPB w hSw) Try.underlying27 ?_ ?_; rfl; rfl; rfl; kernel_rfl)
        try simp only [Act.put, List.setIfInBounds_toArray, List.set_cons_zero, List.set_cons_succ]
        refine wpAnyH_ready (rs := [6]) (by kernel_rfl) (by simp) (AllReadyH.cons (o := { dst := some 150, op := _, type := _, pos := _, after := _, guard := _ }) rfl (fun K hK => ?_) AllReadyH.nil)
        go_simp
        refine (PM _ hHeld).mono ?_
        rintro e w6 ⟨rfl, b6⟩
        have s6 := below_on hHeld b6
        have dX6 : ∀ w', Below w6.heap.size w6 w' → ∀ c, (convert 31 9 (.slice (some ⟨bA, oA, none⟩) n c)).run Try.prog w' = .ok (.string (str xs)) w' := fun w' h => dX w' (below_on s6 h)
        go_wp2_with fail
        refine hK.out _ _ ?_ (fun hHeld => ?_)
        · exact below_on hHeld b6
        clear hK K
        try simp only [Act.put, List.setIfInBounds_toArray, List.set_cons_zero, List.set_cons_succ]
        refine wpAnyH_strong (S' := fun w' => Below w6.heap.size w6 w') (by intro w' h; exact below_on hHeld h) ?_
        replace hHeld : (fun w' => Below w6.heap.size w6 w') _ := Below.refl _ _
        refine wpAnyH_take (i := 7) (oi := { dst := some 151, op := _, type := _, pos := _, after := _, guard := _ }) (v := ?v4x8) rfl (by kernel_rfl) (by kernel_rfl) (by kernel_rfl) (fun _ _ _ h => h) (Or.inl ⟨by rfl, ?hy4x8⟩) hHeld ?rest4x8
        case hy4x8 => (intro w hSw; go_simp <;> with_reducible rfl)
        try simp only [Act.put, List.setIfInBounds_toArray, List.set_cons_zero, List.set_cons_succ]
        refine wpAnyH_take (i := 8) (oi := { dst := some 152, op := _, type := _, pos := _, after := _, guard := _ }) (v := ?v4x9) rfl (by kernel_rfl) (by kernel_rfl) (by kernel_rfl) (fun _ _ _ h => h) (Or.inl ⟨by rfl, ?hy4x9⟩) hHeld ?rest4x9
        case hy4x9 => (intro w hSw; go_simp <;> with_reducible rfl)
        try simp only [Act.put, List.setIfInBounds_toArray, List.set_cons_zero, List.set_cons_succ]
        refine wpAnyH_take (i := 9) (oi := { dst := some 153, op := _, type := _, pos := _, after := _, guard := _ }) (v := ?v4x10) rfl (by kernel_rfl) (by kernel_rfl) (by kernel_rfl) (fun _ _ _ h => h) (Or.inl ⟨by rfl, ?hy4x10⟩) hHeld ?rest4x10
        case hy4x10 => (intro w hSw; go_simp <;> with_reducible rfl)
        try simp only [Act.put, List.setIfInBounds_toArray, List.set_cons_zero, List.set_cons_succ]
        refine wpAnyH_take (i := 10) (oi := { dst := some 154, op := _, type := _, pos := _, after := _, guard := _ }) (v := ?v4x11) rfl (by kernel_rfl) (by kernel_rfl) (by kernel_rfl) (fun _ _ _ h => h) (Or.inl ⟨by rfl, ?hy4x11⟩) hHeld ?rest4x11
        case hy4x11 => (intro w hSw; refine exec_loadP 27 (.tmp 5) ?_ gp 27 p C nc kc S ns ks ?_ (HPB w (below_on s6 hSw)) Try.underlying27 ?_ ?_; rfl; rfl; rfl; kernel_rfl)
        try simp only [Act.put, List.setIfInBounds_toArray, List.set_cons_zero, List.set_cons_succ]
        refine wpAnyH_take (i := 13) (oi := { dst := some 157, op := _, type := _, pos := _, after := _, guard := _ }) (v := ?v4x12) rfl (by kernel_rfl) (by kernel_rfl) (by kernel_rfl) (fun _ _ _ h => h) (Or.inl ⟨by rfl, ?hy4x12⟩) hHeld ?rest4x12
        case hy4x12 => (intro w hSw; go_simp <;> with_reducible rfl)
        try simp only [Act.put, List.setIfInBounds_toArray, List.set_cons_zero, List.set_cons_succ]
        refine wpAnyH_take (i := 14) (oi := { dst := some 158, op := _, type := _, pos := _, after := _, guard := _ }) (v := ?v4x13) rfl (by kernel_rfl) (by kernel_rfl) (by kernel_rfl) (fun _ _ _ h => h) (Or.inl ⟨by rfl, ?hy4x13⟩) hHeld ?rest4x13
        case hy4x13 => (intro w hSw; go_simp <;> with_reducible rfl)
        try simp only [Act.put, List.setIfInBounds_toArray, List.set_cons_zero, List.set_cons_succ]
        refine wpAnyH_ready (rs := [11]) (by kernel_rfl) (by simp) (AllReadyH.cons (o := { dst := some 155, op := _, type := _, pos := _, after := _, guard := _ }) rfl (fun K hK => ?_) AllReadyH.nil)
        go_simp
        refine (PB _ (below_on s6 hHeld)).mono ?_
        rintro e w7 ⟨G, gk, rfl, hgk, r7, b7⟩
        have s7 := below_on s6 (below_on hHeld b7)
        have dG := strOn r7
        have dX7 : ∀ w', Below w7.heap.size w7 w' → ∀ c, (convert 31 9 (.slice (some ⟨bA, oA, none⟩) n c)).run Try.prog w' = .ok (.string (str xs)) w' := fun w' h => dX w' (below_on s7 h)
        clear dX6
        go_wp2_with fail
        refine hK.out _ _ ?_ (fun hHeld => ?_)
        · exact below_on hHeld b7
        clear hK K
        try simp only [Act.put, List.setIfInBounds_toArray, List.set_cons_zero, List.set_cons_succ]
        refine wpAnyH_strong (S' := fun w' => Below w7.heap.size w7 w') (by intro w' h; exact below_on hHeld h) ?_
        replace hHeld : (fun w' => Below w7.heap.size w7 w') _ := Below.refl _ _
        refine wpAnyH_take (i := 12) (oi := { dst := some 156, op := _, type := _, pos := _, after := _, guard := _ }) (v := ?v4x15) rfl (by kernel_rfl) (by kernel_rfl) (by kernel_rfl) (fun _ _ _ h => h) (Or.inl ⟨by rfl, ?hy4x15⟩) hHeld ?rest4x15
        case hy4x15 => (intro w hSw; go_simp <;> with_reducible rfl)
        try simp only [Act.put, List.setIfInBounds_toArray, List.set_cons_zero, List.set_cons_succ]
        refine wpAnyH_take (i := 15) (oi := { dst := some 159, op := _, type := _, pos := _, after := _, guard := _ }) (v := ?v4x16) rfl (by kernel_rfl) (by kernel_rfl) (by kernel_rfl) (fun _ _ _ h => h) (Or.inl ⟨by rfl, ?hy4x16⟩) hHeld ?rest4x16
        case hy4x16 => (intro w hSw; go_simp <;> with_reducible rfl)
        try simp only [Act.put, List.setIfInBounds_toArray, List.set_cons_zero, List.set_cons_succ]
        refine wpAnyH_take (i := 16) (oi := { dst := some 160, op := _, type := _, pos := _, after := _, guard := _ }) (v := ?v4x17) rfl (by kernel_rfl) (by kernel_rfl) (by kernel_rfl) (fun _ _ _ h => h) (Or.inl ⟨by rfl, ?hy4x17⟩) hHeld ?rest4x17
        case hy4x17 => (intro w hSw; go_simp <;> with_reducible rfl)
        try simp only [Act.put, List.setIfInBounds_toArray, List.set_cons_zero, List.set_cons_succ]
        refine wpAnyH_done (by kernel_rfl) ?_ _
        have hbel := below_on s7 hHeld
        clear hcr hcr0 dX HPB PM PB dG dX7
        have HS5 := hide (HS.out.mem hbel)
        go_upto_region 99 with (refine wpList_storeQ rfl 27 (.tmp 2) (.tmp 161) rfl gz 27 (zeroP 0) none 0 0 none 0 0 (zeroP 0) none 0 0 none 0 0 rfl rfl (HS5.out).hz (by kernel_rfl) ?_; intro V2 bV2 BV2)
        refine bodyPost_ret (results_cell_tmp rfl rfl bV2 Try.underlying27 rfl (by kernel_rfl)) rfl ?_
        refine HOP.out _ _ ?_
        rw [hO0]
        exact ⟨rfl, ((HS5.out).ans BV2).2.below (Below.refl _ _) hwgr (Nat.le_refl _)⟩
  · skip
    go_upto_region 40 with (go_at_call 46; refine (PW _ HS.out.hr).mono ?_; rintro e V3 ⟨rfl, r3, a3⟩; have HS := hide (HS.out.call r3 a3); have cc : V3.cell? ⟨gp, 2, none⟩ = some (.int .i64 0) := HS.out.hp.cell 2; have ff := HS.out.hp.frozen; clear r3 a3)
    have HS := hide (HS.out.set 2 (.int .i64 (id : Int)) ⟨_, false, (id : Int), [], [], 0, false, [], false, 0, false, false, false, [], [], false, [], []⟩ rfl)
    generalize V3.setCell ⟨gp, 2, none⟩ (.int .i64 (id : Int)) = V4 at *
    clear cc ff c0 PW
    have HS0 := HS
    have HPS := hide (show PkS p from by rw [← Hp.out]; simp [PkS])
    obtain ⟨C, nc, kc, S, ns, ks, HS, HM, HN, HOF⟩ : ∃ (C : Option Addr) (nc kc : Nat) (S : Option Addr) (ns ks : Nat), Hid (PsS w.heap.size w V4 gp gr gz p C nc kc S ns ks s) ∧ Hid (PkM V4 p C nc kc S ns ks) ∧ Hid (NewAt w C ∧ NewAt w S) ∧ Hid ((0 < nc → Off (fun i => i = gz) C) ∧ (0 < ns → Off (fun i => i = gz) S)) := ⟨none, 0, 0, none, 0, 0, hide (by rw [← Hp.out]; exact HS0.out), hide (pkM00 _ p (by rw [← Hp.out]; first | done | rfl) (by rw [← Hp.out]; first | done | rfl)), hide ⟨NewAt.nil _, NewAt.nil _⟩, hide ⟨fun h => by omega, fun h => by omega⟩⟩
    have HO := hide (show (if s.2 = true ∨ mayP p = false ∨ layP p ≠ xs then none else some p) = O from by have := HO.out; rw [HBR.out] at this; exact this)
    clear HS0 HBR
    go_upto_region 40 with fail
    have hwV : Below w.heap.size w V4 := HS.out.aft.below (Below.refl _ _) hwgr (Nat.le_refl _)
    have dX := strOn (HR.out.keep hwV)
    obtain ⟨ys, bd⟩ := s
    obtain ⟨A2, k2, hBr, -⟩ := HS.out.hr
    have hcr0 := hBr.cell 1
    simp only [List.getElem?_cons_zero, List.getElem?_cons_succ] at hcr0
    have hgrl := hBr.lt
    have hPl := HS.out.hp
    clear hBr
    cases bd with
    | true =>
      have hO0 : O = none := by rw [← HO.out, if_pos (Or.inl rfl)]
      have hcr : ∀ w', Below V4.heap.size V4 w' → w'.cell? ⟨gr, 1, none⟩ = some (.bool true) := fun w' h => (h.cell (p := ⟨gr, 1, none⟩) hgrl).trans hcr0
      refine wp_region_held_drew (S := fun w' => Below V4.heap.size V4 w') (by kernel_rfl) ?_ (fun hHeld => ?_)
      · exact (Below.refl _ _).drew
      refine wpAnyH_take (i := 0) (oi := { dst := some 144, op := _, type := _, pos := _, after := _, guard := _ }) (v := ?v5x1) rfl (by kernel_rfl) (by kernel_rfl) (by kernel_rfl) (fun _ _ _ h => h) (Or.inl ⟨by rfl, ?hy5x1⟩) hHeld ?rest5x1
      case hy5x1 => (intro w hSw; go_simp <;> with_reducible rfl)
      try simp only [Act.put, List.setIfInBounds_toArray, List.set_cons_zero, List.set_cons_succ]
      refine wpAnyH_take (i := 1) (oi := { dst := some 145, op := _, type := _, pos := _, after := _, guard := _ }) (v := ?v5x2) rfl (by kernel_rfl) (by kernel_rfl) (by kernel_rfl) (fun _ _ _ h => h) (Or.inl ⟨by rfl, ?hy5x2⟩) hHeld ?rest5x2
      case hy5x2 => (intro w hSw; go_simp <;> with_reducible rfl)
      try simp only [Act.put, List.setIfInBounds_toArray, List.set_cons_zero, List.set_cons_succ]
      refine wpAnyH_take (i := 2) (oi := { dst := some 146, op := _, type := _, pos := _, after := _, guard := _ }) (v := ?v5x3) rfl (by kernel_rfl) (by kernel_rfl) (by kernel_rfl) (fun _ _ _ h => h) (Or.inl ⟨by rfl, ?hy5x3⟩) hHeld ?rest5x3
      case hy5x3 => (intro w hSw; go_simp <;> with_reducible rfl)
      try simp only [Act.put, List.setIfInBounds_toArray, List.set_cons_zero, List.set_cons_succ]
      refine wpAnyH_take (i := 3) (oi := { dst := some 147, op := _, type := _, pos := _, after := _, guard := _ }) (v := ?v5x4) rfl (by kernel_rfl) (by kernel_rfl) (by kernel_rfl) (fun _ _ _ h => h) (Or.inl ⟨by rfl, ?hy5x4⟩) hHeld ?rest5x4
      case hy5x4 => (intro w hSw; go_simp <;> with_reducible rfl)
      try simp only [Act.put, List.setIfInBounds_toArray, List.set_cons_zero, List.set_cons_succ]
      refine wpAnyH_take (i := 4) (oi := { dst := some 148, op := _, type := _, pos := _, after := _, guard := _ }) (v := ?v5x5) rfl (by kernel_rfl) (by kernel_rfl) (by kernel_rfl) (fun _ _ _ h => h) (Or.inl ⟨by rfl, ?hy5x5⟩) hHeld ?rest5x5
      case hy5x5 => (intro w hSw; go_simp <;> with_reducible rfl)
      try simp only [Act.put, List.setIfInBounds_toArray, List.set_cons_zero, List.set_cons_succ]
      refine wpAnyH_take (i := 5) (oi := { dst := some 149, op := _, type := _, pos := _, after := _, guard := _ }) (v := undef) rfl (by kernel_rfl) (by kernel_rfl) (by kernel_rfl) (fun _ _ _ h => h) (Or.inr ⟨by rfl, rfl⟩) hHeld ?_
      try simp only [Act.put, List.setIfInBounds_toArray, List.set_cons_zero, List.set_cons_succ]
      refine wpAnyH_take (i := 6) (oi := { dst := some 150, op := _, type := _, pos := _, after := _, guard := _ }) (v := undef) rfl (by kernel_rfl) (by kernel_rfl) (by kernel_rfl) (fun _ _ _ h => h) (Or.inr ⟨by rfl, rfl⟩) hHeld ?_
      try simp only [Act.put, List.setIfInBounds_toArray, List.set_cons_zero, List.set_cons_succ]
      refine wpAnyH_take (i := 7) (oi := { dst := some 151, op := _, type := _, pos := _, after := _, guard := _ }) (v := undef) rfl (by kernel_rfl) (by kernel_rfl) (by kernel_rfl) (fun _ _ _ h => h) (Or.inr ⟨by rfl, rfl⟩) hHeld ?_
      try simp only [Act.put, List.setIfInBounds_toArray, List.set_cons_zero, List.set_cons_succ]
      refine wpAnyH_take (i := 8) (oi := { dst := some 152, op := _, type := _, pos := _, after := _, guard := _ }) (v := ?v5x9) rfl (by kernel_rfl) (by kernel_rfl) (by kernel_rfl) (fun _ _ _ h => h) (Or.inl ⟨by rfl, ?hy5x9⟩) hHeld ?rest5x9
      case hy5x9 => (intro w hSw; go_simp <;> with_reducible rfl)
      try simp only [Act.put, List.setIfInBounds_toArray, List.set_cons_zero, List.set_cons_succ]
      refine wpAnyH_take (i := 9) (oi := { dst := some 153, op := _, type := _, pos := _, after := _, guard := _ }) (v := ?v5x10) rfl (by kernel_rfl) (by kernel_rfl) (by kernel_rfl) (fun _ _ _ h => h) (Or.inl ⟨by rfl, ?hy5x10⟩) hHeld ?rest5x10
      case hy5x10 => (intro w hSw; go_simp <;> with_reducible rfl)
      try simp only [Act.put, List.setIfInBounds_toArray, List.set_cons_zero, List.set_cons_succ]
      refine wpAnyH_take (i := 10) (oi := { dst := some 154, op := _, type := _, pos := _, after := _, guard := _ }) (v := undef) rfl (by kernel_rfl) (by kernel_rfl) (by kernel_rfl) (fun _ _ _ h => h) (Or.inr ⟨by rfl, rfl⟩) hHeld ?_
      try simp only [Act.put, List.setIfInBounds_toArray, List.set_cons_zero, List.set_cons_succ]
      refine wpAnyH_take (i := 11) (oi := { dst := some 155, op := _, type := _, pos := _, after := _, guard := _ }) (v := undef) rfl (by kernel_rfl) (by kernel_rfl) (by kernel_rfl) (fun _ _ _ h => h) (Or.inr ⟨by rfl, rfl⟩) hHeld ?_
      try simp only [Act.put, List.setIfInBounds_toArray, List.set_cons_zero, List.set_cons_succ]
      refine wpAnyH_take (i := 12) (oi := { dst := some 156, op := _, type := _, pos := _, after := _, guard := _ }) (v := undef) rfl (by kernel_rfl) (by kernel_rfl) (by kernel_rfl) (fun _ _ _ h => h) (Or.inr ⟨by rfl, rfl⟩) hHeld ?_
      try simp only [Act.put, List.setIfInBounds_toArray, List.set_cons_zero, List.set_cons_succ]
      refine wpAnyH_take (i := 13) (oi := { dst := some 157, op := _, type := _, pos := _, after := _, guard := _ }) (v := undef) rfl (by kernel_rfl) (by kernel_rfl) (by kernel_rfl) (fun _ _ _ h => h) (Or.inr ⟨by rfl, rfl⟩) hHeld ?_
      try simp only [Act.put, List.setIfInBounds_toArray, List.set_cons_zero, List.set_cons_succ]
      refine wpAnyH_take (i := 14) (oi := { dst := some 158, op := _, type := _, pos := _, after := _, guard := _ }) (v := undef) rfl (by kernel_rfl) (by kernel_rfl) (by kernel_rfl) (fun _ _ _ h => h) (Or.inr ⟨by rfl, rfl⟩) hHeld ?_
      try simp only [Act.put, List.setIfInBounds_toArray, List.set_cons_zero, List.set_cons_succ]
      refine wpAnyH_take (i := 15) (oi := { dst := some 159, op := _, type := _, pos := _, after := _, guard := _ }) (v := undef) rfl (by kernel_rfl) (by kernel_rfl) (by kernel_rfl) (fun _ _ _ h => h) (Or.inr ⟨by rfl, rfl⟩) hHeld ?_
      try simp only [Act.put, List.setIfInBounds_toArray, List.set_cons_zero, List.set_cons_succ]
      refine wpAnyH_take (i := 16) (oi := { dst := some 160, op := _, type := _, pos := _, after := _, guard := _ }) (v := ?v5x17) rfl (by kernel_rfl) (by kernel_rfl) (by kernel_rfl) (fun _ _ _ h => h) (Or.inl ⟨by rfl, ?hy5x17⟩) hHeld ?rest5x17
      case hy5x17 => (intro w hSw; go_simp <;> with_reducible rfl)
      try simp only [Act.put, List.setIfInBounds_toArray, List.set_cons_zero, List.set_cons_succ]
      refine wpAnyH_done (by kernel_rfl) ?_ _
      clear hcr hcr0 dX
      have HS5 := hide (HS.out.mem hHeld)
      go_upto_region 99 with (refine wpList_storeQ rfl 27 (.tmp 2) (.tmp 161) rfl gz 27 (zeroP 0) none 0 0 none 0 0 (zeroP 0) none 0 0 none 0 0 rfl rfl (HS5.out).hz (by kernel_rfl) ?_; intro V2 bV2 BV2)
      refine bodyPost_ret (results_cell_tmp rfl rfl bV2 Try.underlying27 rfl (by kernel_rfl)) rfl ?_
      refine HOP.out _ _ ?_
      rw [hO0]
      exact ⟨rfl, ((HS5.out).ans BV2).2.below (Below.refl _ _) hwgr (Nat.le_refl _)⟩
    | false =>
      have hcr : ∀ w', Below V4.heap.size V4 w' → w'.cell? ⟨gr, 1, none⟩ = some (.bool false) := fun w' h => (h.cell (p := ⟨gr, 1, none⟩) hgrl).trans hcr0
      have HPB : ∀ w', Below V4.heap.size V4 w' → Blk w' gp 27 (pkVs p C nc kc S ns ks) := fun w' h => hPl.keep h
      have PM := fun W (hb : Below V4.heap.size V4 W) => may_any p C nc kc S ns ks W (HM.out.keep hb) HPS.out
      by_cases hmv : mayP p = true
      case neg =>
        have hmf : mayP p = false := by rw [← Bool.not_eq_true]; exact hmv
        have hO0 : O = none := by rw [← HO.out, if_pos (Or.inr (Or.inl hmf))]
        rw [hmf] at PM
        clear hmv
        refine wp_region_held_drew (S := fun w' => Below V4.heap.size V4 w') (by kernel_rfl) ?_ (fun hHeld => ?_)
        · exact (Below.refl _ _).drew
        refine wpAnyH_take (i := 0) (oi := { dst := some 144, op := _, type := _, pos := _, after := _, guard := _ }) (v := ?v6x1) rfl (by kernel_rfl) (by kernel_rfl) (by kernel_rfl) (fun _ _ _ h => h) (Or.inl ⟨by rfl, ?hy6x1⟩) hHeld ?rest6x1
        case hy6x1 => (intro w hSw; go_simp <;> with_reducible rfl)
        try simp only [Act.put, List.setIfInBounds_toArray, List.set_cons_zero, List.set_cons_succ]
        refine wpAnyH_take (i := 1) (oi := { dst := some 145, op := _, type := _, pos := _, after := _, guard := _ }) (v := ?v6x2) rfl (by kernel_rfl) (by kernel_rfl) (by kernel_rfl) (fun _ _ _ h => h) (Or.inl ⟨by rfl, ?hy6x2⟩) hHeld ?rest6x2
        case hy6x2 => (intro w hSw; go_simp <;> with_reducible rfl)
        try simp only [Act.put, List.setIfInBounds_toArray, List.set_cons_zero, List.set_cons_succ]
        refine wpAnyH_take (i := 2) (oi := { dst := some 146, op := _, type := _, pos := _, after := _, guard := _ }) (v := ?v6x3) rfl (by kernel_rfl) (by kernel_rfl) (by kernel_rfl) (fun _ _ _ h => h) (Or.inl ⟨by rfl, ?hy6x3⟩) hHeld ?rest6x3
        case hy6x3 => (intro w hSw; go_simp <;> with_reducible rfl)
        try simp only [Act.put, List.setIfInBounds_toArray, List.set_cons_zero, List.set_cons_succ]
        refine wpAnyH_take (i := 3) (oi := { dst := some 147, op := _, type := _, pos := _, after := _, guard := _ }) (v := ?v6x4) rfl (by kernel_rfl) (by kernel_rfl) (by kernel_rfl) (fun _ _ _ h => h) (Or.inl ⟨by rfl, ?hy6x4⟩) hHeld ?rest6x4
        case hy6x4 => (intro w hSw; go_simp <;> with_reducible rfl)
        try simp only [Act.put, List.setIfInBounds_toArray, List.set_cons_zero, List.set_cons_succ]
        refine wpAnyH_take (i := 4) (oi := { dst := some 148, op := _, type := _, pos := _, after := _, guard := _ }) (v := ?v6x5) rfl (by kernel_rfl) (by kernel_rfl) (by kernel_rfl) (fun _ _ _ h => h) (Or.inl ⟨by rfl, ?hy6x5⟩) hHeld ?rest6x5
        case hy6x5 => (intro w hSw; go_simp <;> with_reducible rfl)
        try simp only [Act.put, List.setIfInBounds_toArray, List.set_cons_zero, List.set_cons_succ]
        refine wpAnyH_take (i := 5) (oi := { dst := some 149, op := _, type := _, pos := _, after := _, guard := _ }) (v := ?v6x6) rfl (by kernel_rfl) (by kernel_rfl) (by kernel_rfl) (fun _ _ _ h => h) (Or.inl ⟨by rfl, ?hy6x6⟩) hHeld ?rest6x6
        case hy6x6 => (intro w hSw; refine exec_loadP 27 (.tmp 5) ?_ gp 27 p C nc kc S ns ks ?_ (HPB w hSw) Try.underlying27 ?_ ?_; rfl; rfl; rfl; kernel_rfl)
        try simp only [Act.put, List.setIfInBounds_toArray, List.set_cons_zero, List.set_cons_succ]
        refine wpAnyH_ready (rs := [6]) (by kernel_rfl) (by simp) (AllReadyH.cons (o := { dst := some 150, op := _, type := _, pos := _, after := _, guard := _ }) rfl (fun K hK => ?_) AllReadyH.nil)
        go_simp
        refine (PM _ hHeld).mono ?_
        rintro e w6 ⟨rfl, b6⟩
        have s6 := below_on hHeld b6
        go_wp2_with fail
        refine hK.out _ _ ?_ (fun hHeld => ?_)
        · exact s6
        clear hK K
        try simp only [Act.put, List.setIfInBounds_toArray, List.set_cons_zero, List.set_cons_succ]
        refine wpAnyH_take (i := 7) (oi := { dst := some 151, op := _, type := _, pos := _, after := _, guard := _ }) (v := ?v6x8) rfl (by kernel_rfl) (by kernel_rfl) (by kernel_rfl) (fun _ _ _ h => h) (Or.inl ⟨by rfl, ?hy6x8⟩) hHeld ?rest6x8
        case hy6x8 => (intro w hSw; go_simp <;> with_reducible rfl)
        try simp only [Act.put, List.setIfInBounds_toArray, List.set_cons_zero, List.set_cons_succ]
        refine wpAnyH_take (i := 8) (oi := { dst := some 152, op := _, type := _, pos := _, after := _, guard := _ }) (v := ?v6x9) rfl (by kernel_rfl) (by kernel_rfl) (by kernel_rfl) (fun _ _ _ h => h) (Or.inl ⟨by rfl, ?hy6x9⟩) hHeld ?rest6x9
        case hy6x9 => (intro w hSw; go_simp <;> with_reducible rfl)
        try simp only [Act.put, List.setIfInBounds_toArray, List.set_cons_zero, List.set_cons_succ]
        refine wpAnyH_take (i := 9) (oi := { dst := some 153, op := _, type := _, pos := _, after := _, guard := _ }) (v := ?v6x10) rfl (by kernel_rfl) (by kernel_rfl) (by kernel_rfl) (fun _ _ _ h => h) (Or.inl ⟨by rfl, ?hy6x10⟩) hHeld ?rest6x10
        case hy6x10 => (intro w hSw; go_simp <;> with_reducible rfl)
        try simp only [Act.put, List.setIfInBounds_toArray, List.set_cons_zero, List.set_cons_succ]
        refine wpAnyH_take (i := 10) (oi := { dst := some 154, op := _, type := _, pos := _, after := _, guard := _ }) (v := undef) rfl (by kernel_rfl) (by kernel_rfl) (by kernel_rfl) (fun _ _ _ h => h) (Or.inr ⟨by rfl, rfl⟩) hHeld ?_
        try simp only [Act.put, List.setIfInBounds_toArray, List.set_cons_zero, List.set_cons_succ]
        refine wpAnyH_take (i := 11) (oi := { dst := some 155, op := _, type := _, pos := _, after := _, guard := _ }) (v := undef) rfl (by kernel_rfl) (by kernel_rfl) (by kernel_rfl) (fun _ _ _ h => h) (Or.inr ⟨by rfl, rfl⟩) hHeld ?_
        try simp only [Act.put, List.setIfInBounds_toArray, List.set_cons_zero, List.set_cons_succ]
        refine wpAnyH_take (i := 12) (oi := { dst := some 156, op := _, type := _, pos := _, after := _, guard := _ }) (v := undef) rfl (by kernel_rfl) (by kernel_rfl) (by kernel_rfl) (fun _ _ _ h => h) (Or.inr ⟨by rfl, rfl⟩) hHeld ?_
        try simp only [Act.put, List.setIfInBounds_toArray, List.set_cons_zero, List.set_cons_succ]
        refine wpAnyH_take (i := 13) (oi := { dst := some 157, op := _, type := _, pos := _, after := _, guard := _ }) (v := undef) rfl (by kernel_rfl) (by kernel_rfl) (by kernel_rfl) (fun _ _ _ h => h) (Or.inr ⟨by rfl, rfl⟩) hHeld ?_
        try simp only [Act.put, List.setIfInBounds_toArray, List.set_cons_zero, List.set_cons_succ]
        refine wpAnyH_take (i := 14) (oi := { dst := some 158, op := _, type := _, pos := _, after := _, guard := _ }) (v := undef) rfl (by kernel_rfl) (by kernel_rfl) (by kernel_rfl) (fun _ _ _ h => h) (Or.inr ⟨by rfl, rfl⟩) hHeld ?_
        try simp only [Act.put, List.setIfInBounds_toArray, List.set_cons_zero, List.set_cons_succ]
        refine wpAnyH_take (i := 15) (oi := { dst := some 159, op := _, type := _, pos := _, after := _, guard := _ }) (v := undef) rfl (by kernel_rfl) (by kernel_rfl) (by kernel_rfl) (fun _ _ _ h => h) (Or.inr ⟨by rfl, rfl⟩) hHeld ?_
        try simp only [Act.put, List.setIfInBounds_toArray, List.set_cons_zero, List.set_cons_succ]
        refine wpAnyH_take (i := 16) (oi := { dst := some 160, op := _, type := _, pos := _, after := _, guard := _ }) (v := ?v6x17) rfl (by kernel_rfl) (by kernel_rfl) (by kernel_rfl) (fun _ _ _ h => h) (Or.inl ⟨by rfl, ?hy6x17⟩) hHeld ?rest6x17
        case hy6x17 => (intro w hSw; go_simp <;> with_reducible rfl)
        try simp only [Act.put, List.setIfInBounds_toArray, List.set_cons_zero, List.set_cons_succ]
        refine wpAnyH_done (by kernel_rfl) ?_ _
        clear hcr hcr0 dX HPB PM
        have HS5 := hide (HS.out.mem hHeld)
        go_upto_region 99 with (refine wpList_storeQ rfl 27 (.tmp 2) (.tmp 161) rfl gz 27 (zeroP 0) none 0 0 none 0 0 (zeroP 0) none 0 0 none 0 0 rfl rfl (HS5.out).hz (by kernel_rfl) ?_; intro V2 bV2 BV2)
        refine bodyPost_ret (results_cell_tmp rfl rfl bV2 Try.underlying27 rfl (by kernel_rfl)) rfl ?_
        refine HOP.out _ _ ?_
        rw [hO0]
        exact ⟨rfl, ((HS5.out).ans BV2).2.below (Below.refl _ _) hwgr (Nat.le_refl _)⟩
      case pos =>
      have PB := fun W (hb : Below V4.heap.size V4 W) => rBytes10_any p C nc kc S ns ks W (HM.out.keep hb) HPS.out hmv
      rw [hmv] at PM
      by_cases hl : layP p = xs
      case pos =>
        have hO0 : O = some p := by rw [← HO.out, if_neg (by rw [hmv]; simp [hl])]
        rw [hl] at PB
        refine wp_region_held_drew (S := fun w' => Below V4.heap.size V4 w') (by kernel_rfl) ?_ (fun hHeld => ?_)
        · exact (Below.refl _ _).drew
        refine wpAnyH_take (i := 0) (oi := { dst := some 144, op := _, type := _, pos := _, after := _, guard := _ }) (v := ?v7x1) rfl (by kernel_rfl) (by kernel_rfl) (by kernel_rfl) (fun _ _ _ h => h) (Or.inl ⟨by rfl, ?hy7x1⟩) hHeld ?rest7x1
        case hy7x1 => (intro w hSw; go_simp <;> with_reducible rfl)
        try simp only [Act.put, List.setIfInBounds_toArray, List.set_cons_zero, List.set_cons_succ]
        refine wpAnyH_take (i := 1) (oi := { dst := some 145, op := _, type := _, pos := _, after := _, guard := _ }) (v := ?v7x2) rfl (by kernel_rfl) (by kernel_rfl) (by kernel_rfl) (fun _ _ _ h => h) (Or.inl ⟨by rfl, ?hy7x2⟩) hHeld ?rest7x2
        case hy7x2 => (intro w hSw; go_simp <;> with_reducible rfl)
        try simp only [Act.put, List.setIfInBounds_toArray, List.set_cons_zero, List.set_cons_succ]
        refine wpAnyH_take (i := 2) (oi := { dst := some 146, op := _, type := _, pos := _, after := _, guard := _ }) (v := ?v7x3) rfl (by kernel_rfl) (by kernel_rfl) (by kernel_rfl) (fun _ _ _ h => h) (Or.inl ⟨by rfl, ?hy7x3⟩) hHeld ?rest7x3
        case hy7x3 => (intro w hSw; go_simp <;> with_reducible rfl)
        try simp only [Act.put, List.setIfInBounds_toArray, List.set_cons_zero, List.set_cons_succ]
        refine wpAnyH_take (i := 3) (oi := { dst := some 147, op := _, type := _, pos := _, after := _, guard := _ }) (v := ?v7x4) rfl (by kernel_rfl) (by kernel_rfl) (by kernel_rfl) (fun _ _ _ h => h) (Or.inl ⟨by rfl, ?hy7x4⟩) hHeld ?rest7x4
        case hy7x4 => (intro w hSw; go_simp <;> with_reducible rfl)
        try simp only [Act.put, List.setIfInBounds_toArray, List.set_cons_zero, List.set_cons_succ]
        refine wpAnyH_take (i := 4) (oi := { dst := some 148, op := _, type := _, pos := _, after := _, guard := _ }) (v := ?v7x5) rfl (by kernel_rfl) (by kernel_rfl) (by kernel_rfl) (fun _ _ _ h => h) (Or.inl ⟨by rfl, ?hy7x5⟩) hHeld ?rest7x5
        case hy7x5 => (intro w hSw; go_simp <;> with_reducible rfl)
        try simp only [Act.put, List.setIfInBounds_toArray, List.set_cons_zero, List.set_cons_succ]
        refine wpAnyH_take (i := 5) (oi := { dst := some 149, op := _, type := _, pos := _, after := _, guard := _ }) (v := ?v7x6) rfl (by kernel_rfl) (by kernel_rfl) (by kernel_rfl) (fun _ _ _ h => h) (Or.inl ⟨by rfl, ?hy7x6⟩) hHeld ?rest7x6
        case hy7x6 => (intro w hSw; refine exec_loadP 27 (.tmp 5) ?_ gp 27 p C nc kc S ns ks ?_ (HPB w hSw) Try.underlying27 ?_ ?_; rfl; rfl; rfl; kernel_rfl)
        try simp only [Act.put, List.setIfInBounds_toArray, List.set_cons_zero, List.set_cons_succ]
        refine wpAnyH_ready (rs := [6]) (by kernel_rfl) (by simp) (AllReadyH.cons (o := { dst := some 150, op := _, type := _, pos := _, after := _, guard := _ }) rfl (fun K hK => ?_) AllReadyH.nil)
        go_simp
        refine (PM _ hHeld).mono ?_
        rintro e w6 ⟨rfl, b6⟩
        have s6 := below_on hHeld b6
        have dX6 : ∀ w', Below w6.heap.size w6 w' → ∀ c, (convert 31 9 (.slice (some ⟨bA, oA, none⟩) n c)).run Try.prog w' = .ok (.string (str xs)) w' := fun w' h => dX w' (below_on s6 h)
        go_wp2_with fail
        refine hK.out _ _ ?_ (fun hHeld => ?_)
        · exact below_on hHeld b6
        clear hK K
        try simp only [Act.put, List.setIfInBounds_toArray, List.set_cons_zero, List.set_cons_succ]
        refine wpAnyH_strong (S' := fun w' => Below w6.heap.size w6 w') (by intro w' h; exact below_on hHeld h) ?_
        replace hHeld : (fun w' => Below w6.heap.size w6 w') _ := Below.refl _ _
        refine wpAnyH_take (i := 7) (oi := { dst := some 151, op := _, type := _, pos := _, after := _, guard := _ }) (v := ?v7x8) rfl (by kernel_rfl) (by kernel_rfl) (by kernel_rfl) (fun _ _ _ h => h) (Or.inl ⟨by rfl, ?hy7x8⟩) hHeld ?rest7x8
        case hy7x8 => (intro w hSw; go_simp <;> with_reducible rfl)
        try simp only [Act.put, List.setIfInBounds_toArray, List.set_cons_zero, List.set_cons_succ]
        refine wpAnyH_take (i := 8) (oi := { dst := some 152, op := _, type := _, pos := _, after := _, guard := _ }) (v := ?v7x9) rfl (by kernel_rfl) (by kernel_rfl) (by kernel_rfl) (fun _ _ _ h => h) (Or.inl ⟨by rfl, ?hy7x9⟩) hHeld ?rest7x9
        case hy7x9 => (intro w hSw; go_simp <;> with_reducible rfl)
        try simp only [Act.put, List.setIfInBounds_toArray, List.set_cons_zero, List.set_cons_succ]
        refine wpAnyH_take (i := 9) (oi := { dst := some 153, op := _, type := _, pos := _, after := _, guard := _ }) (v := ?v7x10) rfl (by kernel_rfl) (by kernel_rfl) (by kernel_rfl) (fun _ _ _ h => h) (Or.inl ⟨by rfl, ?hy7x10⟩) hHeld ?rest7x10
        case hy7x10 => (intro w hSw; go_simp <;> with_reducible rfl)
        try simp only [Act.put, List.setIfInBounds_toArray, List.set_cons_zero, List.set_cons_succ]
        refine wpAnyH_take (i := 10) (oi := { dst := some 154, op := _, type := _, pos := _, after := _, guard := _ }) (v := ?v7x11) rfl (by kernel_rfl) (by kernel_rfl) (by kernel_rfl) (fun _ _ _ h => h) (Or.inl ⟨by rfl, ?hy7x11⟩) hHeld ?rest7x11
        case hy7x11 => (intro w hSw; refine exec_loadP 27 (.tmp 5) ?_ gp 27 p C nc kc S ns ks ?_ (HPB w (below_on s6 hSw)) Try.underlying27 ?_ ?_; rfl; rfl; rfl; kernel_rfl)
        try simp only [Act.put, List.setIfInBounds_toArray, List.set_cons_zero, List.set_cons_succ]
        refine wpAnyH_take (i := 13) (oi := { dst := some 157, op := _, type := _, pos := _, after := _, guard := _ }) (v := ?v7x12) rfl (by kernel_rfl) (by kernel_rfl) (by kernel_rfl) (fun _ _ _ h => h) (Or.inl ⟨by rfl, ?hy7x12⟩) hHeld ?rest7x12
        case hy7x12 => (intro w hSw; go_simp <;> with_reducible rfl)
        try simp only [Act.put, List.setIfInBounds_toArray, List.set_cons_zero, List.set_cons_succ]
        refine wpAnyH_take (i := 14) (oi := { dst := some 158, op := _, type := _, pos := _, after := _, guard := _ }) (v := ?v7x13) rfl (by kernel_rfl) (by kernel_rfl) (by kernel_rfl) (fun _ _ _ h => h) (Or.inl ⟨by rfl, ?hy7x13⟩) hHeld ?rest7x13
        case hy7x13 => (intro w hSw; go_simp <;> with_reducible rfl)
        try simp only [Act.put, List.setIfInBounds_toArray, List.set_cons_zero, List.set_cons_succ]
        refine wpAnyH_ready (rs := [11]) (by kernel_rfl) (by simp) (AllReadyH.cons (o := { dst := some 155, op := _, type := _, pos := _, after := _, guard := _ }) rfl (fun K hK => ?_) AllReadyH.nil)
        go_simp
        refine (PB _ (below_on s6 hHeld)).mono ?_
        rintro e w7 ⟨G, gk, rfl, hgk, r7, b7⟩
        have s7 := below_on s6 (below_on hHeld b7)
        have dG := strOn r7
        have dX7 : ∀ w', Below w7.heap.size w7 w' → ∀ c, (convert 31 9 (.slice (some ⟨bA, oA, none⟩) n c)).run Try.prog w' = .ok (.string (str xs)) w' := fun w' h => dX w' (below_on s7 h)
        clear dX6
        go_wp2_with fail
        refine hK.out _ _ ?_ (fun hHeld => ?_)
        · exact below_on hHeld b7
        clear hK K
        try simp only [Act.put, List.setIfInBounds_toArray, List.set_cons_zero, List.set_cons_succ]
        refine wpAnyH_strong (S' := fun w' => Below w7.heap.size w7 w') (by intro w' h; exact below_on hHeld h) ?_
        replace hHeld : (fun w' => Below w7.heap.size w7 w') _ := Below.refl _ _
        refine wpAnyH_take (i := 12) (oi := { dst := some 156, op := _, type := _, pos := _, after := _, guard := _ }) (v := ?v7x15) rfl (by kernel_rfl) (by kernel_rfl) (by kernel_rfl) (fun _ _ _ h => h) (Or.inl ⟨by rfl, ?hy7x15⟩) hHeld ?rest7x15
        case hy7x15 => (intro w hSw; go_simp <;> with_reducible rfl)
        try simp only [Act.put, List.setIfInBounds_toArray, List.set_cons_zero, List.set_cons_succ]
        refine wpAnyH_take (i := 15) (oi := { dst := some 159, op := _, type := _, pos := _, after := _, guard := _ }) (v := ?v7x16) rfl (by kernel_rfl) (by kernel_rfl) (by kernel_rfl) (fun _ _ _ h => h) (Or.inl ⟨by rfl, ?hy7x16⟩) hHeld ?rest7x16
        case hy7x16 => (intro w hSw; go_simp <;> with_reducible rfl)
        try simp only [Act.put, List.setIfInBounds_toArray, List.set_cons_zero, List.set_cons_succ]
        refine wpAnyH_take (i := 16) (oi := { dst := some 160, op := _, type := _, pos := _, after := _, guard := _ }) (v := ?v7x17) rfl (by kernel_rfl) (by kernel_rfl) (by kernel_rfl) (fun _ _ _ h => h) (Or.inl ⟨by rfl, ?hy7x17⟩) hHeld ?rest7x17
        case hy7x17 => (intro w hSw; go_simp <;> with_reducible rfl)
        try simp only [Act.put, List.setIfInBounds_toArray, List.set_cons_zero, List.set_cons_succ]
        refine wpAnyH_done (by kernel_rfl) ?_ _
        have hbel := below_on s7 hHeld
        clear hcr hcr0 dX HPB PM PB dG dX7
        have HS5 := hide (HS.out.mem hbel)
        have HM5 := hide (HM.out.keep hbel)
        go_upto_region 99 with (first
          | (refine wpList_loadP rfl 27 (.tmp 5) rfl gp 27 p C nc kc S ns ks rfl HS5.out.hp Try.underlying27 rfl (by kernel_rfl) ?_)
          | (refine wpList_storeQ rfl 27 (.tmp 2) (.tmp 162) rfl gz 27 (zeroP 0) none 0 0 none 0 0 p C nc kc S ns ks rfl rfl HS5.out.hz (by kernel_rfl) ?_; intro V2 bV2 BV2))
        refine bodyPost_ret (results_cell_tmp rfl rfl bV2 Try.underlying27 rfl (by kernel_rfl)) rfl ?_
        refine HOP.out _ _ ?_
        rw [hO0]
        exact ⟨C, nc, kc, S, ns, ks, rfl, HN.out.1, HN.out.2, PkM_but HM5.out BV2 HOF.out.1 HOF.out.2, (HS5.out.ans BV2).2.below (Below.refl _ _) hwgr (Nat.le_refl _)⟩
      case neg =>
        have hO0 : O = none := by rw [← HO.out, if_pos (Or.inr (Or.inr hl))]
        have hlb : (layP p == xs) = false := by rw [beq_eq_false_iff_ne]; exact hl
        clear hl
        refine wp_region_held_drew (S := fun w' => Below V4.heap.size V4 w') (by kernel_rfl) ?_ (fun hHeld => ?_)
        · exact (Below.refl _ _).drew
        refine wpAnyH_take (i := 0) (oi := { dst := some 144, op := _, type := _, pos := _, after := _, guard := _ }) (v := ?v8x1) rfl (by kernel_rfl) (by kernel_rfl) (by kernel_rfl) (fun _ _ _ h => h) (Or.inl ⟨by rfl, ?hy8x1⟩) hHeld ?rest8x1
        case hy8x1 => (intro w hSw; go_simp <;> with_reducible rfl)
        try simp only [Act.put, List.setIfInBounds_toArray, List.set_cons_zero, List.set_cons_succ]
        refine wpAnyH_take (i := 1) (oi := { dst := some 145, op := _, type := _, pos := _, after := _, guard := _ }) (v := ?v8x2) rfl (by kernel_rfl) (by kernel_rfl) (by kernel_rfl) (fun _ _ _ h => h) (Or.inl ⟨by rfl, ?hy8x2⟩) hHeld ?rest8x2
        case hy8x2 => (intro w hSw; go_simp <;> with_reducible rfl)
        try simp only [Act.put, List.setIfInBounds_toArray, List.set_cons_zero, List.set_cons_succ]
        refine wpAnyH_take (i := 2) (oi := { dst := some 146, op := _, type := _, pos := _, after := _, guard := _ }) (v := ?v8x3) rfl (by kernel_rfl) (by kernel_rfl) (by kernel_rfl) (fun _ _ _ h => h) (Or.inl ⟨by rfl, ?hy8x3⟩) hHeld ?rest8x3
        case hy8x3 => (intro w hSw; go_simp <;> with_reducible rfl)
        try simp only [Act.put, List.setIfInBounds_toArray, List.set_cons_zero, List.set_cons_succ]
        refine wpAnyH_take (i := 3) (oi := { dst := some 147, op := _, type := _, pos := _, after := _, guard := _ }) (v := ?v8x4) rfl (by kernel_rfl) (by kernel_rfl) (by kernel_rfl) (fun _ _ _ h => h) (Or.inl ⟨by rfl, ?hy8x4⟩) hHeld ?rest8x4
        case hy8x4 => (intro w hSw; go_simp <;> with_reducible rfl)
        try simp only [Act.put, List.setIfInBounds_toArray, List.set_cons_zero, List.set_cons_succ]
        refine wpAnyH_take (i := 4) (oi := { dst := some 148, op := _, type := _, pos := _, after := _, guard := _ }) (v := ?v8x5) rfl (by kernel_rfl) (by kernel_rfl) (by kernel_rfl) (fun _ _ _ h => h) (Or.inl ⟨by rfl, ?hy8x5⟩) hHeld ?rest8x5
        case hy8x5 => (intro w hSw; go_simp <;> with_reducible rfl)
        try simp only [Act.put, List.setIfInBounds_toArray, List.set_cons_zero, List.set_cons_succ]
        refine wpAnyH_take (i := 5) (oi := { dst := some 149, op := _, type := _, pos := _, after := _, guard := _ }) (v := ?v8x6) rfl (by kernel_rfl) (by kernel_rfl) (by kernel_rfl) (fun _ _ _ h => h) (Or.inl ⟨by rfl, ?hy8x6⟩) hHeld ?rest8x6
        case hy8x6 => (intro w hSw; refine exec_loadP 27 (.tmp 5) ?_ gp 27 p C nc kc S ns ks ?_ (HPB w hSw) Try.underlying27 ?_ ?_; rfl; rfl; rfl; kernel_rfl)
        try simp only [Act.put, List.setIfInBounds_toArray, List.set_cons_zero, List.set_cons_succ]
        refine wpAnyH_ready (rs := [6]) (by kernel_rfl) (by simp) (AllReadyH.cons (o := { dst := some 150, op := _, type := _, pos := _, after := _, guard := _ }) rfl (fun K hK => ?_) AllReadyH.nil)
        go_simp
        refine (PM _ hHeld).mono ?_
        rintro e w6 ⟨rfl, b6⟩
        have s6 := below_on hHeld b6
        have dX6 : ∀ w', Below w6.heap.size w6 w' → ∀ c, (convert 31 9 (.slice (some ⟨bA, oA, none⟩) n c)).run Try.prog w' = .ok (.string (str xs)) w' := fun w' h => dX w' (below_on s6 h)
        go_wp2_with fail
        refine hK.out _ _ ?_ (fun hHeld => ?_)
        · exact below_on hHeld b6
        clear hK K
        try simp only [Act.put, List.setIfInBounds_toArray, List.set_cons_zero, List.set_cons_succ]
        refine wpAnyH_strong (S' := fun w' => Below w6.heap.size w6 w') (by intro w' h; exact below_on hHeld h) ?_
        replace hHeld : (fun w' => Below w6.heap.size w6 w') _ := Below.refl _ _
        refine wpAnyH_take (i := 7) (oi := { dst := some 151, op := _, type := _, pos := _, after := _, guard := _ }) (v := ?v8x8) rfl (by kernel_rfl) (by kernel_rfl) (by kernel_rfl) (fun _ _ _ h => h) (Or.inl ⟨by rfl, ?hy8x8⟩) hHeld ?rest8x8
        case hy8x8 => (intro w hSw; go_simp <;> with_reducible rfl)
        try simp only [Act.put, List.setIfInBounds_toArray, List.set_cons_zero, List.set_cons_succ]
        refine wpAnyH_take (i := 8) (oi := { dst := some 152, op := _, type := _, pos := _, after := _, guard := _ }) (v := ?v8x9) rfl (by kernel_rfl) (by kernel_rfl) (by kernel_rfl) (fun _ _ _ h => h) (Or.inl ⟨by rfl, ?hy8x9⟩) hHeld ?rest8x9
        case hy8x9 => (intro w hSw; go_simp <;> with_reducible rfl)
        try simp only [Act.put, List.setIfInBounds_toArray, List.set_cons_zero, List.set_cons_succ]
        refine wpAnyH_take (i := 9) (oi := { dst := some 153, op := _, type := _, pos := _, after := _, guard := _ }) (v := ?v8x10) rfl (by kernel_rfl) (by kernel_rfl) (by kernel_rfl) (fun _ _ _ h => h) (Or.inl ⟨by rfl, ?hy8x10⟩) hHeld ?rest8x10
        case hy8x10 => (intro w hSw; go_simp <;> with_reducible rfl)
        try simp only [Act.put, List.setIfInBounds_toArray, List.set_cons_zero, List.set_cons_succ]
        refine wpAnyH_take (i := 10) (oi := { dst := some 154, op := _, type := _, pos := _, after := _, guard := _ }) (v := ?v8x11) rfl (by kernel_rfl) (by kernel_rfl) (by kernel_rfl) (fun _ _ _ h => h) (Or.inl ⟨by rfl, ?hy8x11⟩) hHeld ?rest8x11
        case hy8x11 => (intro w hSw; refine exec_loadP 27 (.tmp 5) ?_ gp 27 p C nc kc S ns ks ?_ (HPB w (below_on s6 hSw)) Try.underlying27 ?_ ?_; rfl; rfl; rfl; kernel_rfl)
        try simp only [Act.put, List.setIfInBounds_toArray, List.set_cons_zero, List.set_cons_succ]
        refine wpAnyH_take (i := 13) (oi := { dst := some 157, op := _, type := _, pos := _, after := _, guard := _ }) (v := ?v8x12) rfl (by kernel_rfl) (by kernel_rfl) (by kernel_rfl) (fun _ _ _ h => h) (Or.inl ⟨by rfl, ?hy8x12⟩) hHeld ?rest8x12
        case hy8x12 => (intro w hSw; go_simp <;> with_reducible rfl)
        try simp only [Act.put, List.setIfInBounds_toArray, List.set_cons_zero, List.set_cons_succ]
        refine wpAnyH_take (i := 14) (oi := { dst := some 158, op := _, type := _, pos := _, after := _, guard := _ }) (v := ?v8x13) rfl (by kernel_rfl) (by kernel_rfl) (by kernel_rfl) (fun _ _ _ h => h) (Or.inl ⟨by rfl, ?hy8x13⟩) hHeld ?rest8x13
        case hy8x13 => (intro w hSw; go_simp <;> with_reducible rfl)
        try simp only [Act.put, List.setIfInBounds_toArray, List.set_cons_zero, List.set_cons_succ]
        refine wpAnyH_ready (rs := [11]) (by kernel_rfl) (by simp) (AllReadyH.cons (o := { dst := some 155, op := _, type := _, pos := _, after := _, guard := _ }) rfl (fun K hK => ?_) AllReadyH.nil)
        go_simp
        refine (PB _ (below_on s6 hHeld)).mono ?_
        rintro e w7 ⟨G, gk, rfl, hgk, r7, b7⟩
        have s7 := below_on s6 (below_on hHeld b7)
        have dG := strOn r7
        have dX7 : ∀ w', Below w7.heap.size w7 w' → ∀ c, (convert 31 9 (.slice (some ⟨bA, oA, none⟩) n c)).run Try.prog w' = .ok (.string (str xs)) w' := fun w' h => dX w' (below_on s7 h)
        clear dX6
        go_wp2_with fail
        refine hK.out _ _ ?_ (fun hHeld => ?_)
        · exact below_on hHeld b7
        clear hK K
        try simp only [Act.put, List.setIfInBounds_toArray, List.set_cons_zero, List.set_cons_succ]
        refine wpAnyH_strong (S' := fun w' => Below w7.heap.size w7 w') (by intro w' h; exact below_on hHeld h) ?_
        replace hHeld : (fun w' => Below w7.heap.size w7 w') _ := Below.refl _ _
        refine wpAnyH_take (i := 12) (oi := { dst := some 156, op := _, type := _, pos := _, after := _, guard := _ }) (v := ?v8x15) rfl (by kernel_rfl) (by kernel_rfl) (by kernel_rfl) (fun _ _ _ h => h) (Or.inl ⟨by rfl, ?hy8x15⟩) hHeld ?rest8x15
        case hy8x15 => (intro w hSw; go_simp <;> with_reducible rfl)
        try simp only [Act.put, List.setIfInBounds_toArray, List.set_cons_zero, List.set_cons_succ]
        refine wpAnyH_take (i := 15) (oi := { dst := some 159, op := _, type := _, pos := _, after := _, guard := _ }) (v := ?v8x16) rfl (by kernel_rfl) (by kernel_rfl) (by kernel_rfl) (fun _ _ _ h => h) (Or.inl ⟨by rfl, ?hy8x16⟩) hHeld ?rest8x16
        case hy8x16 => (intro w hSw; go_simp <;> with_reducible rfl)
        try simp only [Act.put, List.setIfInBounds_toArray, List.set_cons_zero, List.set_cons_succ]
        refine wpAnyH_take (i := 16) (oi := { dst := some 160, op := _, type := _, pos := _, after := _, guard := _ }) (v := ?v8x17) rfl (by kernel_rfl) (by kernel_rfl) (by kernel_rfl) (fun _ _ _ h => h) (Or.inl ⟨by rfl, ?hy8x17⟩) hHeld ?rest8x17
        case hy8x17 => (intro w hSw; go_simp <;> with_reducible rfl)
        try simp only [Act.put, List.setIfInBounds_toArray, List.set_cons_zero, List.set_cons_succ]
        refine wpAnyH_done (by kernel_rfl) ?_ _
        have hbel := below_on s7 hHeld
        clear hcr hcr0 dX HPB PM PB dG dX7
        have HS5 := hide (HS.out.mem hbel)
        go_upto_region 99 with (refine wpList_storeQ rfl 27 (.tmp 2) (.tmp 161) rfl gz 27 (zeroP 0) none 0 0 none 0 0 (zeroP 0) none 0 0 none 0 0 rfl rfl (HS5.out).hz (by kernel_rfl) ?_; intro V2 bV2 BV2)
        refine bodyPost_ret (results_cell_tmp rfl rfl bV2 Try.underlying27 rfl (by kernel_rfl)) rfl ?_
        refine HOP.out _ _ ?_
        rw [hO0]
        exact ⟨rfl, ((HS5.out).ans BV2).2.below (Below.refl _ _) hwgr (Nat.le_refl _)⟩
  · skip
    go_upto_region 40 with (go_at_call 46; refine (PW _ HS.out.hr).mono ?_; rintro e V3 ⟨rfl, r3, a3⟩; have HS := hide (HS.out.call r3 a3); have cc : V3.cell? ⟨gp, 2, none⟩ = some (.int .i64 0) := HS.out.hp.cell 2; have ff := HS.out.hp.frozen; clear r3 a3)
    have HS := hide (HS.out.set 2 (.int .i64 (id : Int)) ⟨_, false, (id : Int), [], [], 0, false, [], false, 0, false, false, false, [], [], false, [], []⟩ rfl)
    generalize V3.setCell ⟨gp, 2, none⟩ (.int .i64 (id : Int)) = V4 at *
    clear cc ff c0 PW
    have HS0 := HS
    have HPS := hide (show PkS p from by rw [← Hp.out]; simp [PkS])
    obtain ⟨C, nc, kc, S, ns, ks, HS, HM, HN, HOF⟩ : ∃ (C : Option Addr) (nc kc : Nat) (S : Option Addr) (ns ks : Nat), Hid (PsS w.heap.size w V4 gp gr gz p C nc kc S ns ks s) ∧ Hid (PkM V4 p C nc kc S ns ks) ∧ Hid (NewAt w C ∧ NewAt w S) ∧ Hid ((0 < nc → Off (fun i => i = gz) C) ∧ (0 < ns → Off (fun i => i = gz) S)) := ⟨none, 0, 0, none, 0, 0, hide (by rw [← Hp.out]; exact HS0.out), hide (pkM00 _ p (by rw [← Hp.out]; first | done | rfl) (by rw [← Hp.out]; first | done | rfl)), hide ⟨NewAt.nil _, NewAt.nil _⟩, hide ⟨fun h => by omega, fun h => by omega⟩⟩
    have HO := hide (show (if s.2 = true ∨ mayP p = false ∨ layP p ≠ xs then none else some p) = O from by have := HO.out; rw [HBR.out] at this; exact this)
    clear HS0 HBR
    go_upto_region 40 with fail
    have hwV : Below w.heap.size w V4 := HS.out.aft.below (Below.refl _ _) hwgr (Nat.le_refl _)
    have dX := strOn (HR.out.keep hwV)
    obtain ⟨ys, bd⟩ := s
    obtain ⟨A2, k2, hBr, -⟩ := HS.out.hr
    have hcr0 := hBr.cell 1
    simp only [List.getElem?_cons_zero, List.getElem?_cons_succ] at hcr0
    have hgrl := hBr.lt
    have hPl := HS.out.hp
    clear hBr
    cases bd with
    | true =>
      have hO0 : O = none := by rw [← HO.out, if_pos (Or.inl rfl)]
      have hcr : ∀ w', Below V4.heap.size V4 w' → w'.cell? ⟨gr, 1, none⟩ = some (.bool true) := fun w' h => (h.cell (p := ⟨gr, 1, none⟩) hgrl).trans hcr0
      refine wp_region_held_drew (S := fun w' => Below V4.heap.size V4 w') (by kernel_rfl) ?_ (fun hHeld => ?_)
      · exact (Below.refl _ _).drew
      refine wpAnyH_take (i := 0) (oi := { dst := some 144, op := _, type := _, pos := _, after := _, guard := _ }) (v := ?v9x1) rfl (by kernel_rfl) (by kernel_rfl) (by kernel_rfl) (fun _ _ _ h => h) (Or.inl ⟨by rfl, ?hy9x1⟩) hHeld ?rest9x1
      case hy9x1 => (intro w hSw; go_simp <;> with_reducible rfl)
      try simp only [Act.put, List.setIfInBounds_toArray, List.set_cons_zero, List.set_cons_succ]
      refine wpAnyH_take (i := 1) (oi := { dst := some 145, op := _, type := _, pos := _, after := _, guard := _ }) (v := ?v9x2) rfl (by kernel_rfl) (by kernel_rfl) (by kernel_rfl) (fun _ _ _ h => h) (Or.inl ⟨by rfl, ?hy9x2⟩) hHeld ?rest9x2
      case hy9x2 => (intro w hSw; go_simp <;> with_reducible rfl)
      try simp only [Act.put, List.setIfInBounds_toArray, List.set_cons_zero, List.set_cons_succ]
      refine wpAnyH_take (i := 2) (oi := { dst := some 146, op := _, type := _, pos := _, after := _, guard := _ }) (v := ?v9x3) rfl (by kernel_rfl) (by kernel_rfl) (by kernel_rfl) (fun _ _ _ h => h) (Or.inl ⟨by rfl, ?hy9x3⟩) hHeld ?rest9x3
      case hy9x3 => (intro w hSw; go_simp <;> with_reducible rfl)
      try simp only [Act.put, List.setIfInBounds_toArray, List.set_cons_zero, List.set_cons_succ]
      refine wpAnyH_take (i := 3) (oi := { dst := some 147, op := _, type := _, pos := _, after := _, guard := _ }) (v := ?v9x4) rfl (by kernel_rfl) (by kernel_rfl) (by kernel_rfl) (fun _ _ _ h => h) (Or.inl ⟨by rfl, ?hy9x4⟩) hHeld ?rest9x4
      case hy9x4 => (intro w hSw; go_simp <;> with_reducible rfl)
      try simp only [Act.put, List.setIfInBounds_toArray, List.set_cons_zero, List.set_cons_succ]
      refine wpAnyH_take (i := 4) (oi := { dst := some 148, op := _, type := _, pos := _, after := _, guard := _ }) (v := ?v9x5) rfl (by kernel_rfl) (by kernel_rfl) (by kernel_rfl) (fun _ _ _ h => h) (Or.inl ⟨by rfl, ?hy9x5⟩) hHeld ?rest9x5
      case hy9x5 => (intro w hSw; go_simp <;> with_reducible rfl)
      try simp only [Act.put, List.setIfInBounds_toArray, List.set_cons_zero, List.set_cons_succ]
      refine wpAnyH_take (i := 5) (oi := { dst := some 149, op := _, type := _, pos := _, after := _, guard := _ }) (v := undef) rfl (by kernel_rfl) (by kernel_rfl) (by kernel_rfl) (fun _ _ _ h => h) (Or.inr ⟨by rfl, rfl⟩) hHeld ?_
      try simp only [Act.put, List.setIfInBounds_toArray, List.set_cons_zero, List.set_cons_succ]
      refine wpAnyH_take (i := 6) (oi := { dst := some 150, op := _, type := _, pos := _, after := _, guard := _ }) (v := undef) rfl (by kernel_rfl) (by kernel_rfl) (by kernel_rfl) (fun _ _ _ h => h) (Or.inr ⟨by rfl, rfl⟩) hHeld ?_
      try simp only [Act.put, List.setIfInBounds_toArray, List.set_cons_zero, List.set_cons_succ]
      refine wpAnyH_take (i := 7) (oi := { dst := some 151, op := _, type := _, pos := _, after := _, guard := _ }) (v := undef) rfl (by kernel_rfl) (by kernel_rfl) (by kernel_rfl) (fun _ _ _ h => h) (Or.inr ⟨by rfl, rfl⟩) hHeld ?_
      try simp only [Act.put, List.setIfInBounds_toArray, List.set_cons_zero, List.set_cons_succ]
      refine wpAnyH_take (i := 8) (oi := { dst := some 152, op := _, type := _, pos := _, after := _, guard := _ }) (v := ?v9x9) rfl (by kernel_rfl) (by kernel_rfl) (by kernel_rfl) (fun _ _ _ h => h) (Or.inl ⟨by rfl, ?hy9x9⟩) hHeld ?rest9x9
      case hy9x9 => (intro w hSw; go_simp <;> with_reducible rfl)
      try simp only [Act.put, List.setIfInBounds_toArray, List.set_cons_zero, List.set_cons_succ]
      refine wpAnyH_take (i := 9) (oi := { dst := some 153, op := _, type := _, pos := _, after := _, guard := _ }) (v := ?v9x10) rfl (by kernel_rfl) (by kernel_rfl) (by kernel_rfl) (fun _ _ _ h => h) (Or.inl ⟨by rfl, ?hy9x10⟩) hHeld ?rest9x10
      case hy9x10 => (intro w hSw; go_simp <;> with_reducible rfl)
      try simp only [Act.put, List.setIfInBounds_toArray, List.set_cons_zero, List.set_cons_succ]
      refine wpAnyH_take (i := 10) (oi := { dst := some 154, op := _, type := _, pos := _, after := _, guard := _ }) (v := undef) rfl (by kernel_rfl) (by kernel_rfl) (by kernel_rfl) (fun _ _ _ h => h) (Or.inr ⟨by rfl, rfl⟩) hHeld ?_
      try simp only [Act.put, List.setIfInBounds_toArray, List.set_cons_zero, List.set_cons_succ]
      refine wpAnyH_take (i := 11) (oi := { dst := some 155, op := _, type := _, pos := _, after := _, guard := _ }) (v := undef) rfl (by kernel_rfl) (by kernel_rfl) (by kernel_rfl) (fun _ _ _ h => h) (Or.inr ⟨by rfl, rfl⟩) hHeld ?_
      try simp only [Act.put, List.setIfInBounds_toArray, List.set_cons_zero, List.set_cons_succ]
      refine wpAnyH_take (i := 12) (oi := { dst := some 156, op := _, type := _, pos := _, after := _, guard := _ }) (v := undef) rfl (by kernel_rfl) (by kernel_rfl) (by kernel_rfl) (fun _ _ _ h => h) (Or.inr ⟨by rfl, rfl⟩) hHeld ?_
      try simp only [Act.put, List.setIfInBounds_toArray, List.set_cons_zero, List.set_cons_succ]
      refine wpAnyH_take (i := 13) (oi := { dst := some 157, op := _, type := _, pos := _, after := _, guard := _ }) (v := undef) rfl (by kernel_rfl) (by kernel_rfl) (by kernel_rfl) (fun _ _ _ h => h) (Or.inr ⟨by rfl, rfl⟩) hHeld ?_
      try simp only [Act.put, List.setIfInBounds_toArray, List.set_cons_zero, List.set_cons_succ]
      refine wpAnyH_take (i := 14) (oi := { dst := some 158, op := _, type := _, pos := _, after := _, guard := _ }) (v := undef) rfl (by kernel_rfl) (by kernel_rfl) (by kernel_rfl) (fun _ _ _ h => h) (Or.inr ⟨by rfl, rfl⟩) hHeld ?_
      try simp only [Act.put, List.setIfInBounds_toArray, List.set_cons_zero, List.set_cons_succ]
      refine wpAnyH_take (i := 15) (oi := { dst := some 159, op := _, type := _, pos := _, after := _, guard := _ }) (v := undef) rfl (by kernel_rfl) (by kernel_rfl) (by kernel_rfl) (fun _ _ _ h => h) (Or.inr ⟨by rfl, rfl⟩) hHeld ?_
      try simp only [Act.put, List.setIfInBounds_toArray, List.set_cons_zero, List.set_cons_succ]
      refine wpAnyH_take (i := 16) (oi := { dst := some 160, op := _, type := _, pos := _, after := _, guard := _ }) (v := ?v9x17) rfl (by kernel_rfl) (by kernel_rfl) (by kernel_rfl) (fun _ _ _ h => h) (Or.inl ⟨by rfl, ?hy9x17⟩) hHeld ?rest9x17
      case hy9x17 => (intro w hSw; go_simp <;> with_reducible rfl)
      try simp only [Act.put, List.setIfInBounds_toArray, List.set_cons_zero, List.set_cons_succ]
      refine wpAnyH_done (by kernel_rfl) ?_ _
      clear hcr hcr0 dX
      have HS5 := hide (HS.out.mem hHeld)
      go_upto_region 99 with (refine wpList_storeQ rfl 27 (.tmp 2) (.tmp 161) rfl gz 27 (zeroP 0) none 0 0 none 0 0 (zeroP 0) none 0 0 none 0 0 rfl rfl (HS5.out).hz (by kernel_rfl) ?_; intro V2 bV2 BV2)
      refine bodyPost_ret (results_cell_tmp rfl rfl bV2 Try.underlying27 rfl (by kernel_rfl)) rfl ?_
      refine HOP.out _ _ ?_
      rw [hO0]
      exact ⟨rfl, ((HS5.out).ans BV2).2.below (Below.refl _ _) hwgr (Nat.le_refl _)⟩
    | false =>
      have hcr : ∀ w', Below V4.heap.size V4 w' → w'.cell? ⟨gr, 1, none⟩ = some (.bool false) := fun w' h => (h.cell (p := ⟨gr, 1, none⟩) hgrl).trans hcr0
      have HPB : ∀ w', Below V4.heap.size V4 w' → Blk w' gp 27 (pkVs p C nc kc S ns ks) := fun w' h => hPl.keep h
      have PM := fun W (hb : Below V4.heap.size V4 W) => may_any p C nc kc S ns ks W (HM.out.keep hb) HPS.out
      by_cases hmv : mayP p = true
      case neg =>
        have hmf : mayP p = false := by rw [← Bool.not_eq_true]; exact hmv
        have hO0 : O = none := by rw [← HO.out, if_pos (Or.inr (Or.inl hmf))]
        rw [hmf] at PM
        clear hmv
        refine wp_region_held_drew (S := fun w' => Below V4.heap.size V4 w') (by kernel_rfl) ?_ (fun hHeld => ?_)
        · exact (Below.refl _ _).drew
        refine wpAnyH_take (i := 0) (oi := { dst := some 144, op := _, type := _, pos := _, after := _, guard := _ }) (v := ?v10x1) rfl (by kernel_rfl) (by kernel_rfl) (by kernel_rfl) (fun _ _ _ h => h) (Or.inl ⟨by rfl, ?hy10x1⟩) hHeld ?rest10x1
        case hy10x1 => (intro w hSw; go_simp <;> with_reducible rfl)
        try simp only [Act.put, List.setIfInBounds_toArray, List.set_cons_zero, List.set_cons_succ]
        refine wpAnyH_take (i := 1) (oi := { dst := some 145, op := _, type := _, pos := _, after := _, guard := _ }) (v := ?v10x2) rfl (by kernel_rfl) (by kernel_rfl) (by kernel_rfl) (fun _ _ _ h => h) (Or.inl ⟨by rfl, ?hy10x2⟩) hHeld ?rest10x2
        case hy10x2 => (intro w hSw; go_simp <;> with_reducible rfl)
        try simp only [Act.put, List.setIfInBounds_toArray, List.set_cons_zero, List.set_cons_succ]
        refine wpAnyH_take (i := 2) (oi := { dst := some 146, op := _, type := _, pos := _, after := _, guard := _ }) (v := ?v10x3) rfl (by kernel_rfl) (by kernel_rfl) (by kernel_rfl) (fun _ _ _ h => h) (Or.inl ⟨by rfl, ?hy10x3⟩) hHeld ?rest10x3
        case hy10x3 => (intro w hSw; go_simp <;> with_reducible rfl)
        try simp only [Act.put, List.setIfInBounds_toArray, List.set_cons_zero, List.set_cons_succ]
        refine wpAnyH_take (i := 3) (oi := { dst := some 147, op := _, type := _, pos := _, after := _, guard := _ }) (v := ?v10x4) rfl (by kernel_rfl) (by kernel_rfl) (by kernel_rfl) (fun _ _ _ h => h) (Or.inl ⟨by rfl, ?hy10x4⟩) hHeld ?rest10x4
        case hy10x4 => (intro w hSw; go_simp <;> with_reducible rfl)
        try simp only [Act.put, List.setIfInBounds_toArray, List.set_cons_zero, List.set_cons_succ]
        refine wpAnyH_take (i := 4) (oi := { dst := some 148, op := _, type := _, pos := _, after := _, guard := _ }) (v := ?v10x5) rfl (by kernel_rfl) (by kernel_rfl) (by kernel_rfl) (fun _ _ _ h => h) (Or.inl ⟨by rfl, ?hy10x5⟩) hHeld ?rest10x5
        case hy10x5 => (intro w hSw; go_simp <;> with_reducible rfl)
        try simp only [Act.put, List.setIfInBounds_toArray, List.set_cons_zero, List.set_cons_succ]
        refine wpAnyH_take (i := 5) (oi := { dst := some 149, op := _, type := _, pos := _, after := _, guard := _ }) (v := ?v10x6) rfl (by kernel_rfl) (by kernel_rfl) (by kernel_rfl) (fun _ _ _ h => h) (Or.inl ⟨by rfl, ?hy10x6⟩) hHeld ?rest10x6
        case hy10x6 => (intro w hSw; refine exec_loadP 27 (.tmp 5) ?_ gp 27 p C nc kc S ns ks ?_ (HPB w hSw) Try.underlying27 ?_ ?_; rfl; rfl; rfl; kernel_rfl)
        try simp only [Act.put, List.setIfInBounds_toArray, List.set_cons_zero, List.set_cons_succ]
        refine wpAnyH_ready (rs := [6]) (by kernel_rfl) (by simp) (AllReadyH.cons (o := { dst := some 150, op := _, type := _, pos := _, after := _, guard := _ }) rfl (fun K hK => ?_) AllReadyH.nil)
        go_simp
        refine (PM _ hHeld).mono ?_
        rintro e w6 ⟨rfl, b6⟩
        have s6 := below_on hHeld b6
        go_wp2_with fail
        refine hK.out _ _ ?_ (fun hHeld => ?_)
        · exact s6
        clear hK K
        try simp only [Act.put, List.setIfInBounds_toArray, List.set_cons_zero, List.set_cons_succ]
        refine wpAnyH_take (i := 7) (oi := { dst := some 151, op := _, type := _, pos := _, after := _, guard := _ }) (v := ?v10x8) rfl (by kernel_rfl) (by kernel_rfl) (by kernel_rfl) (fun _ _ _ h => h) (Or.inl ⟨by rfl, ?hy10x8⟩) hHeld ?rest10x8
        case hy10x8 => (intro w hSw; go_simp <;> with_reducible rfl)
        try simp only [Act.put, List.setIfInBounds_toArray, List.set_cons_zero, List.set_cons_succ]
        refine wpAnyH_take (i := 8) (oi := { dst := some 152, op := _, type := _, pos := _, after := _, guard := _ }) (v := ?v10x9) rfl (by kernel_rfl) (by kernel_rfl) (by kernel_rfl) (fun _ _ _ h => h) (Or.inl ⟨by rfl, ?hy10x9⟩) hHeld ?rest10x9
        case hy10x9 => (intro w hSw; go_simp <;> with_reducible rfl)
        try simp only [Act.put, List.setIfInBounds_toArray, List.set_cons_zero, List.set_cons_succ]
        refine wpAnyH_take (i := 9) (oi := { dst := some 153, op := _, type := _, pos := _, after := _, guard := _ }) (v := ?v10x10) rfl (by kernel_rfl) (by kernel_rfl) (by kernel_rfl) (fun _ _ _ h => h) (Or.inl ⟨by rfl, ?hy10x10⟩) hHeld ?rest10x10
        case hy10x10 => (intro w hSw; go_simp <;> with_reducible rfl)
        try simp only [Act.put, List.setIfInBounds_toArray, List.set_cons_zero, List.set_cons_succ]
        refine wpAnyH_take (i := 10) (oi := { dst := some 154, op := _, type := _, pos := _, after := _, guard := _ }) (v := undef) rfl (by kernel_rfl) (by kernel_rfl) (by kernel_rfl) (fun _ _ _ h => h) (Or.inr ⟨by rfl, rfl⟩) hHeld ?_
        try simp only [Act.put, List.setIfInBounds_toArray, List.set_cons_zero, List.set_cons_succ]
        refine wpAnyH_take (i := 11) (oi := { dst := some 155, op := _, type := _, pos := _, after := _, guard := _ }) (v := undef) rfl (by kernel_rfl) (by kernel_rfl) (by kernel_rfl) (fun _ _ _ h => h) (Or.inr ⟨by rfl, rfl⟩) hHeld ?_
        try simp only [Act.put, List.setIfInBounds_toArray, List.set_cons_zero, List.set_cons_succ]
        refine wpAnyH_take (i := 12) (oi := { dst := some 156, op := _, type := _, pos := _, after := _, guard := _ }) (v := undef) rfl (by kernel_rfl) (by kernel_rfl) (by kernel_rfl) (fun _ _ _ h => h) (Or.inr ⟨by rfl, rfl⟩) hHeld ?_
        try simp only [Act.put, List.setIfInBounds_toArray, List.set_cons_zero, List.set_cons_succ]
        refine wpAnyH_take (i := 13) (oi := { dst := some 157, op := _, type := _, pos := _, after := _, guard := _ }) (v := undef) rfl (by kernel_rfl) (by kernel_rfl) (by kernel_rfl) (fun _ _ _ h => h) (Or.inr ⟨by rfl, rfl⟩) hHeld ?_
        try simp only [Act.put, List.setIfInBounds_toArray, List.set_cons_zero, List.set_cons_succ]
        refine wpAnyH_take (i := 14) (oi := { dst := some 158, op := _, type := _, pos := _, after := _, guard := _ }) (v := undef) rfl (by kernel_rfl) (by kernel_rfl) (by kernel_rfl) (fun _ _ _ h => h) (Or.inr ⟨by rfl, rfl⟩) hHeld ?_
        try simp only [Act.put, List.setIfInBounds_toArray, List.set_cons_zero, List.set_cons_succ]
        refine wpAnyH_take (i := 15) (oi := { dst := some 159, op := _, type := _, pos := _, after := _, guard := _ }) (v := undef) rfl (by kernel_rfl) (by kernel_rfl) (by kernel_rfl) (fun _ _ _ h => h) (Or.inr ⟨by rfl, rfl⟩) hHeld ?_
        try simp only [Act.put, List.setIfInBounds_toArray, List.set_cons_zero, List.set_cons_succ]
        refine wpAnyH_take (i := 16) (oi := { dst := some 160, op := _, type := _, pos := _, after := _, guard := _ }) (v := ?v10x17) rfl (by kernel_rfl) (by kernel_rfl) (by kernel_rfl) (fun _ _ _ h => h) (Or.inl ⟨by rfl, ?hy10x17⟩) hHeld ?rest10x17
        case hy10x17 => (intro w hSw; go_simp <;> with_reducible rfl)
        try simp only [Act.put, List.setIfInBounds_toArray, List.set_cons_zero, List.set_cons_succ]
        refine wpAnyH_done (by kernel_rfl) ?_ _
        clear hcr hcr0 dX HPB PM
        have HS5 := hide (HS.out.mem hHeld)
        go_upto_region 99 with (refine wpList_storeQ rfl 27 (.tmp 2) (.tmp 161) rfl gz 27 (zeroP 0) none 0 0 none 0 0 (zeroP 0) none 0 0 none 0 0 rfl rfl (HS5.out).hz (by kernel_rfl) ?_; intro V2 bV2 BV2)
        refine bodyPost_ret (results_cell_tmp rfl rfl bV2 Try.underlying27 rfl (by kernel_rfl)) rfl ?_
        refine HOP.out _ _ ?_
        rw [hO0]
        exact ⟨rfl, ((HS5.out).ans BV2).2.below (Below.refl _ _) hwgr (Nat.le_refl _)⟩
      case pos =>
      have PB := fun W (hb : Below V4.heap.size V4 W) => rBytes10_any p C nc kc S ns ks W (HM.out.keep hb) HPS.out hmv
      rw [hmv] at PM
      by_cases hl : layP p = xs
      case pos =>
        have hO0 : O = some p := by rw [← HO.out, if_neg (by rw [hmv]; simp [hl])]
        rw [hl] at PB
        refine wp_region_held_drew (S := fun w' => Below V4.heap.size V4 w') (by kernel_rfl) ?_ (fun hHeld => ?_)
        · exact (Below.refl _ _).drew
        refine wpAnyH_take (i := 0) (oi := { dst := some 144, op := _, type := _, pos := _, after := _, guard := _ }) (v := ?v11x1) rfl (by kernel_rfl) (by kernel_rfl) (by kernel_rfl) (fun _ _ _ h => h) (Or.inl ⟨by rfl, ?hy11x1⟩) hHeld ?rest11x1
        case hy11x1 => (intro w hSw; go_simp <;> with_reducible rfl)
        try simp only [Act.put, List.setIfInBounds_toArray, List.set_cons_zero, List.set_cons_succ]
        refine wpAnyH_take (i := 1) (oi := { dst := some 145, op := _, type := _, pos := _, after := _, guard := _ }) (v := ?v11x2) rfl (by kernel_rfl) (by kernel_rfl) (by kernel_rfl) (fun _ _ _ h => h) (Or.inl ⟨by rfl, ?hy11x2⟩) hHeld ?rest11x2
        case hy11x2 => (intro w hSw; go_simp <;> with_reducible rfl)
        try simp only [Act.put, List.setIfInBounds_toArray, List.set_cons_zero, List.set_cons_succ]
        refine wpAnyH_take (i := 2) (oi := { dst := some 146, op := _, type := _, pos := _, after := _, guard := _ }) (v := ?v11x3) rfl (by kernel_rfl) (by kernel_rfl) (by kernel_rfl) (fun _ _ _ h => h) (Or.inl ⟨by rfl, ?hy11x3⟩) hHeld ?rest11x3
        case hy11x3 => (intro w hSw; go_simp <;> with_reducible rfl)
        try simp only [Act.put, List.setIfInBounds_toArray, List.set_cons_zero, List.set_cons_succ]
        refine wpAnyH_take (i := 3) (oi := { dst := some 147, op := _, type := _, pos := _, after := _, guard := _ }) (v := ?v11x4) rfl (by kernel_rfl) (by kernel_rfl) (by kernel_rfl) (fun _ _ _ h => h) (Or.inl ⟨by rfl, ?hy11x4⟩) hHeld ?rest11x4
        case hy11x4 => (intro w hSw; go_simp <;> with_reducible rfl)
        try simp only [Act.put, List.setIfInBounds_toArray, List.set_cons_zero, List.set_cons_succ]
        refine wpAnyH_take (i := 4) (oi := { dst := some 148, op := _, type := _, pos := _, after := _, guard := _ }) (v := ?v11x5) rfl (by kernel_rfl) (by kernel_rfl) (by kernel_rfl) (fun _ _ _ h => h) (Or.inl ⟨by rfl, ?hy11x5⟩) hHeld ?rest11x5
        case hy11x5 => (intro w hSw; go_simp <;> with_reducible rfl)
        try simp only [Act.put, List.setIfInBounds_toArray, List.set_cons_zero, List.set_cons_succ]
        refine wpAnyH_take (i := 5) (oi := { dst := some 149, op := _, type := _, pos := _, after := _, guard := _ }) (v := ?v11x6) rfl (by kernel_rfl) (by kernel_rfl) (by kernel_rfl) (fun _ _ _ h => h) (Or.inl ⟨by rfl, ?hy11x6⟩) hHeld ?rest11x6
        case hy11x6 => (intro w hSw; refine exec_loadP 27 (.tmp 5) ?_ gp 27 p C nc kc S ns ks ?_ (HPB w hSw) Try.underlying27 ?_ ?_; rfl; rfl; rfl; kernel_rfl)
        try simp only [Act.put, List.setIfInBounds_toArray, List.set_cons_zero, List.set_cons_succ]
        refine wpAnyH_ready (rs := [6]) (by kernel_rfl) (by simp) (AllReadyH.cons (o := { dst := some 150, op := _, type := _, pos := _, after := _, guard := _ }) rfl (fun K hK => ?_) AllReadyH.nil)
        go_simp
        refine (PM _ hHeld).mono ?_
        rintro e w6 ⟨rfl, b6⟩
        have s6 := below_on hHeld b6
        have dX6 : ∀ w', Below w6.heap.size w6 w' → ∀ c, (convert 31 9 (.slice (some ⟨bA, oA, none⟩) n c)).run Try.prog w' = .ok (.string (str xs)) w' := fun w' h => dX w' (below_on s6 h)
        go_wp2_with fail
        refine hK.out _ _ ?_ (fun hHeld => ?_)
        · exact below_on hHeld b6
        clear hK K
        try simp only [Act.put, List.setIfInBounds_toArray, List.set_cons_zero, List.set_cons_succ]
        refine wpAnyH_strong (S' := fun w' => Below w6.heap.size w6 w') (by intro w' h; exact below_on hHeld h) ?_
        replace hHeld : (fun w' => Below w6.heap.size w6 w') _ := Below.refl _ _
        refine wpAnyH_take (i := 7) (oi := { dst := some 151, op := _, type := _, pos := _, after := _, guard := _ }) (v := ?v11x8) rfl (by kernel_rfl) (by kernel_rfl) (by kernel_rfl) (fun _ _ _ h => h) (Or.inl ⟨by rfl, ?hy11x8⟩) hHeld ?rest11x8
        case hy11x8 => (intro w hSw; go_simp <;> with_reducible rfl)
        try simp only [Act.put, List.setIfInBounds_toArray, List.set_cons_zero, List.set_cons_succ]
        refine wpAnyH_take (i := 8) (oi := { dst := some 152, op := _, type := _, pos := _, after := _, guard := _ }) (v := ?v11x9) rfl (by kernel_rfl) (by kernel_rfl) (by kernel_rfl) (fun _ _ _ h => h) (Or.inl ⟨by rfl, ?hy11x9⟩) hHeld ?rest11x9
        case hy11x9 => (intro w hSw; go_simp <;> with_reducible rfl)
        try simp only [Act.put, List.setIfInBounds_toArray, List.set_cons_zero, List.set_cons_succ]
        refine wpAnyH_take (i := 9) (oi := { dst := some 153, op := _, type := _, pos := _, after := _, guard := _ }) (v := ?v11x10) rfl (by kernel_rfl) (by kernel_rfl) (by kernel_rfl) (fun _ _ _ h => h) (Or.inl ⟨by rfl, ?hy11x10⟩) hHeld ?rest11x10
        case hy11x10 => (intro w hSw; go_simp <;> with_reducible rfl)
        try simp only [Act.put, List.setIfInBounds_toArray, List.set_cons_zero, List.set_cons_succ]
        refine wpAnyH_take (i := 10) (oi := { dst := some 154, op := _, type := _, pos := _, after := _, guard := _ }) (v := ?v11x11) rfl (by kernel_rfl) (by kernel_rfl) (by kernel_rfl) (fun _ _ _ h => h) (Or.inl ⟨by rfl, ?hy11x11⟩) hHeld ?rest11x11
        case hy11x11 => (intro w hSw; refine exec_loadP 27 (.tmp 5) ?_ gp 27 p C nc kc S ns ks ?_ (HPB w (below_on s6 hSw)) Try.underlying27 ?_ ?_; rfl; rfl; rfl; kernel_rfl)
        try simp only [Act.put, List.setIfInBounds_toArray, List.set_cons_zero, List.set_cons_succ]
        refine wpAnyH_take (i := 13) (oi := { dst := some 157, op := _, type := _, pos := _, after := _, guard := _ }) (v := ?v11x12) rfl (by kernel_rfl) (by kernel_rfl) (by kernel_rfl) (fun _ _ _ h => h) (Or.inl ⟨by rfl, ?hy11x12⟩) hHeld ?rest11x12
        case hy11x12 => (intro w hSw; go_simp <;> with_reducible rfl)
        try simp only [Act.put, List.setIfInBounds_toArray, List.set_cons_zero, List.set_cons_succ]
        refine wpAnyH_take (i := 14) (oi := { dst := some 158, op := _, type := _, pos := _, after := _, guard := _ }) (v := ?v11x13) rfl (by kernel_rfl) (by kernel_rfl) (by kernel_rfl) (fun _ _ _ h => h) (Or.inl ⟨by rfl, ?hy11x13⟩) hHeld ?rest11x13
        case hy11x13 => (intro w hSw; go_simp <;> with_reducible rfl)
        try simp only [Act.put, List.setIfInBounds_toArray, List.set_cons_zero, List.set_cons_succ]
        refine wpAnyH_ready (rs := [11]) (by kernel_rfl) (by simp) (AllReadyH.cons (o := { dst := some 155, op := _, type := _, pos := _, after := _, guard := _ }) rfl (fun K hK => ?_) AllReadyH.nil)
        go_simp
        refine (PB _ (below_on s6 hHeld)).mono ?_
        rintro e w7 ⟨G, gk, rfl, hgk, r7, b7⟩
        have s7 := below_on s6 (below_on hHeld b7)
        have dG := strOn r7
        have dX7 : ∀ w', Below w7.heap.size w7 w' → ∀ c, (convert 31 9 (.slice (some ⟨bA, oA, none⟩) n c)).run Try.prog w' = .ok (.string (str xs)) w' := fun w' h => dX w' (below_on s7 h)
        clear dX6
        go_wp2_with fail
        refine hK.out _ _ ?_ (fun hHeld => ?_)
        · exact below_on hHeld b7
        clear hK K
        try simp only [Act.put, List.setIfInBounds_toArray, List.set_cons_zero, List.set_cons_succ]
        refine wpAnyH_strong (S' := fun w' => Below w7.heap.size w7 w') (by intro w' h; exact below_on hHeld h) ?_
        replace hHeld : (fun w' => Below w7.heap.size w7 w') _ := Below.refl _ _
        refine wpAnyH_take (i := 12) (oi := { dst := some 156, op := _, type := _, pos := _, after := _, guard := _ }) (v := ?v11x15) rfl (by kernel_rfl) (by kernel_rfl) (by kernel_rfl) (fun _ _ _ h => h) (Or.inl ⟨by rfl, ?hy11x15⟩) hHeld ?rest11x15
        case hy11x15 => (intro w hSw; go_simp <;> with_reducible rfl)
        try simp only [Act.put, List.setIfInBounds_toArray, List.set_cons_zero, List.set_cons_succ]
        refine wpAnyH_take (i := 15) (oi := { dst := some 159, op := _, type := _, pos := _, after := _, guard := _ }) (v := ?v11x16) rfl (by kernel_rfl) (by kernel_rfl) (by kernel_rfl) (fun _ _ _ h => h) (Or.inl ⟨by rfl, ?hy11x16⟩) hHeld ?rest11x16
        case hy11x16 => (intro w hSw; go_simp <;> with_reducible rfl)
        try simp only [Act.put, List.setIfInBounds_toArray, List.set_cons_zero, List.set_cons_succ]
        refine wpAnyH_take (i := 16) (oi := { dst := some 160, op := _, type := _, pos := _, after := _, guard := _ }) (v := ?v11x17) rfl (by kernel_rfl) (by kernel_rfl) (by kernel_rfl) (fun _ _ _ h => h) (Or.inl ⟨by rfl, ?hy11x17⟩) hHeld ?rest11x17
        case hy11x17 => (intro w hSw; go_simp <;> with_reducible rfl)
        try simp only [Act.put, List.setIfInBounds_toArray, List.set_cons_zero, List.set_cons_succ]
        refine wpAnyH_done (by kernel_rfl) ?_ _
        have hbel := below_on s7 hHeld
        clear hcr hcr0 dX HPB PM PB dG dX7
        have HS5 := hide (HS.out.mem hbel)
        have HM5 := hide (HM.out.keep hbel)
        go_upto_region 99 with (first
          | (refine wpList_loadP rfl 27 (.tmp 5) rfl gp 27 p C nc kc S ns ks rfl HS5.out.hp Try.underlying27 rfl (by kernel_rfl) ?_)
          | (refine wpList_storeQ rfl 27 (.tmp 2) (.tmp 162) rfl gz 27 (zeroP 0) none 0 0 none 0 0 p C nc kc S ns ks rfl rfl HS5.out.hz (by kernel_rfl) ?_; intro V2 bV2 BV2))
        refine bodyPost_ret (results_cell_tmp rfl rfl bV2 Try.underlying27 rfl (by kernel_rfl)) rfl ?_
        refine HOP.out _ _ ?_
        rw [hO0]
        exact ⟨C, nc, kc, S, ns, ks, rfl, HN.out.1, HN.out.2, PkM_but HM5.out BV2 HOF.out.1 HOF.out.2, (HS5.out.ans BV2).2.below (Below.refl _ _) hwgr (Nat.le_refl _)⟩
      case neg =>
        have hO0 : O = none := by rw [← HO.out, if_pos (Or.inr (Or.inr hl))]
        have hlb : (layP p == xs) = false := by rw [beq_eq_false_iff_ne]; exact hl
        clear hl
        refine wp_region_held_drew (S := fun w' => Below V4.heap.size V4 w') (by kernel_rfl) ?_ (fun hHeld => ?_)
        · exact (Below.refl _ _).drew
        refine wpAnyH_take (i := 0) (oi := { dst := some 144, op := _, type := _, pos := _, after := _, guard := _ }) (v := ?v12x1) rfl (by kernel_rfl) (by kernel_rfl) (by kernel_rfl) (fun _ _ _ h => h) (Or.inl ⟨by rfl, ?hy12x1⟩) hHeld ?rest12x1
        case hy12x1 => (intro w hSw; go_simp <;> with_reducible rfl)
        try simp only [Act.put, List.setIfInBounds_toArray, List.set_cons_zero, List.set_cons_succ]
        refine wpAnyH_take (i := 1) (oi := { dst := some 145, op := _, type := _, pos := _, after := _, guard := _ }) (v := ?v12x2) rfl (by kernel_rfl) (by kernel_rfl) (by kernel_rfl) (fun _ _ _ h => h) (Or.inl ⟨by rfl, ?hy12x2⟩) hHeld ?rest12x2
        case hy12x2 => (intro w hSw; go_simp <;> with_reducible rfl)
        try simp only [Act.put, List.setIfInBounds_toArray, List.set_cons_zero, List.set_cons_succ]
        refine wpAnyH_take (i := 2) (oi := { dst := some 146, op := _, type := _, pos := _, after := _, guard := _ }) (v := ?v12x3) rfl (by kernel_rfl) (by kernel_rfl) (by kernel_rfl) (fun _ _ _ h => h) (Or.inl ⟨by rfl, ?hy12x3⟩) hHeld ?rest12x3
        case hy12x3 => (intro w hSw; go_simp <;> with_reducible rfl)
        try simp only [Act.put, List.setIfInBounds_toArray, List.set_cons_zero, List.set_cons_succ]
        refine wpAnyH_take (i := 3) (oi := { dst := some 147, op := _, type := _, pos := _, after := _, guard := _ }) (v := ?v12x4) rfl (by kernel_rfl) (by kernel_rfl) (by kernel_rfl) (fun _ _ _ h => h) (Or.inl ⟨by rfl, ?hy12x4⟩) hHeld ?rest12x4
        case hy12x4 => (intro w hSw; go_simp <;> with_reducible rfl)
        try simp only [Act.put, List.setIfInBounds_toArray, List.set_cons_zero, List.set_cons_succ]
        refine wpAnyH_take (i := 4) (oi := { dst := some 148, op := _, type := _, pos := _, after := _, guard := _ }) (v := ?v12x5) rfl (by kernel_rfl) (by kernel_rfl) (by kernel_rfl) (fun _ _ _ h => h) (Or.inl ⟨by rfl, ?hy12x5⟩) hHeld ?rest12x5
        case hy12x5 => (intro w hSw; go_simp <;> with_reducible rfl)
        try simp only [Act.put, List.setIfInBounds_toArray, List.set_cons_zero, List.set_cons_succ]
        refine wpAnyH_take (i := 5) (oi := { dst := some 149, op := _, type := _, pos := _, after := _, guard := _ }) (v := ?v12x6) rfl (by kernel_rfl) (by kernel_rfl) (by kernel_rfl) (fun _ _ _ h => h) (Or.inl ⟨by rfl, ?hy12x6⟩) hHeld ?rest12x6
        case hy12x6 => (intro w hSw; refine exec_loadP 27 (.tmp 5) ?_ gp 27 p C nc kc S ns ks ?_ (HPB w hSw) Try.underlying27 ?_ ?_; rfl; rfl; rfl; kernel_rfl)
        try simp only [Act.put, List.setIfInBounds_toArray, List.set_cons_zero, List.set_cons_succ]
        refine wpAnyH_ready (rs := [6]) (by kernel_rfl) (by simp) (AllReadyH.cons (o := { dst := some 150, op := _, type := _, pos := _, after := _, guard := _ }) rfl (fun K hK => ?_) AllReadyH.nil)
        go_simp
        refine (PM _ hHeld).mono ?_
        rintro e w6 ⟨rfl, b6⟩
        have s6 := below_on hHeld b6
        have dX6 : ∀ w', Below w6.heap.size w6 w' → ∀ c, (convert 31 9 (.slice (some ⟨bA, oA, none⟩) n c)).run Try.prog w' = .ok (.string (str xs)) w' := fun w' h => dX w' (below_on s6 h)
        go_wp2_with fail
        refine hK.out _ _ ?_ (fun hHeld => ?_)
        · exact below_on hHeld b6
        clear hK K
        try simp only [Act.put, List.setIfInBounds_toArray, List.set_cons_zero, List.set_cons_succ]
        refine wpAnyH_strong (S' := fun w' => Below w6.heap.size w6 w') (by intro w' h; exact below_on hHeld h) ?_
        replace hHeld : (fun w' => Below w6.heap.size w6 w') _ := Below.refl _ _
        refine wpAnyH_take (i := 7) (oi := { dst := some 151, op := _, type := _, pos := _, after := _, guard := _ }) (v := ?v12x8) rfl (by kernel_rfl) (by kernel_rfl) (by kernel_rfl) (fun _ _ _ h => h) (Or.inl ⟨by rfl, ?hy12x8⟩) hHeld ?rest12x8
        case hy12x8 => (intro w hSw; go_simp <;> with_reducible rfl)
        try simp only [Act.put, List.setIfInBounds_toArray, List.set_cons_zero, List.set_cons_succ]
        refine wpAnyH_take (i := 8) (oi := { dst := some 152, op := _, type := _, pos := _, after := _, guard := _ }) (v := ?v12x9) rfl (by kernel_rfl) (by kernel_rfl) (by kernel_rfl) (fun _ _ _ h => h) (Or.inl ⟨by rfl, ?hy12x9⟩) hHeld ?rest12x9
        case hy12x9 => (intro w hSw; go_simp <;> with_reducible rfl)
        try simp only [Act.put, List.setIfInBounds_toArray, List.set_cons_zero, List.set_cons_succ]
        refine wpAnyH_take (i := 9) (oi := { dst := some 153, op := _, type := _, pos := _, after := _, guard := _ }) (v := ?v12x10) rfl (by kernel_rfl) (by kernel_rfl) (by kernel_rfl) (fun _ _ _ h => h) (Or.inl ⟨by rfl, ?hy12x10⟩) hHeld ?rest12x10
        case hy12x10 => (intro w hSw; go_simp <;> with_reducible rfl)
        try simp only [Act.put, List.setIfInBounds_toArray, List.set_cons_zero, List.set_cons_succ]
        refine wpAnyH_take (i := 10) (oi := { dst := some 154, op := _, type := _, pos := _, after := _, guard := _ }) (v := ?v12x11) rfl (by kernel_rfl) (by kernel_rfl) (by kernel_rfl) (fun _ _ _ h => h) (Or.inl ⟨by rfl, ?hy12x11⟩) hHeld ?rest12x11
        case hy12x11 => (intro w hSw; refine exec_loadP 27 (.tmp 5) ?_ gp 27 p C nc kc S ns ks ?_ (HPB w (below_on s6 hSw)) Try.underlying27 ?_ ?_; rfl; rfl; rfl; kernel_rfl)
        try simp only [Act.put, List.setIfInBounds_toArray, List.set_cons_zero, List.set_cons_succ]
        refine wpAnyH_take (i := 13) (oi := { dst := some 157, op := _, type := _, pos := _, after := _, guard := _ }) (v := ?v12x12) rfl (by kernel_rfl) (by kernel_rfl) (by kernel_rfl) (fun _ _ _ h => h) (Or.inl ⟨by rfl, ?hy12x12⟩) hHeld ?rest12x12
        case hy12x12 => (intro w hSw; go_simp <;> with_reducible rfl)
        try simp only [Act.put, List.setIfInBounds_toArray, List.set_cons_zero, List.set_cons_succ]
        refine wpAnyH_take (i := 14) (oi := { dst := some 158, op := _, type := _, pos := _, after := _, guard := _ }) (v := ?v12x13) rfl (by kernel_rfl) (by kernel_rfl) (by kernel_rfl) (fun _ _ _ h => h) (Or.inl ⟨by rfl, ?hy12x13⟩) hHeld ?rest12x13
        case hy12x13 => (intro w hSw; go_simp <;> with_reducible rfl)
        try simp only [Act.put, List.setIfInBounds_toArray, List.set_cons_zero, List.set_cons_succ]
        refine wpAnyH_ready (rs := [11]) (by kernel_rfl) (by simp) (AllReadyH.cons (o := { dst := some 155, op := _, type := _, pos := _, after := _, guard := _ }) rfl (fun K hK => ?_) AllReadyH.nil)
        go_simp
        refine (PB _ (below_on s6 hHeld)).mono ?_
        rintro e w7 ⟨G, gk, rfl, hgk, r7, b7⟩
        have s7 := below_on s6 (below_on hHeld b7)
        have dG := strOn r7
        have dX7 : ∀ w', Below w7.heap.size w7 w' → ∀ c, (convert 31 9 (.slice (some ⟨bA, oA, none⟩) n c)).run Try.prog w' = .ok (.string (str xs)) w' := fun w' h => dX w' (below_on s7 h)
        clear dX6
        go_wp2_with fail
        refine hK.out _ _ ?_ (fun hHeld => ?_)
        · exact below_on hHeld b7
        clear hK K
        try simp only [Act.put, List.setIfInBounds_toArray, List.set_cons_zero, List.set_cons_succ]
        refine wpAnyH_strong (S' := fun w' => Below w7.heap.size w7 w') (by intro w' h; exact below_on hHeld h) ?_
        replace hHeld : (fun w' => Below w7.heap.size w7 w') _ := Below.refl _ _
        refine wpAnyH_take (i := 12) (oi := { dst := some 156, op := _, type := _, pos := _, after := _, guard := _ }) (v := ?v12x15) rfl (by kernel_rfl) (by kernel_rfl) (by kernel_rfl) (fun _ _ _ h => h) (Or.inl ⟨by rfl, ?hy12x15⟩) hHeld ?rest12x15
        case hy12x15 => (intro w hSw; go_simp <;> with_reducible rfl)
        try simp only [Act.put, List.setIfInBounds_toArray, List.set_cons_zero, List.set_cons_succ]
        refine wpAnyH_take (i := 15) (oi := { dst := some 159, op := _, type := _, pos := _, after := _, guard := _ }) (v := ?v12x16) rfl (by kernel_rfl) (by kernel_rfl) (by kernel_rfl) (fun _ _ _ h => h) (Or.inl ⟨by rfl, ?hy12x16⟩) hHeld ?rest12x16
        case hy12x16 => (intro w hSw; go_simp <;> with_reducible rfl)
        try simp only [Act.put, List.setIfInBounds_toArray, List.set_cons_zero, List.set_cons_succ]
        refine wpAnyH_take (i := 16) (oi := { dst := some 160, op := _, type := _, pos := _, after := _, guard := _ }) (v := ?v12x17) rfl (by kernel_rfl) (by kernel_rfl) (by kernel_rfl) (fun _ _ _ h => h) (Or.inl ⟨by rfl, ?hy12x17⟩) hHeld ?rest12x17
        case hy12x17 => (intro w hSw; go_simp <;> with_reducible rfl)
        try simp only [Act.put, List.setIfInBounds_toArray, List.set_cons_zero, List.set_cons_succ]
        refine wpAnyH_done (by kernel_rfl) ?_ _
        have hbel := below_on s7 hHeld
        clear hcr hcr0 dX HPB PM PB dG dX7
        have HS5 := hide (HS.out.mem hbel)
        go_upto_region 99 with (refine wpList_storeQ rfl 27 (.tmp 2) (.tmp 161) rfl gz 27 (zeroP 0) none 0 0 none 0 0 (zeroP 0) none 0 0 none 0 0 rfl rfl (HS5.out).hz (by kernel_rfl) ?_; intro V2 bV2 BV2)
        refine bodyPost_ret (results_cell_tmp rfl rfl bV2 Try.underlying27 rfl (by kernel_rfl)) rfl ?_
        refine HOP.out _ _ ?_
        rw [hO0]
        exact ⟨rfl, ((HS5.out).ans BV2).2.below (Below.refl _ _) hwgr (Nat.le_refl _)⟩
  · skip
    go_upto_region 40 with (go_at_call 46; refine (PW _ HS.out.hr).mono ?_; rintro e V3 ⟨rfl, r3, a3⟩; have HS := hide (HS.out.call r3 a3); have cc : V3.cell? ⟨gp, 2, none⟩ = some (.int .i64 0) := HS.out.hp.cell 2; have ff := HS.out.hp.frozen; clear r3 a3)
    have HS := hide (HS.out.set 2 (.int .i64 (id : Int)) ⟨_, false, (id : Int), [], [], 0, false, [], false, 0, false, false, false, [], [], false, [], []⟩ rfl)
    generalize V3.setCell ⟨gp, 2, none⟩ (.int .i64 (id : Int)) = V4 at *
    clear cc ff c0 PW
    have HS0 := HS
    have HPS := hide (show PkS p from by rw [← Hp.out]; simp [PkS])
    obtain ⟨C, nc, kc, S, ns, ks, HS, HM, HN, HOF⟩ : ∃ (C : Option Addr) (nc kc : Nat) (S : Option Addr) (ns ks : Nat), Hid (PsS w.heap.size w V4 gp gr gz p C nc kc S ns ks s) ∧ Hid (PkM V4 p C nc kc S ns ks) ∧ Hid (NewAt w C ∧ NewAt w S) ∧ Hid ((0 < nc → Off (fun i => i = gz) C) ∧ (0 < ns → Off (fun i => i = gz) S)) := ⟨none, 0, 0, none, 0, 0, hide (by rw [← Hp.out]; exact HS0.out), hide (pkM00 _ p (by rw [← Hp.out]; first | done | rfl) (by rw [← Hp.out]; first | done | rfl)), hide ⟨NewAt.nil _, NewAt.nil _⟩, hide ⟨fun h => by omega, fun h => by omega⟩⟩
    have HO := hide (show (if s.2 = true ∨ mayP p = false ∨ layP p ≠ xs then none else some p) = O from by have := HO.out; rw [HBR.out] at this; exact this)
    clear HS0 HBR
    go_upto_region 40 with fail
    have hwV : Below w.heap.size w V4 := HS.out.aft.below (Below.refl _ _) hwgr (Nat.le_refl _)
    have dX := strOn (HR.out.keep hwV)
    obtain ⟨ys, bd⟩ := s
    obtain ⟨A2, k2, hBr, -⟩ := HS.out.hr
    have hcr0 := hBr.cell 1
    simp only [List.getElem?_cons_zero, List.getElem?_cons_succ] at hcr0
    have hgrl := hBr.lt
    have hPl := HS.out.hp
    clear hBr
    cases bd with
    | true =>
      have hO0 : O = none := by rw [← HO.out, if_pos (Or.inl rfl)]
      have hcr : ∀ w', Below V4.heap.size V4 w' → w'.cell? ⟨gr, 1, none⟩ = some (.bool true) := fun w' h => (h.cell (p := ⟨gr, 1, none⟩) hgrl).trans hcr0
      refine wp_region_held_drew (S := fun w' => Below V4.heap.size V4 w') (by kernel_rfl) ?_ (fun hHeld => ?_)
      · exact (Below.refl _ _).drew
      refine wpAnyH_take (i := 0) (oi := { dst := some 144, op := _, type := _, pos := _, after := _, guard := _ }) (v := ?v13x1) rfl (by kernel_rfl) (by kernel_rfl) (by kernel_rfl) (fun _ _ _ h => h) (Or.inl ⟨by rfl, ?hy13x1⟩) hHeld ?rest13x1
      case hy13x1 => (intro w hSw; go_simp <;> with_reducible rfl)
      try simp only [Act.put, List.setIfInBounds_toArray, List.set_cons_zero, List.set_cons_succ]
      refine wpAnyH_take (i := 1) (oi := { dst := some 145, op := _, type := _, pos := _, after := _, guard := _ }) (v := ?v13x2) rfl (by kernel_rfl) (by kernel_rfl) (by kernel_rfl) (fun _ _ _ h => h) (Or.inl ⟨by rfl, ?hy13x2⟩) hHeld ?rest13x2
      case hy13x2 => (intro w hSw; go_simp <;> with_reducible rfl)
      try simp only [Act.put, List.setIfInBounds_toArray, List.set_cons_zero, List.set_cons_succ]
      refine wpAnyH_take (i := 2) (oi := { dst := some 146, op := _, type := _, pos := _, after := _, guard := _ }) (v := ?v13x3) rfl (by kernel_rfl) (by kernel_rfl) (by kernel_rfl) (fun _ _ _ h => h) (Or.inl ⟨by rfl, ?hy13x3⟩) hHeld ?rest13x3
      case hy13x3 => (intro w hSw; go_simp <;> with_reducible rfl)
      try simp only [Act.put, List.setIfInBounds_toArray, List.set_cons_zero, List.set_cons_succ]
      refine wpAnyH_take (i := 3) (oi := { dst := some 147, op := _, type := _, pos := _, after := _, guard := _ }) (v := ?v13x4) rfl (by kernel_rfl) (by kernel_rfl) (by kernel_rfl) (fun _ _ _ h => h) (Or.inl ⟨by rfl, ?hy13x4⟩) hHeld ?rest13x4
      case hy13x4 => (intro w hSw; go_simp <;> with_reducible rfl)
      try simp only [Act.put, List.setIfInBounds_toArray, List.set_cons_zero, List.set_cons_succ]
      refine wpAnyH_take (i := 4) (oi := { dst := some 148, op := _, type := _, pos := _, after := _, guard := _ }) (v := ?v13x5) rfl (by kernel_rfl) (by kernel_rfl) (by kernel_rfl) (fun _ _ _ h => h) (Or.inl ⟨by rfl, ?hy13x5⟩) hHeld ?rest13x5
      case hy13x5 => (intro w hSw; go_simp <;> with_reducible rfl)
      try simp only [Act.put, List.setIfInBounds_toArray, List.set_cons_zero, List.set_cons_succ]
      refine wpAnyH_take (i := 5) (oi := { dst := some 149, op := _, type := _, pos := _, after := _, guard := _ }) (v := undef) rfl (by kernel_rfl) (by kernel_rfl) (by kernel_rfl) (fun _ _ _ h => h) (Or.inr ⟨by rfl, rfl⟩) hHeld ?_
      try simp only [Act.put, List.setIfInBounds_toArray, List.set_cons_zero, List.set_cons_succ]
      refine wpAnyH_take (i := 6) (oi := { dst := some 150, op := _, type := _, pos := _, after := _, guard := _ }) (v := undef) rfl (by kernel_rfl) (by kernel_rfl) (by kernel_rfl) (fun _ _ _ h => h) (Or.inr ⟨by rfl, rfl⟩) hHeld ?_
      try simp only [Act.put, List.setIfInBounds_toArray, List.set_cons_zero, List.set_cons_succ]
      refine wpAnyH_take (i := 7) (oi := { dst := some 151, op := _, type := _, pos := _, after := _, guard := _ }) (v := undef) rfl (by kernel_rfl) (by kernel_rfl) (by kernel_rfl) (fun _ _ _ h => h) (Or.inr ⟨by rfl, rfl⟩) hHeld ?_
      try simp only [Act.put, List.setIfInBounds_toArray, List.set_cons_zero, List.set_cons_succ]
      refine wpAnyH_take (i := 8) (oi := { dst := some 152, op := _, type := _, pos := _, after := _, guard := _ }) (v := ?v13x9) rfl (by kernel_rfl) (by kernel_rfl) (by kernel_rfl) (fun _ _ _ h => h) (Or.inl ⟨by rfl, ?hy13x9⟩) hHeld ?rest13x9
      case hy13x9 => (intro w hSw; go_simp <;> with_reducible rfl)
      try simp only [Act.put, List.setIfInBounds_toArray, List.set_cons_zero, List.set_cons_succ]
      refine wpAnyH_take (i := 9) (oi := { dst := some 153, op := _, type := _, pos := _, after := _, guard := _ }) (v := ?v13x10) rfl (by kernel_rfl) (by kernel_rfl) (by kernel_rfl) (fun _ _ _ h => h) (Or.inl ⟨by rfl, ?hy13x10⟩) hHeld ?rest13x10
      case hy13x10 => (intro w hSw; go_simp <;> with_reducible rfl)
      try simp only [Act.put, List.setIfInBounds_toArray, List.set_cons_zero, List.set_cons_succ]
      refine wpAnyH_take (i := 10) (oi := { dst := some 154, op := _, type := _, pos := _, after := _, guard := _ }) (v := undef) rfl (by kernel_rfl) (by kernel_rfl) (by kernel_rfl) (fun _ _ _ h => h) (Or.inr ⟨by rfl, rfl⟩) hHeld ?_
      try simp only [Act.put, List.setIfInBounds_toArray, List.set_cons_zero, List.set_cons_succ]
      refine wpAnyH_take (i := 11) (oi := { dst := some 155, op := _, type := _, pos := _, after := _, guard := _ }) (v := undef) rfl (by kernel_rfl) (by kernel_rfl) (by kernel_rfl) (fun _ _ _ h => h) (Or.inr ⟨by rfl, rfl⟩) hHeld ?_
      try simp only [Act.put, List.setIfInBounds_toArray, List.set_cons_zero, List.set_cons_succ]
      refine wpAnyH_take (i := 12) (oi := { dst := some 156, op := _, type := _, pos := _, after := _, guard := _ }) (v := undef) rfl (by kernel_rfl) (by kernel_rfl) (by kernel_rfl) (fun _ _ _ h => h) (Or.inr ⟨by rfl, rfl⟩) hHeld ?_
      try simp only [Act.put, List.setIfInBounds_toArray, List.set_cons_zero, List.set_cons_succ]
      refine wpAnyH_take (i := 13) (oi := { dst := some 157, op := _, type := _, pos := _, after := _, guard := _ }) (v := undef) rfl (by kernel_rfl) (by kernel_rfl) (by kernel_rfl) (fun _ _ _ h => h) (Or.inr ⟨by rfl, rfl⟩) hHeld ?_
      try simp only [Act.put, List.setIfInBounds_toArray, List.set_cons_zero, List.set_cons_succ]
      refine wpAnyH_take (i := 14) (oi := { dst := some 158, op := _, type := _, pos := _, after := _, guard := _ }) (v := undef) rfl (by kernel_rfl) (by kernel_rfl) (by kernel_rfl) (fun _ _ _ h => h) (Or.inr ⟨by rfl, rfl⟩) hHeld ?_
      try simp only [Act.put, List.setIfInBounds_toArray, List.set_cons_zero, List.set_cons_succ]
      refine wpAnyH_take (i := 15) (oi := { dst := some 159, op := _, type := _, pos := _, after := _, guard := _ }) (v := undef) rfl (by kernel_rfl) (by kernel_rfl) (by kernel_rfl) (fun _ _ _ h => h) (Or.inr ⟨by rfl, rfl⟩) hHeld ?_
      try simp only [Act.put, List.setIfInBounds_toArray, List.set_cons_zero, List.set_cons_succ]
      refine wpAnyH_take (i := 16) (oi := { dst := some 160, op := _, type := _, pos := _, after := _, guard := _ }) (v := ?v13x17) rfl (by kernel_rfl) (by kernel_rfl) (by kernel_rfl) (fun _ _ _ h => h) (Or.inl ⟨by rfl, ?hy13x17⟩) hHeld ?rest13x17
      case hy13x17 => (intro w hSw; go_simp <;> with_reducible rfl)
      try simp only [Act.put, List.setIfInBounds_toArray, List.set_cons_zero, List.set_cons_succ]
      refine wpAnyH_done (by kernel_rfl) ?_ _
      clear hcr hcr0 dX
      have HS5 := hide (HS.out.mem hHeld)
      go_upto_region 99 with (refine wpList_storeQ rfl 27 (.tmp 2) (.tmp 161) rfl gz 27 (zeroP 0) none 0 0 none 0 0 (zeroP 0) none 0 0 none 0 0 rfl rfl (HS5.out).hz (by kernel_rfl) ?_; intro V2 bV2 BV2)
      refine bodyPost_ret (results_cell_tmp rfl rfl bV2 Try.underlying27 rfl (by kernel_rfl)) rfl ?_
      refine HOP.out _ _ ?_
      rw [hO0]
      exact ⟨rfl, ((HS5.out).ans BV2).2.below (Below.refl _ _) hwgr (Nat.le_refl _)⟩
    | false =>
      have hcr : ∀ w', Below V4.heap.size V4 w' → w'.cell? ⟨gr, 1, none⟩ = some (.bool false) := fun w' h => (h.cell (p := ⟨gr, 1, none⟩) hgrl).trans hcr0
      have HPB : ∀ w', Below V4.heap.size V4 w' → Blk w' gp 27 (pkVs p C nc kc S ns ks) := fun w' h => hPl.keep h
      have PM := fun W (hb : Below V4.heap.size V4 W) => may_any p C nc kc S ns ks W (HM.out.keep hb) HPS.out
      by_cases hmv : mayP p = true
      case neg =>
        have hmf : mayP p = false := by rw [← Bool.not_eq_true]; exact hmv
        have hO0 : O = none := by rw [← HO.out, if_pos (Or.inr (Or.inl hmf))]
        rw [hmf] at PM
        clear hmv
        refine wp_region_held_drew (S := fun w' => Below V4.heap.size V4 w') (by kernel_rfl) ?_ (fun hHeld => ?_)
        · exact (Below.refl _ _).drew
        refine wpAnyH_take (i := 0) (oi := { dst := some 144, op := _, type := _, pos := _, after := _, guard := _ }) (v := ?v14x1) rfl (by kernel_rfl) (by kernel_rfl) (by kernel_rfl) (fun _ _ _ h => h) (Or.inl ⟨by rfl, ?hy14x1⟩) hHeld ?rest14x1
        case hy14x1 => (intro w hSw; go_simp <;> with_reducible rfl)
        try simp only [Act.put, List.setIfInBounds_toArray, List.set_cons_zero, List.set_cons_succ]
        refine wpAnyH_take (i := 1) (oi := { dst := some 145, op := _, type := _, pos := _, after := _, guard := _ }) (v := ?v14x2) rfl (by kernel_rfl) (by kernel_rfl) (by kernel_rfl) (fun _ _ _ h => h) (Or.inl ⟨by rfl, ?hy14x2⟩) hHeld ?rest14x2
        case hy14x2 => (intro w hSw; go_simp <;> with_reducible rfl)
        try simp only [Act.put, List.setIfInBounds_toArray, List.set_cons_zero, List.set_cons_succ]
        refine wpAnyH_take (i := 2) (oi := { dst := some 146, op := _, type := _, pos := _, after := _, guard := _ }) (v := ?v14x3) rfl (by kernel_rfl) (by kernel_rfl) (by kernel_rfl) (fun _ _ _ h => h) (Or.inl ⟨by rfl, ?hy14x3⟩) hHeld ?rest14x3
        case hy14x3 => (intro w hSw; go_simp <;> with_reducible rfl)
        try simp only [Act.put, List.setIfInBounds_toArray, List.set_cons_zero, List.set_cons_succ]
        refine wpAnyH_take (i := 3) (oi := { dst := some 147, op := _, type := _, pos := _, after := _, guard := _ }) (v := ?v14x4) rfl (by kernel_rfl) (by kernel_rfl) (by kernel_rfl) (fun _ _ _ h => h) (Or.inl ⟨by rfl, ?hy14x4⟩) hHeld ?rest14x4
        case hy14x4 => (intro w hSw; go_simp <;> with_reducible rfl)
        try simp only [Act.put, List.setIfInBounds_toArray, List.set_cons_zero, List.set_cons_succ]
        refine wpAnyH_take (i := 4) (oi := { dst := some 148, op := _, type := _, pos := _, after := _, guard := _ }) (v := ?v14x5) rfl (by kernel_rfl) (by kernel_rfl) (by kernel_rfl) (fun _ _ _ h => h) (Or.inl ⟨by rfl, ?hy14x5⟩) hHeld ?rest14x5
        case hy14x5 => (intro w hSw; go_simp <;> with_reducible rfl)
        try simp only [Act.put, List.setIfInBounds_toArray, List.set_cons_zero, List.set_cons_succ]
        refine wpAnyH_take (i := 5) (oi := { dst := some 149, op := _, type := _, pos := _, after := _, guard := _ }) (v := ?v14x6) rfl (by kernel_rfl) (by kernel_rfl) (by kernel_rfl) (fun _ _ _ h => h) (Or.inl ⟨by rfl, ?hy14x6⟩) hHeld ?rest14x6
        case hy14x6 => (intro w hSw; refine exec_loadP 27 (.tmp 5) ?_ gp 27 p C nc kc S ns ks ?_ (HPB w hSw) Try.underlying27 ?_ ?_; rfl; rfl; rfl; kernel_rfl)
        try simp only [Act.put, List.setIfInBounds_toArray, List.set_cons_zero, List.set_cons_succ]
        refine wpAnyH_ready (rs := [6]) (by kernel_rfl) (by simp) (AllReadyH.cons (o := { dst := some 150, op := _, type := _, pos := _, after := _, guard := _ }) rfl (fun K hK => ?_) AllReadyH.nil)
        go_simp
        refine (PM _ hHeld).mono ?_
        rintro e w6 ⟨rfl, b6⟩
        have s6 := below_on hHeld b6
        go_wp2_with fail
        refine hK.out _ _ ?_ (fun hHeld => ?_)
        · exact s6
        clear hK K
        try simp only [Act.put, List.setIfInBounds_toArray, List.set_cons_zero, List.set_cons_succ]
        refine wpAnyH_take (i := 7) (oi := { dst := some 151, op := _, type := _, pos := _, after := _, guard := _ }) (v := ?v14x8) rfl (by kernel_rfl) (by kernel_rfl) (by kernel_rfl) (fun _ _ _ h => h) (Or.inl ⟨by rfl, ?hy14x8⟩) hHeld ?rest14x8
        case hy14x8 => (intro w hSw; go_simp <;> with_reducible rfl)
        try simp only [Act.put, List.setIfInBounds_toArray, List.set_cons_zero, List.set_cons_succ]
        refine wpAnyH_take (i := 8) (oi := { dst := some 152, op := _, type := _, pos := _, after := _, guard := _ }) (v := ?v14x9) rfl (by kernel_rfl) (by kernel_rfl) (by kernel_rfl) (fun _ _ _ h => h) (Or.inl ⟨by rfl, ?hy14x9⟩) hHeld ?rest14x9
        case hy14x9 => (intro w hSw; go_simp <;> with_reducible rfl)
        try simp only [Act.put, List.setIfInBounds_toArray, List.set_cons_zero, List.set_cons_succ]
        refine wpAnyH_take (i := 9) (oi := { dst := some 153, op := _, type := _, pos := _, after := _, guard := _ }) (v := ?v14x10) rfl (by kernel_rfl) (by kernel_rfl) (by kernel_rfl) (fun _ _ _ h => h) (Or.inl ⟨by rfl, ?hy14x10⟩) hHeld ?rest14x10
        case hy14x10 => (intro w hSw; go_simp <;> with_reducible rfl)
        try simp only [Act.put, List.setIfInBounds_toArray, List.set_cons_zero, List.set_cons_succ]
        refine wpAnyH_take (i := 10) (oi := { dst := some 154, op := _, type := _, pos := _, after := _, guard := _ }) (v := undef) rfl (by kernel_rfl) (by kernel_rfl) (by kernel_rfl) (fun _ _ _ h => h) (Or.inr ⟨by rfl, rfl⟩) hHeld ?_
        try simp only [Act.put, List.setIfInBounds_toArray, List.set_cons_zero, List.set_cons_succ]
        refine wpAnyH_take (i := 11) (oi := { dst := some 155, op := _, type := _, pos := _, after := _, guard := _ }) (v := undef) rfl (by kernel_rfl) (by kernel_rfl) (by kernel_rfl) (fun _ _ _ h => h) (Or.inr ⟨by rfl, rfl⟩) hHeld ?_
        try simp only [Act.put, List.setIfInBounds_toArray, List.set_cons_zero, List.set_cons_succ]
        refine wpAnyH_take (i := 12) (oi := { dst := some 156, op := _, type := _, pos := _, after := _, guard := _ }) (v := undef) rfl (by kernel_rfl) (by kernel_rfl) (by kernel_rfl) (fun _ _ _ h => h) (Or.inr ⟨by rfl, rfl⟩) hHeld ?_
        try simp only [Act.put, List.setIfInBounds_toArray, List.set_cons_zero, List.set_cons_succ]
        refine wpAnyH_take (i := 13) (oi := { dst := some 157, op := _, type := _, pos := _, after := _, guard := _ }) (v := undef) rfl (by kernel_rfl) (by kernel_rfl) (by kernel_rfl) (fun _ _ _ h => h) (Or.inr ⟨by rfl, rfl⟩) hHeld ?_
        try simp only [Act.put, List.setIfInBounds_toArray, List.set_cons_zero, List.set_cons_succ]
        refine wpAnyH_take (i := 14) (oi := { dst := some 158, op := _, type := _, pos := _, after := _, guard := _ }) (v := undef) rfl (by kernel_rfl) (by kernel_rfl) (by kernel_rfl) (fun _ _ _ h => h) (Or.inr ⟨by rfl, rfl⟩) hHeld ?_
        try simp only [Act.put, List.setIfInBounds_toArray, List.set_cons_zero, List.set_cons_succ]
        refine wpAnyH_take (i := 15) (oi := { dst := some 159, op := _, type := _, pos := _, after := _, guard := _ }) (v := undef) rfl (by kernel_rfl) (by kernel_rfl) (by kernel_rfl) (fun _ _ _ h => h) (Or.inr ⟨by rfl, rfl⟩) hHeld ?_
        try simp only [Act.put, List.setIfInBounds_toArray, List.set_cons_zero, List.set_cons_succ]
        refine wpAnyH_take (i := 16) (oi := { dst := some 160, op := _, type := _, pos := _, after := _, guard := _ }) (v := ?v14x17) rfl (by kernel_rfl) (by kernel_rfl) (by kernel_rfl) (fun _ _ _ h => h) (Or.inl ⟨by rfl, ?hy14x17⟩) hHeld ?rest14x17
        case hy14x17 => (intro w hSw; go_simp <;> with_reducible rfl)
        try simp only [Act.put, List.setIfInBounds_toArray, List.set_cons_zero, List.set_cons_succ]
        refine wpAnyH_done (by kernel_rfl) ?_ _
        clear hcr hcr0 dX HPB PM
        have HS5 := hide (HS.out.mem hHeld)
        go_upto_region 99 with (refine wpList_storeQ rfl 27 (.tmp 2) (.tmp 161) rfl gz 27 (zeroP 0) none 0 0 none 0 0 (zeroP 0) none 0 0 none 0 0 rfl rfl (HS5.out).hz (by kernel_rfl) ?_; intro V2 bV2 BV2)
        refine bodyPost_ret (results_cell_tmp rfl rfl bV2 Try.underlying27 rfl (by kernel_rfl)) rfl ?_
        refine HOP.out _ _ ?_
        rw [hO0]
        exact ⟨rfl, ((HS5.out).ans BV2).2.below (Below.refl _ _) hwgr (Nat.le_refl _)⟩
      case pos =>
      have PB := fun W (hb : Below V4.heap.size V4 W) => rBytes10_any p C nc kc S ns ks W (HM.out.keep hb) HPS.out hmv
      rw [hmv] at PM
      by_cases hl : layP p = xs
      case pos =>
        have hO0 : O = some p := by rw [← HO.out, if_neg (by rw [hmv]; simp [hl])]
        rw [hl] at PB
        refine wp_region_held_drew (S := fun w' => Below V4.heap.size V4 w') (by kernel_rfl) ?_ (fun hHeld => ?_)
        · exact (Below.refl _ _).drew
        refine wpAnyH_take (i := 0) (oi := { dst := some 144, op := _, type := _, pos := _, after := _, guard := _ }) (v := ?v15x1) rfl (by kernel_rfl) (by kernel_rfl) (by kernel_rfl) (fun _ _ _ h => h) (Or.inl ⟨by rfl, ?hy15x1⟩) hHeld ?rest15x1
        case hy15x1 => (intro w hSw; go_simp <;> with_reducible rfl)
        try simp only [Act.put, List.setIfInBounds_toArray, List.set_cons_zero, List.set_cons_succ]
        refine wpAnyH_take (i := 1) (oi := { dst := some 145, op := _, type := _, pos := _, after := _, guard := _ }) (v := ?v15x2) rfl (by kernel_rfl) (by kernel_rfl) (by kernel_rfl) (fun _ _ _ h => h) (Or.inl ⟨by rfl, ?hy15x2⟩) hHeld ?rest15x2
        case hy15x2 => (intro w hSw; go_simp <;> with_reducible rfl)
        try simp only [Act.put, List.setIfInBounds_toArray, List.set_cons_zero, List.set_cons_succ]
        refine wpAnyH_take (i := 2) (oi := { dst := some 146, op := _, type := _, pos := _, after := _, guard := _ }) (v := ?v15x3) rfl (by kernel_rfl) (by kernel_rfl) (by kernel_rfl) (fun _ _ _ h => h) (Or.inl ⟨by rfl, ?hy15x3⟩) hHeld ?rest15x3
        case hy15x3 => (intro w hSw; go_simp <;> with_reducible rfl)
        try simp only [Act.put, List.setIfInBounds_toArray, List.set_cons_zero, List.set_cons_succ]
        refine wpAnyH_take (i := 3) (oi := { dst := some 147, op := _, type := _, pos := _, after := _, guard := _ }) (v := ?v15x4) rfl (by kernel_rfl) (by kernel_rfl) (by kernel_rfl) (fun _ _ _ h => h) (Or.inl ⟨by rfl, ?hy15x4⟩) hHeld ?rest15x4
        case hy15x4 => (intro w hSw; go_simp <;> with_reducible rfl)
        try simp only [Act.put, List.setIfInBounds_toArray, List.set_cons_zero, List.set_cons_succ]
        refine wpAnyH_take (i := 4) (oi := { dst := some 148, op := _, type := _, pos := _, after := _, guard := _ }) (v := ?v15x5) rfl (by kernel_rfl) (by kernel_rfl) (by kernel_rfl) (fun _ _ _ h => h) (Or.inl ⟨by rfl, ?hy15x5⟩) hHeld ?rest15x5
        case hy15x5 => (intro w hSw; go_simp <;> with_reducible rfl)
        try simp only [Act.put, List.setIfInBounds_toArray, List.set_cons_zero, List.set_cons_succ]
        refine wpAnyH_take (i := 5) (oi := { dst := some 149, op := _, type := _, pos := _, after := _, guard := _ }) (v := ?v15x6) rfl (by kernel_rfl) (by kernel_rfl) (by kernel_rfl) (fun _ _ _ h => h) (Or.inl ⟨by rfl, ?hy15x6⟩) hHeld ?rest15x6
        case hy15x6 => (intro w hSw; refine exec_loadP 27 (.tmp 5) ?_ gp 27 p C nc kc S ns ks ?_ (HPB w hSw) Try.underlying27 ?_ ?_; rfl; rfl; rfl; kernel_rfl)
        try simp only [Act.put, List.setIfInBounds_toArray, List.set_cons_zero, List.set_cons_succ]
        refine wpAnyH_ready (rs := [6]) (by kernel_rfl) (by simp) (AllReadyH.cons (o := { dst := some 150, op := _, type := _, pos := _, after := _, guard := _ }) rfl (fun K hK => ?_) AllReadyH.nil)
        go_simp
        refine (PM _ hHeld).mono ?_
        rintro e w6 ⟨rfl, b6⟩
        have s6 := below_on hHeld b6
        have dX6 : ∀ w', Below w6.heap.size w6 w' → ∀ c, (convert 31 9 (.slice (some ⟨bA, oA, none⟩) n c)).run Try.prog w' = .ok (.string (str xs)) w' := fun w' h => dX w' (below_on s6 h)
        go_wp2_with fail
        refine hK.out _ _ ?_ (fun hHeld => ?_)
        · exact below_on hHeld b6
        clear hK K
        try simp only [Act.put, List.setIfInBounds_toArray, List.set_cons_zero, List.set_cons_succ]
        refine wpAnyH_strong (S' := fun w' => Below w6.heap.size w6 w') (by intro w' h; exact below_on hHeld h) ?_
        replace hHeld : (fun w' => Below w6.heap.size w6 w') _ := Below.refl _ _
        refine wpAnyH_take (i := 7) (oi := { dst := some 151, op := _, type := _, pos := _, after := _, guard := _ }) (v := ?v15x8) rfl (by kernel_rfl) (by kernel_rfl) (by kernel_rfl) (fun _ _ _ h => h) (Or.inl ⟨by rfl, ?hy15x8⟩) hHeld ?rest15x8
        case hy15x8 => (intro w hSw; go_simp <;> with_reducible rfl)
        try simp only [Act.put, List.setIfInBounds_toArray, List.set_cons_zero, List.set_cons_succ]
        refine wpAnyH_take (i := 8) (oi := { dst := some 152, op := _, type := _, pos := _, after := _, guard := _ }) (v := ?v15x9) rfl (by kernel_rfl) (by kernel_rfl) (by kernel_rfl) (fun _ _ _ h => h) (Or.inl ⟨by rfl, ?hy15x9⟩) hHeld ?rest15x9
        case hy15x9 => (intro w hSw; go_simp <;> with_reducible rfl)
        try simp only [Act.put, List.setIfInBounds_toArray, List.set_cons_zero, List.set_cons_succ]
        refine wpAnyH_take (i := 9) (oi := { dst := some 153, op := _, type := _, pos := _, after := _, guard := _ }) (v := ?v15x10) rfl (by kernel_rfl) (by kernel_rfl) (by kernel_rfl) (fun _ _ _ h => h) (Or.inl ⟨by rfl, ?hy15x10⟩) hHeld ?rest15x10
        case hy15x10 => (intro w hSw; go_simp <;> with_reducible rfl)
        try simp only [Act.put, List.setIfInBounds_toArray, List.set_cons_zero, List.set_cons_succ]
        refine wpAnyH_take (i := 10) (oi := { dst := some 154, op := _, type := _, pos := _, after := _, guard := _ }) (v := ?v15x11) rfl (by kernel_rfl) (by kernel_rfl) (by kernel_rfl) (fun _ _ _ h => h) (Or.inl ⟨by rfl, ?hy15x11⟩) hHeld ?rest15x11
        case hy15x11 => (intro w hSw; refine exec_loadP 27 (.tmp 5) ?_ gp 27 p C nc kc S ns ks ?_ (HPB w (below_on s6 hSw)) Try.underlying27 ?_ ?_; rfl; rfl; rfl; kernel_rfl)
        try simp only [Act.put, List.setIfInBounds_toArray, List.set_cons_zero, List.set_cons_succ]
        refine wpAnyH_take (i := 13) (oi := { dst := some 157, op := _, type := _, pos := _, after := _, guard := _ }) (v := ?v15x12) rfl (by kernel_rfl) (by kernel_rfl) (by kernel_rfl) (fun _ _ _ h => h) (Or.inl ⟨by rfl, ?hy15x12⟩) hHeld ?rest15x12
        case hy15x12 => (intro w hSw; go_simp <;> with_reducible rfl)
        try simp only [Act.put, List.setIfInBounds_toArray, List.set_cons_zero, List.set_cons_succ]
        refine wpAnyH_take (i := 14) (oi := { dst := some 158, op := _, type := _, pos := _, after := _, guard := _ }) (v := ?v15x13) rfl (by kernel_rfl) (by kernel_rfl) (by kernel_rfl) (fun _ _ _ h => h) (Or.inl ⟨by rfl, ?hy15x13⟩) hHeld ?rest15x13
        case hy15x13 => (intro w hSw; go_simp <;> with_reducible rfl)
        try simp only [Act.put, List.setIfInBounds_toArray, List.set_cons_zero, List.set_cons_succ]
        refine wpAnyH_ready (rs := [11]) (by kernel_rfl) (by simp) (AllReadyH.cons (o := { dst := some 155, op := _, type := _, pos := _, after := _, guard := _ }) rfl (fun K hK => ?_) AllReadyH.nil)
        go_simp
        refine (PB _ (below_on s6 hHeld)).mono ?_
        rintro e w7 ⟨G, gk, rfl, hgk, r7, b7⟩
        have s7 := below_on s6 (below_on hHeld b7)
        have dG := strOn r7
        have dX7 : ∀ w', Below w7.heap.size w7 w' → ∀ c, (convert 31 9 (.slice (some ⟨bA, oA, none⟩) n c)).run Try.prog w' = .ok (.string (str xs)) w' := fun w' h => dX w' (below_on s7 h)
        clear dX6
        go_wp2_with fail
        refine hK.out _ _ ?_ (fun hHeld => ?_)
        · exact below_on hHeld b7
        clear hK K
        try simp only [Act.put, List.setIfInBounds_toArray, List.set_cons_zero, List.set_cons_succ]
        refine wpAnyH_strong (S' := fun w' => Below w7.heap.size w7 w') (by intro w' h; exact below_on hHeld h) ?_
        replace hHeld : (fun w' => Below w7.heap.size w7 w') _ := Below.refl _ _
        refine wpAnyH_take (i := 12) (oi := { dst := some 156, op := _, type := _, pos := _, after := _, guard := _ }) (v := ?v15x15) rfl (by kernel_rfl) (by kernel_rfl) (by kernel_rfl) (fun _ _ _ h => h) (Or.inl ⟨by rfl, ?hy15x15⟩) hHeld ?rest15x15
        case hy15x15 => (intro w hSw; go_simp <;> with_reducible rfl)
        try simp only [Act.put, List.setIfInBounds_toArray, List.set_cons_zero, List.set_cons_succ]
        refine wpAnyH_take (i := 15) (oi := { dst := some 159, op := _, type := _, pos := _, after := _, guard := _ }) (v := ?v15x16) rfl (by kernel_rfl) (by kernel_rfl) (by kernel_rfl) (fun _ _ _ h => h) (Or.inl ⟨by rfl, ?hy15x16⟩) hHeld ?rest15x16
        case hy15x16 => (intro w hSw; go_simp <;> with_reducible rfl)
        try simp only [Act.put, List.setIfInBounds_toArray, List.set_cons_zero, List.set_cons_succ]
        refine wpAnyH_take (i := 16) (oi := { dst := some 160, op := _, type := _, pos := _, after := _, guard := _ }) (v := ?v15x17) rfl (by kernel_rfl) (by kernel_rfl) (by kernel_rfl) (fun _ _ _ h => h) (Or.inl ⟨by rfl, ?hy15x17⟩) hHeld ?rest15x17
        case hy15x17 => (intro w hSw; go_simp <;> with_reducible rfl)
        try simp only [Act.put, List.setIfInBounds_toArray, List.set_cons_zero, List.set_cons_succ]
        refine wpAnyH_done (by kernel_rfl) ?_ _
        have hbel := below_on s7 hHeld
        clear hcr hcr0 dX HPB PM PB dG dX7
        have HS5 := hide (HS.out.mem hbel)
        have HM5 := hide (HM.out.keep hbel)
        go_upto_region 99 with (first
          | (refine wpList_loadP rfl 27 (.tmp 5) rfl gp 27 p C nc kc S ns ks rfl HS5.out.hp Try.underlying27 rfl (by kernel_rfl) ?_)
          | (refine wpList_storeQ rfl 27 (.tmp 2) (.tmp 162) rfl gz 27 (zeroP 0) none 0 0 none 0 0 p C nc kc S ns ks rfl rfl HS5.out.hz (by kernel_rfl) ?_; intro V2 bV2 BV2))
        refine bodyPost_ret (results_cell_tmp rfl rfl bV2 Try.underlying27 rfl (by kernel_rfl)) rfl ?_
        refine HOP.out _ _ ?_
        rw [hO0]
        exact ⟨C, nc, kc, S, ns, ks, rfl, HN.out.1, HN.out.2, PkM_but HM5.out BV2 HOF.out.1 HOF.out.2, (HS5.out.ans BV2).2.below (Below.refl _ _) hwgr (Nat.le_refl _)⟩
      case neg =>
        have hO0 : O = none := by rw [← HO.out, if_pos (Or.inr (Or.inr hl))]
        have hlb : (layP p == xs) = false := by rw [beq_eq_false_iff_ne]; exact hl
        clear hl
        refine wp_region_held_drew (S := fun w' => Below V4.heap.size V4 w') (by kernel_rfl) ?_ (fun hHeld => ?_)
        · exact (Below.refl _ _).drew
        refine wpAnyH_take (i := 0) (oi := { dst := some 144, op := _, type := _, pos := _, after := _, guard := _ }) (v := ?v16x1) rfl (by kernel_rfl) (by kernel_rfl) (by kernel_rfl) (fun _ _ _ h => h) (Or.inl ⟨by rfl, ?hy16x1⟩) hHeld ?rest16x1
        case hy16x1 => (intro w hSw; go_simp <;> with_reducible rfl)
        try simp only [Act.put, List.setIfInBounds_toArray, List.set_cons_zero, List.set_cons_succ]
        refine wpAnyH_take (i := 1) (oi := { dst := some 145, op := _, type := _, pos := _, after := _, guard := _ }) (v := ?v16x2) rfl (by kernel_rfl) (by kernel_rfl) (by kernel_rfl) (fun _ _ _ h => h) (Or.inl ⟨by rfl, ?hy16x2⟩) hHeld ?rest16x2
        case hy16x2 => (intro w hSw; go_simp <;> with_reducible rfl)
        try simp only [Act.put, List.setIfInBounds_toArray, List.set_cons_zero, List.set_cons_succ]
        refine wpAnyH_take (i := 2) (oi := { dst := some 146, op := _, type := _, pos := _, after := _, guard := _ }) (v := ?v16x3) rfl (by kernel_rfl) (by kernel_rfl) (by kernel_rfl) (fun _ _ _ h => h) (Or.inl ⟨by rfl, ?hy16x3⟩) hHeld ?rest16x3
        case hy16x3 => (intro w hSw; go_simp <;> with_reducible rfl)
        try simp only [Act.put, List.setIfInBounds_toArray, List.set_cons_zero, List.set_cons_succ]
        refine wpAnyH_take (i := 3) (oi := { dst := some 147, op := _, type := _, pos := _, after := _, guard := _ }) (v := ?v16x4) rfl (by kernel_rfl) (by kernel_rfl) (by kernel_rfl) (fun _ _ _ h => h) (Or.inl ⟨by rfl, ?hy16x4⟩) hHeld ?rest16x4
        case hy16x4 => (intro w hSw; go_simp <;> with_reducible rfl)
        try simp only [Act.put, List.setIfInBounds_toArray, List.set_cons_zero, List.set_cons_succ]
        refine wpAnyH_take (i := 4) (oi := { dst := some 148, op := _, type := _, pos := _, after := _, guard := _ }) (v := ?v16x5) rfl (by kernel_rfl) (by kernel_rfl) (by kernel_rfl) (fun _ _ _ h => h) (Or.inl ⟨by rfl, ?hy16x5⟩) hHeld ?rest16x5
        case hy16x5 => (intro w hSw; go_simp <;> with_reducible rfl)
        try simp only [Act.put, List.setIfInBounds_toArray, List.set_cons_zero, List.set_cons_succ]
        refine wpAnyH_take (i := 5) (oi := { dst := some 149, op := _, type := _, pos := _, after := _, guard := _ }) (v := ?v16x6) rfl (by kernel_rfl) (by kernel_rfl) (by kernel_rfl) (fun _ _ _ h => h) (Or.inl ⟨by rfl, ?hy16x6⟩) hHeld ?rest16x6
        case hy16x6 => (intro w hSw; refine exec_loadP 27 (.tmp 5) ?_ gp 27 p C nc kc S ns ks ?_ (HPB w hSw) Try.underlying27 ?_ ?_; rfl; rfl; rfl; kernel_rfl)
        try simp only [Act.put, List.setIfInBounds_toArray, List.set_cons_zero, List.set_cons_succ]
        refine wpAnyH_ready (rs := [6]) (by kernel_rfl) (by simp) (AllReadyH.cons (o := { dst := some 150, op := _, type := _, pos := _, after := _, guard := _ }) rfl (fun K hK => ?_) AllReadyH.nil)
        go_simp
        refine (PM _ hHeld).mono ?_
        rintro e w6 ⟨rfl, b6⟩
        have s6 := below_on hHeld b6
        have dX6 : ∀ w', Below w6.heap.size w6 w' → ∀ c, (convert 31 9 (.slice (some ⟨bA, oA, none⟩) n c)).run Try.prog w' = .ok (.string (str xs)) w' := fun w' h => dX w' (below_on s6 h)
        go_wp2_with fail
        refine hK.out _ _ ?_ (fun hHeld => ?_)
        · exact below_on hHeld b6
        clear hK K
        try simp only [Act.put, List.setIfInBounds_toArray, List.set_cons_zero, List.set_cons_succ]
        refine wpAnyH_strong (S' := fun w' => Below w6.heap.size w6 w') (by intro w' h; exact below_on hHeld h) ?_
        replace hHeld : (fun w' => Below w6.heap.size w6 w') _ := Below.refl _ _
        refine wpAnyH_take (i := 7) (oi := { dst := some 151, op := _, type := _, pos := _, after := _, guard := _ }) (v := ?v16x8) rfl (by kernel_rfl) (by kernel_rfl) (by kernel_rfl) (fun _ _ _ h => h) (Or.inl ⟨by rfl, ?hy16x8⟩) hHeld ?rest16x8
        case hy16x8 => (intro w hSw; go_simp <;> with_reducible rfl)
        try simp only [Act.put, List.setIfInBounds_toArray, List.set_cons_zero, List.set_cons_succ]
        refine wpAnyH_take (i := 8) (oi := { dst := some 152, op := _, type := _, pos := _, after := _, guard := _ }) (v := ?v16x9) rfl (by kernel_rfl) (by kernel_rfl) (by kernel_rfl) (fun _ _ _ h => h) (Or.inl ⟨by rfl, ?hy16x9⟩) hHeld ?rest16x9
        case hy16x9 => (intro w hSw; go_simp <;> with_reducible rfl)
        try simp only [Act.put, List.setIfInBounds_toArray, List.set_cons_zero, List.set_cons_succ]
        refine wpAnyH_take (i := 9) (oi := { dst := some 153, op := _, type := _, pos := _, after := _, guard := _ }) (v := ?v16x10) rfl (by kernel_rfl) (by kernel_rfl) (by kernel_rfl) (fun _ _ _ h => h) (Or.inl ⟨by rfl, ?hy16x10⟩) hHeld ?rest16x10
        case hy16x10 => (intro w hSw; go_simp <;> with_reducible rfl)
        try simp only [Act.put, List.setIfInBounds_toArray, List.set_cons_zero, List.set_cons_succ]
        refine wpAnyH_take (i := 10) (oi := { dst := some 154, op := _, type := _, pos := _, after := _, guard := _ }) (v := ?v16x11) rfl (by kernel_rfl) (by kernel_rfl) (by kernel_rfl) (fun _ _ _ h => h) (Or.inl ⟨by rfl, ?hy16x11⟩) hHeld ?rest16x11
        case hy16x11 => (intro w hSw; refine exec_loadP 27 (.tmp 5) ?_ gp 27 p C nc kc S ns ks ?_ (HPB w (below_on s6 hSw)) Try.underlying27 ?_ ?_; rfl; rfl; rfl; kernel_rfl)
        try simp only [Act.put, List.setIfInBounds_toArray, List.set_cons_zero, List.set_cons_succ]
        refine wpAnyH_take (i := 13) (oi := { dst := some 157, op := _, type := _, pos := _, after := _, guard := _ }) (v := ?v16x12) rfl (by kernel_rfl) (by kernel_rfl) (by kernel_rfl) (fun _ _ _ h => h) (Or.inl ⟨by rfl, ?hy16x12⟩) hHeld ?rest16x12
        case hy16x12 => (intro w hSw; go_simp <;> with_reducible rfl)
        try simp only [Act.put, List.setIfInBounds_toArray, List.set_cons_zero, List.set_cons_succ]
        refine wpAnyH_take (i := 14) (oi := { dst := some 158, op := _, type := _, pos := _, after := _, guard := _ }) (v := ?v16x13) rfl (by kernel_rfl) (by kernel_rfl) (by kernel_rfl) (fun _ _ _ h => h) (Or.inl ⟨by rfl, ?hy16x13⟩) hHeld ?rest16x13
        case hy16x13 => (intro w hSw; go_simp <;> with_reducible rfl)
        try simp only [Act.put, List.setIfInBounds_toArray, List.set_cons_zero, List.set_cons_succ]
        refine wpAnyH_ready (rs := [11]) (by kernel_rfl) (by simp) (AllReadyH.cons (o := { dst := some 155, op := _, type := _, pos := _, after := _, guard := _ }) rfl (fun K hK => ?_) AllReadyH.nil)
        go_simp
        refine (PB _ (below_on s6 hHeld)).mono ?_
        rintro e w7 ⟨G, gk, rfl, hgk, r7, b7⟩
        have s7 := below_on s6 (below_on hHeld b7)
        have dG := strOn r7
        have dX7 : ∀ w', Below w7.heap.size w7 w' → ∀ c, (convert 31 9 (.slice (some ⟨bA, oA, none⟩) n c)).run Try.prog w' = .ok (.string (str xs)) w' := fun w' h => dX w' (below_on s7 h)
        clear dX6
        go_wp2_with fail
        refine hK.out _ _ ?_ (fun hHeld => ?_)
        · exact below_on hHeld b7
        clear hK K
        try simp only [Act.put, List.setIfInBounds_toArray, List.set_cons_zero, List.set_cons_succ]
        refine wpAnyH_strong (S' := fun w' => Below w7.heap.size w7 w') (by intro w' h; exact below_on hHeld h) ?_
        replace hHeld : (fun w' => Below w7.heap.size w7 w') _ := Below.refl _ _
        refine wpAnyH_take (i := 12) (oi := { dst := some 156, op := _, type := _, pos := _, after := _, guard := _ }) (v := ?v16x15) rfl (by kernel_rfl) (by kernel_rfl) (by kernel_rfl) (fun _ _ _ h => h) (Or.inl ⟨by rfl, ?hy16x15⟩) hHeld ?rest16x15
        case hy16x15 => (intro w hSw; go_simp <;> with_reducible rfl)
        try simp only [Act.put, List.setIfInBounds_toArray, List.set_cons_zero, List.set_cons_succ]
        refine wpAnyH_take (i := 15) (oi := { dst := some 159, op := _, type := _, pos := _, after := _, guard := _ }) (v := ?v16x16) rfl (by kernel_rfl) (by kernel_rfl) (by kernel_rfl) (fun _ _ _ h => h) (Or.inl ⟨by rfl, ?hy16x16⟩) hHeld ?rest16x16
        case hy16x16 => (intro w hSw; go_simp <;> with_reducible rfl)
        try simp only [Act.put, List.setIfInBounds_toArray, List.set_cons_zero, List.set_cons_succ]
        refine wpAnyH_take (i := 16) (oi := { dst := some 160, op := _, type := _, pos := _, after := _, guard := _ }) (v := ?v16x17) rfl (by kernel_rfl) (by kernel_rfl) (by kernel_rfl) (fun _ _ _ h => h) (Or.inl ⟨by rfl, ?hy16x17⟩) hHeld ?rest16x17
        case hy16x17 => (intro w hSw; go_simp <;> with_reducible rfl)
        try simp only [Act.put, List.setIfInBounds_toArray, List.set_cons_zero, List.set_cons_succ]
        refine wpAnyH_done (by kernel_rfl) ?_ _
        have hbel := below_on s7 hHeld
        clear hcr hcr0 dX HPB PM PB dG dX7
        have HS5 := hide (HS.out.mem hbel)
        go_upto_region 99 with (refine wpList_storeQ rfl 27 (.tmp 2) (.tmp 161) rfl gz 27 (zeroP 0) none 0 0 none 0 0 (zeroP 0) none 0 0 none 0 0 rfl rfl (HS5.out).hz (by kernel_rfl) ?_; intro V2 bV2 BV2)
        refine bodyPost_ret (results_cell_tmp rfl rfl bV2 Try.underlying27 rfl (by kernel_rfl)) rfl ?_
        refine HOP.out _ _ ?_
        rw [hO0]
        exact ⟨rfl, ((HS5.out).ans BV2).2.below (Below.refl _ _) hwgr (Nat.le_refl _)⟩
  · skip
    go_upto_region 40 with (go_at_call 46; refine (PW _ HS.out.hr).mono ?_; rintro e V3 ⟨rfl, r3, a3⟩; have HS := hide (HS.out.call r3 a3); have cc : V3.cell? ⟨gp, 2, none⟩ = some (.int .i64 0) := HS.out.hp.cell 2; have ff := HS.out.hp.frozen; clear r3 a3)
    have HS := hide (HS.out.set 2 (.int .i64 (id : Int)) ⟨_, false, (id : Int), [], [], 0, false, [], false, 0, false, false, false, [], [], false, [], []⟩ rfl)
    generalize V3.setCell ⟨gp, 2, none⟩ (.int .i64 (id : Int)) = V4 at *
    clear cc ff c0 PW
    have HS0 := HS
    have HPS := hide (show PkS p from by rw [← Hp.out]; simp [PkS])
    obtain ⟨C, nc, kc, S, ns, ks, HS, HM, HN, HOF⟩ : ∃ (C : Option Addr) (nc kc : Nat) (S : Option Addr) (ns ks : Nat), Hid (PsS w.heap.size w V4 gp gr gz p C nc kc S ns ks s) ∧ Hid (PkM V4 p C nc kc S ns ks) ∧ Hid (NewAt w C ∧ NewAt w S) ∧ Hid ((0 < nc → Off (fun i => i = gz) C) ∧ (0 < ns → Off (fun i => i = gz) S)) := ⟨none, 0, 0, none, 0, 0, hide (by rw [← Hp.out]; exact HS0.out), hide (pkM00 _ p (by rw [← Hp.out]; first | done | rfl) (by rw [← Hp.out]; first | done | rfl)), hide ⟨NewAt.nil _, NewAt.nil _⟩, hide ⟨fun h => by omega, fun h => by omega⟩⟩
    have HO := hide (show (if s.2 = true ∨ mayP p = false ∨ layP p ≠ xs then none else some p) = O from by have := HO.out; rw [HBR.out] at this; exact this)
    clear HS0 HBR
    go_upto_region 40 with fail
    have hwV : Below w.heap.size w V4 := HS.out.aft.below (Below.refl _ _) hwgr (Nat.le_refl _)
    have dX := strOn (HR.out.keep hwV)
    obtain ⟨ys, bd⟩ := s
    obtain ⟨A2, k2, hBr, -⟩ := HS.out.hr
    have hcr0 := hBr.cell 1
    simp only [List.getElem?_cons_zero, List.getElem?_cons_succ] at hcr0
    have hgrl := hBr.lt
    have hPl := HS.out.hp
    clear hBr
    cases bd with
    | true =>
      have hO0 : O = none := by rw [← HO.out, if_pos (Or.inl rfl)]
      have hcr : ∀ w', Below V4.heap.size V4 w' → w'.cell? ⟨gr, 1, none⟩ = some (.bool true) := fun w' h => (h.cell (p := ⟨gr, 1, none⟩) hgrl).trans hcr0
      refine wp_region_held_drew (S := fun w' => Below V4.heap.size V4 w') (by kernel_rfl) ?_ (fun hHeld => ?_)
      · exact (Below.refl _ _).drew
      refine wpAnyH_take (i := 0) (oi := { dst := some 144, op := _, type := _, pos := _, after := _, guard := _ }) (v := ?v17x1) rfl (by kernel_rfl) (by kernel_rfl) (by kernel_rfl) (fun _ _ _ h => h) (Or.inl ⟨by rfl, ?hy17x1⟩) hHeld ?rest17x1
      case hy17x1 => (intro w hSw; go_simp <;> with_reducible rfl)
      try simp only [Act.put, List.setIfInBounds_toArray, List.set_cons_zero, List.set_cons_succ]
      refine wpAnyH_take (i := 1) (oi := { dst := some 145, op := _, type := _, pos := _, after := _, guard := _ }) (v := ?v17x2) rfl (by kernel_rfl) (by kernel_rfl) (by kernel_rfl) (fun _ _ _ h => h) (Or.inl ⟨by rfl, ?hy17x2⟩) hHeld ?rest17x2
      case hy17x2 => (intro w hSw; go_simp <;> with_reducible rfl)
      try simp only [Act.put, List.setIfInBounds_toArray, List.set_cons_zero, List.set_cons_succ]
      refine wpAnyH_take (i := 2) (oi := { dst := some 146, op := _, type := _, pos := _, after := _, guard := _ }) (v := ?v17x3) rfl (by kernel_rfl) (by kernel_rfl) (by kernel_rfl) (fun _ _ _ h => h) (Or.inl ⟨by rfl, ?hy17x3⟩) hHeld ?rest17x3
      case hy17x3 => (intro w hSw; go_simp <;> with_reducible rfl)
      try simp only [Act.put, List.setIfInBounds_toArray, List.set_cons_zero, List.set_cons_succ]
      refine wpAnyH_take (i := 3) (oi := { dst := some 147, op := _, type := _, pos := _, after := _, guard := _ }) (v := ?v17x4) rfl (by kernel_rfl) (by kernel_rfl) (by kernel_rfl) (fun _ _ _ h => h) (Or.inl ⟨by rfl, ?hy17x4⟩) hHeld ?rest17x4
      case hy17x4 => (intro w hSw; go_simp <;> with_reducible rfl)
      try simp only [Act.put, List.setIfInBounds_toArray, List.set_cons_zero, List.set_cons_succ]
      refine wpAnyH_take (i := 4) (oi := { dst := some 148, op := _, type := _, pos := _, after := _, guard := _ }) (v := ?v17x5) rfl (by kernel_rfl) (by kernel_rfl) (by kernel_rfl) (fun _ _ _ h => h) (Or.inl ⟨by rfl, ?hy17x5⟩) hHeld ?rest17x5
      case hy17x5 => (intro w hSw; go_simp <;> with_reducible rfl)
      try simp only [Act.put, List.setIfInBounds_toArray, List.set_cons_zero, List.set_cons_succ]
      refine wpAnyH_take (i := 5) (oi := { dst := some 149, op := _, type := _, pos := _, after := _, guard := _ }) (v := undef) rfl (by kernel_rfl) (by kernel_rfl) (by kernel_rfl) (fun _ _ _ h => h) (Or.inr ⟨by rfl, rfl⟩) hHeld ?_
      try simp only [Act.put, List.setIfInBounds_toArray, List.set_cons_zero, List.set_cons_succ]
      refine wpAnyH_take (i := 6) (oi := { dst := some 150, op := _, type := _, pos := _, after := _, guard := _ }) (v := undef) rfl (by kernel_rfl) (by kernel_rfl) (by kernel_rfl) (fun _ _ _ h => h) (Or.inr ⟨by rfl, rfl⟩) hHeld ?_
      try simp only [Act.put, List.setIfInBounds_toArray, List.set_cons_zero, List.set_cons_succ]
      refine wpAnyH_take (i := 7) (oi := { dst := some 151, op := _, type := _, pos := _, after := _, guard := _ }) (v := undef) rfl (by kernel_rfl) (by kernel_rfl) (by kernel_rfl) (fun _ _ _ h => h) (Or.inr ⟨by rfl, rfl⟩) hHeld ?_
      try simp only [Act.put, List.setIfInBounds_toArray, List.set_cons_zero, List.set_cons_succ]
      refine wpAnyH_take (i := 8) (oi := { dst := some 152, op := _, type := _, pos := _, after := _, guard := _ }) (v := ?v17x9) rfl (by kernel_rfl) (by kernel_rfl) (by kernel_rfl) (fun _ _ _ h => h) (Or.inl ⟨by rfl, ?hy17x9⟩) hHeld ?rest17x9
      case hy17x9 => (intro w hSw; go_simp <;> with_reducible rfl)
      try simp only [Act.put, List.setIfInBounds_toArray, List.set_cons_zero, List.set_cons_succ]
      refine wpAnyH_take (i := 9) (oi := { dst := some 153, op := _, type := _, pos := _, after := _, guard := _ }) (v := ?v17x10) rfl (by kernel_rfl) (by kernel_rfl) (by kernel_rfl) (fun _ _ _ h => h) (Or.inl ⟨by rfl, ?hy17x10⟩) hHeld ?rest17x10
      case hy17x10 => (intro w hSw; go_simp <;> with_reducible rfl)
      try simp only [Act.put, List.setIfInBounds_toArray, List.set_cons_zero, List.set_cons_succ]
      refine wpAnyH_take (i := 10) (oi := { dst := some 154, op := _, type := _, pos := _, after := _, guard := _ }) (v := undef) rfl (by kernel_rfl) (by kernel_rfl) (by kernel_rfl) (fun _ _ _ h => h) (Or.inr ⟨by rfl, rfl⟩) hHeld ?_
      try simp only [Act.put, List.setIfInBounds_toArray, List.set_cons_zero, List.set_cons_succ]
      refine wpAnyH_take (i := 11) (oi := { dst := some 155, op := _, type := _, pos := _, after := _, guard := _ }) (v := undef) rfl (by kernel_rfl) (by kernel_rfl) (by kernel_rfl) (fun _ _ _ h => h) (Or.inr ⟨by rfl, rfl⟩) hHeld ?_
      try simp only [Act.put, List.setIfInBounds_toArray, List.set_cons_zero, List.set_cons_succ]
      refine wpAnyH_take (i := 12) (oi := { dst := some 156, op := _, type := _, pos := _, after := _, guard := _ }) (v := undef) rfl (by kernel_rfl) (by kernel_rfl) (by kernel_rfl) (fun _ _ _ h => h) (Or.inr ⟨by rfl, rfl⟩) hHeld ?_
      try simp only [Act.put, List.setIfInBounds_toArray, List.set_cons_zero, List.set_cons_succ]
      refine wpAnyH_take (i := 13) (oi := { dst := some 157, op := _, type := _, pos := _, after := _, guard := _ }) (v := undef) rfl (by kernel_rfl) (by kernel_rfl) (by kernel_rfl) (fun _ _ _ h => h) (Or.inr ⟨by rfl, rfl⟩) hHeld ?_
      try simp only [Act.put, List.setIfInBounds_toArray, List.set_cons_zero, List.set_cons_succ]
      refine wpAnyH_take (i := 14) (oi := { dst := some 158, op := _, type := _, pos := _, after := _, guard := _ }) (v := undef) rfl (by kernel_rfl) (by kernel_rfl) (by kernel_rfl) (fun _ _ _ h => h) (Or.inr ⟨by rfl, rfl⟩) hHeld ?_
      try simp only [Act.put, List.setIfInBounds_toArray, List.set_cons_zero, List.set_cons_succ]
      refine wpAnyH_take (i := 15) (oi := { dst := some 159, op := _, type := _, pos := _, after := _, guard := _ }) (v := undef) rfl (by kernel_rfl) (by kernel_rfl) (by kernel_rfl) (fun _ _ _ h => h) (Or.inr ⟨by rfl, rfl⟩) hHeld ?_
      try simp only [Act.put, List.setIfInBounds_toArray, List.set_cons_zero, List.set_cons_succ]
      refine wpAnyH_take (i := 16) (oi := { dst := some 160, op := _, type := _, pos := _, after := _, guard := _ }) (v := ?v17x17) rfl (by kernel_rfl) (by kernel_rfl) (by kernel_rfl) (fun _ _ _ h => h) (Or.inl ⟨by rfl, ?hy17x17⟩) hHeld ?rest17x17
      case hy17x17 => (intro w hSw; go_simp <;> with_reducible rfl)
      try simp only [Act.put, List.setIfInBounds_toArray, List.set_cons_zero, List.set_cons_succ]
      refine wpAnyH_done (by kernel_rfl) ?_ _
      clear hcr hcr0 dX
      have HS5 := hide (HS.out.mem hHeld)
      go_upto_region 99 with (refine wpList_storeQ rfl 27 (.tmp 2) (.tmp 161) rfl gz 27 (zeroP 0) none 0 0 none 0 0 (zeroP 0) none 0 0 none 0 0 rfl rfl (HS5.out).hz (by kernel_rfl) ?_; intro V2 bV2 BV2)
      refine bodyPost_ret (results_cell_tmp rfl rfl bV2 Try.underlying27 rfl (by kernel_rfl)) rfl ?_
      refine HOP.out _ _ ?_
      rw [hO0]
      exact ⟨rfl, ((HS5.out).ans BV2).2.below (Below.refl _ _) hwgr (Nat.le_refl _)⟩
    | false =>
      have hcr : ∀ w', Below V4.heap.size V4 w' → w'.cell? ⟨gr, 1, none⟩ = some (.bool false) := fun w' h => (h.cell (p := ⟨gr, 1, none⟩) hgrl).trans hcr0
      have HPB : ∀ w', Below V4.heap.size V4 w' → Blk w' gp 27 (pkVs p C nc kc S ns ks) := fun w' h => hPl.keep h
      have PM := fun W (hb : Below V4.heap.size V4 W) => may_any p C nc kc S ns ks W (HM.out.keep hb) HPS.out
      by_cases hmv : mayP p = true
      case neg =>
        have hmf : mayP p = false := by rw [← Bool.not_eq_true]; exact hmv
        have hO0 : O = none := by rw [← HO.out, if_pos (Or.inr (Or.inl hmf))]
        rw [hmf] at PM
        clear hmv
        refine wp_region_held_drew (S := fun w' => Below V4.heap.size V4 w') (by kernel_rfl) ?_ (fun hHeld => ?_)
        · exact (Below.refl _ _).drew
        refine wpAnyH_take (i := 0) (oi := { dst := some 144, op := _, type := _, pos := _, after := _, guard := _ }) (v := ?v18x1) rfl (by kernel_rfl) (by kernel_rfl) (by kernel_rfl) (fun _ _ _ h => h) (Or.inl ⟨by rfl, ?hy18x1⟩) hHeld ?rest18x1
        case hy18x1 => (intro w hSw; go_simp <;> with_reducible rfl)
        try simp only [Act.put, List.setIfInBounds_toArray, List.set_cons_zero, List.set_cons_succ]
        refine wpAnyH_take (i := 1) (oi := { dst := some 145, op := _, type := _, pos := _, after := _, guard := _ }) (v := ?v18x2) rfl (by kernel_rfl) (by kernel_rfl) (by kernel_rfl) (fun _ _ _ h => h) (Or.inl ⟨by rfl, ?hy18x2⟩) hHeld ?rest18x2
        case hy18x2 => (intro w hSw; go_simp <;> with_reducible rfl)
        try simp only [Act.put, List.setIfInBounds_toArray, List.set_cons_zero, List.set_cons_succ]
        refine wpAnyH_take (i := 2) (oi := { dst := some 146, op := _, type := _, pos := _, after := _, guard := _ }) (v := ?v18x3) rfl (by kernel_rfl) (by kernel_rfl) (by kernel_rfl) (fun _ _ _ h => h) (Or.inl ⟨by rfl, ?hy18x3⟩) hHeld ?rest18x3
        case hy18x3 => (intro w hSw; go_simp <;> with_reducible rfl)
        try simp only [Act.put, List.setIfInBounds_toArray, List.set_cons_zero, List.set_cons_succ]
        refine wpAnyH_take (i := 3) (oi := { dst := some 147, op := _, type := _, pos := _, after := _, guard := _ }) (v := ?v18x4) rfl (by kernel_rfl) (by kernel_rfl) (by kernel_rfl) (fun _ _ _ h => h) (Or.inl ⟨by rfl, ?hy18x4⟩) hHeld ?rest18x4
        case hy18x4 => (intro w hSw; go_simp <;> with_reducible rfl)
        try simp only [Act.put, List.setIfInBounds_toArray, List.set_cons_zero, List.set_cons_succ]
        refine wpAnyH_take (i := 4) (oi := { dst := some 148, op := _, type := _, pos := _, after := _, guard := _ }) (v := ?v18x5) rfl (by kernel_rfl) (by kernel_rfl) (by kernel_rfl) (fun _ _ _ h => h) (Or.inl ⟨by rfl, ?hy18x5⟩) hHeld ?rest18x5
        case hy18x5 => (intro w hSw; go_simp <;> with_reducible rfl)
        try simp only [Act.put, List.setIfInBounds_toArray, List.set_cons_zero, List.set_cons_succ]
        refine wpAnyH_take (i := 5) (oi := { dst := some 149, op := _, type := _, pos := _, after := _, guard := _ }) (v := ?v18x6) rfl (by kernel_rfl) (by kernel_rfl) (by kernel_rfl) (fun _ _ _ h => h) (Or.inl ⟨by rfl, ?hy18x6⟩) hHeld ?rest18x6
        case hy18x6 => (intro w hSw; refine exec_loadP 27 (.tmp 5) ?_ gp 27 p C nc kc S ns ks ?_ (HPB w hSw) Try.underlying27 ?_ ?_; rfl; rfl; rfl; kernel_rfl)
        try simp only [Act.put, List.setIfInBounds_toArray, List.set_cons_zero, List.set_cons_succ]
        refine wpAnyH_ready (rs := [6]) (by kernel_rfl) (by simp) (AllReadyH.cons (o := { dst := some 150, op := _, type := _, pos := _, after := _, guard := _ }) rfl (fun K hK => ?_) AllReadyH.nil)
        go_simp
        refine (PM _ hHeld).mono ?_
        rintro e w6 ⟨rfl, b6⟩
        have s6 := below_on hHeld b6
        go_wp2_with fail
        refine hK.out _ _ ?_ (fun hHeld => ?_)
        · exact s6
        clear hK K
        try simp only [Act.put, List.setIfInBounds_toArray, List.set_cons_zero, List.set_cons_succ]
        refine wpAnyH_take (i := 7) (oi := { dst := some 151, op := _, type := _, pos := _, after := _, guard := _ }) (v := ?v18x8) rfl (by kernel_rfl) (by kernel_rfl) (by kernel_rfl) (fun _ _ _ h => h) (Or.inl ⟨by rfl, ?hy18x8⟩) hHeld ?rest18x8
        case hy18x8 => (intro w hSw; go_simp <;> with_reducible rfl)
        try simp only [Act.put, List.setIfInBounds_toArray, List.set_cons_zero, List.set_cons_succ]
        refine wpAnyH_take (i := 8) (oi := { dst := some 152, op := _, type := _, pos := _, after := _, guard := _ }) (v := ?v18x9) rfl (by kernel_rfl) (by kernel_rfl) (by kernel_rfl) (fun _ _ _ h => h) (Or.inl ⟨by rfl, ?hy18x9⟩) hHeld ?rest18x9
        case hy18x9 => (intro w hSw; go_simp <;> with_reducible rfl)
        try simp only [Act.put, List.setIfInBounds_toArray, List.set_cons_zero, List.set_cons_succ]
        refine wpAnyH_take (i := 9) (oi := { dst := some 153, op := _, type := _, pos := _, after := _, guard := _ }) (v := ?v18x10) rfl (by kernel_rfl) (by kernel_rfl) (by kernel_rfl) (fun _ _ _ h => h) (Or.inl ⟨by rfl, ?hy18x10⟩) hHeld ?rest18x10
        case hy18x10 => (intro w hSw; go_simp <;> with_reducible rfl)
        try simp only [Act.put, List.setIfInBounds_toArray, List.set_cons_zero, List.set_cons_succ]
        refine wpAnyH_take (i := 10) (oi := { dst := some 154, op := _, type := _, pos := _, after := _, guard := _ }) (v := undef) rfl (by kernel_rfl) (by kernel_rfl) (by kernel_rfl) (fun _ _ _ h => h) (Or.inr ⟨by rfl, rfl⟩) hHeld ?_
        try simp only [Act.put, List.setIfInBounds_toArray, List.set_cons_zero, List.set_cons_succ]
        refine wpAnyH_take (i := 11) (oi := { dst := some 155, op := _, type := _, pos := _, after := _, guard := _ }) (v := undef) rfl (by kernel_rfl) (by kernel_rfl) (by kernel_rfl) (fun _ _ _ h => h) (Or.inr ⟨by rfl, rfl⟩) hHeld ?_
        try simp only [Act.put, List.setIfInBounds_toArray, List.set_cons_zero, List.set_cons_succ]
        refine wpAnyH_take (i := 12) (oi := { dst := some 156, op := _, type := _, pos := _, after := _, guard := _ }) (v := undef) rfl (by kernel_rfl) (by kernel_rfl) (by kernel_rfl) (fun _ _ _ h => h) (Or.inr ⟨by rfl, rfl⟩) hHeld ?_
        try simp only [Act.put, List.setIfInBounds_toArray, List.set_cons_zero, List.set_cons_succ]
        refine wpAnyH_take (i := 13) (oi := { dst := some 157, op := _, type := _, pos := _, after := _, guard := _ }) (v := undef) rfl (by kernel_rfl) (by kernel_rfl) (by kernel_rfl) (fun _ _ _ h => h) (Or.inr ⟨by rfl, rfl⟩) hHeld ?_
        try simp only [Act.put, List.setIfInBounds_toArray, List.set_cons_zero, List.set_cons_succ]
        refine wpAnyH_take (i := 14) (oi := { dst := some 158, op := _, type := _, pos := _, after := _, guard := _ }) (v := undef) rfl (by kernel_rfl) (by kernel_rfl) (by kernel_rfl) (fun _ _ _ h => h) (Or.inr ⟨by rfl, rfl⟩) hHeld ?_
        try simp only [Act.put, List.setIfInBounds_toArray, List.set_cons_zero, List.set_cons_succ]
        refine wpAnyH_take (i := 15) (oi := { dst := some 159, op := _, type := _, pos := _, after := _, guard := _ }) (v := undef) rfl (by kernel_rfl) (by kernel_rfl) (by kernel_rfl) (fun _ _ _ h => h) (Or.inr ⟨by rfl, rfl⟩) hHeld ?_
        try simp only [Act.put, List.setIfInBounds_toArray, List.set_cons_zero, List.set_cons_succ]
        refine wpAnyH_take (i := 16) (oi := { dst := some 160, op := _, type := _, pos := _, after := _, guard := _ }) (v := ?v18x17) rfl (by kernel_rfl) (by kernel_rfl) (by kernel_rfl) (fun _ _ _ h => h) (Or.inl ⟨by rfl, ?hy18x17⟩) hHeld ?rest18x17
        case hy18x17 => (intro w hSw; go_simp <;> with_reducible rfl)
        try simp only [Act.put, List.setIfInBounds_toArray, List.set_cons_zero, List.set_cons_succ]
        refine wpAnyH_done (by kernel_rfl) ?_ _
        clear hcr hcr0 dX HPB PM
        have HS5 := hide (HS.out.mem hHeld)
        go_upto_region 99 with (refine wpList_storeQ rfl 27 (.tmp 2) (.tmp 161) rfl gz 27 (zeroP 0) none 0 0 none 0 0 (zeroP 0) none 0 0 none 0 0 rfl rfl (HS5.out).hz (by kernel_rfl) ?_; intro V2 bV2 BV2)
        refine bodyPost_ret (results_cell_tmp rfl rfl bV2 Try.underlying27 rfl (by kernel_rfl)) rfl ?_
        refine HOP.out _ _ ?_
        rw [hO0]
        exact ⟨rfl, ((HS5.out).ans BV2).2.below (Below.refl _ _) hwgr (Nat.le_refl _)⟩
      case pos =>
      have PB := fun W (hb : Below V4.heap.size V4 W) => rBytes10_any p C nc kc S ns ks W (HM.out.keep hb) HPS.out hmv
      rw [hmv] at PM
      by_cases hl : layP p = xs
      case pos =>
        have hO0 : O = some p := by rw [← HO.out, if_neg (by rw [hmv]; simp [hl])]
        rw [hl] at PB
        refine wp_region_held_drew (S := fun w' => Below V4.heap.size V4 w') (by kernel_rfl) ?_ (fun hHeld => ?_)
        · exact (Below.refl _ _).drew
        refine wpAnyH_take (i := 0) (oi := { dst := some 144, op := _, type := _, pos := _, after := _, guard := _ }) (v := ?v19x1) rfl (by kernel_rfl) (by kernel_rfl) (by kernel_rfl) (fun _ _ _ h => h) (Or.inl ⟨by rfl, ?hy19x1⟩) hHeld ?rest19x1
        case hy19x1 => (intro w hSw; go_simp <;> with_reducible rfl)
        try simp only [Act.put, List.setIfInBounds_toArray, List.set_cons_zero, List.set_cons_succ]
        refine wpAnyH_take (i := 1) (oi := { dst := some 145, op := _, type := _, pos := _, after := _, guard := _ }) (v := ?v19x2) rfl (by kernel_rfl) (by kernel_rfl) (by kernel_rfl) (fun _ _ _ h => h) (Or.inl ⟨by rfl, ?hy19x2⟩) hHeld ?rest19x2
        case hy19x2 => (intro w hSw; go_simp <;> with_reducible rfl)
        try simp only [Act.put, List.setIfInBounds_toArray, List.set_cons_zero, List.set_cons_succ]
        refine wpAnyH_take (i := 2) (oi := { dst := some 146, op := _, type := _, pos := _, after := _, guard := _ }) (v := ?v19x3) rfl (by kernel_rfl) (by kernel_rfl) (by kernel_rfl) (fun _ _ _ h => h) (Or.inl ⟨by rfl, ?hy19x3⟩) hHeld ?rest19x3
        case hy19x3 => (intro w hSw; go_simp <;> with_reducible rfl)
        try simp only [Act.put, List.setIfInBounds_toArray, List.set_cons_zero, List.set_cons_succ]
        refine wpAnyH_take (i := 3) (oi := { dst := some 147, op := _, type := _, pos := _, after := _, guard := _ }) (v := ?v19x4) rfl (by kernel_rfl) (by kernel_rfl) (by kernel_rfl) (fun _ _ _ h => h) (Or.inl ⟨by rfl, ?hy19x4⟩) hHeld ?rest19x4
        case hy19x4 => (intro w hSw; go_simp <;> with_reducible rfl)
        try simp only [Act.put, List.setIfInBounds_toArray, List.set_cons_zero, List.set_cons_succ]
        refine wpAnyH_take (i := 4) (oi := { dst := some 148, op := _, type := _, pos := _, after := _, guard := _ }) (v := ?v19x5) rfl (by kernel_rfl) (by kernel_rfl) (by kernel_rfl) (fun _ _ _ h => h) (Or.inl ⟨by rfl, ?hy19x5⟩) hHeld ?rest19x5
        case hy19x5 => (intro w hSw; go_simp <;> with_reducible rfl)
        try simp only [Act.put, List.setIfInBounds_toArray, List.set_cons_zero, List.set_cons_succ]
        refine wpAnyH_take (i := 5) (oi := { dst := some 149, op := _, type := _, pos := _, after := _, guard := _ }) (v := ?v19x6) rfl (by kernel_rfl) (by kernel_rfl) (by kernel_rfl) (fun _ _ _ h => h) (Or.inl ⟨by rfl, ?hy19x6⟩) hHeld ?rest19x6
        case hy19x6 => (intro w hSw; refine exec_loadP 27 (.tmp 5) ?_ gp 27 p C nc kc S ns ks ?_ (HPB w hSw) Try.underlying27 ?_ ?_; rfl; rfl; rfl; kernel_rfl)
        try simp only [Act.put, List.setIfInBounds_toArray, List.set_cons_zero, List.set_cons_succ]
        refine wpAnyH_ready (rs := [6]) (by kernel_rfl) (by simp) (AllReadyH.cons (o := { dst := some 150, op := _, type := _, pos := _, after := _, guard := _ }) rfl (fun K hK => ?_) AllReadyH.nil)
        go_simp
        refine (PM _ hHeld).mono ?_
        rintro e w6 ⟨rfl, b6⟩
        have s6 := below_on hHeld b6
        have dX6 : ∀ w', Below w6.heap.size w6 w' → ∀ c, (convert 31 9 (.slice (some ⟨bA, oA, none⟩) n c)).run Try.prog w' = .ok (.string (str xs)) w' := fun w' h => dX w' (below_on s6 h)
        go_wp2_with fail
        refine hK.out _ _ ?_ (fun hHeld => ?_)
        · exact below_on hHeld b6
        clear hK K
        try simp only [Act.put, List.setIfInBounds_toArray, List.set_cons_zero, List.set_cons_succ]
        refine wpAnyH_strong (S' := fun w' => Below w6.heap.size w6 w') (by intro w' h; exact below_on hHeld h) ?_
        replace hHeld : (fun w' => Below w6.heap.size w6 w') _ := Below.refl _ _
        refine wpAnyH_take (i := 7) (oi := { dst := some 151, op := _, type := _, pos := _, after := _, guard := _ }) (v := ?v19x8) rfl (by kernel_rfl) (by kernel_rfl) (by kernel_rfl) (fun _ _ _ h => h) (Or.inl ⟨by rfl, ?hy19x8⟩) hHeld ?rest19x8
        case hy19x8 => (intro w hSw; go_simp <;> with_reducible rfl)
        try simp only [Act.put, List.setIfInBounds_toArray, List.set_cons_zero, List.set_cons_succ]
        refine wpAnyH_take (i := 8) (oi := { dst := some 152, op := _, type := _, pos := _, after := _, guard := _ }) (v := ?v19x9) rfl (by kernel_rfl) (by kernel_rfl) (by kernel_rfl) (fun _ _ _ h => h) (Or.inl ⟨by rfl, ?hy19x9⟩) hHeld ?rest19x9
        case hy19x9 => (intro w hSw; go_simp <;> with_reducible rfl)
        try simp only [Act.put, List.setIfInBounds_toArray, List.set_cons_zero, List.set_cons_succ]
        refine wpAnyH_take (i := 9) (oi := { dst := some 153, op := _, type := _, pos := _, after := _, guard := _ }) (v := ?v19x10) rfl (by kernel_rfl) (by kernel_rfl) (by kernel_rfl) (fun _ _ _ h => h) (Or.inl ⟨by rfl, ?hy19x10⟩) hHeld ?rest19x10
        case hy19x10 => (intro w hSw; go_simp <;> with_reducible rfl)
        try simp only [Act.put, List.setIfInBounds_toArray, List.set_cons_zero, List.set_cons_succ]
        refine wpAnyH_take (i := 10) (oi := { dst := some 154, op := _, type := _, pos := _, after := _, guard := _ }) (v := ?v19x11) rfl (by kernel_rfl) (by kernel_rfl) (by kernel_rfl) (fun _ _ _ h => h) (Or.inl ⟨by rfl, ?hy19x11⟩) hHeld ?rest19x11
        case hy19x11 => (intro w hSw; refine exec_loadP 27 (.tmp 5) ?_ gp 27 p C nc kc S ns ks ?_ (HPB w (below_on s6 hSw)) Try.underlying27 ?_ ?_; rfl; rfl; rfl; kernel_rfl)
        try simp only [Act.put, List.setIfInBounds_toArray, List.set_cons_zero, List.set_cons_succ]
        refine wpAnyH_take (i := 13) (oi := { dst := some 157, op := _, type := _, pos := _, after := _, guard := _ }) (v := ?v19x12) rfl (by kernel_rfl) (by kernel_rfl) (by kernel_rfl) (fun _ _ _ h => h) (Or.inl ⟨by rfl, ?hy19x12⟩) hHeld ?rest19x12
        case hy19x12 => (intro w hSw; go_simp <;> with_reducible rfl)
        try simp only [Act.put, List.setIfInBounds_toArray, List.set_cons_zero, List.set_cons_succ]
        refine wpAnyH_take (i := 14) (oi := { dst := some 158, op := _, type := _, pos := _, after := _, guard := _ }) (v := ?v19x13) rfl (by kernel_rfl) (by kernel_rfl) (by kernel_rfl) (fun _ _ _ h => h) (Or.inl ⟨by rfl, ?hy19x13⟩) hHeld ?rest19x13
        case hy19x13 => (intro w hSw; go_simp <;> with_reducible rfl)
        try simp only [Act.put, List.setIfInBounds_toArray, List.set_cons_zero, List.set_cons_succ]
        refine wpAnyH_ready (rs := [11]) (by kernel_rfl) (by simp) (AllReadyH.cons (o := { dst := some 155, op := _, type := _, pos := _, after := _, guard := _ }) rfl (fun K hK => ?_) AllReadyH.nil)
        go_simp
        refine (PB _ (below_on s6 hHeld)).mono ?_
        rintro e w7 ⟨G, gk, rfl, hgk, r7, b7⟩
        have s7 := below_on s6 (below_on hHeld b7)
        have dG := strOn r7
        have dX7 : ∀ w', Below w7.heap.size w7 w' → ∀ c, (convert 31 9 (.slice (some ⟨bA, oA, none⟩) n c)).run Try.prog w' = .ok (.string (str xs)) w' := fun w' h => dX w' (below_on s7 h)
        clear dX6
        go_wp2_with fail
        refine hK.out _ _ ?_ (fun hHeld => ?_)
        · exact below_on hHeld b7
        clear hK K
        try simp only [Act.put, List.setIfInBounds_toArray, List.set_cons_zero, List.set_cons_succ]
        refine wpAnyH_strong (S' := fun w' => Below w7.heap.size w7 w') (by intro w' h; exact below_on hHeld h) ?_
        replace hHeld : (fun w' => Below w7.heap.size w7 w') _ := Below.refl _ _
        refine wpAnyH_take (i := 12) (oi := { dst := some 156, op := _, type := _, pos := _, after := _, guard := _ }) (v := ?v19x15) rfl (by kernel_rfl) (by kernel_rfl) (by kernel_rfl) (fun _ _ _ h => h) (Or.inl ⟨by rfl, ?hy19x15⟩) hHeld ?rest19x15
        case hy19x15 => (intro w hSw; go_simp <;> with_reducible rfl)
        try simp only [Act.put, List.setIfInBounds_toArray, List.set_cons_zero, List.set_cons_succ]
        refine wpAnyH_take (i := 15) (oi := { dst := some 159, op := _, type := _, pos := _, after := _, guard := _ }) (v := ?v19x16) rfl (by kernel_rfl) (by kernel_rfl) (by kernel_rfl) (fun _ _ _ h => h) (Or.inl ⟨by rfl, ?hy19x16⟩) hHeld ?rest19x16
        case hy19x16 => (intro w hSw; go_simp <;> with_reducible rfl)
        try simp only [Act.put, List.setIfInBounds_toArray, List.set_cons_zero, List.set_cons_succ]
        refine wpAnyH_take (i := 16) (oi := { dst := some 160, op := _, type := _, pos := _, after := _, guard := _ }) (v := ?v19x17) rfl (by kernel_rfl) (by kernel_rfl) (by kernel_rfl) (fun _ _ _ h => h) (Or.inl ⟨by rfl, ?hy19x17⟩) hHeld ?rest19x17
        case hy19x17 => (intro w hSw; go_simp <;> with_reducible rfl)
        try simp only [Act.put, List.setIfInBounds_toArray, List.set_cons_zero, List.set_cons_succ]
        refine wpAnyH_done (by kernel_rfl) ?_ _
        have hbel := below_on s7 hHeld
        clear hcr hcr0 dX HPB PM PB dG dX7
        have HS5 := hide (HS.out.mem hbel)
        have HM5 := hide (HM.out.keep hbel)
        go_upto_region 99 with (first
          | (refine wpList_loadP rfl 27 (.tmp 5) rfl gp 27 p C nc kc S ns ks rfl HS5.out.hp Try.underlying27 rfl (by kernel_rfl) ?_)
          | (refine wpList_storeQ rfl 27 (.tmp 2) (.tmp 162) rfl gz 27 (zeroP 0) none 0 0 none 0 0 p C nc kc S ns ks rfl rfl HS5.out.hz (by kernel_rfl) ?_; intro V2 bV2 BV2))
        refine bodyPost_ret (results_cell_tmp rfl rfl bV2 Try.underlying27 rfl (by kernel_rfl)) rfl ?_
        refine HOP.out _ _ ?_
        rw [hO0]
        exact ⟨C, nc, kc, S, ns, ks, rfl, HN.out.1, HN.out.2, PkM_but HM5.out BV2 HOF.out.1 HOF.out.2, (HS5.out.ans BV2).2.below (Below.refl _ _) hwgr (Nat.le_refl _)⟩
      case neg =>
        have hO0 : O = none := by rw [← HO.out, if_pos (Or.inr (Or.inr hl))]
        have hlb : (layP p == xs) = false := by rw [beq_eq_false_iff_ne]; exact hl
        clear hl
        refine wp_region_held_drew (S := fun w' => Below V4.heap.size V4 w') (by kernel_rfl) ?_ (fun hHeld => ?_)
        · exact (Below.refl _ _).drew
        refine wpAnyH_take (i := 0) (oi := { dst := some 144, op := _, type := _, pos := _, after := _, guard := _ }) (v := ?v20x1) rfl (by kernel_rfl) (by kernel_rfl) (by kernel_rfl) (fun _ _ _ h => h) (Or.inl ⟨by rfl, ?hy20x1⟩) hHeld ?rest20x1
        case hy20x1 => (intro w hSw; go_simp <;> with_reducible rfl)
        try simp only [Act.put, List.setIfInBounds_toArray, List.set_cons_zero, List.set_cons_succ]
        refine wpAnyH_take (i := 1) (oi := { dst := some 145, op := _, type := _, pos := _, after := _, guard := _ }) (v := ?v20x2) rfl (by kernel_rfl) (by kernel_rfl) (by kernel_rfl) (fun _ _ _ h => h) (Or.inl ⟨by rfl, ?hy20x2⟩) hHeld ?rest20x2
        case hy20x2 => (intro w hSw; go_simp <;> with_reducible rfl)
        try simp only [Act.put, List.setIfInBounds_toArray, List.set_cons_zero, List.set_cons_succ]
        refine wpAnyH_take (i := 2) (oi := { dst := some 146, op := _, type := _, pos := _, after := _, guard := _ }) (v := ?v20x3) rfl (by kernel_rfl) (by kernel_rfl) (by kernel_rfl) (fun _ _ _ h => h) (Or.inl ⟨by rfl, ?hy20x3⟩) hHeld ?rest20x3
        case hy20x3 => (intro w hSw; go_simp <;> with_reducible rfl)
        try simp only [Act.put, List.setIfInBounds_toArray, List.set_cons_zero, List.set_cons_succ]
        refine wpAnyH_take (i := 3) (oi := { dst := some 147, op := _, type := _, pos := _, after := _, guard := _ }) (v := ?v20x4) rfl (by kernel_rfl) (by kernel_rfl) (by kernel_rfl) (fun _ _ _ h => h) (Or.inl ⟨by rfl, ?hy20x4⟩) hHeld ?rest20x4
        case hy20x4 => (intro w hSw; go_simp <;> with_reducible rfl)
        try simp only [Act.put, List.setIfInBounds_toArray, List.set_cons_zero, List.set_cons_succ]
        refine wpAnyH_take (i := 4) (oi := { dst := some 148, op := _, type := _, pos := _, after := _, guard := _ }) (v := ?v20x5) rfl (by kernel_rfl) (by kernel_rfl) (by kernel_rfl) (fun _ _ _ h => h) (Or.inl ⟨by rfl, ?hy20x5⟩) hHeld ?rest20x5
        case hy20x5 => (intro w hSw; go_simp <;> with_reducible rfl)
        try simp only [Act.put, List.setIfInBounds_toArray, List.set_cons_zero, List.set_cons_succ]
        refine wpAnyH_take (i := 5) (oi := { dst := some 149, op := _, type := _, pos := _, after := _, guard := _ }) (v := ?v20x6) rfl (by kernel_rfl) (by kernel_rfl) (by kernel_rfl) (fun _ _ _ h => h) (Or.inl ⟨by rfl, ?hy20x6⟩) hHeld ?rest20x6
        case hy20x6 => (intro w hSw; refine exec_loadP 27 (.tmp 5) ?_ gp 27 p C nc kc S ns ks ?_ (HPB w hSw) Try.underlying27 ?_ ?_; rfl; rfl; rfl; kernel_rfl)
        try simp only [Act.put, List.setIfInBounds_toArray, List.set_cons_zero, List.set_cons_succ]
        refine wpAnyH_ready (rs := [6]) (by kernel_rfl) (by simp) (AllReadyH.cons (o := { dst := some 150, op := _, type := _, pos := _, after := _, guard := _ }) rfl (fun K hK => ?_) AllReadyH.nil)
        go_simp
        refine (PM _ hHeld).mono ?_
        rintro e w6 ⟨rfl, b6⟩
        have s6 := below_on hHeld b6
        have dX6 : ∀ w', Below w6.heap.size w6 w' → ∀ c, (convert 31 9 (.slice (some ⟨bA, oA, none⟩) n c)).run Try.prog w' = .ok (.string (str xs)) w' := fun w' h => dX w' (below_on s6 h)
        go_wp2_with fail
        refine hK.out _ _ ?_ (fun hHeld => ?_)
        · exact below_on hHeld b6
        clear hK K
        try simp only [Act.put, List.setIfInBounds_toArray, List.set_cons_zero, List.set_cons_succ]
        refine wpAnyH_strong (S' := fun w' => Below w6.heap.size w6 w') (by intro w' h; exact below_on hHeld h) ?_
        replace hHeld : (fun w' => Below w6.heap.size w6 w') _ := Below.refl _ _
        refine wpAnyH_take (i := 7) (oi := { dst := some 151, op := _, type := _, pos := _, after := _, guard := _ }) (v := ?v20x8) rfl (by kernel_rfl) (by kernel_rfl) (by kernel_rfl) (fun _ _ _ h => h) (Or.inl ⟨by rfl, ?hy20x8⟩) hHeld ?rest20x8
        case hy20x8 => (intro w hSw; go_simp <;> with_reducible rfl)
        try simp only [Act.put, List.setIfInBounds_toArray, List.set_cons_zero, List.set_cons_succ]
        refine wpAnyH_take (i := 8) (oi := { dst := some 152, op := _, type := _, pos := _, after := _, guard := _ }) (v := ?v20x9) rfl (by kernel_rfl) (by kernel_rfl) (by kernel_rfl) (fun _ _ _ h => h) (Or.inl ⟨by rfl, ?hy20x9⟩) hHeld ?rest20x9
        case hy20x9 => (intro w hSw; go_simp <;> with_reducible rfl)
        try simp only [Act.put, List.setIfInBounds_toArray, List.set_cons_zero, List.set_cons_succ]
        refine wpAnyH_take (i := 9) (oi := { dst := some 153, op := _, type := _, pos := _, after := _, guard := _ }) (v := ?v20x10) rfl (by kernel_rfl) (by kernel_rfl) (by kernel_rfl) (fun _ _ _ h => h) (Or.inl ⟨by rfl, ?hy20x10⟩) hHeld ?rest20x10
        case hy20x10 => (intro w hSw; go_simp <;> with_reducible rfl)
        try simp only [Act.put, List.setIfInBounds_toArray, List.set_cons_zero, List.set_cons_succ]
        refine wpAnyH_take (i := 10) (oi := { dst := some 154, op := _, type := _, pos := _, after := _, guard := _ }) (v := ?v20x11) rfl (by kernel_rfl) (by kernel_rfl) (by kernel_rfl) (fun _ _ _ h => h) (Or.inl ⟨by rfl, ?hy20x11⟩) hHeld ?rest20x11
        case hy20x11 => (intro w hSw; refine exec_loadP 27 (.tmp 5) ?_ gp 27 p C nc kc S ns ks ?_ (HPB w (below_on s6 hSw)) Try.underlying27 ?_ ?_; rfl; rfl; rfl; kernel_rfl)
        try simp only [Act.put, List.setIfInBounds_toArray, List.set_cons_zero, List.set_cons_succ]
        refine wpAnyH_take (i := 13) (oi := { dst := some 157, op := _, type := _, pos := _, after := _, guard := _ }) (v := ?v20x12) rfl (by kernel_rfl) (by kernel_rfl) (by kernel_rfl) (fun _ _ _ h => h) (Or.inl ⟨by rfl, ?hy20x12⟩) hHeld ?rest20x12
        case hy20x12 => (intro w hSw; go_simp <;> with_reducible rfl)
        try simp only [Act.put, List.setIfInBounds_toArray, List.set_cons_zero, List.set_cons_succ]
        refine wpAnyH_take (i := 14) (oi := { dst := some 158, op := _, type := _, pos := _, after := _, guard := _ }) (v := ?v20x13) rfl (by kernel_rfl) (by kernel_rfl) (by kernel_rfl) (fun _ _ _ h => h) (Or.inl ⟨by rfl, ?hy20x13⟩) hHeld ?rest20x13
        case hy20x13 => (intro w hSw; go_simp <;> with_reducible rfl)
        try simp only [Act.put, List.setIfInBounds_toArray, List.set_cons_zero, List.set_cons_succ]
        refine wpAnyH_ready (rs := [11]) (by kernel_rfl) (by simp) (AllReadyH.cons (o := { dst := some 155, op := _, type := _, pos := _, after := _, guard := _ }) rfl (fun K hK => ?_) AllReadyH.nil)
        go_simp
        refine (PB _ (below_on s6 hHeld)).mono ?_
        rintro e w7 ⟨G, gk, rfl, hgk, r7, b7⟩
        have s7 := below_on s6 (below_on hHeld b7)
        have dG := strOn r7
        have dX7 : ∀ w', Below w7.heap.size w7 w' → ∀ c, (convert 31 9 (.slice (some ⟨bA, oA, none⟩) n c)).run Try.prog w' = .ok (.string (str xs)) w' := fun w' h => dX w' (below_on s7 h)
        clear dX6
        go_wp2_with fail
        refine hK.out _ _ ?_ (fun hHeld => ?_)
        · exact below_on hHeld b7
        clear hK K
        try simp only [Act.put, List.setIfInBounds_toArray, List.set_cons_zero, List.set_cons_succ]
        refine wpAnyH_strong (S' := fun w' => Below w7.heap.size w7 w') (by intro w' h; exact below_on hHeld h) ?_
        replace hHeld : (fun w' => Below w7.heap.size w7 w') _ := Below.refl _ _
        refine wpAnyH_take (i := 12) (oi := { dst := some 156, op := _, type := _, pos := _, after := _, guard := _ }) (v := ?v20x15) rfl (by kernel_rfl) (by kernel_rfl) (by kernel_rfl) (fun _ _ _ h => h) (Or.inl ⟨by rfl, ?hy20x15⟩) hHeld ?rest20x15
        case hy20x15 => (intro w hSw; go_simp <;> with_reducible rfl)
        try simp only [Act.put, List.setIfInBounds_toArray, List.set_cons_zero, List.set_cons_succ]
        refine wpAnyH_take (i := 15) (oi := { dst := some 159, op := _, type := _, pos := _, after := _, guard := _ }) (v := ?v20x16) rfl (by kernel_rfl) (by kernel_rfl) (by kernel_rfl) (fun _ _ _ h => h) (Or.inl ⟨by rfl, ?hy20x16⟩) hHeld ?rest20x16
        case hy20x16 => (intro w hSw; go_simp <;> with_reducible rfl)
        try simp only [Act.put, List.setIfInBounds_toArray, List.set_cons_zero, List.set_cons_succ]
        refine wpAnyH_take (i := 16) (oi := { dst := some 160, op := _, type := _, pos := _, after := _, guard := _ }) (v := ?v20x17) rfl (by kernel_rfl) (by kernel_rfl) (by kernel_rfl) (fun _ _ _ h => h) (Or.inl ⟨by rfl, ?hy20x17⟩) hHeld ?rest20x17
        case hy20x17 => (intro w hSw; go_simp <;> with_reducible rfl)
        try simp only [Act.put, List.setIfInBounds_toArray, List.set_cons_zero, List.set_cons_succ]
        refine wpAnyH_done (by kernel_rfl) ?_ _
        have hbel := below_on s7 hHeld
        clear hcr hcr0 dX HPB PM PB dG dX7
        have HS5 := hide (HS.out.mem hbel)
        go_upto_region 99 with (refine wpList_storeQ rfl 27 (.tmp 2) (.tmp 161) rfl gz 27 (zeroP 0) none 0 0 none 0 0 (zeroP 0) none 0 0 none 0 0 rfl rfl (HS5.out).hz (by kernel_rfl) ?_; intro V2 bV2 BV2)
        refine bodyPost_ret (results_cell_tmp rfl rfl bV2 Try.underlying27 rfl (by kernel_rfl)) rfl ?_
        refine HOP.out _ _ ?_
        rw [hO0]
        exact ⟨rfl, ((HS5.out).ans BV2).2.below (Below.refl _ _) hwgr (Nat.le_refl _)⟩

end Go.Proofs.Ytdlhcecmodefkaa
