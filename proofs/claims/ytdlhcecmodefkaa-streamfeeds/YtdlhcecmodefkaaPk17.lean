/-
  What is proved here: what the document's own Parse of layer 10 returns for bytes (any). Condition: at most 65535 bytes. ALSO: the law PacketParses returns true for all bytes, and writes nothing that was there. No condition.
-/
import Derived.Test.YtdlhcecmodefkaaPk14
import Derived.Test.YtdlhcecmodefkaaPk15
import Derived.Test.YtdlhcecmodefkaaPr1
namespace Go.Proofs.Ytdlhcecmodefkaa
set_option linter.unusedVariables false
set_option linter.unusedSimpArgs false
open Go.RowKit

set_option maxRecDepth 100000 in
set_option maxHeartbeats 8000000 in
theorem rparse_any (A : Option Addr) (n k : Nat) (xs : List UInt8) (w : World) (hR : Rd w A n (bv xs)) (hx : xs.length = n) (hk : n ≤ k) (h65 : n ≤ 65535) :
    Calls Try.prog 17 #[.slice A n k] w (RpPost (readP xs) w) := by
  by_cases h2 : n < 2
  · have hO : readP xs = none := by unfold readP; rw [if_pos (by omega)]
    rw [hO]
    have q2 : (n : Int) < 2 := by omega
    clear hR hx hO
    go_enter Try.func17, Try.ntmps17
    go_upto_region 1 with fail
    generalize hW : w.alloc _ = W
    obtain ⟨gz, hgz, hBz, bW, hsz⟩ := boxedP (p := zeroP 0) (C := none) (nc := 0) (kc := 0) (S := none) (ns := 0) (ks := 0) hW
    have HZ := hide hBz
    have BW := hide (show Below w.heap.size w W by rw [hgz]; exact bW)
    have Hgz := hide hgz
    rw [hgz]
    clear hW hBz bW hsz hgz
    go_upto_region 99 with (refine wpList_storeQ rfl 27 (.tmp 2) (.tmp 14) rfl gz 27 (zeroP 0) none 0 0 none 0 0 (zeroP 0) none 0 0 none 0 0 rfl rfl HZ.out (by kernel_rfl) ?_; intro V2 bV2 BV2)
    refine bodyPost_ret (results_cell_tmp rfl rfl bV2 Try.underlying27 rfl (by kernel_rfl)) rfl ?_
    exact ⟨rfl, But.below BW.out BV2 (fun i e => by have h1 := Hgz.out; have h2 : i = gz := e; omega) BW.out.size⟩
  · obtain ⟨c, tl, hxc⟩ : ∃ c tl, xs = c :: tl := by cases xs with | nil => simp at hx; omega | cons c tl => exact ⟨c, tl, rfl⟩
    obtain ⟨f, hf⟩ : ∃ f, (xs.headD 0).toNat = f := ⟨_, rfl⟩
    have hcf : c.toNat = f := by rw [← hf, hxc]; rfl
    have hf255 : f ≤ 255 := by have := c.toNat_lt; omega
    obtain ⟨T, hT⟩ : ∃ T, atR xs 1 = T := ⟨_, rfl⟩
    obtain ⟨a, b, er⟩ := T
    by_cases he : er = 0
    · subst he
      have h2' : 2 ≤ n := by omega
      have ht : (f / 16 = 0 ∨ f / 16 = 12 ∨ f / 16 = 13 ∨ f / 16 = 14 ∨ f / 16 = 15) ∨ f / 16 = 1 ∨ f / 16 = 2 ∨ f / 16 = 3 ∨ (f / 16 = 4 ∨ f / 16 = 5 ∨ f / 16 = 6 ∨ f / 16 = 7 ∨ f / 16 = 11) ∨ (f / 16 = 8 ∨ f / 16 = 10) ∨ f / 16 = 9 := by omega
      rcases ht with ht | ht | ht | ht | ht | ht | ht
      · exact rparse0 A n k xs w f a b hR hx hk h65 h2' hf hT ht
      · exact rparse1 A n k xs w f a b hR hx hk h65 h2' hf hT ht
      · exact rparse2 A n k xs w f a b hR hx hk h65 h2' hf hT ht
      · exact rparse3 A n k xs w f a b hR hx hk h65 h2' hf hT ht
      · exact rparse4 A n k xs w f a b hR hx hk h65 h2' hf hT ht
      · exact rparse8 A n k xs w f a b hR hx hk h65 h2' hf hT ht
      · exact rparse9 A n k xs w f a b hR hx hk h65 h2' hf hT ht
    · have hO : readP xs = none := by unfold readP; rw [if_neg (by omega), if_pos (by rw [hT]; exact he)]
      rw [hO]
      have PA := fun W (hW : Rd W A n (bv xs)) => rvAt_any A n k 1 xs W hW (by unfold maxLen; omega) hx (by omega)
      rw [hT] at PA
      have q2 : ¬ (n : Int) < 2 := by omega
      have qe : ((er : Int) != 0) = true := by rw [bne_iff_ne]; omega
      have HR := hide hR
      obtain ⟨bA, oA, hAe, hbl, hcell⟩ := hR.at_ (k := 0) (by omega)
      have HC := hide (show ∀ W, Below w.heap.size w W → W.cell? ⟨bA, oA, none⟩ = some (.int .u8 (f : Int)) from fun W bb => by
        have h0 : w.cell? ⟨bA, oA + 0, none⟩ = some (.int .u8 (c.toNat : Int)) := hcell 0 _ (by rw [hxc]; rfl)
        rw [hcf] at h0
        exact (bb.cell (p := ⟨bA, oA, none⟩) hbl).trans h0)
      obtain ⟨t, ht16⟩ : ∃ t, f / 16 = t := ⟨_, rfl⟩
      have hq16 : (f : Int) / 16 = (t : Int) := by omega
      subst hAe
      clear hR hx hO hxc hcf hf hT he hcell ht16
      go_enter Try.func17, Try.ntmps17
      go_upto_region 1 with fail
      generalize hW : w.alloc _ = W
      obtain ⟨gz, hgz, hBz, bW, hsz⟩ := boxedP (p := zeroP 0) (C := none) (nc := 0) (kc := 0) (S := none) (ns := 0) (ks := 0) hW
      have HZ := hide hBz
      have BW := hide (show Below w.heap.size w W by rw [hgz]; exact bW)
      have Hgz := hide hgz
      have cc := HC.out W BW.out
      rw [hgz]
      clear hW hBz bW hsz hgz
      go_upto_region 5 with (refine wpList_storeQ rfl 27 (.tmp 5) (.tmp 21) rfl W.heap.size 27 (zeroP 0) none 0 0 none 0 0 (zeroP (t : Int)) none 0 0 none 0 0 rfl rfl (Blk.new W 27 (pkVs (zeroP 0) none 0 0 none 0 0)) (by kernel_rfl) ?_; intro V1 bV1 BV1)
      have b1 : Below W.heap.size W V1 := But.below ((Below.refl _ _).alloc (Nat.le_refl _) _) BV1 (fun i e => by omega) (by simp)
      have HZ := hide (HZ.out.keep b1)
      have BW := hide (below_on BW.out b1)
      clear bV1 BV1 b1 cc hq16
      have PA := PA V1 (HR.out.keep BW.out)
      go_wp2_with fail
      refine PA.mono ?_
      rintro e V2 ⟨rfl, q, hq⟩
      have b2 : Below V1.heap.size V1 V2 := by rw [hq]; exact below_drewN (Below.refl _ _) q
      have HZ := hide (HZ.out.keep b2)
      have BW := hide (below_on BW.out b2)
      clear PA b2 hq
      go_upto_region 99 with (refine wpList_storeQ rfl 27 (.tmp 2) (.tmp 30) rfl gz 27 (zeroP 0) none 0 0 none 0 0 (zeroP 0) none 0 0 none 0 0 rfl rfl HZ.out (by kernel_rfl) ?_; intro V3 bV3 BV3)
      refine bodyPost_ret (results_cell_tmp rfl rfl bV3 Try.underlying27 rfl (by kernel_rfl)) rfl ?_
      exact ⟨rfl, But.below BW.out BV3 (fun i e => by have h1 := Hgz.out; have h2 : i = gz := e; omega) BW.out.size⟩

end Go.Proofs.Ytdlhcecmodefkaa

namespace Go.Proofs.Ytdlhcecmodefkaa
set_option linter.unusedVariables false
set_option linter.unusedSimpArgs false
open Go.RowKit

theorem readP_short10 {bs : List UInt8} {p : Pk} (hl : bs.length ≤ 65535) (h : readP bs = some p) : PkS p := by
  rw [← parseQ_eq] at h
  unfold parseQ at h
  cases hq : readQ bs with
  | none => rw [hq] at h; cases h
  | some q =>
    rw [hq] at h
    simp only at h
    split at h
    · injection h with h
      rw [← h]
      exact readQ_short hl hq
    · cases h
theorem own_emptyB (w : World) : (w.alloc (.cells #[] 5)).ownsRow w.heap.size 5 1 (.slice (some ⟨w.heap.size, 0, none⟩) 0 0) 0 [] := (Blk.new w 5 []).own (Nat.le_refl _) 0 rfl (by decide)

theorem PkM_butT {w w' : World} {T : Nat → Prop} {p : Pk} {C : Option Addr} {nc kc : Nat} {S : Option Addr} {ns ks : Nat} (h : PkM w p C nc kc S ns ks) (b : But T w w') (hC : Off T C) (hS : Off T S) : PkM w' p C nc kc S ns ks := by
  obtain ⟨m1, m2, m3, m4, m5, m6⟩ := h
  exact ⟨m1, m2, m3.but b hC, m4, m5, m6.but b hS⟩

set_option maxRecDepth 100000 in
set_option maxHeartbeats 8000000 in
theorem parses10_walk (A : Option Addr) (n k : Nat) (xs : List UInt8) (w : World) (h : Rd w A n (bv xs)) (hk : n ≤ k) : Calls Try.prog 4 #[.slice A n k] w fun e w' => e = .returned (.bool true) ∧ Below w.heap.size w w' := by
  have hx : xs.length = n := by rw [← bv_length]; exact h.1
  by_cases hs : (3000 : Int) < (n : Int)
  · clear h hx
    go_enter Try.func4, Try.ntmps4
    go_wp2_with fail
    go_ret
    exact ⟨rfl, Below.refl _ _⟩
  have h3 : n ≤ 3000 := by omega
  have HR := hide h
  have Hx := hide hx
  have PR := hide (fun (W : World) (hb : Below w.heap.size w W) => rparse_any A n k xs W (h.keep hb) hx hk (by omega))
  have HSh := hide (fun p (e : readP xs = some p) => readP_short10 (by omega) e)
  clear h hx
  go_enter Try.func4, Try.ntmps4
  go_upto_region 4 with (at_builtin; refine wpList_app rfl (.tmp 12) (.tmp 13) 31 rfl 5 _ _ Try.underlying31 u8_info rfl w.heap.size (some ⟨w.heap.size, 0, none⟩) 0 0 [] rfl (own_emptyB w) A n k (bv xs) rfl (HR.out.keep ((Below.refl _ _).alloc (Nat.le_refl _) _)) (bv_one _) (by unfold maxLen; omega) (by omega) (by simp) ?_; intro A8 c8 w2 o2 g2 b2; rw [Nat.zero_add, List.nil_append] at o2; have O8 := hide o2; have B2 := hide (((Below.refl _ _).alloc (Nat.le_refl _) _).trans b2 : Below w.heap.size w w2); clear o2 g2 b2)
  have P1 := parse_any A8 n c8 xs w2 (own_rd O8.out) Hx.out (own_cap O8.out) (by omega)
  have hA8 : ∀ b o, A8 = some ⟨b, o, none⟩ → b < w2.heap.size ∧ w.heap.size ≤ b := fun b o e => ⟨own_lt O8.out b o e, own_newAt O8.out b o e⟩
  cases hq : readP xs with
  | none =>
    rw [hq] at P1
    have P1 : Calls Try.prog 16 #[.slice A8 n c8] w2 fun e w' => e = .returned (.tuple #[pkA (zeroP 0) none 0 0 none 0 0, .int .i64 100]) ∧ Below w2.heap.size w2 w' := P1
    rw [hq] at PR
    have PR := hide (show ∀ (W : World), Below w.heap.size w W → Calls Try.prog 17 #[.slice A n k] W fun e w' => e = .returned (.tuple #[pkA (zeroP 0) none 0 0 none 0 0, .bool false]) ∧ Below W.heap.size W w' from PR.out)
    clear HSh hq hA8
    go_wp2_with fail
    refine P1.mono ?_
    rintro e w3 ⟨rfl, b3⟩
    have O8 := hide (own_keep O8.out b3)
    have BW := hide (below_on B2.out b3)
    clear b3 P1 B2
    go_upto_region 5 with (refine wpList_storeQ rfl 27 (.tmp 4) (.tmp 18) rfl w3.heap.size 27 (zeroP 0) none 0 0 none 0 0 (zeroP 0) none 0 0 none 0 0 rfl rfl (Blk.new w3 27 (pkVs (zeroP 0) none 0 0 none 0 0)) (by kernel_rfl) ?_; intro V4 bV BV)
    have bW : Below w3.heap.size w3 V4 := But.below ((Below.refl _ _).alloc (Nat.le_refl _) _) BV (fun i e => by omega) (by simp)
    obtain ⟨g4, hg4⟩ : ∃ g4, w3.heap.size = g4 := ⟨_, rfl⟩
    have H4 := hide bV
    rw [hg4] at H4 ⊢
    have O8 := hide (own_keep O8.out bW)
    have BW := hide (below_on BW.out bW)
    clear bV BV bW hg4
    have PR := PR.out V4 BW.out
    go_wp2_with fail
    refine PR.mono ?_
    rintro e w5 ⟨rfl, b5⟩
    have O8 := hide (own_keep O8.out b5)
    have BW := hide (below_on BW.out b5)
    have H4 := hide (H4.out.keep b5)
    clear b5 PR
    go_upto_region 6 with (refine wpList_storeQ rfl 27 (.tmp 6) (.tmp 23) rfl w5.heap.size 27 (zeroP 0) none 0 0 none 0 0 (zeroP 0) none 0 0 none 0 0 rfl rfl (Blk.new w5 27 (pkVs (zeroP 0) none 0 0 none 0 0)) (by kernel_rfl) ?_; intro V6 bV BV)
    have bW : Below w5.heap.size w5 V6 := But.below ((Below.refl _ _).alloc (Nat.le_refl _) _) BV (fun i e => by omega) (by simp)
    have O8 := hide (own_keep O8.out bW)
    have BW := hide (below_on BW.out bW)
    have H4 := hide (H4.out.keep bW)
    have dF := rdStr (own_rd O8.out) c8
    have dX := rdStr (HR.out.keep BW.out) k
    clear bV BV bW
    go_upto_region 9 with fail
    clear dF dX
    have AW := awake_any V6
    go_wp2_with fail
    refine AW.mono ?_
    rintro e w7 ⟨rfl, b7⟩
    have BW := hide (below_on BW.out b7)
    have H4 := hide (H4.out.keep b7)
    have P7 := same_eq (zeroP 0) none none 0 0 0 0 none none 0 0 0 0 w7 (pkM00 w7 (zeroP 0) rfl rfl) (pkM00 w7 (zeroP 0) rfl rfl) (Nat.zero_le _) (Nat.zero_le _)
    clear b7 AW
    go_upto_region 99 with (first
      | (refine wpList_loadPg (by rfl) 27 (.tmp 4) rfl g4 27 (zeroP 0) none 0 0 none 0 0 rfl H4.out Try.underlying27 rfl (by kernel_rfl) ?_)
      | (go_at_call 18; refine P7.mono ?_; rintro e w8 ⟨rfl, b8⟩))
    go_ret
    exact ⟨rfl, below_on BW.out b8⟩
  | some p =>
    rw [hq] at P1
    have P1 : Calls Try.prog 16 #[.slice A8 n c8] w2 fun e w' => ∃ C nc kc S ns ks, e = .returned (.tuple #[pkA p C nc kc S ns ks, .int .i64 0]) ∧ NewAt w2 C ∧ NewAt w2 S ∧ PkM w' p C nc kc S ns ks ∧ Below w2.heap.size w2 w' := P1
    rw [hq] at PR
    have PR := hide (show ∀ (W : World), Below w.heap.size w W → Calls Try.prog 17 #[.slice A n k] W fun e w' => ∃ C nc kc S ns ks, e = .returned (.tuple #[pkA p C nc kc S ns ks, .bool true]) ∧ NewAt W C ∧ NewAt W S ∧ PkM w' p C nc kc S ns ks ∧ Below W.heap.size W w' from PR.out)
    have HS := hide (HSh.out p hq)
    clear HSh hq
    go_wp2_with fail
    refine P1.mono ?_
    rintro e w3 ⟨C, nc, kc, S, ns, ks, rfl, nC, nS, hM, b3⟩
    have O8 := hide (own_keep O8.out b3)
    have BW := hide (below_on B2.out b3)
    have HM := hide hM
    have HN := hide (And.intro nC nS)
    have hz3 := b3.size
    clear b3 P1 B2 hM nC nS
    go_upto_region 5 with (refine wpList_storeQ rfl 27 (.tmp 4) (.tmp 18) rfl w3.heap.size 27 (zeroP 0) none 0 0 none 0 0 p C nc kc S ns ks rfl rfl (Blk.new w3 27 (pkVs (zeroP 0) none 0 0 none 0 0)) (by kernel_rfl) ?_; intro V4 bV BV)
    have bW : Below w3.heap.size w3 V4 := But.below ((Below.refl _ _).alloc (Nat.le_refl _) _) BV (fun i e => by omega) (by simp)
    obtain ⟨g4, hg4⟩ : ∃ g4, w3.heap.size = g4 := ⟨_, rfl⟩
    have H4 := hide bV
    have hz4 := bW.size
    rw [hg4] at H4 hz3 hz4 ⊢
    have O8 := hide (own_keep O8.out bW)
    have BW := hide (below_on BW.out bW)
    have HM := hide (HM.out.keep bW)
    clear bV BV bW hg4
    have PR := PR.out V4 BW.out
    go_wp2_with fail
    refine PR.mono ?_
    rintro e w5 ⟨C2, nc2, kc2, S2, ns2, ks2, rfl, nC2, nS2, hM2, b5⟩
    have O8 := hide (own_keep O8.out b5)
    have BW := hide (below_on BW.out b5)
    have H4 := hide (H4.out.keep b5)
    have HM := hide (HM.out.keep b5)
    have HM2 := hide hM2
    have HN2 := hide (And.intro nC2 nS2)
    have hz5 := b5.size
    clear b5 PR hM2 nC2 nS2
    go_upto_region 6 with (refine wpList_storeQ rfl 27 (.tmp 6) (.tmp 23) rfl w5.heap.size 27 (zeroP 0) none 0 0 none 0 0 p C2 nc2 kc2 S2 ns2 ks2 rfl rfl (Blk.new w5 27 (pkVs (zeroP 0) none 0 0 none 0 0)) (by kernel_rfl) ?_; intro V6 bV BV)
    have bW : Below w5.heap.size w5 V6 := But.below ((Below.refl _ _).alloc (Nat.le_refl _) _) BV (fun i e => by omega) (by simp)
    obtain ⟨g6, hg6⟩ : ∃ g6, w5.heap.size = g6 := ⟨_, rfl⟩
    have H6 := hide bV
    rw [hg6] at H6 hz5 ⊢
    have O8 := hide (own_keep O8.out bW)
    have BW := hide (below_on BW.out bW)
    have H4 := hide (H4.out.keep bW)
    have HM := hide (HM.out.keep bW)
    have HM2 := hide (HM2.out.keep bW)
    have dF := rdStr (own_rd O8.out) c8
    have dX := rdStr (HR.out.keep BW.out) k
    clear bV BV bW hg6
    have HA8 : Hid (0 < n → ∃ G rest, A8 = some ⟨G, 0, none⟩ ∧ Blk V6 G 5 (bv xs ++ rest)) := by
      intro h0
      obtain ⟨G, rest, e, _, hB⟩ := own_blk O8.out h0
      exact ⟨G, rest, e, hB⟩
    go_wp2_with fail
    clear dF dX
    go_loopw [8] (fun kv wx => ∃ (j : Nat) (cs : List Value), j ≤ n ∧ kv = .int .i64 (j : Int) ∧ (∀ G, A8 = some ⟨G, 0, none⟩ → 0 < n → Blk wx G 5 cs ∧ n ≤ cs.length) ∧ But (fun x => ∃ o, A8 = some ⟨x, o, none⟩) V6 wx) (fun kv _ => n - (intOf kv).toNat)
    case atStart =>
      by_cases h0 : 0 < n
      · obtain ⟨G, rest, e, hB⟩ := HA8.out h0
        refine ⟨0, bv xs ++ rest, Nat.zero_le _, rfl, fun G' e' _ => ?_, But.refl _ _⟩
        rw [e] at e'
        injection e' with e'
        injection e' with e1 _ _
        subst e1
        exact ⟨hB, by rw [List.length_append, bv_length, Hx.out]; omega⟩
      · exact ⟨0, [], Nat.zero_le _, rfl, fun _ _ h => absurd h h0, But.refl _ _⟩
    case round =>
      obtain ⟨j, cs, hj, rfl, hcs, hbut⟩ := hrel
      have Hbut := hide hbut
      by_cases hjm : j < n
      · obtain ⟨G, rest, rfl, _⟩ := HA8.out (by omega)
        obtain ⟨hBk, hcl⟩ := hcs G rfl (by omega)
        have HBk := hide hBk
        have c9 : wr.cell? ⟨G, j, none⟩ = some cs[j] := by rw [hBk.cell, List.getElem?_eq_getElem]
        have f9 := hBk.frozen j
        have q9 : (j : Int) < (n : Int) := by omega
        clear hcs hBk hbut
        go_wp2_with fail
        refine ⟨⟨j + 1, cs.set j (.int .u8 1), by omega, by go_num, fun G' e' _ => ?_, Hbut.out.setCell' _ ⟨0, rfl⟩⟩, by simp [intOf]; omega⟩
        injection e' with e'
        injection e' with e1 _ _
        subst e1
        exact ⟨HBk.out.set j _, by rw [List.length_set]; exact hcl⟩
      · obtain rfl : j = n := by omega
        have q9 : ¬ (j : Int) < (j : Int) := by omega
        have hoff : ∀ i, (∃ o, A8 = some ⟨i, o, none⟩) → i < w2.heap.size ∧ w.heap.size ≤ i := fun i ⟨o, e⟩ => hA8 i o e
        have H4 := hide (H4.out.but hbut (fun e => by have := hoff _ e; omega))
        have H6 := hide (H6.out.but hbut (fun e => by have := hoff _ e; omega))
        have HM : Hid (PkM wr p C nc kc S ns ks) := hide (PkM_butT HM.out hbut (fun b o e ht => by have h1 := HN.out.1 b o e; have := hoff _ ht; omega) (fun b o e ht => by have h1 := HN.out.2 b o e; have := hoff _ ht; omega))
        have HM2 : Hid (PkM wr p C2 nc2 kc2 S2 ns2 ks2) := hide (PkM_butT HM2.out hbut (fun b o e ht => by have h1 := HN2.out.1 b o e; have := hoff _ ht; omega) (fun b o e ht => by have h1 := HN2.out.2 b o e; have := hoff _ ht; omega))
        have BW := hide (But.below BW.out hbut (fun i e => (hoff i e).2) BW.out.size)
        clear hcs hbut Hbut HA8 O8 hoff hA8
        have AW := awake_any wr
        go_wp2_with fail
        refine AW.mono ?_
        rintro e w7 ⟨rfl, b7⟩
        have BW := hide (below_on BW.out b7)
        have H4 := hide (H4.out.keep b7)
        have H6 := hide (H6.out.keep b7)
        have P7 := same_eq p C C2 nc kc nc2 kc2 S S2 ns ks ns2 ks2 w7 (HM.out.keep b7) (HM2.out.keep b7) HS.out.2.2.2.2.2.1 HS.out.2.2.2.2.2.2.1
        clear b7 AW
        go_upto_region 99 with (first
          | (refine wpList_loadPg (by rfl) 27 (.tmp 4) rfl g4 27 p C nc kc S ns ks rfl H4.out Try.underlying27 rfl (by kernel_rfl) ?_)
          | (refine wpList_loadPg (by rfl) 27 (.tmp 6) rfl g6 27 p C2 nc2 kc2 S2 ns2 ks2 rfl H6.out Try.underlying27 rfl (by kernel_rfl) ?_)
          | (go_at_call 18; refine P7.mono ?_; rintro e w8 ⟨rfl, b8⟩))
        go_ret
        exact ⟨rfl, below_on BW.out b8⟩

end Go.Proofs.Ytdlhcecmodefkaa
