/-
  What is proved here: the law MbapFeeds returns true for all rows of bytes, and writes nothing that was there. Condition: a row's length is at most 2^47 (the form's own reach).
-/
import Derived.Test.YtjldfefebnpdgaaFeeds6a
import Derived.Deep.DeepCutAuto
namespace Go.Proofs.Ytjldfefebnpdgaa
set_option linter.unusedVariables false
set_option linter.unusedSimpArgs false
open Go.RowKit

theorem own_emptyF (w : World) : (w.alloc (.cells #[] 5)).ownsRow w.heap.size 5 1 (.slice (some ⟨w.heap.size, 0, none⟩) 0 0) 0 [] := (Blk.new w 5 []).own (Nat.le_refl _) 0 rfl (by decide)

set_option maxHeartbeats 2000000 in
set_option maxRecDepth 100000 in
theorem feeds6_walk (B : Option Addr) (len cap : Nat) (rs : List RowE) (w : World) (hB : RRd w B len rs) (hlm : len ≤ maxLen) (hz : ∀ x ∈ rs, x.xs.length ≤ x.k ∧ x.xs.length ≤ reachBytes) :
    Calls Try.prog 4 #[.slice B len cap] w fun e w' => e = .returned (.bool true) ∧ Below w.heap.size w w' := by
  have HF := hide (few6_any B len cap rs w hB (fun r hr => by have := (hz r hr).2; unfold reachBytes at this; omega) hlm)
  have HB := hide hB
  have HL := hide hB.len
  have HZ := hide hz
  clear hB hz hlm
  cases hf : fewB rs with
  | false =>
    rw [hf] at HF
    clear hf
    go_enter Try.func4, Try.ntmps4
    go_wp2_with fail
    refine HF.out.mono ?_
    rintro e w1 ⟨rfl, rfl⟩
    go_wp2
    go_ret
    exact ⟨rfl, Below.refl _ _⟩
  | true =>
    rw [hf] at HF
    obtain ⟨h200, h5000⟩ := fewB_yes hf
    rw [HL.out] at h200
    clear hf
    go_enter Try.func4, Try.ntmps4
    go_wp2_with fail
    refine HF.out.mono ?_
    rintro e w0 ⟨rfl, rfl⟩
    go_wp2_with fail
    refine (mnew_any w).mono ?_
    rintro e w1 ⟨g, rfl, hg, s1, b1⟩
    have S1 := hide s1
    have B1 := hide b1
    have hg1 := s1.str.lt
    clear s1 b1 HF
    go_wp2_with fail
    go_loopw [4, 5, 6, 7] (fun av tv bv_ iv_ wr => ∃ (X : List UInt8) (C : Option Addr) (kC : Nat) (A : Option Addr) (k i : Nat), i ≤ len ∧ av = .slice C X.length kC ∧ tv = .int .i64 ((toL X).length : Nat) ∧ bv_ = .bool (brB X) ∧ iv_ = .int .i64 (i : Int) ∧ FS w g rs X C kC A k i wr) (fun _ _ _ iv_ _ => len - (intOf iv_).toNat)
    case atStart => exact ⟨[], none, 0, none, 0, 0, Nat.zero_le _, rfl, rfl, rfl, rfl, ⟨Rd.nil _ _, Nat.le_refl _, (fun _ _ e => by cases e), S1.out, Nat.zero_le _, B1.out⟩⟩
    case round =>
      obtain ⟨X, C, kC, A, k, i, hi, rfl, rfl, rfl, rfl, fs⟩ := hrel
      have Fs := hide fs
      have hgr := fs.st.str.lt
      by_cases hlt : i < len
      · obtain ⟨b, o, r, rfl, hbl, hr, hc, hir⟩ := HB.out.at_ hlt
        have hst := sumL_take rs i r hr
        have hsl := sumL_le rs (i + 1)
        have hfx := fs.few
        have hXm : X.length + r.xs.length ≤ 5000 := by omega
        have hfew' : X.length + r.xs.length ≤ sumL (rs.take (i + 1)) := by omega
        have Hfew := hide hfew'
        have hrk := (HZ.out r (List.mem_of_getElem? hr)).1
        obtain ⟨rA, rk, ys⟩ := r
        simp only [RowE.v, RowE.is] at hc hir
        simp only at hXm hrk Hfew
        have HI := hide hir
        have HC := hide hc
        have hc1 := (fs.bel.cell (p := ⟨b, o + i, none⟩) hbl).trans hc
        have hblr : b < wr.heap.size := Nat.lt_of_lt_of_le hbl fs.bel.size
        have q1 : (i : Int) < (len : Int) := by omega
        clear fs hr hir hst hsl hfx hfew'
        obtain ⟨m, hm⟩ : ∃ m, ys.length = m := ⟨_, rfl⟩
        have Hm := hide hm
        rw [hm] at HI HC hXm Hfew hrk hc1
        clear hm hc
        go_upto_region 13 with (at_builtin; refine wpList_app rfl (.tmp 27) (.tmp 31) 22 rfl 5 _ _ Try.underlying22 u8_info rfl wr.heap.size (some ⟨wr.heap.size, 0, none⟩) 0 0 [] rfl (own_emptyF wr) rA m rk (bv ys) rfl ((HI.out.keep Fs.out.bel).keep ((Below.refl _ _).alloc (Nat.le_refl _) _)) (bv_one _) (by unfold maxLen; omega) (by omega) (by simp) ?_; intro A8 c8 w2 o2 g2 b2; rw [Nat.zero_add, List.nil_append] at o2; have O8 := hide o2; have B8 := hide (((Below.refl _ _).alloc (Nat.le_refl _) _).trans b2 : Below wr.heap.size wr w2); clear o2 g2 b2)
        have S2 := hide (Fs.out.st.keep B8.out)
        have n8 := own_newAt O8.out
        have l8 := own_lt O8.out
        have hlf := lfL_len X
        have hz2 := B8.out.size
        go_wp2_with fail
        refine (mfeed_any g A k (lfL X) (brB X) A8 m c8 ys w2 S2.out (own_rd O8.out) (by omega)).mono ?_
        rintro e w3 ⟨O, ok, ns, A', k', rfl, t3, r3, ⟨n3, m3⟩, s3, a3, b3⟩
        have hz3 := b3.size
        have S3 := hide s3
        have T3 := hide t3
        have R3 := hide r3
        have N3 := hide n3
        have M3 := hide m3
        have B3 := hide (But.below (below_on Fs.out.bel B8.out) b3 (fun x e => by omega) (below_on Fs.out.bel B8.out).size)
        have RC3 := hide ((Fs.out.rd.keep B8.out).but b3 (fun x o' e hx => (Fs.out.clt x o' e).2 hx))
        have R8 := hide ((own_rd O8.out).but b3 (fun x o' e hx => by have := n8 x o' e; omega))
        have O3 := hide (own_but O8.out b3 (fun x o' e hx => by have := n8 x o' e; omega))
        have aA : ∀ x o', A' = some ⟨x, o', none⟩ → ∀ o'', A8 ≠ some ⟨x, o'', none⟩ := by
          intro x o' e o'' e'
          rcases a3 with rfl | a3
          · have := Fs.out.st.lt x o' e
            have := n8 x o'' e'
            omega
          · have := a3 x o' e
            have := l8 x o'' e'
            omega
        have cw : ∀ v, v = w3.drew → v.cell? ⟨b, o + i, none⟩ = some (.slice rA m rk) := by rintro v rfl; exact (B3.out.cell (p := ⟨b, o + i, none⟩) hbl).trans HC.out
        have bD : Below w3.heap.size w3 w3.drew := (Below.refl _ _).drew
        have d1 := fun c => rdStr (R8.out.keep bD) c
        have d2 := fun c => rdStr (HI.out.keep (below_on B3.out bD)) c
        clear t3 r3 n3 m3 s3 b3 a3
        go_wp2_with fail
        refine wp_region_held_drew (S := fun w' => w' = w3.drew) (by kernel_rfl) ?_ (fun hHeld => ?_)
        · rfl
        refine wpAnyH_take (i := 0) (oi := { dst := some 39, op := _, type := _, pos := _, after := _, guard := _ }) (v := ?v1x1) rfl (by kernel_rfl) (by kernel_rfl) (by kernel_rfl) (fun _ _ _ h => h) (Or.inl ⟨by rfl, ?hy1x1⟩) hHeld ?rest1x1
        case hy1x1 => (intro w hSw; go_simp <;> with_reducible rfl)
        try simp only [Act.put, List.setIfInBounds_toArray, List.set_cons_zero, List.set_cons_succ]
        refine wpAnyH_take (i := 1) (oi := { dst := some 40, op := _, type := _, pos := _, after := _, guard := _ }) (v := ?v1x2) rfl (by kernel_rfl) (by kernel_rfl) (by kernel_rfl) (fun _ _ _ h => h) (Or.inl ⟨by rfl, ?hy1x2⟩) hHeld ?rest1x2
        case hy1x2 => (intro w hSw; go_simp <;> with_reducible rfl)
        try simp only [Act.put, List.setIfInBounds_toArray, List.set_cons_zero, List.set_cons_succ]
        refine wpAnyH_take (i := 2) (oi := { dst := some 41, op := _, type := _, pos := _, after := _, guard := _ }) (v := ?v1x3) rfl (by kernel_rfl) (by kernel_rfl) (by kernel_rfl) (fun _ _ _ h => h) (Or.inl ⟨by rfl, ?hy1x3⟩) hHeld ?rest1x3
        case hy1x3 => (intro w hSw; go_simp <;> with_reducible rfl)
        try simp only [Act.put, List.setIfInBounds_toArray, List.set_cons_zero, List.set_cons_succ]
        refine wpAnyH_take (i := 3) (oi := { dst := some 42, op := _, type := _, pos := _, after := _, guard := _ }) (v := ?v1x4) rfl (by kernel_rfl) (by kernel_rfl) (by kernel_rfl) (fun _ _ _ h => h) (Or.inl ⟨by rfl, ?hy1x4⟩) hHeld ?rest1x4
        case hy1x4 => (intro w hSw; go_simp <;> with_reducible rfl)
        try simp only [Act.put, List.setIfInBounds_toArray, List.set_cons_zero, List.set_cons_succ]
        refine wpAnyH_take (i := 4) (oi := { dst := some 43, op := _, type := _, pos := _, after := _, guard := _ }) (v := ?v1x5) rfl (by kernel_rfl) (by kernel_rfl) (by kernel_rfl) (fun _ _ _ h => h) (Or.inl ⟨by rfl, ?hy1x5⟩) hHeld ?rest1x5
        case hy1x5 => (intro w hSw; go_simp <;> with_reducible rfl)
        try simp only [Act.put, List.setIfInBounds_toArray, List.set_cons_zero, List.set_cons_succ]
        refine wpAnyH_take (i := 5) (oi := { dst := some 44, op := _, type := _, pos := _, after := _, guard := _ }) (v := ?v1x6) rfl (by kernel_rfl) (by kernel_rfl) (by kernel_rfl) (fun _ _ _ h => h) (Or.inl ⟨by rfl, ?hy1x6⟩) hHeld ?rest1x6
        case hy1x6 => (intro w hSw; go_simp <;> with_reducible rfl)
        try simp only [Act.put, List.setIfInBounds_toArray, List.set_cons_zero, List.set_cons_succ]
        refine wpAnyH_take (i := 6) (oi := { dst := some 45, op := _, type := _, pos := _, after := _, guard := _ }) (v := ?v1x7) rfl (by kernel_rfl) (by kernel_rfl) (by kernel_rfl) (fun _ _ _ h => h) (Or.inl ⟨by rfl, ?hy1x7⟩) hHeld ?rest1x7
        case hy1x7 => (intro w hSw; go_simp <;> with_reducible rfl)
        try simp only [Act.put, List.setIfInBounds_toArray, List.set_cons_zero, List.set_cons_succ]
        refine wpAnyH_take (i := 7) (oi := { dst := some 46, op := _, type := _, pos := _, after := _, guard := _ }) (v := ?v1x8) rfl (by kernel_rfl) (by kernel_rfl) (by kernel_rfl) (fun _ _ _ h => h) (Or.inl ⟨by rfl, ?hy1x8⟩) hHeld ?rest1x8
        case hy1x8 => (intro w hSw; go_simp <;> with_reducible rfl)
        try simp only [Act.put, List.setIfInBounds_toArray, List.set_cons_zero, List.set_cons_succ]
        refine wpAnyH_done (by kernel_rfl) ?_ _
        clear cw d1 d2
        have S4 := hide (S3.out.keep bD)
        have R4 := hide (R3.out.keep bD)
        have RC4 := hide (RC3.out.keep bD)
        have O4 := hide (own_keep O3.out bD)
        have B4 := hide (below_on B3.out bD)
        have hz4 := bD.size
        clear bD S3 R3 RC3 R8 O3 B3 hHeld
        generalize w3.drew = V at *
        have c4 := (B4.out.cell (p := ⟨b, o + i, none⟩) hbl).trans HC.out
        cases hbr : brB X with
        | true =>
          have e1 : fdE (lfL X) true ys = 50 := rfl
          have e2 : fdT (lfL X) true ys = [] := rfl
          have e3 : fdL (lfL X) true ys = lfL X := rfl
          have e4 : fdB (lfL X) true ys = true := rfl
          have e5 : lfL X = [] := by unfold lfL; rw [hbr]; rfl
          rw [hbr, e2] at T3
          rw [hbr, e3, e4, e5] at S4
          rw [e1]
          obtain rfl := List.map_eq_nil_iff.1 T3.out
          have Hbr := hide hbr
          have He5 := hide e5
          clear e1 e2 e3 e4 e5 hbr
          go_wp2_with (go_at_call 16; refine (mleft_any g A' k' [] true V S4.out).mono ?_; rintro e w5 ⟨rfl, rfl⟩)
          refine ⟨⟨X, C, kC, A', k', i + 1, by omega, rfl, rfl, by rw [Hbr.out], by go_num, ⟨RC4.out, Fs.out.cap, ?_, ?_, ?_, B4.out⟩⟩, by simp [intOf]; omega⟩
          · intro x o' e
            have := Fs.out.clt x o' e
            exact ⟨by omega, this.2⟩
          · rw [He5.out, Hbr.out]
            exact S4.out
          · have := Hfew.out
            omega
        | false =>
          obtain ⟨p1, p2, p3, p4⟩ := fd_parts X ys
          rw [hbr] at p1 p2 p3 p4
          rw [hbr] at T3
          rw [hbr, ← p3, ← p4] at S4
          rw [← p2]
          have hZl : (X ++ ys).length = X.length + m := by rw [List.length_append, Hm.out]
          have hp1l : (toL (X ++ ys)).length = (toL X).length + ns.length := by
            rw [p1, List.length_append, ← T3.out, List.length_map]
          have P1 := hide p1
          have HZl := hide hZl
          have HE : Hid (brE (X ++ ys) = if brB (X ++ ys) then 50 else 0) := rfl
          clear p1 p2 p3 p4 hbr
          go_wp2_with fail
          refine (both_own C rA X.length m kC rk X ys V RC4.out (HI.out.keep B4.out) (by omega) (by omega)).mono ?_
          rintro e w5 ⟨C2, k2, rfl, o5, b5⟩
          have O5 := hide o5
          have B5 := hide b5
          have hz5 := b5.size
          clear o5 b5
          go_wp2_with fail
          refine (rall_any C2 (X.length + m) k2 (X ++ ys) w5 (own_rd O5.out) (own_cap O5.out) (by omega)).mono ?_
          rintro e w6 ⟨O6, k6, ws, rfl, t6, r6, l6, b6⟩
          have hwl : ws.length = (toL (X ++ ys)).length := by rw [← t6, List.length_map]
          have hT : (toL X).length ≤ ws.length := by omega
          have hsame : ns.map AduM.e = (ws.drop (toL X).length).map AduM.e := by
            rw [List.map_drop, t6, P1.out, List.drop_left]
            exact T3.out
          have htl : (toL (X ++ ys)).length ≤ 5000 := by
            have := toL_few (X ++ ys)
            omega
          have hsl := fun W => run_slTailS (P := Try.prog) 35 24 3 Try.underlying35 adu_size O6 ws.length k6 ((toL X).length : Int) (toL X).length rfl hT W
          have HT6 := hide (r6.tail (toL X).length k6 hT l6)
          have B6 := hide b6
          have Bv := hide (below_on B5.out b6)
          have HS := hide hsame
          have Hwl := hide hwl
          have hnl : ns.length ≤ 5000 := by omega
          have hwl5 : ws.length ≤ 5000 := by omega
          have hz6 := b6.size
          clear t6 r6 b6 hsame hwl hp1l htl
          generalize hTX : (toL X).length = tX at *
          generalize hZ : X ++ ys = Z at *
          generalize hEE : brE Z = E at *
          generalize hLL : lfL Z = LZ at *
          cases hbz : brB Z with
          | true =>
            have hE := HE.out
            rw [hbz] at hE S4
            simp only [if_true] at hE
            subst hE
            clear HE
            go_wp2_with (go_at_call 19; refine (same6_yes O (cutAS 3 O6 tX k6) ns.length (ws.length - tX) ok (k6 - tX) ns (ws.drop tX) w6 (R4.out.keep Bv.out) HT6.out (by omega) HS.out).mono ?_; rintro e w7 ⟨rfl, b7⟩; have B7 := hide (below_on Bv.out b7); have B67 := hide (below_on B6.out b7); clear b7)
            refine (mleft_any g A' k' LZ _ w7 (S4.out.keep B7.out)).mono ?_
            rintro e w8 ⟨rfl, rfl⟩
            have O7 := hide (own_keep O4.out B7.out)
            have S7 := hide (S4.out.keep B7.out)
            have RC7 := hide ((own_rd O5.out).keep B67.out)
            have z7 := B7.out.size
            have z67 := B67.out.size
            have F7 : Hid (∀ wx, But (fun x => ∃ o, A8 = some ⟨x, o, none⟩) w7 wx → FS w g rs Z C2 k2 A' k' (i + 1) wx) := by
              intro wx hbx
              have hzx := hbx.size
              refine ⟨?_, ?_, ?_, ?_, ?_, ?_⟩
              · rw [HZl.out]
                exact RC7.out.but hbx (fun x o e ⟨o', e'⟩ => by have := own_newAt O5.out x o e; have := l8 x o' e'; omega)
              · rw [HZl.out]
                exact own_cap O5.out
              · intro x o e
                have := own_lt O5.out x o e
                have := own_newAt O5.out x o e
                exact ⟨by omega, by omega⟩
              · rw [hLL, hbz]
                exact S7.out.but hbx (fun ⟨o, e⟩ => by have := n8 g o e; omega) (fun x o e ⟨o', e'⟩ => aA x o e o' e')
              · rw [HZl.out]
                exact Hfew.out
              · exact But.below (below_on B4.out B7.out) hbx (fun x ⟨o, e⟩ => by have := n8 x o e; have := Fs.out.bel.size; omega) (below_on B4.out B7.out).size
            have HA8 : Hid (0 < m → ∃ G rest, A8 = some ⟨G, 0, none⟩ ∧ Blk w7 G 5 (bv ys ++ rest)) := by
              intro h0
              obtain ⟨G, rest, e, _, hB⟩ := own_blk O7.out h0
              exact ⟨G, rest, e, hB⟩
            have Hbz := hide hbz
            have hyl := Hm.out
            have Hyl := hide hyl
            clear hyl hTX hZ hLL hbz RC7 S7 S4 R4 RC4 T3 HT6 HS n8 l8 aA hlf hz2 hz3 hz4 hz5 hz6 z7 z67 hsl c4 hT
            go_wp2_with fail
            obtain ⟨w9, rfl⟩ : ∃ w9, w9 = wr := ⟨_, rfl⟩
            go_loopw [14] (fun kv wx => ∃ (j : Nat) (cs : List Value), j ≤ m ∧ kv = .int .i64 (j : Int) ∧ (∀ G, A8 = some ⟨G, 0, none⟩ → 0 < m → Blk wx G 5 cs ∧ m ≤ cs.length) ∧ But (fun x => ∃ o, A8 = some ⟨x, o, none⟩) w7 wx) (fun kv _ => m - (intOf kv).toNat)
            case atStart =>
              by_cases h0 : 0 < m
              · obtain ⟨G, rest, e, hB⟩ := HA8.out h0
                refine ⟨0, bv ys ++ rest, Nat.zero_le _, rfl, fun G' e' _ => ?_, But.refl _ _⟩
                rw [e] at e'
                injection e' with e'
                injection e' with e1 _ _
                subst e1
                exact ⟨hB, by rw [List.length_append, bv_length, Hyl.out]; omega⟩
              · exact ⟨0, [], Nat.zero_le _, rfl, fun _ _ h => absurd h h0, But.refl _ _⟩
            case round =>
              obtain ⟨j, cs, hj, rfl, hcs, hbut⟩ := hrel
              have Hbut := hide hbut
              by_cases hjm : j < m
              · obtain ⟨G, rest, rfl, _⟩ := HA8.out (by omega)
                obtain ⟨hBk, hcl⟩ := hcs G rfl (by omega)
                have HBk := hide hBk
                have c9 : wr.cell? ⟨G, j, none⟩ = some cs[j] := by rw [hBk.cell, List.getElem?_eq_getElem]
                have f9 := hBk.frozen j
                have q9 : (j : Int) < (m : Int) := by omega
                clear hcs hBk hbut
                go_wp2_with fail
                refine ⟨⟨j + 1, cs.set j (.int .u8 9), by omega, by go_num, fun G' e' _ => ?_, Hbut.out.setCell' _ ⟨0, rfl⟩⟩, by simp [intOf]; omega⟩
                injection e' with e'
                injection e' with e1 _ _
                subst e1
                exact ⟨HBk.out.set j _, by rw [List.length_set]; exact hcl⟩
              · obtain rfl : j = m := by omega
                have q9 : ¬ (j : Int) < (j : Int) := by omega
                clear hcs hbut
                go_wp2_with fail
                exact ⟨⟨Z, C2, k2, A', k', i + 1, by omega, by rw [HZl.out], by rw [Hwl.out], by rw [Hbz.out], by go_num, F7.out wr Hbut.out⟩, by simp [intOf]; omega⟩
          | false =>
            have hE := HE.out
            rw [hbz] at hE S4
            simp only [Bool.false_eq_true, if_false] at hE
            subst hE
            clear HE
            go_wp2_with (go_at_call 19; refine (same6_yes O (cutAS 3 O6 tX k6) ns.length (ws.length - tX) ok (k6 - tX) ns (ws.drop tX) w6 (R4.out.keep Bv.out) HT6.out (by omega) HS.out).mono ?_; rintro e w7 ⟨rfl, b7⟩; have B7 := hide (below_on Bv.out b7); have B67 := hide (below_on B6.out b7); clear b7)
            refine (mleft_any g A' k' LZ _ w7 (S4.out.keep B7.out)).mono ?_
            rintro e w8 ⟨rfl, rfl⟩
            have O7 := hide (own_keep O4.out B7.out)
            have S7 := hide (S4.out.keep B7.out)
            have RC7 := hide ((own_rd O5.out).keep B67.out)
            have z7 := B7.out.size
            have z67 := B67.out.size
            have F7 : Hid (∀ wx, But (fun x => ∃ o, A8 = some ⟨x, o, none⟩) w7 wx → FS w g rs Z C2 k2 A' k' (i + 1) wx) := by
              intro wx hbx
              have hzx := hbx.size
              refine ⟨?_, ?_, ?_, ?_, ?_, ?_⟩
              · rw [HZl.out]
                exact RC7.out.but hbx (fun x o e ⟨o', e'⟩ => by have := own_newAt O5.out x o e; have := l8 x o' e'; omega)
              · rw [HZl.out]
                exact own_cap O5.out
              · intro x o e
                have := own_lt O5.out x o e
                have := own_newAt O5.out x o e
                exact ⟨by omega, by omega⟩
              · rw [hLL, hbz]
                exact S7.out.but hbx (fun ⟨o, e⟩ => by have := n8 g o e; omega) (fun x o e ⟨o', e'⟩ => aA x o e o' e')
              · rw [HZl.out]
                exact Hfew.out
              · exact But.below (below_on B4.out B7.out) hbx (fun x ⟨o, e⟩ => by have := n8 x o e; have := Fs.out.bel.size; omega) (below_on B4.out B7.out).size
            have HA8 : Hid (0 < m → ∃ G rest, A8 = some ⟨G, 0, none⟩ ∧ Blk w7 G 5 (bv ys ++ rest)) := by
              intro h0
              obtain ⟨G, rest, e, _, hB⟩ := own_blk O7.out h0
              exact ⟨G, rest, e, hB⟩
            have Hbz := hide hbz
            have hyl := Hm.out
            have Hyl := hide hyl
            clear hyl hTX hZ hLL hbz RC7 S7 S4 R4 RC4 T3 HT6 HS n8 l8 aA hlf hz2 hz3 hz4 hz5 hz6 z7 z67 hsl c4 hT
            go_wp2_with fail
            obtain ⟨w9, rfl⟩ : ∃ w9, w9 = wr := ⟨_, rfl⟩
            go_loopw [14] (fun kv wx => ∃ (j : Nat) (cs : List Value), j ≤ m ∧ kv = .int .i64 (j : Int) ∧ (∀ G, A8 = some ⟨G, 0, none⟩ → 0 < m → Blk wx G 5 cs ∧ m ≤ cs.length) ∧ But (fun x => ∃ o, A8 = some ⟨x, o, none⟩) w7 wx) (fun kv _ => m - (intOf kv).toNat)
            case atStart =>
              by_cases h0 : 0 < m
              · obtain ⟨G, rest, e, hB⟩ := HA8.out h0
                refine ⟨0, bv ys ++ rest, Nat.zero_le _, rfl, fun G' e' _ => ?_, But.refl _ _⟩
                rw [e] at e'
                injection e' with e'
                injection e' with e1 _ _
                subst e1
                exact ⟨hB, by rw [List.length_append, bv_length, Hyl.out]; omega⟩
              · exact ⟨0, [], Nat.zero_le _, rfl, fun _ _ h => absurd h h0, But.refl _ _⟩
            case round =>
              obtain ⟨j, cs, hj, rfl, hcs, hbut⟩ := hrel
              have Hbut := hide hbut
              by_cases hjm : j < m
              · obtain ⟨G, rest, rfl, _⟩ := HA8.out (by omega)
                obtain ⟨hBk, hcl⟩ := hcs G rfl (by omega)
                have HBk := hide hBk
                have c9 : wr.cell? ⟨G, j, none⟩ = some cs[j] := by rw [hBk.cell, List.getElem?_eq_getElem]
                have f9 := hBk.frozen j
                have q9 : (j : Int) < (m : Int) := by omega
                clear hcs hBk hbut
                go_wp2_with fail
                refine ⟨⟨j + 1, cs.set j (.int .u8 9), by omega, by go_num, fun G' e' _ => ?_, Hbut.out.setCell' _ ⟨0, rfl⟩⟩, by simp [intOf]; omega⟩
                injection e' with e'
                injection e' with e1 _ _
                subst e1
                exact ⟨HBk.out.set j _, by rw [List.length_set]; exact hcl⟩
              · obtain rfl : j = m := by omega
                have q9 : ¬ (j : Int) < (j : Int) := by omega
                clear hcs hbut
                go_wp2_with fail
                exact ⟨⟨Z, C2, k2, A', k', i + 1, by omega, by rw [HZl.out], by rw [Hwl.out], by rw [Hbz.out], by go_num, F7.out wr Hbut.out⟩, by simp [intOf]; omega⟩
      · obtain rfl : i = len := by omega
        have q1 : ¬ (i : Int) < (i : Int) := by omega
        clear fs
        go_wp2_with fail
        refine (awake6_any _).mono ?_
        rintro e w2 ⟨rfl, b2⟩
        go_wp2_with fail
        go_ret
        exact ⟨rfl, below_on Fs.out.bel b2⟩

end Go.Proofs.Ytjldfefebnpdgaa
