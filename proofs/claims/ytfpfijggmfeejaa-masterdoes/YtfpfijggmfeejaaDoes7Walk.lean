/-
  What is proved here: the law MasterDoes returns true for every numbers and script, and writes nothing that was there. No condition of its own.
-/
import Derived.Test.YtfpfijggmfeejaaDoes7b
namespace Go.Proofs.Ytfpfijggmfeejaa
set_option linter.unusedVariables false
set_option linter.unusedSimpArgs false
open Go.RowKit Go.Maps


set_option maxHeartbeats 100000000 in
set_option maxRecDepth 100000 in
theorem does7_walk (x0 x1 x2 : Int) (B : Option Addr) (len cap : Nat) (xs : Nat → Op7) (w : World) (hs : ScrP7 w B len xs) :
    Calls Try.prog 3 #[.int .i64 x0, .int .i64 x1, .int .i64 x2, .slice B len cap] w fun e w' => e = .returned (.bool true) ∧ Below w.heap.size w w' := by
  have HF := hide (few7_any B len cap xs w hs)
  have HS := hide hs
  clear hs
  go_enter Try.func3, Try.ntmps3
  go_wp2_with fail
  refine HF.out.mono ?_
  rintro e w1 ⟨r, rfl, rfl, hr⟩
  cases r
  · clear hr
    go_wp2
    go_ret
    exact ⟨rfl, Below.refl _ _⟩
  obtain ⟨hlen, hns⟩ := hr rfl
  have HNS := hide hns
  clear hr hns HF
  cases t2 : decide (1000000000 < x2)
  case true =>
    go_wp2
    go_ret
    exact ⟨rfl, Below.refl _ _⟩
  cases t3 : decide (1000000000 < x0)
  case true =>
    go_wp2
    go_ret
    exact ⟨rfl, Below.refl _ _⟩
  have HX2 : Hid (x2 ≤ 1000000000) := hide (by have := of_decide_eq_false t2; omega)
  cases hmay : mMay x0 x1 x2
  · go_wp2_with fail
    refine (msNew_no x0 x1 x2 hmay w).mono ?_
    rintro e w1 ⟨rfl, rfl⟩
    go_wp2_with fail
    refine (rsMay_any x0 x1 x2 w).mono ?_
    rintro e w1 ⟨rfl, rfl⟩
    rw [hmay]
    go_wp2_with fail
    refine (awake7_any w).mono ?_
    rintro e w2 ⟨rfl, b2⟩
    go_wp2
    go_ret
    exact ⟨rfl, b2⟩
  go_wp2_with fail
  refine (msNew_w x0 x1 x2 hmay w).mono ?_
  rintro e w1 ⟨m, rfl, a1, n1, b1⟩
  have A1 := hide a1
  have B1 := hide b1
  have HN := hide n1
  clear a1 b1 n1 t2 t3
  go_wp2_with fail
  refine (rsMay_any x0 x1 x2 w1).mono ?_
  rintro e w1' ⟨rfl, rfl⟩
  rw [hmay]
  go_upto_region 9 with fail
  have X0 := hide (dd_start x0 x1 x2 A1.out HN.out B1.out)
  clear A1 B1 HN hmay
  have J0 : Hid (DJ m.g w1.heap.size w 0 (w1.alloc (.cells (((Try.zeroCells34.setIfInBounds 0 (.int .i64 x0)).setIfInBounds 1 (.int .i64 x1)).setIfInBounds 2 (.int .i64 x2)) 34))) := hide ⟨m, _, _, X0.out, rfl, rfl, Nat.le_refl _, HX2.out⟩
  clear X0 HX2
  generalize (w1.alloc (.cells (((Try.zeroCells34.setIfInBounds 0 (.int .i64 x0)).setIfInBounds 1 (.int .i64 x1)).setIfInBounds 2 (.int .i64 x2)) 34)) = V at *
  generalize w1.heap.size = qd at *
  generalize m.g = g at *
  go_wp2_with fail
  go_loopw [12] (fun xi wr => ∃ i : Nat, xi = .int .i64 (i : Int) ∧ i ≤ len ∧ DJ g qd w i wr) (fun xi _ => len - (intOf xi).toNat)
  case atStart => exact ⟨0, rfl, by omega, J0.out⟩
  case round =>
    obtain ⟨i, rfl, hi, hX⟩ := hrel
    clear J0
    have HX := hide hX
    clear hX
    by_cases hlt : i < len
    · have q : (i : Int) < (len : Int) := by omega
      obtain ⟨mm, R, s, hD, hg, hq, hnx, hrs⟩ := HX.out.all
      obtain ⟨b, o, rfl, hbl, hc, his⟩ := HS.out.at_ hlt
      obtain ⟨hv3, hp3, hn9⟩ := HNS.out i hlt
      have hcc : ∀ j v, (xs i).cells[j]? = some v → wr.cell? ⟨b, o + (i * 12 + j), none⟩ = some v := fun j v hv => (hD.bel.cell (p := ⟨b, o + (i * 12 + j), none⟩) hbl).trans (hc j v hv)
      clear hc
      generalize xs i = X at *
      obtain ⟨call, now, unit, r, A, k, P, pl, pk, pdu, value⟩ := X
      simp only at hv3 hp3 hn9
      have c0 : wr.cell? ⟨b, o + i * 12, none⟩ = some (.int .i64 call) := hcc 0 _ rfl
      have c1 : wr.cell? ⟨b, o + i * 12 + 1, none⟩ = some (.int .i64 now) := hcc 1 _ rfl
      have c2 : wr.cell? ⟨b, o + i * 12 + 2, none⟩ = some (.int .i64 unit) := hcc 2 _ rfl
      have c3 : wr.cell? ⟨b, o + i * 12 + 3, none⟩ = some (.int .i64 r.f) := hcc 3 _ rfl
      have c4 : wr.cell? ⟨b, o + i * 12 + 4, none⟩ = some (.int .i64 r.a) := hcc 4 _ rfl
      have c5 : wr.cell? ⟨b, o + i * 12 + 5, none⟩ = some (.int .i64 r.c) := hcc 5 _ rfl
      have c6 : wr.cell? ⟨b, o + i * 12 + 6, none⟩ = some (.slice A r.vs.length k) := hcc 6 _ rfl
      have c7 : wr.cell? ⟨b, o + i * 12 + 7, none⟩ = some (.int .i64 r.t) := hcc 7 _ rfl
      have c8 : wr.cell? ⟨b, o + i * 12 + 8, none⟩ = some (.int .i64 r.an) := hcc 8 _ rfl
      have c9 : wr.cell? ⟨b, o + i * 12 + 9, none⟩ = some (.int .i64 r.o) := hcc 9 _ rfl
      have c10 : wr.cell? ⟨b, o + i * 12 + 10, none⟩ = some (.slice P pl pk) := hcc 10 _ rfl
      have c11 : wr.cell? ⟨b, o + i * 12 + 11, none⟩ = some (.int .i64 value) := hcc 11 _ rfl
      have HD0 := hide hD
      have HG := hide hg
      have HQ := hide hq
      have HNX := hide hnx
      have HRS := hide hrs
      have HIS := hide his
      clear hD hg hq hnx hrs his hcc HX
      go_upto_block 2 with fail
      generalize hV : wr.alloc _ = U
      obtain ⟨zU, bU⟩ := box1 wr 40 [.int .i64 call, .int .i64 now, .int .i64 unit, .int .i64 r.f, .int .i64 r.a, .int .i64 r.c, .slice A r.vs.length k, .int .i64 r.t, .int .i64 r.an, .int .i64 r.o, .slice P pl pk, .int .i64 value] U hV.symm
      obtain ⟨pX, hpX⟩ : ∃ pX, wr.heap.size = pX := ⟨_, rfl⟩
      rw [hpX] at zU ⊢
      have e0 : U.cell? ⟨pX, 0, none⟩ = some (.int .i64 call) := zU.cell 0
      have e1 : U.cell? ⟨pX, 1, none⟩ = some (.int .i64 now) := zU.cell 1
      have e2 : U.cell? ⟨pX, 2, none⟩ = some (.int .i64 unit) := zU.cell 2
      have e3 : U.cell? ⟨pX, 3, none⟩ = some (.int .i64 r.f) := zU.cell 3
      have e4 : U.cell? ⟨pX, 4, none⟩ = some (.int .i64 r.a) := zU.cell 4
      have e5 : U.cell? ⟨pX, 5, none⟩ = some (.int .i64 r.c) := zU.cell 5
      have e6 : U.cell? ⟨pX, 6, none⟩ = some (.slice A r.vs.length k) := zU.cell 6
      have e7 : U.cell? ⟨pX, 7, none⟩ = some (.int .i64 r.t) := zU.cell 7
      have e8 : U.cell? ⟨pX, 8, none⟩ = some (.int .i64 r.an) := zU.cell 8
      have e9 : U.cell? ⟨pX, 9, none⟩ = some (.int .i64 r.o) := zU.cell 9
      have e10 : U.cell? ⟨pX, 10, none⟩ = some (.slice P pl pk) := zU.cell 10
      have e11 : U.cell? ⟨pX, 11, none⟩ = some (.int .i64 value) := zU.cell 11
      have HZU := hide zU
      have HD := hide (HD0.out.keep bU)
      have NM := hide (show ¬ mm.S pX from fun h => by have := HD0.out.M.a.lt _ h; omega)
      have ND := hide (show ¬ R.S pX from fun h => by have := HD0.out.D.lt _ h; omega)
      have HLU := hide (show pX < U.heap.size from zU.lt)
      clear hV zU bU c0 c1 c2 c3 c4 c5 c6 c7 c8 c9 c10 c11 hpX HD0
      go_cut [12] (fun s12 wc => s12 = .int .i64 (i : Int) ∧ DJ g qd w (i + 1) wc)
      case first =>
        as_aux_lemma =>
          by_cases h0 : call = 0
          · subst h0
            go_wp2_with fail
            refine (msAsk_w w.heap.size g mm s unit r A k w U HD.out.M (HIS.out.vs.keep HD.out.bel) (by omega) (by have := HNX.out; omega) (fun hh => HD.out.M.off (fun b' o' e' => rd_lt HIS.out.vs hh b' o' e')) HD.out.bel HD.out.bel.size HG.out).mono ?_
            rintro e w3 ⟨m3, rfl, a3, g3, n3, b3, u3, s3⟩
            have D3 : Hid (DDw w i (askS s unit r) s m3 R w3) := hide (HD.out.afterP a3 (by rw [n3]; exact HD.out.n) b3 u3 s3)
            have zW := HZU.out.but u3 NM.out
            have G3 := hide g3
            clear a3 g3 n3 b3 u3 s3 e0 e1 e2 e3 e4 e5 e6 e7 e8 e9 e10 e11
            have f1 : w3.cell? ⟨pX, 1, none⟩ = some (.int .i64 now) := zW.cell 1
            have f2 : w3.cell? ⟨pX, 2, none⟩ = some (.int .i64 unit) := zW.cell 2
            have f3 : w3.cell? ⟨pX, 3, none⟩ = some (.int .i64 r.f) := zW.cell 3
            have f4 : w3.cell? ⟨pX, 4, none⟩ = some (.int .i64 r.a) := zW.cell 4
            have f5 : w3.cell? ⟨pX, 5, none⟩ = some (.int .i64 r.c) := zW.cell 5
            have f6 : w3.cell? ⟨pX, 6, none⟩ = some (.slice A r.vs.length k) := zW.cell 6
            have f7 : w3.cell? ⟨pX, 7, none⟩ = some (.int .i64 r.t) := zW.cell 7
            have f8 : w3.cell? ⟨pX, 8, none⟩ = some (.int .i64 r.an) := zW.cell 8
            have f9 : w3.cell? ⟨pX, 9, none⟩ = some (.int .i64 r.o) := zW.cell 9
            have f10 : w3.cell? ⟨pX, 10, none⟩ = some (.slice P pl pk) := zW.cell 10
            have f11 : w3.cell? ⟨pX, 11, none⟩ = some (.int .i64 value) := zW.cell 11
            clear zW
            have hcall := rsAsk_any R s unit r A k w3 D3.out.D (HIS.out.vs.keep D3.out.bel) (by omega) (by have := HNX.out; omega) (fun hh b' o' e' hS => by have := rd_lt HIS.out.vs hh b' o' e'; have := D3.out.lo _ hS; omega)
            rw [HQ.out] at hcall
            have HCALL := hide hcall
            clear hcall
            go_wp2_with fail
            refine HCALL.out.mono ?_
            rintro e w4 ⟨R4, rfl, d4, g4, u4, s4⟩
            have D4 : Hid (DDw w i (askS s unit r) (askS s unit r) m3 R4 w4) := hide (D3.out.afterD d4 u4 s4)
            have J4 : Hid (DJ g qd w (i + 1) w4) := hide ⟨m3, R4, _, ⟨D4.out.M, by have := D4.out.n; omega, D4.out.D, D4.out.lo, D4.out.ap, D4.out.bel⟩, G3.out, g4.trans HQ.out, by have := (askS_keeps s unit r).1; have := HNX.out; omega, by rw [(askS_keeps s unit r).2]; exact HRS.out⟩
            clear d4 g4 u4 s4 D4 D3 f1 f2 f3 f4 f5 f6 f7 f8 f9 f10 f11
            generalize askT s unit r = TT at *
            generalize askE s unit r = EE at *
            have q1 : (TT != TT) = false := by simp
            have q2 : (EE != EE) = false := by simp
            go_wp2_with fail
            go_meet
            exact ⟨rfl, J4.out⟩
          by_cases h1 : call = 1
          · subst h1
            go_wp2_with fail
            refine (msStep_w w.heap.size g mm s now w U HD.out.M (by omega) (by have := HD.out.n; omega) HD.out.bel HD.out.bel.size HG.out).mono ?_
            rintro e w3 ⟨O, Q, k5, l5, rs, ds, m3, rfl, e1', r3, e2', d3, a3, g3, n3, b3, nO, nQ, u3, s3⟩
            have D3 : Hid (DDw w (i + 1) (stepR s now).2.2.2 s m3 R w3) := hide (HD.out.afterP a3 (by have := HD.out.n; omega) b3 u3 s3)
            have zW := HZU.out.but u3 NM.out
            have G3 := hide g3
            have HO3 : Hid (∀ b o, O = some ⟨b, o, none⟩ → ¬ R.S b) := hide (fun b' o' e' hS => by have := (nO b' o' e').2; have := HD.out.D.lt _ hS; omega)
            have HQ3 : Hid (∀ b o, Q = some ⟨b, o, none⟩ → ¬ R.S b) := hide (fun b' o' e' hS => by have := (nQ b' o' e').2; have := HD.out.D.lt _ hS; omega)
            have E1 := hide e1'
            have E2 := hide e2'
            have R3 := hide r3
            have S3 := hide d3
            clear a3 g3 n3 b3 u3 s3 nO nQ e1' e2' r3 d3 e0 e1 e2 e3 e4 e5 e6 e7 e8 e9 e10 e11
            have f1 : w3.cell? ⟨pX, 1, none⟩ = some (.int .i64 now) := zW.cell 1
            have f2 : w3.cell? ⟨pX, 2, none⟩ = some (.int .i64 unit) := zW.cell 2
            have f3 : w3.cell? ⟨pX, 3, none⟩ = some (.int .i64 r.f) := zW.cell 3
            have f4 : w3.cell? ⟨pX, 4, none⟩ = some (.int .i64 r.a) := zW.cell 4
            have f5 : w3.cell? ⟨pX, 5, none⟩ = some (.int .i64 r.c) := zW.cell 5
            have f6 : w3.cell? ⟨pX, 6, none⟩ = some (.slice A r.vs.length k) := zW.cell 6
            have f7 : w3.cell? ⟨pX, 7, none⟩ = some (.int .i64 r.t) := zW.cell 7
            have f8 : w3.cell? ⟨pX, 8, none⟩ = some (.int .i64 r.an) := zW.cell 8
            have f9 : w3.cell? ⟨pX, 9, none⟩ = some (.int .i64 r.o) := zW.cell 9
            have f10 : w3.cell? ⟨pX, 10, none⟩ = some (.slice P pl pk) := zW.cell 10
            have f11 : w3.cell? ⟨pX, 11, none⟩ = some (.int .i64 value) := zW.cell 11
            clear zW
            have hcall := rsStep_any R s now w3 D3.out.D HD.out.M.ok hn9 HRS.out
            rw [HQ.out] at hcall
            have HCALL := hide hcall
            clear hcall
            go_wp2_with fail
            refine HCALL.out.mono ?_
            rintro e w4 ⟨O', Q', k6, l6, rs', ds', R4, rfl, p1, p2, p3, p4, d4, g4, u4, s4⟩
            have D4 : Hid (DDw w (i + 1) (stepR s now).2.2.2 (stepR s now).2.2.2 m3 R4 w4) := hide (D3.out.afterD d4 u4 s4)
            have r4 := R3.out.off u4 HO3.out (fun y hy => D3.out.D.off hy)
            have t4 := S3.out.offE u4 HQ3.out (fun d hd => Or.inr (List.length_eq_zero_iff.1 (by
              have := dm_us E2.out (n := 0) (fun d hd => by rw [step_dn s now d hd]; exact Nat.le_refl _) d hd
              omega)))
            have HA := hide (sends_yes O O' rs.length rs'.length k5 k6 rs rs' w4 r4.rows p2 rfl rfl r4.few (sm_us E1.out (stepR_may HD.out.M.ok now)) (E1.out.trans p1.symm))
            have HB := hide (fun W (bW : Below w4.heap.size w4 W) => dones_yes Q Q' ds.length ds'.length l5 l6 ds ds' W (t4.rows.keep bW) (p4.keep bW) rfl rfl t4.few (dm_us E2.out (fun d hd => by rw [step_dn s now d hd]; exact Nat.zero_le _)) (E2.out.trans p3.symm))
            have J4 : Hid (∀ W, Below w4.heap.size w4 W → DJ g qd w (i + 1) W) := hide (fun W bW => ⟨m3, R4, _, D4.out.keep bW, G3.out, g4.trans HQ.out, by rw [(stepR_keeps s now).1]; have := HNX.out; omega, by rw [(stepR_keeps s now).2]; exact HRS.out⟩)
            clear d4 g4 u4 s4 D4 D3 r4 t4 p1 p2 p3 p4 E1 E2 R3 S3 HO3 HQ3 f1 f2 f3 f4 f5 f6 f7 f8 f9 f10 f11
            generalize (stepR s now).2.2.1 = EE at *
            have q2 : (EE != EE) = false := by simp
            go_wp2_with fail
            refine HA.out.mono ?_
            rintro e w5 ⟨rfl, b5⟩
            go_wp2_with fail
            refine (HB.out w5 b5).mono ?_
            rintro e w6 ⟨rfl, b6⟩
            have J6 := hide (J4.out _ (below_on b5 b6))
            clear b5 b6
            go_wp2_with fail
            go_meet
            exact ⟨rfl, J6.out⟩
          · have g0 : (call == 0) = false := ne_beq h0
            have g1 : (call == 1) = false := ne_beq h1
            clear h0 h1
            have HPD := hide (HIS.out.pd.keep HD.out.bel)
            have hpk := HIS.out.pk
            have hpl6 : pl ≤ 600 := by omega
            have hpdl : pdu.length ≤ 600 := by
              have h9 : pdu.length = pl := by
                have := HIS.out.pd.1
                rw [bv_length] at this
                exact this
              omega
            have hR7 := HD.out.D.blk.cell 7
            rw [HQ.out] at hR7
            rcases out_cases s with ho | ⟨x, t, ho⟩
            · have hmo : R.o = none := by
                have := HD.out.D.out
                rw [ho] at this
                exact this.none_
              have c7 : U.cell? ⟨qd, 7, none⟩ = some (.slice none 0 0) := by rw [hR7]; show some (outV R.o) = _; rw [hmo]; rfl
              clear hR7 ho hmo
              cases q3 : call == 3
              · go_wp2_with fail
                refine (msCame_w w.heap.size g mm s now unit P pl pk pdu w U HD.out.M HPD.out hpk HD.out.bel HD.out.bel.size HG.out).mono ?_
                rintro e w3 ⟨Q, l9, ds, m3, rfl, e2', d3, nV, a3, g3, n3, b3, nQ, u3, s3, kb⟩
                have D3 : Hid (DDw w i (cameR s now unit pdu).2.2 s m3 R w3) := hide (HD.out.afterP a3 (by rw [n3]; exact HD.out.n) b3 u3 s3)
                have zW := Blk.but HZU.out u3 NM.out
                have G3 := hide g3
                have HP3 := hide (kb _ _ _ HPD.out)
                have HQ3 : Hid (∀ b o, Q = some ⟨b, o, none⟩ → ¬ R.S b) := hide (fun b' o' e' hS => by have := (nQ b' o' e').2; have := HD.out.D.lt _ hS; omega)
                have HV3 : Hid (∀ d ∈ ds, Off R.S d.V) := hide (fun d hd b' o' e' hS => by have := nV d hd b' o' e'; have := HD.out.D.lt _ hS; omega)
                have E2 := hide e2'
                have S3 := hide d3
                clear a3 g3 n3 b3 u3 s3 nQ nV kb e2' d3 e0 e1 e2 e3 e4 e5 e6 e7 e8 e9 e10 e11 c7
                have f1 : w3.cell? ⟨pX, 1, none⟩ = some (.int .i64 now) := zW.cell 1
                have f2 : w3.cell? ⟨pX, 2, none⟩ = some (.int .i64 unit) := zW.cell 2
                have f3 : w3.cell? ⟨pX, 3, none⟩ = some (.int .i64 r.f) := zW.cell 3
                have f4 : w3.cell? ⟨pX, 4, none⟩ = some (.int .i64 r.a) := zW.cell 4
                have f5 : w3.cell? ⟨pX, 5, none⟩ = some (.int .i64 r.c) := zW.cell 5
                have f6 : w3.cell? ⟨pX, 6, none⟩ = some (.slice A r.vs.length k) := zW.cell 6
                have f7 : w3.cell? ⟨pX, 7, none⟩ = some (.int .i64 r.t) := zW.cell 7
                have f8 : w3.cell? ⟨pX, 8, none⟩ = some (.int .i64 r.an) := zW.cell 8
                have f9 : w3.cell? ⟨pX, 9, none⟩ = some (.int .i64 r.o) := zW.cell 9
                have f10 : w3.cell? ⟨pX, 10, none⟩ = some (.slice P pl pk) := zW.cell 10
                have f11 : w3.cell? ⟨pX, 11, none⟩ = some (.int .i64 value) := zW.cell 11
                clear zW
                have hcall := rsCame_any R s now unit P pl pk pdu w3 D3.out.D HD.out.M.ok HP3.out hpk hpl6
                rw [HQ.out] at hcall
                have HCALL := hide hcall
                clear hcall
                go_wp2_with fail
                refine HCALL.out.mono ?_
                rintro e w4 ⟨Q', l6, ds', R4, rfl, p3, p4, d4, g4, u4, s4⟩
                have D4 : Hid (DDw w i (cameR s now unit pdu).2.2 (cameR s now unit pdu).2.2 m3 R4 w4) := hide (D3.out.afterD d4 u4 s4)
                have t4 := S3.out.offE u4 HQ3.out (fun d hd => Or.inl (HV3.out d hd))
                have HB := hide (dones_yes Q Q' ds.length ds'.length l9 l6 ds ds' w4 t4.rows p4.rows rfl rfl t4.few (dm_us E2.out (fun d hd => Nat.le_trans (cameR_us s now unit pdu d hd) (by have := hpdl; omega))) (E2.out.trans p3.symm))
                have J4 : Hid (∀ W, Below w4.heap.size w4 W → DJ g qd w (i + 1) W) := hide (fun W bW => ⟨m3, R4, _, ⟨D4.out.M.keep bW, by have := D4.out.n; omega, D4.out.D.keep bW, D4.out.lo, D4.out.ap, below_on D4.out.bel bW⟩, G3.out, g4.trans HQ.out, by rw [(cameR_keeps s now unit pdu).1]; have := HNX.out; omega, by rw [(cameR_keeps s now unit pdu).2]; exact HRS.out⟩)
                clear d4 g4 u4 s4 D4 D3 t4 p3 p4 E2 S3 HQ3 HV3 HP3 f1 f2 f3 f4 f5 f6 f7 f8 f9 f10 f11
                generalize (cameR s now unit pdu).2.1 = EE at *
                have q2 : (EE != EE) = false := by simp
                go_wp2_with fail
                refine HB.out.mono ?_
                rintro e w5 ⟨rfl, b5⟩
                have J6 := hide (J4.out _ b5)
                clear b5
                go_wp2_with fail
                go_meet
                exact ⟨rfl, J6.out⟩
              · go_wp2_with fail
                refine (msCame_w w.heap.size g mm s now unit P pl pk pdu w U HD.out.M HPD.out hpk HD.out.bel HD.out.bel.size HG.out).mono ?_
                rintro e w3 ⟨Q, l9, ds, m3, rfl, e2', d3, nV, a3, g3, n3, b3, nQ, u3, s3, kb⟩
                have D3 : Hid (DDw w i (cameR s now unit pdu).2.2 s m3 R w3) := hide (HD.out.afterP a3 (by rw [n3]; exact HD.out.n) b3 u3 s3)
                have zW := Blk.but HZU.out u3 NM.out
                have G3 := hide g3
                have HP3 := hide (kb _ _ _ HPD.out)
                have HQ3 : Hid (∀ b o, Q = some ⟨b, o, none⟩ → ¬ R.S b) := hide (fun b' o' e' hS => by have := (nQ b' o' e').2; have := HD.out.D.lt _ hS; omega)
                have HV3 : Hid (∀ d ∈ ds, Off R.S d.V) := hide (fun d hd b' o' e' hS => by have := nV d hd b' o' e'; have := HD.out.D.lt _ hS; omega)
                have E2 := hide e2'
                have S3 := hide d3
                clear a3 g3 n3 b3 u3 s3 nQ nV kb e2' d3 e0 e1 e2 e3 e4 e5 e6 e7 e8 e9 e10 e11 c7
                have f1 : w3.cell? ⟨pX, 1, none⟩ = some (.int .i64 now) := zW.cell 1
                have f2 : w3.cell? ⟨pX, 2, none⟩ = some (.int .i64 unit) := zW.cell 2
                have f3 : w3.cell? ⟨pX, 3, none⟩ = some (.int .i64 r.f) := zW.cell 3
                have f4 : w3.cell? ⟨pX, 4, none⟩ = some (.int .i64 r.a) := zW.cell 4
                have f5 : w3.cell? ⟨pX, 5, none⟩ = some (.int .i64 r.c) := zW.cell 5
                have f6 : w3.cell? ⟨pX, 6, none⟩ = some (.slice A r.vs.length k) := zW.cell 6
                have f7 : w3.cell? ⟨pX, 7, none⟩ = some (.int .i64 r.t) := zW.cell 7
                have f8 : w3.cell? ⟨pX, 8, none⟩ = some (.int .i64 r.an) := zW.cell 8
                have f9 : w3.cell? ⟨pX, 9, none⟩ = some (.int .i64 r.o) := zW.cell 9
                have f10 : w3.cell? ⟨pX, 10, none⟩ = some (.slice P pl pk) := zW.cell 10
                have f11 : w3.cell? ⟨pX, 11, none⟩ = some (.int .i64 value) := zW.cell 11
                clear zW
                have hcall := rsCame_any R s now unit P pl pk pdu w3 D3.out.D HD.out.M.ok HP3.out hpk hpl6
                rw [HQ.out] at hcall
                have HCALL := hide hcall
                clear hcall
                go_wp2_with fail
                refine HCALL.out.mono ?_
                rintro e w4 ⟨Q', l6, ds', R4, rfl, p3, p4, d4, g4, u4, s4⟩
                have D4 : Hid (DDw w i (cameR s now unit pdu).2.2 (cameR s now unit pdu).2.2 m3 R4 w4) := hide (D3.out.afterD d4 u4 s4)
                have t4 := S3.out.offE u4 HQ3.out (fun d hd => Or.inl (HV3.out d hd))
                have HB := hide (dones_yes Q Q' ds.length ds'.length l9 l6 ds ds' w4 t4.rows p4.rows rfl rfl t4.few (dm_us E2.out (fun d hd => Nat.le_trans (cameR_us s now unit pdu d hd) (by have := hpdl; omega))) (E2.out.trans p3.symm))
                have J4 : Hid (∀ W, Below w4.heap.size w4 W → DJ g qd w (i + 1) W) := hide (fun W bW => ⟨m3, R4, _, ⟨D4.out.M.keep bW, by have := D4.out.n; omega, D4.out.D.keep bW, D4.out.lo, D4.out.ap, below_on D4.out.bel bW⟩, G3.out, g4.trans HQ.out, by rw [(cameR_keeps s now unit pdu).1]; have := HNX.out; omega, by rw [(cameR_keeps s now unit pdu).2]; exact HRS.out⟩)
                clear d4 g4 u4 s4 D4 D3 t4 p3 p4 E2 S3 HQ3 HV3 HP3 f1 f2 f3 f4 f5 f6 f7 f8 f9 f10 f11
                generalize (cameR s now unit pdu).2.1 = EE at *
                have q2 : (EE != EE) = false := by simp
                go_wp2_with fail
                refine HB.out.mono ?_
                rintro e w5 ⟨rfl, b5⟩
                have J6 := hide (J4.out _ b5)
                clear b5
                go_wp2_with fail
                go_meet
                exact ⟨rfl, J6.out⟩
            · have hO := HD.out.D.out
              rw [ho] at hO
              obtain ⟨bO, y, eo, ey, hB, hyo⟩ := hO.some_
              subst ey
              obtain ⟨ztk, zu, zr, zV, zk⟩ := y
              have hmay : zr.may = true := (HD.out.M.ok.omay _ t ho).1.1
              have c7 : U.cell? ⟨qd, 7, none⟩ = some (.slice (some ⟨bO, 0, none⟩) 1 1) := by rw [hR7]; show some (outV R.o) = _; rw [eo]; rfl
              have hqU : qd < U.heap.size := by rw [← HQ.out]; exact HD.out.D.blk.lt
              cases q3 : call == 3
              · clear hR7 ho hO hB hyo eo hmay hqU
                go_wp2_with fail
                refine (msCame_w w.heap.size g mm s now unit P pl pk pdu w U HD.out.M HPD.out hpk HD.out.bel HD.out.bel.size HG.out).mono ?_
                rintro e w3 ⟨Q, l9, ds, m3, rfl, e2', d3, nV, a3, g3, n3, b3, nQ, u3, s3, kb⟩
                have D3 : Hid (DDw w i (cameR s now unit pdu).2.2 s m3 R w3) := hide (HD.out.afterP a3 (by rw [n3]; exact HD.out.n) b3 u3 s3)
                have zW := Blk.but HZU.out u3 NM.out
                have G3 := hide g3
                have HP3 := hide (kb _ _ _ HPD.out)
                have HQ3 : Hid (∀ b o, Q = some ⟨b, o, none⟩ → ¬ R.S b) := hide (fun b' o' e' hS => by have := (nQ b' o' e').2; have := HD.out.D.lt _ hS; omega)
                have HV3 : Hid (∀ d ∈ ds, Off R.S d.V) := hide (fun d hd b' o' e' hS => by have := nV d hd b' o' e'; have := HD.out.D.lt _ hS; omega)
                have E2 := hide e2'
                have S3 := hide d3
                clear a3 g3 n3 b3 u3 s3 nQ nV kb e2' d3 e0 e1 e2 e3 e4 e5 e6 e7 e8 e9 e10 e11 c7
                have f1 : w3.cell? ⟨pX, 1, none⟩ = some (.int .i64 now) := zW.cell 1
                have f2 : w3.cell? ⟨pX, 2, none⟩ = some (.int .i64 unit) := zW.cell 2
                have f3 : w3.cell? ⟨pX, 3, none⟩ = some (.int .i64 r.f) := zW.cell 3
                have f4 : w3.cell? ⟨pX, 4, none⟩ = some (.int .i64 r.a) := zW.cell 4
                have f5 : w3.cell? ⟨pX, 5, none⟩ = some (.int .i64 r.c) := zW.cell 5
                have f6 : w3.cell? ⟨pX, 6, none⟩ = some (.slice A r.vs.length k) := zW.cell 6
                have f7 : w3.cell? ⟨pX, 7, none⟩ = some (.int .i64 r.t) := zW.cell 7
                have f8 : w3.cell? ⟨pX, 8, none⟩ = some (.int .i64 r.an) := zW.cell 8
                have f9 : w3.cell? ⟨pX, 9, none⟩ = some (.int .i64 r.o) := zW.cell 9
                have f10 : w3.cell? ⟨pX, 10, none⟩ = some (.slice P pl pk) := zW.cell 10
                have f11 : w3.cell? ⟨pX, 11, none⟩ = some (.int .i64 value) := zW.cell 11
                clear zW
                have hcall := rsCame_any R s now unit P pl pk pdu w3 D3.out.D HD.out.M.ok HP3.out hpk hpl6
                rw [HQ.out] at hcall
                have HCALL := hide hcall
                clear hcall
                go_wp2_with fail
                refine HCALL.out.mono ?_
                rintro e w4 ⟨Q', l6, ds', R4, rfl, p3, p4, d4, g4, u4, s4⟩
                have D4 : Hid (DDw w i (cameR s now unit pdu).2.2 (cameR s now unit pdu).2.2 m3 R4 w4) := hide (D3.out.afterD d4 u4 s4)
                have t4 := S3.out.offE u4 HQ3.out (fun d hd => Or.inl (HV3.out d hd))
                have HB := hide (dones_yes Q Q' ds.length ds'.length l9 l6 ds ds' w4 t4.rows p4.rows rfl rfl t4.few (dm_us E2.out (fun d hd => Nat.le_trans (cameR_us s now unit pdu d hd) (by have := hpdl; omega))) (E2.out.trans p3.symm))
                have J4 : Hid (∀ W, Below w4.heap.size w4 W → DJ g qd w (i + 1) W) := hide (fun W bW => ⟨m3, R4, _, ⟨D4.out.M.keep bW, by have := D4.out.n; omega, D4.out.D.keep bW, D4.out.lo, D4.out.ap, below_on D4.out.bel bW⟩, G3.out, g4.trans HQ.out, by rw [(cameR_keeps s now unit pdu).1]; have := HNX.out; omega, by rw [(cameR_keeps s now unit pdu).2]; exact HRS.out⟩)
                clear d4 g4 u4 s4 D4 D3 t4 p3 p4 E2 S3 HQ3 HV3 HP3 f1 f2 f3 f4 f5 f6 f7 f8 f9 f10 f11
                generalize (cameR s now unit pdu).2.1 = EE at *
                have q2 : (EE != EE) = false := by simp
                go_wp2_with fail
                refine HB.out.mono ?_
                rintro e w5 ⟨rfl, b5⟩
                have J6 := hide (J4.out _ b5)
                clear b5
                go_wp2_with fail
                go_meet
                exact ⟨rfl, J6.out⟩
              · have hbU := hB.lt
                have HANS := hide (fun W (bW : Below U.heap.size U W) => answer7_any zr zV zk value W hmay (hyo.is.keep bW))
                have hL6 := ansV_len zr hmay value
                obtain ⟨L, hL⟩ : ∃ L, (ansV zr value).lay zr = L := ⟨_, rfl⟩
                rw [hL] at HANS hL6
                have k7 : ∀ v, Below U.heap.size U v → v.cell? ⟨qd, 7, none⟩ = some (.slice (some ⟨bO, 0, none⟩) 1 1) := fun v hv => (hv.cell (p := ⟨qd, 7, none⟩) hqU).trans c7
                have k2 : ∀ v, Below U.heap.size U v → v.cell? ⟨bO, 2, none⟩ = some (.int .i64 zr.f) := fun v hv => (hv.cell (p := ⟨bO, 2, none⟩) hbU).trans (hB.cell 2)
                have k3 : ∀ v, Below U.heap.size U v → v.cell? ⟨bO, 3, none⟩ = some (.int .i64 zr.a) := fun v hv => (hv.cell (p := ⟨bO, 3, none⟩) hbU).trans (hB.cell 3)
                have k4 : ∀ v, Below U.heap.size U v → v.cell? ⟨bO, 4, none⟩ = some (.int .i64 zr.c) := fun v hv => (hv.cell (p := ⟨bO, 4, none⟩) hbU).trans (hB.cell 4)
                have k5 : ∀ v, Below U.heap.size U v → v.cell? ⟨bO, 5, none⟩ = some (.slice zV zr.vs.length zk) := fun v hv => (hv.cell (p := ⟨bO, 5, none⟩) hbU).trans (hB.cell 5)
                have k6 : ∀ v, Below U.heap.size U v → v.cell? ⟨bO, 6, none⟩ = some (.int .i64 zr.t) := fun v hv => (hv.cell (p := ⟨bO, 6, none⟩) hbU).trans (hB.cell 6)
                have k8 : ∀ v, Below U.heap.size U v → v.cell? ⟨bO, 7, none⟩ = some (.int .i64 zr.an) := fun v hv => (hv.cell (p := ⟨bO, 7, none⟩) hbU).trans (hB.cell 7)
                have k9 : ∀ v, Below U.heap.size U v → v.cell? ⟨bO, 8, none⟩ = some (.int .i64 zr.o) := fun v hv => (hv.cell (p := ⟨bO, 8, none⟩) hbU).trans (hB.cell 8)
                have k11 : ∀ v, Below U.heap.size U v → v.cell? ⟨pX, 11, none⟩ = some (.int .i64 value) := fun v hv => (hv.cell (p := ⟨pX, 11, none⟩) HLU.out).trans e11
                have K1 : Hid (∀ v, Below U.heap.size U v → v.cell? ⟨bO, 1, none⟩ = some (.int .i64 zu)) := hide (fun v hv => (hv.cell (p := ⟨bO, 1, none⟩) hbU).trans (hB.cell 1))
                have K7 := hide k7
                clear hR7 ho hO hB hyo eo hmay hL
                go_upto_region 17 with fail
                refine wp_region_held_drew (S := fun w' => Below U.heap.size U w') (by kernel_rfl) ?_ (fun hHeld => ?_)
                · exact (Below.refl _ _).drew
                refine wpAnyH_take (i := 0) (oi := { dst := some 100, op := _, type := _, pos := _, after := _, guard := _ }) (v := ?v1x1) rfl (by kernel_rfl) (by kernel_rfl) (by kernel_rfl) (fun _ _ _ h => h) (Or.inl ⟨by rfl, ?hy1x1⟩) hHeld ?rest1x1
                case hy1x1 => (intro w hSw; go_simp <;> with_reducible rfl)
                try simp only [Act.put, List.setIfInBounds_toArray, List.set_cons_zero, List.set_cons_succ]
                refine wpAnyH_take (i := 1) (oi := { dst := some 101, op := _, type := _, pos := _, after := _, guard := _ }) (v := ?v1x2) rfl (by kernel_rfl) (by kernel_rfl) (by kernel_rfl) (fun _ _ _ h => h) (Or.inl ⟨by rfl, ?hy1x2⟩) hHeld ?rest1x2
                case hy1x2 => (intro w hSw; go_simp <;> with_reducible rfl)
                try simp only [Act.put, List.setIfInBounds_toArray, List.set_cons_zero, List.set_cons_succ]
                refine wpAnyH_take (i := 2) (oi := { dst := some 102, op := _, type := _, pos := _, after := _, guard := _ }) (v := ?v1x3) rfl (by kernel_rfl) (by kernel_rfl) (by kernel_rfl) (fun _ _ _ h => h) (Or.inl ⟨by rfl, ?hy1x3⟩) hHeld ?rest1x3
                case hy1x3 => (intro w hSw; go_simp <;> with_reducible rfl)
                try simp only [Act.put, List.setIfInBounds_toArray, List.set_cons_zero, List.set_cons_succ]
                refine wpAnyH_take (i := 3) (oi := { dst := some 103, op := _, type := _, pos := _, after := _, guard := _ }) (v := ?v1x4) rfl (by kernel_rfl) (by kernel_rfl) (by kernel_rfl) (fun _ _ _ h => h) (Or.inl ⟨by rfl, ?hy1x4⟩) hHeld ?rest1x4
                case hy1x4 => (intro w hSw; go_simp <;> with_reducible rfl)
                try simp only [Act.put, List.setIfInBounds_toArray, List.set_cons_zero, List.set_cons_succ]
                refine wpAnyH_take (i := 4) (oi := { dst := some 104, op := _, type := _, pos := _, after := _, guard := _ }) (v := ?v1x5) rfl (by kernel_rfl) (by kernel_rfl) (by kernel_rfl) (fun _ _ _ h => h) (Or.inl ⟨by rfl, ?hy1x5⟩) hHeld ?rest1x5
                case hy1x5 => (intro w hSw; go_simp <;> with_reducible rfl)
                try simp only [Act.put, List.setIfInBounds_toArray, List.set_cons_zero, List.set_cons_succ]
                refine wpAnyH_take (i := 5) (oi := { dst := some 105, op := _, type := _, pos := _, after := _, guard := _ }) (v := ?v1x6) rfl (by kernel_rfl) (by kernel_rfl) (by kernel_rfl) (fun _ _ _ h => h) (Or.inl ⟨by rfl, ?hy1x6⟩) hHeld ?rest1x6
                case hy1x6 => (intro w hSw; go_simp <;> with_reducible rfl)
                try simp only [Act.put, List.setIfInBounds_toArray, List.set_cons_zero, List.set_cons_succ]
                refine wpAnyH_take (i := 6) (oi := { dst := some 106, op := _, type := _, pos := _, after := _, guard := _ }) (v := ?v1x7) rfl (by kernel_rfl) (by kernel_rfl) (by kernel_rfl) (fun _ _ _ h => h) (Or.inl ⟨by rfl, ?hy1x7⟩) hHeld ?rest1x7
                case hy1x7 => (intro w hSw; go_simp <;> with_reducible rfl)
                try simp only [Act.put, List.setIfInBounds_toArray, List.set_cons_zero, List.set_cons_succ]
                refine wpAnyH_take (i := 7) (oi := { dst := some 107, op := _, type := _, pos := _, after := _, guard := _ }) (v := ?v1x8) rfl (by kernel_rfl) (by kernel_rfl) (by kernel_rfl) (fun _ _ _ h => h) (Or.inl ⟨by rfl, ?hy1x8⟩) hHeld ?rest1x8
                case hy1x8 => (intro w hSw; go_simp <;> with_reducible rfl)
                try simp only [Act.put, List.setIfInBounds_toArray, List.set_cons_zero, List.set_cons_succ]
                refine wpAnyH_take (i := 8) (oi := { dst := some 108, op := _, type := _, pos := _, after := _, guard := _ }) (v := ?v1x9) rfl (by kernel_rfl) (by kernel_rfl) (by kernel_rfl) (fun _ _ _ h => h) (Or.inl ⟨by rfl, ?hy1x9⟩) hHeld ?rest1x9
                case hy1x9 => (intro w hSw; go_simp <;> with_reducible rfl)
                try simp only [Act.put, List.setIfInBounds_toArray, List.set_cons_zero, List.set_cons_succ]
                refine wpAnyH_take (i := 9) (oi := { dst := some 109, op := _, type := _, pos := _, after := _, guard := _ }) (v := ?v1x10) rfl (by kernel_rfl) (by kernel_rfl) (by kernel_rfl) (fun _ _ _ h => h) (Or.inl ⟨by rfl, ?hy1x10⟩) hHeld ?rest1x10
                case hy1x10 => (intro w hSw; go_simp <;> with_reducible rfl)
                try simp only [Act.put, List.setIfInBounds_toArray, List.set_cons_zero, List.set_cons_succ]
                refine wpAnyH_ready (rs := [10]) (by kernel_rfl) (by simp) (AllReadyH.cons (o := { dst := some 110, op := _, type := _, pos := _, after := _, guard := _ }) rfl (fun K hK => ?_) AllReadyH.nil)
                go_simp
                refine (HANS.out _ hHeld).mono ?_
                rintro e w9 ⟨C, ck, rfl, lC, rC, b9⟩
                have B9 := hide (below_on hHeld b9)
                have RC := hide rC
                clear b9 rC
                go_wp2_with fail
                refine hK.out _ _ ?_ (fun hHeld => ?_)
                · exact B9.out
                clear hK K
                try simp only [Act.put, List.setIfInBounds_toArray, List.set_cons_zero, List.set_cons_succ]
                refine wpAnyH_take (i := 11) (oi := { dst := some 24, op := _, type := _, pos := _, after := _, guard := _ }) (v := ?v1x12) rfl (by kernel_rfl) (by kernel_rfl) (by kernel_rfl) (fun _ _ _ h => h) (Or.inl ⟨by rfl, ?hy1x12⟩) hHeld ?rest1x12
                case hy1x12 => (intro w hSw; go_simp <;> with_reducible rfl)
                try simp only [Act.put, List.setIfInBounds_toArray, List.set_cons_zero, List.set_cons_succ]
                refine wpAnyH_done (by kernel_rfl) ?_ _
                clear k7 k2 k3 k4 k5 k6 k8 k9 k11 c7 e0 e1 e2 e3 e4 e5 e6 e7 e8 e9 e10 e11
                have D9 := hide (HD.out.keep B9.out)
                have Z9 := hide (HZU.out.keep B9.out)
                have l1 := K1.out _ B9.out
                have l7 := K7.out _ B9.out
                have z9 := Z9.out
                have h1 : w9.cell? ⟨pX, 1, none⟩ = some (.int .i64 now) := z9.cell 1
                have h2 : w9.cell? ⟨pX, 2, none⟩ = some (.int .i64 unit) := z9.cell 2
                have h3 : w9.cell? ⟨pX, 3, none⟩ = some (.int .i64 r.f) := z9.cell 3
                have h4 : w9.cell? ⟨pX, 4, none⟩ = some (.int .i64 r.a) := z9.cell 4
                have h5 : w9.cell? ⟨pX, 5, none⟩ = some (.int .i64 r.c) := z9.cell 5
                have h6 : w9.cell? ⟨pX, 6, none⟩ = some (.slice A r.vs.length k) := z9.cell 6
                have h7 : w9.cell? ⟨pX, 7, none⟩ = some (.int .i64 r.t) := z9.cell 7
                have h8 : w9.cell? ⟨pX, 8, none⟩ = some (.int .i64 r.an) := z9.cell 8
                have h9 : w9.cell? ⟨pX, 9, none⟩ = some (.int .i64 r.o) := z9.cell 9
                have h10 : w9.cell? ⟨pX, 10, none⟩ = some (.slice P pl pk) := z9.cell 10
                have h11 : w9.cell? ⟨pX, 11, none⟩ = some (.int .i64 value) := z9.cell 11
                clear z9
                go_wp2_with fail
                refine (msCame_w w.heap.size g mm s now zu C L.length ck L w w9 D9.out.M RC.out lC D9.out.bel D9.out.bel.size HG.out).mono ?_
                rintro e w3 ⟨Q, l9, ds, m3, rfl, e2', d3, nV, a3, g3, n3, b3, nQ, u3, s3, kb⟩
                have D3 : Hid (DDw w i (cameR s now zu L).2.2 s m3 R w3) := hide (D9.out.afterP a3 (by rw [n3]; exact D9.out.n) b3 u3 s3)
                have zW := Blk.but Z9.out u3 NM.out
                have G3 := hide g3
                have HP3 := hide (kb _ _ _ RC.out)
                have HQ3 : Hid (∀ b o, Q = some ⟨b, o, none⟩ → ¬ R.S b) := hide (fun b' o' e' hS => by have := (nQ b' o' e').2; have := D9.out.D.lt _ hS; omega)
                have HV3 : Hid (∀ d ∈ ds, Off R.S d.V) := hide (fun d hd b' o' e' hS => by have := nV d hd b' o' e'; have := D9.out.D.lt _ hS; omega)
                have E2 := hide e2'
                have S3 := hide d3
                clear a3 g3 n3 b3 u3 s3 nQ nV kb e2' d3 l1 l7 h1 h2 h3 h4 h5 h6 h7 h8 h9 h10 h11
                have f1 : w3.cell? ⟨pX, 1, none⟩ = some (.int .i64 now) := zW.cell 1
                have f2 : w3.cell? ⟨pX, 2, none⟩ = some (.int .i64 unit) := zW.cell 2
                have f3 : w3.cell? ⟨pX, 3, none⟩ = some (.int .i64 r.f) := zW.cell 3
                have f4 : w3.cell? ⟨pX, 4, none⟩ = some (.int .i64 r.a) := zW.cell 4
                have f5 : w3.cell? ⟨pX, 5, none⟩ = some (.int .i64 r.c) := zW.cell 5
                have f6 : w3.cell? ⟨pX, 6, none⟩ = some (.slice A r.vs.length k) := zW.cell 6
                have f7 : w3.cell? ⟨pX, 7, none⟩ = some (.int .i64 r.t) := zW.cell 7
                have f8 : w3.cell? ⟨pX, 8, none⟩ = some (.int .i64 r.an) := zW.cell 8
                have f9 : w3.cell? ⟨pX, 9, none⟩ = some (.int .i64 r.o) := zW.cell 9
                have f10 : w3.cell? ⟨pX, 10, none⟩ = some (.slice P pl pk) := zW.cell 10
                have f11 : w3.cell? ⟨pX, 11, none⟩ = some (.int .i64 value) := zW.cell 11
                clear zW
                have hcall := rsCame_any R s now zu C L.length ck L w3 D3.out.D D9.out.M.ok HP3.out lC (Nat.le_trans hL6 (by omega))
                rw [HQ.out] at hcall
                have HCALL := hide hcall
                clear hcall
                go_wp2_with fail
                refine HCALL.out.mono ?_
                rintro e w4 ⟨Q', l6, ds', R4, rfl, p3, p4, d4, g4, u4, s4⟩
                have D4 : Hid (DDw w i (cameR s now zu L).2.2 (cameR s now zu L).2.2 m3 R4 w4) := hide (D3.out.afterD d4 u4 s4)
                have t4 := S3.out.offE u4 HQ3.out (fun d hd => Or.inl (HV3.out d hd))
                have HB := hide (dones_yes Q Q' ds.length ds'.length l9 l6 ds ds' w4 t4.rows p4.rows rfl rfl t4.few (dm_us E2.out (fun d hd => Nat.le_trans (cameR_us s now zu L d hd) (by have := hL6; omega))) (E2.out.trans p3.symm))
                have J4 : Hid (∀ W, Below w4.heap.size w4 W → DJ g qd w (i + 1) W) := hide (fun W bW => ⟨m3, R4, _, ⟨D4.out.M.keep bW, by have := D4.out.n; omega, D4.out.D.keep bW, D4.out.lo, D4.out.ap, below_on D4.out.bel bW⟩, G3.out, g4.trans HQ.out, by rw [(cameR_keeps s now zu L).1]; have := HNX.out; omega, by rw [(cameR_keeps s now zu L).2]; exact HRS.out⟩)
                clear d4 g4 u4 s4 D4 D3 t4 p3 p4 E2 S3 HQ3 HV3 HP3 f1 f2 f3 f4 f5 f6 f7 f8 f9 f10 f11
                generalize (cameR s now zu L).2.1 = EE at *
                have q2 : (EE != EE) = false := by simp
                go_wp2_with fail
                refine HB.out.mono ?_
                rintro e w5 ⟨rfl, b5⟩
                have J6 := hide (J4.out _ b5)
                clear b5
                go_wp2_with fail
                go_meet
                exact ⟨rfl, J6.out⟩
      case rest =>
        obtain ⟨rfl, hJ⟩ := hcut
        obtain ⟨mm', R', s', hD', hg', hq', hnx', hrs'⟩ := hJ.all
        have J7 := hide hJ
        have HC := hide (msCount_w w.heap.size g mm' s' wc hD'.M hg')
        have HK := rsCount R' s' wc hD'.D hD'.M.ok.len
        rw [hq'] at HK
        have HK2 := hide HK
        clear HK hD' hg' hq' hnx' hrs' hJ HD HG HQ HNX HRS HIS HZU NM ND HLU e0 e1 e2 e3 e4 e5 e6 e7 e8 e9 e10 e11
        generalize mCount s' = CC at *
        have q2 : (((CC : Nat) : Int) != ((CC : Nat) : Int)) = false := by simp
        obtain ⟨w8, rfl⟩ : ∃ w8, w8 = wc := ⟨_, rfl⟩
        go_wp2_with fail
        refine HC.out.mono ?_
        rintro e w9 ⟨rfl, rfl⟩
        go_wp2_with fail
        refine HK2.out.mono ?_
        rintro e w9 ⟨rfl, nq, rfl⟩
        have J8 : Hid (DJ g qd w (i + 1) (w8.drewN nq)) := hide (by
          obtain ⟨m9, R9, s9, h1, h2⟩ := J7.out.all
          exact ⟨m9, R9, s9, h1.keep (below_drewN (Below.refl _ _) _), h2⟩)
        go_wp2_with fail
        go_roundw
        case rel => exact ⟨i + 1, by go_num, by omega, J8.out⟩
        case measure => simp [intOf]; omega
    · obtain rfl : i = len := by omega
      have q : ¬ (i : Int) < (i : Int) := by omega
      obtain ⟨mm, R, s, hD, _⟩ := HX.out.all
      have HBL := hide hD.bel
      clear hD HX
      go_wp2_with fail
      refine (awake7_any wr).mono ?_
      rintro e w2 ⟨rfl, b2⟩
      go_wp2
      go_ret
      exact ⟨rfl, below_on HBL.out b2⟩

end Go.Proofs.Ytfpfijggmfeejaa
