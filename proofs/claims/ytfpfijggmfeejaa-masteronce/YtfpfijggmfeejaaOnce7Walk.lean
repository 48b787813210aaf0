/-
  What is proved here: the law MasterOnce returns true for every numbers and script, and writes nothing that was there. No condition of its own.
-/
import Derived.Test.YtfpfijggmfeejaaOnce7a
namespace Go.Proofs.Ytfpfijggmfeejaa
set_option linter.unusedVariables false
set_option linter.unusedSimpArgs false
open Go.RowKit Go.Maps

set_option maxHeartbeats 100000000 in
set_option maxRecDepth 100000 in
theorem once7_walk (x0 x1 x2 : Int) (B : Option Addr) (len cap : Nat) (xs : Nat → Op7) (w : World) (hs : ScrP7 w B len xs) :
    Calls Try.prog 4 #[.int .i64 x0, .int .i64 x1, .int .i64 x2, .slice B len cap] w fun e w' => e = .returned (.bool true) ∧ Below w.heap.size w w' := by
  have HF := hide (few7_any B len cap xs w hs)
  have HS := hide hs
  clear hs
  go_enter Try.func4, Try.ntmps4
  go_wp2_with fail
  refine HF.out.mono ?_
  rintro e w1 ⟨r, rfl, rfl, hr⟩
  cases r
  · clear hr
    go_wp2
    go_ret
    exact ⟨rfl, Below.refl _ _⟩
  obtain ⟨hlen, hns⟩ := hr rfl
  have HNS := hide hns
  clear hr hns HF
  cases t2 : decide (1000000000 < x2)
  case true =>
    go_wp2
    go_ret
    exact ⟨rfl, Below.refl _ _⟩
  cases t3 : decide (1000000000 < x0)
  case true =>
    go_wp2
    go_ret
    exact ⟨rfl, Below.refl _ _⟩
  cases hmay : mMay x0 x1 x2
  · go_wp2_with fail
    refine (msNew_no x0 x1 x2 hmay w).mono ?_
    rintro e w1 ⟨rfl, rfl⟩
    go_wp2_with fail
    refine (awake7_any w).mono ?_
    rintro e w2 ⟨rfl, b2⟩
    go_wp2
    go_ret
    exact ⟨rfl, b2⟩
  go_wp2_with fail
  refine (msNew_w x0 x1 x2 hmay w).mono ?_
  rintro e w1 ⟨m, rfl, a1, n1, b1⟩
  have A1 := hide a1
  have B1 := hide b1
  have HN := hide n1
  clear a1 b1 n1 t2 t3
  go_wp2_with fail
  have X0 : Hid (ON m.g w1.heap.size (w1.heap.size + 1) (w1.heap.size + 1 + 1) x1 w 0 0 0 (((w1.alloc (.cells Try.zeroCells58 58)).alloc (.cells Try.zeroCells59 59)).alloc (.cells #[.int .i64 0, .int .i64 0, .int .i64 0, .int .i64 0, .int .i64 0, .slice none 0 0, .int .i64 0, .int .i64 0, .int .i64 0] 51))) := hide (on_start x0 x1 x2 hmay A1.out HN.out B1.out)
  have BW1 := hide B1.out.size
  clear A1 B1 HN hmay
  generalize ((w1.alloc (.cells Try.zeroCells58 58)).alloc (.cells Try.zeroCells59 59)).alloc (.cells #[.int .i64 0, .int .i64 0, .int .i64 0, .int .i64 0, .int .i64 0, .slice none 0 0, .int .i64 0, .int .i64 0, .int .i64 0] 51) = V at *
  have hwp : w.heap.size ≤ w1.heap.size := BW1.out
  generalize w1.heap.size = p at *
  generalize hpL : p + 1 + 1 = pL at *
  generalize hpD : p + 1 = pD at *
  have hpp : Hid (p < pD ∧ pD < pL) := hide (by omega)
  have hnDp : pD ≠ p := by omega
  have hnLp : pL ≠ p := by omega
  have hnLD : pL ≠ pD := by omega
  have hwD : w.heap.size ≤ pD := by omega
  have hwL : w.heap.size ≤ pL := by omega
  clear hpL hpD
  generalize m.g = g at *
  go_loopw [11, 14, 16] (fun xa xo xi wr => ∃ asked out i : Nat, xa = .int .i64 (asked : Int) ∧ xo = .int .i64 (out : Int) ∧ xi = .int .i64 (i : Int) ∧ i ≤ len ∧ asked ≤ i ∧ ON g p pD pL x1 w asked out i wr) (fun _ _ xi _ => len - (intOf xi).toNat)
  case atStart => exact ⟨0, 0, 0, rfl, rfl, rfl, by omega, by omega, X0.out⟩
  case round =>
    obtain ⟨asked, out, i, rfl, rfl, rfl, hi, hask, hX⟩ := hrel
    clear X0
    have HX := hide hX
    clear hX
    by_cases hlt : i < len
    · have q : (i : Int) < (len : Int) := by omega
      obtain ⟨s, sent, done, last, hOM, hOI, hnx⟩ := HX.out.all
      obtain ⟨⟨mm, z, hM, hg, hmn, hbel, zS, zD, zL, oz, ez, nS, nD, nL⟩, hag⟩ := hOM
      obtain ⟨b, o, rfl, hbl, hc, his⟩ := HS.out.at_ hlt
      obtain ⟨hv3, hp3, hn9⟩ := HNS.out i hlt
      have hcc : ∀ j v, (xs i).cells[j]? = some v → wr.cell? ⟨b, o + (i * 12 + j), none⟩ = some v := fun j v hv => (hbel.cell (p := ⟨b, o + (i * 12 + j), none⟩) hbl).trans (hc j v hv)
      clear hc
      generalize xs i = X at *
      obtain ⟨call, now, unit, r, A, k, P, pl, pk, pdu, value⟩ := X
      simp only at hv3 hp3 hn9
      have c0 : wr.cell? ⟨b, o + i * 12, none⟩ = some (.int .i64 call) := hcc 0 _ rfl
      have c1 : wr.cell? ⟨b, o + i * 12 + 1, none⟩ = some (.int .i64 now) := hcc 1 _ rfl
      have c2 : wr.cell? ⟨b, o + i * 12 + 2, none⟩ = some (.int .i64 unit) := hcc 2 _ rfl
      have c3 : wr.cell? ⟨b, o + i * 12 + 3, none⟩ = some (.int .i64 r.f) := hcc 3 _ rfl
      have c4 : wr.cell? ⟨b, o + i * 12 + 4, none⟩ = some (.int .i64 r.a) := hcc 4 _ rfl
      have c5 : wr.cell? ⟨b, o + i * 12 + 5, none⟩ = some (.int .i64 r.c) := hcc 5 _ rfl
      have c6 : wr.cell? ⟨b, o + i * 12 + 6, none⟩ = some (.slice A r.vs.length k) := hcc 6 _ rfl
      have c7 : wr.cell? ⟨b, o + i * 12 + 7, none⟩ = some (.int .i64 r.t) := hcc 7 _ rfl
      have c8 : wr.cell? ⟨b, o + i * 12 + 8, none⟩ = some (.int .i64 r.an) := hcc 8 _ rfl
      have c9 : wr.cell? ⟨b, o + i * 12 + 9, none⟩ = some (.int .i64 r.o) := hcc 9 _ rfl
      have c10 : wr.cell? ⟨b, o + i * 12 + 10, none⟩ = some (.slice P pl pk) := hcc 10 _ rfl
      have c11 : wr.cell? ⟨b, o + i * 12 + 11, none⟩ = some (.int .i64 value) := hcc 11 _ rfl
      have HM := hide hM
      have HG := hide hg
      have HMN := hide hmn
      have HBL := hide hbel
      have ZS := hide zS
      have ZD := hide zD
      have ZL := hide zL
      have OZ := hide oz
      have EZ := hide ez
      have NS := hide (And.intro nS (And.intro nD nL))
      have HAG := hide hag
      have HOI := hide hOI
      have HNX := hide hnx
      have HIS := hide his
      clear hM hg hmn hbel zS zD zL oz ez nS nD nL hag hOI hnx his hcc HX
      go_upto_block 2 with fail
      generalize hV : wr.alloc _ = U
      obtain ⟨zU, bU⟩ := box1 wr 40 [.int .i64 call, .int .i64 now, .int .i64 unit, .int .i64 r.f, .int .i64 r.a, .int .i64 r.c, .slice A r.vs.length k, .int .i64 r.t, .int .i64 r.an, .int .i64 r.o, .slice P pl pk, .int .i64 value] U hV.symm
      have e0 : U.cell? ⟨wr.heap.size, 0, none⟩ = some (.int .i64 call) := zU.cell 0
      have e1 : U.cell? ⟨wr.heap.size, 1, none⟩ = some (.int .i64 now) := zU.cell 1
      have e2 : U.cell? ⟨wr.heap.size, 2, none⟩ = some (.int .i64 unit) := zU.cell 2
      have e3 : U.cell? ⟨wr.heap.size, 3, none⟩ = some (.int .i64 r.f) := zU.cell 3
      have e4 : U.cell? ⟨wr.heap.size, 4, none⟩ = some (.int .i64 r.a) := zU.cell 4
      have e5 : U.cell? ⟨wr.heap.size, 5, none⟩ = some (.int .i64 r.c) := zU.cell 5
      have e6 : U.cell? ⟨wr.heap.size, 6, none⟩ = some (.slice A r.vs.length k) := zU.cell 6
      have e7 : U.cell? ⟨wr.heap.size, 7, none⟩ = some (.int .i64 r.t) := zU.cell 7
      have e8 : U.cell? ⟨wr.heap.size, 8, none⟩ = some (.int .i64 r.an) := zU.cell 8
      have e9 : U.cell? ⟨wr.heap.size, 9, none⟩ = some (.int .i64 r.o) := zU.cell 9
      have e10 : U.cell? ⟨wr.heap.size, 10, none⟩ = some (.slice P pl pk) := zU.cell 10
      have e11 : U.cell? ⟨wr.heap.size, 11, none⟩ = some (.int .i64 value) := zU.cell 11
      have ZU := hide zU
      have MU := hide (HM.out.keep bU)
      have BU := hide (below_on HBL.out bU)
      have SU := hide (ZS.out.keep bU)
      have DU := hide (ZD.out.keep bU)
      have LU := hide (ZL.out.keep bU)
      have OU := hide (OZ.out.keep bU)
      have hzp : wr.heap.size ≠ pL := by have := ZL.out.lt; omega
      clear hV zU bU c0 c1 c2 c3 c4 c5 c6 c7 c8 c9 c10 c11 HM HBL ZS ZD ZL OZ
      go_cut [11, 18, 19] (fun s11 s18 s19 wc => ∃ (asked' : Nat) (O Q : Option Addr) (k5 l5 : Nat) (rs : List SM) (ds : List DM), s11 = .int .i64 (asked' : Int) ∧ s18 = .slice O rs.length k5 ∧ s19 = .slice Q ds.length l5 ∧ asked' ≤ i + 1 ∧ OC g p pD pL x1 w i asked' out sent done last O Q rs ds wc)
      case first =>
        as_aux_lemma =>
          by_cases h0 : call = 0
          · subst h0
            go_wp2_with fail
            have hcall := msAsk_w w.heap.size g mm s unit r A k w U MU.out (HIS.out.vs.keep BU.out) (by omega) (by rw [HNX.out]; omega) (fun hh => MU.out.off (fun b' o' e' => rd_lt HIS.out.vs hh b' o' e')) BU.out BU.out.size HG.out
            by_cases hE : askE s unit r = 0
            · have hT : askT s unit r = ((asked + 1 : Nat) : Int) := by unfold askT; rw [if_pos hE, HNX.out]
              rw [hE, hT] at hcall
              refine hcall.mono ?_
              rintro e w3 ⟨m3, rfl, a3, g3, n3, b3, u3, s3⟩
              have Z : Hid (OC g p pD pL x1 w i (asked + 1) out sent done last none none [] [] w3) := hide (oc_ask HOI.out hE HNX.out HAG.out SU.out DU.out LU.out OU.out EZ.out NS.out a3 g3 (by rw [n3]; have := HMN.out; omega) b3 u3 s3 MU.out)
              have z1 : IntKind.i64.wrap ((asked : Int) + 1) = (asked : Int) + 1 := by rw [IntKind.wrap_i64]; omega
              clear a3 g3 n3 b3 u3 s3 hcall hE hT e0 e1 e2 e3 e4 e5 e6 e7 e8 e9 e10 e11
              rw [Int.natCast_add, Int.natCast_one]
              go_wp2_with fail
              go_meet
              exact ⟨asked + 1, none, none, 0, 0, [], [], by rw [Int.natCast_add]; rfl, rfl, rfl, by omega, Z.out⟩
            · have hT : askT s unit r = 0 := by unfold askT; rw [if_neg hE]
              have hb : (askE s unit r == 0) = false := ne_beq hE
              rw [hT] at hcall
              refine hcall.mono ?_
              rintro e w3 ⟨m3, rfl, a3, g3, n3, b3, u3, s3⟩
              have Z : Hid (OC g p pD pL x1 w i asked out sent done last none none [] [] w3) := hide (oc_no HOI.out hE HNX.out HAG.out SU.out DU.out LU.out OU.out EZ.out NS.out a3 g3 (by rw [n3]; have := HMN.out; omega) b3 u3 s3 MU.out)
              generalize askE s unit r = EE at *
              clear a3 g3 n3 b3 u3 s3 hcall hE hT e0 e1 e2 e3 e4 e5 e6 e7 e8 e9 e10 e11
              go_wp2_with fail
              go_meet
              exact ⟨asked, none, none, 0, 0, [], [], rfl, rfl, rfl, by omega, Z.out⟩
          by_cases h1 : call = 1
          · subst h1
            go_wp2_with fail
            refine (msStep_w w.heap.size g mm s now w U MU.out (by omega) (by have := HMN.out; omega) BU.out BU.out.size HG.out).mono ?_
            rintro e w3 ⟨O, Q, k5, l5, rs, ds, m3, rfl, e1', r3, e2', d3, a3, g3, n3, b3, _, _, u3, s3⟩
            have Z : Hid (OC g p pD pL x1 w i asked out sent done last O Q rs ds w3) := hide (oc_step HOI.out HNX.out HAG.out SU.out DU.out LU.out OU.out EZ.out NS.out a3 g3 (by have := HMN.out; omega) b3 u3 s3 MU.out e1' e2' r3 d3)
            generalize (stepR s now).2.2.1 = EE at *
            clear a3 g3 n3 b3 u3 s3 e1' e2' r3 d3 e0 e1 e2 e3 e4 e5 e6 e7 e8 e9 e10 e11
            go_wp2_with fail
            go_meet
            exact ⟨asked, O, Q, k5, l5, rs, ds, rfl, rfl, rfl, by omega, Z.out⟩
          · have g0 : (call == 0) = false := ne_beq h0
            have g1 : (call == 1) = false := ne_beq h1
            clear h0 h1
            have hpd := HIS.out.pd.keep BU.out
            have HPD := hide hpd
            have hpk := HIS.out.pk
            clear hpd
            obtain ⟨ztk, zu, zr, zV, zk⟩ := z
            obtain ⟨l0, l1, l2, l3, l4, l5, l6, l7, l8⟩ := Blk.nine LU.out
            simp only at l0 l1 l2 l3 l4 l5 l6 l7 l8
            go_upto_region 19 with fail
            go_cut [79] (fun s79 wd => s79 = .bool (call == 3 && decide (0 < (out : Int))) ∧ wd = U)
            case first =>
              cases q2 : call == 3
              · go_wp2_with fail
                go_meet
                exact ⟨by rw [q2]; rfl, rfl⟩
              · go_wp2_with fail
                go_meet
                exact ⟨by rw [q2]; simp, rfl⟩
            case rest =>
              obtain ⟨hs79, hw79⟩ := hcut
              subst hs79
              rw [hw79]
              clear hw79
              cases hbb : (call == 3 && decide (0 < (out : Int)))
              · clear hbb
                clear l0 l2 l3 l4 l5 l6 l7 l8 e2 e3 e4 e5 e6 e7 e8 e9 e11
                go_wp2_with fail
                refine (msCame_w w.heap.size g mm s now zu P pl pk pdu w U MU.out HPD.out hpk BU.out BU.out.size HG.out).mono ?_
                rintro e w3 ⟨Q, l9, ds, m3, rfl, e2', d3, _, a3, g3, n3, b3, _, u3, s3, _⟩
                have Z : Hid (OC g p pD pL x1 w i asked out sent done last none Q [] ds w3) := hide (oc_came HOI.out HNX.out HAG.out SU.out DU.out LU.out OU.out EZ.out NS.out a3 g3 (by rw [n3]; have := HMN.out; omega) b3 u3 s3 MU.out e2' d3)
                generalize (cameR s now zu pdu).2.1 = EE at *
                clear a3 g3 n3 b3 u3 s3 e2' d3 e0 e1 e10 l1
                go_wp2_with fail
                go_meet
                exact ⟨asked, none, Q, 0, l9, [], ds, rfl, rfl, rfl, by omega, Z.out⟩
              · rw [Bool.and_eq_true] at hbb
                have ho : 0 < out := by have := of_decide_eq_true hbb.2; omega
                clear hbb
                have hmay : zr.may = true := by
                  have := once_may HOI.out ho
                  rw [← EZ.out] at this
                  exact this
                have hans := answer7_any zr zV zk value U hmay OU.out.is
                obtain ⟨L, hL⟩ : ∃ L, (ansV zr value).lay zr = L := ⟨_, rfl⟩
                rw [hL] at hans
                have HANS := hide hans
                clear hans hL hmay
                go_wp2_with fail
                refine HANS.out.mono ?_
                rintro e w4 ⟨C, ck, rfl, lC, rC, b4⟩
                have e1' : w4.cell? ⟨wr.heap.size, 1, none⟩ = some (.int .i64 now) := (ZU.out.keep b4).cell 1
                have l1' : w4.cell? ⟨pL, 1, none⟩ = some (.int .i64 zu) := (LU.out.keep b4).cell 1
                have M4 := hide (MU.out.keep b4)
                have B4 := hide (below_on BU.out b4)
                have S4 := hide (SU.out.keep b4)
                have D4 := hide (DU.out.keep b4)
                have L4 := hide (LU.out.keep b4)
                have O4 := hide (OU.out.keep b4)
                have RC := hide rC
                clear b4 rC l0 l1 l2 l3 l4 l5 l6 l7 l8 e0 e1 e2 e3 e4 e5 e6 e7 e8 e9 e10 e11
                go_wp2_with fail
                refine (msCame_w w.heap.size g mm s now zu C L.length ck L w w4 M4.out RC.out lC B4.out B4.out.size HG.out).mono ?_
                rintro e w3 ⟨Q, l9, ds, m3, rfl, e2', d3, _, a3, g3, n3, b3, _, u3, s3, _⟩
                have Z : Hid (OC g p pD pL x1 w i asked out sent done last none Q [] ds w3) := hide (oc_came HOI.out HNX.out HAG.out S4.out D4.out L4.out O4.out EZ.out NS.out a3 g3 (by rw [n3]; have := HMN.out; omega) b3 u3 s3 M4.out e2' d3)
                generalize (cameR s now zu L).2.1 = EE at *
                clear a3 g3 n3 b3 u3 s3 e2' d3 e1' l1'
                go_wp2_with fail
                go_meet
                exact ⟨asked, none, Q, 0, l9, [], ds, rfl, rfl, rfl, by omega, Z.out⟩
      case rest =>
        obtain ⟨asked', O, Q, k5, l5, rs, ds, rfl, rfl, rfl, hask', hOC⟩ := hcut
        obtain ⟨s', sent2, done1, out1, out2, last2, hOM, hnx', hI', hD, hA, hR, hDd⟩ := hOC.all
        have ha16 : s'.again ≤ 16 := hI'.ok.a16
        have ha0 : 0 ≤ s'.again := hI'.ok.a0
        rw [hOM.again] at ha16 ha0
        have q9 : IntKind.i64.wrap (x1 + 1) = x1 + 1 := by rw [IntKind.wrap_i64]; omega
        have HOM := hide hOM
        have HI2 := hide hI'
        have HNX2 := hide hnx'
        have HR := hide hR
        have HDD := hide hDd
        have HA := hide hA
        clear hOC hOM hI' hnx' hR hDd hA MU BU SU DU LU OU ZU HG HMN NS EZ HAG HOI HNX HIS e0 e1 e2 e3 e4 e5 e6 e7 e8 e9 e10 e11
        obtain ⟨w8, rfl⟩ : ∃ w8, w8 = wc := ⟨_, rfl⟩
        go_upto_block 3 with fail
        go_cut [14] (fun s14 wd => s14 = .int .i64 ((out1 : Nat) : Int) ∧ OM g p pD pL x1 w (i + 1) s' sent done1 last wd ∧ SRd1 wd O rs.length rs)
        case first =>
          clear HA HI2 HNX2
          rcases hD with ⟨hD, rfl, rfl⟩ | ⟨d, hD, t1, t2, t3, t4, t5, t6, rfl, rfl⟩
          · obtain rfl := List.map_eq_nil_iff.1 hD
            clear hD HDD
            go_wp2_with fail
            refine wp_loop_rounds 1 ?_
            rw [rounds_succ]
            go_wp2_with fail
            go_meet
            exact ⟨rfl, HOM.out, HR.out⟩
          · obtain ⟨dd, rfl, ed⟩ := dm_one hD
            obtain ⟨bQ, rfl, zQ, _⟩ := HDD.out.one
            obtain ⟨dtk, dan, dlate, dV, dk⟩ := dd
            subst ed
            have t1' : 1 ≤ dtk := t1
            have t2' : dtk ≤ asked' := t2
            have t3' : done dtk = false := t3
            have t4' : sent dtk ≠ 0 := t4
            have t5' : dtk = out := t5
            have t6' : dlate = true → sent dtk = x1 + 1 := t6
            subst t5'
            obtain ⟨⟨mq, zq, hq1, hq2, hq3, hq4, hq5, hq6, hq7, _⟩, _⟩ := HOM.out
            have k0 : w8.cell? ⟨bQ, 0, none⟩ = some (.int .i64 (dtk : Nat)) := zQ.cell 0
            have k3 : w8.cell? ⟨bQ, 3, none⟩ = some (.bool dlate) := zQ.cell 3
            have cD : w8.cell? ⟨pD, dtk, none⟩ = some (.bool false) := by rw [hq6.cell, arB_get _ _ (by omega), t3']
            have cS : w8.cell? ⟨p, dtk, none⟩ = some (.int .i64 (sent dtk)) := by rw [hq5.cell, arI_get _ _ (by omega)]
            have fD := hq6.frozen
            have z0 : (dtk : Int) < 200 := by omega
            have z1 : decide ((dtk : Int) < 1) = false := decide_eq_false (by omega)
            have z2 : decide ((asked' : Int) < (dtk : Int)) = false := decide_eq_false (by omega)
            have z3 : (sent dtk == 0) = false := ne_beq t4'
            have z4 : ((dtk : Int) != (dtk : Int)) = false := by simp
            have z5 : dlate = true → (sent dtk != x1 + 1) = false := fun h => by rw [t6' h]; simp
            have hne : bQ ≠ pD := zQ.ne hq6 (by decide)
            have HOMX : Hid (OM g p pD pL x1 w (i + 1) s' sent (updF done dtk true) last (w8.setCell ⟨pD, dtk, none⟩ (.bool true))) := hide (HOM.out.doneS hwD dtk true)
            have HRX : Hid (SRd1 (w8.setCell ⟨pD, dtk, none⟩ (.bool true)) O rs.length rs) := hide (HR.out.but (But.setCell w8 _ rfl : But (fun j => j = pD) w8 (w8.setCell ⟨pD, dtk, none⟩ (.bool true))) (fun bb oo ee hb _ h2 h3 => h2.ne hq6 (by decide) hb) (fun yy hyy bb oo ee hb => own_ne hyy hq6 (by decide) ee hb))
            clear hD HDD zQ hq1 hq2 hq3 hq4 hq5 hq6 hq7 t1 t2 t3 t4 t5 t6 HOM
            go_wp2_with fail
            refine wp_loop_rounds 2 ?_
            rw [rounds_succ]
            go_upto_region 34 with fail
            go_cut [171] (fun s171 wd => s171 = .bool false ∧ wd = w8)
            case first =>
              clear HOMX HRX
              cases dlate
              · clear z5 t6'
                go_wp2_with fail
                go_meet
                exact ⟨by simp; omega, rfl⟩
              · have z6 := z5 rfl
                clear z5 t6'
                go_wp2_with fail
                go_meet
                exact ⟨by simp; omega, rfl⟩
            case rest =>
              obtain ⟨hs171, hw171⟩ := hcut
              subst hs171
              rw [hw171]
              clear hw171 z5 t6'
              go_wp2_with fail
              rw [rounds_succ]
              go_wp2_with fail
              go_meet
              exact ⟨rfl, HOMX.out, HRX.out⟩
        case rest =>
          obtain ⟨rfl, hOM3, hR3⟩ := hcut
          have HOMX := hide hOM3
          have HRX := hide hR3
          clear hOM3 hR3 hD HDD HOM
          go_wp2_with fail
          obtain ⟨w4, rfl⟩ : ∃ w4, w4 = wc := ⟨_, rfl⟩
          rcases HA.out with ⟨hA, hs2, ho2, hl2⟩ | ⟨x, hA, v1, v2, v3, v4, v5, v6, v7, hs2, ho2, hl2⟩
          · obtain rfl := List.map_eq_nil_iff.1 hA
            rw [hs2, ho2, hl2] at HI2
            clear hA HR HA hs2 ho2 hl2
            refine wp_loop_rounds 1 ?_
            rw [rounds_succ]
            go_wp2
            exact ⟨⟨asked', out1, i + 1, rfl, rfl, by rw [Int.natCast_add]; rfl, by omega, by omega, ⟨s', sent, done1, last, HOMX.out, HI2.out, HNX2.out⟩⟩, by simp only [intOf]; omega⟩
          · obtain ⟨y, rfl, ey⟩ := sm_one hA
            obtain ⟨bO, rfl, zO, oO⟩ := HRX.out.one
            obtain ⟨ytk, yu, yr, yV, yk⟩ := y
            subst ey
            have v1' : 1 ≤ ytk := v1
            have v2' : ytk ≤ asked' := v2
            have v3' : done1 ytk = false := v3
            have v4' : 0 ≤ sent ytk := v4
            have v5' : sent ytk ≤ x1 := v5
            have v6' : out1 = 0 ∨ ytk = out1 := v6
            have v7' : mayB yr.f yr.a yr.c yr.vs yr.t yr.an yr.o = true := v7
            have HQ2 : Hid (sent2 = updF sent ytk (sent ytk + 1) ∧ out2 = ytk ∧ last2 = ⟨ytk, yu, yr⟩) := hide ⟨hs2, ho2, hl2⟩
            obtain ⟨⟨mq, zq, hq1, hq2, hq3, hq4, hq5, hq6, hq7, _⟩, _⟩ := HOMX.out
            have a0 : w4.cell? ⟨bO, 0, none⟩ = some (.int .i64 (ytk : Nat)) := zO.cell 0
            have a2 : w4.cell? ⟨bO, 2, none⟩ = some (.int .i64 yr.f) := zO.cell 2
            have a3 : w4.cell? ⟨bO, 3, none⟩ = some (.int .i64 yr.a) := zO.cell 3
            have a4 : w4.cell? ⟨bO, 4, none⟩ = some (.int .i64 yr.c) := zO.cell 4
            have a5 : w4.cell? ⟨bO, 5, none⟩ = some (.slice yV yr.vs.length yk) := zO.cell 5
            have a6 : w4.cell? ⟨bO, 6, none⟩ = some (.int .i64 yr.t) := zO.cell 6
            have a7 : w4.cell? ⟨bO, 7, none⟩ = some (.int .i64 yr.an) := zO.cell 7
            have a8 : w4.cell? ⟨bO, 8, none⟩ = some (.int .i64 yr.o) := zO.cell 8
            have cD : w4.cell? ⟨pD, ytk, none⟩ = some (.bool false) := by rw [hq6.cell, arB_get _ _ (by omega), v3']
            have cS : w4.cell? ⟨p, ytk, none⟩ = some (.int .i64 (sent ytk)) := by rw [hq5.cell, arI_get _ _ (by omega)]
            have z0 : (ytk : Int) < 200 := by omega
            have z1 : decide ((ytk : Int) < 1) = false := decide_eq_false (by omega)
            have z2 : decide ((asked' : Int) < (ytk : Int)) = false := decide_eq_false (by omega)
            have z3 : decide (x1 < sent ytk) = false := decide_eq_false (by omega)
            have z4 : (((out1 : Nat) : Int) != 0 && ((ytk : Int) != ((out1 : Nat) : Int))) = false := by
              rcases v6' with h | h
              · rw [h]
                rfl
              · rw [← h]
                simp
            have ZO := hide zO
            have OO := hide oO
            have HP6 : Hid (w.heap.size ≤ p ∧ w.heap.size ≤ pL) := hide ⟨hwp, hwL⟩
            clear hA hs2 ho2 hl2 HA HR v1 v2 v3 v4 v5 v6 v7 hq1 hq2 hq3 hq4 hq5 hq6 hq7 zO oO v6'
            refine wp_loop_rounds 2 ?_
            rw [rounds_succ]
            go_upto_region 42 with fail
            go_cut [14, 221] (fun s14 s221 wd => s14 = .int .i64 ((out1 : Nat) : Int) ∧ s221 = .bool false ∧ Below w4.heap.size w4 wd)
            case first =>
              clear HP6 HQ2 HOMX HI2 HNX2
              have hMay := refMay_any yr.f yr.a yr.c yr.t yr.an yr.o yV yr.vs.length yk yr.vs w4 OO.out.is (by have := may_vs (r := yr) v7'; omega)
              rw [v7'] at hMay
              have HMay := hide hMay
              clear hMay
              cases z5 : ((((out1 : Nat) : Int)) != 0)
              · clear z4
                go_wp2_with fail
                refine HMay.out.mono ?_
                rintro e w5 ⟨rfl, b5⟩
                go_wp2_with fail
                go_meet
                exact ⟨rfl, by rw [show decide (asked' < ytk) = false from decide_eq_false (by omega)], b5⟩
              · have z6 : ((ytk : Int) != ((out1 : Nat) : Int)) = false := by rw [z5] at z4; simpa using z4
                clear z4
                go_wp2_with fail
                refine HMay.out.mono ?_
                rintro e w5 ⟨rfl, b5⟩
                go_wp2_with fail
                go_meet
                exact ⟨rfl, by rw [show decide (asked' < ytk) = false from decide_eq_false (by omega)], b5⟩
            case rest =>
              obtain ⟨rfl, rfl, b5⟩ := hcut
              obtain ⟨w5, rfl⟩ : ∃ w5, w5 = wc := ⟨_, rfl⟩
              have hM5 := HOMX.out.keep b5
              obtain ⟨⟨mq, zq, hq1, hq2, hq3, hq4, hq5, hq6, hq7, _⟩, _⟩ := hM5
              have zO5 := ZO.out.keep b5
              have k0 : w5.cell? ⟨bO, 0, none⟩ = some (.int .i64 (ytk : Nat)) := zO5.cell 0
              have k1 : w5.cell? ⟨bO, 1, none⟩ = some (.int .i64 yu) := zO5.cell 1
              have k2 : w5.cell? ⟨bO, 2, none⟩ = some (.int .i64 yr.f) := zO5.cell 2
              have k3 : w5.cell? ⟨bO, 3, none⟩ = some (.int .i64 yr.a) := zO5.cell 3
              have k4 : w5.cell? ⟨bO, 4, none⟩ = some (.int .i64 yr.c) := zO5.cell 4
              have k5' : w5.cell? ⟨bO, 5, none⟩ = some (.slice yV yr.vs.length yk) := zO5.cell 5
              have k6 : w5.cell? ⟨bO, 6, none⟩ = some (.int .i64 yr.t) := zO5.cell 6
              have k7 : w5.cell? ⟨bO, 7, none⟩ = some (.int .i64 yr.an) := zO5.cell 7
              have k8 : w5.cell? ⟨bO, 8, none⟩ = some (.int .i64 yr.o) := zO5.cell 8
              have n1 : bO ≠ p := zO5.ne hq5 (by decide)
              have cS5 : w5.cell? ⟨p, ytk, none⟩ = some (.int .i64 (sent ytk)) := by rw [hq5.cell, arI_get _ _ (by omega)]
              have fS5 := hq5.frozen
              obtain ⟨y0, y1, y2, y3, y4, y5, y6, y7, y8⟩ := Blk.nine hq7
              have fL5 := hq7.frozen
              have z7 : IntKind.i64.wrap (sent ytk + 1) = sent ytk + 1 := by rw [IntKind.wrap_i64]; omega
              have M5 := hide (HOMX.out.keep b5)
              have O5 := hide (OO.out.keep b5)
              have hS5 := hide hq5
              clear b5 hq1 hq2 hq3 hq4 hq5 hq6 hq7 zO5 a0 a2 a3 a4 a5 a6 a7 a8 cD cS z4
              go_wp2_with fail
              rw [rounds_succ]
              go_wp2
              have hO6 : SM.own (w5.setCell ⟨p, ytk, none⟩ (.int .i64 (sent ytk + 1))) ⟨ytk, yu, yr, yV, yk⟩ := O5.out.but (But.setCell (S := fun j => j = p) w5 _ rfl) (fun b' o' e' h' => own_ne O5.out hS5.out (by decide) e' h')
              obtain ⟨f1, f2, f3⟩ := HQ2.out
              obtain ⟨hwp', hwL'⟩ := HP6.out
              have HI3 := HI2.out
              rw [f1, f2, f3] at HI3
              exact ⟨⟨asked', ytk, i + 1, rfl, rfl, by rw [Int.natCast_add]; rfl, by omega, by omega, ⟨s', updF sent ytk (sent ytk + 1), done1, ⟨ytk, yu, yr⟩, (M5.out.sentS hwp' ytk _).lastS hwL' ytk yu yr yV yk hO6, HI3, HNX2.out⟩⟩, by simp only [intOf]; omega⟩
    · obtain rfl : i = len := by omega
      have q : ¬ (i : Int) < (i : Int) := by omega
      obtain ⟨s, sent, done, last, hOM, hOI, hnx⟩ := HX.out.all
      have HOM := hide hOM
      have HOI := hide hOI
      have HNX := hide hnx
      have hcn : Hid (cntF done asked = mCount s) := hide (by rw [← hnx]; exact hOI.cnt)
      clear hOM hOI hnx HX
      go_wp2_with fail
      go_loopw [27, 28] (fun xn xt wt => ∃ j : Nat, xt = .int .i64 ((j : Int) + 1) ∧ xn = .int .i64 ((cntF done j : Nat) : Int) ∧ j ≤ asked ∧ wt = wr) (fun _ xt _ => asked + 1 - (intOf xt).toNat)
      case atStart => exact ⟨0, rfl, rfl, by omega, rfl⟩
      case round =>
        obtain ⟨j, rfl, rfl, hj, hw2⟩ := hrel
        subst hw2
        have hcj : cntF done j ≤ j := cntF_le done j
        by_cases hlt2 : j < asked
        · have q2 : decide ((j : Int) + 1 ≤ (asked : Int)) = true := decide_eq_true (by omega)
          obtain ⟨⟨mq, zq, hq1, hq2, hq3, hq4, hq5, hq6, hq7, _⟩, _⟩ := HOM.out
          have cD : wr.cell? ⟨pD, j + 1, none⟩ = some (.bool (done (j + 1))) := by rw [hq6.cell, arB_get _ _ (by omega)]
          have z0 : (j : Int) + 1 < 200 := by omega
          clear hq1 hq2 hq3 hq4 hq5 hq6 hq7
          cases hd : done (j + 1)
          · rw [hd] at cD
            go_wp2
            exact ⟨⟨j + 1, by rw [Int.natCast_add]; rfl, by rw [cntF_succ, hd]; rfl, by omega, by trivial⟩, by simp only [intOf]; omega⟩
          · rw [hd] at cD
            go_wp2
            exact ⟨⟨j + 1, by rw [Int.natCast_add]; rfl, by rw [cntF_succ, hd]; rfl, by omega, by trivial⟩, by simp only [intOf]; omega⟩
        · obtain rfl : j = asked := by omega
          have q2 : decide ((j : Int) + 1 ≤ (j : Int)) = false := decide_eq_false (by omega)
          go_wp2_with fail
          refine (awake7_any wr).mono ?_
          rintro e w6 ⟨rfl, b6⟩
          obtain ⟨⟨mq, zq, hq1, hq2, hq3, hq4, _⟩, _⟩ := HOM.out
          have A6 := hide (hq1.keep b6)
          have B6 := hide (below_on hq4 b6)
          clear b6 hq1 hq3 hq4
          go_wp2_with fail
          have hcnt := msCount_w w.heap.size g mq s w6 A6.out hq2
          rw [← hcn.out] at hcnt
          refine hcnt.mono ?_
          rintro e w7 ⟨rfl, rfl⟩
          go_wp2
          go_ret
          exact ⟨rfl, B6.out⟩
end Go.Proofs.Ytfpfijggmfeejaa
