/-
  What is proved here: the law StreamParts returns true for all packets whose parts are each of at most 2^20, however their bytes are parted, and writes nothing that was there.
-/
import Derived.Test.YtkgidimaiedocaaParts11
import Derived.Test.YtkgidimaiedocaaPk10
import Derived.Deep.DeepCutAuto
namespace Go.Proofs.Ytkgidimaiedocaa
set_option linter.unusedVariables false
set_option linter.unusedSimpArgs false
open Go.RowKit

/-- A packet in a row is read, where it is asked for. -/
theorem wpList_loadRg {P : Program} {w : World} {ops : Array Oper} {rest : List Oper} {o : Oper} {a : Act} {Q : Exit → Act → World → Prop} (hw : Region.wanted o (yielded ops a.tmps) = true) (ty : TypeId) (x : Operand) (ho : o.op = .load ty x) (b i : Nat) (r : PkRow)
    (hx : a.eval x = .pointer (some ⟨b, i, none⟩)) (hB : w.rangeAt b i r.vs) {d : TypeDesc} (hu : P.underlying ty = some d) (hd : d.isRow = true) (hi : (P.info? ty).map (·.size) = some 18)
    (h : wpList P ops Q rest (a.put o.dst (pkA r.p r.C r.nc r.kc r.S r.ns r.ks)) w) : wpList P ops Q (o :: rest) a w := by
  refine wpList_step fun K hK => ?_
  rw [if_pos hw]
  have hr := exec_loadR (P := P) (w := w) (o := o) (a := a) ty x ho b i r hx hB hu hd hi
  unfold Oper.wp
  rw [hr]
  exact hK _ _ h

set_option maxHeartbeats 4000000 in
set_option maxRecDepth 100000 in
theorem parts11_walk (B : Option Addr) (cap : Nat) (rs : List PkRow) (Pa : Option Addr) (pl pk : Nat) (ps : List Int) (w : World) (hB : PRd w B rs) (hU : ∀ r ∈ rs, PkU r.p) (hP : Rd w Pa pl (iv ps)) :
    Calls Try.prog 3 #[.slice B rs.length cap, .slice Pa pl pk] w fun e w' => e = .returned (.bool true) ∧ Below w.heap.size w w' := by
  have HB := hide hB
  have HP := hide hP
  have HU := hide hU
  clear hB hP hU
  by_cases h1 : 20 < rs.length
  · have q : (20 : Int) < (rs.length : Int) := by omega
    go_enter Try.func3, Try.ntmps3
    go_wp2
    go_ret
    exact ⟨rfl, Below.refl _ _⟩
  have q1 : ¬ (20 : Int) < (rs.length : Int) := by omega
  obtain ⟨len, hlen⟩ : ∃ len, rs.length = len := ⟨_, rfl⟩
  rw [hlen] at h1 q1 ⊢
  have HL := hide hlen
  clear hlen
  obtain ⟨most, hmost⟩ : ∃ most, 268435460 = most := ⟨_, rfl⟩
  have hmo : most ≤ 268435460 := by omega
  have hmo2 : 2000 ≤ most := by omega
  have PN : Hid (∀ W, Calls Try.prog 9 #[.int .i64 268435460] W fun e w' => ∃ g, e = .returned (.tuple #[.pointer (some ⟨g, 0, none⟩), .int .i64 0]) ∧ W.heap.size ≤ g ∧ StA11 w' g most none 0 [] none ∧ Below W.heap.size W w') := hide (by intro W; rw [← hmost]; exact new11_any 268435460 W (by omega))
  clear hmost
  go_enter Try.func3, Try.ntmps3
  go_wp2_with fail
  refine (PN.out w).mono ?_
  rintro e w1 ⟨g, rfl, hg, s1, b1⟩
  have S1 := hide s1
  have B1 := hide b1
  have hg1 := s1.str.lt
  have hz1 := b1.size
  have hg' := hg
  clear s1 b1 PN
  go_wp2_with fail
  go_loopw [7, 8] (fun av iv_ wr => ∃ (i m : Nat) (C : Option Addr) (kC : Nat), i ≤ len ∧ iv_ = .int .i64 (i : Int) ∧ av = .slice C m kC ∧ m ≤ 2000 * i ∧ wr.ownsRow w1.heap.size 5 1 (.slice C m kC) m (bv (lysL ((rs.map PkRow.p).take i))) ∧ (∀ p ∈ (rs.map PkRow.p).take i, mayP p = true ∧ (layP p).length ≤ 2000) ∧ Below w1.heap.size w1 wr) (fun _ iv_ _ => len - (intOf iv_).toNat)
  case atStart => exact ⟨0, 0, none, 0, by omega, rfl, rfl, by omega, World.ownsRow_nil _ _ _ _, by simp, Below.refl _ _⟩
  case round =>
    obtain ⟨i, m, C, kC, hi, rfl, rfl, hm, hown, hok, hbel⟩ := hrel
    have Hown := hide hown
    have Hok := hide hok
    have Hb := hide hbel
    by_cases hlt : i < len
    · have hR := (HB.out.keep B1.out).keep hbel
      have hlt' : i < rs.length := by rw [HL.out]; exact hlt
      obtain ⟨b, o, rfl, hbl, hc⟩ := hR.at_ i hlt'
      have hmem := List.getElem_mem hlt'
      have hre : (rs.map PkRow.p)[i]? = some rs[i].p := by rw [List.getElem?_map, List.getElem?_eq_getElem hlt']; rfl
      have hrange := hc i hlt'
      have hM := hR.2 _ hmem
      have hu := HU.out _ hmem
      generalize rs[i] = r at *
      have PB := bytes_any r.p r.C r.nc r.kc r.S r.ns r.ks wr hM hu
      have HRg : Hid (∀ W, Below wr.heap.size wr W → W.rangeAt b (o + i * 18) r.vs) := hide (fun W bb j v hv => (bb.cell (p := ⟨b, o + i * 18 + j, none⟩) hbl).trans (hrange j v hv))
      have HM := hide hM
      have Hu := hide hu
      have Hre := hide hre
      have q2 : (i : Int) < (len : Int) := by omega
      clear hown hok hbel hre hrange hM hu hc hR hmem hlt'
      cases hmay : mayP r.p with
      | false =>
        unfold ByPost at PB
        rw [hmay] at PB
        simp only [Bool.false_eq_true, if_false] at PB
        have PM := fun W (bb : Below wr.heap.size wr W) => may_any r.p r.C r.nc r.kc r.S r.ns r.ks W (HM.out.keep bb) Hu.out
        rw [hmay] at PM
        clear hmay
        go_wp2_with (refine wpList_loadR rfl 35 (.tmp 38) rfl b (o + i * 18) r rfl (HRg.out _ (Below.refl _ _)) Try.underlying35 rfl (by kernel_rfl) ?_)
        refine PB.mono ?_
        rintro e w2 ⟨rfl, b2⟩
        have B2 := hide b2
        clear PB b2
        go_wp2_with fail
        refine (awake11_any _).mono ?_
        rintro e w3 ⟨rfl, b3⟩
        have B3 := hide (below_on B2.out b3)
        clear b3
        go_upto_region 14 with (refine wpList_loadRg (by rfl) 35 (.tmp 52) rfl b (o + i * 18) r rfl (HRg.out _ B3.out) Try.underlying35 rfl (by kernel_rfl) ?_)
        refine (PM _ B3.out).mono ?_
        rintro e w4 ⟨rfl, b4⟩
        have B4 := hide (below_on B3.out b4)
        clear b4 PM
        go_wp2_with fail
        go_ret
        exact ⟨rfl, below_on B1.out (below_on Hb.out B4.out)⟩
      | true =>
        unfold ByPost at PB
        simp only [if_pos hmay] at PB
        obtain ⟨N7, hN7⟩ : ∃ N7, (layP r.p).length = N7 := ⟨_, rfl⟩
        obtain ⟨AL, hAL⟩ : ∃ AL, layP r.p = AL := ⟨_, rfl⟩
        rw [hN7, hAL] at PB
        have HA := hide hAL
        have HN := hide hN7
        have Hmay := hide hmay
        clear hAL hmay
        by_cases hl : 2000 < N7
        · have q3 : (2000 : Int) < (N7 : Int) := by omega
          clear hN7
          go_wp2_with (refine wpList_loadR rfl 35 (.tmp 38) rfl b (o + i * 18) r rfl (HRg.out _ (Below.refl _ _)) Try.underlying35 rfl (by kernel_rfl) ?_)
          refine PB.mono ?_
          rintro e w2 ⟨F, fk, rfl, o2, b2⟩
          have B2 := hide b2
          clear PB b2 o2
          go_wp2_with fail
          go_ret
          exact ⟨rfl, below_on B1.out (below_on Hb.out B2.out)⟩
        · have q3 : ¬ (2000 : Int) < (N7 : Int) := by omega
          clear hN7
          go_wp2_with (refine wpList_loadR rfl 35 (.tmp 38) rfl b (o + i * 18) r rfl (HRg.out _ (Below.refl _ _)) Try.underlying35 rfl (by kernel_rfl) ?_)
          refine PB.mono ?_
          rintro e w2 ⟨F, fk, rfl, o2, b2⟩
          have O2 := hide o2
          have B2 := hide b2
          clear PB b2 o2
          go_wp2_with (at_builtin; refine wpList_app rfl (.tmp 57) (.tmp 58) 28 rfl 5 _ _ Try.underlying28 u8_info rfl w1.heap.size C m kC _ rfl (own_keep Hown.out B2.out) F N7 fk _ rfl (own_rd O2.out) (bv_one _) (by unfold maxLen; omega) (by omega) (Nat.le_trans Hb.out.size B2.out.size) ?_; intro A4 c4 w4 o4 g4 b4; have O4 := hide o4; have B4 := hide ((below_on Hb.out B2.out).trans b4); clear o4 g4 b4)
          have htk : (rs.map PkRow.p).take (i + 1) = (rs.map PkRow.p).take i ++ [r.p] := by
            have hl : i < (rs.map PkRow.p).length := (List.getElem?_eq_some_iff.1 Hre.out).1
            rw [List.take_succ_eq_append_getElem hl, (List.getElem?_eq_some_iff.1 Hre.out).2]
          refine ⟨⟨i + 1, m + N7, A4, c4, by omega, by go_num, by go_num, by omega, ?_, ?_, B4.out⟩, by simp [intOf]; omega⟩
          · rw [htk, lysL_app, bv_append, show lysL [r.p] = layP r.p from List.append_nil _, HA.out]
            exact O4.out
          · rw [htk]
            intro a ha
            rcases List.mem_append.1 ha with ha | ha
            · exact Hok.out a ha
            · simp at ha
              subst ha
              exact ⟨Hmay.out, by rw [HN.out]; omega⟩
    · obtain rfl : i = len := by omega
      have hall : (rs.map PkRow.p).take i = rs.map PkRow.p := List.take_of_length_le (by rw [List.length_map, HL.out]; exact Nat.le_refl _)
      rw [hall] at Hown Hok
      have q2 : ¬ (i : Int) < (i : Int) := by omega
      obtain ⟨w3, rfl⟩ : ∃ w3, w3 = wr := ⟨_, rfl⟩
      obtain ⟨X, hX⟩ : ∃ X, lysL (rs.map PkRow.p) = X := ⟨_, rfl⟩
      obtain ⟨f1, f2, f3⟩ := pkts_told most _ (fun p hp => ⟨(Hok.out p hp).1, Nat.le_trans (Hok.out p hp).2 hmo2⟩)
      rw [hX] at Hown f1 f2 f3
      have F1 := hide f1
      have F2 := hide f2
      have F3 := hide f3
      have S3 := hide (S1.out.keep Hb.out)
      have hXl : X.length = m := by rw [← bv_length]; exact Hown.out.1.trans (Nat.mul_one _)
      have hgr : g < w3.heap.size := S3.out.str.lt
      have HXl := hide hXl
      clear hown hok hbel hall hX f1 f2 f3 hXl
      go_wp2_with fail
      go_loopw [7, 11, 12] (fun av tv iv_ wr => ∃ (dn : List UInt8) (D : Option Addr) (ln dk : Nat) (ys : List UInt8) (A : Option Addr) (k : Nat) (T : Option Addr) (tk : Nat) (ts : List PkRow) (j : Nat), av = .slice D ln dk ∧ tv = .slice T ts.length tk ∧ iv_ = .int .i64 (j : Int) ∧ PS11 w w3 g most X dn D ln dk ys A k T tk ts j wr) (fun av _ _ _ => slLen11 av)
      case atStart => exact ⟨[], C, m, kC, X, none, 0, none, 0, [], 0, rfl, rfl, rfl, ⟨rfl, own_rd Hown.out, own_cap Hown.out, (fun b o e => by have := own_newAt Hown.out b o e; omega), S3.out, (fun i ⟨o, e⟩ => by cases e), rfl, Off.none_ _, rfl, World.ownsRow_nil _ _ _ _, by simp, Nat.le_refl _, But.refl _ _, below_on B1.out Hb.out⟩⟩
      case round =>
        obtain ⟨dn, D, ln, dk, ys, A, k, T, tk, ts, j, rfl, rfl, rfl, st⟩ := hrel
        have hl := st.len
        have hcnt := st.cnt
        have hcap := st.cap
        have hsum : dn.length + ln = m := by
          have := congrArg List.length st.all
          rw [List.length_append, hl] at this
          rw [this]
          exact HXl.out
        have St := hide st
        clear st
        by_cases hz : 0 < ln
        · have q4 : (0 : Int) < (ln : Int) := by omega
          have hpr := HP.out.keep St.out.bel
          have HPr := hide hpr
          have Hps : Hid (ps.length = pl) := by show _ = _; rw [← iv_length]; exact hpr.1
          clear hpr
          go_upto_region 21 with (fail)
          go_cut [85] (fun s wc => ∃ t : Bool, s = .bool t ∧ wr = wc ∧ (t = true → ∃ p : Int, j < pl ∧ ps[j]? = some p ∧ 0 < p ∧ p < (ln : Int)))
          case first =>
            by_cases hip : j < pl
            · obtain ⟨b, o, rfl, hbl, hcell⟩ := HPr.out.at_ hip
              have hip' : j < ps.length := by rw [Hps.out]; exact hip
              have c0 := hcell j _ (iv_get ps j hip')
              have g0 : ps[j]? = some ps[j] := List.getElem?_eq_getElem hip'
              have q1 : (j : Int) < (pl : Int) := by omega
              generalize ps[j] = p at *
              clear hcell
              by_cases hp : 0 < p
              · by_cases hp2 : p < (ln : Int)
                · go_wp2_with fail
                  go_meet
                  exact ⟨true, rfl, rfl, fun _ => ⟨p, hip, g0, hp, hp2⟩⟩
                · go_wp2_with fail
                  go_meet
                  exact ⟨false, rfl, rfl, fun e => by cases e⟩
              · go_wp2_with fail
                go_meet
                exact ⟨false, rfl, rfl, fun e => by cases e⟩
            · have q1 : ¬ (j : Int) < (pl : Int) := by omega
              go_wp2_with fail
              go_meet
              exact ⟨false, rfl, rfl, fun e => by cases e⟩
          case rest =>
            obtain ⟨t, rfl, rfl, ht⟩ := hcut
            go_upto_if 85 with (fail)
            go_cut [13] (fun s wc => ∃ N : Nat, s = .int .i64 (N : Int) ∧ wr = wc ∧ 1 ≤ N ∧ N ≤ ln)
            case first =>
              cases t with
              | false =>
                go_wp2_with fail
                go_meet
                exact ⟨ln, rfl, rfl, by omega, by omega⟩
              | true =>
                obtain ⟨p, hip, g0, hp, hp2⟩ := ht rfl
                obtain ⟨b, o, rfl, hbl, hcell⟩ := HPr.out.at_ hip
                have c0 := hcell j (.int .i64 p) (by rw [iv, List.getElem?_map, g0]; rfl)
                have q1 : (j : Int) < (pl : Int) := by omega
                clear hcell ht
                go_wp2_with fail
                go_meet
                exact ⟨p.toNat, by go_num, rfl, by omega, by omega⟩
            case rest =>
              obtain ⟨N, rfl, rfl, hN1, hN2⟩ := hcut
              clear ht
              have hsl1 := fun W => run_slTo (P := Try.prog) 28 5 Try.underlying28 u8_size D ln dk (N : Int) N rfl (by omega) W
              have hsl2 := fun W => run_slTail (P := Try.prog) 28 5 Try.underlying28 u8_size D ln dk (N : Int) N rfl (by omega) W
              have hDr : Rd wr D ln (bv ys) := St.out.rd.but St.out.but (fun b o e hb => St.out.inb b o e hb)
              have hle := lfP_len most dn
              have HF := hide (feed11_any g most hmo A k (lfP most dn) none D N dk (ys.take N) wr St.out.st (hDr.upto N dk hN2 hcap) (by omega))
              have hfe := St.out.err F3.out N
              have hj : j ≤ 40000 := by omega
              have htl : ts.length ≤ 40000 := by
                have := congrArg List.length St.out.told
                rw [List.length_map] at this
                omega
              clear hDr
              go_wp2_with fail
              refine HF.out.mono ?_
              rintro e w4 ⟨O, ok, ns, A', k', rfl, t4, r4, n4, m4, s4, a4, f4, l4, b4⟩
              rw [hfe]
              have hnl : ns.length ≤ 40000 := by
                have h2 := lfP_len most (lfP most dn ++ ys.take N)
                have h3 : ns.map PkRow.p = toP most (lfP most dn ++ ys.take N) := t4
                have h4 := congrArg List.length h3
                rw [List.length_map] at h4
                rw [List.length_append, List.length_take] at h2
                omega
              have HT := hide (St.out.own4 hgr b4)
              have HS := hide (fun T' tk' w5 o5 b5 hT => St.out.step (T' := T') (tk' := tk') (w5 := w5) F3.out hgr hg' N hN1 hN2 t4 r4 m4 s4 a4 l4 b4 o5 b5 hT)
              have HR := hide r4
              have Hz4 : Hid (w3.heap.size ≤ w4.heap.size) := Nat.le_trans St.out.but.size b4.size
              clear t4 r4 n4 m4 s4 a4 b4 f4 l4 hle
              go_wp2_with (at_builtin; refine wpList_appS rfl (.tmp 100) (.tmp 101) 22 rfl 35 _ 18 200 Try.underlying22 pkt_info rfl (by omega) w3.heap.size T ts.length tk (prVs ts) rfl HT.out O ns.length ok (prVs ns) rfl HR.out.1 (prVs_one _) (by unfold maxLen; omega) (by omega) Hz4.out ?_; intro T' tk' w5 o5 b5 hT)
              exact ⟨⟨_, _, _, _, _, _, _, _, _, _, j + 1, rfl, by rw [List.length_append], by go_num, HS.out T' tk' w5 o5 b5 hT⟩, by simp only [slLen11]; omega⟩
        · obtain rfl : ln = 0 := by omega
          have q4 : ¬ (0 : Int) < ((0 : Nat) : Int) := by omega
          have hy : ys = [] := List.eq_nil_of_length_eq_zero hl
          have hdn : dn = X := by
            have := St.out.all
            rw [hy, List.append_nil] at this
            exact this
          subst hdn
          have hte : ts.map PkRow.p = rs.map PkRow.p := by rw [St.out.told, F1.out]
          have hst := St.out.st
          rw [F2.out] at hst
          have htl : ts.length = i := by
            have := congrArg List.length hte
            rw [List.length_map, List.length_map, HL.out] at this
            exact this
          have TS1 := hide (show ∀ r ∈ rs, PkT r.p from fun r hr => by
            have hq := Hok.out r.p (List.mem_map_of_mem hr)
            have hs := may_short hq.1 (by omega)
            exact ⟨hs.2.2.2.2.2.1, hs.2.2.2.2.2.2.1⟩)
          have TS2 := hide (show ∀ r ∈ ts, PkT r.p from fun r hr => by
            have hm : r.p ∈ rs.map PkRow.p := by rw [← hte]; exact List.mem_map_of_mem hr
            have hq := Hok.out r.p hm
            have hs := may_short hq.1 (by omega)
            exact ⟨hs.2.2.2.2.2.1, hs.2.2.2.2.2.2.1⟩)
          have PR : Hid (∀ W, Below wr.heap.size wr W → Calls Try.prog 14 #[.slice T ts.length tk, .slice B i cap] W fun e w' => e = .returned (.bool true) ∧ Below W.heap.size W w') := hide (fun W bb => by
            have := rows11_any T B tk cap ts rs W (St.out.prd bb) (HB.out.keep (below_on St.out.bel bb)) TS2.out TS1.out (by omega) (by rw [HL.out]; omega)
            rw [decide_eq_true hte, HL.out] at this
            exact this)
          have HS := hide hst
          clear hst hte hy TS1 TS2 htl
          go_wp2_with fail
          refine (awake11_any _).mono ?_
          rintro e w6 ⟨rfl, b6⟩
          have B6 := hide b6
          clear b6
          go_wp2_with fail
          refine (PR.out _ B6.out).mono ?_
          rintro e w7 ⟨rfl, b7⟩
          have B7 := hide (below_on B6.out b7)
          clear b7
          go_wp2_with fail
          refine (left11_any g most A k [] none w7 (HS.out.keep B7.out)).mono ?_
          rintro e w8 ⟨rfl, rfl⟩
          go_wp2_with fail
          go_ret
          exact ⟨rfl, below_on St.out.bel B7.out⟩

end Go.Proofs.Ytkgidimaiedocaa
