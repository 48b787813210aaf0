/-
  What is proved here: the law MbapParts returns true for all frames, however their bytes are parted, and writes nothing that was there. No condition.
-/
import Derived.Test.YtjldfefebnpdgaaParts6a
import Derived.Test.YtjldfefebnpdgaaRef6
import Derived.Deep.DeepCutAuto
namespace Go.Proofs.Ytjldfefebnpdgaa
set_option linter.unusedVariables false
set_option linter.unusedSimpArgs false
open Go.RowKit

/-- The second loop's state: what was fed, what is yet to be fed. -/
structure PS (w w3 : World) (g : Nat) (X : List UInt8) (dn : List UInt8) (D : Option Addr) (ln dk : Nat) (ys : List UInt8) (A : Option Addr) (k : Nat) (T : Option Addr) (tk : Nat) (ts : List AduM) (i : Nat) (wr : World) : Prop where
  all : dn ++ ys = X
  rd : Rd w3 D ln (bv ys)
  cap : ln ≤ dk
  inb : ∀ b o, D = some ⟨b, o, none⟩ → b ≠ g
  st : StA wr g A k (lfL dn) false
  br : brB dn = false
  aT : ∀ b o, A = some ⟨b, o, none⟩ → ∀ o', T ≠ some ⟨b, o', none⟩
  told : ts.map AduM.e = toL dn
  ts : TS w3.heap.size wr T tk ts
  cnt : i ≤ dn.length
  but : But (fun i => i = g) w3 wr
  bel : Below w.heap.size w wr
theorem PS.len {w w3 : World} {g : Nat} {X dn : List UInt8} {D : Option Addr} {ln dk : Nat} {ys : List UInt8} {A : Option Addr} {k : Nat} {T : Option Addr} {tk : Nat} {ts : List AduM} {i : Nat} {wr : World} (h : PS w w3 g X dn D ln dk ys A k T tk ts i wr) : ys.length = ln := by rw [← bv_length]; exact h.rd.1

/-- One part more. -/
theorem PS.step {w w3 : World} {g : Nat} {X dn : List UInt8} {D : Option Addr} {ln dk : Nat} {ys : List UInt8} {A : Option Addr} {k : Nat} {T : Option Addr} {tk : Nat} {ts : List AduM} {i : Nat} {wr : World} (h : PS w w3 g X dn D ln dk ys A k T tk ts i wr)
    (hX : brB X = false) (hg : g < w3.heap.size) (hgw : w.heap.size ≤ g) (N : Nat) (hN1 : 1 ≤ N) (hN2 : N ≤ ln) {O : Option Addr} {ns : List AduM} {A' : Option Addr} {k' : Nat} {w4 w5 : World}
    (t4 : ns.map AduM.e = fdT (lfL dn) false (ys.take N)) (r4 : ARd w4 O ns.length ns) (n4 : ∀ r ∈ ns, NewAt wr r.A) (s4 : StA w4 g A' k' (fdL (lfL dn) false (ys.take N)) (fdB (lfL dn) false (ys.take N))) (a4 : A' = A ∨ NewAt wr A') (b4 : But (fun i => i = g) wr w4)
    {T' : Option Addr} {tk' : Nat} (o5 : w5.ownsRow w3.heap.size 24 3 (.slice T' (ts.length + ns.length) tk') (ts.length + ns.length) (avs ts ++ avs ns)) (b5 : But (fun i => ∃ o, T = some ⟨i, o, none⟩) w4 w5) (hT : T' = T ∨ NewAt w4 T') :
    PS w w3 g X (dn ++ ys.take N) (cutA D N dk) (ln - N) (dk - N) (ys.drop N) A' k' T' tk' (ts ++ ns) (i + 1) w5 := by
  have hl := h.len
  have hall : (dn ++ ys.take N) ++ ys.drop N = X := by rw [List.append_assoc, List.take_append_drop]; exact h.all
  have hbr : brB (dn ++ ys.take N) = false := br_pre _ (ys.drop N) (by rw [hall]; exact hX)
  obtain ⟨p1, p2, p3, p4⟩ := fd_parts dn (ys.take N)
  rw [h.br] at p1 p2 p3 p4
  have hw3 : w3.heap.size ≤ wr.heap.size := h.but.size
  have hz4 := b4.size
  have hTlt : ∀ b o, T = some ⟨b, o, none⟩ → w3.heap.size ≤ b ∧ b < wr.heap.size := fun b o e => ⟨ownS_new h.ts.own b o e, ownS_lt h.ts.own b o e⟩
  have aT' : ∀ b o, A' = some ⟨b, o, none⟩ → ∀ o', T ≠ some ⟨b, o', none⟩ := by
    intro b o e o' e'
    rcases a4 with rfl | a4
    · exact h.aT b o e o' e'
    · have := a4 b o e
      have := (hTlt b o' e').2
      omega
  have hns : ∀ r ∈ ns, r.is w4 ∧ 1 ≤ r.pdu.length ∧ NewAt wr r.A := by
    intro r hr
    refine ⟨r4.2 r hr, ?_, n4 r hr⟩
    have hm : r.e ∈ toL (dn ++ ys.take N) := by
      rw [p1, ← t4]
      exact List.mem_append_right _ (List.mem_map.2 ⟨r, hr, rfl⟩)
    exact (aduOk_yes (toL_ok _ _ hm)).2.2.2.2.1
  refine ⟨hall, ?_, by have := h.cap; omega, ?_, ?_, hbr, ?_, ?_, h.ts.app b4 hg hw3 hns o5 b5 hT, ?_, ?_, ?_⟩
  · rw [← bv_drop]
    exact h.rd.tail N dk hN2 h.cap
  · intro b o e
    have hin : InB D (cutA D N dk) := (InB.refl D).cut N dk
    obtain ⟨a', e1, e2⟩ := hin _ e
    obtain ⟨b', o', s'⟩ := a'
    have hb : b' = b := e2
    subst hb
    obtain ⟨b0, o0, e0, _, _⟩ := h.rd.at_ (k := 0) (by omega)
    rw [e0] at e1
    injection e1 with e1
    injection e1 with x1 x2 x3
    subst x1 x2 x3
    exact h.inb _ _ e0
  · have s5 := s4.but b5 (fun ⟨o, e⟩ => by have := (hTlt g o e).1; omega) (fun b o e ⟨o', e'⟩ => aT' b o e o' e')
    rw [← p3, ← p4, hbr] at s5
    exact s5
  · intro b o e o' e'
    rcases hT with rfl | hT
    · exact aT' b o e o' e'
    · have := hT b o' e'
      have := s4.lt b o e
      omega
  · rw [List.map_append, h.told, t4, p1]
  · rw [List.length_append, List.length_take]
    have := h.cnt
    omega
  · exact (h.but.trans b4 (fun _ _ e => e)).trans b5 (fun j hj ⟨o, e⟩ => by have := (hTlt j o e).1; omega)
  · exact But.below (But.below h.bel b4 (fun j e => by omega) (by have := h.bel.size; exact this)) b5 (fun j ⟨o, e⟩ => by have := (hTlt j o e).1; omega) (by have := h.bel.size; omega)

set_option maxHeartbeats 2000000 in
set_option maxRecDepth 100000 in
theorem parts6_walk (B : Option Addr) (len cap : Nat) (rs : List AduM) (Pa : Option Addr) (pl pk : Nat) (ps : List Int) (w : World) (hB : ARd w B len rs) (hP : Rd w Pa pl (iv ps)) :
    Calls Try.prog 5 #[.slice B len cap, .slice Pa pl pk] w fun e w' => e = .returned (.bool true) ∧ Below w.heap.size w w' := by
  have HB := hide hB
  have HP := hide hP
  have HL := hide hB.len
  clear hB hP
  by_cases h1 : 30 < len
  · have q : (30 : Int) < (len : Int) := by omega
    go_enter Try.func5, Try.ntmps5
    go_wp2
    go_ret
    exact ⟨rfl, Below.refl _ _⟩
  have q1 : ¬ (30 : Int) < (len : Int) := by omega
  go_enter Try.func5, Try.ntmps5
  go_wp2_with fail
  refine (mnew_any w).mono ?_
  rintro e w1 ⟨g, rfl, hg, s1, b1⟩
  have S1 := hide s1
  have B1 := hide b1
  have hg1 := s1.str.lt
  have hz1 := b1.size
  have hg' := hg
  clear s1 b1
  go_wp2_with fail
  go_loopw [6, 7] (fun av iv_ wr => ∃ (i m : Nat) (C : Option Addr) (kC : Nat), i ≤ len ∧ iv_ = .int .i64 (i : Int) ∧ av = .slice C m kC ∧ m ≤ 260 * i ∧ wr.ownsRow w1.heap.size 5 1 (.slice C m kC) m (bv (bytesL ((rs.map AduM.e).take i))) ∧ (∀ a ∈ (rs.map AduM.e).take i, aduOk a = true) ∧ Below w1.heap.size w1 wr) (fun _ iv_ _ => len - (intOf iv_).toNat)
  case atStart => exact ⟨0, 0, none, 0, by omega, rfl, rfl, by omega, World.ownsRow_nil _ _ _ _, by simp, Below.refl _ _⟩
  case round =>
    obtain ⟨i, m, C, kC, hi, rfl, rfl, hm, hown, hok, hbel⟩ := hrel
    have Hown := hide hown
    have Hok := hide hok
    have Hb := hide hbel
    by_cases hlt : i < len
    · obtain ⟨b, o, r, rfl, hbl, hr, c0, c1, c2, hir⟩ := ((HB.out.keep B1.out).keep hbel).at_ hlt
      have hre : (rs.map AduM.e)[i]? = some r.e := by rw [List.getElem?_map, hr]; rfl
      have q2 : (i : Int) < (len : Int) := by omega
      obtain ⟨rt, ru, rA, rk, rp⟩ := r
      simp only [AduM.is] at hir
      simp only at c0 c1 c2
      have HI := hide hir
      have Hre := hide hre
      clear hown hok hbel hir hre hr
      by_cases h3 : 300 < rp.length
      · have q3 : (300 : Int) < (rp.length : Int) := by omega
        go_wp2_with fail
        go_ret
        exact ⟨rfl, below_on B1.out Hb.out⟩
      have q3 : ¬ (300 : Int) < (rp.length : Int) := by omega
      cases hk : aduOk ⟨rt, ru, rp⟩ with
      | false =>
        have HF := hide (mframe_no rt ru rA rp.length rk rp rfl hk wr)
        have HM := hide (fun (W : World) => rmay_any rt ru rA rp.length rk rp rfl W)
        rw [hk] at HM
        clear hk
        have C0 := hide c0
        have C1 := hide c1
        have C2 := hide c2
        go_wp2_with fail
        refine HF.out.mono ?_
        rintro e w2 ⟨rfl, b2⟩
        go_wp2_with fail
        refine (awake6_any _).mono ?_
        rintro e w3 ⟨rfl, b3⟩
        have x3 := below_on b2 b3
        have d0 := (x3.cell (p := ⟨b, o + i * 3, none⟩) hbl).trans C0.out
        have d1 := (x3.cell (p := ⟨b, o + i * 3 + 1, none⟩) hbl).trans C1.out
        have d2 := (x3.cell (p := ⟨b, o + i * 3 + 2, none⟩) hbl).trans C2.out
        have X3 := hide x3
        clear x3 b2 b3
        go_wp2_with fail
        refine (HM.out _).mono ?_
        rintro e w4 ⟨rfl, b4⟩
        go_wp2_with fail
        go_ret
        exact ⟨rfl, below_on B1.out (below_on Hb.out (below_on X3.out b4))⟩
      | true =>
        obtain ⟨h1', h2', h3', h4', h5', h6'⟩ := aduOk_yes hk
        simp only at h1' h2' h3' h4' h5' h6'
        obtain ⟨tn, rfl⟩ := Int.eq_ofNat_of_zero_le h1'
        obtain ⟨un, rfl⟩ := Int.eq_ofNat_of_zero_le h3'
        have HF := hide (mframe_ok tn un rA rp.length rk rp rfl (by omega) (by omega) h5' h6' wr HI.out)
        have Hk := hide hk
        clear hk h1' h2' h3' h4'
        go_wp2_with fail
        refine HF.out.mono ?_
        rintro e w2 ⟨F, fk, rfl, o2, b2⟩
        have O2 := hide o2
        have B2 := hide b2
        clear o2 b2
        go_wp2_with (at_builtin; refine wpList_app rfl (.tmp 53) (.tmp 54) 22 rfl 5 _ _ Try.underlying22 u8_info rfl w1.heap.size C m kC _ rfl (own_keep Hown.out B2.out) F (rp.length + 7) fk _ rfl (own_rd O2.out) (bv_one _) (by unfold maxLen; omega) (by omega) (Nat.le_trans Hb.out.size B2.out.size) ?_; intro A4 c4 w4 o4 g4 b4; have O4 := hide o4; have B4 := hide ((below_on Hb.out B2.out).trans b4); clear o4 g4 b4)
        have htk : (rs.map AduM.e).take (i + 1) = (rs.map AduM.e).take i ++ [⟨tn, un, rp⟩] := by
          have hl : i < (rs.map AduM.e).length := (List.getElem?_eq_some_iff.1 Hre.out).1
          rw [List.take_succ_eq_append_getElem hl, (List.getElem?_eq_some_iff.1 Hre.out).2]
          rfl
        refine ⟨⟨i + 1, m + (rp.length + 7), A4, c4, by omega, by go_num, by go_num, by omega, ?_, ?_, B4.out⟩, by simp [intOf]; omega⟩
        · rw [htk, bytesL_app, bv_append, show bytesL [⟨tn, un, rp⟩] = aduL ⟨tn, un, rp⟩ from List.append_nil _]
          exact O4.out
        · rw [htk]
          intro a ha
          rcases List.mem_append.1 ha with ha | ha
          · exact Hok.out a ha
          · simp at ha
            subst ha
            exact Hk.out
    · obtain rfl : i = len := by omega
      have hall : (rs.map AduM.e).take i = rs.map AduM.e := List.take_of_length_le (by rw [List.length_map, HL.out]; exact Nat.le_refl _)
      rw [hall] at Hown Hok
      have q2 : ¬ (i : Int) < (i : Int) := by omega
      obtain ⟨w3, rfl⟩ : ∃ w3, w3 = wr := ⟨_, rfl⟩
      obtain ⟨X, hX⟩ : ∃ X, bytesL (rs.map AduM.e) = X := ⟨_, rfl⟩
      obtain ⟨f1, f2, f3⟩ := frames_told _ Hok.out
      rw [hX] at Hown f1 f2 f3
      have F1 := hide f1
      have F2 := hide f2
      have F3 := hide f3
      have S3 := hide (S1.out.keep Hb.out)
      have hXl : X.length = m := by rw [← bv_length]; exact Hown.out.1.trans (Nat.mul_one _)
      have hgr : g < w3.heap.size := S3.out.str.lt
      have HXl := hide hXl
      clear hown hok hbel hall hX f1 f2 f3 hXl
      go_wp2_with fail
      go_loopw [6, 10, 11] (fun av tv iv_ wr => ∃ (dn : List UInt8) (D : Option Addr) (ln dk : Nat) (ys : List UInt8) (A : Option Addr) (k : Nat) (T : Option Addr) (tk : Nat) (ts : List AduM) (j : Nat), av = .slice D ln dk ∧ tv = .slice T ts.length tk ∧ iv_ = .int .i64 (j : Int) ∧ PS w w3 g X dn D ln dk ys A k T tk ts j wr) (fun av _ _ _ => slLen av)
      case atStart => exact ⟨[], C, m, kC, X, none, 0, none, 0, [], 0, rfl, rfl, rfl, ⟨rfl, own_rd Hown.out, own_cap Hown.out, (fun b o e => by have := own_newAt Hown.out b o e; omega), S3.out, rfl, (fun b o e => by cases e), rfl, TS.nil _ _, Nat.le_refl _, But.refl _ _, below_on B1.out Hb.out⟩⟩
      case round =>
        obtain ⟨dn, D, ln, dk, ys, A, k, T, tk, ts, j, rfl, rfl, rfl, st⟩ := hrel
        have hl := st.len
        have hcnt := st.cnt
        have hcap := st.cap
        have hsum : dn.length + ln = m := by
          have := congrArg List.length st.all
          rw [List.length_append, hl] at this
          rw [this]
          exact HXl.out
        have St := hide st
        clear st
        by_cases hz : 0 < ln
        · have q4 : (0 : Int) < (ln : Int) := by omega
          have hpr := HP.out.keep St.out.bel
          have HPr := hide hpr
          have Hps : Hid (ps.length = pl) := by show _ = _; rw [← iv_length]; exact hpr.1
          clear hpr
          go_upto_region 21 with (fail)
          go_cut [81] (fun s wc => ∃ t : Bool, s = .bool t ∧ wr = wc ∧ (t = true → ∃ p : Int, j < pl ∧ ps[j]? = some p ∧ 0 < p ∧ p < (ln : Int)))
          case first =>
            by_cases hip : j < pl
            · obtain ⟨b, o, rfl, hbl, hcell⟩ := HPr.out.at_ hip
              have hip' : j < ps.length := by rw [Hps.out]; exact hip
              have c0 := hcell j _ (iv_get ps j hip')
              have g0 : ps[j]? = some ps[j] := List.getElem?_eq_getElem hip'
              have q1 : (j : Int) < (pl : Int) := by omega
              generalize ps[j] = p at *
              clear hcell
              by_cases hp : 0 < p
              · by_cases hp2 : p < (ln : Int)
                · go_wp2_with fail
                  go_meet
                  exact ⟨true, rfl, rfl, fun _ => ⟨p, hip, g0, hp, hp2⟩⟩
                · go_wp2_with fail
                  go_meet
                  exact ⟨false, rfl, rfl, fun e => by cases e⟩
              · go_wp2_with fail
                go_meet
                exact ⟨false, rfl, rfl, fun e => by cases e⟩
            · have q1 : ¬ (j : Int) < (pl : Int) := by omega
              go_wp2_with fail
              go_meet
              exact ⟨false, rfl, rfl, fun e => by cases e⟩
          case rest =>
            obtain ⟨t, rfl, rfl, ht⟩ := hcut
            go_upto_if 81 with (fail)
            go_cut [12] (fun s wc => ∃ N : Nat, s = .int .i64 (N : Int) ∧ wr = wc ∧ 1 ≤ N ∧ N ≤ ln)
            case first =>
              cases t with
              | false =>
                go_wp2_with fail
                go_meet
                exact ⟨ln, rfl, rfl, by omega, by omega⟩
              | true =>
                obtain ⟨p, hip, g0, hp, hp2⟩ := ht rfl
                obtain ⟨b, o, rfl, hbl, hcell⟩ := HPr.out.at_ hip
                have c0 := hcell j (.int .i64 p) (by rw [iv, List.getElem?_map, g0]; rfl)
                have q1 : (j : Int) < (pl : Int) := by omega
                clear hcell ht
                go_wp2_with fail
                go_meet
                exact ⟨p.toNat, by go_num, rfl, by omega, by omega⟩
            case rest =>
              obtain ⟨N, rfl, rfl, hN1, hN2⟩ := hcut
              clear ht
              have hsl1 := fun W => run_slTo (P := Try.prog) 22 5 Try.underlying22 u8_size D ln dk (N : Int) N rfl (by omega) W
              have hsl2 := fun W => run_slTail (P := Try.prog) 22 5 Try.underlying22 u8_size D ln dk (N : Int) N rfl (by omega) W
              have hDr : Rd wr D ln (bv ys) := St.out.rd.but St.out.but (fun b o e hb => St.out.inb b o e hb)
              have hle := lfL_len dn
              have HF := hide (mfeed_any g A k (lfL dn) false D N dk (ys.take N) wr St.out.st (hDr.upto N dk hN2 hcap) (by omega))
              have hnb : brE (lfL dn ++ ys.take N) = 0 := by
                have h1 := fd_parts dn (ys.take N)
                rw [St.out.br] at h1
                have h2 : brB (dn ++ ys.take N) = false := br_pre _ (ys.drop N) (by rw [List.append_assoc, List.take_append_drop, St.out.all]; exact F3.out)
                have h3 : brB (lfL dn ++ ys.take N) = false := by rw [← h2, h1.2.2.2]; rfl
                unfold brE
                rw [h3]
                rfl
              have hfe : fdE (lfL dn) false (ys.take N) = 0 := hnb
              have hj : j ≤ 8000 := by omega
              have htl : ts.length ≤ 8000 := by
                have := congrArg List.length St.out.told
                have h2 := toL_few dn
                rw [List.length_map] at this
                omega
              clear hDr hle hnb
              go_wp2_with fail
              refine HF.out.mono ?_
              rintro e w4 ⟨O, ok, ns, A', k', rfl, t4, r4, ⟨n4, m4⟩, s4, a4, b4⟩
              rw [hfe]
              have hnl : ns.length ≤ 10000 := by
                have h2 := toL_few (lfL dn ++ ys.take N)
                have h3 : ns.map AduM.e = toL (lfL dn ++ ys.take N) := t4
                have h4 := congrArg List.length h3
                rw [List.length_map] at h4
                rw [List.length_append, List.length_take] at h2
                have h5 := lfL_len dn
                omega
              have HT := hide (St.out.ts.but b4 hgr)
              have HS := hide (fun T' tk' w5 o5 b5 hT => St.out.step (T' := T') (tk' := tk') (w5 := w5) F3.out hgr hg' N hN1 hN2 t4 r4 m4 s4 a4 b4 o5 b5 hT)
              have HR := hide r4
              have Hz4 : Hid (w3.heap.size ≤ w4.heap.size) := Nat.le_trans St.out.but.size b4.size
              clear t4 r4 n4 m4 s4 a4 b4
              go_wp2_with (at_builtin; refine wpList_appS rfl (.tmp 96) (.tmp 97) 35 rfl 24 _ 3 _ Try.underlying35 adu_info rfl (by omega) w3.heap.size T ts.length tk (avs ts) rfl HT.out.own O ns.length ok (avs ns) rfl HR.out.1 (avs_one _) (by unfold maxLen; omega) (by omega) Hz4.out ?_; intro T' tk' w5 o5 b5 hT)
              exact ⟨⟨_, _, _, _, _, _, _, _, _, _, j + 1, rfl, by rw [List.length_append], by go_num, HS.out T' tk' w5 o5 b5 hT⟩, by simp only [slLen]; omega⟩
        · obtain rfl : ln = 0 := by omega
          have q4 : ¬ (0 : Int) < ((0 : Nat) : Int) := by omega
          have hy : ys = [] := List.eq_nil_of_length_eq_zero hl
          have hdn : dn = X := by
            have := St.out.all
            rw [hy, List.append_nil] at this
            exact this
          subst hdn
          have hte : ts.map AduM.e = rs.map AduM.e := by rw [St.out.told, F1.out]
          have hst := St.out.st
          rw [F2.out] at hst
          have htl : ts.length ≤ 1000000 := by
            have := congrArg List.length hte
            rw [List.length_map, List.length_map, HL.out] at this
            omega
          have HE := hide hte
          have HS := hide hst
          clear hst hte hy
          go_wp2_with fail
          refine (awake6_any _).mono ?_
          rintro e w6 ⟨rfl, b6⟩
          have B6 := hide b6
          clear b6
          go_wp2_with fail
          refine (same6_yes T B ts.length i tk cap ts rs w6 (St.out.ts.ard B6.out) (HB.out.keep (below_on St.out.bel B6.out)) htl HE.out).mono ?_
          rintro e w7 ⟨rfl, b7⟩
          have B7 := hide (below_on B6.out b7)
          clear b7
          go_wp2_with fail
          refine (mleft_any g A k [] false w7 (HS.out.keep B7.out)).mono ?_
          rintro e w8 ⟨rfl, rfl⟩
          go_wp2_with fail
          go_ret
          exact ⟨rfl, below_on St.out.bel B7.out⟩

end Go.Proofs.Ytjldfefebnpdgaa
