/-
  What is proved here: the law SubsDoes returns true for every script, and writes nothing that was there. No condition.
-/
import Derived.Test.YtfjafpbmgbnllaaGreatSp13
import Derived.Test.YtfjafpbmgbnllaaGreatTr1
import Derived.Test.YtfjafpbmgbnllaaGreatOpen13
namespace Go.Proofs.YtfjafpbmgbnllaaGreat
set_option linter.unusedVariables false
set_option linter.unusedSimpArgs false
open Go.RowKit

/-- What few says. -/
theorem fewD_yes {l : List OpS} (h : fewB l = true) : l.length ≤ 100 ∧ ∀ o ∈ l, o.f.length ≤ 100 ∧ o.c.length ≤ 100 := by
  unfold fewB at h
  rw [Bool.and_eq_true, List.all_eq_true] at h
  refine ⟨of_decide_eq_true h.1, fun o ho => ?_⟩
  have := h.2 o ho
  rw [Bool.and_eq_true] at this
  exact ⟨of_decide_eq_true this.1, of_decide_eq_true this.2⟩
theorem filterL_short {f : List UInt8} (h : filterL f = true) : f.length ≤ 65535 := by
  unfold filterL textL ptsU at h
  by_cases hl : f.length ≤ 65535
  · exact hl
  · rw [if_neg hl] at h
    simp at h
theorem okE_find {es : List SE} (h : okE es) : ∀ e ∈ es, filterL e.f = true ∧ e.f.length ≤ 65535 := fun e he => ⟨(h e he).1, filterL_short (h e he).1⟩
theorem ofE_many (es : List SE) (c : List UInt8) : (ofE es c).length ≤ es.length := by
  unfold ofE
  rw [List.length_map]
  exact List.length_filter_le _ _


set_option maxHeartbeats 16000000 in
set_option maxRecDepth 100000 in
theorem does13_walk (A : Option Addr) (l : List OpS) (k : Nat) (w : World) (hs : ScrS w A l) :
    Calls Tryz.prog 3 #[.slice A l.length k] w fun e w' => e = .returned (.bool true) ∧ Below w.heap.size w w' := by
  have F := hide (few13_any A k l w hs)
  have HS := hide hs
  clear hs
  cases hfw : fewB l with
  | false =>
    rw [hfw] at F
    clear hfw
    go_enter Tryz.func3, Tryz.ntmps3
    go_wp2_with fail
    refine F.out.mono ?_
    rintro e w1 ⟨rfl, rfl⟩
    go_wp2_with fail
    go_ret
    exact ⟨rfl, Below.refl _ _⟩
  | true =>
  rw [hfw] at F
  obtain ⟨hlen, hall⟩ := fewD_yes hfw
  have HALL := hide hall
  clear hfw hall
  go_enter Tryz.func3, Tryz.ntmps3
  go_wp2_with fail
  refine F.out.mono ?_
  rintro e w1 ⟨rfl, rfl⟩
  obtain ⟨n, hn⟩ : ∃ n, l.length = n := ⟨_, rfl⟩
  have HN := hide hn
  rw [hn] at hlen ⊢
  clear hn F
  go_wp2_with fail
  refine (xNew w w (Below.refl _ _)).mono ?_
  rintro e w3 ⟨B, rfl, h3⟩
  have H3 := hide h3
  clear h3
  go_upto_region 7 with fail
  generalize hG : w3.alloc _ = G
  have h4 := Xr.start H3.out
  have h5 : w3.alloc (.cells #[.slice none 0 0] 29) = G := by rw [← hG]
  rw [h5] at h4
  generalize w3.heap.size = g at *
  have H4 := hide h4
  clear h4 h5 hG H3
  go_wp2_with fail
  go_loopw [5] (fun x wr => ∃ i es A' k', x = .int .i64 ((i : Nat) : Int) ∧ i ≤ n ∧ Xr nilT w wr B es i g es A' k') (fun x _ => n - (intOf x).toNat)
  case atStart => exact ⟨0, [], none, 0, rfl, by omega, H4.out⟩
  case round =>
    obtain ⟨i, es, A', k', rfl, hi, hX⟩ := hrel
    have HX := hide hX
    clear hX H4
    by_cases hlt : i < n
    · have q : (i : Int) < (n : Int) := by omega
      have hil : i < l.length := by rw [HN.out]; exact hlt
      obtain ⟨b, o, rfl, hbl, hc⟩ := HS.out.at_ i hil
      have hr := hc i hil
      have hm := HALL.out _ (List.getElem_mem hil)
      have hcc : ∀ j v, (l[i]).vs[j]? = some v → wr.cell? ⟨b, o + i * 4 + j, none⟩ = some v := fun j v hv => (HX.out.bel.cell (p := ⟨b, o + i * 4 + j, none⟩) hbl).trans (hr j v hv)
      clear hc hr
      generalize l[i] = p at *
      obtain ⟨call, c, f, q4⟩ := p
      simp only at hm
      have c0 : wr.cell? ⟨b, o + i * 4, none⟩ = some (.int .i64 call) := hcc 0 _ rfl
      have c1 : wr.cell? ⟨b, o + i * 4 + 1, none⟩ = some (.string (str c)) := hcc 1 _ rfl
      have c2 : wr.cell? ⟨b, o + i * 4 + 2, none⟩ = some (.string (str f)) := hcc 2 _ rfl
      have c3 : wr.cell? ⟨b, o + i * 4 + 3, none⟩ = some (.int .i64 q4) := hcc 3 _ rfl
      clear hcc
      go_upto_region 11 with fail
      generalize hU : wr.alloc _ = U
      obtain ⟨zU, bU⟩ := box1 wr 31 (OpS.vs ⟨call, c, f, q4⟩) U hU.symm
      have hUs : U.heap.size = wr.heap.size + 1 := by rw [← hU]; simp
      obtain ⟨g1, hg1⟩ : ∃ g1, wr.heap.size = g1 := ⟨_, rfl⟩
      have HBU := hide bU
      rw [hg1] at zU hUs ⊢
      have d2 : U.cell? ⟨g1, 2, none⟩ = some (.string (str f)) := zU.cell 2
      have d3 : U.cell? ⟨g1, 3, none⟩ = some (.int .i64 q4) := zU.cell 3
      have HG1 := hide hg1
      have HUS := hide hUs
      clear c0 c1 c2 c3 hU bU hg1 hUs
      go_upto_region 12 with fail
      generalize hV : U.alloc _ = V
      obtain ⟨zV, bV⟩ := box1 U 33 [.string (str f), .int .i64 q4] V hV.symm
      have hVs : V.heap.size = U.heap.size + 1 := by rw [← hV]; simp
      have hUs := HUS.out
      obtain ⟨g2, hg2⟩ : ∃ g2, U.heap.size = g2 := ⟨_, rfl⟩
      have HXV := hide ((HX.out.past (fun i => i = g1 ∨ i = g2) (fun i e => by rw [HG1.out]; rcases e with rfl | rfl <;> omega)).keep (below_on HBU.out bV))
      have HT := hide (fun (i : Nat) (e : i = g1 ∨ i = g2) => show i < V.heap.size by rcases e with rfl | rfl <;> omega)
      have ZU := hide (zU.keep bV)
      rw [hg2] at zV ⊢
      have ZV := hide zV
      have HEL := hide (HX.out.left.len)
      clear hV bV zV zU d2 d3 HX HBU HG1 hUs hVs hg2
      have d0 : V.cell? ⟨g1, 0, none⟩ = some (.int .i64 call) := ZU.out.cell 0
      have d1 : V.cell? ⟨g1, 1, none⟩ = some (.string (str c)) := ZU.out.cell 1
      have d2 : V.cell? ⟨g1, 2, none⟩ = some (.string (str f)) := ZU.out.cell 2
      by_cases k0 : call = 0
      · have q0 : (call == 0) = true := by simpa using k0
        have v0 : V.cell? ⟨g2, 0, none⟩ = some (.string (str f)) := ZV.out.cell 0
        have v1 : V.cell? ⟨g2, 1, none⟩ = some (.int .i64 q4) := ZV.out.cell 1
        go_wp2_with fail
        refine (rtAdd HXV.out HT.out c f q4 (by omega) (by omega) (by omega)).mono ?_
        rintro e W ⟨rfl, h2, b2⟩
        have H2 := hide h2
        have ZU2 := hide (ZU.out.but b2 (fun h => h (Or.inl rfl)))
        have ZV2 := hide (ZV.out.but b2 (fun h => h (Or.inr rfl)))
        have HT2 := hide (fun (i : Nat) (e : i = g1 ∨ i = g2) => Nat.lt_of_lt_of_le (HT.out i e) b2.size)
        clear h2 b2 d0 d1 d2 v0 v1
        have d1 : W.cell? ⟨g1, 1, none⟩ = some (.string (str c)) := ZU2.out.cell 1
        have v0 : W.cell? ⟨g2, 0, none⟩ = some (.string (str f)) := ZV2.out.cell 0
        have v1 : W.cell? ⟨g2, 1, none⟩ = some (.int .i64 q4) := ZV2.out.cell 1
        go_wp2_with fail
        refine (rtAdd2 H2.out HT2.out c f q4 (by omega) (by have := HEL.out; omega)).mono ?_
        rintro e W2 ⟨rfl, A2, k2, h3, b3⟩
        have HF := hide h3
        have ZU3 := hide (ZU2.out.but b3 (fun h => h (Or.inl rfl)))
        generalize addB es c f q4 = X1 at *
        generalize addErr f q4 = X2 at *
        have q5 : (X1 != X1) = false := by simp
        have q6 : (X2 != X2) = false := by simp
        clear h3 b3 d1 v0 v1 k0
        have hes := HF.out.left.len
        have HES := hide hes
        have z1 := ZU3.out.cell 1
        have d1 : W2.cell? ⟨g1, 1, none⟩ = some (.string (str c)) := z1
        clear hes z1
        go_wp2_with fail
        refine (xOf HF.out.left c (by omega) (by omega)).mono ?_
        rintro e V1 ⟨O1, k1, rfl, r1, bf1⟩
        have HF1 := hide (HF.out.keep bf1)
        have R1 := hide r1
        have e1 : V1.cell? ⟨g1, 1, none⟩ = some (.string (str c)) := (ZU3.out.keep bf1).cell 1
        have OF := rOf_any g w.heap.size _ _ _ c V1 HF1.out.doc (by have := HES.out; omega)
        have HOF := hide OF
        have HML := hide (Nat.le_trans (ofE_many (addV es c f q4) c) HES.out)
        obtain ⟨ol, hol⟩ : ∃ ol, ofE (addV es c f q4) c = ol := ⟨_, rfl⟩
        rw [hol] at R1 HOF HML ⊢
        obtain ⟨mo, hmo⟩ : ∃ mo, ol.length = mo := ⟨_, rfl⟩
        have HMO := hide hmo
        rw [hmo] at HML HOF ⊢
        clear r1 bf1 d1 OF HF hmo hol
        go_wp2_with fail
        refine HOF.out.mono ?_
        rintro e V2 ⟨O2, k2, rfl, own2, bf2⟩
        have HF2 := hide (HF1.out.keep bf2)
        have HSB := hide (subs13_any O1 O2 k1 k2 ol ol V2 (R1.out.keep bf2) (by rw [HMO.out]; exact ownS_rd own2) (by rw [HMO.out]; have := HML.out; omega) (by rw [HMO.out]; have := HML.out; omega))
        rw [HMO.out, decide_eq_true rfl] at HSB
        clear own2 bf2 e1 HOF HF1 R1
        go_wp2_with fail
        refine HSB.out.mono ?_
        rintro e V3 ⟨rfl, bf3⟩
        have HF3 := hide (HF2.out.keep bf3)
        clear bf3 HF2
        go_wp2_with fail
        exact ⟨⟨i + 1, _, _, _, by go_num, by omega, HF3.out.plain.more (by omega)⟩, by simp [intOf]; omega⟩
      · have q0 : (call == 0) = false := by simpa using k0
        by_cases k1 : call = 1
        · have q1 : (call == 1) = true := by simpa using k1
          go_wp2_with fail
          refine (rtDrop HXV.out HT.out c f (by omega) (by omega) (by omega)).mono ?_
          rintro e W ⟨rfl, h2, b2⟩
          have H2 := hide h2
          have ZU2 := hide (ZU.out.but b2 (fun h => h (Or.inl rfl)))
          have HT2 := hide (fun (i : Nat) (e : i = g1 ∨ i = g2) => Nat.lt_of_lt_of_le (HT.out i e) b2.size)
          clear h2 b2 d0 d1 d2
          have d1 : W.cell? ⟨g1, 1, none⟩ = some (.string (str c)) := ZU2.out.cell 1
          have d2 : W.cell? ⟨g1, 2, none⟩ = some (.string (str f)) := ZU2.out.cell 2
          go_wp2_with fail
          refine (rtDrop2 H2.out HT2.out c f (by omega) (by have := HEL.out; omega)).mono ?_
          rintro e W2 ⟨rfl, A2, k2, h3, b3⟩
          have HF := hide h3
          have ZU3 := hide (ZU2.out.but b3 (fun h => h (Or.inl rfl)))
          generalize (filterL f && hadE es c f) = X1 at *
          generalize errN (filterL f) 121 = X2 at *
          have q5 : (X1 != X1) = false := by simp
          have q6 : (X2 != X2) = false := by simp
          clear h3 b3 d1 d2 k1 k0
          have hes := HF.out.left.len
          have HES := hide hes
          have z1 := ZU3.out.cell 1
          have d1 : W2.cell? ⟨g1, 1, none⟩ = some (.string (str c)) := z1
          clear hes z1
          go_wp2_with fail
          refine (xOf HF.out.left c (by omega) (by omega)).mono ?_
          rintro e V1 ⟨O1, k1, rfl, r1, bf1⟩
          have HF1 := hide (HF.out.keep bf1)
          have R1 := hide r1
          have e1 : V1.cell? ⟨g1, 1, none⟩ = some (.string (str c)) := (ZU3.out.keep bf1).cell 1
          have OF := rOf_any g w.heap.size _ _ _ c V1 HF1.out.doc (by have := HES.out; omega)
          have HOF := hide OF
          have HML := hide (Nat.le_trans (ofE_many (dropV es c f) c) HES.out)
          obtain ⟨ol, hol⟩ : ∃ ol, ofE (dropV es c f) c = ol := ⟨_, rfl⟩
          rw [hol] at R1 HOF HML ⊢
          obtain ⟨mo, hmo⟩ : ∃ mo, ol.length = mo := ⟨_, rfl⟩
          have HMO := hide hmo
          rw [hmo] at HML HOF ⊢
          clear r1 bf1 d1 OF HF hmo hol
          go_wp2_with fail
          refine HOF.out.mono ?_
          rintro e V2 ⟨O2, k2, rfl, own2, bf2⟩
          have HF2 := hide (HF1.out.keep bf2)
          have HSB := hide (subs13_any O1 O2 k1 k2 ol ol V2 (R1.out.keep bf2) (by rw [HMO.out]; exact ownS_rd own2) (by rw [HMO.out]; have := HML.out; omega) (by rw [HMO.out]; have := HML.out; omega))
          rw [HMO.out, decide_eq_true rfl] at HSB
          clear own2 bf2 e1 HOF HF1 R1
          go_wp2_with fail
          refine HSB.out.mono ?_
          rintro e V3 ⟨rfl, bf3⟩
          have HF3 := hide (HF2.out.keep bf3)
          clear bf3 HF2
          go_wp2_with fail
          exact ⟨⟨i + 1, _, _, _, by go_num, by omega, HF3.out.plain.more (by omega)⟩, by simp [intOf]; omega⟩
        · have q1 : (call == 1) = false := by simpa using k1
          by_cases k2 : call = 2
          · have q2 : (call == 2) = true := by simpa using k2
            go_wp2_with fail
            refine (rtGone HXV.out HT.out c (by omega) (by omega)).mono ?_
            rintro e W ⟨rfl, h2, b2⟩
            have H2 := hide h2
            have ZU2 := hide (ZU.out.but b2 (fun h => h (Or.inl rfl)))
            have HT2 := hide (fun (i : Nat) (e : i = g1 ∨ i = g2) => Nat.lt_of_lt_of_le (HT.out i e) b2.size)
            clear h2 b2 d0 d1 d2
            have d1 : W.cell? ⟨g1, 1, none⟩ = some (.string (str c)) := ZU2.out.cell 1
            have G2 := hide (rtGone2 H2.out HT2.out c (by have := HEL.out; omega))
            unfold RetRG2 at G2
            generalize ((es.length : Int) - ((dropE es c []).length : Int)) = X1 at *
            have q5 : (X1 != X1) = false := by simp
            go_wp2_with fail
            refine G2.out.mono ?_
            rintro e W2 ⟨rfl, A2, k2, h3, b3⟩
            have HF := hide h3
            have ZU3 := hide (ZU2.out.but b3 (fun h => h (Or.inl rfl)))
            clear h3 b3 d1 k1 k0 G2
            have hes := HF.out.left.len
            have HES := hide hes
            have z1 := ZU3.out.cell 1
            have d1 : W2.cell? ⟨g1, 1, none⟩ = some (.string (str c)) := z1
            clear hes z1
            go_wp2_with fail
            refine (xOf HF.out.left c (by omega) (by omega)).mono ?_
            rintro e V1 ⟨O1, k1, rfl, r1, bf1⟩
            have HF1 := hide (HF.out.keep bf1)
            have R1 := hide r1
            have e1 : V1.cell? ⟨g1, 1, none⟩ = some (.string (str c)) := (ZU3.out.keep bf1).cell 1
            have OF := rOf_any g w.heap.size _ _ _ c V1 HF1.out.doc (by have := HES.out; omega)
            have HOF := hide OF
            have HML := hide (Nat.le_trans (ofE_many (dropE es c []) c) HES.out)
            obtain ⟨ol, hol⟩ : ∃ ol, ofE (dropE es c []) c = ol := ⟨_, rfl⟩
            rw [hol] at R1 HOF HML ⊢
            obtain ⟨mo, hmo⟩ : ∃ mo, ol.length = mo := ⟨_, rfl⟩
            have HMO := hide hmo
            rw [hmo] at HML HOF ⊢
            clear r1 bf1 d1 OF HF hmo hol
            go_wp2_with fail
            refine HOF.out.mono ?_
            rintro e V2 ⟨O2, k2, rfl, own2, bf2⟩
            have HF2 := hide (HF1.out.keep bf2)
            have HSB := hide (subs13_any O1 O2 k1 k2 ol ol V2 (R1.out.keep bf2) (by rw [HMO.out]; exact ownS_rd own2) (by rw [HMO.out]; have := HML.out; omega) (by rw [HMO.out]; have := HML.out; omega))
            rw [HMO.out, decide_eq_true rfl] at HSB
            clear own2 bf2 e1 HOF HF1 R1
            go_wp2_with fail
            refine HSB.out.mono ?_
            rintro e V3 ⟨rfl, bf3⟩
            have HF3 := hide (HF2.out.keep bf3)
            clear bf3 HF2
            go_wp2_with fail
            exact ⟨⟨i + 1, _, _, _, by go_num, by omega, HF3.out.plain.more (by omega)⟩, by simp [intOf]; omega⟩
          · have q2 : (call == 2) = false := by simpa using k2
            by_cases k3 : call = 3
            · have q3 : (call == 3) = true := by simpa using k3
              have PN := hide fun W => rName_any f (by omega) W
              have PF := hide (xFind HXV.out.left f (by omega) (by omega))
              unfold RetPF at PF
              cases hnm : nameL f with
              | false =>
                rw [hnm] at PN
                simp only [hnm, Bool.false_eq_true, reduceIte] at PF
                clear hnm
                go_wp2_with fail
                refine PF.out.mono ?_
                rintro e W ⟨rfl, b2⟩
                have d2 : W.cell? ⟨g1, 2, none⟩ = some (.string (str f)) := (ZU.out.keep b2).cell 2
                have H2 := hide (HXV.out.keep b2)
                have ZU2 := hide (ZU.out.keep b2)
                clear b2 d0 d1 k3 k2 k1 k0
                go_wp2_with fail
                refine (PN.out _).mono ?_
                rintro e W2 ⟨rfl, b3⟩
                have HF := hide (H2.out.keep b3)
                have ZU3 := hide (ZU2.out.keep b3)
                clear b3 d2 PN PF
                have hes := HF.out.left.len
                have HES := hide hes
                have z1 := ZU3.out.cell 1
                have d1 : W2.cell? ⟨g1, 1, none⟩ = some (.string (str c)) := z1
                clear hes z1
                go_wp2_with fail
                refine (xOf HF.out.left c (by omega) (by omega)).mono ?_
                rintro e V1 ⟨O1, k1, rfl, r1, bf1⟩
                have HF1 := hide (HF.out.keep bf1)
                have R1 := hide r1
                have e1 : V1.cell? ⟨g1, 1, none⟩ = some (.string (str c)) := (ZU3.out.keep bf1).cell 1
                have OF := rOf_any g w.heap.size _ _ _ c V1 HF1.out.doc (by have := HES.out; omega)
                have HOF := hide OF
                have HML := hide (Nat.le_trans (ofE_many es c) HES.out)
                obtain ⟨ol, hol⟩ : ∃ ol, ofE es c = ol := ⟨_, rfl⟩
                rw [hol] at R1 HOF HML ⊢
                obtain ⟨mo, hmo⟩ : ∃ mo, ol.length = mo := ⟨_, rfl⟩
                have HMO := hide hmo
                rw [hmo] at HML HOF ⊢
                clear r1 bf1 d1 OF HF hmo hol
                go_wp2_with fail
                refine HOF.out.mono ?_
                rintro e V2 ⟨O2, k2, rfl, own2, bf2⟩
                have HF2 := hide (HF1.out.keep bf2)
                have HSB := hide (subs13_any O1 O2 k1 k2 ol ol V2 (R1.out.keep bf2) (by rw [HMO.out]; exact ownS_rd own2) (by rw [HMO.out]; have := HML.out; omega) (by rw [HMO.out]; have := HML.out; omega))
                rw [HMO.out, decide_eq_true rfl] at HSB
                clear own2 bf2 e1 HOF HF1 R1
                go_wp2_with fail
                refine HSB.out.mono ?_
                rintro e V3 ⟨rfl, bf3⟩
                have HF3 := hide (HF2.out.keep bf3)
                clear bf3 HF2
                go_wp2_with fail
                exact ⟨⟨i + 1, _, _, _, by go_num, by omega, HF3.out.plain.more (by omega)⟩, by simp [intOf]; omega⟩
              | true =>
                have hne := (nameL_parts hnm).1
                rw [hnm] at PN
                simp only [hnm, reduceIte] at PF
                clear hnm
                go_wp2_with fail
                refine PF.out.mono ?_
                rintro e W ⟨O3, k3', rfl, r3, b2, -⟩
                have d2 : W.cell? ⟨g1, 2, none⟩ = some (.string (str f)) := (ZU.out.keep b2).cell 2
                have H2 := hide (HXV.out.keep b2)
                have ZU2 := hide (ZU.out.keep b2)
                have R3 := hide r3
                have HFN := hide (Nat.le_trans (findE_len f es) HEL.out)
                have HFI := hide (fun W (h : RiA W g w.heap.size es A' k') => rFind_any g w.heap.size es A' k' f W h (by have := HEL.out; omega) (okE_find HXV.out.left.okE) (by omega) hne)
                unfold RetFi at HFI
                obtain ⟨fl, hfl⟩ : ∃ fl, findE es f = fl := ⟨_, rfl⟩
                rw [hfl] at R3 HFN HFI ⊢
                obtain ⟨mf, hmf⟩ : ∃ mf, fl.length = mf := ⟨_, rfl⟩
                have HMF := hide hmf
                rw [hmf] at HFN HFI ⊢
                clear b2 d0 d1 k3 k2 k1 k0 r3 hfl hmf hne PF
                go_wp2_with fail
                refine (PN.out _).mono ?_
                rintro e W2 ⟨rfl, b3⟩
                have H3 := hide (H2.out.keep b3)
                have ZU3 := hide (ZU2.out.keep b3)
                have R4 := hide (R3.out.keep b3)
                clear b3 d2 PN R3
                have d2 : W2.cell? ⟨g1, 2, none⟩ = some (.string (str f)) := ZU3.out.cell 2
                go_wp2_with fail
                refine (HFI.out W2 H3.out.doc).mono ?_
                rintro e W3 ⟨O4, k4, rfl, own4, b4⟩
                have H4 := hide (H3.out.keep b4)
                have ZU4 := hide (ZU3.out.keep b4)
                have HWW := hide (wants_any O3 O4 k3' k4 fl fl W3 (R4.out.keep b4) (by rw [HMF.out]; exact ownS_rd own4) (by rw [HMF.out]; have := HFN.out; omega) (by rw [HMF.out]; have := HFN.out; omega))
                rw [HMF.out, decide_eq_true rfl] at HWW
                clear own4 b4 d2 HFI R4
                go_wp2_with fail
                refine HWW.out.mono ?_
                rintro e W4 ⟨rfl, b5⟩
                have HF := hide (H4.out.keep b5)
                have ZU5 := hide (ZU4.out.keep b5)
                clear b5 HWW
                have hes := HF.out.left.len
                have HES := hide hes
                have z1 := ZU5.out.cell 1
                have d1 : W4.cell? ⟨g1, 1, none⟩ = some (.string (str c)) := z1
                clear hes z1
                go_wp2_with fail
                refine (xOf HF.out.left c (by omega) (by omega)).mono ?_
                rintro e V1 ⟨O1, k1, rfl, r1, bf1⟩
                have HF1 := hide (HF.out.keep bf1)
                have R1 := hide r1
                have e1 : V1.cell? ⟨g1, 1, none⟩ = some (.string (str c)) := (ZU5.out.keep bf1).cell 1
                have OF := rOf_any g w.heap.size _ _ _ c V1 HF1.out.doc (by have := HES.out; omega)
                have HOF := hide OF
                have HML := hide (Nat.le_trans (ofE_many es c) HES.out)
                obtain ⟨ol, hol⟩ : ∃ ol, ofE es c = ol := ⟨_, rfl⟩
                rw [hol] at R1 HOF HML ⊢
                obtain ⟨mo, hmo⟩ : ∃ mo, ol.length = mo := ⟨_, rfl⟩
                have HMO := hide hmo
                rw [hmo] at HML HOF ⊢
                clear r1 bf1 d1 OF HF hmo hol
                go_wp2_with fail
                refine HOF.out.mono ?_
                rintro e V2 ⟨O2, k2, rfl, own2, bf2⟩
                have HF2 := hide (HF1.out.keep bf2)
                have HSB := hide (subs13_any O1 O2 k1 k2 ol ol V2 (R1.out.keep bf2) (by rw [HMO.out]; exact ownS_rd own2) (by rw [HMO.out]; have := HML.out; omega) (by rw [HMO.out]; have := HML.out; omega))
                rw [HMO.out, decide_eq_true rfl] at HSB
                clear own2 bf2 e1 HOF HF1 R1
                go_wp2_with fail
                refine HSB.out.mono ?_
                rintro e V3 ⟨rfl, bf3⟩
                have HF3 := hide (HF2.out.keep bf3)
                clear bf3 HF2
                go_wp2_with fail
                exact ⟨⟨i + 1, _, _, _, by go_num, by omega, HF3.out.plain.more (by omega)⟩, by simp [intOf]; omega⟩
            · have q3 : (call == 3) = false := by simpa using k3
              have HF := HXV
              clear d1 d2 k3 k2 k1 k0
              have hes := HF.out.left.len
              have HES := hide hes
              have z1 := ZU.out.cell 1
              have d1 : V.cell? ⟨g1, 1, none⟩ = some (.string (str c)) := z1
              clear hes z1
              go_wp2_with fail
              refine (xOf HF.out.left c (by omega) (by omega)).mono ?_
              rintro e V1 ⟨O1, k1, rfl, r1, bf1⟩
              have HF1 := hide (HF.out.keep bf1)
              have R1 := hide r1
              have e1 : V1.cell? ⟨g1, 1, none⟩ = some (.string (str c)) := (ZU.out.keep bf1).cell 1
              have OF := rOf_any g w.heap.size _ _ _ c V1 HF1.out.doc (by have := HES.out; omega)
              have HOF := hide OF
              have HML := hide (Nat.le_trans (ofE_many es c) HES.out)
              obtain ⟨ol, hol⟩ : ∃ ol, ofE es c = ol := ⟨_, rfl⟩
              rw [hol] at R1 HOF HML ⊢
              obtain ⟨mo, hmo⟩ : ∃ mo, ol.length = mo := ⟨_, rfl⟩
              have HMO := hide hmo
              rw [hmo] at HML HOF ⊢
              clear r1 bf1 d1 OF HF hmo hol
              go_wp2_with fail
              refine HOF.out.mono ?_
              rintro e V2 ⟨O2, k2, rfl, own2, bf2⟩
              have HF2 := hide (HF1.out.keep bf2)
              have HSB := hide (subs13_any O1 O2 k1 k2 ol ol V2 (R1.out.keep bf2) (by rw [HMO.out]; exact ownS_rd own2) (by rw [HMO.out]; have := HML.out; omega) (by rw [HMO.out]; have := HML.out; omega))
              rw [HMO.out, decide_eq_true rfl] at HSB
              clear own2 bf2 e1 HOF HF1 R1
              go_wp2_with fail
              refine HSB.out.mono ?_
              rintro e V3 ⟨rfl, bf3⟩
              have HF3 := hide (HF2.out.keep bf3)
              clear bf3 HF2
              go_wp2_with fail
              exact ⟨⟨i + 1, _, _, _, by go_num, by omega, HF3.out.plain.more (by omega)⟩, by simp [intOf]; omega⟩
    · have q : ¬ (i : Int) < (n : Int) := by omega
      have HB := hide HX.out.bel
      go_wp2_with fail
      refine (awake13_any wr).mono ?_
      rintro e w7 ⟨rfl, b7⟩
      have B7 := hide (below_on HB.out b7)
      clear b7
      go_wp2_with fail
      go_ret
      exact ⟨rfl, B7.out⟩
end Go.Proofs.YtfjafpbmgbnllaaGreat
