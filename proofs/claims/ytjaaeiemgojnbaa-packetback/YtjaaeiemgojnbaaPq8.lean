/-
  What is proved here: the program's 'mayName' of package packet. Conditions: at most 65535 filters.
-/
import Derived.Test.YtjaaeiemgojnbaaPq7
namespace Go.Proofs.Ytjaaeiemgojnbaa
set_option linter.unusedVariables false
set_option linter.unusedSimpArgs false
open Go.RowKit

set_option maxRecDepth 100000 in
set_option maxHeartbeats 4000000 in
theorem mayName_any (top : Int) (p : Pk) (C : Option Addr) (nc kc : Nat) (S : Option Addr) (ns ks : Nat) (w : World) (hM : PkM w p C nc kc S ns ks) (h65 : ns ≤ 65535) : Calls Try.prog 50 #[pkA p C nc kc S ns ks, .int .i64 top] w fun e w' => e = .returned (.bool (namesB top p)) ∧ Below w.heap.size w w' := by
  obtain ⟨hc, -, -, hs, hk, hR⟩ := hM
  have P1 := fun W => hide (isId_any p.id W)
  have P3 := fun W => hide (bare_any { p with id := 0, subs := [] } C nc kc none 0 0 W hc rfl)
  have PU := fun c W => hide (upTo_any c top W)
  have PI := fun xs W => hide (utIs_l xs W)
  have HG := hide (show namesB top p = (idB p.id && (!p.subs.isEmpty && (p.subs.all (nameB top) && bareB { p with id := 0, subs := [] }))) from rfl)
  generalize namesB top p = G at *
  generalize bareB { p with id := 0, subs := [] } = y at *
  obtain ⟨ty, dup, id, topic, payload, qos, retain, client, clean, alive, hasWill, hasUser, hasPass, user, pass, present, codes, subs⟩ := p
  simp only [pkA] at P1 P3 hs hR HG ⊢
  generalize idB id = z at *
  have hse : subs.isEmpty = decide (ns = 0) := by cases subs <;> simp at hs <;> subst hs <;> simp
  rw [hse] at HG
  have HC := hide hs
  have HR := hide hR
  clear hs hk hc hR hse
  go_enter Try.func50, Try.ntmps50
  go_wp2_with fail
  generalize hW : w.alloc _ = W
  obtain ⟨g, hg, hB, bW, hWs⟩ := boxedP (p := ⟨ty, dup, id, topic, payload, qos, retain, client, clean, alive, hasWill, hasUser, hasPass, user, pass, present, codes, subs⟩) hW
  rw [hg]
  have Hg := hide hg
  have c17 := (Blk.p18 hB).2.2.2.2.2.2.2.2.2.2.2.2.2.2.2.2.2
  have HB := hide hB
  have BW := hide bW
  clear hW hg hB bW hWs
  refine (P1 _).out.mono ?_
  rintro e w1 ⟨rfl, rfl⟩
  cases z with
  | false =>
    have hG : G = false := by rw [HG.out]; rfl
    go_wp2_with fail
    go_ret
    exact ⟨by rw [hG]; rfl, by rw [Hg.out]; exact BW.out⟩
  | true =>
  by_cases h0 : ns = 0
  case pos =>
    have hG : G = false := by rw [HG.out, decide_eq_true h0]; rfl
    have q : ((ns : Int) == 0) = true := by simp [h0]
    clear h0
    go_wp2_with fail
    go_ret
    exact ⟨by rw [hG]; rfl, by rw [Hg.out]; exact BW.out⟩
  case neg =>
  have q : ((ns : Int) == 0) = false := by simp; omega
  have HG2 := hide (show G = (subs.all (nameB top) && y) from by rw [HG.out, decide_eq_false h0]; rfl)
  clear h0 HG
  go_wp2_with fail
  clear c17
  go_loopw [20] (fun i wr => ∃ k : Nat, i = .int .i64 (k : Int) ∧ k ≤ ns ∧ (subs.take k).all (nameB top) = true ∧ Below W.heap.size W wr) (fun i _ => ns - (intOf i).toNat)
  case atStart => exact ⟨0, rfl, by omega, rfl, Below.refl _ _⟩
  case round =>
    obtain ⟨k, rfl, hkn, hall, hbr⟩ := hrel
    have Hall := hide hall
    have HBr := hide (HB.out.keep hbr)
    have BB := hide (show Below g w wr from BW.out.trans (hbr.mono (Nat.le_of_lt HB.out.lt)))
    have Hbr := hide hbr
    clear hall hbr
    by_cases hlt : k < ns
    · have q1 : (k : Int) < (ns : Int) := by omega
      have hlt' : k < subs.length := by rw [HC.out]; exact hlt
      obtain ⟨b, o, rfl, hbl, hcell⟩ := HR.out.at_ (k := k * 2) (by omega)
      obtain ⟨g0, g1⟩ := subVs_get subs k hlt'
      have cA : wr.cell? ⟨b, o + k * 2, none⟩ = some (.string (str subs[k].1)) := (BB.out.cell (p := ⟨b, o + k * 2, none⟩) (by rw [← Hg.out]; exact hbl)).trans (hcell _ _ g0)
      have cB : wr.cell? ⟨b, o + k * 2 + 1, none⟩ = some (.int .i64 subs[k].2) := (BB.out.cell (p := ⟨b, o + k * 2 + 1, none⟩) (by rw [← Hg.out]; exact hbl)).trans (hcell _ _ g1)
      have htk : subs.take (k + 1) = subs.take k ++ [subs[k]] := (List.take_append_getElem hlt').symm
      have hmem : subs[k] ∈ subs := List.getElem_mem hlt'
      generalize subs[k] = s at *
      obtain ⟨f, c⟩ := s
      simp only at cA cB
      have Hmem := hide hmem
      have Htk := hide htk
      have Hno := hide (show nameB top (f, c) = false → G = false from fun e => by
        rw [HG2.out, Bool.and_eq_false_iff, List.all_eq_false]
        exact .inl ⟨(f, c), Hmem.out, by rw [e]; simp⟩)
      have Hyes := hide (show nameB top (f, c) = true → (subs.take (k + 1)).all (nameB top) = true from fun e => by rw [Htk.out, List.all_append, Hall.out]; simp [e])
      obtain ⟨ef, hef⟩ : ∃ ef, f.isEmpty = ef := ⟨_, rfl⟩
      have qf : (f == []) = ef := by rw [← hef]; cases f <;> rfl
      have Hc := hide (show nameB top (f, c) = ((!ef && isStr f) && decide (0 ≤ c ∧ c ≤ top)) from by rw [← hef]; rfl)
      have PI := fun W => hide (PI f W).out
      have PU := fun W => hide (PU c W).out
      generalize hd : decide (0 ≤ c ∧ c ≤ top) = d at *
      generalize hsf : isStr f = sf at *
      clear hcell hlt' hbl htk hmem hd hsf g0 g1 hef
      cases ef with
      | true =>
        have Hn := hide (Hno.out (by rw [Hc.out]; rfl))
        go_wp2_with fail
        go_ret
        exact ⟨by rw [Hn.out]; rfl, by rw [Hg.out]; first | exact BL.out | exact BB.out.trans (((Below.refl _ _).alloc (Nat.le_refl _) _).mono (by have := BB.out.size; have := Hg.out; omega))⟩
      | false =>
        go_wp2_with fail
        generalize hV : wr.alloc _ = V
        have bV : Below wr.heap.size wr V := by rw [← hV]; exact (Below.refl _ _).alloc (Nat.le_refl _) _
        have zV : Blk V wr.heap.size 47 [.string (str f), .int .i64 c] := by rw [← hV]; exact Blk.new wr 47 _
        have BL := hide (show Below g w V from BB.out.trans (bV.mono (by have := BB.out.size; have := Hg.out; omega)))
        have BLr := hide (show Below W.heap.size W V from Hbr.out.trans (bV.mono Hbr.out.size))
        obtain ⟨v0, v1⟩ : V.cell? ⟨wr.heap.size, 0, none⟩ = some (.string (str f)) ∧ V.cell? ⟨wr.heap.size, 1, none⟩ = some (.int .i64 c) := ⟨zV.cell 0, zV.cell 1⟩
        clear hV bV zV
        refine (PU _).out.mono ?_
        rintro e w2 ⟨rfl, rfl⟩
        cases d with
        | false =>
          have Hn := hide (Hno.out (by rw [Hc.out]; simp))
          go_wp2_with fail
          go_ret
          exact ⟨by rw [Hn.out]; rfl, by rw [Hg.out]; first | exact BL.out | exact BB.out.trans (((Below.refl _ _).alloc (Nat.le_refl _) _).mono (by have := BB.out.size; have := Hg.out; omega))⟩
        | true =>
          go_wp2_with fail
          refine (PI _).out.mono ?_
          rintro e w3 ⟨rfl, b3⟩
          have BL := hide (BL.out.trans (b3.mono (by have := BL.out.size; have := Hg.out; omega)))
          have BLr := hide (BLr.out.trans (b3.mono BLr.out.size))
          clear b3
          cases sf with
          | false =>
            have Hn := hide (Hno.out (by rw [Hc.out]; rfl))
            go_wp2_with fail
            go_ret
            exact ⟨by rw [Hn.out]; rfl, by rw [Hg.out]; first | exact BL.out | exact BB.out.trans (((Below.refl _ _).alloc (Nat.le_refl _) _).mono (by have := BB.out.size; have := Hg.out; omega))⟩
          | true =>
            have Hy := hide (Hyes.out (by rw [Hc.out]; rfl))
            go_wp2_with fail
            exact ⟨⟨k + 1, by go_num, by omega, Hy.out, BLr.out⟩, by simp [intOf]; omega⟩
    · obtain rfl : k = ns := by omega
      have q1 : ¬ (k : Int) < (k : Int) := by omega
      have hfull : subs.all (nameB top) = true := by
        have := Hall.out
        rwa [List.take_of_length_le (by rw [HC.out]; exact Nat.le_refl _)] at this
      have HG := hide (show G = y from by rw [HG2.out, hfull]; rfl)
      have c2 := (Blk.p18 HBr.out).2.2.1
      have c17 := (Blk.p18 HBr.out).2.2.2.2.2.2.2.2.2.2.2.2.2.2.2.2.2
      have f2 := HBr.out.frozen 2
      have f17 := HBr.out.frozen 17
      clear hfull
      go_upto_region 99 with (refine wpList_loadP rfl 27 (.tmp 2) rfl g 27 ⟨ty, dup, 0, topic, payload, qos, retain, client, clean, alive, hasWill, hasUser, hasPass, user, pass, present, codes, []⟩ C nc kc none 0 0 rfl (Blk.set (Blk.set HBr.out 2 _) 17 _) Try.underlying27 rfl (by kernel_rfl) ?_; simp only [pkA])
      refine (P3 _).out.mono ?_
      rintro e w2 ⟨rfl, b2⟩
      go_wp2_with fail
      go_ret
      exact ⟨by rw [HG.out]; rfl, by rw [Hg.out]; exact ((BB.out.setCell (p := ⟨g, 2, none⟩) (Nat.le_refl _) _).setCell (p := ⟨g, 17, none⟩) (Nat.le_refl _) _).trans (b2.mono (by simp; exact Nat.le_of_lt HBr.out.lt))⟩

end Go.Proofs.Ytjaaeiemgojnbaa
