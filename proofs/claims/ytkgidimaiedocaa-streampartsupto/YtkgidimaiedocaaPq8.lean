/-
  What is proved here: the program's 'mayName' of package packet. Conditions: at most 65535 filters. ALSO: the program's 'mayConnect' of package packet. Conditions: the lists are as long as the slices say. ALSO: the program's 'mayBe' of package packet tells just whether a packet's fields may be. Conditions: at most 65535 codes, filters. ALSO: the program's 'mayBe' of package packet tells just whether a packet's fields may be. Conditions: at most 65535 codes, filters.
-/
import Derived.Test.YtkgidimaiedocaaPq5
import Derived.Test.YtkgidimaiedocaaPq2
import Derived.Test.YtkgidimaiedocaaPq3
namespace Go.Proofs.Ytkgidimaiedocaa
set_option linter.unusedVariables false
set_option linter.unusedSimpArgs false
open Go.RowKit

set_option maxRecDepth 100000 in
set_option maxHeartbeats 4000000 in
theorem mayName_any (top : Int) (p : Pk) (C : Option Addr) (nc kc : Nat) (S : Option Addr) (ns ks : Nat) (w : World) (hM : PkM w p C nc kc S ns ks) (h65 : ns ≤ 140737488355328) : Calls Try.prog 77 #[pkA p C nc kc S ns ks, .int .i64 top] w fun e w' => e = .returned (.bool (namesB top p)) ∧ Below w.heap.size w w' := by
  obtain ⟨hc, -, -, hs, hk, hR⟩ := hM
  have P1 := fun W => hide (isId_any p.id W)
  have P3 := fun W => hide (bare_any { p with id := 0, subs := [] } C nc kc none 0 0 W hc rfl)
  have PU := fun c W => hide (upTo_any c top W)
  have PI := fun xs W => hide (utIs_l xs W)
  have HG := hide (show namesB top p = (idB p.id && (!p.subs.isEmpty && (p.subs.all (nameB top) && bareB { p with id := 0, subs := [] }))) from rfl)
  generalize namesB top p = G at *
  generalize bareB { p with id := 0, subs := [] } = y at *
  obtain ⟨ty, dup, id, topic, payload, qos, retain, client, clean, alive, hasWill, hasUser, hasPass, user, pass, present, codes, subs⟩ := p
  simp only [pkA] at P1 P3 hs hR HG ⊢
  generalize idB id = z at *
  have hse : subs.isEmpty = decide (ns = 0) := by cases subs <;> simp at hs <;> subst hs <;> simp
  rw [hse] at HG
  have HC := hide hs
  have HR := hide hR
  clear hs hk hc hR hse
  go_enter Try.func77, Try.ntmps77
  go_wp2_with fail
  generalize hW : w.alloc _ = W
  obtain ⟨g, hg, hB, bW, hWs⟩ := boxedP (p := ⟨ty, dup, id, topic, payload, qos, retain, client, clean, alive, hasWill, hasUser, hasPass, user, pass, present, codes, subs⟩) hW
  rw [hg]
  have Hg := hide hg
  have c17 := (Blk.p18 hB).2.2.2.2.2.2.2.2.2.2.2.2.2.2.2.2.2
  have HB := hide hB
  have BW := hide bW
  clear hW hg hB bW hWs
  refine (P1 _).out.mono ?_
  rintro e w1 ⟨rfl, rfl⟩
  cases z with
  | false =>
    have hG : G = false := by rw [HG.out]; rfl
    go_wp2_with fail
    go_ret
    exact ⟨by rw [hG]; rfl, by rw [Hg.out]; exact BW.out⟩
  | true =>
  by_cases h0 : ns = 0
  case pos =>
    have hG : G = false := by rw [HG.out, decide_eq_true h0]; rfl
    have q : ((ns : Int) == 0) = true := by simp [h0]
    clear h0
    go_wp2_with fail
    go_ret
    exact ⟨by rw [hG]; rfl, by rw [Hg.out]; exact BW.out⟩
  case neg =>
  have q : ((ns : Int) == 0) = false := by simp; omega
  have HG2 := hide (show G = (subs.all (nameB top) && y) from by rw [HG.out, decide_eq_false h0]; rfl)
  clear h0 HG
  go_wp2_with fail
  clear c17
  go_loopw [20] (fun i wr => ∃ k : Nat, i = .int .i64 (k : Int) ∧ k ≤ ns ∧ (subs.take k).all (nameB top) = true ∧ Below W.heap.size W wr) (fun i _ => ns - (intOf i).toNat)
  case atStart => exact ⟨0, rfl, by omega, rfl, Below.refl _ _⟩
  case round =>
    obtain ⟨k, rfl, hkn, hall, hbr⟩ := hrel
    have Hall := hide hall
    have HBr := hide (HB.out.keep hbr)
    have BB := hide (show Below g w wr from BW.out.trans (hbr.mono (Nat.le_of_lt HB.out.lt)))
    have Hbr := hide hbr
    clear hall hbr
    by_cases hlt : k < ns
    · have q1 : (k : Int) < (ns : Int) := by omega
      have hlt' : k < subs.length := by rw [HC.out]; exact hlt
      obtain ⟨b, o, rfl, hbl, hcell⟩ := HR.out.at_ (k := k * 2) (by omega)
      obtain ⟨g0, g1⟩ := subVs_get subs k hlt'
      have cA : wr.cell? ⟨b, o + k * 2, none⟩ = some (.string (str subs[k].1)) := (BB.out.cell (p := ⟨b, o + k * 2, none⟩) (by rw [← Hg.out]; exact hbl)).trans (hcell _ _ g0)
      have cB : wr.cell? ⟨b, o + k * 2 + 1, none⟩ = some (.int .i64 subs[k].2) := (BB.out.cell (p := ⟨b, o + k * 2 + 1, none⟩) (by rw [← Hg.out]; exact hbl)).trans (hcell _ _ g1)
      have htk : subs.take (k + 1) = subs.take k ++ [subs[k]] := (List.take_append_getElem hlt').symm
      have hmem : subs[k] ∈ subs := List.getElem_mem hlt'
      generalize subs[k] = s at *
      obtain ⟨f, c⟩ := s
      simp only at cA cB
      have Hmem := hide hmem
      have Htk := hide htk
      have Hno := hide (show nameB top (f, c) = false → G = false from fun e => by
        rw [HG2.out, Bool.and_eq_false_iff, List.all_eq_false]
        exact .inl ⟨(f, c), Hmem.out, by rw [e]; simp⟩)
      have Hyes := hide (show nameB top (f, c) = true → (subs.take (k + 1)).all (nameB top) = true from fun e => by rw [Htk.out, List.all_append, Hall.out]; simp [e])
      obtain ⟨ef, hef⟩ : ∃ ef, f.isEmpty = ef := ⟨_, rfl⟩
      have qf : (f == []) = ef := by rw [← hef]; cases f <;> rfl
      have Hc := hide (show nameB top (f, c) = ((!ef && isStr f) && decide (0 ≤ c ∧ c ≤ top)) from by rw [← hef]; rfl)
      have PI := fun W => hide (PI f W).out
      have PU := fun W => hide (PU c W).out
      generalize hd : decide (0 ≤ c ∧ c ≤ top) = d at *
      generalize hsf : isStr f = sf at *
      clear hcell hlt' hbl htk hmem hd hsf g0 g1 hef
      cases ef with
      | true =>
        have Hn := hide (Hno.out (by rw [Hc.out]; rfl))
        go_wp2_with fail
        go_ret
        exact ⟨by rw [Hn.out]; rfl, by rw [Hg.out]; first | exact BL.out | exact BB.out.trans (((Below.refl _ _).alloc (Nat.le_refl _) _).mono (by have := BB.out.size; have := Hg.out; omega))⟩
      | false =>
        go_wp2_with fail
        generalize hV : wr.alloc _ = V
        have bV : Below wr.heap.size wr V := by rw [← hV]; exact (Below.refl _ _).alloc (Nat.le_refl _) _
        have zV : Blk V wr.heap.size 79 [.string (str f), .int .i64 c] := by rw [← hV]; exact Blk.new wr 79 _
        have BL := hide (show Below g w V from BB.out.trans (bV.mono (by have := BB.out.size; have := Hg.out; omega)))
        have BLr := hide (show Below W.heap.size W V from Hbr.out.trans (bV.mono Hbr.out.size))
        obtain ⟨v0, v1⟩ : V.cell? ⟨wr.heap.size, 0, none⟩ = some (.string (str f)) ∧ V.cell? ⟨wr.heap.size, 1, none⟩ = some (.int .i64 c) := ⟨zV.cell 0, zV.cell 1⟩
        clear hV bV zV
        refine (PU _).out.mono ?_
        rintro e w2 ⟨rfl, rfl⟩
        cases d with
        | false =>
          have Hn := hide (Hno.out (by rw [Hc.out]; simp))
          go_wp2_with fail
          go_ret
          exact ⟨by rw [Hn.out]; rfl, by rw [Hg.out]; first | exact BL.out | exact BB.out.trans (((Below.refl _ _).alloc (Nat.le_refl _) _).mono (by have := BB.out.size; have := Hg.out; omega))⟩
        | true =>
          go_wp2_with fail
          refine (PI _).out.mono ?_
          rintro e w3 ⟨rfl, b3⟩
          have BL := hide (BL.out.trans (b3.mono (by have := BL.out.size; have := Hg.out; omega)))
          have BLr := hide (BLr.out.trans (b3.mono BLr.out.size))
          clear b3
          cases sf with
          | false =>
            have Hn := hide (Hno.out (by rw [Hc.out]; rfl))
            go_wp2_with fail
            go_ret
            exact ⟨by rw [Hn.out]; rfl, by rw [Hg.out]; first | exact BL.out | exact BB.out.trans (((Below.refl _ _).alloc (Nat.le_refl _) _).mono (by have := BB.out.size; have := Hg.out; omega))⟩
          | true =>
            have Hy := hide (Hyes.out (by rw [Hc.out]; rfl))
            go_wp2_with fail
            exact ⟨⟨k + 1, by go_num, by omega, Hy.out, BLr.out⟩, by simp [intOf]; omega⟩
    · obtain rfl : k = ns := by omega
      have q1 : ¬ (k : Int) < (k : Int) := by omega
      have hfull : subs.all (nameB top) = true := by
        have := Hall.out
        rwa [List.take_of_length_le (by rw [HC.out]; exact Nat.le_refl _)] at this
      have HG := hide (show G = y from by rw [HG2.out, hfull]; rfl)
      have c2 := (Blk.p18 HBr.out).2.2.1
      have c17 := (Blk.p18 HBr.out).2.2.2.2.2.2.2.2.2.2.2.2.2.2.2.2.2
      have f2 := HBr.out.frozen 2
      have f17 := HBr.out.frozen 17
      clear hfull
      go_upto_region 99 with (refine wpList_loadP rfl 35 (.tmp 2) rfl g 35 ⟨ty, dup, 0, topic, payload, qos, retain, client, clean, alive, hasWill, hasUser, hasPass, user, pass, present, codes, []⟩ C nc kc none 0 0 rfl (Blk.set (Blk.set HBr.out 2 _) 17 _) Try.underlying35 rfl (by kernel_rfl) ?_; simp only [pkA])
      refine (P3 _).out.mono ?_
      rintro e w2 ⟨rfl, b2⟩
      go_wp2_with fail
      go_ret
      exact ⟨by rw [HG.out]; rfl, by rw [Hg.out]; exact ((BB.out.setCell (p := ⟨g, 2, none⟩) (Nat.le_refl _) _).setCell (p := ⟨g, 17, none⟩) (Nat.le_refl _) _).trans (b2.mono (by simp; exact Nat.le_of_lt HBr.out.lt))⟩

end Go.Proofs.Ytkgidimaiedocaa

namespace Go.Proofs.Ytkgidimaiedocaa
set_option linter.unusedVariables false
set_option linter.unusedSimpArgs false
open Go.RowKit

def conM (p : Pk) : Bool := isStr p.client && (decide (0 ≤ p.alive ∧ p.alive ≤ 65535) && (willB p && (loginB p && bareB { p with client := [], clean := false, alive := 0, hasWill := false, topic := [], payload := [], qos := 0, retain := false, hasUser := false, user := [], hasPass := false, pass := [] })))

set_option maxRecDepth 100000 in
set_option maxHeartbeats 4000000 in
theorem mayConnect_any (p : Pk) (C : Option Addr) (nc kc : Nat) (S : Option Addr) (ns ks : Nat) (w : World) (hc : p.codes.length = nc) (hs : p.subs.length = ns) : Calls Try.prog 73 #[pkA p C nc kc S ns ks] w fun e w' => e = .returned (.bool (conM p)) ∧ Below w.heap.size w w' := by
  have P1 := fun W => hide (utIs_l p.client W)
  have P2 := fun W => hide (isWord_any p.alive W)
  have P3 := fun W => hide (mayWill_any p C nc kc S ns ks W)
  have P4 := fun W => hide (mayLogin_any p C nc kc S ns ks W)
  have P5 := fun W => hide (bare_any { p with client := [], clean := false, alive := 0, hasWill := false, topic := [], payload := [], qos := 0, retain := false, hasUser := false, user := [], hasPass := false, pass := [] } C nc kc S ns ks W hc hs)
  unfold conM
  generalize bareB { p with client := [], clean := false, alive := 0, hasWill := false, topic := [], payload := [], qos := 0, retain := false, hasUser := false, user := [], hasPass := false, pass := [] } = y at *
  generalize willB p = wi at *
  generalize loginB p = lo at *
  clear hc hs
  obtain ⟨q, hq⟩ : ∃ q, p = q := ⟨_, rfl⟩
  obtain ⟨ty, dup, id, topic, payload, qos, retain, client, clean, alive, hasWill, hasUser, hasPass, user, pass, present, codes, subs⟩ := p
  rw [hq] at P3 P4
  have Hq := hide hq
  clear hq
  simp only [pkA] at P1 P2 P5 ⊢
  generalize isStr client = c at *
  generalize decide (0 ≤ alive ∧ alive ≤ 65535) = a at *
  go_enter Try.func73, Try.ntmps73
  go_wp2_with fail
  generalize hW : w.alloc _ = W
  obtain ⟨g, hg, hB, bW, -⟩ := boxedP (p := ⟨ty, dup, id, topic, payload, qos, retain, client, clean, alive, hasWill, hasUser, hasPass, user, pass, present, codes, subs⟩) hW
  rw [hg]
  have Hg := hide hg
  have HB := hide hB
  have BW := hide bW
  clear hW hg hB bW
  refine (P1 _).out.mono ?_
  rintro e w1 ⟨rfl, b1⟩
  have BW := hide (BW.out.trans (b1.mono (Nat.le_of_lt HB.out.lt)))
  have HB := hide (HB.out.keep b1)
  have c9 := (Blk.p18 HB.out).2.2.2.2.2.2.2.2.2.1
  clear b1
  cases c with
  | false =>
    go_wp2_with fail
    go_ret
    exact ⟨by first | rfl | (simp; done), by rw [Hg.out]; exact BW.out⟩
  | true =>
  go_wp2_with fail
  clear c9
  refine (P2 _).out.mono ?_
  rintro e w2 ⟨rfl, rfl⟩
  cases a with
  | false =>
    go_wp2_with fail
    go_ret
    exact ⟨by first | rfl | (simp; done), by rw [Hg.out]; exact BW.out⟩
  | true =>
  go_upto_region 2 with (refine wpList_loadPg (by rfl) 35 (.tmp 1) rfl g 35 q C nc kc S ns ks rfl (by rw [← Hq.out]; exact HB.out) Try.underlying35 rfl (by kernel_rfl) ?_)
  refine (P3 _).out.mono ?_
  rintro e w2 ⟨rfl, b1⟩
  have BW := hide (BW.out.trans (b1.mono (Nat.le_of_lt HB.out.lt)))
  have HB := hide (HB.out.keep b1)
  clear b1
  cases wi with
  | false =>
    go_wp2_with fail
    go_ret
    exact ⟨by first | rfl | (simp; done), by rw [Hg.out]; exact BW.out⟩
  | true =>
  go_upto_region 2 with (refine wpList_loadPg (by rfl) 35 (.tmp 1) rfl g 35 q C nc kc S ns ks rfl (by rw [← Hq.out]; exact HB.out) Try.underlying35 rfl (by kernel_rfl) ?_)
  refine (P4 _).out.mono ?_
  rintro e w3 ⟨rfl, b1⟩
  have BW := hide (BW.out.trans (b1.mono (Nat.le_of_lt HB.out.lt)))
  have HB := hide (HB.out.keep b1)
  clear b1
  cases lo with
  | false =>
    go_wp2_with fail
    go_ret
    exact ⟨by first | rfl | (simp; done), by rw [Hg.out]; exact BW.out⟩
  | true =>
  obtain ⟨-, -, -, c3, c4, c5, c6, c7, c8, c9, c10, c11, c12, c13, c14, -, -, -⟩ := HB.out.p18
  have f3 := HB.out.frozen 3
  have f4 := HB.out.frozen 4
  have f5 := HB.out.frozen 5
  have f6 := HB.out.frozen 6
  have f7 := HB.out.frozen 7
  have f8 := HB.out.frozen 8
  have f9 := HB.out.frozen 9
  have f10 := HB.out.frozen 10
  have f11 := HB.out.frozen 11
  have f12 := HB.out.frozen 12
  have f13 := HB.out.frozen 13
  have f14 := HB.out.frozen 14
  go_upto_region 6 with fail
  obtain ⟨V, hV⟩ : ∃ V, ((((((((((((w3.setCell ⟨g, 7, none⟩ (.string ⟨#[]⟩)).setCell ⟨g, 8, none⟩ (.bool false)).setCell ⟨g, 9, none⟩ (.int .i64 0)).setCell ⟨g, 10, none⟩ (.bool false)).setCell ⟨g, 3, none⟩ (.string ⟨#[]⟩)).setCell ⟨g, 4, none⟩ (.string ⟨#[]⟩)).setCell ⟨g, 5, none⟩ (.int .i64 0)).setCell ⟨g, 6, none⟩ (.bool false)).setCell ⟨g, 11, none⟩ (.bool false)).setCell ⟨g, 13, none⟩ (.string ⟨#[]⟩)).setCell ⟨g, 12, none⟩ (.bool false)).setCell ⟨g, 14, none⟩ (.string ⟨#[]⟩)) = V := ⟨_, rfl⟩
  rw [hV]
  have HV := hide (show Blk V g 35 (pkVs ⟨ty, dup, id, [], [], 0, false, [], false, 0, false, false, false, [], [], present, codes, subs⟩ C nc kc S ns ks) from by rw [← hV]; exact Blk.set (Blk.set (Blk.set (Blk.set (Blk.set (Blk.set (Blk.set (Blk.set (Blk.set (Blk.set (Blk.set (Blk.set HB.out 7 _) 8 _) 9 _) 10 _) 3 _) 4 _) 5 _) 6 _) 11 _) 13 _) 12 _) 14 _)
  have BV := hide (show Below g w V from by rw [← hV]; exact (((((((((((BW.out.setCell (p := ⟨g, 7, none⟩) (Nat.le_refl _) _).setCell (p := ⟨g, 8, none⟩) (Nat.le_refl _) _).setCell (p := ⟨g, 9, none⟩) (Nat.le_refl _) _).setCell (p := ⟨g, 10, none⟩) (Nat.le_refl _) _).setCell (p := ⟨g, 3, none⟩) (Nat.le_refl _) _).setCell (p := ⟨g, 4, none⟩) (Nat.le_refl _) _).setCell (p := ⟨g, 5, none⟩) (Nat.le_refl _) _).setCell (p := ⟨g, 6, none⟩) (Nat.le_refl _) _).setCell (p := ⟨g, 11, none⟩) (Nat.le_refl _) _).setCell (p := ⟨g, 13, none⟩) (Nat.le_refl _) _).setCell (p := ⟨g, 12, none⟩) (Nat.le_refl _) _).setCell (p := ⟨g, 14, none⟩) (Nat.le_refl _) _)
  clear hV
  refine wp_region_lit ?_
  refine wpList_loadP rfl 35 (.tmp 1) rfl g 35 ⟨ty, dup, id, [], [], 0, false, [], false, 0, false, false, false, [], [], present, codes, subs⟩ C nc kc S ns ks rfl HV.out Try.underlying35 rfl (by kernel_rfl) ?_
  simp only [pkA]
  clear c3 c4 c5 c6 c7 c8 c9 c10 c11 c12 c13 c14 f3 f4 f5 f6 f7 f8 f9 f10 f11 f12 f13 f14
  go_wp2_with fail
  refine (P5 _).out.mono ?_
  rintro e w4 ⟨rfl, b4⟩
  go_wp2_with fail
  go_ret
  exact ⟨by first | rfl | (simp; done), by rw [Hg.out]; exact BV.out.trans (b4.mono (Nat.le_of_lt HV.out.lt))⟩

end Go.Proofs.Ytkgidimaiedocaa

namespace Go.Proofs.Ytkgidimaiedocaa
set_option linter.unusedVariables false
set_option linter.unusedSimpArgs false
open Go.RowKit

/-- May its fields be? -/
def fitB (p : Pk) : Bool := decide (1 ≤ p.ty ∧ p.ty ≤ 14) && decide (p = usedP p) && okP p
/-- The same, as the program asks it. -/
def fitM (p : Pk) : Bool :=
  if p.ty = 1 then conM p else if p.ty = 2 then welcomeB p else if p.ty = 3 then publishB p
  else if p.ty = 4 ∨ p.ty = 5 ∨ p.ty = 6 ∨ p.ty = 7 ∨ p.ty = 11 then idB p.id && bareB { p with id := 0 }
  else if p.ty = 8 then namesB 2 p else if p.ty = 9 then grantB p else if p.ty = 10 then namesB 0 p
  else if p.ty = 12 ∨ p.ty = 13 ∨ p.ty = 14 then bareB p else false
theorem isStr_nilB : isStr [] = true := rfl
theorem fullB_ne {xs : List UInt8} (h : fullB xs = true) : xs ≠ [] := by
  rintro rfl
  simp [fullB] at h

theorem fit_1 (p : Pk) (h : p.ty = 1) : fitM p = fitB p := by
  obtain ⟨ty, dup, id, topic, payload, qos, retain, client, clean, alive, hasWill, hasUser, hasPass, user, pass, present, codes, subs⟩ := p
  simp only at h
  subst h
  rw [Bool.eq_iff_iff]
  cases hasWill <;> cases hasUser <;> cases hasPass <;>
    simp [fitM, fitB, usedP, okP, conM, willB, loginB, conB, bareB, msgB, isStr_nilB] <;>
    (constructor <;> (intro h; simp_all [isStr_nilB]))
theorem fit_2 (p : Pk) (h : p.ty = 2) : fitM p = fitB p := by
  obtain ⟨ty, dup, id, topic, payload, qos, retain, client, clean, alive, hasWill, hasUser, hasPass, user, pass, present, codes, subs⟩ := p
  simp only at h
  subst h
  rw [Bool.eq_iff_iff]
  match codes with
  | [] => simp [fitM, fitB, welcomeB, wel1, okP, ackB]
  | _ :: _ :: _ => simp [fitM, fitB, welcomeB, wel1, okP, ackB]
  | [c] =>
    simp [fitM, fitB, usedP, zeroP, okP, welcomeB, wel1, ackB, bareB]
    constructor <;> (intro h; simp_all)
theorem fit_3 (p : Pk) (h : p.ty = 3) : fitM p = fitB p := by
  obtain ⟨ty, dup, id, topic, payload, qos, retain, client, clean, alive, hasWill, hasUser, hasPass, user, pass, present, codes, subs⟩ := p
  simp only at h
  subst h
  rw [Bool.eq_iff_iff]
  by_cases h0 : 0 < qos
  · have h1 : ¬ qos = 0 := by omega
    have h2 : 0 ≤ qos := by omega
    simp [fitM, fitB, usedP, zeroP, okP, publishB, pubB, bareB, msgB, h0, h1, h2]
    constructor <;> (intro h; simp_all)
  · by_cases h1 : qos = 0
    · subst h1
      simp [fitM, fitB, usedP, zeroP, okP, publishB, pubB, bareB, msgB]
      constructor <;> (intro h; simp_all)
    · have h2 : ¬ 0 ≤ qos := by omega
      simp [fitM, fitB, usedP, zeroP, okP, publishB, pubB, bareB, msgB, h0, h1, h2]
theorem fit_4 (p : Pk) (h : p.ty = 4 ∨ p.ty = 5 ∨ p.ty = 6 ∨ p.ty = 7 ∨ p.ty = 11) : fitM p = fitB p := by
  obtain ⟨ty, dup, id, topic, payload, qos, retain, client, clean, alive, hasWill, hasUser, hasPass, user, pass, present, codes, subs⟩ := p
  simp only at h
  rw [Bool.eq_iff_iff]
  rcases h with rfl | rfl | rfl | rfl | rfl
  all_goals
    simp [fitM, fitB, usedP, zeroP, okP, bareB]
    constructor <;> (intro h; simp_all)
theorem fit_8 (p : Pk) (h : p.ty = 8) : fitM p = fitB p := by
  obtain ⟨ty, dup, id, topic, payload, qos, retain, client, clean, alive, hasWill, hasUser, hasPass, user, pass, present, codes, subs⟩ := p
  simp only at h
  subst h
  rw [Bool.eq_iff_iff]
  have e : (fun s : List UInt8 × Int => subB 8 s) = nameB 2 := by
    funext s
    simp [subB, nameB]
  have e2 : subs.all (subB 8) = subs.all (nameB 2) := by rw [← e]
  simp [fitM, fitB, usedP, zeroP, okP, namesB, subsB, bareB, e2, -List.all_eq_true]
  constructor <;> (intro h; simp_all [-List.all_eq_true])
theorem fit_10 (p : Pk) (h : p.ty = 10) : fitM p = fitB p := by
  obtain ⟨ty, dup, id, topic, payload, qos, retain, client, clean, alive, hasWill, hasUser, hasPass, user, pass, present, codes, subs⟩ := p
  simp only at h
  subst h
  rw [Bool.eq_iff_iff]
  have e : (fun s : List UInt8 × Int => subB 10 s) = nameB 0 := by
    funext s
    rw [Bool.eq_iff_iff]
    simp [subB, nameB]
    constructor
    · rintro ⟨⟨h0, h1, h2⟩, h3⟩
      exact ⟨h0, h1, by omega⟩
    · rintro ⟨h0, h1, h2⟩
      exact ⟨⟨h0, h1, by omega⟩, by omega⟩
  have e2 : subs.all (subB 10) = subs.all (nameB 0) := by rw [← e]
  simp [fitM, fitB, usedP, zeroP, okP, namesB, subsB, bareB, e2, -List.all_eq_true]
  constructor <;> (intro h; simp_all [-List.all_eq_true])
theorem fit_9 (p : Pk) (h : p.ty = 9) : fitM p = fitB p := by
  obtain ⟨ty, dup, id, topic, payload, qos, retain, client, clean, alive, hasWill, hasUser, hasPass, user, pass, present, codes, subs⟩ := p
  simp only at h
  subst h
  rw [Bool.eq_iff_iff]
  simp [fitM, fitB, usedP, zeroP, okP, grantB, codesB, bareB, -List.all_eq_true]
  constructor <;> (intro h; simp_all [-List.all_eq_true])
theorem fit_12 (p : Pk) (h : p.ty = 12 ∨ p.ty = 13 ∨ p.ty = 14) : fitM p = fitB p := by
  obtain ⟨ty, dup, id, topic, payload, qos, retain, client, clean, alive, hasWill, hasUser, hasPass, user, pass, present, codes, subs⟩ := p
  simp only at h
  rw [Bool.eq_iff_iff]
  rcases h with rfl | rfl | rfl
  all_goals
    simp [fitM, fitB, usedP, zeroP, okP, bareB]
    constructor <;> (intro h; simp_all)
/-- The program asks just what the document asks. -/
theorem fit_eq (p : Pk) : fitM p = fitB p := by
  by_cases c1 : p.ty = 1
  · exact fit_1 p c1
  by_cases c2 : p.ty = 2
  · exact fit_2 p c2
  by_cases c3 : p.ty = 3
  · exact fit_3 p c3
  by_cases c4 : p.ty = 4 ∨ p.ty = 5 ∨ p.ty = 6 ∨ p.ty = 7 ∨ p.ty = 11
  · exact fit_4 p c4
  by_cases c8 : p.ty = 8
  · exact fit_8 p c8
  by_cases c9 : p.ty = 9
  · exact fit_9 p c9
  by_cases c10 : p.ty = 10
  · exact fit_10 p c10
  by_cases c12 : p.ty = 12 ∨ p.ty = 13 ∨ p.ty = 14
  · exact fit_12 p c12
  unfold fitM fitB
  rw [if_neg c1, if_neg c2, if_neg c3, if_neg c4, if_neg c8, if_neg c9, if_neg c10, if_neg c12, decide_eq_false (by omega)]
  rfl
theorem mayP_fit (p : Pk) : mayP p = (fitB p && decide ((bodyP p).length ≤ 268435455)) := rfl

end Go.Proofs.Ytkgidimaiedocaa

namespace Go.Proofs.Ytkgidimaiedocaa
set_option linter.unusedVariables false
set_option linter.unusedSimpArgs false
open Go.RowKit

set_option maxRecDepth 100000 in
set_option maxHeartbeats 4000000 in
theorem mayBe_any (p : Pk) (C : Option Addr) (nc kc : Nat) (S : Option Addr) (ns ks : Nat) (w : World) (hM : PkM w p C nc kc S ns ks) (hc : nc ≤ 140737488355328) (hs : ns ≤ 140737488355328) : Calls Try.prog 49 #[pkA p C nc kc S ns ks] w fun e w' => e = .returned (.bool (fitB p)) ∧ Below w.heap.size w w' := by
  have HF := hide (fit_eq p)
  rw [← HF.out]
  have HM := hide (show ∀ W, Below w.heap.size w W → PkM W p C nc kc S ns ks from fun W b => hM.keep b)
  have hcl := hM.1
  have hsl := hM.2.2.2.1
  obtain ⟨q, hq⟩ : ∃ q, p = q := ⟨_, rfl⟩
  have HE := hide (show fitM p = fitM q from by rw [hq])
  rw [HE.out]
  clear hM HF
  obtain ⟨ty, dup, id, topic, payload, qos, retain, client, clean, alive, hasWill, hasUser, hasPass, user, pass, present, codes, subs⟩ := p
  have hty : q.ty = ty := by rw [← hq]
  have Hq := hide hq
  by_cases c1 : ty = 1
  · have hf : fitM q = conM q := by unfold fitM; rw [hty, if_pos c1]
    subst c1
    clear hty
    rw [hf]
    simp only [pkA]
    go_enter Try.func49, Try.ntmps49
    go_upto_region 3 with fail
    generalize hW : w.alloc _ = W
    obtain ⟨g, hg, hB, bW, -⟩ := boxedP (p := ⟨1, dup, id, topic, payload, qos, retain, client, clean, alive, hasWill, hasUser, hasPass, user, pass, present, codes, subs⟩) hW
    rw [hg]
    have Hg := hide hg
    have HB := hide (show Blk W g 35 (pkVs q C nc kc S ns ks) from by rw [← Hq.out]; exact hB)
    have BW := hide bW
    have hM := HM.out W (by rw [hg]; exact bW)
    rw [Hq.out] at hM
    clear hW hg hB bW hf
    refine wp_region_lit ?_
    refine wpList_loadP rfl 35 (.tmp 1) rfl g 35 q C nc kc S ns ks rfl HB.out Try.underlying35 rfl (by kernel_rfl) ?_
    have P := mayConnect_any q C nc kc S ns ks W hM.1 hM.2.2.2.1
    clear hM
    go_wp2_with fail
    refine P.mono ?_
    rintro e w1 ⟨rfl, b1⟩
    go_wp2_with fail
    go_ret
    exact ⟨rfl, by rw [Hg.out]; exact BW.out.trans (b1.mono (Nat.le_of_lt HB.out.lt))⟩
  by_cases c2 : ty = 2
  · have hf : fitM q = welcomeB q := by unfold fitM; rw [hty, if_neg c1, if_pos c2]
    subst c2
    clear hty c1
    rw [hf]
    simp only [pkA]
    go_enter Try.func49, Try.ntmps49
    go_upto_region 5 with fail
    generalize hW : w.alloc _ = W
    obtain ⟨g, hg, hB, bW, -⟩ := boxedP (p := ⟨2, dup, id, topic, payload, qos, retain, client, clean, alive, hasWill, hasUser, hasPass, user, pass, present, codes, subs⟩) hW
    rw [hg]
    have Hg := hide hg
    have HB := hide (show Blk W g 35 (pkVs q C nc kc S ns ks) from by rw [← Hq.out]; exact hB)
    have BW := hide bW
    have hM := HM.out W (by rw [hg]; exact bW)
    rw [Hq.out] at hM
    clear hW hg hB bW hf
    refine wp_region_lit ?_
    refine wpList_loadP rfl 35 (.tmp 1) rfl g 35 q C nc kc S ns ks rfl HB.out Try.underlying35 rfl (by kernel_rfl) ?_
    have P := mayWelcome_any q C nc kc S ns ks W hM
    clear hM
    go_wp2_with fail
    refine P.mono ?_
    rintro e w1 ⟨rfl, b1⟩
    go_wp2_with fail
    go_ret
    exact ⟨rfl, by rw [Hg.out]; exact BW.out.trans (b1.mono (Nat.le_of_lt HB.out.lt))⟩
  by_cases c3 : ty = 3
  · have hf : fitM q = publishB q := by unfold fitM; rw [hty, if_neg c1, if_neg c2, if_pos c3]
    subst c3
    clear hty c1 c2
    rw [hf]
    simp only [pkA]
    go_enter Try.func49, Try.ntmps49
    go_upto_region 7 with fail
    generalize hW : w.alloc _ = W
    obtain ⟨g, hg, hB, bW, -⟩ := boxedP (p := ⟨3, dup, id, topic, payload, qos, retain, client, clean, alive, hasWill, hasUser, hasPass, user, pass, present, codes, subs⟩) hW
    rw [hg]
    have Hg := hide hg
    have HB := hide (show Blk W g 35 (pkVs q C nc kc S ns ks) from by rw [← Hq.out]; exact hB)
    have BW := hide bW
    have hM := HM.out W (by rw [hg]; exact bW)
    rw [Hq.out] at hM
    clear hW hg hB bW hf
    refine wp_region_lit ?_
    refine wpList_loadP rfl 35 (.tmp 1) rfl g 35 q C nc kc S ns ks rfl HB.out Try.underlying35 rfl (by kernel_rfl) ?_
    have P := mayPublish_any q C nc kc S ns ks W hM.1 hM.2.2.2.1
    clear hM
    go_wp2_with fail
    refine P.mono ?_
    rintro e w1 ⟨rfl, b1⟩
    go_wp2_with fail
    go_ret
    exact ⟨rfl, by rw [Hg.out]; exact BW.out.trans (b1.mono (Nat.le_of_lt HB.out.lt))⟩
  by_cases c4 : ty = 4 ∨ ty = 5 ∨ ty = 6 ∨ ty = 7 ∨ ty = 11
  · have hf : fitM q = (idB q.id && bareB { q with id := 0 }) := by unfold fitM; rw [hty, if_neg c1, if_neg c2, if_neg c3, if_pos c4]
    clear c1 c2 c3
    rcases c4 with c4 | c4 | c4 | c4 | c4
    · subst c4
      clear hty
      rw [hf]
      simp only [pkA]
      go_enter Try.func49, Try.ntmps49
      go_upto_region 13 with fail
      generalize hW : w.alloc _ = W
      obtain ⟨g, hg, hB, bW, -⟩ := boxedP (p := ⟨4, dup, id, topic, payload, qos, retain, client, clean, alive, hasWill, hasUser, hasPass, user, pass, present, codes, subs⟩) hW
      rw [hg]
      have Hg := hide hg
      have HB := hide (show Blk W g 35 (pkVs q C nc kc S ns ks) from by rw [← Hq.out]; exact hB)
      have BW := hide bW
      have hM := HM.out W (by rw [hg]; exact bW)
      rw [Hq.out] at hM
      clear hW hg hB bW hf
      refine wp_region_lit ?_
      refine wpList_loadP rfl 35 (.tmp 1) rfl g 35 q C nc kc S ns ks rfl HB.out Try.underlying35 rfl (by kernel_rfl) ?_
      have P := mayAnswer_any q C nc kc S ns ks W hM.1 hM.2.2.2.1
      clear hM
      go_wp2_with fail
      refine P.mono ?_
      rintro e w1 ⟨rfl, b1⟩
      go_wp2_with fail
      go_ret
      exact ⟨rfl, by rw [Hg.out]; exact BW.out.trans (b1.mono (Nat.le_of_lt HB.out.lt))⟩
    · subst c4
      clear hty
      rw [hf]
      simp only [pkA]
      go_enter Try.func49, Try.ntmps49
      go_upto_region 13 with fail
      generalize hW : w.alloc _ = W
      obtain ⟨g, hg, hB, bW, -⟩ := boxedP (p := ⟨5, dup, id, topic, payload, qos, retain, client, clean, alive, hasWill, hasUser, hasPass, user, pass, present, codes, subs⟩) hW
      rw [hg]
      have Hg := hide hg
      have HB := hide (show Blk W g 35 (pkVs q C nc kc S ns ks) from by rw [← Hq.out]; exact hB)
      have BW := hide bW
      have hM := HM.out W (by rw [hg]; exact bW)
      rw [Hq.out] at hM
      clear hW hg hB bW hf
      refine wp_region_lit ?_
      refine wpList_loadP rfl 35 (.tmp 1) rfl g 35 q C nc kc S ns ks rfl HB.out Try.underlying35 rfl (by kernel_rfl) ?_
      have P := mayAnswer_any q C nc kc S ns ks W hM.1 hM.2.2.2.1
      clear hM
      go_wp2_with fail
      refine P.mono ?_
      rintro e w1 ⟨rfl, b1⟩
      go_wp2_with fail
      go_ret
      exact ⟨rfl, by rw [Hg.out]; exact BW.out.trans (b1.mono (Nat.le_of_lt HB.out.lt))⟩
    · subst c4
      clear hty
      rw [hf]
      simp only [pkA]
      go_enter Try.func49, Try.ntmps49
      go_upto_region 13 with fail
      generalize hW : w.alloc _ = W
      obtain ⟨g, hg, hB, bW, -⟩ := boxedP (p := ⟨6, dup, id, topic, payload, qos, retain, client, clean, alive, hasWill, hasUser, hasPass, user, pass, present, codes, subs⟩) hW
      rw [hg]
      have Hg := hide hg
      have HB := hide (show Blk W g 35 (pkVs q C nc kc S ns ks) from by rw [← Hq.out]; exact hB)
      have BW := hide bW
      have hM := HM.out W (by rw [hg]; exact bW)
      rw [Hq.out] at hM
      clear hW hg hB bW hf
      refine wp_region_lit ?_
      refine wpList_loadP rfl 35 (.tmp 1) rfl g 35 q C nc kc S ns ks rfl HB.out Try.underlying35 rfl (by kernel_rfl) ?_
      have P := mayAnswer_any q C nc kc S ns ks W hM.1 hM.2.2.2.1
      clear hM
      go_wp2_with fail
      refine P.mono ?_
      rintro e w1 ⟨rfl, b1⟩
      go_wp2_with fail
      go_ret
      exact ⟨rfl, by rw [Hg.out]; exact BW.out.trans (b1.mono (Nat.le_of_lt HB.out.lt))⟩
    · subst c4
      clear hty
      rw [hf]
      simp only [pkA]
      go_enter Try.func49, Try.ntmps49
      go_upto_region 13 with fail
      generalize hW : w.alloc _ = W
      obtain ⟨g, hg, hB, bW, -⟩ := boxedP (p := ⟨7, dup, id, topic, payload, qos, retain, client, clean, alive, hasWill, hasUser, hasPass, user, pass, present, codes, subs⟩) hW
      rw [hg]
      have Hg := hide hg
      have HB := hide (show Blk W g 35 (pkVs q C nc kc S ns ks) from by rw [← Hq.out]; exact hB)
      have BW := hide bW
      have hM := HM.out W (by rw [hg]; exact bW)
      rw [Hq.out] at hM
      clear hW hg hB bW hf
      refine wp_region_lit ?_
      refine wpList_loadP rfl 35 (.tmp 1) rfl g 35 q C nc kc S ns ks rfl HB.out Try.underlying35 rfl (by kernel_rfl) ?_
      have P := mayAnswer_any q C nc kc S ns ks W hM.1 hM.2.2.2.1
      clear hM
      go_wp2_with fail
      refine P.mono ?_
      rintro e w1 ⟨rfl, b1⟩
      go_wp2_with fail
      go_ret
      exact ⟨rfl, by rw [Hg.out]; exact BW.out.trans (b1.mono (Nat.le_of_lt HB.out.lt))⟩
    · subst c4
      clear hty
      rw [hf]
      simp only [pkA]
      go_enter Try.func49, Try.ntmps49
      go_upto_region 13 with fail
      generalize hW : w.alloc _ = W
      obtain ⟨g, hg, hB, bW, -⟩ := boxedP (p := ⟨11, dup, id, topic, payload, qos, retain, client, clean, alive, hasWill, hasUser, hasPass, user, pass, present, codes, subs⟩) hW
      rw [hg]
      have Hg := hide hg
      have HB := hide (show Blk W g 35 (pkVs q C nc kc S ns ks) from by rw [← Hq.out]; exact hB)
      have BW := hide bW
      have hM := HM.out W (by rw [hg]; exact bW)
      rw [Hq.out] at hM
      clear hW hg hB bW hf
      refine wp_region_lit ?_
      refine wpList_loadP rfl 35 (.tmp 1) rfl g 35 q C nc kc S ns ks rfl HB.out Try.underlying35 rfl (by kernel_rfl) ?_
      have P := mayAnswer_any q C nc kc S ns ks W hM.1 hM.2.2.2.1
      clear hM
      go_wp2_with fail
      refine P.mono ?_
      rintro e w1 ⟨rfl, b1⟩
      go_wp2_with fail
      go_ret
      exact ⟨rfl, by rw [Hg.out]; exact BW.out.trans (b1.mono (Nat.le_of_lt HB.out.lt))⟩
  by_cases c8 : ty = 8
  · have hf : fitM q = namesB 2 q := by unfold fitM; rw [hty, if_neg c1, if_neg c2, if_neg c3, if_neg c4, if_pos c8]
    subst c8
    clear hty c1 c2 c3 c4
    rw [hf]
    simp only [pkA]
    go_enter Try.func49, Try.ntmps49
    go_upto_region 15 with fail
    generalize hW : w.alloc _ = W
    obtain ⟨g, hg, hB, bW, -⟩ := boxedP (p := ⟨8, dup, id, topic, payload, qos, retain, client, clean, alive, hasWill, hasUser, hasPass, user, pass, present, codes, subs⟩) hW
    rw [hg]
    have Hg := hide hg
    have HB := hide (show Blk W g 35 (pkVs q C nc kc S ns ks) from by rw [← Hq.out]; exact hB)
    have BW := hide bW
    have hM := HM.out W (by rw [hg]; exact bW)
    rw [Hq.out] at hM
    clear hW hg hB bW hf
    refine wp_region_lit ?_
    refine wpList_loadP rfl 35 (.tmp 1) rfl g 35 q C nc kc S ns ks rfl HB.out Try.underlying35 rfl (by kernel_rfl) ?_
    have P := mayName_any 2 q C nc kc S ns ks W hM hs
    clear hM
    go_wp2_with fail
    refine P.mono ?_
    rintro e w1 ⟨rfl, b1⟩
    go_wp2_with fail
    go_ret
    exact ⟨rfl, by rw [Hg.out]; exact BW.out.trans (b1.mono (Nat.le_of_lt HB.out.lt))⟩
  by_cases c9 : ty = 9
  · have hf : fitM q = grantB q := by unfold fitM; rw [hty, if_neg c1, if_neg c2, if_neg c3, if_neg c4, if_neg c8, if_pos c9]
    subst c9
    clear hty c1 c2 c3 c4 c8
    rw [hf]
    simp only [pkA]
    go_enter Try.func49, Try.ntmps49
    go_upto_region 17 with fail
    generalize hW : w.alloc _ = W
    obtain ⟨g, hg, hB, bW, -⟩ := boxedP (p := ⟨9, dup, id, topic, payload, qos, retain, client, clean, alive, hasWill, hasUser, hasPass, user, pass, present, codes, subs⟩) hW
    rw [hg]
    have Hg := hide hg
    have HB := hide (show Blk W g 35 (pkVs q C nc kc S ns ks) from by rw [← Hq.out]; exact hB)
    have BW := hide bW
    have hM := HM.out W (by rw [hg]; exact bW)
    rw [Hq.out] at hM
    clear hW hg hB bW hf
    refine wp_region_lit ?_
    refine wpList_loadP rfl 35 (.tmp 1) rfl g 35 q C nc kc S ns ks rfl HB.out Try.underlying35 rfl (by kernel_rfl) ?_
    have P := mayGrant_any q C nc kc S ns ks W hM hc
    clear hM
    go_wp2_with fail
    refine P.mono ?_
    rintro e w1 ⟨rfl, b1⟩
    go_wp2_with fail
    go_ret
    exact ⟨rfl, by rw [Hg.out]; exact BW.out.trans (b1.mono (Nat.le_of_lt HB.out.lt))⟩
  by_cases c10 : ty = 10
  · have hf : fitM q = namesB 0 q := by unfold fitM; rw [hty, if_neg c1, if_neg c2, if_neg c3, if_neg c4, if_neg c8, if_neg c9, if_pos c10]
    subst c10
    clear hty c1 c2 c3 c4 c8 c9
    rw [hf]
    simp only [pkA]
    go_enter Try.func49, Try.ntmps49
    go_upto_region 19 with fail
    generalize hW : w.alloc _ = W
    obtain ⟨g, hg, hB, bW, -⟩ := boxedP (p := ⟨10, dup, id, topic, payload, qos, retain, client, clean, alive, hasWill, hasUser, hasPass, user, pass, present, codes, subs⟩) hW
    rw [hg]
    have Hg := hide hg
    have HB := hide (show Blk W g 35 (pkVs q C nc kc S ns ks) from by rw [← Hq.out]; exact hB)
    have BW := hide bW
    have hM := HM.out W (by rw [hg]; exact bW)
    rw [Hq.out] at hM
    clear hW hg hB bW hf
    refine wp_region_lit ?_
    refine wpList_loadP rfl 35 (.tmp 1) rfl g 35 q C nc kc S ns ks rfl HB.out Try.underlying35 rfl (by kernel_rfl) ?_
    have P := mayName_any 0 q C nc kc S ns ks W hM hs
    clear hM
    go_wp2_with fail
    refine P.mono ?_
    rintro e w1 ⟨rfl, b1⟩
    go_wp2_with fail
    go_ret
    exact ⟨rfl, by rw [Hg.out]; exact BW.out.trans (b1.mono (Nat.le_of_lt HB.out.lt))⟩
  by_cases c12 : ty = 12 ∨ ty = 13 ∨ ty = 14
  · have hf : fitM q = bareB q := by unfold fitM; rw [hty, if_neg c1, if_neg c2, if_neg c3, if_neg c4, if_neg c8, if_neg c9, if_neg c10, if_pos c12]
    clear c1 c2 c3 c4 c8 c9 c10
    rcases c12 with c4 | c4 | c4
    · subst c4
      clear hty
      rw [hf]
      simp only [pkA]
      go_enter Try.func49, Try.ntmps49
      go_upto_region 23 with fail
      generalize hW : w.alloc _ = W
      obtain ⟨g, hg, hB, bW, -⟩ := boxedP (p := ⟨12, dup, id, topic, payload, qos, retain, client, clean, alive, hasWill, hasUser, hasPass, user, pass, present, codes, subs⟩) hW
      rw [hg]
      have Hg := hide hg
      have HB := hide (show Blk W g 35 (pkVs q C nc kc S ns ks) from by rw [← Hq.out]; exact hB)
      have BW := hide bW
      have hM := HM.out W (by rw [hg]; exact bW)
      rw [Hq.out] at hM
      clear hW hg hB bW hf
      refine wp_region_lit ?_
      refine wpList_loadP rfl 35 (.tmp 1) rfl g 35 q C nc kc S ns ks rfl HB.out Try.underlying35 rfl (by kernel_rfl) ?_
      have P := bare_any q C nc kc S ns ks W hM.1 hM.2.2.2.1
      clear hM
      go_wp2_with fail
      refine P.mono ?_
      rintro e w1 ⟨rfl, b1⟩
      go_wp2_with fail
      go_ret
      exact ⟨rfl, by rw [Hg.out]; exact BW.out.trans (b1.mono (Nat.le_of_lt HB.out.lt))⟩
    · subst c4
      clear hty
      rw [hf]
      simp only [pkA]
      go_enter Try.func49, Try.ntmps49
      go_upto_region 23 with fail
      generalize hW : w.alloc _ = W
      obtain ⟨g, hg, hB, bW, -⟩ := boxedP (p := ⟨13, dup, id, topic, payload, qos, retain, client, clean, alive, hasWill, hasUser, hasPass, user, pass, present, codes, subs⟩) hW
      rw [hg]
      have Hg := hide hg
      have HB := hide (show Blk W g 35 (pkVs q C nc kc S ns ks) from by rw [← Hq.out]; exact hB)
      have BW := hide bW
      have hM := HM.out W (by rw [hg]; exact bW)
      rw [Hq.out] at hM
      clear hW hg hB bW hf
      refine wp_region_lit ?_
      refine wpList_loadP rfl 35 (.tmp 1) rfl g 35 q C nc kc S ns ks rfl HB.out Try.underlying35 rfl (by kernel_rfl) ?_
      have P := bare_any q C nc kc S ns ks W hM.1 hM.2.2.2.1
      clear hM
      go_wp2_with fail
      refine P.mono ?_
      rintro e w1 ⟨rfl, b1⟩
      go_wp2_with fail
      go_ret
      exact ⟨rfl, by rw [Hg.out]; exact BW.out.trans (b1.mono (Nat.le_of_lt HB.out.lt))⟩
    · subst c4
      clear hty
      rw [hf]
      simp only [pkA]
      go_enter Try.func49, Try.ntmps49
      go_upto_region 23 with fail
      generalize hW : w.alloc _ = W
      obtain ⟨g, hg, hB, bW, -⟩ := boxedP (p := ⟨14, dup, id, topic, payload, qos, retain, client, clean, alive, hasWill, hasUser, hasPass, user, pass, present, codes, subs⟩) hW
      rw [hg]
      have Hg := hide hg
      have HB := hide (show Blk W g 35 (pkVs q C nc kc S ns ks) from by rw [← Hq.out]; exact hB)
      have BW := hide bW
      have hM := HM.out W (by rw [hg]; exact bW)
      rw [Hq.out] at hM
      clear hW hg hB bW hf
      refine wp_region_lit ?_
      refine wpList_loadP rfl 35 (.tmp 1) rfl g 35 q C nc kc S ns ks rfl HB.out Try.underlying35 rfl (by kernel_rfl) ?_
      have P := bare_any q C nc kc S ns ks W hM.1 hM.2.2.2.1
      clear hM
      go_wp2_with fail
      refine P.mono ?_
      rintro e w1 ⟨rfl, b1⟩
      go_wp2_with fail
      go_ret
      exact ⟨rfl, by rw [Hg.out]; exact BW.out.trans (b1.mono (Nat.le_of_lt HB.out.lt))⟩
  have hf : fitM q = false := by unfold fitM; rw [hty, if_neg c1, if_neg c2, if_neg c3, if_neg c4, if_neg c8, if_neg c9, if_neg c10, if_neg c12]
  have q1 : (ty == 1) = false := by simp; omega
  have q2 : (ty == 2) = false := by simp; omega
  have q3 : (ty == 3) = false := by simp; omega
  have q4 : (ty == 4) = false := by simp; omega
  have q5 : (ty == 5) = false := by simp; omega
  have q6 : (ty == 6) = false := by simp; omega
  have q7 : (ty == 7) = false := by simp; omega
  have q11 : (ty == 11) = false := by simp; omega
  have q8 : (ty == 8) = false := by simp; omega
  have q9 : (ty == 9) = false := by simp; omega
  have q10 : (ty == 10) = false := by simp; omega
  have q12 : (ty == 12) = false := by simp; omega
  have q13 : (ty == 13) = false := by simp; omega
  have q14 : (ty == 14) = false := by simp; omega
  rw [hf]
  simp only [pkA]
  clear hf c1 c2 c3 c4 c8 c9 c10 c12 hty
  go_enter Try.func49, Try.ntmps49
  go_wp2_with fail
  go_ret
  exact ⟨rfl, (Below.refl _ _).alloc (Nat.le_refl _) _⟩

end Go.Proofs.Ytkgidimaiedocaa
