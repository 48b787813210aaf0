/-
  What is proved here: the program's 'mayPublish' of package packet. Conditions: the lists are as long as the slices say.
-/
import Derived.Test.YtjaaeiemgojnbaaPq5
import Derived.Test.YtjaaeiemgojnbaaPq2
namespace Go.Proofs.Ytjaaeiemgojnbaa
set_option linter.unusedVariables false
set_option linter.unusedSimpArgs false
open Go.RowKit

def publishB (p : Pk) : Bool := msgB p.topic p.qos && (if 0 < p.qos then idB p.id && bareB { p with id := 0, dup := false, topic := [], payload := [], qos := 0, retain := false } else bareB { p with topic := [], payload := [], qos := 0, retain := false })

set_option maxRecDepth 100000 in
set_option maxHeartbeats 4000000 in
theorem mayPublish_any (p : Pk) (C : Option Addr) (nc kc : Nat) (S : Option Addr) (ns ks : Nat) (w : World) (hc : p.codes.length = nc) (hs : p.subs.length = ns) : Calls Try.prog 48 #[pkA p C nc kc S ns ks] w fun e w' => e = .returned (.bool (publishB p)) ∧ Below w.heap.size w w' := by
  have P1 := fun W => hide (isMessage_any p.topic p.payload p.qos p.retain W)
  have P2 := fun W => hide (isId_any p.id W)
  have P3 := fun W => hide (bare_any { p with id := 0, dup := false, topic := [], payload := [], qos := 0, retain := false } C nc kc S ns ks W hc hs)
  have P4 := fun W => hide (bare_any { p with topic := [], payload := [], qos := 0, retain := false } C nc kc S ns ks W hc hs)
  have HG := hide (show publishB p = (msgB p.topic p.qos && (if 0 < p.qos then idB p.id && bareB { p with id := 0, dup := false, topic := [], payload := [], qos := 0, retain := false } else bareB { p with topic := [], payload := [], qos := 0, retain := false })) from rfl)
  generalize publishB p = G at *
  generalize bareB { p with id := 0, dup := false, topic := [], payload := [], qos := 0, retain := false } = y3 at *
  generalize bareB { p with topic := [], payload := [], qos := 0, retain := false } = y4 at *
  clear hc hs
  obtain ⟨ty, dup, id, topic, payload, qos, retain, client, clean, alive, hasWill, hasUser, hasPass, user, pass, present, codes, subs⟩ := p
  simp only [pkA] at P1 P2 P3 P4 HG ⊢
  generalize msgB topic qos = m at *
  generalize idB id = z at *
  go_enter Try.func48, Try.ntmps48
  go_wp2_with fail
  generalize hW : w.alloc _ = W
  obtain ⟨g, hg, hB, bW, -⟩ := boxedP (p := ⟨ty, dup, id, topic, payload, qos, retain, client, clean, alive, hasWill, hasUser, hasPass, user, pass, present, codes, subs⟩) hW
  rw [hg]
  have Hg := hide hg
  have HB := hide hB
  have BW := hide bW
  clear hW hg hB bW
  refine (P1 _).out.mono ?_
  rintro e w1 ⟨rfl, b1⟩
  have hb1 := HB.out.keep b1
  have BW := hide (BW.out.trans (b1.mono (Nat.le_of_lt HB.out.lt)))
  obtain ⟨-, c1, c2, c3, c4, c5, c6, -, -, -, -, -, -, -, -, -, -, -⟩ := hb1.p18
  have f1 := hb1.frozen 1
  have f2 := hb1.frozen 2
  have f3 := hb1.frozen 3
  have f4 := hb1.frozen 4
  have f5 := hb1.frozen 5
  have f6 := hb1.frozen 6
  have HB := hide hb1
  clear b1 hb1
  cases m with
  | false =>
    clear c1 c2 c3 c4 c5 c6
    go_wp2_with fail
    go_ret
    exact ⟨by rw [HG.out]; rfl, by rw [Hg.out]; exact BW.out⟩
  | true =>
    by_cases h0 : 0 < qos
    · have HG := hide (show G = (z && y3) from by rw [HG.out, if_pos h0]; rfl)
      go_wp2_with fail
      refine (P2 _).out.mono ?_
      rintro e w2 ⟨rfl, rfl⟩
      cases z with
      | false =>
        go_wp2_with fail
        go_ret
        exact ⟨by rw [HG.out]; rfl, by rw [Hg.out]; exact BW.out⟩
      | true =>
        go_upto_region 8 with fail
        obtain ⟨V, hV⟩ : ∃ V, ((((((w1.setCell ⟨g, 2, none⟩ (.int .i64 0)).setCell ⟨g, 1, none⟩ (.bool false)).setCell ⟨g, 3, none⟩ (.string ⟨#[]⟩)).setCell ⟨g, 4, none⟩ (.string ⟨#[]⟩)).setCell ⟨g, 5, none⟩ (.int .i64 0)).setCell ⟨g, 6, none⟩ (.bool false)) = V := ⟨_, rfl⟩
        rw [hV]
        have HV := hide (show Blk V g 27 (pkVs ⟨ty, false, 0, [], [], 0, false, client, clean, alive, hasWill, hasUser, hasPass, user, pass, present, codes, subs⟩ C nc kc S ns ks) from by rw [← hV]; exact Blk.set (Blk.set (Blk.set (Blk.set (Blk.set (Blk.set HB.out 2 _) 1 _) 3 _) 4 _) 5 _) 6 _)
        have BV := hide (show Below g w V from by rw [← hV]; exact (((((BW.out.setCell (p := ⟨g, 2, none⟩) (Nat.le_refl _) _).setCell (p := ⟨g, 1, none⟩) (Nat.le_refl _) _).setCell (p := ⟨g, 3, none⟩) (Nat.le_refl _) _).setCell (p := ⟨g, 4, none⟩) (Nat.le_refl _) _).setCell (p := ⟨g, 5, none⟩) (Nat.le_refl _) _).setCell (p := ⟨g, 6, none⟩) (Nat.le_refl _) _)
        clear hV c1 c2 c3 c4 c5 c6 f1 f2 f3 f4 f5 f6
        refine wp_region_lit ?_
        refine wpList_loadP rfl 27 (.tmp 1) rfl g 27 ⟨ty, false, 0, [], [], 0, false, client, clean, alive, hasWill, hasUser, hasPass, user, pass, present, codes, subs⟩ C nc kc S ns ks rfl HV.out Try.underlying27 rfl (by kernel_rfl) ?_
        simp only [pkA]
        go_wp2_with fail
        refine (P3 _).out.mono ?_
        rintro e w4 ⟨rfl, b4⟩
        go_wp2_with fail
        go_ret
        exact ⟨by rw [HG.out]; rfl, by rw [Hg.out]; exact BV.out.trans (b4.mono (Nat.le_of_lt HV.out.lt))⟩
    · have HG := hide (show G = y4 from by rw [HG.out, if_neg h0]; rfl)
      go_upto_region 8 with fail
      obtain ⟨V, hV⟩ : ∃ V, ((((w1.setCell ⟨g, 3, none⟩ (.string ⟨#[]⟩)).setCell ⟨g, 4, none⟩ (.string ⟨#[]⟩)).setCell ⟨g, 5, none⟩ (.int .i64 0)).setCell ⟨g, 6, none⟩ (.bool false)) = V := ⟨_, rfl⟩
      rw [hV]
      have HV := hide (show Blk V g 27 (pkVs ⟨ty, dup, id, [], [], 0, false, client, clean, alive, hasWill, hasUser, hasPass, user, pass, present, codes, subs⟩ C nc kc S ns ks) from by rw [← hV]; exact Blk.set (Blk.set (Blk.set (Blk.set HB.out 3 _) 4 _) 5 _) 6 _)
      have BV := hide (show Below g w V from by rw [← hV]; exact (((BW.out.setCell (p := ⟨g, 3, none⟩) (Nat.le_refl _) _).setCell (p := ⟨g, 4, none⟩) (Nat.le_refl _) _).setCell (p := ⟨g, 5, none⟩) (Nat.le_refl _) _).setCell (p := ⟨g, 6, none⟩) (Nat.le_refl _) _)
      clear hV c1 c2 c3 c4 c5 c6 f1 f2 f3 f4 f5 f6
      refine wp_region_lit ?_
      refine wpList_loadP rfl 27 (.tmp 1) rfl g 27 ⟨ty, dup, id, [], [], 0, false, client, clean, alive, hasWill, hasUser, hasPass, user, pass, present, codes, subs⟩ C nc kc S ns ks rfl HV.out Try.underlying27 rfl (by kernel_rfl) ?_
      simp only [pkA]
      go_wp2_with fail
      refine (P4 _).out.mono ?_
      rintro e w4 ⟨rfl, b4⟩
      go_wp2_with fail
      go_ret
      exact ⟨by rw [HG.out]; rfl, by rw [Hg.out]; exact BV.out.trans (b4.mono (Nat.le_of_lt HV.out.lt))⟩

end Go.Proofs.Ytjaaeiemgojnbaa
