/-
  What is proved here: the program's 'mayBe' of package packet tells just whether a packet's fields may be. Conditions: at most 65535 codes, filters.
-/
import Derived.Test.YtjaaeiemgojnbaaPq10
namespace Go.Proofs.Ytjaaeiemgojnbaa
set_option linter.unusedVariables false
set_option linter.unusedSimpArgs false
open Go.RowKit

set_option maxRecDepth 100000 in
set_option maxHeartbeats 4000000 in
theorem mayBe_any (p : Pk) (C : Option Addr) (nc kc : Nat) (S : Option Addr) (ns ks : Nat) (w : World) (hM : PkM w p C nc kc S ns ks) (hc : nc ≤ 65535) (hs : ns ≤ 65535) : Calls Try.prog 21 #[pkA p C nc kc S ns ks] w fun e w' => e = .returned (.bool (fitB p)) ∧ Below w.heap.size w w' := by
  have HF := hide (fit_eq p)
  rw [← HF.out]
  have HM := hide (show ∀ W, Below w.heap.size w W → PkM W p C nc kc S ns ks from fun W b => hM.keep b)
  have hcl := hM.1
  have hsl := hM.2.2.2.1
  obtain ⟨q, hq⟩ : ∃ q, p = q := ⟨_, rfl⟩
  have HE := hide (show fitM p = fitM q from by rw [hq])
  rw [HE.out]
  clear hM HF
  obtain ⟨ty, dup, id, topic, payload, qos, retain, client, clean, alive, hasWill, hasUser, hasPass, user, pass, present, codes, subs⟩ := p
  have hty : q.ty = ty := by rw [← hq]
  have Hq := hide hq
  by_cases c1 : ty = 1
  · have hf : fitM q = conM q := by unfold fitM; rw [hty, if_pos c1]
    subst c1
    clear hty
    rw [hf]
    simp only [pkA]
    go_enter Try.func21, Try.ntmps21
    go_upto_region 3 with fail
    generalize hW : w.alloc _ = W
    obtain ⟨g, hg, hB, bW, -⟩ := boxedP (p := ⟨1, dup, id, topic, payload, qos, retain, client, clean, alive, hasWill, hasUser, hasPass, user, pass, present, codes, subs⟩) hW
    rw [hg]
    have Hg := hide hg
    have HB := hide (show Blk W g 27 (pkVs q C nc kc S ns ks) from by rw [← Hq.out]; exact hB)
    have BW := hide bW
    have hM := HM.out W (by rw [hg]; exact bW)
    rw [Hq.out] at hM
    clear hW hg hB bW hf
    refine wp_region_lit ?_
    refine wpList_loadP rfl 27 (.tmp 1) rfl g 27 q C nc kc S ns ks rfl HB.out Try.underlying27 rfl (by kernel_rfl) ?_
    have P := mayConnect_any q C nc kc S ns ks W hM.1 hM.2.2.2.1
    clear hM
    go_wp2_with fail
    refine P.mono ?_
    rintro e w1 ⟨rfl, b1⟩
    go_wp2_with fail
    go_ret
    exact ⟨rfl, by rw [Hg.out]; exact BW.out.trans (b1.mono (Nat.le_of_lt HB.out.lt))⟩
  by_cases c2 : ty = 2
  · have hf : fitM q = welcomeB q := by unfold fitM; rw [hty, if_neg c1, if_pos c2]
    subst c2
    clear hty c1
    rw [hf]
    simp only [pkA]
    go_enter Try.func21, Try.ntmps21
    go_upto_region 5 with fail
    generalize hW : w.alloc _ = W
    obtain ⟨g, hg, hB, bW, -⟩ := boxedP (p := ⟨2, dup, id, topic, payload, qos, retain, client, clean, alive, hasWill, hasUser, hasPass, user, pass, present, codes, subs⟩) hW
    rw [hg]
    have Hg := hide hg
    have HB := hide (show Blk W g 27 (pkVs q C nc kc S ns ks) from by rw [← Hq.out]; exact hB)
    have BW := hide bW
    have hM := HM.out W (by rw [hg]; exact bW)
    rw [Hq.out] at hM
    clear hW hg hB bW hf
    refine wp_region_lit ?_
    refine wpList_loadP rfl 27 (.tmp 1) rfl g 27 q C nc kc S ns ks rfl HB.out Try.underlying27 rfl (by kernel_rfl) ?_
    have P := mayWelcome_any q C nc kc S ns ks W hM
    clear hM
    go_wp2_with fail
    refine P.mono ?_
    rintro e w1 ⟨rfl, b1⟩
    go_wp2_with fail
    go_ret
    exact ⟨rfl, by rw [Hg.out]; exact BW.out.trans (b1.mono (Nat.le_of_lt HB.out.lt))⟩
  by_cases c3 : ty = 3
  · have hf : fitM q = publishB q := by unfold fitM; rw [hty, if_neg c1, if_neg c2, if_pos c3]
    subst c3
    clear hty c1 c2
    rw [hf]
    simp only [pkA]
    go_enter Try.func21, Try.ntmps21
    go_upto_region 7 with fail
    generalize hW : w.alloc _ = W
    obtain ⟨g, hg, hB, bW, -⟩ := boxedP (p := ⟨3, dup, id, topic, payload, qos, retain, client, clean, alive, hasWill, hasUser, hasPass, user, pass, present, codes, subs⟩) hW
    rw [hg]
    have Hg := hide hg
    have HB := hide (show Blk W g 27 (pkVs q C nc kc S ns ks) from by rw [← Hq.out]; exact hB)
    have BW := hide bW
    have hM := HM.out W (by rw [hg]; exact bW)
    rw [Hq.out] at hM
    clear hW hg hB bW hf
    refine wp_region_lit ?_
    refine wpList_loadP rfl 27 (.tmp 1) rfl g 27 q C nc kc S ns ks rfl HB.out Try.underlying27 rfl (by kernel_rfl) ?_
    have P := mayPublish_any q C nc kc S ns ks W hM.1 hM.2.2.2.1
    clear hM
    go_wp2_with fail
    refine P.mono ?_
    rintro e w1 ⟨rfl, b1⟩
    go_wp2_with fail
    go_ret
    exact ⟨rfl, by rw [Hg.out]; exact BW.out.trans (b1.mono (Nat.le_of_lt HB.out.lt))⟩
  by_cases c4 : ty = 4 ∨ ty = 5 ∨ ty = 6 ∨ ty = 7 ∨ ty = 11
  · have hf : fitM q = (idB q.id && bareB { q with id := 0 }) := by unfold fitM; rw [hty, if_neg c1, if_neg c2, if_neg c3, if_pos c4]
    clear c1 c2 c3
    rcases c4 with c4 | c4 | c4 | c4 | c4
    · subst c4
      clear hty
      rw [hf]
      simp only [pkA]
      go_enter Try.func21, Try.ntmps21
      go_upto_region 13 with fail
      generalize hW : w.alloc _ = W
      obtain ⟨g, hg, hB, bW, -⟩ := boxedP (p := ⟨4, dup, id, topic, payload, qos, retain, client, clean, alive, hasWill, hasUser, hasPass, user, pass, present, codes, subs⟩) hW
      rw [hg]
      have Hg := hide hg
      have HB := hide (show Blk W g 27 (pkVs q C nc kc S ns ks) from by rw [← Hq.out]; exact hB)
      have BW := hide bW
      have hM := HM.out W (by rw [hg]; exact bW)
      rw [Hq.out] at hM
      clear hW hg hB bW hf
      refine wp_region_lit ?_
      refine wpList_loadP rfl 27 (.tmp 1) rfl g 27 q C nc kc S ns ks rfl HB.out Try.underlying27 rfl (by kernel_rfl) ?_
      have P := mayAnswer_any q C nc kc S ns ks W hM.1 hM.2.2.2.1
      clear hM
      go_wp2_with fail
      refine P.mono ?_
      rintro e w1 ⟨rfl, b1⟩
      go_wp2_with fail
      go_ret
      exact ⟨rfl, by rw [Hg.out]; exact BW.out.trans (b1.mono (Nat.le_of_lt HB.out.lt))⟩
    · subst c4
      clear hty
      rw [hf]
      simp only [pkA]
      go_enter Try.func21, Try.ntmps21
      go_upto_region 13 with fail
      generalize hW : w.alloc _ = W
      obtain ⟨g, hg, hB, bW, -⟩ := boxedP (p := ⟨5, dup, id, topic, payload, qos, retain, client, clean, alive, hasWill, hasUser, hasPass, user, pass, present, codes, subs⟩) hW
      rw [hg]
      have Hg := hide hg
      have HB := hide (show Blk W g 27 (pkVs q C nc kc S ns ks) from by rw [← Hq.out]; exact hB)
      have BW := hide bW
      have hM := HM.out W (by rw [hg]; exact bW)
      rw [Hq.out] at hM
      clear hW hg hB bW hf
      refine wp_region_lit ?_
      refine wpList_loadP rfl 27 (.tmp 1) rfl g 27 q C nc kc S ns ks rfl HB.out Try.underlying27 rfl (by kernel_rfl) ?_
      have P := mayAnswer_any q C nc kc S ns ks W hM.1 hM.2.2.2.1
      clear hM
      go_wp2_with fail
      refine P.mono ?_
      rintro e w1 ⟨rfl, b1⟩
      go_wp2_with fail
      go_ret
      exact ⟨rfl, by rw [Hg.out]; exact BW.out.trans (b1.mono (Nat.le_of_lt HB.out.lt))⟩
    · subst c4
      clear hty
      rw [hf]
      simp only [pkA]
      go_enter Try.func21, Try.ntmps21
      go_upto_region 13 with fail
      generalize hW : w.alloc _ = W
      obtain ⟨g, hg, hB, bW, -⟩ := boxedP (p := ⟨6, dup, id, topic, payload, qos, retain, client, clean, alive, hasWill, hasUser, hasPass, user, pass, present, codes, subs⟩) hW
      rw [hg]
      have Hg := hide hg
      have HB := hide (show Blk W g 27 (pkVs q C nc kc S ns ks) from by rw [← Hq.out]; exact hB)
      have BW := hide bW
      have hM := HM.out W (by rw [hg]; exact bW)
      rw [Hq.out] at hM
      clear hW hg hB bW hf
      refine wp_region_lit ?_
      refine wpList_loadP rfl 27 (.tmp 1) rfl g 27 q C nc kc S ns ks rfl HB.out Try.underlying27 rfl (by kernel_rfl) ?_
      have P := mayAnswer_any q C nc kc S ns ks W hM.1 hM.2.2.2.1
      clear hM
      go_wp2_with fail
      refine P.mono ?_
      rintro e w1 ⟨rfl, b1⟩
      go_wp2_with fail
      go_ret
      exact ⟨rfl, by rw [Hg.out]; exact BW.out.trans (b1.mono (Nat.le_of_lt HB.out.lt))⟩
    · subst c4
      clear hty
      rw [hf]
      simp only [pkA]
      go_enter Try.func21, Try.ntmps21
      go_upto_region 13 with fail
      generalize hW : w.alloc _ = W
      obtain ⟨g, hg, hB, bW, -⟩ := boxedP (p := ⟨7, dup, id, topic, payload, qos, retain, client, clean, alive, hasWill, hasUser, hasPass, user, pass, present, codes, subs⟩) hW
      rw [hg]
      have Hg := hide hg
      have HB := hide (show Blk W g 27 (pkVs q C nc kc S ns ks) from by rw [← Hq.out]; exact hB)
      have BW := hide bW
      have hM := HM.out W (by rw [hg]; exact bW)
      rw [Hq.out] at hM
      clear hW hg hB bW hf
      refine wp_region_lit ?_
      refine wpList_loadP rfl 27 (.tmp 1) rfl g 27 q C nc kc S ns ks rfl HB.out Try.underlying27 rfl (by kernel_rfl) ?_
      have P := mayAnswer_any q C nc kc S ns ks W hM.1 hM.2.2.2.1
      clear hM
      go_wp2_with fail
      refine P.mono ?_
      rintro e w1 ⟨rfl, b1⟩
      go_wp2_with fail
      go_ret
      exact ⟨rfl, by rw [Hg.out]; exact BW.out.trans (b1.mono (Nat.le_of_lt HB.out.lt))⟩
    · subst c4
      clear hty
      rw [hf]
      simp only [pkA]
      go_enter Try.func21, Try.ntmps21
      go_upto_region 13 with fail
      generalize hW : w.alloc _ = W
      obtain ⟨g, hg, hB, bW, -⟩ := boxedP (p := ⟨11, dup, id, topic, payload, qos, retain, client, clean, alive, hasWill, hasUser, hasPass, user, pass, present, codes, subs⟩) hW
      rw [hg]
      have Hg := hide hg
      have HB := hide (show Blk W g 27 (pkVs q C nc kc S ns ks) from by rw [← Hq.out]; exact hB)
      have BW := hide bW
      have hM := HM.out W (by rw [hg]; exact bW)
      rw [Hq.out] at hM
      clear hW hg hB bW hf
      refine wp_region_lit ?_
      refine wpList_loadP rfl 27 (.tmp 1) rfl g 27 q C nc kc S ns ks rfl HB.out Try.underlying27 rfl (by kernel_rfl) ?_
      have P := mayAnswer_any q C nc kc S ns ks W hM.1 hM.2.2.2.1
      clear hM
      go_wp2_with fail
      refine P.mono ?_
      rintro e w1 ⟨rfl, b1⟩
      go_wp2_with fail
      go_ret
      exact ⟨rfl, by rw [Hg.out]; exact BW.out.trans (b1.mono (Nat.le_of_lt HB.out.lt))⟩
  by_cases c8 : ty = 8
  · have hf : fitM q = namesB 2 q := by unfold fitM; rw [hty, if_neg c1, if_neg c2, if_neg c3, if_neg c4, if_pos c8]
    subst c8
    clear hty c1 c2 c3 c4
    rw [hf]
    simp only [pkA]
    go_enter Try.func21, Try.ntmps21
    go_upto_region 15 with fail
    generalize hW : w.alloc _ = W
    obtain ⟨g, hg, hB, bW, -⟩ := boxedP (p := ⟨8, dup, id, topic, payload, qos, retain, client, clean, alive, hasWill, hasUser, hasPass, user, pass, present, codes, subs⟩) hW
    rw [hg]
    have Hg := hide hg
    have HB := hide (show Blk W g 27 (pkVs q C nc kc S ns ks) from by rw [← Hq.out]; exact hB)
    have BW := hide bW
    have hM := HM.out W (by rw [hg]; exact bW)
    rw [Hq.out] at hM
    clear hW hg hB bW hf
    refine wp_region_lit ?_
    refine wpList_loadP rfl 27 (.tmp 1) rfl g 27 q C nc kc S ns ks rfl HB.out Try.underlying27 rfl (by kernel_rfl) ?_
    have P := mayName_any 2 q C nc kc S ns ks W hM hs
    clear hM
    go_wp2_with fail
    refine P.mono ?_
    rintro e w1 ⟨rfl, b1⟩
    go_wp2_with fail
    go_ret
    exact ⟨rfl, by rw [Hg.out]; exact BW.out.trans (b1.mono (Nat.le_of_lt HB.out.lt))⟩
  by_cases c9 : ty = 9
  · have hf : fitM q = grantB q := by unfold fitM; rw [hty, if_neg c1, if_neg c2, if_neg c3, if_neg c4, if_neg c8, if_pos c9]
    subst c9
    clear hty c1 c2 c3 c4 c8
    rw [hf]
    simp only [pkA]
    go_enter Try.func21, Try.ntmps21
    go_upto_region 17 with fail
    generalize hW : w.alloc _ = W
    obtain ⟨g, hg, hB, bW, -⟩ := boxedP (p := ⟨9, dup, id, topic, payload, qos, retain, client, clean, alive, hasWill, hasUser, hasPass, user, pass, present, codes, subs⟩) hW
    rw [hg]
    have Hg := hide hg
    have HB := hide (show Blk W g 27 (pkVs q C nc kc S ns ks) from by rw [← Hq.out]; exact hB)
    have BW := hide bW
    have hM := HM.out W (by rw [hg]; exact bW)
    rw [Hq.out] at hM
    clear hW hg hB bW hf
    refine wp_region_lit ?_
    refine wpList_loadP rfl 27 (.tmp 1) rfl g 27 q C nc kc S ns ks rfl HB.out Try.underlying27 rfl (by kernel_rfl) ?_
    have P := mayGrant_any q C nc kc S ns ks W hM hc
    clear hM
    go_wp2_with fail
    refine P.mono ?_
    rintro e w1 ⟨rfl, b1⟩
    go_wp2_with fail
    go_ret
    exact ⟨rfl, by rw [Hg.out]; exact BW.out.trans (b1.mono (Nat.le_of_lt HB.out.lt))⟩
  by_cases c10 : ty = 10
  · have hf : fitM q = namesB 0 q := by unfold fitM; rw [hty, if_neg c1, if_neg c2, if_neg c3, if_neg c4, if_neg c8, if_neg c9, if_pos c10]
    subst c10
    clear hty c1 c2 c3 c4 c8 c9
    rw [hf]
    simp only [pkA]
    go_enter Try.func21, Try.ntmps21
    go_upto_region 19 with fail
    generalize hW : w.alloc _ = W
    obtain ⟨g, hg, hB, bW, -⟩ := boxedP (p := ⟨10, dup, id, topic, payload, qos, retain, client, clean, alive, hasWill, hasUser, hasPass, user, pass, present, codes, subs⟩) hW
    rw [hg]
    have Hg := hide hg
    have HB := hide (show Blk W g 27 (pkVs q C nc kc S ns ks) from by rw [← Hq.out]; exact hB)
    have BW := hide bW
    have hM := HM.out W (by rw [hg]; exact bW)
    rw [Hq.out] at hM
    clear hW hg hB bW hf
    refine wp_region_lit ?_
    refine wpList_loadP rfl 27 (.tmp 1) rfl g 27 q C nc kc S ns ks rfl HB.out Try.underlying27 rfl (by kernel_rfl) ?_
    have P := mayName_any 0 q C nc kc S ns ks W hM hs
    clear hM
    go_wp2_with fail
    refine P.mono ?_
    rintro e w1 ⟨rfl, b1⟩
    go_wp2_with fail
    go_ret
    exact ⟨rfl, by rw [Hg.out]; exact BW.out.trans (b1.mono (Nat.le_of_lt HB.out.lt))⟩
  by_cases c12 : ty = 12 ∨ ty = 13 ∨ ty = 14
  · have hf : fitM q = bareB q := by unfold fitM; rw [hty, if_neg c1, if_neg c2, if_neg c3, if_neg c4, if_neg c8, if_neg c9, if_neg c10, if_pos c12]
    clear c1 c2 c3 c4 c8 c9 c10
    rcases c12 with c4 | c4 | c4
    · subst c4
      clear hty
      rw [hf]
      simp only [pkA]
      go_enter Try.func21, Try.ntmps21
      go_upto_region 23 with fail
      generalize hW : w.alloc _ = W
      obtain ⟨g, hg, hB, bW, -⟩ := boxedP (p := ⟨12, dup, id, topic, payload, qos, retain, client, clean, alive, hasWill, hasUser, hasPass, user, pass, present, codes, subs⟩) hW
      rw [hg]
      have Hg := hide hg
      have HB := hide (show Blk W g 27 (pkVs q C nc kc S ns ks) from by rw [← Hq.out]; exact hB)
      have BW := hide bW
      have hM := HM.out W (by rw [hg]; exact bW)
      rw [Hq.out] at hM
      clear hW hg hB bW hf
      refine wp_region_lit ?_
      refine wpList_loadP rfl 27 (.tmp 1) rfl g 27 q C nc kc S ns ks rfl HB.out Try.underlying27 rfl (by kernel_rfl) ?_
      have P := bare_any q C nc kc S ns ks W hM.1 hM.2.2.2.1
      clear hM
      go_wp2_with fail
      refine P.mono ?_
      rintro e w1 ⟨rfl, b1⟩
      go_wp2_with fail
      go_ret
      exact ⟨rfl, by rw [Hg.out]; exact BW.out.trans (b1.mono (Nat.le_of_lt HB.out.lt))⟩
    · subst c4
      clear hty
      rw [hf]
      simp only [pkA]
      go_enter Try.func21, Try.ntmps21
      go_upto_region 23 with fail
      generalize hW : w.alloc _ = W
      obtain ⟨g, hg, hB, bW, -⟩ := boxedP (p := ⟨13, dup, id, topic, payload, qos, retain, client, clean, alive, hasWill, hasUser, hasPass, user, pass, present, codes, subs⟩) hW
      rw [hg]
      have Hg := hide hg
      have HB := hide (show Blk W g 27 (pkVs q C nc kc S ns ks) from by rw [← Hq.out]; exact hB)
      have BW := hide bW
      have hM := HM.out W (by rw [hg]; exact bW)
      rw [Hq.out] at hM
      clear hW hg hB bW hf
      refine wp_region_lit ?_
      refine wpList_loadP rfl 27 (.tmp 1) rfl g 27 q C nc kc S ns ks rfl HB.out Try.underlying27 rfl (by kernel_rfl) ?_
      have P := bare_any q C nc kc S ns ks W hM.1 hM.2.2.2.1
      clear hM
      go_wp2_with fail
      refine P.mono ?_
      rintro e w1 ⟨rfl, b1⟩
      go_wp2_with fail
      go_ret
      exact ⟨rfl, by rw [Hg.out]; exact BW.out.trans (b1.mono (Nat.le_of_lt HB.out.lt))⟩
    · subst c4
      clear hty
      rw [hf]
      simp only [pkA]
      go_enter Try.func21, Try.ntmps21
      go_upto_region 23 with fail
      generalize hW : w.alloc _ = W
      obtain ⟨g, hg, hB, bW, -⟩ := boxedP (p := ⟨14, dup, id, topic, payload, qos, retain, client, clean, alive, hasWill, hasUser, hasPass, user, pass, present, codes, subs⟩) hW
      rw [hg]
      have Hg := hide hg
      have HB := hide (show Blk W g 27 (pkVs q C nc kc S ns ks) from by rw [← Hq.out]; exact hB)
      have BW := hide bW
      have hM := HM.out W (by rw [hg]; exact bW)
      rw [Hq.out] at hM
      clear hW hg hB bW hf
      refine wp_region_lit ?_
      refine wpList_loadP rfl 27 (.tmp 1) rfl g 27 q C nc kc S ns ks rfl HB.out Try.underlying27 rfl (by kernel_rfl) ?_
      have P := bare_any q C nc kc S ns ks W hM.1 hM.2.2.2.1
      clear hM
      go_wp2_with fail
      refine P.mono ?_
      rintro e w1 ⟨rfl, b1⟩
      go_wp2_with fail
      go_ret
      exact ⟨rfl, by rw [Hg.out]; exact BW.out.trans (b1.mono (Nat.le_of_lt HB.out.lt))⟩
  have hf : fitM q = false := by unfold fitM; rw [hty, if_neg c1, if_neg c2, if_neg c3, if_neg c4, if_neg c8, if_neg c9, if_neg c10, if_neg c12]
  have q1 : (ty == 1) = false := by simp; omega
  have q2 : (ty == 2) = false := by simp; omega
  have q3 : (ty == 3) = false := by simp; omega
  have q4 : (ty == 4) = false := by simp; omega
  have q5 : (ty == 5) = false := by simp; omega
  have q6 : (ty == 6) = false := by simp; omega
  have q7 : (ty == 7) = false := by simp; omega
  have q11 : (ty == 11) = false := by simp; omega
  have q8 : (ty == 8) = false := by simp; omega
  have q9 : (ty == 9) = false := by simp; omega
  have q10 : (ty == 10) = false := by simp; omega
  have q12 : (ty == 12) = false := by simp; omega
  have q13 : (ty == 13) = false := by simp; omega
  have q14 : (ty == 14) = false := by simp; omega
  rw [hf]
  simp only [pkA]
  clear hf c1 c2 c3 c4 c8 c9 c10 c12 hty
  go_enter Try.func21, Try.ntmps21
  go_wp2_with fail
  go_ret
  exact ⟨rfl, (Below.refl _ _).alloc (Nat.le_refl _) _⟩

end Go.Proofs.Ytjaaeiemgojnbaa
