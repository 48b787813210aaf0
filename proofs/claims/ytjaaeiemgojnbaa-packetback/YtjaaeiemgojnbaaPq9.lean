/-
  What is proved here: the program's 'mayConnect' of package packet. Conditions: the lists are as long as the slices say.
-/
import Derived.Test.YtjaaeiemgojnbaaPq5
import Derived.Test.YtjaaeiemgojnbaaPq2
namespace Go.Proofs.Ytjaaeiemgojnbaa
set_option linter.unusedVariables false
set_option linter.unusedSimpArgs false
open Go.RowKit

def conM (p : Pk) : Bool := isStr p.client && (decide (0 ≤ p.alive ∧ p.alive ≤ 65535) && (willB p && (loginB p && bareB { p with client := [], clean := false, alive := 0, hasWill := false, topic := [], payload := [], qos := 0, retain := false, hasUser := false, user := [], hasPass := false, pass := [] })))

set_option maxRecDepth 100000 in
set_option maxHeartbeats 4000000 in
theorem mayConnect_any (p : Pk) (C : Option Addr) (nc kc : Nat) (S : Option Addr) (ns ks : Nat) (w : World) (hc : p.codes.length = nc) (hs : p.subs.length = ns) : Calls Try.prog 46 #[pkA p C nc kc S ns ks] w fun e w' => e = .returned (.bool (conM p)) ∧ Below w.heap.size w w' := by
  have P1 := fun W => hide (utIs_l p.client W)
  have P2 := fun W => hide (isWord_any p.alive W)
  have P3 := fun W => hide (mayWill_any p C nc kc S ns ks W)
  have P4 := fun W => hide (mayLogin_any p C nc kc S ns ks W)
  have P5 := fun W => hide (bare_any { p with client := [], clean := false, alive := 0, hasWill := false, topic := [], payload := [], qos := 0, retain := false, hasUser := false, user := [], hasPass := false, pass := [] } C nc kc S ns ks W hc hs)
  unfold conM
  generalize bareB { p with client := [], clean := false, alive := 0, hasWill := false, topic := [], payload := [], qos := 0, retain := false, hasUser := false, user := [], hasPass := false, pass := [] } = y at *
  generalize willB p = wi at *
  generalize loginB p = lo at *
  clear hc hs
  obtain ⟨q, hq⟩ : ∃ q, p = q := ⟨_, rfl⟩
  obtain ⟨ty, dup, id, topic, payload, qos, retain, client, clean, alive, hasWill, hasUser, hasPass, user, pass, present, codes, subs⟩ := p
  rw [hq] at P3 P4
  have Hq := hide hq
  clear hq
  simp only [pkA] at P1 P2 P5 ⊢
  generalize isStr client = c at *
  generalize decide (0 ≤ alive ∧ alive ≤ 65535) = a at *
  go_enter Try.func46, Try.ntmps46
  go_wp2_with fail
  generalize hW : w.alloc _ = W
  obtain ⟨g, hg, hB, bW, -⟩ := boxedP (p := ⟨ty, dup, id, topic, payload, qos, retain, client, clean, alive, hasWill, hasUser, hasPass, user, pass, present, codes, subs⟩) hW
  rw [hg]
  have Hg := hide hg
  have HB := hide hB
  have BW := hide bW
  clear hW hg hB bW
  refine (P1 _).out.mono ?_
  rintro e w1 ⟨rfl, b1⟩
  have BW := hide (BW.out.trans (b1.mono (Nat.le_of_lt HB.out.lt)))
  have HB := hide (HB.out.keep b1)
  have c9 := (Blk.p18 HB.out).2.2.2.2.2.2.2.2.2.1
  clear b1
  cases c with
  | false =>
    go_wp2_with fail
    go_ret
    exact ⟨by first | rfl | (simp; done), by rw [Hg.out]; exact BW.out⟩
  | true =>
  go_wp2_with fail
  clear c9
  refine (P2 _).out.mono ?_
  rintro e w2 ⟨rfl, rfl⟩
  cases a with
  | false =>
    go_wp2_with fail
    go_ret
    exact ⟨by first | rfl | (simp; done), by rw [Hg.out]; exact BW.out⟩
  | true =>
  go_upto_region 2 with (refine wpList_loadPg (by rfl) 27 (.tmp 1) rfl g 27 q C nc kc S ns ks rfl (by rw [← Hq.out]; exact HB.out) Try.underlying27 rfl (by kernel_rfl) ?_)
  refine (P3 _).out.mono ?_
  rintro e w2 ⟨rfl, b1⟩
  have BW := hide (BW.out.trans (b1.mono (Nat.le_of_lt HB.out.lt)))
  have HB := hide (HB.out.keep b1)
  clear b1
  cases wi with
  | false =>
    go_wp2_with fail
    go_ret
    exact ⟨by first | rfl | (simp; done), by rw [Hg.out]; exact BW.out⟩
  | true =>
  go_upto_region 2 with (refine wpList_loadPg (by rfl) 27 (.tmp 1) rfl g 27 q C nc kc S ns ks rfl (by rw [← Hq.out]; exact HB.out) Try.underlying27 rfl (by kernel_rfl) ?_)
  refine (P4 _).out.mono ?_
  rintro e w3 ⟨rfl, b1⟩
  have BW := hide (BW.out.trans (b1.mono (Nat.le_of_lt HB.out.lt)))
  have HB := hide (HB.out.keep b1)
  clear b1
  cases lo with
  | false =>
    go_wp2_with fail
    go_ret
    exact ⟨by first | rfl | (simp; done), by rw [Hg.out]; exact BW.out⟩
  | true =>
  obtain ⟨-, -, -, c3, c4, c5, c6, c7, c8, c9, c10, c11, c12, c13, c14, -, -, -⟩ := HB.out.p18
  have f3 := HB.out.frozen 3
  have f4 := HB.out.frozen 4
  have f5 := HB.out.frozen 5
  have f6 := HB.out.frozen 6
  have f7 := HB.out.frozen 7
  have f8 := HB.out.frozen 8
  have f9 := HB.out.frozen 9
  have f10 := HB.out.frozen 10
  have f11 := HB.out.frozen 11
  have f12 := HB.out.frozen 12
  have f13 := HB.out.frozen 13
  have f14 := HB.out.frozen 14
  go_upto_region 6 with fail
  obtain ⟨V, hV⟩ : ∃ V, ((((((((((((w3.setCell ⟨g, 7, none⟩ (.string ⟨#[]⟩)).setCell ⟨g, 8, none⟩ (.bool false)).setCell ⟨g, 9, none⟩ (.int .i64 0)).setCell ⟨g, 10, none⟩ (.bool false)).setCell ⟨g, 3, none⟩ (.string ⟨#[]⟩)).setCell ⟨g, 4, none⟩ (.string ⟨#[]⟩)).setCell ⟨g, 5, none⟩ (.int .i64 0)).setCell ⟨g, 6, none⟩ (.bool false)).setCell ⟨g, 11, none⟩ (.bool false)).setCell ⟨g, 13, none⟩ (.string ⟨#[]⟩)).setCell ⟨g, 12, none⟩ (.bool false)).setCell ⟨g, 14, none⟩ (.string ⟨#[]⟩)) = V := ⟨_, rfl⟩
  rw [hV]
  have HV := hide (show Blk V g 27 (pkVs ⟨ty, dup, id, [], [], 0, false, [], false, 0, false, false, false, [], [], present, codes, subs⟩ C nc kc S ns ks) from by rw [← hV]; exact Blk.set (Blk.set (Blk.set (Blk.set (Blk.set (Blk.set (Blk.set (Blk.set (Blk.set (Blk.set (Blk.set (Blk.set HB.out 7 _) 8 _) 9 _) 10 _) 3 _) 4 _) 5 _) 6 _) 11 _) 13 _) 12 _) 14 _)
  have BV := hide (show Below g w V from by rw [← hV]; exact (((((((((((BW.out.setCell (p := ⟨g, 7, none⟩) (Nat.le_refl _) _).setCell (p := ⟨g, 8, none⟩) (Nat.le_refl _) _).setCell (p := ⟨g, 9, none⟩) (Nat.le_refl _) _).setCell (p := ⟨g, 10, none⟩) (Nat.le_refl _) _).setCell (p := ⟨g, 3, none⟩) (Nat.le_refl _) _).setCell (p := ⟨g, 4, none⟩) (Nat.le_refl _) _).setCell (p := ⟨g, 5, none⟩) (Nat.le_refl _) _).setCell (p := ⟨g, 6, none⟩) (Nat.le_refl _) _).setCell (p := ⟨g, 11, none⟩) (Nat.le_refl _) _).setCell (p := ⟨g, 13, none⟩) (Nat.le_refl _) _).setCell (p := ⟨g, 12, none⟩) (Nat.le_refl _) _).setCell (p := ⟨g, 14, none⟩) (Nat.le_refl _) _)
  clear hV
  refine wp_region_lit ?_
  refine wpList_loadP rfl 27 (.tmp 1) rfl g 27 ⟨ty, dup, id, [], [], 0, false, [], false, 0, false, false, false, [], [], present, codes, subs⟩ C nc kc S ns ks rfl HV.out Try.underlying27 rfl (by kernel_rfl) ?_
  simp only [pkA]
  clear c3 c4 c5 c6 c7 c8 c9 c10 c11 c12 c13 c14 f3 f4 f5 f6 f7 f8 f9 f10 f11 f12 f13 f14
  go_wp2_with fail
  refine (P5 _).out.mono ?_
  rintro e w4 ⟨rfl, b4⟩
  go_wp2_with fail
  go_ret
  exact ⟨by first | rfl | (simp; done), by rw [Hg.out]; exact BV.out.trans (b4.mono (Nat.le_of_lt HV.out.lt))⟩

end Go.Proofs.Ytjaaeiemgojnbaa
