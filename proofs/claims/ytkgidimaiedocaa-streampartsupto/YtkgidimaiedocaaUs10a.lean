/-
  What is proved here: what the document's own 'used' of layer 10 returns for a Publish. No condition. ALSO: what the document's own 'used' of layer 10 returns for a Connect (without a will). No condition. ALSO: what the document's own 'used' of layer 10 returns for a Connect (with a will). No condition. ALSO: what the document's own 'used' of layer 10 returns for the types 2, 4, 5, 6. No condition. ALSO: what the document's own 'used' of layer 10 returns for the types 7, 11, 8, 10. No condition. ALSO: what the document's own 'used' of layer 10 returns for the types 9, 12, 13, 14. No condition. ALSO: what the document's own 'used' of layer 10 returns. Condition: a type from 1 to 14.
-/
import Derived.Test.YtkgidimaiedocaaPkMsg
namespace Go.Proofs.Ytkgidimaiedocaa
set_option linter.unusedVariables false
set_option linter.unusedSimpArgs false
open Go.RowKit

set_option maxRecDepth 100000 in
set_option maxHeartbeats 8000000 in
theorem used3_any (p : Pk) (C : Option Addr) (nc kc : Nat) (S : Option Addr) (ns ks : Nat) (w : World) (ht : p.ty = 3) : Calls Try.prog 32 #[pkA p C nc kc S ns ks] w fun e w' => e = .returned (pkA (usedP p) none 0 0 none 0 0) ∧ Below w.heap.size w w' := by
  have hU : usedP p = { zeroP 3 with topic := p.topic, payload := p.payload, qos := p.qos, retain := p.retain, id := p.id, dup := p.dup } := by unfold usedP; rw [ht]; rfl
  rw [hU]
  clear hU
  obtain ⟨ty, dup, id, topic, payload, qos, retain, client, clean, alive, hasWill, hasUser, hasPass, user, pass, present, codes, subs⟩ := p
  simp only at ht
  subst ht
  simp only [pkA]
  go_enter Try.func32, Try.ntmps32
  go_upto_region 1 with fail
  generalize hW : w.alloc _ = W
  obtain ⟨g0, hg0, hB, bW, hsz⟩ := boxedP (p := ⟨3, dup, id, topic, payload, qos, retain, client, clean, alive, hasWill, hasUser, hasPass, user, pass, present, codes, subs⟩) hW
  generalize hV : W.alloc _ = V
  obtain ⟨g1, hg1, hB2, bV, hsz2⟩ := boxedP (p := zeroP 0) hV
  have hw1 : w.heap.size + 1 = g1 := by omega
  rw [hw1, hg0]
  have HP := hide (hB.keep (by rw [hg1]; exact bV))
  have HR := hide hB2
  have HBW := hide (show Below w.heap.size w V from below_on (by rw [hg0]; exact bW) (by rw [hg1]; exact bV))
  have h01 : w.heap.size ≤ g1 := by omega
  have h02 : w.heap.size ≤ V.heap.size := by omega
  have h03 : g0 < V.heap.size := by omega
  have h04 : g1 < V.heap.size := by omega
  clear hW hV hB hB2 bW bV hsz hsz2 hg1 hw1
  obtain ⟨c0, c1, c2, c3, c4, c5, c6, c7, c8, c9, c10, c11, c12, c13, c14, c15, c16, c17⟩ := HP.out.p18
  simp only at c0
  clear c1 c2 c3 c4 c5 c6 c7 c8 c9 c10 c11 c12 c13 c14 c15 c16 c17
  go_upto_region 2 with (refine wpList_storeQ rfl 35 (.tmp 3) (.tmp 6) rfl V.heap.size 35 (zeroP 0) none 0 0 none 0 0 (zeroP 3) none 0 0 none 0 0 rfl rfl (Blk.new V 35 (pkVs (zeroP 0) none 0 0 none 0 0)) (by kernel_rfl) ?_; intro V2 bV BV)
  have bW : Below V.heap.size V V2 := But.below ((Below.refl _ _).alloc (Nat.le_refl _) _) BV (fun i e => by omega) (by simp)
  obtain ⟨g2, hg2⟩ : ∃ g2, V.heap.size = g2 := ⟨_, rfl⟩
  rw [hg2] at bV h02 h03 h04 ⊢
  have HP := hide (HP.out.keep bW)
  have HR := hide (HR.out.keep bW)
  have HBW := hide (below_on HBW.out bW)
  have HQ := hide bV
  clear c0 bV BV bW hg2
  have c0 := HP.out.p18.1
  simp only at c0
  go_upto_region 20 with fail
  clear c0
  go_upto_region 21 with (first
    | (refine wpList_loadM rfl 32 (.tmp 54) rfl g0 35 ⟨3, dup, id, topic, payload, qos, retain, client, clean, alive, hasWill, hasUser, hasPass, user, pass, present, codes, subs⟩ C nc kc S ns ks rfl HP.out Try.underlying32 rfl (by kernel_rfl) ?_)
    | (refine wpList_storeM rfl 32 (.tmp 56) (.tmp 55) rfl g2 35 (zeroP 3) none 0 0 none 0 0 ⟨3, dup, id, topic, payload, qos, retain, client, clean, alive, hasWill, hasUser, hasPass, user, pass, present, codes, subs⟩ rfl rfl HQ.out (by kernel_rfl) ?_; intro X bX BX))
  have HP := hide (HP.out.but BX (by omega))
  have HR := hide (HR.out.but BX (by omega))
  have HBW := hide (But.below HBW.out BX (fun i e => by omega) HBW.out.size)
  have HQ := hide (show Blk X g2 35 (pkVs { zeroP 3 with topic := topic, payload := payload, qos := qos, retain := retain } none 0 0 none 0 0) from bX)
  clear bX BX
  have f1 := HQ.out.frozen
  have l1 := HQ.out.lt
  have c2 := HP.out.p18.2.2.1
  have d2 := HQ.out.p18.2.2.1
  simp only [zeroP] at c2 d2
  go_upto_region 22 with fail
  generalize hY : X.setCell ⟨g2, 2, none⟩ (.int .i64 id) = Y
  have HQ := hide (show Blk Y g2 35 (pkVs { zeroP 3 with topic := topic, payload := payload, qos := qos, retain := retain, id := id } none 0 0 none 0 0) from by rw [← hY]; exact HQ.out.set 2 _)
  have HP := hide (show Blk Y g0 35 (pkVs ⟨3, dup, id, topic, payload, qos, retain, client, clean, alive, hasWill, hasUser, hasPass, user, pass, present, codes, subs⟩ C nc kc S ns ks) from by rw [← hY]; exact HP.out.oth (by omega) 2 _)
  have HR := hide (show Blk Y g1 35 (pkVs (zeroP 0) none 0 0 none 0 0) from by rw [← hY]; exact HR.out.oth (by omega) 2 _)
  have HBW := hide (show Below w.heap.size w Y from by rw [← hY]; exact HBW.out.setCell h02 _)
  clear hY f1 l1 c2 d2
  have f1 := HQ.out.frozen
  have l1 := HQ.out.lt
  have c1 := HP.out.p18.2.1
  have d1 := HQ.out.p18.2.1
  simp only [zeroP] at c1 d1
  go_upto_region 36 with fail
  generalize hZ : Y.setCell ⟨g2, 1, none⟩ (.bool dup) = Z
  have HQ := hide (show Blk Z g2 35 (pkVs { zeroP 3 with topic := topic, payload := payload, qos := qos, retain := retain, id := id, dup := dup } none 0 0 none 0 0) from by rw [← hZ]; exact HQ.out.set 1 _)
  have HR := hide (show Blk Z g1 35 (pkVs (zeroP 0) none 0 0 none 0 0) from by rw [← hZ]; exact HR.out.oth (by omega) 1 _)
  have HBW := hide (show Below w.heap.size w Z from by rw [← hZ]; exact HBW.out.setCell h02 _)
  clear hZ f1 l1 c1 d1 HP
  refine wp_region_lit ?_
  refine wpList_loadP rfl 35 (.tmp 3) rfl g2 35 { zeroP 3 with topic := topic, payload := payload, qos := qos, retain := retain, id := id, dup := dup } none 0 0 none 0 0 rfl HQ.out Try.underlying35 rfl (by kernel_rfl) ?_
  refine wpList_storeQ rfl 35 (.tmp 2) (.tmp 89) rfl g1 35 (zeroP 0) none 0 0 none 0 0 { zeroP 3 with topic := topic, payload := payload, qos := qos, retain := retain, id := id, dup := dup } none 0 0 none 0 0 rfl rfl HR.out (by kernel_rfl) ?_
  intro U bU BU
  have hB := But.below HBW.out BU (fun i e => by omega) HBW.out.size
  go_wp2_with fail
  refine bodyPost_ret (results_cell rfl rfl bU Try.underlying35 rfl (by kernel_rfl)) rfl ?_
  exact ⟨rfl, hg0 ▸ hB⟩

end Go.Proofs.Ytkgidimaiedocaa

namespace Go.Proofs.Ytkgidimaiedocaa
set_option linter.unusedVariables false
set_option linter.unusedSimpArgs false
open Go.RowKit

set_option maxRecDepth 100000 in
set_option maxHeartbeats 8000000 in
theorem used1_000 (p : Pk) (C : Option Addr) (nc kc : Nat) (S : Option Addr) (ns ks : Nat) (w : World) (ht : p.ty = 1) (hw : p.hasWill = false) (hu : p.hasUser = false) (hp : p.hasPass = false) : Calls Try.prog 32 #[pkA p C nc kc S ns ks] w fun e w' => e = .returned (pkA (usedP p) none 0 0 none 0 0) ∧ Below w.heap.size w w' := by
  obtain ⟨ty, dup, id, topic, payload, qos, retain, client, clean, alive, hasWill, hasUser, hasPass, user, pass, present, codes, subs⟩ := p
  simp only at ht hw hu hp
  subst ht hw hu hp
  have hU : usedP ⟨1, dup, id, topic, payload, qos, retain, client, clean, alive, false, false, false, user, pass, present, codes, subs⟩ = ⟨1, false, 0, [], [], 0, false, client, clean, alive, false, false, false, [], [], false, [], []⟩ := by unfold usedP; rfl
  rw [hU]
  clear hU
  simp only [pkA]
  go_enter Try.func32, Try.ntmps32
  go_upto_region 1 with fail
  generalize hW : w.alloc _ = W
  obtain ⟨g0, hg0, hB, bW, hsz⟩ := boxedP (p := ⟨1, dup, id, topic, payload, qos, retain, client, clean, alive, false, false, false, user, pass, present, codes, subs⟩) hW
  generalize hV : W.alloc _ = V
  obtain ⟨g1, hg1, hB2, bV, hsz2⟩ := boxedP (p := zeroP 0) hV
  have hw1 : w.heap.size + 1 = g1 := by omega
  rw [hw1, hg0]
  have HP := hide (hB.keep (by rw [hg1]; exact bV))
  have HR := hide hB2
  have HBW := hide (show Below w.heap.size w V from below_on (by rw [hg0]; exact bW) (by rw [hg1]; exact bV))
  have h01 : w.heap.size ≤ g1 := by omega
  have h02 : w.heap.size ≤ V.heap.size := by omega
  have h03 : g0 < V.heap.size := by omega
  have h04 : g1 < V.heap.size := by omega
  clear hW hV hB hB2 bW bV hsz hsz2 hg1 hw1
  have c0 := HP.out.p18.1
  simp only at c0
  go_upto_region 2 with (refine wpList_storeQ rfl 35 (.tmp 3) (.tmp 6) rfl V.heap.size 35 (zeroP 0) none 0 0 none 0 0 ⟨1, false, 0, [], [], 0, false, [], false, 0, false, false, false, [], [], false, [], []⟩ none 0 0 none 0 0 rfl rfl (Blk.new V 35 (pkVs (zeroP 0) none 0 0 none 0 0)) (by kernel_rfl) ?_; intro X0 bX BX)
  have bW : Below V.heap.size V X0 := But.below ((Below.refl _ _).alloc (Nat.le_refl _) _) BX (fun i e => by omega) (by simp)
  obtain ⟨g2, hg2⟩ : ∃ g2, V.heap.size = g2 := ⟨_, rfl⟩
  rw [hg2] at bX h02 h03 h04 ⊢
  have HP := hide (HP.out.keep bW)
  have HR := hide (HR.out.keep bW)
  have HBW := hide (below_on HBW.out bW)
  have HQ := hide bX
  clear c0 bX BX bW hg2
  have c0 := HP.out.p18.1
  simp only at c0
  go_upto_region 4 with fail
  clear c0
  have f1 := HQ.out.frozen
  have l1 := HQ.out.lt
  have c1 := HP.out.p18.2.2.2.2.2.2.2.1
  have d1 := HQ.out.p18.2.2.2.2.2.2.2.1
  simp only at c1 d1
  go_upto_region 5 with fail
  generalize hY : X0.setCell ⟨g2, 7, none⟩ (.string (str client)) = X1
  have HQ := hide (show Blk X1 g2 35 (pkVs ⟨1, false, 0, [], [], 0, false, client, false, 0, false, false, false, [], [], false, [], []⟩ none 0 0 none 0 0) from by rw [← hY]; exact HQ.out.set 7 _)
  have HP := hide (show Blk X1 g0 35 (pkVs ⟨1, dup, id, topic, payload, qos, retain, client, clean, alive, false, false, false, user, pass, present, codes, subs⟩ C nc kc S ns ks) from by rw [← hY]; exact HP.out.oth (by omega) 7 _)
  have HR := hide (show Blk X1 g1 35 (pkVs (zeroP 0) none 0 0 none 0 0) from by rw [← hY]; exact HR.out.oth (by omega) 7 _)
  have HBW := hide (show Below w.heap.size w X1 from by rw [← hY]; exact HBW.out.setCell h02 _)
  clear hY f1 l1 c1 d1
  have f1 := HQ.out.frozen
  have l1 := HQ.out.lt
  have c1 := HP.out.p18.2.2.2.2.2.2.2.2.1
  have d1 := HQ.out.p18.2.2.2.2.2.2.2.2.1
  simp only at c1 d1
  go_upto_region 6 with fail
  generalize hY : X1.setCell ⟨g2, 8, none⟩ (.bool clean) = X2
  have HQ := hide (show Blk X2 g2 35 (pkVs ⟨1, false, 0, [], [], 0, false, client, clean, 0, false, false, false, [], [], false, [], []⟩ none 0 0 none 0 0) from by rw [← hY]; exact HQ.out.set 8 _)
  have HP := hide (show Blk X2 g0 35 (pkVs ⟨1, dup, id, topic, payload, qos, retain, client, clean, alive, false, false, false, user, pass, present, codes, subs⟩ C nc kc S ns ks) from by rw [← hY]; exact HP.out.oth (by omega) 8 _)
  have HR := hide (show Blk X2 g1 35 (pkVs (zeroP 0) none 0 0 none 0 0) from by rw [← hY]; exact HR.out.oth (by omega) 8 _)
  have HBW := hide (show Below w.heap.size w X2 from by rw [← hY]; exact HBW.out.setCell h02 _)
  clear hY f1 l1 c1 d1
  have f1 := HQ.out.frozen
  have l1 := HQ.out.lt
  have c1 := HP.out.p18.2.2.2.2.2.2.2.2.2.1
  have d1 := HQ.out.p18.2.2.2.2.2.2.2.2.2.1
  simp only at c1 d1
  go_upto_region 7 with fail
  generalize hY : X2.setCell ⟨g2, 9, none⟩ (.int .i64 alive) = X3
  have HQ := hide (show Blk X3 g2 35 (pkVs ⟨1, false, 0, [], [], 0, false, client, clean, alive, false, false, false, [], [], false, [], []⟩ none 0 0 none 0 0) from by rw [← hY]; exact HQ.out.set 9 _)
  have HP := hide (show Blk X3 g0 35 (pkVs ⟨1, dup, id, topic, payload, qos, retain, client, clean, alive, false, false, false, user, pass, present, codes, subs⟩ C nc kc S ns ks) from by rw [← hY]; exact HP.out.oth (by omega) 9 _)
  have HR := hide (show Blk X3 g1 35 (pkVs (zeroP 0) none 0 0 none 0 0) from by rw [← hY]; exact HR.out.oth (by omega) 9 _)
  have HBW := hide (show Below w.heap.size w X3 from by rw [← hY]; exact HBW.out.setCell h02 _)
  clear hY f1 l1 c1 d1
  have f1 := HQ.out.frozen
  have l1 := HQ.out.lt
  have c1 := HP.out.p18.2.2.2.2.2.2.2.2.2.2.1
  have d1 := HQ.out.p18.2.2.2.2.2.2.2.2.2.2.1
  simp only at c1 d1
  go_upto_region 8 with fail
  generalize hY : X3.setCell ⟨g2, 10, none⟩ (.bool false) = X4
  have HQ := hide (show Blk X4 g2 35 (pkVs ⟨1, false, 0, [], [], 0, false, client, clean, alive, false, false, false, [], [], false, [], []⟩ none 0 0 none 0 0) from by rw [← hY]; exact HQ.out.set 10 _)
  have HP := hide (show Blk X4 g0 35 (pkVs ⟨1, dup, id, topic, payload, qos, retain, client, clean, alive, false, false, false, user, pass, present, codes, subs⟩ C nc kc S ns ks) from by rw [← hY]; exact HP.out.oth (by omega) 10 _)
  have HR := hide (show Blk X4 g1 35 (pkVs (zeroP 0) none 0 0 none 0 0) from by rw [← hY]; exact HR.out.oth (by omega) 10 _)
  have HBW := hide (show Below w.heap.size w X4 from by rw [← hY]; exact HBW.out.setCell h02 _)
  clear hY f1 l1 c1 d1
  have c1 := HP.out.p18.2.2.2.2.2.2.2.2.2.2.1
  simp only at c1
  go_upto_region 10 with fail
  clear c1
  have f1 := HQ.out.frozen
  have l1 := HQ.out.lt
  have c1 := HP.out.p18.2.2.2.2.2.2.2.2.2.2.2.1
  have d1 := HQ.out.p18.2.2.2.2.2.2.2.2.2.2.2.1
  simp only at c1 d1
  go_upto_region 11 with fail
  generalize hY : X4.setCell ⟨g2, 11, none⟩ (.bool false) = X5
  have HQ := hide (show Blk X5 g2 35 (pkVs ⟨1, false, 0, [], [], 0, false, client, clean, alive, false, false, false, [], [], false, [], []⟩ none 0 0 none 0 0) from by rw [← hY]; exact HQ.out.set 11 _)
  have HP := hide (show Blk X5 g0 35 (pkVs ⟨1, dup, id, topic, payload, qos, retain, client, clean, alive, false, false, false, user, pass, present, codes, subs⟩ C nc kc S ns ks) from by rw [← hY]; exact HP.out.oth (by omega) 11 _)
  have HR := hide (show Blk X5 g1 35 (pkVs (zeroP 0) none 0 0 none 0 0) from by rw [← hY]; exact HR.out.oth (by omega) 11 _)
  have HBW := hide (show Below w.heap.size w X5 from by rw [← hY]; exact HBW.out.setCell h02 _)
  clear hY f1 l1 c1 d1
  have c1 := HP.out.p18.2.2.2.2.2.2.2.2.2.2.2.1
  simp only at c1
  go_upto_region 13 with fail
  clear c1
  have f1 := HQ.out.frozen
  have l1 := HQ.out.lt
  have c1 := HP.out.p18.2.2.2.2.2.2.2.2.2.2.2.2.1
  have d1 := HQ.out.p18.2.2.2.2.2.2.2.2.2.2.2.2.1
  simp only at c1 d1
  go_upto_region 14 with fail
  generalize hY : X5.setCell ⟨g2, 12, none⟩ (.bool false) = X6
  have HQ := hide (show Blk X6 g2 35 (pkVs ⟨1, false, 0, [], [], 0, false, client, clean, alive, false, false, false, [], [], false, [], []⟩ none 0 0 none 0 0) from by rw [← hY]; exact HQ.out.set 12 _)
  have HP := hide (show Blk X6 g0 35 (pkVs ⟨1, dup, id, topic, payload, qos, retain, client, clean, alive, false, false, false, user, pass, present, codes, subs⟩ C nc kc S ns ks) from by rw [← hY]; exact HP.out.oth (by omega) 12 _)
  have HR := hide (show Blk X6 g1 35 (pkVs (zeroP 0) none 0 0 none 0 0) from by rw [← hY]; exact HR.out.oth (by omega) 12 _)
  have HBW := hide (show Below w.heap.size w X6 from by rw [← hY]; exact HBW.out.setCell h02 _)
  clear hY f1 l1 c1 d1
  have c1 := HP.out.p18.2.2.2.2.2.2.2.2.2.2.2.2.1
  simp only at c1
  go_upto_region 36 with fail
  clear c1
  refine wp_region_lit ?_
  refine wpList_loadP rfl 35 (.tmp 3) rfl g2 35 ⟨1, false, 0, [], [], 0, false, client, clean, alive, false, false, false, [], [], false, [], []⟩ none 0 0 none 0 0 rfl HQ.out Try.underlying35 rfl (by kernel_rfl) ?_
  refine wpList_storeQ rfl 35 (.tmp 2) (.tmp 89) rfl g1 35 (zeroP 0) none 0 0 none 0 0 ⟨1, false, 0, [], [], 0, false, client, clean, alive, false, false, false, [], [], false, [], []⟩ none 0 0 none 0 0 rfl rfl HR.out (by kernel_rfl) ?_
  intro U bU BU
  have hB := But.below HBW.out BU (fun i e => by omega) HBW.out.size
  go_wp2_with fail
  refine bodyPost_ret (results_cell rfl rfl bU Try.underlying35 rfl (by kernel_rfl)) rfl ?_
  exact ⟨rfl, hg0 ▸ hB⟩

set_option maxRecDepth 100000 in
set_option maxHeartbeats 8000000 in
theorem used1_001 (p : Pk) (C : Option Addr) (nc kc : Nat) (S : Option Addr) (ns ks : Nat) (w : World) (ht : p.ty = 1) (hw : p.hasWill = false) (hu : p.hasUser = false) (hp : p.hasPass = true) : Calls Try.prog 32 #[pkA p C nc kc S ns ks] w fun e w' => e = .returned (pkA (usedP p) none 0 0 none 0 0) ∧ Below w.heap.size w w' := by
  obtain ⟨ty, dup, id, topic, payload, qos, retain, client, clean, alive, hasWill, hasUser, hasPass, user, pass, present, codes, subs⟩ := p
  simp only at ht hw hu hp
  subst ht hw hu hp
  have hU : usedP ⟨1, dup, id, topic, payload, qos, retain, client, clean, alive, false, false, true, user, pass, present, codes, subs⟩ = ⟨1, false, 0, [], [], 0, false, client, clean, alive, false, false, true, [], pass, false, [], []⟩ := by unfold usedP; rfl
  rw [hU]
  clear hU
  simp only [pkA]
  go_enter Try.func32, Try.ntmps32
  go_upto_region 1 with fail
  generalize hW : w.alloc _ = W
  obtain ⟨g0, hg0, hB, bW, hsz⟩ := boxedP (p := ⟨1, dup, id, topic, payload, qos, retain, client, clean, alive, false, false, true, user, pass, present, codes, subs⟩) hW
  generalize hV : W.alloc _ = V
  obtain ⟨g1, hg1, hB2, bV, hsz2⟩ := boxedP (p := zeroP 0) hV
  have hw1 : w.heap.size + 1 = g1 := by omega
  rw [hw1, hg0]
  have HP := hide (hB.keep (by rw [hg1]; exact bV))
  have HR := hide hB2
  have HBW := hide (show Below w.heap.size w V from below_on (by rw [hg0]; exact bW) (by rw [hg1]; exact bV))
  have h01 : w.heap.size ≤ g1 := by omega
  have h02 : w.heap.size ≤ V.heap.size := by omega
  have h03 : g0 < V.heap.size := by omega
  have h04 : g1 < V.heap.size := by omega
  clear hW hV hB hB2 bW bV hsz hsz2 hg1 hw1
  have c0 := HP.out.p18.1
  simp only at c0
  go_upto_region 2 with (refine wpList_storeQ rfl 35 (.tmp 3) (.tmp 6) rfl V.heap.size 35 (zeroP 0) none 0 0 none 0 0 ⟨1, false, 0, [], [], 0, false, [], false, 0, false, false, false, [], [], false, [], []⟩ none 0 0 none 0 0 rfl rfl (Blk.new V 35 (pkVs (zeroP 0) none 0 0 none 0 0)) (by kernel_rfl) ?_; intro X0 bX BX)
  have bW : Below V.heap.size V X0 := But.below ((Below.refl _ _).alloc (Nat.le_refl _) _) BX (fun i e => by omega) (by simp)
  obtain ⟨g2, hg2⟩ : ∃ g2, V.heap.size = g2 := ⟨_, rfl⟩
  rw [hg2] at bX h02 h03 h04 ⊢
  have HP := hide (HP.out.keep bW)
  have HR := hide (HR.out.keep bW)
  have HBW := hide (below_on HBW.out bW)
  have HQ := hide bX
  clear c0 bX BX bW hg2
  have c0 := HP.out.p18.1
  simp only at c0
  go_upto_region 4 with fail
  clear c0
  have f1 := HQ.out.frozen
  have l1 := HQ.out.lt
  have c1 := HP.out.p18.2.2.2.2.2.2.2.1
  have d1 := HQ.out.p18.2.2.2.2.2.2.2.1
  simp only at c1 d1
  go_upto_region 5 with fail
  generalize hY : X0.setCell ⟨g2, 7, none⟩ (.string (str client)) = X1
  have HQ := hide (show Blk X1 g2 35 (pkVs ⟨1, false, 0, [], [], 0, false, client, false, 0, false, false, false, [], [], false, [], []⟩ none 0 0 none 0 0) from by rw [← hY]; exact HQ.out.set 7 _)
  have HP := hide (show Blk X1 g0 35 (pkVs ⟨1, dup, id, topic, payload, qos, retain, client, clean, alive, false, false, true, user, pass, present, codes, subs⟩ C nc kc S ns ks) from by rw [← hY]; exact HP.out.oth (by omega) 7 _)
  have HR := hide (show Blk X1 g1 35 (pkVs (zeroP 0) none 0 0 none 0 0) from by rw [← hY]; exact HR.out.oth (by omega) 7 _)
  have HBW := hide (show Below w.heap.size w X1 from by rw [← hY]; exact HBW.out.setCell h02 _)
  clear hY f1 l1 c1 d1
  have f1 := HQ.out.frozen
  have l1 := HQ.out.lt
  have c1 := HP.out.p18.2.2.2.2.2.2.2.2.1
  have d1 := HQ.out.p18.2.2.2.2.2.2.2.2.1
  simp only at c1 d1
  go_upto_region 6 with fail
  generalize hY : X1.setCell ⟨g2, 8, none⟩ (.bool clean) = X2
  have HQ := hide (show Blk X2 g2 35 (pkVs ⟨1, false, 0, [], [], 0, false, client, clean, 0, false, false, false, [], [], false, [], []⟩ none 0 0 none 0 0) from by rw [← hY]; exact HQ.out.set 8 _)
  have HP := hide (show Blk X2 g0 35 (pkVs ⟨1, dup, id, topic, payload, qos, retain, client, clean, alive, false, false, true, user, pass, present, codes, subs⟩ C nc kc S ns ks) from by rw [← hY]; exact HP.out.oth (by omega) 8 _)
  have HR := hide (show Blk X2 g1 35 (pkVs (zeroP 0) none 0 0 none 0 0) from by rw [← hY]; exact HR.out.oth (by omega) 8 _)
  have HBW := hide (show Below w.heap.size w X2 from by rw [← hY]; exact HBW.out.setCell h02 _)
  clear hY f1 l1 c1 d1
  have f1 := HQ.out.frozen
  have l1 := HQ.out.lt
  have c1 := HP.out.p18.2.2.2.2.2.2.2.2.2.1
  have d1 := HQ.out.p18.2.2.2.2.2.2.2.2.2.1
  simp only at c1 d1
  go_upto_region 7 with fail
  generalize hY : X2.setCell ⟨g2, 9, none⟩ (.int .i64 alive) = X3
  have HQ := hide (show Blk X3 g2 35 (pkVs ⟨1, false, 0, [], [], 0, false, client, clean, alive, false, false, false, [], [], false, [], []⟩ none 0 0 none 0 0) from by rw [← hY]; exact HQ.out.set 9 _)
  have HP := hide (show Blk X3 g0 35 (pkVs ⟨1, dup, id, topic, payload, qos, retain, client, clean, alive, false, false, true, user, pass, present, codes, subs⟩ C nc kc S ns ks) from by rw [← hY]; exact HP.out.oth (by omega) 9 _)
  have HR := hide (show Blk X3 g1 35 (pkVs (zeroP 0) none 0 0 none 0 0) from by rw [← hY]; exact HR.out.oth (by omega) 9 _)
  have HBW := hide (show Below w.heap.size w X3 from by rw [← hY]; exact HBW.out.setCell h02 _)
  clear hY f1 l1 c1 d1
  have f1 := HQ.out.frozen
  have l1 := HQ.out.lt
  have c1 := HP.out.p18.2.2.2.2.2.2.2.2.2.2.1
  have d1 := HQ.out.p18.2.2.2.2.2.2.2.2.2.2.1
  simp only at c1 d1
  go_upto_region 8 with fail
  generalize hY : X3.setCell ⟨g2, 10, none⟩ (.bool false) = X4
  have HQ := hide (show Blk X4 g2 35 (pkVs ⟨1, false, 0, [], [], 0, false, client, clean, alive, false, false, false, [], [], false, [], []⟩ none 0 0 none 0 0) from by rw [← hY]; exact HQ.out.set 10 _)
  have HP := hide (show Blk X4 g0 35 (pkVs ⟨1, dup, id, topic, payload, qos, retain, client, clean, alive, false, false, true, user, pass, present, codes, subs⟩ C nc kc S ns ks) from by rw [← hY]; exact HP.out.oth (by omega) 10 _)
  have HR := hide (show Blk X4 g1 35 (pkVs (zeroP 0) none 0 0 none 0 0) from by rw [← hY]; exact HR.out.oth (by omega) 10 _)
  have HBW := hide (show Below w.heap.size w X4 from by rw [← hY]; exact HBW.out.setCell h02 _)
  clear hY f1 l1 c1 d1
  have c1 := HP.out.p18.2.2.2.2.2.2.2.2.2.2.1
  simp only at c1
  go_upto_region 10 with fail
  clear c1
  have f1 := HQ.out.frozen
  have l1 := HQ.out.lt
  have c1 := HP.out.p18.2.2.2.2.2.2.2.2.2.2.2.1
  have d1 := HQ.out.p18.2.2.2.2.2.2.2.2.2.2.2.1
  simp only at c1 d1
  go_upto_region 11 with fail
  generalize hY : X4.setCell ⟨g2, 11, none⟩ (.bool false) = X5
  have HQ := hide (show Blk X5 g2 35 (pkVs ⟨1, false, 0, [], [], 0, false, client, clean, alive, false, false, false, [], [], false, [], []⟩ none 0 0 none 0 0) from by rw [← hY]; exact HQ.out.set 11 _)
  have HP := hide (show Blk X5 g0 35 (pkVs ⟨1, dup, id, topic, payload, qos, retain, client, clean, alive, false, false, true, user, pass, present, codes, subs⟩ C nc kc S ns ks) from by rw [← hY]; exact HP.out.oth (by omega) 11 _)
  have HR := hide (show Blk X5 g1 35 (pkVs (zeroP 0) none 0 0 none 0 0) from by rw [← hY]; exact HR.out.oth (by omega) 11 _)
  have HBW := hide (show Below w.heap.size w X5 from by rw [← hY]; exact HBW.out.setCell h02 _)
  clear hY f1 l1 c1 d1
  have c1 := HP.out.p18.2.2.2.2.2.2.2.2.2.2.2.1
  simp only at c1
  go_upto_region 13 with fail
  clear c1
  have f1 := HQ.out.frozen
  have l1 := HQ.out.lt
  have c1 := HP.out.p18.2.2.2.2.2.2.2.2.2.2.2.2.1
  have d1 := HQ.out.p18.2.2.2.2.2.2.2.2.2.2.2.2.1
  simp only at c1 d1
  go_upto_region 14 with fail
  generalize hY : X5.setCell ⟨g2, 12, none⟩ (.bool true) = X6
  have HQ := hide (show Blk X6 g2 35 (pkVs ⟨1, false, 0, [], [], 0, false, client, clean, alive, false, false, true, [], [], false, [], []⟩ none 0 0 none 0 0) from by rw [← hY]; exact HQ.out.set 12 _)
  have HP := hide (show Blk X6 g0 35 (pkVs ⟨1, dup, id, topic, payload, qos, retain, client, clean, alive, false, false, true, user, pass, present, codes, subs⟩ C nc kc S ns ks) from by rw [← hY]; exact HP.out.oth (by omega) 12 _)
  have HR := hide (show Blk X6 g1 35 (pkVs (zeroP 0) none 0 0 none 0 0) from by rw [← hY]; exact HR.out.oth (by omega) 12 _)
  have HBW := hide (show Below w.heap.size w X6 from by rw [← hY]; exact HBW.out.setCell h02 _)
  clear hY f1 l1 c1 d1
  have c1 := HP.out.p18.2.2.2.2.2.2.2.2.2.2.2.2.1
  simp only at c1
  go_upto_region 15 with fail
  clear c1
  have f1 := HQ.out.frozen
  have l1 := HQ.out.lt
  have c1 := HP.out.p18.2.2.2.2.2.2.2.2.2.2.2.2.2.2.1
  have d1 := HQ.out.p18.2.2.2.2.2.2.2.2.2.2.2.2.2.2.1
  simp only at c1 d1
  go_upto_region 36 with fail
  generalize hY : X6.setCell ⟨g2, 14, none⟩ (.string (str pass)) = X7
  have HQ := hide (show Blk X7 g2 35 (pkVs ⟨1, false, 0, [], [], 0, false, client, clean, alive, false, false, true, [], pass, false, [], []⟩ none 0 0 none 0 0) from by rw [← hY]; exact HQ.out.set 14 _)
  have HP := hide (show Blk X7 g0 35 (pkVs ⟨1, dup, id, topic, payload, qos, retain, client, clean, alive, false, false, true, user, pass, present, codes, subs⟩ C nc kc S ns ks) from by rw [← hY]; exact HP.out.oth (by omega) 14 _)
  have HR := hide (show Blk X7 g1 35 (pkVs (zeroP 0) none 0 0 none 0 0) from by rw [← hY]; exact HR.out.oth (by omega) 14 _)
  have HBW := hide (show Below w.heap.size w X7 from by rw [← hY]; exact HBW.out.setCell h02 _)
  clear hY f1 l1 c1 d1
  refine wp_region_lit ?_
  refine wpList_loadP rfl 35 (.tmp 3) rfl g2 35 ⟨1, false, 0, [], [], 0, false, client, clean, alive, false, false, true, [], pass, false, [], []⟩ none 0 0 none 0 0 rfl HQ.out Try.underlying35 rfl (by kernel_rfl) ?_
  refine wpList_storeQ rfl 35 (.tmp 2) (.tmp 89) rfl g1 35 (zeroP 0) none 0 0 none 0 0 ⟨1, false, 0, [], [], 0, false, client, clean, alive, false, false, true, [], pass, false, [], []⟩ none 0 0 none 0 0 rfl rfl HR.out (by kernel_rfl) ?_
  intro U bU BU
  have hB := But.below HBW.out BU (fun i e => by omega) HBW.out.size
  go_wp2_with fail
  refine bodyPost_ret (results_cell rfl rfl bU Try.underlying35 rfl (by kernel_rfl)) rfl ?_
  exact ⟨rfl, hg0 ▸ hB⟩

set_option maxRecDepth 100000 in
set_option maxHeartbeats 8000000 in
theorem used1_010 (p : Pk) (C : Option Addr) (nc kc : Nat) (S : Option Addr) (ns ks : Nat) (w : World) (ht : p.ty = 1) (hw : p.hasWill = false) (hu : p.hasUser = true) (hp : p.hasPass = false) : Calls Try.prog 32 #[pkA p C nc kc S ns ks] w fun e w' => e = .returned (pkA (usedP p) none 0 0 none 0 0) ∧ Below w.heap.size w w' := by
  obtain ⟨ty, dup, id, topic, payload, qos, retain, client, clean, alive, hasWill, hasUser, hasPass, user, pass, present, codes, subs⟩ := p
  simp only at ht hw hu hp
  subst ht hw hu hp
  have hU : usedP ⟨1, dup, id, topic, payload, qos, retain, client, clean, alive, false, true, false, user, pass, present, codes, subs⟩ = ⟨1, false, 0, [], [], 0, false, client, clean, alive, false, true, false, user, [], false, [], []⟩ := by unfold usedP; rfl
  rw [hU]
  clear hU
  simp only [pkA]
  go_enter Try.func32, Try.ntmps32
  go_upto_region 1 with fail
  generalize hW : w.alloc _ = W
  obtain ⟨g0, hg0, hB, bW, hsz⟩ := boxedP (p := ⟨1, dup, id, topic, payload, qos, retain, client, clean, alive, false, true, false, user, pass, present, codes, subs⟩) hW
  generalize hV : W.alloc _ = V
  obtain ⟨g1, hg1, hB2, bV, hsz2⟩ := boxedP (p := zeroP 0) hV
  have hw1 : w.heap.size + 1 = g1 := by omega
  rw [hw1, hg0]
  have HP := hide (hB.keep (by rw [hg1]; exact bV))
  have HR := hide hB2
  have HBW := hide (show Below w.heap.size w V from below_on (by rw [hg0]; exact bW) (by rw [hg1]; exact bV))
  have h01 : w.heap.size ≤ g1 := by omega
  have h02 : w.heap.size ≤ V.heap.size := by omega
  have h03 : g0 < V.heap.size := by omega
  have h04 : g1 < V.heap.size := by omega
  clear hW hV hB hB2 bW bV hsz hsz2 hg1 hw1
  have c0 := HP.out.p18.1
  simp only at c0
  go_upto_region 2 with (refine wpList_storeQ rfl 35 (.tmp 3) (.tmp 6) rfl V.heap.size 35 (zeroP 0) none 0 0 none 0 0 ⟨1, false, 0, [], [], 0, false, [], false, 0, false, false, false, [], [], false, [], []⟩ none 0 0 none 0 0 rfl rfl (Blk.new V 35 (pkVs (zeroP 0) none 0 0 none 0 0)) (by kernel_rfl) ?_; intro X0 bX BX)
  have bW : Below V.heap.size V X0 := But.below ((Below.refl _ _).alloc (Nat.le_refl _) _) BX (fun i e => by omega) (by simp)
  obtain ⟨g2, hg2⟩ : ∃ g2, V.heap.size = g2 := ⟨_, rfl⟩
  rw [hg2] at bX h02 h03 h04 ⊢
  have HP := hide (HP.out.keep bW)
  have HR := hide (HR.out.keep bW)
  have HBW := hide (below_on HBW.out bW)
  have HQ := hide bX
  clear c0 bX BX bW hg2
  have c0 := HP.out.p18.1
  simp only at c0
  go_upto_region 4 with fail
  clear c0
  have f1 := HQ.out.frozen
  have l1 := HQ.out.lt
  have c1 := HP.out.p18.2.2.2.2.2.2.2.1
  have d1 := HQ.out.p18.2.2.2.2.2.2.2.1
  simp only at c1 d1
  go_upto_region 5 with fail
  generalize hY : X0.setCell ⟨g2, 7, none⟩ (.string (str client)) = X1
  have HQ := hide (show Blk X1 g2 35 (pkVs ⟨1, false, 0, [], [], 0, false, client, false, 0, false, false, false, [], [], false, [], []⟩ none 0 0 none 0 0) from by rw [← hY]; exact HQ.out.set 7 _)
  have HP := hide (show Blk X1 g0 35 (pkVs ⟨1, dup, id, topic, payload, qos, retain, client, clean, alive, false, true, false, user, pass, present, codes, subs⟩ C nc kc S ns ks) from by rw [← hY]; exact HP.out.oth (by omega) 7 _)
  have HR := hide (show Blk X1 g1 35 (pkVs (zeroP 0) none 0 0 none 0 0) from by rw [← hY]; exact HR.out.oth (by omega) 7 _)
  have HBW := hide (show Below w.heap.size w X1 from by rw [← hY]; exact HBW.out.setCell h02 _)
  clear hY f1 l1 c1 d1
  have f1 := HQ.out.frozen
  have l1 := HQ.out.lt
  have c1 := HP.out.p18.2.2.2.2.2.2.2.2.1
  have d1 := HQ.out.p18.2.2.2.2.2.2.2.2.1
  simp only at c1 d1
  go_upto_region 6 with fail
  generalize hY : X1.setCell ⟨g2, 8, none⟩ (.bool clean) = X2
  have HQ := hide (show Blk X2 g2 35 (pkVs ⟨1, false, 0, [], [], 0, false, client, clean, 0, false, false, false, [], [], false, [], []⟩ none 0 0 none 0 0) from by rw [← hY]; exact HQ.out.set 8 _)
  have HP := hide (show Blk X2 g0 35 (pkVs ⟨1, dup, id, topic, payload, qos, retain, client, clean, alive, false, true, false, user, pass, present, codes, subs⟩ C nc kc S ns ks) from by rw [← hY]; exact HP.out.oth (by omega) 8 _)
  have HR := hide (show Blk X2 g1 35 (pkVs (zeroP 0) none 0 0 none 0 0) from by rw [← hY]; exact HR.out.oth (by omega) 8 _)
  have HBW := hide (show Below w.heap.size w X2 from by rw [← hY]; exact HBW.out.setCell h02 _)
  clear hY f1 l1 c1 d1
  have f1 := HQ.out.frozen
  have l1 := HQ.out.lt
  have c1 := HP.out.p18.2.2.2.2.2.2.2.2.2.1
  have d1 := HQ.out.p18.2.2.2.2.2.2.2.2.2.1
  simp only at c1 d1
  go_upto_region 7 with fail
  generalize hY : X2.setCell ⟨g2, 9, none⟩ (.int .i64 alive) = X3
  have HQ := hide (show Blk X3 g2 35 (pkVs ⟨1, false, 0, [], [], 0, false, client, clean, alive, false, false, false, [], [], false, [], []⟩ none 0 0 none 0 0) from by rw [← hY]; exact HQ.out.set 9 _)
  have HP := hide (show Blk X3 g0 35 (pkVs ⟨1, dup, id, topic, payload, qos, retain, client, clean, alive, false, true, false, user, pass, present, codes, subs⟩ C nc kc S ns ks) from by rw [← hY]; exact HP.out.oth (by omega) 9 _)
  have HR := hide (show Blk X3 g1 35 (pkVs (zeroP 0) none 0 0 none 0 0) from by rw [← hY]; exact HR.out.oth (by omega) 9 _)
  have HBW := hide (show Below w.heap.size w X3 from by rw [← hY]; exact HBW.out.setCell h02 _)
  clear hY f1 l1 c1 d1
  have f1 := HQ.out.frozen
  have l1 := HQ.out.lt
  have c1 := HP.out.p18.2.2.2.2.2.2.2.2.2.2.1
  have d1 := HQ.out.p18.2.2.2.2.2.2.2.2.2.2.1
  simp only at c1 d1
  go_upto_region 8 with fail
  generalize hY : X3.setCell ⟨g2, 10, none⟩ (.bool false) = X4
  have HQ := hide (show Blk X4 g2 35 (pkVs ⟨1, false, 0, [], [], 0, false, client, clean, alive, false, false, false, [], [], false, [], []⟩ none 0 0 none 0 0) from by rw [← hY]; exact HQ.out.set 10 _)
  have HP := hide (show Blk X4 g0 35 (pkVs ⟨1, dup, id, topic, payload, qos, retain, client, clean, alive, false, true, false, user, pass, present, codes, subs⟩ C nc kc S ns ks) from by rw [← hY]; exact HP.out.oth (by omega) 10 _)
  have HR := hide (show Blk X4 g1 35 (pkVs (zeroP 0) none 0 0 none 0 0) from by rw [← hY]; exact HR.out.oth (by omega) 10 _)
  have HBW := hide (show Below w.heap.size w X4 from by rw [← hY]; exact HBW.out.setCell h02 _)
  clear hY f1 l1 c1 d1
  have c1 := HP.out.p18.2.2.2.2.2.2.2.2.2.2.1
  simp only at c1
  go_upto_region 10 with fail
  clear c1
  have f1 := HQ.out.frozen
  have l1 := HQ.out.lt
  have c1 := HP.out.p18.2.2.2.2.2.2.2.2.2.2.2.1
  have d1 := HQ.out.p18.2.2.2.2.2.2.2.2.2.2.2.1
  simp only at c1 d1
  go_upto_region 11 with fail
  generalize hY : X4.setCell ⟨g2, 11, none⟩ (.bool true) = X5
  have HQ := hide (show Blk X5 g2 35 (pkVs ⟨1, false, 0, [], [], 0, false, client, clean, alive, false, true, false, [], [], false, [], []⟩ none 0 0 none 0 0) from by rw [← hY]; exact HQ.out.set 11 _)
  have HP := hide (show Blk X5 g0 35 (pkVs ⟨1, dup, id, topic, payload, qos, retain, client, clean, alive, false, true, false, user, pass, present, codes, subs⟩ C nc kc S ns ks) from by rw [← hY]; exact HP.out.oth (by omega) 11 _)
  have HR := hide (show Blk X5 g1 35 (pkVs (zeroP 0) none 0 0 none 0 0) from by rw [← hY]; exact HR.out.oth (by omega) 11 _)
  have HBW := hide (show Below w.heap.size w X5 from by rw [← hY]; exact HBW.out.setCell h02 _)
  clear hY f1 l1 c1 d1
  have c1 := HP.out.p18.2.2.2.2.2.2.2.2.2.2.2.1
  simp only at c1
  go_upto_region 12 with fail
  clear c1
  have f1 := HQ.out.frozen
  have l1 := HQ.out.lt
  have c1 := HP.out.p18.2.2.2.2.2.2.2.2.2.2.2.2.2.1
  have d1 := HQ.out.p18.2.2.2.2.2.2.2.2.2.2.2.2.2.1
  simp only at c1 d1
  go_upto_region 13 with fail
  generalize hY : X5.setCell ⟨g2, 13, none⟩ (.string (str user)) = X6
  have HQ := hide (show Blk X6 g2 35 (pkVs ⟨1, false, 0, [], [], 0, false, client, clean, alive, false, true, false, user, [], false, [], []⟩ none 0 0 none 0 0) from by rw [← hY]; exact HQ.out.set 13 _)
  have HP := hide (show Blk X6 g0 35 (pkVs ⟨1, dup, id, topic, payload, qos, retain, client, clean, alive, false, true, false, user, pass, present, codes, subs⟩ C nc kc S ns ks) from by rw [← hY]; exact HP.out.oth (by omega) 13 _)
  have HR := hide (show Blk X6 g1 35 (pkVs (zeroP 0) none 0 0 none 0 0) from by rw [← hY]; exact HR.out.oth (by omega) 13 _)
  have HBW := hide (show Below w.heap.size w X6 from by rw [← hY]; exact HBW.out.setCell h02 _)
  clear hY f1 l1 c1 d1
  have f1 := HQ.out.frozen
  have l1 := HQ.out.lt
  have c1 := HP.out.p18.2.2.2.2.2.2.2.2.2.2.2.2.1
  have d1 := HQ.out.p18.2.2.2.2.2.2.2.2.2.2.2.2.1
  simp only at c1 d1
  go_upto_region 14 with fail
  generalize hY : X6.setCell ⟨g2, 12, none⟩ (.bool false) = X7
  have HQ := hide (show Blk X7 g2 35 (pkVs ⟨1, false, 0, [], [], 0, false, client, clean, alive, false, true, false, user, [], false, [], []⟩ none 0 0 none 0 0) from by rw [← hY]; exact HQ.out.set 12 _)
  have HP := hide (show Blk X7 g0 35 (pkVs ⟨1, dup, id, topic, payload, qos, retain, client, clean, alive, false, true, false, user, pass, present, codes, subs⟩ C nc kc S ns ks) from by rw [← hY]; exact HP.out.oth (by omega) 12 _)
  have HR := hide (show Blk X7 g1 35 (pkVs (zeroP 0) none 0 0 none 0 0) from by rw [← hY]; exact HR.out.oth (by omega) 12 _)
  have HBW := hide (show Below w.heap.size w X7 from by rw [← hY]; exact HBW.out.setCell h02 _)
  clear hY f1 l1 c1 d1
  have c1 := HP.out.p18.2.2.2.2.2.2.2.2.2.2.2.2.1
  simp only at c1
  go_upto_region 36 with fail
  clear c1
  refine wp_region_lit ?_
  refine wpList_loadP rfl 35 (.tmp 3) rfl g2 35 ⟨1, false, 0, [], [], 0, false, client, clean, alive, false, true, false, user, [], false, [], []⟩ none 0 0 none 0 0 rfl HQ.out Try.underlying35 rfl (by kernel_rfl) ?_
  refine wpList_storeQ rfl 35 (.tmp 2) (.tmp 89) rfl g1 35 (zeroP 0) none 0 0 none 0 0 ⟨1, false, 0, [], [], 0, false, client, clean, alive, false, true, false, user, [], false, [], []⟩ none 0 0 none 0 0 rfl rfl HR.out (by kernel_rfl) ?_
  intro U bU BU
  have hB := But.below HBW.out BU (fun i e => by omega) HBW.out.size
  go_wp2_with fail
  refine bodyPost_ret (results_cell rfl rfl bU Try.underlying35 rfl (by kernel_rfl)) rfl ?_
  exact ⟨rfl, hg0 ▸ hB⟩

set_option maxRecDepth 100000 in
set_option maxHeartbeats 8000000 in
theorem used1_011 (p : Pk) (C : Option Addr) (nc kc : Nat) (S : Option Addr) (ns ks : Nat) (w : World) (ht : p.ty = 1) (hw : p.hasWill = false) (hu : p.hasUser = true) (hp : p.hasPass = true) : Calls Try.prog 32 #[pkA p C nc kc S ns ks] w fun e w' => e = .returned (pkA (usedP p) none 0 0 none 0 0) ∧ Below w.heap.size w w' := by
  obtain ⟨ty, dup, id, topic, payload, qos, retain, client, clean, alive, hasWill, hasUser, hasPass, user, pass, present, codes, subs⟩ := p
  simp only at ht hw hu hp
  subst ht hw hu hp
  have hU : usedP ⟨1, dup, id, topic, payload, qos, retain, client, clean, alive, false, true, true, user, pass, present, codes, subs⟩ = ⟨1, false, 0, [], [], 0, false, client, clean, alive, false, true, true, user, pass, false, [], []⟩ := by unfold usedP; rfl
  rw [hU]
  clear hU
  simp only [pkA]
  go_enter Try.func32, Try.ntmps32
  go_upto_region 1 with fail
  generalize hW : w.alloc _ = W
  obtain ⟨g0, hg0, hB, bW, hsz⟩ := boxedP (p := ⟨1, dup, id, topic, payload, qos, retain, client, clean, alive, false, true, true, user, pass, present, codes, subs⟩) hW
  generalize hV : W.alloc _ = V
  obtain ⟨g1, hg1, hB2, bV, hsz2⟩ := boxedP (p := zeroP 0) hV
  have hw1 : w.heap.size + 1 = g1 := by omega
  rw [hw1, hg0]
  have HP := hide (hB.keep (by rw [hg1]; exact bV))
  have HR := hide hB2
  have HBW := hide (show Below w.heap.size w V from below_on (by rw [hg0]; exact bW) (by rw [hg1]; exact bV))
  have h01 : w.heap.size ≤ g1 := by omega
  have h02 : w.heap.size ≤ V.heap.size := by omega
  have h03 : g0 < V.heap.size := by omega
  have h04 : g1 < V.heap.size := by omega
  clear hW hV hB hB2 bW bV hsz hsz2 hg1 hw1
  have c0 := HP.out.p18.1
  simp only at c0
  go_upto_region 2 with (refine wpList_storeQ rfl 35 (.tmp 3) (.tmp 6) rfl V.heap.size 35 (zeroP 0) none 0 0 none 0 0 ⟨1, false, 0, [], [], 0, false, [], false, 0, false, false, false, [], [], false, [], []⟩ none 0 0 none 0 0 rfl rfl (Blk.new V 35 (pkVs (zeroP 0) none 0 0 none 0 0)) (by kernel_rfl) ?_; intro X0 bX BX)
  have bW : Below V.heap.size V X0 := But.below ((Below.refl _ _).alloc (Nat.le_refl _) _) BX (fun i e => by omega) (by simp)
  obtain ⟨g2, hg2⟩ : ∃ g2, V.heap.size = g2 := ⟨_, rfl⟩
  rw [hg2] at bX h02 h03 h04 ⊢
  have HP := hide (HP.out.keep bW)
  have HR := hide (HR.out.keep bW)
  have HBW := hide (below_on HBW.out bW)
  have HQ := hide bX
  clear c0 bX BX bW hg2
  have c0 := HP.out.p18.1
  simp only at c0
  go_upto_region 4 with fail
  clear c0
  have f1 := HQ.out.frozen
  have l1 := HQ.out.lt
  have c1 := HP.out.p18.2.2.2.2.2.2.2.1
  have d1 := HQ.out.p18.2.2.2.2.2.2.2.1
  simp only at c1 d1
  go_upto_region 5 with fail
  generalize hY : X0.setCell ⟨g2, 7, none⟩ (.string (str client)) = X1
  have HQ := hide (show Blk X1 g2 35 (pkVs ⟨1, false, 0, [], [], 0, false, client, false, 0, false, false, false, [], [], false, [], []⟩ none 0 0 none 0 0) from by rw [← hY]; exact HQ.out.set 7 _)
  have HP := hide (show Blk X1 g0 35 (pkVs ⟨1, dup, id, topic, payload, qos, retain, client, clean, alive, false, true, true, user, pass, present, codes, subs⟩ C nc kc S ns ks) from by rw [← hY]; exact HP.out.oth (by omega) 7 _)
  have HR := hide (show Blk X1 g1 35 (pkVs (zeroP 0) none 0 0 none 0 0) from by rw [← hY]; exact HR.out.oth (by omega) 7 _)
  have HBW := hide (show Below w.heap.size w X1 from by rw [← hY]; exact HBW.out.setCell h02 _)
  clear hY f1 l1 c1 d1
  have f1 := HQ.out.frozen
  have l1 := HQ.out.lt
  have c1 := HP.out.p18.2.2.2.2.2.2.2.2.1
  have d1 := HQ.out.p18.2.2.2.2.2.2.2.2.1
  simp only at c1 d1
  go_upto_region 6 with fail
  generalize hY : X1.setCell ⟨g2, 8, none⟩ (.bool clean) = X2
  have HQ := hide (show Blk X2 g2 35 (pkVs ⟨1, false, 0, [], [], 0, false, client, clean, 0, false, false, false, [], [], false, [], []⟩ none 0 0 none 0 0) from by rw [← hY]; exact HQ.out.set 8 _)
  have HP := hide (show Blk X2 g0 35 (pkVs ⟨1, dup, id, topic, payload, qos, retain, client, clean, alive, false, true, true, user, pass, present, codes, subs⟩ C nc kc S ns ks) from by rw [← hY]; exact HP.out.oth (by omega) 8 _)
  have HR := hide (show Blk X2 g1 35 (pkVs (zeroP 0) none 0 0 none 0 0) from by rw [← hY]; exact HR.out.oth (by omega) 8 _)
  have HBW := hide (show Below w.heap.size w X2 from by rw [← hY]; exact HBW.out.setCell h02 _)
  clear hY f1 l1 c1 d1
  have f1 := HQ.out.frozen
  have l1 := HQ.out.lt
  have c1 := HP.out.p18.2.2.2.2.2.2.2.2.2.1
  have d1 := HQ.out.p18.2.2.2.2.2.2.2.2.2.1
  simp only at c1 d1
  go_upto_region 7 with fail
  generalize hY : X2.setCell ⟨g2, 9, none⟩ (.int .i64 alive) = X3
  have HQ := hide (show Blk X3 g2 35 (pkVs ⟨1, false, 0, [], [], 0, false, client, clean, alive, false, false, false, [], [], false, [], []⟩ none 0 0 none 0 0) from by rw [← hY]; exact HQ.out.set 9 _)
  have HP := hide (show Blk X3 g0 35 (pkVs ⟨1, dup, id, topic, payload, qos, retain, client, clean, alive, false, true, true, user, pass, present, codes, subs⟩ C nc kc S ns ks) from by rw [← hY]; exact HP.out.oth (by omega) 9 _)
  have HR := hide (show Blk X3 g1 35 (pkVs (zeroP 0) none 0 0 none 0 0) from by rw [← hY]; exact HR.out.oth (by omega) 9 _)
  have HBW := hide (show Below w.heap.size w X3 from by rw [← hY]; exact HBW.out.setCell h02 _)
  clear hY f1 l1 c1 d1
  have f1 := HQ.out.frozen
  have l1 := HQ.out.lt
  have c1 := HP.out.p18.2.2.2.2.2.2.2.2.2.2.1
  have d1 := HQ.out.p18.2.2.2.2.2.2.2.2.2.2.1
  simp only at c1 d1
  go_upto_region 8 with fail
  generalize hY : X3.setCell ⟨g2, 10, none⟩ (.bool false) = X4
  have HQ := hide (show Blk X4 g2 35 (pkVs ⟨1, false, 0, [], [], 0, false, client, clean, alive, false, false, false, [], [], false, [], []⟩ none 0 0 none 0 0) from by rw [← hY]; exact HQ.out.set 10 _)
  have HP := hide (show Blk X4 g0 35 (pkVs ⟨1, dup, id, topic, payload, qos, retain, client, clean, alive, false, true, true, user, pass, present, codes, subs⟩ C nc kc S ns ks) from by rw [← hY]; exact HP.out.oth (by omega) 10 _)
  have HR := hide (show Blk X4 g1 35 (pkVs (zeroP 0) none 0 0 none 0 0) from by rw [← hY]; exact HR.out.oth (by omega) 10 _)
  have HBW := hide (show Below w.heap.size w X4 from by rw [← hY]; exact HBW.out.setCell h02 _)
  clear hY f1 l1 c1 d1
  have c1 := HP.out.p18.2.2.2.2.2.2.2.2.2.2.1
  simp only at c1
  go_upto_region 10 with fail
  clear c1
  have f1 := HQ.out.frozen
  have l1 := HQ.out.lt
  have c1 := HP.out.p18.2.2.2.2.2.2.2.2.2.2.2.1
  have d1 := HQ.out.p18.2.2.2.2.2.2.2.2.2.2.2.1
  simp only at c1 d1
  go_upto_region 11 with fail
  generalize hY : X4.setCell ⟨g2, 11, none⟩ (.bool true) = X5
  have HQ := hide (show Blk X5 g2 35 (pkVs ⟨1, false, 0, [], [], 0, false, client, clean, alive, false, true, false, [], [], false, [], []⟩ none 0 0 none 0 0) from by rw [← hY]; exact HQ.out.set 11 _)
  have HP := hide (show Blk X5 g0 35 (pkVs ⟨1, dup, id, topic, payload, qos, retain, client, clean, alive, false, true, true, user, pass, present, codes, subs⟩ C nc kc S ns ks) from by rw [← hY]; exact HP.out.oth (by omega) 11 _)
  have HR := hide (show Blk X5 g1 35 (pkVs (zeroP 0) none 0 0 none 0 0) from by rw [← hY]; exact HR.out.oth (by omega) 11 _)
  have HBW := hide (show Below w.heap.size w X5 from by rw [← hY]; exact HBW.out.setCell h02 _)
  clear hY f1 l1 c1 d1
  have c1 := HP.out.p18.2.2.2.2.2.2.2.2.2.2.2.1
  simp only at c1
  go_upto_region 12 with fail
  clear c1
  have f1 := HQ.out.frozen
  have l1 := HQ.out.lt
  have c1 := HP.out.p18.2.2.2.2.2.2.2.2.2.2.2.2.2.1
  have d1 := HQ.out.p18.2.2.2.2.2.2.2.2.2.2.2.2.2.1
  simp only at c1 d1
  go_upto_region 13 with fail
  generalize hY : X5.setCell ⟨g2, 13, none⟩ (.string (str user)) = X6
  have HQ := hide (show Blk X6 g2 35 (pkVs ⟨1, false, 0, [], [], 0, false, client, clean, alive, false, true, false, user, [], false, [], []⟩ none 0 0 none 0 0) from by rw [← hY]; exact HQ.out.set 13 _)
  have HP := hide (show Blk X6 g0 35 (pkVs ⟨1, dup, id, topic, payload, qos, retain, client, clean, alive, false, true, true, user, pass, present, codes, subs⟩ C nc kc S ns ks) from by rw [← hY]; exact HP.out.oth (by omega) 13 _)
  have HR := hide (show Blk X6 g1 35 (pkVs (zeroP 0) none 0 0 none 0 0) from by rw [← hY]; exact HR.out.oth (by omega) 13 _)
  have HBW := hide (show Below w.heap.size w X6 from by rw [← hY]; exact HBW.out.setCell h02 _)
  clear hY f1 l1 c1 d1
  have f1 := HQ.out.frozen
  have l1 := HQ.out.lt
  have c1 := HP.out.p18.2.2.2.2.2.2.2.2.2.2.2.2.1
  have d1 := HQ.out.p18.2.2.2.2.2.2.2.2.2.2.2.2.1
  simp only at c1 d1
  go_upto_region 14 with fail
  generalize hY : X6.setCell ⟨g2, 12, none⟩ (.bool true) = X7
  have HQ := hide (show Blk X7 g2 35 (pkVs ⟨1, false, 0, [], [], 0, false, client, clean, alive, false, true, true, user, [], false, [], []⟩ none 0 0 none 0 0) from by rw [← hY]; exact HQ.out.set 12 _)
  have HP := hide (show Blk X7 g0 35 (pkVs ⟨1, dup, id, topic, payload, qos, retain, client, clean, alive, false, true, true, user, pass, present, codes, subs⟩ C nc kc S ns ks) from by rw [← hY]; exact HP.out.oth (by omega) 12 _)
  have HR := hide (show Blk X7 g1 35 (pkVs (zeroP 0) none 0 0 none 0 0) from by rw [← hY]; exact HR.out.oth (by omega) 12 _)
  have HBW := hide (show Below w.heap.size w X7 from by rw [← hY]; exact HBW.out.setCell h02 _)
  clear hY f1 l1 c1 d1
  have c1 := HP.out.p18.2.2.2.2.2.2.2.2.2.2.2.2.1
  simp only at c1
  go_upto_region 15 with fail
  clear c1
  have f1 := HQ.out.frozen
  have l1 := HQ.out.lt
  have c1 := HP.out.p18.2.2.2.2.2.2.2.2.2.2.2.2.2.2.1
  have d1 := HQ.out.p18.2.2.2.2.2.2.2.2.2.2.2.2.2.2.1
  simp only at c1 d1
  go_upto_region 36 with fail
  generalize hY : X7.setCell ⟨g2, 14, none⟩ (.string (str pass)) = X8
  have HQ := hide (show Blk X8 g2 35 (pkVs ⟨1, false, 0, [], [], 0, false, client, clean, alive, false, true, true, user, pass, false, [], []⟩ none 0 0 none 0 0) from by rw [← hY]; exact HQ.out.set 14 _)
  have HP := hide (show Blk X8 g0 35 (pkVs ⟨1, dup, id, topic, payload, qos, retain, client, clean, alive, false, true, true, user, pass, present, codes, subs⟩ C nc kc S ns ks) from by rw [← hY]; exact HP.out.oth (by omega) 14 _)
  have HR := hide (show Blk X8 g1 35 (pkVs (zeroP 0) none 0 0 none 0 0) from by rw [← hY]; exact HR.out.oth (by omega) 14 _)
  have HBW := hide (show Below w.heap.size w X8 from by rw [← hY]; exact HBW.out.setCell h02 _)
  clear hY f1 l1 c1 d1
  refine wp_region_lit ?_
  refine wpList_loadP rfl 35 (.tmp 3) rfl g2 35 ⟨1, false, 0, [], [], 0, false, client, clean, alive, false, true, true, user, pass, false, [], []⟩ none 0 0 none 0 0 rfl HQ.out Try.underlying35 rfl (by kernel_rfl) ?_
  refine wpList_storeQ rfl 35 (.tmp 2) (.tmp 89) rfl g1 35 (zeroP 0) none 0 0 none 0 0 ⟨1, false, 0, [], [], 0, false, client, clean, alive, false, true, true, user, pass, false, [], []⟩ none 0 0 none 0 0 rfl rfl HR.out (by kernel_rfl) ?_
  intro U bU BU
  have hB := But.below HBW.out BU (fun i e => by omega) HBW.out.size
  go_wp2_with fail
  refine bodyPost_ret (results_cell rfl rfl bU Try.underlying35 rfl (by kernel_rfl)) rfl ?_
  exact ⟨rfl, hg0 ▸ hB⟩

end Go.Proofs.Ytkgidimaiedocaa

namespace Go.Proofs.Ytkgidimaiedocaa
set_option linter.unusedVariables false
set_option linter.unusedSimpArgs false
open Go.RowKit

set_option maxRecDepth 100000 in
set_option maxHeartbeats 8000000 in
theorem used1_100 (p : Pk) (C : Option Addr) (nc kc : Nat) (S : Option Addr) (ns ks : Nat) (w : World) (ht : p.ty = 1) (hw : p.hasWill = true) (hu : p.hasUser = false) (hp : p.hasPass = false) : Calls Try.prog 32 #[pkA p C nc kc S ns ks] w fun e w' => e = .returned (pkA (usedP p) none 0 0 none 0 0) ∧ Below w.heap.size w w' := by
  obtain ⟨ty, dup, id, topic, payload, qos, retain, client, clean, alive, hasWill, hasUser, hasPass, user, pass, present, codes, subs⟩ := p
  simp only at ht hw hu hp
  subst ht hw hu hp
  have hU : usedP ⟨1, dup, id, topic, payload, qos, retain, client, clean, alive, true, false, false, user, pass, present, codes, subs⟩ = ⟨1, false, 0, topic, payload, qos, retain, client, clean, alive, true, false, false, [], [], false, [], []⟩ := by unfold usedP; rfl
  rw [hU]
  clear hU
  simp only [pkA]
  go_enter Try.func32, Try.ntmps32
  go_upto_region 1 with fail
  generalize hW : w.alloc _ = W
  obtain ⟨g0, hg0, hB, bW, hsz⟩ := boxedP (p := ⟨1, dup, id, topic, payload, qos, retain, client, clean, alive, true, false, false, user, pass, present, codes, subs⟩) hW
  generalize hV : W.alloc _ = V
  obtain ⟨g1, hg1, hB2, bV, hsz2⟩ := boxedP (p := zeroP 0) hV
  have hw1 : w.heap.size + 1 = g1 := by omega
  rw [hw1, hg0]
  have HP := hide (hB.keep (by rw [hg1]; exact bV))
  have HR := hide hB2
  have HBW := hide (show Below w.heap.size w V from below_on (by rw [hg0]; exact bW) (by rw [hg1]; exact bV))
  have h01 : w.heap.size ≤ g1 := by omega
  have h02 : w.heap.size ≤ V.heap.size := by omega
  have h03 : g0 < V.heap.size := by omega
  have h04 : g1 < V.heap.size := by omega
  clear hW hV hB hB2 bW bV hsz hsz2 hg1 hw1
  have c0 := HP.out.p18.1
  simp only at c0
  go_upto_region 2 with (refine wpList_storeQ rfl 35 (.tmp 3) (.tmp 6) rfl V.heap.size 35 (zeroP 0) none 0 0 none 0 0 ⟨1, false, 0, [], [], 0, false, [], false, 0, false, false, false, [], [], false, [], []⟩ none 0 0 none 0 0 rfl rfl (Blk.new V 35 (pkVs (zeroP 0) none 0 0 none 0 0)) (by kernel_rfl) ?_; intro X0 bX BX)
  have bW : Below V.heap.size V X0 := But.below ((Below.refl _ _).alloc (Nat.le_refl _) _) BX (fun i e => by omega) (by simp)
  obtain ⟨g2, hg2⟩ : ∃ g2, V.heap.size = g2 := ⟨_, rfl⟩
  rw [hg2] at bX h02 h03 h04 ⊢
  have HP := hide (HP.out.keep bW)
  have HR := hide (HR.out.keep bW)
  have HBW := hide (below_on HBW.out bW)
  have HQ := hide bX
  clear c0 bX BX bW hg2
  have c0 := HP.out.p18.1
  simp only at c0
  go_upto_region 4 with fail
  clear c0
  have f1 := HQ.out.frozen
  have l1 := HQ.out.lt
  have c1 := HP.out.p18.2.2.2.2.2.2.2.1
  have d1 := HQ.out.p18.2.2.2.2.2.2.2.1
  simp only at c1 d1
  go_upto_region 5 with fail
  generalize hY : X0.setCell ⟨g2, 7, none⟩ (.string (str client)) = X1
  have HQ := hide (show Blk X1 g2 35 (pkVs ⟨1, false, 0, [], [], 0, false, client, false, 0, false, false, false, [], [], false, [], []⟩ none 0 0 none 0 0) from by rw [← hY]; exact HQ.out.set 7 _)
  have HP := hide (show Blk X1 g0 35 (pkVs ⟨1, dup, id, topic, payload, qos, retain, client, clean, alive, true, false, false, user, pass, present, codes, subs⟩ C nc kc S ns ks) from by rw [← hY]; exact HP.out.oth (by omega) 7 _)
  have HR := hide (show Blk X1 g1 35 (pkVs (zeroP 0) none 0 0 none 0 0) from by rw [← hY]; exact HR.out.oth (by omega) 7 _)
  have HBW := hide (show Below w.heap.size w X1 from by rw [← hY]; exact HBW.out.setCell h02 _)
  clear hY f1 l1 c1 d1
  have f1 := HQ.out.frozen
  have l1 := HQ.out.lt
  have c1 := HP.out.p18.2.2.2.2.2.2.2.2.1
  have d1 := HQ.out.p18.2.2.2.2.2.2.2.2.1
  simp only at c1 d1
  go_upto_region 6 with fail
  generalize hY : X1.setCell ⟨g2, 8, none⟩ (.bool clean) = X2
  have HQ := hide (show Blk X2 g2 35 (pkVs ⟨1, false, 0, [], [], 0, false, client, clean, 0, false, false, false, [], [], false, [], []⟩ none 0 0 none 0 0) from by rw [← hY]; exact HQ.out.set 8 _)
  have HP := hide (show Blk X2 g0 35 (pkVs ⟨1, dup, id, topic, payload, qos, retain, client, clean, alive, true, false, false, user, pass, present, codes, subs⟩ C nc kc S ns ks) from by rw [← hY]; exact HP.out.oth (by omega) 8 _)
  have HR := hide (show Blk X2 g1 35 (pkVs (zeroP 0) none 0 0 none 0 0) from by rw [← hY]; exact HR.out.oth (by omega) 8 _)
  have HBW := hide (show Below w.heap.size w X2 from by rw [← hY]; exact HBW.out.setCell h02 _)
  clear hY f1 l1 c1 d1
  have f1 := HQ.out.frozen
  have l1 := HQ.out.lt
  have c1 := HP.out.p18.2.2.2.2.2.2.2.2.2.1
  have d1 := HQ.out.p18.2.2.2.2.2.2.2.2.2.1
  simp only at c1 d1
  go_upto_region 7 with fail
  generalize hY : X2.setCell ⟨g2, 9, none⟩ (.int .i64 alive) = X3
  have HQ := hide (show Blk X3 g2 35 (pkVs ⟨1, false, 0, [], [], 0, false, client, clean, alive, false, false, false, [], [], false, [], []⟩ none 0 0 none 0 0) from by rw [← hY]; exact HQ.out.set 9 _)
  have HP := hide (show Blk X3 g0 35 (pkVs ⟨1, dup, id, topic, payload, qos, retain, client, clean, alive, true, false, false, user, pass, present, codes, subs⟩ C nc kc S ns ks) from by rw [← hY]; exact HP.out.oth (by omega) 9 _)
  have HR := hide (show Blk X3 g1 35 (pkVs (zeroP 0) none 0 0 none 0 0) from by rw [← hY]; exact HR.out.oth (by omega) 9 _)
  have HBW := hide (show Below w.heap.size w X3 from by rw [← hY]; exact HBW.out.setCell h02 _)
  clear hY f1 l1 c1 d1
  have f1 := HQ.out.frozen
  have l1 := HQ.out.lt
  have c1 := HP.out.p18.2.2.2.2.2.2.2.2.2.2.1
  have d1 := HQ.out.p18.2.2.2.2.2.2.2.2.2.2.1
  simp only at c1 d1
  go_upto_region 8 with fail
  generalize hY : X3.setCell ⟨g2, 10, none⟩ (.bool true) = X4
  have HQ := hide (show Blk X4 g2 35 (pkVs ⟨1, false, 0, [], [], 0, false, client, clean, alive, true, false, false, [], [], false, [], []⟩ none 0 0 none 0 0) from by rw [← hY]; exact HQ.out.set 10 _)
  have HP := hide (show Blk X4 g0 35 (pkVs ⟨1, dup, id, topic, payload, qos, retain, client, clean, alive, true, false, false, user, pass, present, codes, subs⟩ C nc kc S ns ks) from by rw [← hY]; exact HP.out.oth (by omega) 10 _)
  have HR := hide (show Blk X4 g1 35 (pkVs (zeroP 0) none 0 0 none 0 0) from by rw [← hY]; exact HR.out.oth (by omega) 10 _)
  have HBW := hide (show Below w.heap.size w X4 from by rw [← hY]; exact HBW.out.setCell h02 _)
  clear hY f1 l1 c1 d1
  have c1 := HP.out.p18.2.2.2.2.2.2.2.2.2.2.1
  simp only at c1
  go_upto_region 9 with fail
  clear c1
  go_upto_region 10 with (first
    | (refine wpList_loadM rfl 32 (.tmp 25) rfl g0 35 ⟨1, dup, id, topic, payload, qos, retain, client, clean, alive, true, false, false, user, pass, present, codes, subs⟩ C nc kc S ns ks rfl HP.out Try.underlying32 rfl (by kernel_rfl) ?_)
    | (refine wpList_storeM rfl 32 (.tmp 27) (.tmp 26) rfl g2 35 ⟨1, false, 0, [], [], 0, false, client, clean, alive, true, false, false, [], [], false, [], []⟩ none 0 0 none 0 0 ⟨1, dup, id, topic, payload, qos, retain, client, clean, alive, true, false, false, user, pass, present, codes, subs⟩ rfl rfl HQ.out (by kernel_rfl) ?_; intro X5 bX BX))
  have HP := hide (HP.out.but BX (by omega))
  have HR := hide (HR.out.but BX (by omega))
  have HBW := hide (But.below HBW.out BX (fun i e => by omega) HBW.out.size)
  have HQ := hide (show Blk X5 g2 35 (pkVs ⟨1, false, 0, topic, payload, qos, retain, client, clean, alive, true, false, false, [], [], false, [], []⟩ none 0 0 none 0 0) from bX)
  clear bX BX
  have f1 := HQ.out.frozen
  have l1 := HQ.out.lt
  have c1 := HP.out.p18.2.2.2.2.2.2.2.2.2.2.2.1
  have d1 := HQ.out.p18.2.2.2.2.2.2.2.2.2.2.2.1
  simp only at c1 d1
  go_upto_region 11 with fail
  generalize hY : X5.setCell ⟨g2, 11, none⟩ (.bool false) = X6
  have HQ := hide (show Blk X6 g2 35 (pkVs ⟨1, false, 0, topic, payload, qos, retain, client, clean, alive, true, false, false, [], [], false, [], []⟩ none 0 0 none 0 0) from by rw [← hY]; exact HQ.out.set 11 _)
  have HP := hide (show Blk X6 g0 35 (pkVs ⟨1, dup, id, topic, payload, qos, retain, client, clean, alive, true, false, false, user, pass, present, codes, subs⟩ C nc kc S ns ks) from by rw [← hY]; exact HP.out.oth (by omega) 11 _)
  have HR := hide (show Blk X6 g1 35 (pkVs (zeroP 0) none 0 0 none 0 0) from by rw [← hY]; exact HR.out.oth (by omega) 11 _)
  have HBW := hide (show Below w.heap.size w X6 from by rw [← hY]; exact HBW.out.setCell h02 _)
  clear hY f1 l1 c1 d1
  have c1 := HP.out.p18.2.2.2.2.2.2.2.2.2.2.2.1
  simp only at c1
  go_upto_region 13 with fail
  clear c1
  have f1 := HQ.out.frozen
  have l1 := HQ.out.lt
  have c1 := HP.out.p18.2.2.2.2.2.2.2.2.2.2.2.2.1
  have d1 := HQ.out.p18.2.2.2.2.2.2.2.2.2.2.2.2.1
  simp only at c1 d1
  go_upto_region 14 with fail
  generalize hY : X6.setCell ⟨g2, 12, none⟩ (.bool false) = X7
  have HQ := hide (show Blk X7 g2 35 (pkVs ⟨1, false, 0, topic, payload, qos, retain, client, clean, alive, true, false, false, [], [], false, [], []⟩ none 0 0 none 0 0) from by rw [← hY]; exact HQ.out.set 12 _)
  have HP := hide (show Blk X7 g0 35 (pkVs ⟨1, dup, id, topic, payload, qos, retain, client, clean, alive, true, false, false, user, pass, present, codes, subs⟩ C nc kc S ns ks) from by rw [← hY]; exact HP.out.oth (by omega) 12 _)
  have HR := hide (show Blk X7 g1 35 (pkVs (zeroP 0) none 0 0 none 0 0) from by rw [← hY]; exact HR.out.oth (by omega) 12 _)
  have HBW := hide (show Below w.heap.size w X7 from by rw [← hY]; exact HBW.out.setCell h02 _)
  clear hY f1 l1 c1 d1
  have c1 := HP.out.p18.2.2.2.2.2.2.2.2.2.2.2.2.1
  simp only at c1
  go_upto_region 36 with fail
  clear c1
  refine wp_region_lit ?_
  refine wpList_loadP rfl 35 (.tmp 3) rfl g2 35 ⟨1, false, 0, topic, payload, qos, retain, client, clean, alive, true, false, false, [], [], false, [], []⟩ none 0 0 none 0 0 rfl HQ.out Try.underlying35 rfl (by kernel_rfl) ?_
  refine wpList_storeQ rfl 35 (.tmp 2) (.tmp 89) rfl g1 35 (zeroP 0) none 0 0 none 0 0 ⟨1, false, 0, topic, payload, qos, retain, client, clean, alive, true, false, false, [], [], false, [], []⟩ none 0 0 none 0 0 rfl rfl HR.out (by kernel_rfl) ?_
  intro U bU BU
  have hB := But.below HBW.out BU (fun i e => by omega) HBW.out.size
  go_wp2_with fail
  refine bodyPost_ret (results_cell rfl rfl bU Try.underlying35 rfl (by kernel_rfl)) rfl ?_
  exact ⟨rfl, hg0 ▸ hB⟩

set_option maxRecDepth 100000 in
set_option maxHeartbeats 8000000 in
theorem used1_101 (p : Pk) (C : Option Addr) (nc kc : Nat) (S : Option Addr) (ns ks : Nat) (w : World) (ht : p.ty = 1) (hw : p.hasWill = true) (hu : p.hasUser = false) (hp : p.hasPass = true) : Calls Try.prog 32 #[pkA p C nc kc S ns ks] w fun e w' => e = .returned (pkA (usedP p) none 0 0 none 0 0) ∧ Below w.heap.size w w' := by
  obtain ⟨ty, dup, id, topic, payload, qos, retain, client, clean, alive, hasWill, hasUser, hasPass, user, pass, present, codes, subs⟩ := p
  simp only at ht hw hu hp
  subst ht hw hu hp
  have hU : usedP ⟨1, dup, id, topic, payload, qos, retain, client, clean, alive, true, false, true, user, pass, present, codes, subs⟩ = ⟨1, false, 0, topic, payload, qos, retain, client, clean, alive, true, false, true, [], pass, false, [], []⟩ := by unfold usedP; rfl
  rw [hU]
  clear hU
  simp only [pkA]
  go_enter Try.func32, Try.ntmps32
  go_upto_region 1 with fail
  generalize hW : w.alloc _ = W
  obtain ⟨g0, hg0, hB, bW, hsz⟩ := boxedP (p := ⟨1, dup, id, topic, payload, qos, retain, client, clean, alive, true, false, true, user, pass, present, codes, subs⟩) hW
  generalize hV : W.alloc _ = V
  obtain ⟨g1, hg1, hB2, bV, hsz2⟩ := boxedP (p := zeroP 0) hV
  have hw1 : w.heap.size + 1 = g1 := by omega
  rw [hw1, hg0]
  have HP := hide (hB.keep (by rw [hg1]; exact bV))
  have HR := hide hB2
  have HBW := hide (show Below w.heap.size w V from below_on (by rw [hg0]; exact bW) (by rw [hg1]; exact bV))
  have h01 : w.heap.size ≤ g1 := by omega
  have h02 : w.heap.size ≤ V.heap.size := by omega
  have h03 : g0 < V.heap.size := by omega
  have h04 : g1 < V.heap.size := by omega
  clear hW hV hB hB2 bW bV hsz hsz2 hg1 hw1
  have c0 := HP.out.p18.1
  simp only at c0
  go_upto_region 2 with (refine wpList_storeQ rfl 35 (.tmp 3) (.tmp 6) rfl V.heap.size 35 (zeroP 0) none 0 0 none 0 0 ⟨1, false, 0, [], [], 0, false, [], false, 0, false, false, false, [], [], false, [], []⟩ none 0 0 none 0 0 rfl rfl (Blk.new V 35 (pkVs (zeroP 0) none 0 0 none 0 0)) (by kernel_rfl) ?_; intro X0 bX BX)
  have bW : Below V.heap.size V X0 := But.below ((Below.refl _ _).alloc (Nat.le_refl _) _) BX (fun i e => by omega) (by simp)
  obtain ⟨g2, hg2⟩ : ∃ g2, V.heap.size = g2 := ⟨_, rfl⟩
  rw [hg2] at bX h02 h03 h04 ⊢
  have HP := hide (HP.out.keep bW)
  have HR := hide (HR.out.keep bW)
  have HBW := hide (below_on HBW.out bW)
  have HQ := hide bX
  clear c0 bX BX bW hg2
  have c0 := HP.out.p18.1
  simp only at c0
  go_upto_region 4 with fail
  clear c0
  have f1 := HQ.out.frozen
  have l1 := HQ.out.lt
  have c1 := HP.out.p18.2.2.2.2.2.2.2.1
  have d1 := HQ.out.p18.2.2.2.2.2.2.2.1
  simp only at c1 d1
  go_upto_region 5 with fail
  generalize hY : X0.setCell ⟨g2, 7, none⟩ (.string (str client)) = X1
  have HQ := hide (show Blk X1 g2 35 (pkVs ⟨1, false, 0, [], [], 0, false, client, false, 0, false, false, false, [], [], false, [], []⟩ none 0 0 none 0 0) from by rw [← hY]; exact HQ.out.set 7 _)
  have HP := hide (show Blk X1 g0 35 (pkVs ⟨1, dup, id, topic, payload, qos, retain, client, clean, alive, true, false, true, user, pass, present, codes, subs⟩ C nc kc S ns ks) from by rw [← hY]; exact HP.out.oth (by omega) 7 _)
  have HR := hide (show Blk X1 g1 35 (pkVs (zeroP 0) none 0 0 none 0 0) from by rw [← hY]; exact HR.out.oth (by omega) 7 _)
  have HBW := hide (show Below w.heap.size w X1 from by rw [← hY]; exact HBW.out.setCell h02 _)
  clear hY f1 l1 c1 d1
  have f1 := HQ.out.frozen
  have l1 := HQ.out.lt
  have c1 := HP.out.p18.2.2.2.2.2.2.2.2.1
  have d1 := HQ.out.p18.2.2.2.2.2.2.2.2.1
  simp only at c1 d1
  go_upto_region 6 with fail
  generalize hY : X1.setCell ⟨g2, 8, none⟩ (.bool clean) = X2
  have HQ := hide (show Blk X2 g2 35 (pkVs ⟨1, false, 0, [], [], 0, false, client, clean, 0, false, false, false, [], [], false, [], []⟩ none 0 0 none 0 0) from by rw [← hY]; exact HQ.out.set 8 _)
  have HP := hide (show Blk X2 g0 35 (pkVs ⟨1, dup, id, topic, payload, qos, retain, client, clean, alive, true, false, true, user, pass, present, codes, subs⟩ C nc kc S ns ks) from by rw [← hY]; exact HP.out.oth (by omega) 8 _)
  have HR := hide (show Blk X2 g1 35 (pkVs (zeroP 0) none 0 0 none 0 0) from by rw [← hY]; exact HR.out.oth (by omega) 8 _)
  have HBW := hide (show Below w.heap.size w X2 from by rw [← hY]; exact HBW.out.setCell h02 _)
  clear hY f1 l1 c1 d1
  have f1 := HQ.out.frozen
  have l1 := HQ.out.lt
  have c1 := HP.out.p18.2.2.2.2.2.2.2.2.2.1
  have d1 := HQ.out.p18.2.2.2.2.2.2.2.2.2.1
  simp only at c1 d1
  go_upto_region 7 with fail
  generalize hY : X2.setCell ⟨g2, 9, none⟩ (.int .i64 alive) = X3
  have HQ := hide (show Blk X3 g2 35 (pkVs ⟨1, false, 0, [], [], 0, false, client, clean, alive, false, false, false, [], [], false, [], []⟩ none 0 0 none 0 0) from by rw [← hY]; exact HQ.out.set 9 _)
  have HP := hide (show Blk X3 g0 35 (pkVs ⟨1, dup, id, topic, payload, qos, retain, client, clean, alive, true, false, true, user, pass, present, codes, subs⟩ C nc kc S ns ks) from by rw [← hY]; exact HP.out.oth (by omega) 9 _)
  have HR := hide (show Blk X3 g1 35 (pkVs (zeroP 0) none 0 0 none 0 0) from by rw [← hY]; exact HR.out.oth (by omega) 9 _)
  have HBW := hide (show Below w.heap.size w X3 from by rw [← hY]; exact HBW.out.setCell h02 _)
  clear hY f1 l1 c1 d1
  have f1 := HQ.out.frozen
  have l1 := HQ.out.lt
  have c1 := HP.out.p18.2.2.2.2.2.2.2.2.2.2.1
  have d1 := HQ.out.p18.2.2.2.2.2.2.2.2.2.2.1
  simp only at c1 d1
  go_upto_region 8 with fail
  generalize hY : X3.setCell ⟨g2, 10, none⟩ (.bool true) = X4
  have HQ := hide (show Blk X4 g2 35 (pkVs ⟨1, false, 0, [], [], 0, false, client, clean, alive, true, false, false, [], [], false, [], []⟩ none 0 0 none 0 0) from by rw [← hY]; exact HQ.out.set 10 _)
  have HP := hide (show Blk X4 g0 35 (pkVs ⟨1, dup, id, topic, payload, qos, retain, client, clean, alive, true, false, true, user, pass, present, codes, subs⟩ C nc kc S ns ks) from by rw [← hY]; exact HP.out.oth (by omega) 10 _)
  have HR := hide (show Blk X4 g1 35 (pkVs (zeroP 0) none 0 0 none 0 0) from by rw [← hY]; exact HR.out.oth (by omega) 10 _)
  have HBW := hide (show Below w.heap.size w X4 from by rw [← hY]; exact HBW.out.setCell h02 _)
  clear hY f1 l1 c1 d1
  have c1 := HP.out.p18.2.2.2.2.2.2.2.2.2.2.1
  simp only at c1
  go_upto_region 9 with fail
  clear c1
  go_upto_region 10 with (first
    | (refine wpList_loadM rfl 32 (.tmp 25) rfl g0 35 ⟨1, dup, id, topic, payload, qos, retain, client, clean, alive, true, false, true, user, pass, present, codes, subs⟩ C nc kc S ns ks rfl HP.out Try.underlying32 rfl (by kernel_rfl) ?_)
    | (refine wpList_storeM rfl 32 (.tmp 27) (.tmp 26) rfl g2 35 ⟨1, false, 0, [], [], 0, false, client, clean, alive, true, false, false, [], [], false, [], []⟩ none 0 0 none 0 0 ⟨1, dup, id, topic, payload, qos, retain, client, clean, alive, true, false, true, user, pass, present, codes, subs⟩ rfl rfl HQ.out (by kernel_rfl) ?_; intro X5 bX BX))
  have HP := hide (HP.out.but BX (by omega))
  have HR := hide (HR.out.but BX (by omega))
  have HBW := hide (But.below HBW.out BX (fun i e => by omega) HBW.out.size)
  have HQ := hide (show Blk X5 g2 35 (pkVs ⟨1, false, 0, topic, payload, qos, retain, client, clean, alive, true, false, false, [], [], false, [], []⟩ none 0 0 none 0 0) from bX)
  clear bX BX
  have f1 := HQ.out.frozen
  have l1 := HQ.out.lt
  have c1 := HP.out.p18.2.2.2.2.2.2.2.2.2.2.2.1
  have d1 := HQ.out.p18.2.2.2.2.2.2.2.2.2.2.2.1
  simp only at c1 d1
  go_upto_region 11 with fail
  generalize hY : X5.setCell ⟨g2, 11, none⟩ (.bool false) = X6
  have HQ := hide (show Blk X6 g2 35 (pkVs ⟨1, false, 0, topic, payload, qos, retain, client, clean, alive, true, false, false, [], [], false, [], []⟩ none 0 0 none 0 0) from by rw [← hY]; exact HQ.out.set 11 _)
  have HP := hide (show Blk X6 g0 35 (pkVs ⟨1, dup, id, topic, payload, qos, retain, client, clean, alive, true, false, true, user, pass, present, codes, subs⟩ C nc kc S ns ks) from by rw [← hY]; exact HP.out.oth (by omega) 11 _)
  have HR := hide (show Blk X6 g1 35 (pkVs (zeroP 0) none 0 0 none 0 0) from by rw [← hY]; exact HR.out.oth (by omega) 11 _)
  have HBW := hide (show Below w.heap.size w X6 from by rw [← hY]; exact HBW.out.setCell h02 _)
  clear hY f1 l1 c1 d1
  have c1 := HP.out.p18.2.2.2.2.2.2.2.2.2.2.2.1
  simp only at c1
  go_upto_region 13 with fail
  clear c1
  have f1 := HQ.out.frozen
  have l1 := HQ.out.lt
  have c1 := HP.out.p18.2.2.2.2.2.2.2.2.2.2.2.2.1
  have d1 := HQ.out.p18.2.2.2.2.2.2.2.2.2.2.2.2.1
  simp only at c1 d1
  go_upto_region 14 with fail
  generalize hY : X6.setCell ⟨g2, 12, none⟩ (.bool true) = X7
  have HQ := hide (show Blk X7 g2 35 (pkVs ⟨1, false, 0, topic, payload, qos, retain, client, clean, alive, true, false, true, [], [], false, [], []⟩ none 0 0 none 0 0) from by rw [← hY]; exact HQ.out.set 12 _)
  have HP := hide (show Blk X7 g0 35 (pkVs ⟨1, dup, id, topic, payload, qos, retain, client, clean, alive, true, false, true, user, pass, present, codes, subs⟩ C nc kc S ns ks) from by rw [← hY]; exact HP.out.oth (by omega) 12 _)
  have HR := hide (show Blk X7 g1 35 (pkVs (zeroP 0) none 0 0 none 0 0) from by rw [← hY]; exact HR.out.oth (by omega) 12 _)
  have HBW := hide (show Below w.heap.size w X7 from by rw [← hY]; exact HBW.out.setCell h02 _)
  clear hY f1 l1 c1 d1
  have c1 := HP.out.p18.2.2.2.2.2.2.2.2.2.2.2.2.1
  simp only at c1
  go_upto_region 15 with fail
  clear c1
  have f1 := HQ.out.frozen
  have l1 := HQ.out.lt
  have c1 := HP.out.p18.2.2.2.2.2.2.2.2.2.2.2.2.2.2.1
  have d1 := HQ.out.p18.2.2.2.2.2.2.2.2.2.2.2.2.2.2.1
  simp only at c1 d1
  go_upto_region 36 with fail
  generalize hY : X7.setCell ⟨g2, 14, none⟩ (.string (str pass)) = X8
  have HQ := hide (show Blk X8 g2 35 (pkVs ⟨1, false, 0, topic, payload, qos, retain, client, clean, alive, true, false, true, [], pass, false, [], []⟩ none 0 0 none 0 0) from by rw [← hY]; exact HQ.out.set 14 _)
  have HP := hide (show Blk X8 g0 35 (pkVs ⟨1, dup, id, topic, payload, qos, retain, client, clean, alive, true, false, true, user, pass, present, codes, subs⟩ C nc kc S ns ks) from by rw [← hY]; exact HP.out.oth (by omega) 14 _)
  have HR := hide (show Blk X8 g1 35 (pkVs (zeroP 0) none 0 0 none 0 0) from by rw [← hY]; exact HR.out.oth (by omega) 14 _)
  have HBW := hide (show Below w.heap.size w X8 from by rw [← hY]; exact HBW.out.setCell h02 _)
  clear hY f1 l1 c1 d1
  refine wp_region_lit ?_
  refine wpList_loadP rfl 35 (.tmp 3) rfl g2 35 ⟨1, false, 0, topic, payload, qos, retain, client, clean, alive, true, false, true, [], pass, false, [], []⟩ none 0 0 none 0 0 rfl HQ.out Try.underlying35 rfl (by kernel_rfl) ?_
  refine wpList_storeQ rfl 35 (.tmp 2) (.tmp 89) rfl g1 35 (zeroP 0) none 0 0 none 0 0 ⟨1, false, 0, topic, payload, qos, retain, client, clean, alive, true, false, true, [], pass, false, [], []⟩ none 0 0 none 0 0 rfl rfl HR.out (by kernel_rfl) ?_
  intro U bU BU
  have hB := But.below HBW.out BU (fun i e => by omega) HBW.out.size
  go_wp2_with fail
  refine bodyPost_ret (results_cell rfl rfl bU Try.underlying35 rfl (by kernel_rfl)) rfl ?_
  exact ⟨rfl, hg0 ▸ hB⟩

set_option maxRecDepth 100000 in
set_option maxHeartbeats 8000000 in
theorem used1_110 (p : Pk) (C : Option Addr) (nc kc : Nat) (S : Option Addr) (ns ks : Nat) (w : World) (ht : p.ty = 1) (hw : p.hasWill = true) (hu : p.hasUser = true) (hp : p.hasPass = false) : Calls Try.prog 32 #[pkA p C nc kc S ns ks] w fun e w' => e = .returned (pkA (usedP p) none 0 0 none 0 0) ∧ Below w.heap.size w w' := by
  obtain ⟨ty, dup, id, topic, payload, qos, retain, client, clean, alive, hasWill, hasUser, hasPass, user, pass, present, codes, subs⟩ := p
  simp only at ht hw hu hp
  subst ht hw hu hp
  have hU : usedP ⟨1, dup, id, topic, payload, qos, retain, client, clean, alive, true, true, false, user, pass, present, codes, subs⟩ = ⟨1, false, 0, topic, payload, qos, retain, client, clean, alive, true, true, false, user, [], false, [], []⟩ := by unfold usedP; rfl
  rw [hU]
  clear hU
  simp only [pkA]
  go_enter Try.func32, Try.ntmps32
  go_upto_region 1 with fail
  generalize hW : w.alloc _ = W
  obtain ⟨g0, hg0, hB, bW, hsz⟩ := boxedP (p := ⟨1, dup, id, topic, payload, qos, retain, client, clean, alive, true, true, false, user, pass, present, codes, subs⟩) hW
  generalize hV : W.alloc _ = V
  obtain ⟨g1, hg1, hB2, bV, hsz2⟩ := boxedP (p := zeroP 0) hV
  have hw1 : w.heap.size + 1 = g1 := by omega
  rw [hw1, hg0]
  have HP := hide (hB.keep (by rw [hg1]; exact bV))
  have HR := hide hB2
  have HBW := hide (show Below w.heap.size w V from below_on (by rw [hg0]; exact bW) (by rw [hg1]; exact bV))
  have h01 : w.heap.size ≤ g1 := by omega
  have h02 : w.heap.size ≤ V.heap.size := by omega
  have h03 : g0 < V.heap.size := by omega
  have h04 : g1 < V.heap.size := by omega
  clear hW hV hB hB2 bW bV hsz hsz2 hg1 hw1
  have c0 := HP.out.p18.1
  simp only at c0
  go_upto_region 2 with (refine wpList_storeQ rfl 35 (.tmp 3) (.tmp 6) rfl V.heap.size 35 (zeroP 0) none 0 0 none 0 0 ⟨1, false, 0, [], [], 0, false, [], false, 0, false, false, false, [], [], false, [], []⟩ none 0 0 none 0 0 rfl rfl (Blk.new V 35 (pkVs (zeroP 0) none 0 0 none 0 0)) (by kernel_rfl) ?_; intro X0 bX BX)
  have bW : Below V.heap.size V X0 := But.below ((Below.refl _ _).alloc (Nat.le_refl _) _) BX (fun i e => by omega) (by simp)
  obtain ⟨g2, hg2⟩ : ∃ g2, V.heap.size = g2 := ⟨_, rfl⟩
  rw [hg2] at bX h02 h03 h04 ⊢
  have HP := hide (HP.out.keep bW)
  have HR := hide (HR.out.keep bW)
  have HBW := hide (below_on HBW.out bW)
  have HQ := hide bX
  clear c0 bX BX bW hg2
  have c0 := HP.out.p18.1
  simp only at c0
  go_upto_region 4 with fail
  clear c0
  have f1 := HQ.out.frozen
  have l1 := HQ.out.lt
  have c1 := HP.out.p18.2.2.2.2.2.2.2.1
  have d1 := HQ.out.p18.2.2.2.2.2.2.2.1
  simp only at c1 d1
  go_upto_region 5 with fail
  generalize hY : X0.setCell ⟨g2, 7, none⟩ (.string (str client)) = X1
  have HQ := hide (show Blk X1 g2 35 (pkVs ⟨1, false, 0, [], [], 0, false, client, false, 0, false, false, false, [], [], false, [], []⟩ none 0 0 none 0 0) from by rw [← hY]; exact HQ.out.set 7 _)
  have HP := hide (show Blk X1 g0 35 (pkVs ⟨1, dup, id, topic, payload, qos, retain, client, clean, alive, true, true, false, user, pass, present, codes, subs⟩ C nc kc S ns ks) from by rw [← hY]; exact HP.out.oth (by omega) 7 _)
  have HR := hide (show Blk X1 g1 35 (pkVs (zeroP 0) none 0 0 none 0 0) from by rw [← hY]; exact HR.out.oth (by omega) 7 _)
  have HBW := hide (show Below w.heap.size w X1 from by rw [← hY]; exact HBW.out.setCell h02 _)
  clear hY f1 l1 c1 d1
  have f1 := HQ.out.frozen
  have l1 := HQ.out.lt
  have c1 := HP.out.p18.2.2.2.2.2.2.2.2.1
  have d1 := HQ.out.p18.2.2.2.2.2.2.2.2.1
  simp only at c1 d1
  go_upto_region 6 with fail
  generalize hY : X1.setCell ⟨g2, 8, none⟩ (.bool clean) = X2
  have HQ := hide (show Blk X2 g2 35 (pkVs ⟨1, false, 0, [], [], 0, false, client, clean, 0, false, false, false, [], [], false, [], []⟩ none 0 0 none 0 0) from by rw [← hY]; exact HQ.out.set 8 _)
  have HP := hide (show Blk X2 g0 35 (pkVs ⟨1, dup, id, topic, payload, qos, retain, client, clean, alive, true, true, false, user, pass, present, codes, subs⟩ C nc kc S ns ks) from by rw [← hY]; exact HP.out.oth (by omega) 8 _)
  have HR := hide (show Blk X2 g1 35 (pkVs (zeroP 0) none 0 0 none 0 0) from by rw [← hY]; exact HR.out.oth (by omega) 8 _)
  have HBW := hide (show Below w.heap.size w X2 from by rw [← hY]; exact HBW.out.setCell h02 _)
  clear hY f1 l1 c1 d1
  have f1 := HQ.out.frozen
  have l1 := HQ.out.lt
  have c1 := HP.out.p18.2.2.2.2.2.2.2.2.2.1
  have d1 := HQ.out.p18.2.2.2.2.2.2.2.2.2.1
  simp only at c1 d1
  go_upto_region 7 with fail
  generalize hY : X2.setCell ⟨g2, 9, none⟩ (.int .i64 alive) = X3
  have HQ := hide (show Blk X3 g2 35 (pkVs ⟨1, false, 0, [], [], 0, false, client, clean, alive, false, false, false, [], [], false, [], []⟩ none 0 0 none 0 0) from by rw [← hY]; exact HQ.out.set 9 _)
  have HP := hide (show Blk X3 g0 35 (pkVs ⟨1, dup, id, topic, payload, qos, retain, client, clean, alive, true, true, false, user, pass, present, codes, subs⟩ C nc kc S ns ks) from by rw [← hY]; exact HP.out.oth (by omega) 9 _)
  have HR := hide (show Blk X3 g1 35 (pkVs (zeroP 0) none 0 0 none 0 0) from by rw [← hY]; exact HR.out.oth (by omega) 9 _)
  have HBW := hide (show Below w.heap.size w X3 from by rw [← hY]; exact HBW.out.setCell h02 _)
  clear hY f1 l1 c1 d1
  have f1 := HQ.out.frozen
  have l1 := HQ.out.lt
  have c1 := HP.out.p18.2.2.2.2.2.2.2.2.2.2.1
  have d1 := HQ.out.p18.2.2.2.2.2.2.2.2.2.2.1
  simp only at c1 d1
  go_upto_region 8 with fail
  generalize hY : X3.setCell ⟨g2, 10, none⟩ (.bool true) = X4
  have HQ := hide (show Blk X4 g2 35 (pkVs ⟨1, false, 0, [], [], 0, false, client, clean, alive, true, false, false, [], [], false, [], []⟩ none 0 0 none 0 0) from by rw [← hY]; exact HQ.out.set 10 _)
  have HP := hide (show Blk X4 g0 35 (pkVs ⟨1, dup, id, topic, payload, qos, retain, client, clean, alive, true, true, false, user, pass, present, codes, subs⟩ C nc kc S ns ks) from by rw [← hY]; exact HP.out.oth (by omega) 10 _)
  have HR := hide (show Blk X4 g1 35 (pkVs (zeroP 0) none 0 0 none 0 0) from by rw [← hY]; exact HR.out.oth (by omega) 10 _)
  have HBW := hide (show Below w.heap.size w X4 from by rw [← hY]; exact HBW.out.setCell h02 _)
  clear hY f1 l1 c1 d1
  have c1 := HP.out.p18.2.2.2.2.2.2.2.2.2.2.1
  simp only at c1
  go_upto_region 9 with fail
  clear c1
  go_upto_region 10 with (first
    | (refine wpList_loadM rfl 32 (.tmp 25) rfl g0 35 ⟨1, dup, id, topic, payload, qos, retain, client, clean, alive, true, true, false, user, pass, present, codes, subs⟩ C nc kc S ns ks rfl HP.out Try.underlying32 rfl (by kernel_rfl) ?_)
    | (refine wpList_storeM rfl 32 (.tmp 27) (.tmp 26) rfl g2 35 ⟨1, false, 0, [], [], 0, false, client, clean, alive, true, false, false, [], [], false, [], []⟩ none 0 0 none 0 0 ⟨1, dup, id, topic, payload, qos, retain, client, clean, alive, true, true, false, user, pass, present, codes, subs⟩ rfl rfl HQ.out (by kernel_rfl) ?_; intro X5 bX BX))
  have HP := hide (HP.out.but BX (by omega))
  have HR := hide (HR.out.but BX (by omega))
  have HBW := hide (But.below HBW.out BX (fun i e => by omega) HBW.out.size)
  have HQ := hide (show Blk X5 g2 35 (pkVs ⟨1, false, 0, topic, payload, qos, retain, client, clean, alive, true, false, false, [], [], false, [], []⟩ none 0 0 none 0 0) from bX)
  clear bX BX
  have f1 := HQ.out.frozen
  have l1 := HQ.out.lt
  have c1 := HP.out.p18.2.2.2.2.2.2.2.2.2.2.2.1
  have d1 := HQ.out.p18.2.2.2.2.2.2.2.2.2.2.2.1
  simp only at c1 d1
  go_upto_region 11 with fail
  generalize hY : X5.setCell ⟨g2, 11, none⟩ (.bool true) = X6
  have HQ := hide (show Blk X6 g2 35 (pkVs ⟨1, false, 0, topic, payload, qos, retain, client, clean, alive, true, true, false, [], [], false, [], []⟩ none 0 0 none 0 0) from by rw [← hY]; exact HQ.out.set 11 _)
  have HP := hide (show Blk X6 g0 35 (pkVs ⟨1, dup, id, topic, payload, qos, retain, client, clean, alive, true, true, false, user, pass, present, codes, subs⟩ C nc kc S ns ks) from by rw [← hY]; exact HP.out.oth (by omega) 11 _)
  have HR := hide (show Blk X6 g1 35 (pkVs (zeroP 0) none 0 0 none 0 0) from by rw [← hY]; exact HR.out.oth (by omega) 11 _)
  have HBW := hide (show Below w.heap.size w X6 from by rw [← hY]; exact HBW.out.setCell h02 _)
  clear hY f1 l1 c1 d1
  have c1 := HP.out.p18.2.2.2.2.2.2.2.2.2.2.2.1
  simp only at c1
  go_upto_region 12 with fail
  clear c1
  have f1 := HQ.out.frozen
  have l1 := HQ.out.lt
  have c1 := HP.out.p18.2.2.2.2.2.2.2.2.2.2.2.2.2.1
  have d1 := HQ.out.p18.2.2.2.2.2.2.2.2.2.2.2.2.2.1
  simp only at c1 d1
  go_upto_region 13 with fail
  generalize hY : X6.setCell ⟨g2, 13, none⟩ (.string (str user)) = X7
  have HQ := hide (show Blk X7 g2 35 (pkVs ⟨1, false, 0, topic, payload, qos, retain, client, clean, alive, true, true, false, user, [], false, [], []⟩ none 0 0 none 0 0) from by rw [← hY]; exact HQ.out.set 13 _)
  have HP := hide (show Blk X7 g0 35 (pkVs ⟨1, dup, id, topic, payload, qos, retain, client, clean, alive, true, true, false, user, pass, present, codes, subs⟩ C nc kc S ns ks) from by rw [← hY]; exact HP.out.oth (by omega) 13 _)
  have HR := hide (show Blk X7 g1 35 (pkVs (zeroP 0) none 0 0 none 0 0) from by rw [← hY]; exact HR.out.oth (by omega) 13 _)
  have HBW := hide (show Below w.heap.size w X7 from by rw [← hY]; exact HBW.out.setCell h02 _)
  clear hY f1 l1 c1 d1
  have f1 := HQ.out.frozen
  have l1 := HQ.out.lt
  have c1 := HP.out.p18.2.2.2.2.2.2.2.2.2.2.2.2.1
  have d1 := HQ.out.p18.2.2.2.2.2.2.2.2.2.2.2.2.1
  simp only at c1 d1
  go_upto_region 14 with fail
  generalize hY : X7.setCell ⟨g2, 12, none⟩ (.bool false) = X8
  have HQ := hide (show Blk X8 g2 35 (pkVs ⟨1, false, 0, topic, payload, qos, retain, client, clean, alive, true, true, false, user, [], false, [], []⟩ none 0 0 none 0 0) from by rw [← hY]; exact HQ.out.set 12 _)
  have HP := hide (show Blk X8 g0 35 (pkVs ⟨1, dup, id, topic, payload, qos, retain, client, clean, alive, true, true, false, user, pass, present, codes, subs⟩ C nc kc S ns ks) from by rw [← hY]; exact HP.out.oth (by omega) 12 _)
  have HR := hide (show Blk X8 g1 35 (pkVs (zeroP 0) none 0 0 none 0 0) from by rw [← hY]; exact HR.out.oth (by omega) 12 _)
  have HBW := hide (show Below w.heap.size w X8 from by rw [← hY]; exact HBW.out.setCell h02 _)
  clear hY f1 l1 c1 d1
  have c1 := HP.out.p18.2.2.2.2.2.2.2.2.2.2.2.2.1
  simp only at c1
  go_upto_region 36 with fail
  clear c1
  refine wp_region_lit ?_
  refine wpList_loadP rfl 35 (.tmp 3) rfl g2 35 ⟨1, false, 0, topic, payload, qos, retain, client, clean, alive, true, true, false, user, [], false, [], []⟩ none 0 0 none 0 0 rfl HQ.out Try.underlying35 rfl (by kernel_rfl) ?_
  refine wpList_storeQ rfl 35 (.tmp 2) (.tmp 89) rfl g1 35 (zeroP 0) none 0 0 none 0 0 ⟨1, false, 0, topic, payload, qos, retain, client, clean, alive, true, true, false, user, [], false, [], []⟩ none 0 0 none 0 0 rfl rfl HR.out (by kernel_rfl) ?_
  intro U bU BU
  have hB := But.below HBW.out BU (fun i e => by omega) HBW.out.size
  go_wp2_with fail
  refine bodyPost_ret (results_cell rfl rfl bU Try.underlying35 rfl (by kernel_rfl)) rfl ?_
  exact ⟨rfl, hg0 ▸ hB⟩

set_option maxRecDepth 100000 in
set_option maxHeartbeats 8000000 in
theorem used1_111 (p : Pk) (C : Option Addr) (nc kc : Nat) (S : Option Addr) (ns ks : Nat) (w : World) (ht : p.ty = 1) (hw : p.hasWill = true) (hu : p.hasUser = true) (hp : p.hasPass = true) : Calls Try.prog 32 #[pkA p C nc kc S ns ks] w fun e w' => e = .returned (pkA (usedP p) none 0 0 none 0 0) ∧ Below w.heap.size w w' := by
  obtain ⟨ty, dup, id, topic, payload, qos, retain, client, clean, alive, hasWill, hasUser, hasPass, user, pass, present, codes, subs⟩ := p
  simp only at ht hw hu hp
  subst ht hw hu hp
  have hU : usedP ⟨1, dup, id, topic, payload, qos, retain, client, clean, alive, true, true, true, user, pass, present, codes, subs⟩ = ⟨1, false, 0, topic, payload, qos, retain, client, clean, alive, true, true, true, user, pass, false, [], []⟩ := by unfold usedP; rfl
  rw [hU]
  clear hU
  simp only [pkA]
  go_enter Try.func32, Try.ntmps32
  go_upto_region 1 with fail
  generalize hW : w.alloc _ = W
  obtain ⟨g0, hg0, hB, bW, hsz⟩ := boxedP (p := ⟨1, dup, id, topic, payload, qos, retain, client, clean, alive, true, true, true, user, pass, present, codes, subs⟩) hW
  generalize hV : W.alloc _ = V
  obtain ⟨g1, hg1, hB2, bV, hsz2⟩ := boxedP (p := zeroP 0) hV
  have hw1 : w.heap.size + 1 = g1 := by omega
  rw [hw1, hg0]
  have HP := hide (hB.keep (by rw [hg1]; exact bV))
  have HR := hide hB2
  have HBW := hide (show Below w.heap.size w V from below_on (by rw [hg0]; exact bW) (by rw [hg1]; exact bV))
  have h01 : w.heap.size ≤ g1 := by omega
  have h02 : w.heap.size ≤ V.heap.size := by omega
  have h03 : g0 < V.heap.size := by omega
  have h04 : g1 < V.heap.size := by omega
  clear hW hV hB hB2 bW bV hsz hsz2 hg1 hw1
  have c0 := HP.out.p18.1
  simp only at c0
  go_upto_region 2 with (refine wpList_storeQ rfl 35 (.tmp 3) (.tmp 6) rfl V.heap.size 35 (zeroP 0) none 0 0 none 0 0 ⟨1, false, 0, [], [], 0, false, [], false, 0, false, false, false, [], [], false, [], []⟩ none 0 0 none 0 0 rfl rfl (Blk.new V 35 (pkVs (zeroP 0) none 0 0 none 0 0)) (by kernel_rfl) ?_; intro X0 bX BX)
  have bW : Below V.heap.size V X0 := But.below ((Below.refl _ _).alloc (Nat.le_refl _) _) BX (fun i e => by omega) (by simp)
  obtain ⟨g2, hg2⟩ : ∃ g2, V.heap.size = g2 := ⟨_, rfl⟩
  rw [hg2] at bX h02 h03 h04 ⊢
  have HP := hide (HP.out.keep bW)
  have HR := hide (HR.out.keep bW)
  have HBW := hide (below_on HBW.out bW)
  have HQ := hide bX
  clear c0 bX BX bW hg2
  have c0 := HP.out.p18.1
  simp only at c0
  go_upto_region 4 with fail
  clear c0
  have f1 := HQ.out.frozen
  have l1 := HQ.out.lt
  have c1 := HP.out.p18.2.2.2.2.2.2.2.1
  have d1 := HQ.out.p18.2.2.2.2.2.2.2.1
  simp only at c1 d1
  go_upto_region 5 with fail
  generalize hY : X0.setCell ⟨g2, 7, none⟩ (.string (str client)) = X1
  have HQ := hide (show Blk X1 g2 35 (pkVs ⟨1, false, 0, [], [], 0, false, client, false, 0, false, false, false, [], [], false, [], []⟩ none 0 0 none 0 0) from by rw [← hY]; exact HQ.out.set 7 _)
  have HP := hide (show Blk X1 g0 35 (pkVs ⟨1, dup, id, topic, payload, qos, retain, client, clean, alive, true, true, true, user, pass, present, codes, subs⟩ C nc kc S ns ks) from by rw [← hY]; exact HP.out.oth (by omega) 7 _)
  have HR := hide (show Blk X1 g1 35 (pkVs (zeroP 0) none 0 0 none 0 0) from by rw [← hY]; exact HR.out.oth (by omega) 7 _)
  have HBW := hide (show Below w.heap.size w X1 from by rw [← hY]; exact HBW.out.setCell h02 _)
  clear hY f1 l1 c1 d1
  have f1 := HQ.out.frozen
  have l1 := HQ.out.lt
  have c1 := HP.out.p18.2.2.2.2.2.2.2.2.1
  have d1 := HQ.out.p18.2.2.2.2.2.2.2.2.1
  simp only at c1 d1
  go_upto_region 6 with fail
  generalize hY : X1.setCell ⟨g2, 8, none⟩ (.bool clean) = X2
  have HQ := hide (show Blk X2 g2 35 (pkVs ⟨1, false, 0, [], [], 0, false, client, clean, 0, false, false, false, [], [], false, [], []⟩ none 0 0 none 0 0) from by rw [← hY]; exact HQ.out.set 8 _)
  have HP := hide (show Blk X2 g0 35 (pkVs ⟨1, dup, id, topic, payload, qos, retain, client, clean, alive, true, true, true, user, pass, present, codes, subs⟩ C nc kc S ns ks) from by rw [← hY]; exact HP.out.oth (by omega) 8 _)
  have HR := hide (show Blk X2 g1 35 (pkVs (zeroP 0) none 0 0 none 0 0) from by rw [← hY]; exact HR.out.oth (by omega) 8 _)
  have HBW := hide (show Below w.heap.size w X2 from by rw [← hY]; exact HBW.out.setCell h02 _)
  clear hY f1 l1 c1 d1
  have f1 := HQ.out.frozen
  have l1 := HQ.out.lt
  have c1 := HP.out.p18.2.2.2.2.2.2.2.2.2.1
  have d1 := HQ.out.p18.2.2.2.2.2.2.2.2.2.1
  simp only at c1 d1
  go_upto_region 7 with fail
  generalize hY : X2.setCell ⟨g2, 9, none⟩ (.int .i64 alive) = X3
  have HQ := hide (show Blk X3 g2 35 (pkVs ⟨1, false, 0, [], [], 0, false, client, clean, alive, false, false, false, [], [], false, [], []⟩ none 0 0 none 0 0) from by rw [← hY]; exact HQ.out.set 9 _)
  have HP := hide (show Blk X3 g0 35 (pkVs ⟨1, dup, id, topic, payload, qos, retain, client, clean, alive, true, true, true, user, pass, present, codes, subs⟩ C nc kc S ns ks) from by rw [← hY]; exact HP.out.oth (by omega) 9 _)
  have HR := hide (show Blk X3 g1 35 (pkVs (zeroP 0) none 0 0 none 0 0) from by rw [← hY]; exact HR.out.oth (by omega) 9 _)
  have HBW := hide (show Below w.heap.size w X3 from by rw [← hY]; exact HBW.out.setCell h02 _)
  clear hY f1 l1 c1 d1
  have f1 := HQ.out.frozen
  have l1 := HQ.out.lt
  have c1 := HP.out.p18.2.2.2.2.2.2.2.2.2.2.1
  have d1 := HQ.out.p18.2.2.2.2.2.2.2.2.2.2.1
  simp only at c1 d1
  go_upto_region 8 with fail
  generalize hY : X3.setCell ⟨g2, 10, none⟩ (.bool true) = X4
  have HQ := hide (show Blk X4 g2 35 (pkVs ⟨1, false, 0, [], [], 0, false, client, clean, alive, true, false, false, [], [], false, [], []⟩ none 0 0 none 0 0) from by rw [← hY]; exact HQ.out.set 10 _)
  have HP := hide (show Blk X4 g0 35 (pkVs ⟨1, dup, id, topic, payload, qos, retain, client, clean, alive, true, true, true, user, pass, present, codes, subs⟩ C nc kc S ns ks) from by rw [← hY]; exact HP.out.oth (by omega) 10 _)
  have HR := hide (show Blk X4 g1 35 (pkVs (zeroP 0) none 0 0 none 0 0) from by rw [← hY]; exact HR.out.oth (by omega) 10 _)
  have HBW := hide (show Below w.heap.size w X4 from by rw [← hY]; exact HBW.out.setCell h02 _)
  clear hY f1 l1 c1 d1
  have c1 := HP.out.p18.2.2.2.2.2.2.2.2.2.2.1
  simp only at c1
  go_upto_region 9 with fail
  clear c1
  go_upto_region 10 with (first
    | (refine wpList_loadM rfl 32 (.tmp 25) rfl g0 35 ⟨1, dup, id, topic, payload, qos, retain, client, clean, alive, true, true, true, user, pass, present, codes, subs⟩ C nc kc S ns ks rfl HP.out Try.underlying32 rfl (by kernel_rfl) ?_)
    | (refine wpList_storeM rfl 32 (.tmp 27) (.tmp 26) rfl g2 35 ⟨1, false, 0, [], [], 0, false, client, clean, alive, true, false, false, [], [], false, [], []⟩ none 0 0 none 0 0 ⟨1, dup, id, topic, payload, qos, retain, client, clean, alive, true, true, true, user, pass, present, codes, subs⟩ rfl rfl HQ.out (by kernel_rfl) ?_; intro X5 bX BX))
  have HP := hide (HP.out.but BX (by omega))
  have HR := hide (HR.out.but BX (by omega))
  have HBW := hide (But.below HBW.out BX (fun i e => by omega) HBW.out.size)
  have HQ := hide (show Blk X5 g2 35 (pkVs ⟨1, false, 0, topic, payload, qos, retain, client, clean, alive, true, false, false, [], [], false, [], []⟩ none 0 0 none 0 0) from bX)
  clear bX BX
  have f1 := HQ.out.frozen
  have l1 := HQ.out.lt
  have c1 := HP.out.p18.2.2.2.2.2.2.2.2.2.2.2.1
  have d1 := HQ.out.p18.2.2.2.2.2.2.2.2.2.2.2.1
  simp only at c1 d1
  go_upto_region 11 with fail
  generalize hY : X5.setCell ⟨g2, 11, none⟩ (.bool true) = X6
  have HQ := hide (show Blk X6 g2 35 (pkVs ⟨1, false, 0, topic, payload, qos, retain, client, clean, alive, true, true, false, [], [], false, [], []⟩ none 0 0 none 0 0) from by rw [← hY]; exact HQ.out.set 11 _)
  have HP := hide (show Blk X6 g0 35 (pkVs ⟨1, dup, id, topic, payload, qos, retain, client, clean, alive, true, true, true, user, pass, present, codes, subs⟩ C nc kc S ns ks) from by rw [← hY]; exact HP.out.oth (by omega) 11 _)
  have HR := hide (show Blk X6 g1 35 (pkVs (zeroP 0) none 0 0 none 0 0) from by rw [← hY]; exact HR.out.oth (by omega) 11 _)
  have HBW := hide (show Below w.heap.size w X6 from by rw [← hY]; exact HBW.out.setCell h02 _)
  clear hY f1 l1 c1 d1
  have c1 := HP.out.p18.2.2.2.2.2.2.2.2.2.2.2.1
  simp only at c1
  go_upto_region 12 with fail
  clear c1
  have f1 := HQ.out.frozen
  have l1 := HQ.out.lt
  have c1 := HP.out.p18.2.2.2.2.2.2.2.2.2.2.2.2.2.1
  have d1 := HQ.out.p18.2.2.2.2.2.2.2.2.2.2.2.2.2.1
  simp only at c1 d1
  go_upto_region 13 with fail
  generalize hY : X6.setCell ⟨g2, 13, none⟩ (.string (str user)) = X7
  have HQ := hide (show Blk X7 g2 35 (pkVs ⟨1, false, 0, topic, payload, qos, retain, client, clean, alive, true, true, false, user, [], false, [], []⟩ none 0 0 none 0 0) from by rw [← hY]; exact HQ.out.set 13 _)
  have HP := hide (show Blk X7 g0 35 (pkVs ⟨1, dup, id, topic, payload, qos, retain, client, clean, alive, true, true, true, user, pass, present, codes, subs⟩ C nc kc S ns ks) from by rw [← hY]; exact HP.out.oth (by omega) 13 _)
  have HR := hide (show Blk X7 g1 35 (pkVs (zeroP 0) none 0 0 none 0 0) from by rw [← hY]; exact HR.out.oth (by omega) 13 _)
  have HBW := hide (show Below w.heap.size w X7 from by rw [← hY]; exact HBW.out.setCell h02 _)
  clear hY f1 l1 c1 d1
  have f1 := HQ.out.frozen
  have l1 := HQ.out.lt
  have c1 := HP.out.p18.2.2.2.2.2.2.2.2.2.2.2.2.1
  have d1 := HQ.out.p18.2.2.2.2.2.2.2.2.2.2.2.2.1
  simp only at c1 d1
  go_upto_region 14 with fail
  generalize hY : X7.setCell ⟨g2, 12, none⟩ (.bool true) = X8
  have HQ := hide (show Blk X8 g2 35 (pkVs ⟨1, false, 0, topic, payload, qos, retain, client, clean, alive, true, true, true, user, [], false, [], []⟩ none 0 0 none 0 0) from by rw [← hY]; exact HQ.out.set 12 _)
  have HP := hide (show Blk X8 g0 35 (pkVs ⟨1, dup, id, topic, payload, qos, retain, client, clean, alive, true, true, true, user, pass, present, codes, subs⟩ C nc kc S ns ks) from by rw [← hY]; exact HP.out.oth (by omega) 12 _)
  have HR := hide (show Blk X8 g1 35 (pkVs (zeroP 0) none 0 0 none 0 0) from by rw [← hY]; exact HR.out.oth (by omega) 12 _)
  have HBW := hide (show Below w.heap.size w X8 from by rw [← hY]; exact HBW.out.setCell h02 _)
  clear hY f1 l1 c1 d1
  have c1 := HP.out.p18.2.2.2.2.2.2.2.2.2.2.2.2.1
  simp only at c1
  go_upto_region 15 with fail
  clear c1
  have f1 := HQ.out.frozen
  have l1 := HQ.out.lt
  have c1 := HP.out.p18.2.2.2.2.2.2.2.2.2.2.2.2.2.2.1
  have d1 := HQ.out.p18.2.2.2.2.2.2.2.2.2.2.2.2.2.2.1
  simp only at c1 d1
  go_upto_region 36 with fail
  generalize hY : X8.setCell ⟨g2, 14, none⟩ (.string (str pass)) = X9
  have HQ := hide (show Blk X9 g2 35 (pkVs ⟨1, false, 0, topic, payload, qos, retain, client, clean, alive, true, true, true, user, pass, false, [], []⟩ none 0 0 none 0 0) from by rw [← hY]; exact HQ.out.set 14 _)
  have HP := hide (show Blk X9 g0 35 (pkVs ⟨1, dup, id, topic, payload, qos, retain, client, clean, alive, true, true, true, user, pass, present, codes, subs⟩ C nc kc S ns ks) from by rw [← hY]; exact HP.out.oth (by omega) 14 _)
  have HR := hide (show Blk X9 g1 35 (pkVs (zeroP 0) none 0 0 none 0 0) from by rw [← hY]; exact HR.out.oth (by omega) 14 _)
  have HBW := hide (show Below w.heap.size w X9 from by rw [← hY]; exact HBW.out.setCell h02 _)
  clear hY f1 l1 c1 d1
  refine wp_region_lit ?_
  refine wpList_loadP rfl 35 (.tmp 3) rfl g2 35 ⟨1, false, 0, topic, payload, qos, retain, client, clean, alive, true, true, true, user, pass, false, [], []⟩ none 0 0 none 0 0 rfl HQ.out Try.underlying35 rfl (by kernel_rfl) ?_
  refine wpList_storeQ rfl 35 (.tmp 2) (.tmp 89) rfl g1 35 (zeroP 0) none 0 0 none 0 0 ⟨1, false, 0, topic, payload, qos, retain, client, clean, alive, true, true, true, user, pass, false, [], []⟩ none 0 0 none 0 0 rfl rfl HR.out (by kernel_rfl) ?_
  intro U bU BU
  have hB := But.below HBW.out BU (fun i e => by omega) HBW.out.size
  go_wp2_with fail
  refine bodyPost_ret (results_cell rfl rfl bU Try.underlying35 rfl (by kernel_rfl)) rfl ?_
  exact ⟨rfl, hg0 ▸ hB⟩

end Go.Proofs.Ytkgidimaiedocaa

namespace Go.Proofs.Ytkgidimaiedocaa
set_option linter.unusedVariables false
set_option linter.unusedSimpArgs false
open Go.RowKit

set_option maxRecDepth 100000 in
set_option maxHeartbeats 8000000 in
theorem usedP_2 (p : Pk) (C : Option Addr) (nc kc : Nat) (S : Option Addr) (ns ks : Nat) (w : World) (ht : p.ty = 2) : Calls Try.prog 32 #[pkA p C nc kc S ns ks] w fun e w' => e = .returned (pkA (usedP p) C nc kc none 0 0) ∧ Below w.heap.size w w' := by
  obtain ⟨ty, dup, id, topic, payload, qos, retain, client, clean, alive, hasWill, hasUser, hasPass, user, pass, present, codes, subs⟩ := p
  simp only at ht
  subst ht
  have hU : usedP ⟨2, dup, id, topic, payload, qos, retain, client, clean, alive, hasWill, hasUser, hasPass, user, pass, present, codes, subs⟩ = ⟨2, false, 0, [], [], 0, false, [], false, 0, false, false, false, [], [], present, codes, []⟩ := by unfold usedP; rfl
  rw [hU]
  clear hU
  simp only [pkA]
  go_enter Try.func32, Try.ntmps32
  go_upto_region 1 with fail
  generalize hW : w.alloc _ = W
  obtain ⟨g0, hg0, hB, bW, hsz⟩ := boxedP (p := ⟨2, dup, id, topic, payload, qos, retain, client, clean, alive, hasWill, hasUser, hasPass, user, pass, present, codes, subs⟩) hW
  generalize hV : W.alloc _ = V
  obtain ⟨g1, hg1, hB2, bV, hsz2⟩ := boxedP (p := zeroP 0) hV
  have hw1 : w.heap.size + 1 = g1 := by omega
  rw [hw1, hg0]
  have HP := hide (hB.keep (by rw [hg1]; exact bV))
  have HR := hide hB2
  have HBW := hide (show Below w.heap.size w V from below_on (by rw [hg0]; exact bW) (by rw [hg1]; exact bV))
  have h01 : w.heap.size ≤ g1 := by omega
  have h02 : w.heap.size ≤ V.heap.size := by omega
  have h03 : g0 < V.heap.size := by omega
  have h04 : g1 < V.heap.size := by omega
  clear hW hV hB hB2 bW bV hsz hsz2 hg1 hw1
  have c0 := HP.out.p18.1
  simp only at c0
  go_upto_region 2 with (refine wpList_storeQ rfl 35 (.tmp 3) (.tmp 6) rfl V.heap.size 35 (zeroP 0) none 0 0 none 0 0 ⟨2, false, 0, [], [], 0, false, [], false, 0, false, false, false, [], [], false, [], []⟩ none 0 0 none 0 0 rfl rfl (Blk.new V 35 (pkVs (zeroP 0) none 0 0 none 0 0)) (by kernel_rfl) ?_; intro X0 bX BX)
  have bW : Below V.heap.size V X0 := But.below ((Below.refl _ _).alloc (Nat.le_refl _) _) BX (fun i e => by omega) (by simp)
  obtain ⟨g2, hg2⟩ : ∃ g2, V.heap.size = g2 := ⟨_, rfl⟩
  rw [hg2] at bX h02 h03 h04 ⊢
  have HP := hide (HP.out.keep bW)
  have HR := hide (HR.out.keep bW)
  have HBW := hide (below_on HBW.out bW)
  have HQ := hide bX
  clear c0 bX BX bW hg2
  have c0 := HP.out.p18.1
  simp only at c0
  go_upto_region 17 with fail
  clear c0
  have f1 := HQ.out.frozen
  have l1 := HQ.out.lt
  have c1 := HP.out.p18.2.2.2.2.2.2.2.2.2.2.2.2.2.2.2.1
  have d1 := HQ.out.p18.2.2.2.2.2.2.2.2.2.2.2.2.2.2.2.1
  try simp only at c1 d1
  go_upto_region 18 with fail
  generalize hY : X0.setCell ⟨g2, 15, none⟩ (.bool present) = X1
  have HQ := hide (show Blk X1 g2 35 (pkVs ⟨2, false, 0, [], [], 0, false, [], false, 0, false, false, false, [], [], present, [], []⟩ none 0 0 none 0 0) from by rw [← hY]; exact HQ.out.set 15 _)
  have HP := hide (show Blk X1 g0 35 (pkVs ⟨2, dup, id, topic, payload, qos, retain, client, clean, alive, hasWill, hasUser, hasPass, user, pass, present, codes, subs⟩ C nc kc S ns ks) from by rw [← hY]; exact HP.out.oth (by omega) 15 _)
  have HR := hide (show Blk X1 g1 35 (pkVs (zeroP 0) none 0 0 none 0 0) from by rw [← hY]; exact HR.out.oth (by omega) 15 _)
  have HBW := hide (show Below w.heap.size w X1 from by rw [← hY]; exact HBW.out.setCell h02 _)
  clear hY f1 l1 c1 d1
  have f1 := HQ.out.frozen
  have l1 := HQ.out.lt
  have c1 := HP.out.p18.2.2.2.2.2.2.2.2.2.2.2.2.2.2.2.2.1
  have d1 := HQ.out.p18.2.2.2.2.2.2.2.2.2.2.2.2.2.2.2.2.1
  try simp only at c1 d1
  go_upto_region 36 with fail
  generalize hY : X1.setCell ⟨g2, 16, none⟩ (.slice C nc kc) = X2
  have HQ := hide (show Blk X2 g2 35 (pkVs ⟨2, false, 0, [], [], 0, false, [], false, 0, false, false, false, [], [], present, codes, []⟩ C nc kc none 0 0) from by rw [← hY]; exact HQ.out.set 16 _)
  have HP := hide (show Blk X2 g0 35 (pkVs ⟨2, dup, id, topic, payload, qos, retain, client, clean, alive, hasWill, hasUser, hasPass, user, pass, present, codes, subs⟩ C nc kc S ns ks) from by rw [← hY]; exact HP.out.oth (by omega) 16 _)
  have HR := hide (show Blk X2 g1 35 (pkVs (zeroP 0) none 0 0 none 0 0) from by rw [← hY]; exact HR.out.oth (by omega) 16 _)
  have HBW := hide (show Below w.heap.size w X2 from by rw [← hY]; exact HBW.out.setCell h02 _)
  clear hY f1 l1 c1 d1
  refine wp_region_lit ?_
  refine wpList_loadP rfl 35 (.tmp 3) rfl g2 35 ⟨2, false, 0, [], [], 0, false, [], false, 0, false, false, false, [], [], present, codes, []⟩ C nc kc none 0 0 rfl HQ.out Try.underlying35 rfl (by kernel_rfl) ?_
  refine wpList_storeQ rfl 35 (.tmp 2) (.tmp 89) rfl g1 35 (zeroP 0) none 0 0 none 0 0 ⟨2, false, 0, [], [], 0, false, [], false, 0, false, false, false, [], [], present, codes, []⟩ C nc kc none 0 0 rfl rfl HR.out (by kernel_rfl) ?_
  intro U bU BU
  have hB := But.below HBW.out BU (fun i e => by omega) HBW.out.size
  go_wp2_with fail
  refine bodyPost_ret (results_cell rfl rfl bU Try.underlying35 rfl (by kernel_rfl)) rfl ?_
  exact ⟨rfl, hg0 ▸ hB⟩

set_option maxRecDepth 100000 in
set_option maxHeartbeats 8000000 in
theorem usedP_4 (p : Pk) (C : Option Addr) (nc kc : Nat) (S : Option Addr) (ns ks : Nat) (w : World) (ht : p.ty = 4) : Calls Try.prog 32 #[pkA p C nc kc S ns ks] w fun e w' => e = .returned (pkA (usedP p) none 0 0 none 0 0) ∧ Below w.heap.size w w' := by
  obtain ⟨ty, dup, id, topic, payload, qos, retain, client, clean, alive, hasWill, hasUser, hasPass, user, pass, present, codes, subs⟩ := p
  simp only at ht
  subst ht
  have hU : usedP ⟨4, dup, id, topic, payload, qos, retain, client, clean, alive, hasWill, hasUser, hasPass, user, pass, present, codes, subs⟩ = ⟨4, false, id, [], [], 0, false, [], false, 0, false, false, false, [], [], false, [], []⟩ := by unfold usedP; rfl
  rw [hU]
  clear hU
  simp only [pkA]
  go_enter Try.func32, Try.ntmps32
  go_upto_region 1 with fail
  generalize hW : w.alloc _ = W
  obtain ⟨g0, hg0, hB, bW, hsz⟩ := boxedP (p := ⟨4, dup, id, topic, payload, qos, retain, client, clean, alive, hasWill, hasUser, hasPass, user, pass, present, codes, subs⟩) hW
  generalize hV : W.alloc _ = V
  obtain ⟨g1, hg1, hB2, bV, hsz2⟩ := boxedP (p := zeroP 0) hV
  have hw1 : w.heap.size + 1 = g1 := by omega
  rw [hw1, hg0]
  have HP := hide (hB.keep (by rw [hg1]; exact bV))
  have HR := hide hB2
  have HBW := hide (show Below w.heap.size w V from below_on (by rw [hg0]; exact bW) (by rw [hg1]; exact bV))
  have h01 : w.heap.size ≤ g1 := by omega
  have h02 : w.heap.size ≤ V.heap.size := by omega
  have h03 : g0 < V.heap.size := by omega
  have h04 : g1 < V.heap.size := by omega
  clear hW hV hB hB2 bW bV hsz hsz2 hg1 hw1
  have c0 := HP.out.p18.1
  simp only at c0
  go_upto_region 2 with (refine wpList_storeQ rfl 35 (.tmp 3) (.tmp 6) rfl V.heap.size 35 (zeroP 0) none 0 0 none 0 0 ⟨4, false, 0, [], [], 0, false, [], false, 0, false, false, false, [], [], false, [], []⟩ none 0 0 none 0 0 rfl rfl (Blk.new V 35 (pkVs (zeroP 0) none 0 0 none 0 0)) (by kernel_rfl) ?_; intro X0 bX BX)
  have bW : Below V.heap.size V X0 := But.below ((Below.refl _ _).alloc (Nat.le_refl _) _) BX (fun i e => by omega) (by simp)
  obtain ⟨g2, hg2⟩ : ∃ g2, V.heap.size = g2 := ⟨_, rfl⟩
  rw [hg2] at bX h02 h03 h04 ⊢
  have HP := hide (HP.out.keep bW)
  have HR := hide (HR.out.keep bW)
  have HBW := hide (below_on HBW.out bW)
  have HQ := hide bX
  clear c0 bX BX bW hg2
  have c0 := HP.out.p18.1
  simp only at c0
  go_upto_region 28 with fail
  clear c0
  have f1 := HQ.out.frozen
  have l1 := HQ.out.lt
  have c1 := HP.out.p18.2.2.1
  have d1 := HQ.out.p18.2.2.1
  try simp only at c1 d1
  go_upto_region 36 with fail
  generalize hY : X0.setCell ⟨g2, 2, none⟩ (.int .i64 id) = X1
  have HQ := hide (show Blk X1 g2 35 (pkVs ⟨4, false, id, [], [], 0, false, [], false, 0, false, false, false, [], [], false, [], []⟩ none 0 0 none 0 0) from by rw [← hY]; exact HQ.out.set 2 _)
  have HP := hide (show Blk X1 g0 35 (pkVs ⟨4, dup, id, topic, payload, qos, retain, client, clean, alive, hasWill, hasUser, hasPass, user, pass, present, codes, subs⟩ C nc kc S ns ks) from by rw [← hY]; exact HP.out.oth (by omega) 2 _)
  have HR := hide (show Blk X1 g1 35 (pkVs (zeroP 0) none 0 0 none 0 0) from by rw [← hY]; exact HR.out.oth (by omega) 2 _)
  have HBW := hide (show Below w.heap.size w X1 from by rw [← hY]; exact HBW.out.setCell h02 _)
  clear hY f1 l1 c1 d1
  refine wp_region_lit ?_
  refine wpList_loadP rfl 35 (.tmp 3) rfl g2 35 ⟨4, false, id, [], [], 0, false, [], false, 0, false, false, false, [], [], false, [], []⟩ none 0 0 none 0 0 rfl HQ.out Try.underlying35 rfl (by kernel_rfl) ?_
  refine wpList_storeQ rfl 35 (.tmp 2) (.tmp 89) rfl g1 35 (zeroP 0) none 0 0 none 0 0 ⟨4, false, id, [], [], 0, false, [], false, 0, false, false, false, [], [], false, [], []⟩ none 0 0 none 0 0 rfl rfl HR.out (by kernel_rfl) ?_
  intro U bU BU
  have hB := But.below HBW.out BU (fun i e => by omega) HBW.out.size
  go_wp2_with fail
  refine bodyPost_ret (results_cell rfl rfl bU Try.underlying35 rfl (by kernel_rfl)) rfl ?_
  exact ⟨rfl, hg0 ▸ hB⟩

set_option maxRecDepth 100000 in
set_option maxHeartbeats 8000000 in
theorem usedP_5 (p : Pk) (C : Option Addr) (nc kc : Nat) (S : Option Addr) (ns ks : Nat) (w : World) (ht : p.ty = 5) : Calls Try.prog 32 #[pkA p C nc kc S ns ks] w fun e w' => e = .returned (pkA (usedP p) none 0 0 none 0 0) ∧ Below w.heap.size w w' := by
  obtain ⟨ty, dup, id, topic, payload, qos, retain, client, clean, alive, hasWill, hasUser, hasPass, user, pass, present, codes, subs⟩ := p
  simp only at ht
  subst ht
  have hU : usedP ⟨5, dup, id, topic, payload, qos, retain, client, clean, alive, hasWill, hasUser, hasPass, user, pass, present, codes, subs⟩ = ⟨5, false, id, [], [], 0, false, [], false, 0, false, false, false, [], [], false, [], []⟩ := by unfold usedP; rfl
  rw [hU]
  clear hU
  simp only [pkA]
  go_enter Try.func32, Try.ntmps32
  go_upto_region 1 with fail
  generalize hW : w.alloc _ = W
  obtain ⟨g0, hg0, hB, bW, hsz⟩ := boxedP (p := ⟨5, dup, id, topic, payload, qos, retain, client, clean, alive, hasWill, hasUser, hasPass, user, pass, present, codes, subs⟩) hW
  generalize hV : W.alloc _ = V
  obtain ⟨g1, hg1, hB2, bV, hsz2⟩ := boxedP (p := zeroP 0) hV
  have hw1 : w.heap.size + 1 = g1 := by omega
  rw [hw1, hg0]
  have HP := hide (hB.keep (by rw [hg1]; exact bV))
  have HR := hide hB2
  have HBW := hide (show Below w.heap.size w V from below_on (by rw [hg0]; exact bW) (by rw [hg1]; exact bV))
  have h01 : w.heap.size ≤ g1 := by omega
  have h02 : w.heap.size ≤ V.heap.size := by omega
  have h03 : g0 < V.heap.size := by omega
  have h04 : g1 < V.heap.size := by omega
  clear hW hV hB hB2 bW bV hsz hsz2 hg1 hw1
  have c0 := HP.out.p18.1
  simp only at c0
  go_upto_region 2 with (refine wpList_storeQ rfl 35 (.tmp 3) (.tmp 6) rfl V.heap.size 35 (zeroP 0) none 0 0 none 0 0 ⟨5, false, 0, [], [], 0, false, [], false, 0, false, false, false, [], [], false, [], []⟩ none 0 0 none 0 0 rfl rfl (Blk.new V 35 (pkVs (zeroP 0) none 0 0 none 0 0)) (by kernel_rfl) ?_; intro X0 bX BX)
  have bW : Below V.heap.size V X0 := But.below ((Below.refl _ _).alloc (Nat.le_refl _) _) BX (fun i e => by omega) (by simp)
  obtain ⟨g2, hg2⟩ : ∃ g2, V.heap.size = g2 := ⟨_, rfl⟩
  rw [hg2] at bX h02 h03 h04 ⊢
  have HP := hide (HP.out.keep bW)
  have HR := hide (HR.out.keep bW)
  have HBW := hide (below_on HBW.out bW)
  have HQ := hide bX
  clear c0 bX BX bW hg2
  have c0 := HP.out.p18.1
  simp only at c0
  go_upto_region 28 with fail
  clear c0
  have f1 := HQ.out.frozen
  have l1 := HQ.out.lt
  have c1 := HP.out.p18.2.2.1
  have d1 := HQ.out.p18.2.2.1
  try simp only at c1 d1
  go_upto_region 36 with fail
  generalize hY : X0.setCell ⟨g2, 2, none⟩ (.int .i64 id) = X1
  have HQ := hide (show Blk X1 g2 35 (pkVs ⟨5, false, id, [], [], 0, false, [], false, 0, false, false, false, [], [], false, [], []⟩ none 0 0 none 0 0) from by rw [← hY]; exact HQ.out.set 2 _)
  have HP := hide (show Blk X1 g0 35 (pkVs ⟨5, dup, id, topic, payload, qos, retain, client, clean, alive, hasWill, hasUser, hasPass, user, pass, present, codes, subs⟩ C nc kc S ns ks) from by rw [← hY]; exact HP.out.oth (by omega) 2 _)
  have HR := hide (show Blk X1 g1 35 (pkVs (zeroP 0) none 0 0 none 0 0) from by rw [← hY]; exact HR.out.oth (by omega) 2 _)
  have HBW := hide (show Below w.heap.size w X1 from by rw [← hY]; exact HBW.out.setCell h02 _)
  clear hY f1 l1 c1 d1
  refine wp_region_lit ?_
  refine wpList_loadP rfl 35 (.tmp 3) rfl g2 35 ⟨5, false, id, [], [], 0, false, [], false, 0, false, false, false, [], [], false, [], []⟩ none 0 0 none 0 0 rfl HQ.out Try.underlying35 rfl (by kernel_rfl) ?_
  refine wpList_storeQ rfl 35 (.tmp 2) (.tmp 89) rfl g1 35 (zeroP 0) none 0 0 none 0 0 ⟨5, false, id, [], [], 0, false, [], false, 0, false, false, false, [], [], false, [], []⟩ none 0 0 none 0 0 rfl rfl HR.out (by kernel_rfl) ?_
  intro U bU BU
  have hB := But.below HBW.out BU (fun i e => by omega) HBW.out.size
  go_wp2_with fail
  refine bodyPost_ret (results_cell rfl rfl bU Try.underlying35 rfl (by kernel_rfl)) rfl ?_
  exact ⟨rfl, hg0 ▸ hB⟩

set_option maxRecDepth 100000 in
set_option maxHeartbeats 8000000 in
theorem usedP_6 (p : Pk) (C : Option Addr) (nc kc : Nat) (S : Option Addr) (ns ks : Nat) (w : World) (ht : p.ty = 6) : Calls Try.prog 32 #[pkA p C nc kc S ns ks] w fun e w' => e = .returned (pkA (usedP p) none 0 0 none 0 0) ∧ Below w.heap.size w w' := by
  obtain ⟨ty, dup, id, topic, payload, qos, retain, client, clean, alive, hasWill, hasUser, hasPass, user, pass, present, codes, subs⟩ := p
  simp only at ht
  subst ht
  have hU : usedP ⟨6, dup, id, topic, payload, qos, retain, client, clean, alive, hasWill, hasUser, hasPass, user, pass, present, codes, subs⟩ = ⟨6, false, id, [], [], 0, false, [], false, 0, false, false, false, [], [], false, [], []⟩ := by unfold usedP; rfl
  rw [hU]
  clear hU
  simp only [pkA]
  go_enter Try.func32, Try.ntmps32
  go_upto_region 1 with fail
  generalize hW : w.alloc _ = W
  obtain ⟨g0, hg0, hB, bW, hsz⟩ := boxedP (p := ⟨6, dup, id, topic, payload, qos, retain, client, clean, alive, hasWill, hasUser, hasPass, user, pass, present, codes, subs⟩) hW
  generalize hV : W.alloc _ = V
  obtain ⟨g1, hg1, hB2, bV, hsz2⟩ := boxedP (p := zeroP 0) hV
  have hw1 : w.heap.size + 1 = g1 := by omega
  rw [hw1, hg0]
  have HP := hide (hB.keep (by rw [hg1]; exact bV))
  have HR := hide hB2
  have HBW := hide (show Below w.heap.size w V from below_on (by rw [hg0]; exact bW) (by rw [hg1]; exact bV))
  have h01 : w.heap.size ≤ g1 := by omega
  have h02 : w.heap.size ≤ V.heap.size := by omega
  have h03 : g0 < V.heap.size := by omega
  have h04 : g1 < V.heap.size := by omega
  clear hW hV hB hB2 bW bV hsz hsz2 hg1 hw1
  have c0 := HP.out.p18.1
  simp only at c0
  go_upto_region 2 with (refine wpList_storeQ rfl 35 (.tmp 3) (.tmp 6) rfl V.heap.size 35 (zeroP 0) none 0 0 none 0 0 ⟨6, false, 0, [], [], 0, false, [], false, 0, false, false, false, [], [], false, [], []⟩ none 0 0 none 0 0 rfl rfl (Blk.new V 35 (pkVs (zeroP 0) none 0 0 none 0 0)) (by kernel_rfl) ?_; intro X0 bX BX)
  have bW : Below V.heap.size V X0 := But.below ((Below.refl _ _).alloc (Nat.le_refl _) _) BX (fun i e => by omega) (by simp)
  obtain ⟨g2, hg2⟩ : ∃ g2, V.heap.size = g2 := ⟨_, rfl⟩
  rw [hg2] at bX h02 h03 h04 ⊢
  have HP := hide (HP.out.keep bW)
  have HR := hide (HR.out.keep bW)
  have HBW := hide (below_on HBW.out bW)
  have HQ := hide bX
  clear c0 bX BX bW hg2
  have c0 := HP.out.p18.1
  simp only at c0
  go_upto_region 28 with fail
  clear c0
  have f1 := HQ.out.frozen
  have l1 := HQ.out.lt
  have c1 := HP.out.p18.2.2.1
  have d1 := HQ.out.p18.2.2.1
  try simp only at c1 d1
  go_upto_region 36 with fail
  generalize hY : X0.setCell ⟨g2, 2, none⟩ (.int .i64 id) = X1
  have HQ := hide (show Blk X1 g2 35 (pkVs ⟨6, false, id, [], [], 0, false, [], false, 0, false, false, false, [], [], false, [], []⟩ none 0 0 none 0 0) from by rw [← hY]; exact HQ.out.set 2 _)
  have HP := hide (show Blk X1 g0 35 (pkVs ⟨6, dup, id, topic, payload, qos, retain, client, clean, alive, hasWill, hasUser, hasPass, user, pass, present, codes, subs⟩ C nc kc S ns ks) from by rw [← hY]; exact HP.out.oth (by omega) 2 _)
  have HR := hide (show Blk X1 g1 35 (pkVs (zeroP 0) none 0 0 none 0 0) from by rw [← hY]; exact HR.out.oth (by omega) 2 _)
  have HBW := hide (show Below w.heap.size w X1 from by rw [← hY]; exact HBW.out.setCell h02 _)
  clear hY f1 l1 c1 d1
  refine wp_region_lit ?_
  refine wpList_loadP rfl 35 (.tmp 3) rfl g2 35 ⟨6, false, id, [], [], 0, false, [], false, 0, false, false, false, [], [], false, [], []⟩ none 0 0 none 0 0 rfl HQ.out Try.underlying35 rfl (by kernel_rfl) ?_
  refine wpList_storeQ rfl 35 (.tmp 2) (.tmp 89) rfl g1 35 (zeroP 0) none 0 0 none 0 0 ⟨6, false, id, [], [], 0, false, [], false, 0, false, false, false, [], [], false, [], []⟩ none 0 0 none 0 0 rfl rfl HR.out (by kernel_rfl) ?_
  intro U bU BU
  have hB := But.below HBW.out BU (fun i e => by omega) HBW.out.size
  go_wp2_with fail
  refine bodyPost_ret (results_cell rfl rfl bU Try.underlying35 rfl (by kernel_rfl)) rfl ?_
  exact ⟨rfl, hg0 ▸ hB⟩

end Go.Proofs.Ytkgidimaiedocaa

namespace Go.Proofs.Ytkgidimaiedocaa
set_option linter.unusedVariables false
set_option linter.unusedSimpArgs false
open Go.RowKit

set_option maxRecDepth 100000 in
set_option maxHeartbeats 8000000 in
theorem usedP_7 (p : Pk) (C : Option Addr) (nc kc : Nat) (S : Option Addr) (ns ks : Nat) (w : World) (ht : p.ty = 7) : Calls Try.prog 32 #[pkA p C nc kc S ns ks] w fun e w' => e = .returned (pkA (usedP p) none 0 0 none 0 0) ∧ Below w.heap.size w w' := by
  obtain ⟨ty, dup, id, topic, payload, qos, retain, client, clean, alive, hasWill, hasUser, hasPass, user, pass, present, codes, subs⟩ := p
  simp only at ht
  subst ht
  have hU : usedP ⟨7, dup, id, topic, payload, qos, retain, client, clean, alive, hasWill, hasUser, hasPass, user, pass, present, codes, subs⟩ = ⟨7, false, id, [], [], 0, false, [], false, 0, false, false, false, [], [], false, [], []⟩ := by unfold usedP; rfl
  rw [hU]
  clear hU
  simp only [pkA]
  go_enter Try.func32, Try.ntmps32
  go_upto_region 1 with fail
  generalize hW : w.alloc _ = W
  obtain ⟨g0, hg0, hB, bW, hsz⟩ := boxedP (p := ⟨7, dup, id, topic, payload, qos, retain, client, clean, alive, hasWill, hasUser, hasPass, user, pass, present, codes, subs⟩) hW
  generalize hV : W.alloc _ = V
  obtain ⟨g1, hg1, hB2, bV, hsz2⟩ := boxedP (p := zeroP 0) hV
  have hw1 : w.heap.size + 1 = g1 := by omega
  rw [hw1, hg0]
  have HP := hide (hB.keep (by rw [hg1]; exact bV))
  have HR := hide hB2
  have HBW := hide (show Below w.heap.size w V from below_on (by rw [hg0]; exact bW) (by rw [hg1]; exact bV))
  have h01 : w.heap.size ≤ g1 := by omega
  have h02 : w.heap.size ≤ V.heap.size := by omega
  have h03 : g0 < V.heap.size := by omega
  have h04 : g1 < V.heap.size := by omega
  clear hW hV hB hB2 bW bV hsz hsz2 hg1 hw1
  have c0 := HP.out.p18.1
  simp only at c0
  go_upto_region 2 with (refine wpList_storeQ rfl 35 (.tmp 3) (.tmp 6) rfl V.heap.size 35 (zeroP 0) none 0 0 none 0 0 ⟨7, false, 0, [], [], 0, false, [], false, 0, false, false, false, [], [], false, [], []⟩ none 0 0 none 0 0 rfl rfl (Blk.new V 35 (pkVs (zeroP 0) none 0 0 none 0 0)) (by kernel_rfl) ?_; intro X0 bX BX)
  have bW : Below V.heap.size V X0 := But.below ((Below.refl _ _).alloc (Nat.le_refl _) _) BX (fun i e => by omega) (by simp)
  obtain ⟨g2, hg2⟩ : ∃ g2, V.heap.size = g2 := ⟨_, rfl⟩
  rw [hg2] at bX h02 h03 h04 ⊢
  have HP := hide (HP.out.keep bW)
  have HR := hide (HR.out.keep bW)
  have HBW := hide (below_on HBW.out bW)
  have HQ := hide bX
  clear c0 bX BX bW hg2
  have c0 := HP.out.p18.1
  simp only at c0
  go_upto_region 28 with fail
  clear c0
  have f1 := HQ.out.frozen
  have l1 := HQ.out.lt
  have c1 := HP.out.p18.2.2.1
  have d1 := HQ.out.p18.2.2.1
  try simp only at c1 d1
  go_upto_region 36 with fail
  generalize hY : X0.setCell ⟨g2, 2, none⟩ (.int .i64 id) = X1
  have HQ := hide (show Blk X1 g2 35 (pkVs ⟨7, false, id, [], [], 0, false, [], false, 0, false, false, false, [], [], false, [], []⟩ none 0 0 none 0 0) from by rw [← hY]; exact HQ.out.set 2 _)
  have HP := hide (show Blk X1 g0 35 (pkVs ⟨7, dup, id, topic, payload, qos, retain, client, clean, alive, hasWill, hasUser, hasPass, user, pass, present, codes, subs⟩ C nc kc S ns ks) from by rw [← hY]; exact HP.out.oth (by omega) 2 _)
  have HR := hide (show Blk X1 g1 35 (pkVs (zeroP 0) none 0 0 none 0 0) from by rw [← hY]; exact HR.out.oth (by omega) 2 _)
  have HBW := hide (show Below w.heap.size w X1 from by rw [← hY]; exact HBW.out.setCell h02 _)
  clear hY f1 l1 c1 d1
  refine wp_region_lit ?_
  refine wpList_loadP rfl 35 (.tmp 3) rfl g2 35 ⟨7, false, id, [], [], 0, false, [], false, 0, false, false, false, [], [], false, [], []⟩ none 0 0 none 0 0 rfl HQ.out Try.underlying35 rfl (by kernel_rfl) ?_
  refine wpList_storeQ rfl 35 (.tmp 2) (.tmp 89) rfl g1 35 (zeroP 0) none 0 0 none 0 0 ⟨7, false, id, [], [], 0, false, [], false, 0, false, false, false, [], [], false, [], []⟩ none 0 0 none 0 0 rfl rfl HR.out (by kernel_rfl) ?_
  intro U bU BU
  have hB := But.below HBW.out BU (fun i e => by omega) HBW.out.size
  go_wp2_with fail
  refine bodyPost_ret (results_cell rfl rfl bU Try.underlying35 rfl (by kernel_rfl)) rfl ?_
  exact ⟨rfl, hg0 ▸ hB⟩

set_option maxRecDepth 100000 in
set_option maxHeartbeats 8000000 in
theorem usedP_11 (p : Pk) (C : Option Addr) (nc kc : Nat) (S : Option Addr) (ns ks : Nat) (w : World) (ht : p.ty = 11) : Calls Try.prog 32 #[pkA p C nc kc S ns ks] w fun e w' => e = .returned (pkA (usedP p) none 0 0 none 0 0) ∧ Below w.heap.size w w' := by
  obtain ⟨ty, dup, id, topic, payload, qos, retain, client, clean, alive, hasWill, hasUser, hasPass, user, pass, present, codes, subs⟩ := p
  simp only at ht
  subst ht
  have hU : usedP ⟨11, dup, id, topic, payload, qos, retain, client, clean, alive, hasWill, hasUser, hasPass, user, pass, present, codes, subs⟩ = ⟨11, false, id, [], [], 0, false, [], false, 0, false, false, false, [], [], false, [], []⟩ := by unfold usedP; rfl
  rw [hU]
  clear hU
  simp only [pkA]
  go_enter Try.func32, Try.ntmps32
  go_upto_region 1 with fail
  generalize hW : w.alloc _ = W
  obtain ⟨g0, hg0, hB, bW, hsz⟩ := boxedP (p := ⟨11, dup, id, topic, payload, qos, retain, client, clean, alive, hasWill, hasUser, hasPass, user, pass, present, codes, subs⟩) hW
  generalize hV : W.alloc _ = V
  obtain ⟨g1, hg1, hB2, bV, hsz2⟩ := boxedP (p := zeroP 0) hV
  have hw1 : w.heap.size + 1 = g1 := by omega
  rw [hw1, hg0]
  have HP := hide (hB.keep (by rw [hg1]; exact bV))
  have HR := hide hB2
  have HBW := hide (show Below w.heap.size w V from below_on (by rw [hg0]; exact bW) (by rw [hg1]; exact bV))
  have h01 : w.heap.size ≤ g1 := by omega
  have h02 : w.heap.size ≤ V.heap.size := by omega
  have h03 : g0 < V.heap.size := by omega
  have h04 : g1 < V.heap.size := by omega
  clear hW hV hB hB2 bW bV hsz hsz2 hg1 hw1
  have c0 := HP.out.p18.1
  simp only at c0
  go_upto_region 2 with (refine wpList_storeQ rfl 35 (.tmp 3) (.tmp 6) rfl V.heap.size 35 (zeroP 0) none 0 0 none 0 0 ⟨11, false, 0, [], [], 0, false, [], false, 0, false, false, false, [], [], false, [], []⟩ none 0 0 none 0 0 rfl rfl (Blk.new V 35 (pkVs (zeroP 0) none 0 0 none 0 0)) (by kernel_rfl) ?_; intro X0 bX BX)
  have bW : Below V.heap.size V X0 := But.below ((Below.refl _ _).alloc (Nat.le_refl _) _) BX (fun i e => by omega) (by simp)
  obtain ⟨g2, hg2⟩ : ∃ g2, V.heap.size = g2 := ⟨_, rfl⟩
  rw [hg2] at bX h02 h03 h04 ⊢
  have HP := hide (HP.out.keep bW)
  have HR := hide (HR.out.keep bW)
  have HBW := hide (below_on HBW.out bW)
  have HQ := hide bX
  clear c0 bX BX bW hg2
  have c0 := HP.out.p18.1
  simp only at c0
  go_upto_region 28 with fail
  clear c0
  have f1 := HQ.out.frozen
  have l1 := HQ.out.lt
  have c1 := HP.out.p18.2.2.1
  have d1 := HQ.out.p18.2.2.1
  try simp only at c1 d1
  go_upto_region 36 with fail
  generalize hY : X0.setCell ⟨g2, 2, none⟩ (.int .i64 id) = X1
  have HQ := hide (show Blk X1 g2 35 (pkVs ⟨11, false, id, [], [], 0, false, [], false, 0, false, false, false, [], [], false, [], []⟩ none 0 0 none 0 0) from by rw [← hY]; exact HQ.out.set 2 _)
  have HP := hide (show Blk X1 g0 35 (pkVs ⟨11, dup, id, topic, payload, qos, retain, client, clean, alive, hasWill, hasUser, hasPass, user, pass, present, codes, subs⟩ C nc kc S ns ks) from by rw [← hY]; exact HP.out.oth (by omega) 2 _)
  have HR := hide (show Blk X1 g1 35 (pkVs (zeroP 0) none 0 0 none 0 0) from by rw [← hY]; exact HR.out.oth (by omega) 2 _)
  have HBW := hide (show Below w.heap.size w X1 from by rw [← hY]; exact HBW.out.setCell h02 _)
  clear hY f1 l1 c1 d1
  refine wp_region_lit ?_
  refine wpList_loadP rfl 35 (.tmp 3) rfl g2 35 ⟨11, false, id, [], [], 0, false, [], false, 0, false, false, false, [], [], false, [], []⟩ none 0 0 none 0 0 rfl HQ.out Try.underlying35 rfl (by kernel_rfl) ?_
  refine wpList_storeQ rfl 35 (.tmp 2) (.tmp 89) rfl g1 35 (zeroP 0) none 0 0 none 0 0 ⟨11, false, id, [], [], 0, false, [], false, 0, false, false, false, [], [], false, [], []⟩ none 0 0 none 0 0 rfl rfl HR.out (by kernel_rfl) ?_
  intro U bU BU
  have hB := But.below HBW.out BU (fun i e => by omega) HBW.out.size
  go_wp2_with fail
  refine bodyPost_ret (results_cell rfl rfl bU Try.underlying35 rfl (by kernel_rfl)) rfl ?_
  exact ⟨rfl, hg0 ▸ hB⟩

set_option maxRecDepth 100000 in
set_option maxHeartbeats 8000000 in
theorem usedP_8 (p : Pk) (C : Option Addr) (nc kc : Nat) (S : Option Addr) (ns ks : Nat) (w : World) (ht : p.ty = 8) : Calls Try.prog 32 #[pkA p C nc kc S ns ks] w fun e w' => e = .returned (pkA (usedP p) none 0 0 S ns ks) ∧ Below w.heap.size w w' := by
  obtain ⟨ty, dup, id, topic, payload, qos, retain, client, clean, alive, hasWill, hasUser, hasPass, user, pass, present, codes, subs⟩ := p
  simp only at ht
  subst ht
  have hU : usedP ⟨8, dup, id, topic, payload, qos, retain, client, clean, alive, hasWill, hasUser, hasPass, user, pass, present, codes, subs⟩ = ⟨8, false, id, [], [], 0, false, [], false, 0, false, false, false, [], [], false, [], subs⟩ := by unfold usedP; rfl
  rw [hU]
  clear hU
  simp only [pkA]
  go_enter Try.func32, Try.ntmps32
  go_upto_region 1 with fail
  generalize hW : w.alloc _ = W
  obtain ⟨g0, hg0, hB, bW, hsz⟩ := boxedP (p := ⟨8, dup, id, topic, payload, qos, retain, client, clean, alive, hasWill, hasUser, hasPass, user, pass, present, codes, subs⟩) hW
  generalize hV : W.alloc _ = V
  obtain ⟨g1, hg1, hB2, bV, hsz2⟩ := boxedP (p := zeroP 0) hV
  have hw1 : w.heap.size + 1 = g1 := by omega
  rw [hw1, hg0]
  have HP := hide (hB.keep (by rw [hg1]; exact bV))
  have HR := hide hB2
  have HBW := hide (show Below w.heap.size w V from below_on (by rw [hg0]; exact bW) (by rw [hg1]; exact bV))
  have h01 : w.heap.size ≤ g1 := by omega
  have h02 : w.heap.size ≤ V.heap.size := by omega
  have h03 : g0 < V.heap.size := by omega
  have h04 : g1 < V.heap.size := by omega
  clear hW hV hB hB2 bW bV hsz hsz2 hg1 hw1
  have c0 := HP.out.p18.1
  simp only at c0
  go_upto_region 2 with (refine wpList_storeQ rfl 35 (.tmp 3) (.tmp 6) rfl V.heap.size 35 (zeroP 0) none 0 0 none 0 0 ⟨8, false, 0, [], [], 0, false, [], false, 0, false, false, false, [], [], false, [], []⟩ none 0 0 none 0 0 rfl rfl (Blk.new V 35 (pkVs (zeroP 0) none 0 0 none 0 0)) (by kernel_rfl) ?_; intro X0 bX BX)
  have bW : Below V.heap.size V X0 := But.below ((Below.refl _ _).alloc (Nat.le_refl _) _) BX (fun i e => by omega) (by simp)
  obtain ⟨g2, hg2⟩ : ∃ g2, V.heap.size = g2 := ⟨_, rfl⟩
  rw [hg2] at bX h02 h03 h04 ⊢
  have HP := hide (HP.out.keep bW)
  have HR := hide (HR.out.keep bW)
  have HBW := hide (below_on HBW.out bW)
  have HQ := hide bX
  clear c0 bX BX bW hg2
  have c0 := HP.out.p18.1
  simp only at c0
  go_upto_region 31 with fail
  clear c0
  have f1 := HQ.out.frozen
  have l1 := HQ.out.lt
  have c1 := HP.out.p18.2.2.1
  have d1 := HQ.out.p18.2.2.1
  try simp only at c1 d1
  go_upto_region 32 with fail
  generalize hY : X0.setCell ⟨g2, 2, none⟩ (.int .i64 id) = X1
  have HQ := hide (show Blk X1 g2 35 (pkVs ⟨8, false, id, [], [], 0, false, [], false, 0, false, false, false, [], [], false, [], []⟩ none 0 0 none 0 0) from by rw [← hY]; exact HQ.out.set 2 _)
  have HP := hide (show Blk X1 g0 35 (pkVs ⟨8, dup, id, topic, payload, qos, retain, client, clean, alive, hasWill, hasUser, hasPass, user, pass, present, codes, subs⟩ C nc kc S ns ks) from by rw [← hY]; exact HP.out.oth (by omega) 2 _)
  have HR := hide (show Blk X1 g1 35 (pkVs (zeroP 0) none 0 0 none 0 0) from by rw [← hY]; exact HR.out.oth (by omega) 2 _)
  have HBW := hide (show Below w.heap.size w X1 from by rw [← hY]; exact HBW.out.setCell h02 _)
  clear hY f1 l1 c1 d1
  have f1 := HQ.out.frozen
  have l1 := HQ.out.lt
  have c1 := HP.out.p18.2.2.2.2.2.2.2.2.2.2.2.2.2.2.2.2.2
  have d1 := HQ.out.p18.2.2.2.2.2.2.2.2.2.2.2.2.2.2.2.2.2
  try simp only at c1 d1
  go_upto_region 36 with fail
  generalize hY : X1.setCell ⟨g2, 17, none⟩ (.slice S ns ks) = X2
  have HQ := hide (show Blk X2 g2 35 (pkVs ⟨8, false, id, [], [], 0, false, [], false, 0, false, false, false, [], [], false, [], subs⟩ none 0 0 S ns ks) from by rw [← hY]; exact HQ.out.set 17 _)
  have HP := hide (show Blk X2 g0 35 (pkVs ⟨8, dup, id, topic, payload, qos, retain, client, clean, alive, hasWill, hasUser, hasPass, user, pass, present, codes, subs⟩ C nc kc S ns ks) from by rw [← hY]; exact HP.out.oth (by omega) 17 _)
  have HR := hide (show Blk X2 g1 35 (pkVs (zeroP 0) none 0 0 none 0 0) from by rw [← hY]; exact HR.out.oth (by omega) 17 _)
  have HBW := hide (show Below w.heap.size w X2 from by rw [← hY]; exact HBW.out.setCell h02 _)
  clear hY f1 l1 c1 d1
  refine wp_region_lit ?_
  refine wpList_loadP rfl 35 (.tmp 3) rfl g2 35 ⟨8, false, id, [], [], 0, false, [], false, 0, false, false, false, [], [], false, [], subs⟩ none 0 0 S ns ks rfl HQ.out Try.underlying35 rfl (by kernel_rfl) ?_
  refine wpList_storeQ rfl 35 (.tmp 2) (.tmp 89) rfl g1 35 (zeroP 0) none 0 0 none 0 0 ⟨8, false, id, [], [], 0, false, [], false, 0, false, false, false, [], [], false, [], subs⟩ none 0 0 S ns ks rfl rfl HR.out (by kernel_rfl) ?_
  intro U bU BU
  have hB := But.below HBW.out BU (fun i e => by omega) HBW.out.size
  go_wp2_with fail
  refine bodyPost_ret (results_cell rfl rfl bU Try.underlying35 rfl (by kernel_rfl)) rfl ?_
  exact ⟨rfl, hg0 ▸ hB⟩

set_option maxRecDepth 100000 in
set_option maxHeartbeats 8000000 in
theorem usedP_10 (p : Pk) (C : Option Addr) (nc kc : Nat) (S : Option Addr) (ns ks : Nat) (w : World) (ht : p.ty = 10) : Calls Try.prog 32 #[pkA p C nc kc S ns ks] w fun e w' => e = .returned (pkA (usedP p) none 0 0 S ns ks) ∧ Below w.heap.size w w' := by
  obtain ⟨ty, dup, id, topic, payload, qos, retain, client, clean, alive, hasWill, hasUser, hasPass, user, pass, present, codes, subs⟩ := p
  simp only at ht
  subst ht
  have hU : usedP ⟨10, dup, id, topic, payload, qos, retain, client, clean, alive, hasWill, hasUser, hasPass, user, pass, present, codes, subs⟩ = ⟨10, false, id, [], [], 0, false, [], false, 0, false, false, false, [], [], false, [], subs⟩ := by unfold usedP; rfl
  rw [hU]
  clear hU
  simp only [pkA]
  go_enter Try.func32, Try.ntmps32
  go_upto_region 1 with fail
  generalize hW : w.alloc _ = W
  obtain ⟨g0, hg0, hB, bW, hsz⟩ := boxedP (p := ⟨10, dup, id, topic, payload, qos, retain, client, clean, alive, hasWill, hasUser, hasPass, user, pass, present, codes, subs⟩) hW
  generalize hV : W.alloc _ = V
  obtain ⟨g1, hg1, hB2, bV, hsz2⟩ := boxedP (p := zeroP 0) hV
  have hw1 : w.heap.size + 1 = g1 := by omega
  rw [hw1, hg0]
  have HP := hide (hB.keep (by rw [hg1]; exact bV))
  have HR := hide hB2
  have HBW := hide (show Below w.heap.size w V from below_on (by rw [hg0]; exact bW) (by rw [hg1]; exact bV))
  have h01 : w.heap.size ≤ g1 := by omega
  have h02 : w.heap.size ≤ V.heap.size := by omega
  have h03 : g0 < V.heap.size := by omega
  have h04 : g1 < V.heap.size := by omega
  clear hW hV hB hB2 bW bV hsz hsz2 hg1 hw1
  have c0 := HP.out.p18.1
  simp only at c0
  go_upto_region 2 with (refine wpList_storeQ rfl 35 (.tmp 3) (.tmp 6) rfl V.heap.size 35 (zeroP 0) none 0 0 none 0 0 ⟨10, false, 0, [], [], 0, false, [], false, 0, false, false, false, [], [], false, [], []⟩ none 0 0 none 0 0 rfl rfl (Blk.new V 35 (pkVs (zeroP 0) none 0 0 none 0 0)) (by kernel_rfl) ?_; intro X0 bX BX)
  have bW : Below V.heap.size V X0 := But.below ((Below.refl _ _).alloc (Nat.le_refl _) _) BX (fun i e => by omega) (by simp)
  obtain ⟨g2, hg2⟩ : ∃ g2, V.heap.size = g2 := ⟨_, rfl⟩
  rw [hg2] at bX h02 h03 h04 ⊢
  have HP := hide (HP.out.keep bW)
  have HR := hide (HR.out.keep bW)
  have HBW := hide (below_on HBW.out bW)
  have HQ := hide bX
  clear c0 bX BX bW hg2
  have c0 := HP.out.p18.1
  simp only at c0
  go_upto_region 31 with fail
  clear c0
  have f1 := HQ.out.frozen
  have l1 := HQ.out.lt
  have c1 := HP.out.p18.2.2.1
  have d1 := HQ.out.p18.2.2.1
  try simp only at c1 d1
  go_upto_region 32 with fail
  generalize hY : X0.setCell ⟨g2, 2, none⟩ (.int .i64 id) = X1
  have HQ := hide (show Blk X1 g2 35 (pkVs ⟨10, false, id, [], [], 0, false, [], false, 0, false, false, false, [], [], false, [], []⟩ none 0 0 none 0 0) from by rw [← hY]; exact HQ.out.set 2 _)
  have HP := hide (show Blk X1 g0 35 (pkVs ⟨10, dup, id, topic, payload, qos, retain, client, clean, alive, hasWill, hasUser, hasPass, user, pass, present, codes, subs⟩ C nc kc S ns ks) from by rw [← hY]; exact HP.out.oth (by omega) 2 _)
  have HR := hide (show Blk X1 g1 35 (pkVs (zeroP 0) none 0 0 none 0 0) from by rw [← hY]; exact HR.out.oth (by omega) 2 _)
  have HBW := hide (show Below w.heap.size w X1 from by rw [← hY]; exact HBW.out.setCell h02 _)
  clear hY f1 l1 c1 d1
  have f1 := HQ.out.frozen
  have l1 := HQ.out.lt
  have c1 := HP.out.p18.2.2.2.2.2.2.2.2.2.2.2.2.2.2.2.2.2
  have d1 := HQ.out.p18.2.2.2.2.2.2.2.2.2.2.2.2.2.2.2.2.2
  try simp only at c1 d1
  go_upto_region 36 with fail
  generalize hY : X1.setCell ⟨g2, 17, none⟩ (.slice S ns ks) = X2
  have HQ := hide (show Blk X2 g2 35 (pkVs ⟨10, false, id, [], [], 0, false, [], false, 0, false, false, false, [], [], false, [], subs⟩ none 0 0 S ns ks) from by rw [← hY]; exact HQ.out.set 17 _)
  have HP := hide (show Blk X2 g0 35 (pkVs ⟨10, dup, id, topic, payload, qos, retain, client, clean, alive, hasWill, hasUser, hasPass, user, pass, present, codes, subs⟩ C nc kc S ns ks) from by rw [← hY]; exact HP.out.oth (by omega) 17 _)
  have HR := hide (show Blk X2 g1 35 (pkVs (zeroP 0) none 0 0 none 0 0) from by rw [← hY]; exact HR.out.oth (by omega) 17 _)
  have HBW := hide (show Below w.heap.size w X2 from by rw [← hY]; exact HBW.out.setCell h02 _)
  clear hY f1 l1 c1 d1
  refine wp_region_lit ?_
  refine wpList_loadP rfl 35 (.tmp 3) rfl g2 35 ⟨10, false, id, [], [], 0, false, [], false, 0, false, false, false, [], [], false, [], subs⟩ none 0 0 S ns ks rfl HQ.out Try.underlying35 rfl (by kernel_rfl) ?_
  refine wpList_storeQ rfl 35 (.tmp 2) (.tmp 89) rfl g1 35 (zeroP 0) none 0 0 none 0 0 ⟨10, false, id, [], [], 0, false, [], false, 0, false, false, false, [], [], false, [], subs⟩ none 0 0 S ns ks rfl rfl HR.out (by kernel_rfl) ?_
  intro U bU BU
  have hB := But.below HBW.out BU (fun i e => by omega) HBW.out.size
  go_wp2_with fail
  refine bodyPost_ret (results_cell rfl rfl bU Try.underlying35 rfl (by kernel_rfl)) rfl ?_
  exact ⟨rfl, hg0 ▸ hB⟩

end Go.Proofs.Ytkgidimaiedocaa

namespace Go.Proofs.Ytkgidimaiedocaa
set_option linter.unusedVariables false
set_option linter.unusedSimpArgs false
open Go.RowKit

set_option maxRecDepth 100000 in
set_option maxHeartbeats 8000000 in
theorem usedP_9 (p : Pk) (C : Option Addr) (nc kc : Nat) (S : Option Addr) (ns ks : Nat) (w : World) (ht : p.ty = 9) : Calls Try.prog 32 #[pkA p C nc kc S ns ks] w fun e w' => e = .returned (pkA (usedP p) C nc kc none 0 0) ∧ Below w.heap.size w w' := by
  obtain ⟨ty, dup, id, topic, payload, qos, retain, client, clean, alive, hasWill, hasUser, hasPass, user, pass, present, codes, subs⟩ := p
  simp only at ht
  subst ht
  have hU : usedP ⟨9, dup, id, topic, payload, qos, retain, client, clean, alive, hasWill, hasUser, hasPass, user, pass, present, codes, subs⟩ = ⟨9, false, id, [], [], 0, false, [], false, 0, false, false, false, [], [], false, codes, []⟩ := by unfold usedP; rfl
  rw [hU]
  clear hU
  simp only [pkA]
  go_enter Try.func32, Try.ntmps32
  go_upto_region 1 with fail
  generalize hW : w.alloc _ = W
  obtain ⟨g0, hg0, hB, bW, hsz⟩ := boxedP (p := ⟨9, dup, id, topic, payload, qos, retain, client, clean, alive, hasWill, hasUser, hasPass, user, pass, present, codes, subs⟩) hW
  generalize hV : W.alloc _ = V
  obtain ⟨g1, hg1, hB2, bV, hsz2⟩ := boxedP (p := zeroP 0) hV
  have hw1 : w.heap.size + 1 = g1 := by omega
  rw [hw1, hg0]
  have HP := hide (hB.keep (by rw [hg1]; exact bV))
  have HR := hide hB2
  have HBW := hide (show Below w.heap.size w V from below_on (by rw [hg0]; exact bW) (by rw [hg1]; exact bV))
  have h01 : w.heap.size ≤ g1 := by omega
  have h02 : w.heap.size ≤ V.heap.size := by omega
  have h03 : g0 < V.heap.size := by omega
  have h04 : g1 < V.heap.size := by omega
  clear hW hV hB hB2 bW bV hsz hsz2 hg1 hw1
  have c0 := HP.out.p18.1
  simp only at c0
  go_upto_region 2 with (refine wpList_storeQ rfl 35 (.tmp 3) (.tmp 6) rfl V.heap.size 35 (zeroP 0) none 0 0 none 0 0 ⟨9, false, 0, [], [], 0, false, [], false, 0, false, false, false, [], [], false, [], []⟩ none 0 0 none 0 0 rfl rfl (Blk.new V 35 (pkVs (zeroP 0) none 0 0 none 0 0)) (by kernel_rfl) ?_; intro X0 bX BX)
  have bW : Below V.heap.size V X0 := But.below ((Below.refl _ _).alloc (Nat.le_refl _) _) BX (fun i e => by omega) (by simp)
  obtain ⟨g2, hg2⟩ : ∃ g2, V.heap.size = g2 := ⟨_, rfl⟩
  rw [hg2] at bX h02 h03 h04 ⊢
  have HP := hide (HP.out.keep bW)
  have HR := hide (HR.out.keep bW)
  have HBW := hide (below_on HBW.out bW)
  have HQ := hide bX
  clear c0 bX BX bW hg2
  have c0 := HP.out.p18.1
  simp only at c0
  go_upto_region 34 with fail
  clear c0
  have f1 := HQ.out.frozen
  have l1 := HQ.out.lt
  have c1 := HP.out.p18.2.2.1
  have d1 := HQ.out.p18.2.2.1
  try simp only at c1 d1
  go_upto_region 35 with fail
  generalize hY : X0.setCell ⟨g2, 2, none⟩ (.int .i64 id) = X1
  have HQ := hide (show Blk X1 g2 35 (pkVs ⟨9, false, id, [], [], 0, false, [], false, 0, false, false, false, [], [], false, [], []⟩ none 0 0 none 0 0) from by rw [← hY]; exact HQ.out.set 2 _)
  have HP := hide (show Blk X1 g0 35 (pkVs ⟨9, dup, id, topic, payload, qos, retain, client, clean, alive, hasWill, hasUser, hasPass, user, pass, present, codes, subs⟩ C nc kc S ns ks) from by rw [← hY]; exact HP.out.oth (by omega) 2 _)
  have HR := hide (show Blk X1 g1 35 (pkVs (zeroP 0) none 0 0 none 0 0) from by rw [← hY]; exact HR.out.oth (by omega) 2 _)
  have HBW := hide (show Below w.heap.size w X1 from by rw [← hY]; exact HBW.out.setCell h02 _)
  clear hY f1 l1 c1 d1
  have f1 := HQ.out.frozen
  have l1 := HQ.out.lt
  have c1 := HP.out.p18.2.2.2.2.2.2.2.2.2.2.2.2.2.2.2.2.1
  have d1 := HQ.out.p18.2.2.2.2.2.2.2.2.2.2.2.2.2.2.2.2.1
  try simp only at c1 d1
  go_upto_region 36 with fail
  generalize hY : X1.setCell ⟨g2, 16, none⟩ (.slice C nc kc) = X2
  have HQ := hide (show Blk X2 g2 35 (pkVs ⟨9, false, id, [], [], 0, false, [], false, 0, false, false, false, [], [], false, codes, []⟩ C nc kc none 0 0) from by rw [← hY]; exact HQ.out.set 16 _)
  have HP := hide (show Blk X2 g0 35 (pkVs ⟨9, dup, id, topic, payload, qos, retain, client, clean, alive, hasWill, hasUser, hasPass, user, pass, present, codes, subs⟩ C nc kc S ns ks) from by rw [← hY]; exact HP.out.oth (by omega) 16 _)
  have HR := hide (show Blk X2 g1 35 (pkVs (zeroP 0) none 0 0 none 0 0) from by rw [← hY]; exact HR.out.oth (by omega) 16 _)
  have HBW := hide (show Below w.heap.size w X2 from by rw [← hY]; exact HBW.out.setCell h02 _)
  clear hY f1 l1 c1 d1
  refine wp_region_lit ?_
  refine wpList_loadP rfl 35 (.tmp 3) rfl g2 35 ⟨9, false, id, [], [], 0, false, [], false, 0, false, false, false, [], [], false, codes, []⟩ C nc kc none 0 0 rfl HQ.out Try.underlying35 rfl (by kernel_rfl) ?_
  refine wpList_storeQ rfl 35 (.tmp 2) (.tmp 89) rfl g1 35 (zeroP 0) none 0 0 none 0 0 ⟨9, false, id, [], [], 0, false, [], false, 0, false, false, false, [], [], false, codes, []⟩ C nc kc none 0 0 rfl rfl HR.out (by kernel_rfl) ?_
  intro U bU BU
  have hB := But.below HBW.out BU (fun i e => by omega) HBW.out.size
  go_wp2_with fail
  refine bodyPost_ret (results_cell rfl rfl bU Try.underlying35 rfl (by kernel_rfl)) rfl ?_
  exact ⟨rfl, hg0 ▸ hB⟩

set_option maxRecDepth 100000 in
set_option maxHeartbeats 8000000 in
theorem usedP_12 (p : Pk) (C : Option Addr) (nc kc : Nat) (S : Option Addr) (ns ks : Nat) (w : World) (ht : p.ty = 12) : Calls Try.prog 32 #[pkA p C nc kc S ns ks] w fun e w' => e = .returned (pkA (usedP p) none 0 0 none 0 0) ∧ Below w.heap.size w w' := by
  obtain ⟨ty, dup, id, topic, payload, qos, retain, client, clean, alive, hasWill, hasUser, hasPass, user, pass, present, codes, subs⟩ := p
  simp only at ht
  subst ht
  have hU : usedP ⟨12, dup, id, topic, payload, qos, retain, client, clean, alive, hasWill, hasUser, hasPass, user, pass, present, codes, subs⟩ = ⟨12, false, 0, [], [], 0, false, [], false, 0, false, false, false, [], [], false, [], []⟩ := by unfold usedP; rfl
  rw [hU]
  clear hU
  simp only [pkA]
  go_enter Try.func32, Try.ntmps32
  go_upto_region 1 with fail
  generalize hW : w.alloc _ = W
  obtain ⟨g0, hg0, hB, bW, hsz⟩ := boxedP (p := ⟨12, dup, id, topic, payload, qos, retain, client, clean, alive, hasWill, hasUser, hasPass, user, pass, present, codes, subs⟩) hW
  generalize hV : W.alloc _ = V
  obtain ⟨g1, hg1, hB2, bV, hsz2⟩ := boxedP (p := zeroP 0) hV
  have hw1 : w.heap.size + 1 = g1 := by omega
  rw [hw1, hg0]
  have HP := hide (hB.keep (by rw [hg1]; exact bV))
  have HR := hide hB2
  have HBW := hide (show Below w.heap.size w V from below_on (by rw [hg0]; exact bW) (by rw [hg1]; exact bV))
  have h01 : w.heap.size ≤ g1 := by omega
  have h02 : w.heap.size ≤ V.heap.size := by omega
  have h03 : g0 < V.heap.size := by omega
  have h04 : g1 < V.heap.size := by omega
  clear hW hV hB hB2 bW bV hsz hsz2 hg1 hw1
  have c0 := HP.out.p18.1
  simp only at c0
  go_upto_region 2 with (refine wpList_storeQ rfl 35 (.tmp 3) (.tmp 6) rfl V.heap.size 35 (zeroP 0) none 0 0 none 0 0 ⟨12, false, 0, [], [], 0, false, [], false, 0, false, false, false, [], [], false, [], []⟩ none 0 0 none 0 0 rfl rfl (Blk.new V 35 (pkVs (zeroP 0) none 0 0 none 0 0)) (by kernel_rfl) ?_; intro X0 bX BX)
  have bW : Below V.heap.size V X0 := But.below ((Below.refl _ _).alloc (Nat.le_refl _) _) BX (fun i e => by omega) (by simp)
  obtain ⟨g2, hg2⟩ : ∃ g2, V.heap.size = g2 := ⟨_, rfl⟩
  rw [hg2] at bX h02 h03 h04 ⊢
  have HP := hide (HP.out.keep bW)
  have HR := hide (HR.out.keep bW)
  have HBW := hide (below_on HBW.out bW)
  have HQ := hide bX
  clear c0 bX BX bW hg2
  have c0 := HP.out.p18.1
  simp only at c0
  go_upto_region 36 with fail
  clear c0
  refine wp_region_lit ?_
  refine wpList_loadP rfl 35 (.tmp 3) rfl g2 35 ⟨12, false, 0, [], [], 0, false, [], false, 0, false, false, false, [], [], false, [], []⟩ none 0 0 none 0 0 rfl HQ.out Try.underlying35 rfl (by kernel_rfl) ?_
  refine wpList_storeQ rfl 35 (.tmp 2) (.tmp 89) rfl g1 35 (zeroP 0) none 0 0 none 0 0 ⟨12, false, 0, [], [], 0, false, [], false, 0, false, false, false, [], [], false, [], []⟩ none 0 0 none 0 0 rfl rfl HR.out (by kernel_rfl) ?_
  intro U bU BU
  have hB := But.below HBW.out BU (fun i e => by omega) HBW.out.size
  go_wp2_with fail
  refine bodyPost_ret (results_cell rfl rfl bU Try.underlying35 rfl (by kernel_rfl)) rfl ?_
  exact ⟨rfl, hg0 ▸ hB⟩

set_option maxRecDepth 100000 in
set_option maxHeartbeats 8000000 in
theorem usedP_13 (p : Pk) (C : Option Addr) (nc kc : Nat) (S : Option Addr) (ns ks : Nat) (w : World) (ht : p.ty = 13) : Calls Try.prog 32 #[pkA p C nc kc S ns ks] w fun e w' => e = .returned (pkA (usedP p) none 0 0 none 0 0) ∧ Below w.heap.size w w' := by
  obtain ⟨ty, dup, id, topic, payload, qos, retain, client, clean, alive, hasWill, hasUser, hasPass, user, pass, present, codes, subs⟩ := p
  simp only at ht
  subst ht
  have hU : usedP ⟨13, dup, id, topic, payload, qos, retain, client, clean, alive, hasWill, hasUser, hasPass, user, pass, present, codes, subs⟩ = ⟨13, false, 0, [], [], 0, false, [], false, 0, false, false, false, [], [], false, [], []⟩ := by unfold usedP; rfl
  rw [hU]
  clear hU
  simp only [pkA]
  go_enter Try.func32, Try.ntmps32
  go_upto_region 1 with fail
  generalize hW : w.alloc _ = W
  obtain ⟨g0, hg0, hB, bW, hsz⟩ := boxedP (p := ⟨13, dup, id, topic, payload, qos, retain, client, clean, alive, hasWill, hasUser, hasPass, user, pass, present, codes, subs⟩) hW
  generalize hV : W.alloc _ = V
  obtain ⟨g1, hg1, hB2, bV, hsz2⟩ := boxedP (p := zeroP 0) hV
  have hw1 : w.heap.size + 1 = g1 := by omega
  rw [hw1, hg0]
  have HP := hide (hB.keep (by rw [hg1]; exact bV))
  have HR := hide hB2
  have HBW := hide (show Below w.heap.size w V from below_on (by rw [hg0]; exact bW) (by rw [hg1]; exact bV))
  have h01 : w.heap.size ≤ g1 := by omega
  have h02 : w.heap.size ≤ V.heap.size := by omega
  have h03 : g0 < V.heap.size := by omega
  have h04 : g1 < V.heap.size := by omega
  clear hW hV hB hB2 bW bV hsz hsz2 hg1 hw1
  have c0 := HP.out.p18.1
  simp only at c0
  go_upto_region 2 with (refine wpList_storeQ rfl 35 (.tmp 3) (.tmp 6) rfl V.heap.size 35 (zeroP 0) none 0 0 none 0 0 ⟨13, false, 0, [], [], 0, false, [], false, 0, false, false, false, [], [], false, [], []⟩ none 0 0 none 0 0 rfl rfl (Blk.new V 35 (pkVs (zeroP 0) none 0 0 none 0 0)) (by kernel_rfl) ?_; intro X0 bX BX)
  have bW : Below V.heap.size V X0 := But.below ((Below.refl _ _).alloc (Nat.le_refl _) _) BX (fun i e => by omega) (by simp)
  obtain ⟨g2, hg2⟩ : ∃ g2, V.heap.size = g2 := ⟨_, rfl⟩
  rw [hg2] at bX h02 h03 h04 ⊢
  have HP := hide (HP.out.keep bW)
  have HR := hide (HR.out.keep bW)
  have HBW := hide (below_on HBW.out bW)
  have HQ := hide bX
  clear c0 bX BX bW hg2
  have c0 := HP.out.p18.1
  simp only at c0
  go_upto_region 36 with fail
  clear c0
  refine wp_region_lit ?_
  refine wpList_loadP rfl 35 (.tmp 3) rfl g2 35 ⟨13, false, 0, [], [], 0, false, [], false, 0, false, false, false, [], [], false, [], []⟩ none 0 0 none 0 0 rfl HQ.out Try.underlying35 rfl (by kernel_rfl) ?_
  refine wpList_storeQ rfl 35 (.tmp 2) (.tmp 89) rfl g1 35 (zeroP 0) none 0 0 none 0 0 ⟨13, false, 0, [], [], 0, false, [], false, 0, false, false, false, [], [], false, [], []⟩ none 0 0 none 0 0 rfl rfl HR.out (by kernel_rfl) ?_
  intro U bU BU
  have hB := But.below HBW.out BU (fun i e => by omega) HBW.out.size
  go_wp2_with fail
  refine bodyPost_ret (results_cell rfl rfl bU Try.underlying35 rfl (by kernel_rfl)) rfl ?_
  exact ⟨rfl, hg0 ▸ hB⟩

set_option maxRecDepth 100000 in
set_option maxHeartbeats 8000000 in
theorem usedP_14 (p : Pk) (C : Option Addr) (nc kc : Nat) (S : Option Addr) (ns ks : Nat) (w : World) (ht : p.ty = 14) : Calls Try.prog 32 #[pkA p C nc kc S ns ks] w fun e w' => e = .returned (pkA (usedP p) none 0 0 none 0 0) ∧ Below w.heap.size w w' := by
  obtain ⟨ty, dup, id, topic, payload, qos, retain, client, clean, alive, hasWill, hasUser, hasPass, user, pass, present, codes, subs⟩ := p
  simp only at ht
  subst ht
  have hU : usedP ⟨14, dup, id, topic, payload, qos, retain, client, clean, alive, hasWill, hasUser, hasPass, user, pass, present, codes, subs⟩ = ⟨14, false, 0, [], [], 0, false, [], false, 0, false, false, false, [], [], false, [], []⟩ := by unfold usedP; rfl
  rw [hU]
  clear hU
  simp only [pkA]
  go_enter Try.func32, Try.ntmps32
  go_upto_region 1 with fail
  generalize hW : w.alloc _ = W
  obtain ⟨g0, hg0, hB, bW, hsz⟩ := boxedP (p := ⟨14, dup, id, topic, payload, qos, retain, client, clean, alive, hasWill, hasUser, hasPass, user, pass, present, codes, subs⟩) hW
  generalize hV : W.alloc _ = V
  obtain ⟨g1, hg1, hB2, bV, hsz2⟩ := boxedP (p := zeroP 0) hV
  have hw1 : w.heap.size + 1 = g1 := by omega
  rw [hw1, hg0]
  have HP := hide (hB.keep (by rw [hg1]; exact bV))
  have HR := hide hB2
  have HBW := hide (show Below w.heap.size w V from below_on (by rw [hg0]; exact bW) (by rw [hg1]; exact bV))
  have h01 : w.heap.size ≤ g1 := by omega
  have h02 : w.heap.size ≤ V.heap.size := by omega
  have h03 : g0 < V.heap.size := by omega
  have h04 : g1 < V.heap.size := by omega
  clear hW hV hB hB2 bW bV hsz hsz2 hg1 hw1
  have c0 := HP.out.p18.1
  simp only at c0
  go_upto_region 2 with (refine wpList_storeQ rfl 35 (.tmp 3) (.tmp 6) rfl V.heap.size 35 (zeroP 0) none 0 0 none 0 0 ⟨14, false, 0, [], [], 0, false, [], false, 0, false, false, false, [], [], false, [], []⟩ none 0 0 none 0 0 rfl rfl (Blk.new V 35 (pkVs (zeroP 0) none 0 0 none 0 0)) (by kernel_rfl) ?_; intro X0 bX BX)
  have bW : Below V.heap.size V X0 := But.below ((Below.refl _ _).alloc (Nat.le_refl _) _) BX (fun i e => by omega) (by simp)
  obtain ⟨g2, hg2⟩ : ∃ g2, V.heap.size = g2 := ⟨_, rfl⟩
  rw [hg2] at bX h02 h03 h04 ⊢
  have HP := hide (HP.out.keep bW)
  have HR := hide (HR.out.keep bW)
  have HBW := hide (below_on HBW.out bW)
  have HQ := hide bX
  clear c0 bX BX bW hg2
  have c0 := HP.out.p18.1
  simp only at c0
  go_upto_region 36 with fail
  clear c0
  refine wp_region_lit ?_
  refine wpList_loadP rfl 35 (.tmp 3) rfl g2 35 ⟨14, false, 0, [], [], 0, false, [], false, 0, false, false, false, [], [], false, [], []⟩ none 0 0 none 0 0 rfl HQ.out Try.underlying35 rfl (by kernel_rfl) ?_
  refine wpList_storeQ rfl 35 (.tmp 2) (.tmp 89) rfl g1 35 (zeroP 0) none 0 0 none 0 0 ⟨14, false, 0, [], [], 0, false, [], false, 0, false, false, false, [], [], false, [], []⟩ none 0 0 none 0 0 rfl rfl HR.out (by kernel_rfl) ?_
  intro U bU BU
  have hB := But.below HBW.out BU (fun i e => by omega) HBW.out.size
  go_wp2_with fail
  refine bodyPost_ret (results_cell rfl rfl bU Try.underlying35 rfl (by kernel_rfl)) rfl ?_
  exact ⟨rfl, hg0 ▸ hB⟩

end Go.Proofs.Ytkgidimaiedocaa

namespace Go.Proofs.Ytkgidimaiedocaa
set_option linter.unusedVariables false
set_option linter.unusedSimpArgs false
open Go.RowKit

/-- What 'used' returns. -/
def UsPost (p : Pk) (w : World) (e : Ending) (w' : World) : Prop := ∃ C nc kc S ns ks, e = .returned (pkA (usedP p) C nc kc S ns ks) ∧ PkM w' (usedP p) C nc kc S ns ks ∧ Below w.heap.size w w'
theorem us_none {p : Pk} {w : World} (hc : (usedP p).codes = []) (hs : (usedP p).subs = []) {e : Ending} {w' : World} (h : e = .returned (pkA (usedP p) none 0 0 none 0 0) ∧ Below w.heap.size w w') : UsPost p w e w' :=
  ⟨none, 0, 0, none, 0, 0, h.1, ⟨by rw [hc]; rfl, Nat.le_refl _, by rw [hc]; exact Rd.nil _ _, by rw [hs]; rfl, Nat.le_refl _, by rw [hs]; exact Rd.nil _ _⟩, h.2⟩
theorem used_any (p : Pk) (C : Option Addr) (nc kc : Nat) (S : Option Addr) (ns ks : Nat) (w : World) (hM : PkM w p C nc kc S ns ks) (h1 : 1 ≤ p.ty) (h2 : p.ty ≤ 14) : Calls Try.prog 32 #[pkA p C nc kc S ns ks] w (UsPost p w) := by
  have ht : p.ty = 1 ∨ p.ty = 2 ∨ p.ty = 3 ∨ p.ty = 4 ∨ p.ty = 5 ∨ p.ty = 6 ∨ p.ty = 7 ∨ p.ty = 8 ∨ p.ty = 9 ∨ p.ty = 10 ∨ p.ty = 11 ∨ p.ty = 12 ∨ p.ty = 13 ∨ p.ty = 14 := by omega
  obtain ⟨m1, m2, m3, m4, m5, m6⟩ := hM
  have none1 : p.ty ≠ 2 ∧ p.ty ≠ 8 ∧ p.ty ≠ 9 ∧ p.ty ≠ 10 → (usedP p).codes = [] ∧ (usedP p).subs = [] := by
    intro ⟨n2, n8, n9, n10⟩
    unfold usedP
    repeat' split
    all_goals first | exact ⟨rfl, rfl⟩ | omega
  have cod : p.ty = 2 ∨ p.ty = 9 → (usedP p).codes = p.codes ∧ (usedP p).subs = [] := by
    intro h
    unfold usedP
    repeat' split
    all_goals first | exact ⟨rfl, rfl⟩ | omega
  have sub : p.ty = 8 ∨ p.ty = 10 → (usedP p).codes = [] ∧ (usedP p).subs = p.subs := by
    intro h
    unfold usedP
    repeat' split
    all_goals first | exact ⟨rfl, rfl⟩ | omega
  have fin : ∀ {e w'}, (e = .returned (pkA (usedP p) none 0 0 none 0 0) ∧ Below w.heap.size w w') → (p.ty ≠ 2 ∧ p.ty ≠ 8 ∧ p.ty ≠ 9 ∧ p.ty ≠ 10) → UsPost p w e w' := fun h n => us_none (none1 n).1 (none1 n).2 h
  have finC : ∀ {e w'}, (e = .returned (pkA (usedP p) C nc kc none 0 0) ∧ Below w.heap.size w w') → (p.ty = 2 ∨ p.ty = 9) → UsPost p w e w' := fun h n =>
    ⟨C, nc, kc, none, 0, 0, h.1, ⟨by rw [(cod n).1]; exact m1, m2, by rw [(cod n).1]; exact m3.keep h.2, by rw [(cod n).2]; rfl, Nat.le_refl _, by rw [(cod n).2]; exact Rd.nil _ _⟩, h.2⟩
  have finS : ∀ {e w'}, (e = .returned (pkA (usedP p) none 0 0 S ns ks) ∧ Below w.heap.size w w') → (p.ty = 8 ∨ p.ty = 10) → UsPost p w e w' := fun h n =>
    ⟨none, 0, 0, S, ns, ks, h.1, ⟨by rw [(sub n).1]; rfl, Nat.le_refl _, by rw [(sub n).1]; exact Rd.nil _ _, by rw [(sub n).2]; exact m4, m5, by rw [(sub n).2]; exact m6.keep h.2⟩, h.2⟩
  rcases ht with ht | ht | ht | ht | ht | ht | ht | ht | ht | ht | ht | ht | ht | ht
  · have n : p.ty ≠ 2 ∧ p.ty ≠ 8 ∧ p.ty ≠ 9 ∧ p.ty ≠ 10 := by omega
    cases hw : p.hasWill <;> cases hu : p.hasUser <;> cases hp : p.hasPass
    · exact (used1_000 p C nc kc S ns ks w ht hw hu hp).mono fun e w' h => fin h n
    · exact (used1_001 p C nc kc S ns ks w ht hw hu hp).mono fun e w' h => fin h n
    · exact (used1_010 p C nc kc S ns ks w ht hw hu hp).mono fun e w' h => fin h n
    · exact (used1_011 p C nc kc S ns ks w ht hw hu hp).mono fun e w' h => fin h n
    · exact (used1_100 p C nc kc S ns ks w ht hw hu hp).mono fun e w' h => fin h n
    · exact (used1_101 p C nc kc S ns ks w ht hw hu hp).mono fun e w' h => fin h n
    · exact (used1_110 p C nc kc S ns ks w ht hw hu hp).mono fun e w' h => fin h n
    · exact (used1_111 p C nc kc S ns ks w ht hw hu hp).mono fun e w' h => fin h n
  · exact (usedP_2 p C nc kc S ns ks w ht).mono fun e w' h => finC h (.inl ht)
  · exact (used3_any p C nc kc S ns ks w ht).mono fun e w' h => fin h (by omega)
  · exact (usedP_4 p C nc kc S ns ks w ht).mono fun e w' h => fin h (by omega)
  · exact (usedP_5 p C nc kc S ns ks w ht).mono fun e w' h => fin h (by omega)
  · exact (usedP_6 p C nc kc S ns ks w ht).mono fun e w' h => fin h (by omega)
  · exact (usedP_7 p C nc kc S ns ks w ht).mono fun e w' h => fin h (by omega)
  · exact (usedP_8 p C nc kc S ns ks w ht).mono fun e w' h => finS h (.inl ht)
  · exact (usedP_9 p C nc kc S ns ks w ht).mono fun e w' h => finC h (.inr ht)
  · exact (usedP_10 p C nc kc S ns ks w ht).mono fun e w' h => finS h (.inr ht)
  · exact (usedP_11 p C nc kc S ns ks w ht).mono fun e w' h => fin h (by omega)
  · exact (usedP_12 p C nc kc S ns ks w ht).mono fun e w' h => fin h (by omega)
  · exact (usedP_13 p C nc kc S ns ks w ht).mono fun e w' h => fin h (by omega)
  · exact (usedP_14 p C nc kc S ns ks w ht).mono fun e w' h => fin h (by omega)

end Go.Proofs.Ytkgidimaiedocaa
