/-
  What is proved here: the program's 'behind' of package packet, for a packet that may be. Conditions: strings of at most 65535 bytes; at most 65535 codes, filters.
-/
import Derived.Test.YtjaaeiemgojnbaaPb1
import Derived.Test.YtjaaeiemgojnbaaPb4
import Derived.Deep.RegionHeld3
namespace Go.Proofs.Ytjaaeiemgojnbaa
set_option linter.unusedVariables false
set_option linter.unusedSimpArgs false
open Go.RowKit

theorem fit_ok {p : Pk} (h : fitB p = true) : okP p = true := by
  simp only [fitB, Bool.and_eq_true] at h
  exact h.2
theorem fit_used {p : Pk} (h : fitB p = true) : p = usedP p := by
  simp only [fitB, Bool.and_eq_true, decide_eq_true_eq] at h
  exact h.1.2
theorem fit_q1 {p : Pk} (h : fitB p = true) (h1 : p.ty = 1) : (0 ≤ p.qos ∧ p.qos ≤ 2) ∧ 0 ≤ p.alive ∧ p.alive ≤ 65535 := by
  have ho := fit_ok h
  have hu := fit_used h
  unfold okP at ho
  rw [if_pos h1] at ho
  simp only [conB, Bool.and_eq_true, decide_eq_true_eq, Bool.not_eq_true'] at ho
  obtain ⟨⟨⟨⟨⟨k1, k2⟩, k3⟩, k4⟩, k5⟩, k6⟩ := ho
  refine ⟨?_, k2⟩
  cases hw : p.hasWill with
  | true =>
    rw [hw] at k6
    simp at k6
    exact ⟨k6.1.2, k6.2⟩
  | false =>
    have hq : p.qos = (usedP p).qos := by rw [← hu]
    unfold usedP at hq
    rw [if_pos h1] at hq
    simp only at hq
    rw [hw] at hq
    simp at hq
    omega
theorem fit_c2 {p : Pk} (h : fitB p = true) (h1 : p.ty = 2) : ∃ c, p.codes = [c] ∧ 0 ≤ c ∧ c ≤ 5 := by
  have ho := fit_ok h
  unfold okP at ho
  rw [if_neg (by omega), if_pos h1] at ho
  unfold ackB at ho
  split at ho
  · rename_i c hc
    simp only [Bool.and_eq_true, decide_eq_true_eq] at ho
    exact ⟨c, hc, ho.1.1, ho.1.2⟩
  · cases ho
theorem fit_i3 {p : Pk} (h : fitB p = true) (h1 : p.ty = 3) : (0 ≤ p.qos ∧ p.qos ≤ 2) ∧ (0 < p.qos → 0 ≤ p.id ∧ p.id ≤ 65535) := by
  have ho := fit_ok h
  unfold okP at ho
  rw [if_neg (by omega), if_neg (by omega), if_pos h1] at ho
  simp only [pubB, idB, Bool.and_eq_true, Bool.or_eq_true, decide_eq_true_eq] at ho
  obtain ⟨⟨⟨k1, k2⟩, k3⟩, k4⟩ := ho
  exact ⟨⟨k2, k3⟩, fun h0 => by rcases k4 with k4 | k4 <;> omega⟩
theorem fit_i4 {p : Pk} (h : fitB p = true) (h1 : p.ty = 4 ∨ p.ty = 5 ∨ p.ty = 6 ∨ p.ty = 7 ∨ p.ty = 11) : 0 ≤ p.id ∧ p.id ≤ 65535 := by
  have ho := fit_ok h
  unfold okP at ho
  rw [if_neg (by omega), if_neg (by omega), if_neg (by omega), if_pos h1] at ho
  simp only [idB, decide_eq_true_eq] at ho
  omega
theorem fit_s8 {p : Pk} (h : fitB p = true) (h1 : p.ty = 8 ∨ p.ty = 10) : (0 ≤ p.id ∧ p.id ≤ 65535) ∧ (∀ s ∈ p.subs, 0 ≤ s.2 ∧ s.2 ≤ 255) ∧ p.codes = [] := by
  have ho := fit_ok h
  have hu := fit_used h
  unfold okP at ho
  rw [if_neg (by omega), if_neg (by omega), if_neg (by omega), if_neg (by omega), if_pos h1] at ho
  simp only [idB, subsB, Bool.and_eq_true, decide_eq_true_eq] at ho
  refine ⟨by omega, fun s hs => ?_, ?_⟩
  · have := List.all_eq_true.1 ho.2.1 s hs
    simp only [subB, Bool.and_eq_true, decide_eq_true_eq] at this
    omega
  · have hq : p.codes = (usedP p).codes := by rw [← hu]
    unfold usedP at hq
    rw [if_neg (by omega), if_neg (by omega), if_neg (by omega), if_neg (by omega), if_pos h1] at hq
    exact hq
theorem fit_c9 {p : Pk} (h : fitB p = true) (h1 : p.ty = 9) : (0 ≤ p.id ∧ p.id ≤ 65535) ∧ (∀ z ∈ p.codes, 0 ≤ z ∧ z ≤ 255) ∧ p.subs = [] := by
  have ho := fit_ok h
  have hu := fit_used h
  unfold okP at ho
  rw [if_neg (by omega), if_neg (by omega), if_neg (by omega), if_neg (by omega), if_neg (by omega), if_pos h1] at ho
  simp only [idB, codesB, Bool.and_eq_true, decide_eq_true_eq] at ho
  refine ⟨by omega, fun s hs => ?_, ?_⟩
  · have := List.all_eq_true.1 ho.2.1 s hs
    simp only [codeB, Bool.and_eq_true, Bool.or_eq_true, decide_eq_true_eq] at this
    omega
  · have hq : p.subs = (usedP p).subs := by rw [← hu]
    unfold usedP at hq
    rw [if_neg (by omega), if_neg (by omega), if_neg (by omega), if_neg (by omega), if_neg (by omega), if_pos h1] at hq
    exact hq
theorem RetApp.fin {base : Nat} {A : Option Addr} {N : Nat} {ys : List UInt8} {w0 w : World} {e : Ending} {w' : World} (h : RetApp base A N ys w e w') (b : Below w0.heap.size w0 w) (hA : ∀ i, SoA A i → base ≤ i) (hb : base ≤ w0.heap.size) : RetFin base N ys w0 e w' := by
  obtain ⟨A', c', rfl, o, k, -⟩ := h
  exact ⟨A', c', rfl, o, But.below (b.mono hb) k hA (Nat.le_trans hb b.size)⟩
theorem RetFin.on {base : Nat} {N : Nat} {ys : List UInt8} {w0 w : World} {e : Ending} {w' : World} (h : RetFin base N ys w e w') (b : Below w0.heap.size w0 w) (hb : base ≤ w0.heap.size) : RetFin base N ys w0 e w' := by
  obtain ⟨A', c', rfl, o, k⟩ := h
  exact ⟨A', c', rfl, o, (b.mono hb).trans k⟩

set_option maxRecDepth 100000 in
set_option maxHeartbeats 4000000 in
theorem behind_any (base : Nat) (A : Option Addr) (n c N : Nat) (xs : List UInt8) (p : Pk) (C : Option Addr) (nc kc : Nat) (S : Option Addr) (ns ks : Nat) (w : World) (hf : fitB p = true) (hM : PkM w p C nc kc S ns ks) (hs : PkS p) (h : w.ownsRow base 5 1 (.slice A n c) n (bv xs)) (hb : base ≤ w.heap.size) (hn : n ≤ 1000000) (hCb : 0 < nc → ∀ i, SoA C i → i < base) (hSb : 0 < ns → ∀ i, SoA S i → i < base)
    (hN : n + (bodyP p).length = N) : Calls Try.prog 24 #[.slice A n c, pkA p C nc kc S ns ks] w (RetFin base N (xs ++ bodyP p) w) := by
  have hAl := own_lt h
  have hAb := ownS_new h
  obtain ⟨q, hq⟩ : ∃ q, p = q := ⟨_, rfl⟩
  have HBq : bodyP p = bodyP q := by rw [hq]
  rw [HBq] at hN ⊢
  clear HBq
  have HM := hide (show ∀ W, Below w.heap.size w W → PkM W q C nc kc S ns ks from fun W b => by rw [← hq]; exact hM.keep b)
  have HO := hide (show ∀ W, Below w.heap.size w W → W.ownsRow base 5 1 (.slice A n c) n (bv xs) from fun W b => own_keep h b)
  rw [hq] at hf hs
  have Hf := hide hf
  have Hs := hide hs
  have hnc : nc ≤ 65535 := by rw [← hM.1, hq]; exact hs.2.2.2.2.2.1
  have hns : ns ≤ 65535 := by rw [← hM.2.2.2.1, hq]; exact hs.2.2.2.2.2.2.1
  clear hM h hf hs
  obtain ⟨ty, dup, id, topic, payload, qos, retain, client, clean, alive, hasWill, hasUser, hasPass, user, pass, present, codes, subs⟩ := p
  have hty : q.ty = ty := by rw [← hq]
  have Hq := hide hq
  have HN := hide hN
  clear hq hN
  by_cases c1 : ty = 1
  · subst c1
    have hq1 := fit_q1 Hf.out hty
    have e : bodyP q = conBody q := by unfold bodyP; rw [if_pos hty]
    have hN := HN.out
    rw [e] at hN
    simp only [pkA]
    go_enter Try.func24, Try.ntmps24
    go_upto_region 3 with fail
    generalize hW : w.alloc _ = W
    obtain ⟨g, hg, hB, bW, -⟩ := boxedP (p := ⟨1, dup, id, topic, payload, qos, retain, client, clean, alive, hasWill, hasUser, hasPass, user, pass, present, codes, subs⟩) hW
    have bw : Below w.heap.size w W := by rw [hg]; exact bW
    rw [hg]
    have HB := hide (show Blk W g 27 (pkVs q C nc kc S ns ks) from by rw [← Hq.out]; exact hB)
    have hM := HM.out W bw
    have hO := HO.out W bw
    have hbW := Nat.le_trans hb bw.size
    have HgW := hide (show w.heap.size ≤ g by omega)
    have Hbw := hide bw
    clear hW hg hB bW bw
    refine wp_region_lit ?_
    refine wpList_mv rfl (.tmp 0) rfl ?_
    refine wpList_loadP rfl 27 (.tmp 3) rfl g 27 q C nc kc S ns ks rfl HB.out Try.underlying27 rfl (by kernel_rfl) ?_
    have P : Calls Try.prog 56 #[.slice A n c, pkA q C nc kc S ns ks] W (RetFin base N (xs ++ bodyP q) W) := by
      have h1 := behindConnect_any base A n c N xs q C nc kc S ns ks W Hs.out hO hbW hn hq1.1.1 hq1.1.2 hq1.2 hN
      rw [e]
      exact h1
    clear hM hO e hN
    go_wp2_with fail
    refine P.mono ?_
    rintro e w1 hF
    have hF := hF.on Hbw.out hb
    obtain ⟨A2, c2, rfl, o2, b2⟩ := hF
    have HF := hide (show RetFin base N (xs ++ bodyP q) w (.returned (.slice A2 N c2)) w1 from ⟨A2, c2, rfl, o2, b2⟩)
    clear o2 b2 P
    go_wp2_with fail
    go_ret
    exact HF.out
  by_cases c3 : ty = 3
  · subst c3
    have hq3 := fit_i3 Hf.out hty
    have e : bodyP q = textL q.topic ++ (if 0 < q.qos then wordI q.id else []) ++ q.payload := by unfold bodyP; rw [if_neg (by omega), if_neg (by omega), if_pos hty]
    have hN := HN.out
    rw [e] at hN
    simp only [pkA]
    go_enter Try.func24, Try.ntmps24
    go_upto_region 7 with fail
    generalize hW : w.alloc _ = W
    obtain ⟨g, hg, hB, bW, -⟩ := boxedP (p := ⟨3, dup, id, topic, payload, qos, retain, client, clean, alive, hasWill, hasUser, hasPass, user, pass, present, codes, subs⟩) hW
    have bw : Below w.heap.size w W := by rw [hg]; exact bW
    rw [hg]
    have HB := hide (show Blk W g 27 (pkVs q C nc kc S ns ks) from by rw [← Hq.out]; exact hB)
    have hM := HM.out W bw
    have hO := HO.out W bw
    have hbW := Nat.le_trans hb bw.size
    have HgW := hide (show w.heap.size ≤ g by omega)
    have Hbw := hide bw
    clear hW hg hB bW bw
    refine wp_region_lit ?_
    refine wpList_mv rfl (.tmp 0) rfl ?_
    refine wpList_loadP rfl 27 (.tmp 3) rfl g 27 q C nc kc S ns ks rfl HB.out Try.underlying27 rfl (by kernel_rfl) ?_
    have P : Calls Try.prog 57 #[.slice A n c, pkA q C nc kc S ns ks] W (RetFin base N (xs ++ bodyP q) W) := by
      have h1 := behindPublish_any base A n c N xs q C nc kc S ns ks W hO hbW hn Hs.out.1 Hs.out.2.1 hq3.2 hN
      rw [e]
      exact h1
    clear hM hO e hN
    go_wp2_with fail
    refine P.mono ?_
    rintro e w1 hF
    have hF := hF.on Hbw.out hb
    obtain ⟨A2, c2, rfl, o2, b2⟩ := hF
    have HF := hide (show RetFin base N (xs ++ bodyP q) w (.returned (.slice A2 N c2)) w1 from ⟨A2, c2, rfl, o2, b2⟩)
    clear o2 b2 P
    go_wp2_with fail
    go_ret
    exact HF.out
  by_cases c8 : ty = 8
  · subst c8
    have h8 := fit_s8 Hf.out (.inl hty)
    have e : bodyP q = wordI q.id ++ q.subs.flatMap (subL q.ty) := by unfold bodyP; rw [if_neg (by omega), if_neg (by omega), if_neg (by omega), if_neg (by omega), if_pos (.inl hty), h8.2.2]; simp
    have hN := HN.out
    rw [e, List.length_append, wordI_length, ← Nat.add_assoc] at hN
    simp only [pkA]
    go_enter Try.func24, Try.ntmps24
    go_upto_region 10 with fail
    generalize hW : w.alloc _ = W
    obtain ⟨g, hg, hB, bW, -⟩ := boxedP (p := ⟨8, dup, id, topic, payload, qos, retain, client, clean, alive, hasWill, hasUser, hasPass, user, pass, present, codes, subs⟩) hW
    have bw : Below w.heap.size w W := by rw [hg]; exact bW
    rw [hg]
    have HB := hide (show Blk W g 27 (pkVs q C nc kc S ns ks) from by rw [← Hq.out]; exact hB)
    have hM := HM.out W bw
    have hO := HO.out W bw
    have hbW := Nat.le_trans hb bw.size
    have HgW := hide (show w.heap.size ≤ g by omega)
    have Hbw := hide bw
    clear hW hg hB bW bw
    refine wp_region_lit ?_
    refine wpList_mv rfl (.tmp 0) rfl ?_
    refine wpList_loadP rfl 27 (.tmp 3) rfl g 27 q C nc kc S ns ks rfl HB.out Try.underlying27 rfl (by kernel_rfl) ?_
    have P : Calls Try.prog 58 #[.slice A n c, pkA q C nc kc S ns ks] W (RetFin base N (xs ++ bodyP q) W) := by
      have h1 := behindNames_any base A n c N xs q C nc kc S ns ks W hM hO hbW hn hSb hns Hs.out.2.2.2.2.2.2.2 h8.2.1 h8.1 hN
      rw [e, ← List.append_assoc]
      exact h1
    clear hM hO e hN
    go_wp2_with fail
    refine P.mono ?_
    rintro e w1 hF
    have hF := hF.on Hbw.out hb
    obtain ⟨A2, c2, rfl, o2, b2⟩ := hF
    have HF := hide (show RetFin base N (xs ++ bodyP q) w (.returned (.slice A2 N c2)) w1 from ⟨A2, c2, rfl, o2, b2⟩)
    clear o2 b2 P
    go_wp2_with fail
    go_ret
    exact HF.out
  by_cases c10 : ty = 10
  · subst c10
    have h8 := fit_s8 Hf.out (.inr hty)
    have e : bodyP q = wordI q.id ++ q.subs.flatMap (subL q.ty) := by unfold bodyP; rw [if_neg (by omega), if_neg (by omega), if_neg (by omega), if_neg (by omega), if_pos (.inr (.inr hty)), h8.2.2]; simp
    have hN := HN.out
    rw [e, List.length_append, wordI_length, ← Nat.add_assoc] at hN
    simp only [pkA]
    go_enter Try.func24, Try.ntmps24
    go_upto_region 10 with fail
    generalize hW : w.alloc _ = W
    obtain ⟨g, hg, hB, bW, -⟩ := boxedP (p := ⟨10, dup, id, topic, payload, qos, retain, client, clean, alive, hasWill, hasUser, hasPass, user, pass, present, codes, subs⟩) hW
    have bw : Below w.heap.size w W := by rw [hg]; exact bW
    rw [hg]
    have HB := hide (show Blk W g 27 (pkVs q C nc kc S ns ks) from by rw [← Hq.out]; exact hB)
    have hM := HM.out W bw
    have hO := HO.out W bw
    have hbW := Nat.le_trans hb bw.size
    have HgW := hide (show w.heap.size ≤ g by omega)
    have Hbw := hide bw
    clear hW hg hB bW bw
    refine wp_region_lit ?_
    refine wpList_mv rfl (.tmp 0) rfl ?_
    refine wpList_loadP rfl 27 (.tmp 3) rfl g 27 q C nc kc S ns ks rfl HB.out Try.underlying27 rfl (by kernel_rfl) ?_
    have P : Calls Try.prog 58 #[.slice A n c, pkA q C nc kc S ns ks] W (RetFin base N (xs ++ bodyP q) W) := by
      have h1 := behindNames_any base A n c N xs q C nc kc S ns ks W hM hO hbW hn hSb hns Hs.out.2.2.2.2.2.2.2 h8.2.1 h8.1 hN
      rw [e, ← List.append_assoc]
      exact h1
    clear hM hO e hN
    go_wp2_with fail
    refine P.mono ?_
    rintro e w1 hF
    have hF := hF.on Hbw.out hb
    obtain ⟨A2, c2, rfl, o2, b2⟩ := hF
    have HF := hide (show RetFin base N (xs ++ bodyP q) w (.returned (.slice A2 N c2)) w1 from ⟨A2, c2, rfl, o2, b2⟩)
    clear o2 b2 P
    go_wp2_with fail
    go_ret
    exact HF.out
  by_cases c9 : ty = 9
  · subst c9
    have h9 := fit_c9 Hf.out hty
    have e : bodyP q = wordI q.id ++ q.codes.map byteI := by unfold bodyP; rw [if_neg (by omega), if_neg (by omega), if_neg (by omega), if_neg (by omega), if_pos (.inr (.inl hty)), h9.2.2]; simp
    have hN := HN.out
    rw [e, List.length_append, wordI_length, ← Nat.add_assoc, List.length_map] at hN
    simp only [pkA]
    go_enter Try.func24, Try.ntmps24
    go_upto_region 12 with fail
    generalize hW : w.alloc _ = W
    obtain ⟨g, hg, hB, bW, -⟩ := boxedP (p := ⟨9, dup, id, topic, payload, qos, retain, client, clean, alive, hasWill, hasUser, hasPass, user, pass, present, codes, subs⟩) hW
    have bw : Below w.heap.size w W := by rw [hg]; exact bW
    rw [hg]
    have HB := hide (show Blk W g 27 (pkVs q C nc kc S ns ks) from by rw [← Hq.out]; exact hB)
    have hM := HM.out W bw
    have hO := HO.out W bw
    have hbW := Nat.le_trans hb bw.size
    have HgW := hide (show w.heap.size ≤ g by omega)
    have Hbw := hide bw
    clear hW hg hB bW bw
    rw [hM.1] at hN
    refine wp_region_lit ?_
    refine wpList_mv rfl (.tmp 0) rfl ?_
    refine wpList_loadP rfl 27 (.tmp 3) rfl g 27 q C nc kc S ns ks rfl HB.out Try.underlying27 rfl (by kernel_rfl) ?_
    have P : Calls Try.prog 59 #[.slice A n c, pkA q C nc kc S ns ks] W (RetFin base N (xs ++ bodyP q) W) := by
      have h1 := behindCodes_any base A n c N xs q C nc kc S ns ks W hM hO hbW hn hCb hnc h9.2.1 h9.1 hN
      rw [e, ← List.append_assoc]
      exact h1
    clear hM hO e hN
    go_wp2_with fail
    refine P.mono ?_
    rintro e w1 hF
    have hF := hF.on Hbw.out hb
    obtain ⟨A2, c2, rfl, o2, b2⟩ := hF
    have HF := hide (show RetFin base N (xs ++ bodyP q) w (.returned (.slice A2 N c2)) w1 from ⟨A2, c2, rfl, o2, b2⟩)
    clear o2 b2 P
    go_wp2_with fail
    go_ret
    exact HF.out
  by_cases c2 : ty = 2
  · subst c2
    obtain ⟨z, hz, hz0, hz5⟩ := fit_c2 Hf.out hty
    have hcod : codes = [z] := by rw [← hz, ← Hq.out]
    have hpre : q.present = present := by rw [← Hq.out]
    have e : bodyP q = [if present then 1 else 0, byteI z] := by unfold bodyP; rw [if_neg (by omega), if_pos hty, hz, hpre]; rfl
    have hN := HN.out
    rw [e] at hN
    simp only [pkA]
    go_enter Try.func24, Try.ntmps24
    go_upto_region 5 with fail
    generalize hW : w.alloc _ = W
    obtain ⟨g, hg, hB, bW, -⟩ := boxedP (p := ⟨2, dup, id, topic, payload, qos, retain, client, clean, alive, hasWill, hasUser, hasPass, user, pass, present, codes, subs⟩) hW
    have bw : Below w.heap.size w W := by rw [hg]; exact bW
    rw [hg]
    have HB := hide (show Blk W g 27 (pkVs q C nc kc S ns ks) from by rw [← Hq.out]; exact hB)
    have hM := HM.out W bw
    have hO := HO.out W bw
    have hbW := Nat.le_trans hb bw.size
    have HgW := hide (show w.heap.size ≤ g by omega)
    have Hbw := hide bw
    clear hW hg hB bW bw
    obtain ⟨m1, -, mR, -, -, -⟩ := hM
    rw [hz] at m1 mR
    have hn1 : nc = 1 := m1.symm
    subst hn1
    obtain ⟨b, o, rfl, hbl, hcell⟩ := mR.at_ (k := 0) (by omega)
    have cA : W.cell? ⟨b, o, none⟩ = some (.int .i64 z) := by have := hcell 0 (.int .i64 z) rfl; simpa using this
    have c15 := (Blk.p18 HB.out).2.2.2.2.2.2.2.2.2.2.2.2.2.2.2.1
    have c16 := (Blk.p18 HB.out).2.2.2.2.2.2.2.2.2.2.2.2.2.2.2.2.1
    rw [hpre] at c15
    obtain ⟨z, rfl⟩ : ∃ y : Nat, z = (y : Int) := ⟨z.toNat, by omega⟩
    have hfb : flagB present 1 ≤ 1 := by unfold flagB; split <;> omega
    have hbz : bv [if present then 1 else 0, byteI (z : Int)] = [.int .u8 (flagB present 1 : Int), .int .u8 (z : Int)] := by
      rw [bv_cons, bv_cons]
      unfold byteI
      rw [Int.toNat_natCast, u8cell (by omega)]
      cases present <;> rfl
    have PM := mark_any present 1
    have HE := hide e
    have Hpre := hide hpre
    have Hbz := hide hbz
    have hN2 : n + 2 = N := hN
    have hblW := hbl
    clear mR hcell m1 hbl hN e hbz hz hcod hpre
    generalize flagB present 1 = fb at *
    have w1 : IntKind.u8.wrap (fb : Int) = (fb : Int) := by rw [IntKind.wrap_u8]; omega
    have w2 : IntKind.u8.wrap (z : Int) = (z : Int) := by rw [IntKind.wrap_u8]; omega
    have hal := fun ob => (((Below.refl W.heap.size W).drew).alloc (Nat.le_refl _) ob)
    have hgA : ¬ SoA A g := fun ⟨o', e'⟩ => by have h1 := hAl _ _ e'; have h2 := HgW.out; omega
    have hbA : ¬ SoA A b := fun ⟨o', e'⟩ => by have h1 := hCb (by omega) b ⟨o, rfl⟩; have h2 := hAb _ _ e'; omega
    refine wp_region_held_drew (S := fun V => V.cell? ⟨g, 15, none⟩ = some (.bool present) ∧ V.cell? ⟨g, 16, none⟩ = some (.slice (some ⟨b, o, none⟩) 1 kc) ∧ V.cell? ⟨b, o, none⟩ = some (.int .i64 (z : Int))) (by kernel_rfl) ?_ (fun hHeld => ?_)
    · exact ⟨c15, c16, cA⟩
    refine wpAnyH_take (i := 0) (oi := { dst := some 14, op := _, type := _, pos := _, after := _, guard := _ }) (v := ?v1x1) rfl (by kernel_rfl) (by kernel_rfl) (by kernel_rfl) (fun _ _ _ h => h) (Or.inl ⟨by rfl, ?hy1x1⟩) hHeld ?rest1x1
    case hy1x1 => (intro w hSw; go_simp <;> with_reducible rfl)
    try simp only [Act.put, List.setIfInBounds_toArray, List.set_cons_zero, List.set_cons_succ]
    refine wpAnyH_take (i := 1) (oi := { dst := some 15, op := _, type := _, pos := _, after := _, guard := _ }) (v := ?v1x2) rfl (by kernel_rfl) (by kernel_rfl) (by kernel_rfl) (fun _ _ _ h => h) (Or.inl ⟨by rfl, ?hy1x2⟩) hHeld ?rest1x2
    case hy1x2 => (intro w hSw; go_simp <;> with_reducible rfl)
    try simp only [Act.put, List.setIfInBounds_toArray, List.set_cons_zero, List.set_cons_succ]
    refine wpAnyH_take (i := 2) (oi := { dst := some 16, op := _, type := _, pos := _, after := _, guard := _ }) (v := ?v1x3) rfl (by kernel_rfl) (by kernel_rfl) (by kernel_rfl) (fun _ _ _ h => h) (Or.inl ⟨by rfl, ?hy1x3⟩) hHeld ?rest1x3
    case hy1x3 => (intro w hSw; go_simp <;> with_reducible rfl)
    try simp only [Act.put, List.setIfInBounds_toArray, List.set_cons_zero, List.set_cons_succ]
    refine wpAnyH_take (i := 5) (oi := { dst := some 19, op := _, type := _, pos := _, after := _, guard := _ }) (v := ?v1x4) rfl (by kernel_rfl) (by kernel_rfl) (by kernel_rfl) (fun _ _ _ h => h) (Or.inl ⟨by rfl, ?hy1x4⟩) hHeld ?rest1x4
    case hy1x4 => (intro w hSw; go_simp <;> with_reducible rfl)
    try simp only [Act.put, List.setIfInBounds_toArray, List.set_cons_zero, List.set_cons_succ]
    refine wpAnyH_take (i := 6) (oi := { dst := some 20, op := _, type := _, pos := _, after := _, guard := _ }) (v := ?v1x5) rfl (by kernel_rfl) (by kernel_rfl) (by kernel_rfl) (fun _ _ _ h => h) (Or.inl ⟨by rfl, ?hy1x5⟩) hHeld ?rest1x5
    case hy1x5 => (intro w hSw; go_simp <;> with_reducible rfl)
    try simp only [Act.put, List.setIfInBounds_toArray, List.set_cons_zero, List.set_cons_succ]
    refine wpAnyH_take (i := 7) (oi := { dst := some 21, op := _, type := _, pos := _, after := _, guard := _ }) (v := ?v1x6) rfl (by kernel_rfl) (by kernel_rfl) (by kernel_rfl) (fun _ _ _ h => h) (Or.inl ⟨by rfl, ?hy1x6⟩) hHeld ?rest1x6
    case hy1x6 => (intro w hSw; go_simp <;> with_reducible rfl)
    try simp only [Act.put, List.setIfInBounds_toArray, List.set_cons_zero, List.set_cons_succ]
    refine wpAnyH_take (i := 8) (oi := { dst := some 22, op := _, type := _, pos := _, after := _, guard := _ }) (v := ?v1x7) rfl (by kernel_rfl) (by kernel_rfl) (by kernel_rfl) (fun _ _ _ h => h) (Or.inl ⟨by rfl, ?hy1x7⟩) hHeld ?rest1x7
    case hy1x7 => (intro w hSw; go_simp <;> with_reducible rfl)
    try simp only [Act.put, List.setIfInBounds_toArray, List.set_cons_zero, List.set_cons_succ]
    refine wpAnyH_take (i := 9) (oi := { dst := some 23, op := _, type := _, pos := _, after := _, guard := _ }) (v := ?v1x8) rfl (by kernel_rfl) (by kernel_rfl) (by kernel_rfl) (fun _ _ _ h => h) (Or.inl ⟨by rfl, ?hy1x8⟩) hHeld ?rest1x8
    case hy1x8 => (intro w hSw; go_simp <;> with_reducible rfl)
    try simp only [Act.put, List.setIfInBounds_toArray, List.set_cons_zero, List.set_cons_succ]
    refine wpAnyH_ready (rs := [3]) (by kernel_rfl) (by simp) (AllReadyH.cons (o := { dst := some 17, op := _, type := _, pos := _, after := _, guard := _ }) rfl (fun K hK => ?_) AllReadyH.nil)
    go_simp
    refine (PM _).mono ?_
    rintro e w4 ⟨rfl, rfl⟩
    go_wp2_with fail
    refine hK.out _ _ ?_ (fun hHeld => ?_)
    · exact hHeld
    clear hK K
    try simp only [Act.put, List.setIfInBounds_toArray, List.set_cons_zero, List.set_cons_succ]
    refine wpAnyH_take (i := 4) (oi := { dst := some 18, op := _, type := _, pos := _, after := _, guard := _ }) (v := ?v1x10) rfl (by kernel_rfl) (by kernel_rfl) (by kernel_rfl) (fun _ _ _ h => h) (Or.inl ⟨by rfl, ?hy1x10⟩) hHeld ?rest1x10
    case hy1x10 => (intro w hSw; go_simp <;> with_reducible rfl)
    try simp only [Act.put, List.setIfInBounds_toArray, List.set_cons_zero, List.set_cons_succ]
    refine wpAnyH_ready (rs := [10]) (by kernel_rfl) (by simp) (AllReadyH.cons (o := { dst := some 24, op := _, type := _, pos := _, after := _, guard := _ }) rfl (fun K hK => ?_) AllReadyH.nil)
    go_simp
    go_wp2_with fail
    refine hK.out _ _ ?_ (fun hHeld => ?_)
    · exact ⟨by have h1 := (Blk.p18 (HB.out.keep (hal (.cells #[.int .u8 (fb : Int), .int .u8 (z : Int)] 5)))).2.2.2.2.2.2.2.2.2.2.2.2.2.2.2.1; rw [Hpre.out] at h1; exact h1, (Blk.p18 (HB.out.keep (hal _))).2.2.2.2.2.2.2.2.2.2.2.2.2.2.2.2.1, ((hal _).cell (p := ⟨b, o, none⟩) hblW).trans cA⟩
    clear hK K
    try simp only [Act.put, List.setIfInBounds_toArray, List.set_cons_zero, List.set_cons_succ]
    refine wpAnyH_ready (rs := [11]) (by kernel_rfl) (by simp) (AllReadyH.cons (o := { dst := some 25, op := _, type := _, pos := _, after := _, guard := _ }) rfl (fun K hK => ?_) AllReadyH.nil)
    rw [if_pos (by rfl)]
    refine op_app2 (.tmp 14) (.tmp 24) 31 rfl 5 _ _ Try.underlying31 u8_info rfl base A n c (bv xs) rfl (own_keep hO (((Below.refl _ _).alloc (Nat.le_refl _) _).drew)) (some ⟨W.heap.size, 0, none⟩) 2 2 [.int .u8 (fb : Int), .int .u8 (z : Int)] rfl (Blk.new W 5 [.int .u8 (fb : Int), .int .u8 (z : Int)]).rd (by intro u hu; simp at hu; rcases hu with rfl | rfl <;> rfl) (by unfold maxLen; omega) (by omega) (Nat.le_trans hbW (by simp)) ?_
    intro A3 k3 w3 o3 b3 h3
    have hbt : But (SoA A) W w3 := But.after (hal _) b3
    have HB3 := HB.out.but hbt hgA
    have cA3 : w3.cell? ⟨b, o, none⟩ = some (.int .i64 (z : Int)) := (World.cell?_of_block (w := W) (hbt.block b hblW hbA)).trans cA
    have o4 : w3.ownsRow base 5 1 (.slice A3 N k3) N (bv (xs ++ bodyP q)) := by rw [HE.out, bv_append, Hbz.out, ← hN2]; exact o3
    have HF := hide (show RetFin base N (xs ++ bodyP q) w (.returned (.slice A3 N k3)) w3 from ⟨A3, k3, rfl, o4, But.below (Hbw.out.mono hb) hbt (fun i ⟨o, e⟩ => hAb i o e) hbW⟩)
    clear o3 b3 h3 o4
    refine hK.out _ _ ?_ (fun hHeld => ?_)
    · exact ⟨by have h1 := (Blk.p18 HB3).2.2.2.2.2.2.2.2.2.2.2.2.2.2.2.1; rw [Hpre.out] at h1; exact h1, (Blk.p18 HB3).2.2.2.2.2.2.2.2.2.2.2.2.2.2.2.2.1, cA3⟩
    clear hK K
    try simp only [Act.put, List.setIfInBounds_toArray, List.set_cons_zero, List.set_cons_succ]
    refine wpAnyH_take (i := 12) (oi := { dst := some 4, op := _, type := _, pos := _, after := _, guard := _ }) (v := ?v1x13) rfl (by kernel_rfl) (by kernel_rfl) (by kernel_rfl) (fun _ _ _ h => h) (Or.inl ⟨by rfl, ?hy1x13⟩) hHeld ?rest1x13
    case hy1x13 => (intro w hSw; go_simp <;> with_reducible rfl)
    try simp only [Act.put, List.setIfInBounds_toArray, List.set_cons_zero, List.set_cons_succ]
    refine wpAnyH_done (by kernel_rfl) ?_ _
    go_wp2_with fail
    go_ret
    exact HF.out
  have hty2 := Hf.out
  simp only [fitB, Bool.and_eq_true, decide_eq_true_eq] at hty2
  have hrange := hty2.1.1
  rw [hty] at hrange
  clear hty2
  have q1 : (ty == 1) = false := by simpa using c1
  have q2 : (ty == 2) = false := by simpa using c2
  have q3 : (ty == 3) = false := by simpa using c3
  have q8 : (ty == 8) = false := by simpa using c8
  have q9 : (ty == 9) = false := by simpa using c9
  have q10 : (ty == 10) = false := by simpa using c10
  by_cases c12 : ty = 12 ∨ ty = 13 ∨ ty = 14
  · have e : bodyP q = [] := by unfold bodyP; rw [if_neg (by omega), if_neg (by omega), if_neg (by omega), if_neg (by omega), if_neg (by omega)]
    have hN := HN.out
    rw [e] at hN
    have hNn : n = N := hN
    have HE := hide e
    clear c1 c2 c3 c8 c9 c10 q1 q2 q3 q8 q9 q10 hrange hty hN e
    subst hNn
    rw [HE.out, List.append_nil]
    rcases c12 with c4 | c4 | c4
    all_goals
      subst c4
      simp only [pkA]
      go_enter Try.func24, Try.ntmps24
      go_wp2_with fail
      go_ret
      have bw := (Below.refl w.heap.size w).alloc (Nat.le_refl _) (.cells (arr (pkVs q C nc kc S ns ks)) 27)
      rw [← Hq.out] at bw
      exact ⟨A, c, rfl, HO.out _ bw, bw.mono hb⟩
  have c4 : ty = 4 ∨ ty = 5 ∨ ty = 6 ∨ ty = 7 ∨ ty = 11 := by omega
  have h4 := fit_i4 Hf.out (by rw [hty]; exact c4)
  have e : bodyP q = wordI q.id := by unfold bodyP; rw [if_neg (by omega), if_neg (by omega), if_neg (by omega), if_pos (by omega)]
  have hqi : q.id = id := by rw [← Hq.out]
  have hN := HN.out
  rw [e] at hN
  have hN2 : n + 2 = N := hN
  rw [e, hqi]
  rw [hqi] at h4
  have q12 : (ty == 12) = false := by simp; omega
  have q13 : (ty == 13) = false := by simp; omega
  have q14 : (ty == 14) = false := by simp; omega
  clear c1 c2 c3 c8 c9 c10 c12 hrange hN e c4
  simp only [pkA]
  go_enter Try.func24, Try.ntmps24
  go_upto_region 17 with fail
  generalize hW : w.alloc _ = W
  obtain ⟨g, hg, hB, bW, -⟩ := boxedP (p := ⟨ty, dup, id, topic, payload, qos, retain, client, clean, alive, hasWill, hasUser, hasPass, user, pass, present, codes, subs⟩) hW
  have bw : Below w.heap.size w W := by rw [hg]; exact bW
  rw [hg]
  have c2' := (Blk.p18 hB).2.2.1
  have P := (addWord_any base A n c N xs W id (HO.out W bw) hN2 (by omega) (Nat.le_trans hb bw.size) h4.1 h4.2)
  have Hbw := hide bw
  clear hW hg hB bW bw q1 q2 q3 q8 q9 q10 q12 q13 q14 hty
  go_wp2_with fail
  refine P.mono ?_
  rintro e w1 hF
  have hF := hF.fin Hbw.out (fun i ⟨o, e⟩ => hAb i o e) hb
  obtain ⟨A2, c2, rfl, o2, b2⟩ := hF
  have HF := hide (show RetFin base N (xs ++ wordI id) w (.returned (.slice A2 N c2)) w1 from ⟨A2, c2, rfl, o2, b2⟩)
  clear o2 b2 P
  go_wp2_with fail
  go_ret
  exact HF.out

end Go.Proofs.Ytjaaeiemgojnbaa
