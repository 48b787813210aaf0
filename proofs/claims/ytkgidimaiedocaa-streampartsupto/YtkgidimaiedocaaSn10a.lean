/-
  What is proved here: what the document's own 'Same' of layer 10 returns where two packets differ in a field (ty, dup, id, topic). No condition. ALSO: what the document's own 'Same' of layer 10 returns where two packets differ in a field (payload, qos, retain, client). No condition.
-/
import Derived.Test.YtkgidimaiedocaaPkLd
namespace Go.Proofs.Ytkgidimaiedocaa
set_option linter.unusedVariables false
set_option linter.unusedSimpArgs false
open Go.RowKit

set_option maxRecDepth 100000 in
set_option maxHeartbeats 8000000 in
theorem sameN_ty (p q : Pk) (C C2 : Option Addr) (nc kc nc2 kc2 : Nat) (S S2 : Option Addr) (ns ks ns2 ks2 : Nat) (w : World)  (hd : ¬ p.ty = q.ty) : Calls Try.prog 31 #[pkA p C nc kc S ns ks, pkA q C2 nc2 kc2 S2 ns2 ks2] w fun e w' => e = .returned (.bool false) ∧ Below w.heap.size w w' := by
  obtain ⟨ty, dup, id, topic, payload, qos, retain, client, clean, alive, hasWill, hasUser, hasPass, user, pass, present, codes, subs⟩ := p
  obtain ⟨ty2, dup2, id2, topic2, payload2, qos2, retain2, client2, clean2, alive2, hasWill2, hasUser2, hasPass2, user2, pass2, present2, codes2, subs2⟩ := q
  simp only at  hd
  simp only [pkA]
  have d1 : (ty == ty2) = false := by simpa using hd
  have d2 : (ty != ty2) = true := by rw [bne_iff_ne]; exact hd
  clear hd
  go_enter Try.func31, Try.ntmps31
  go_upto_region 1 with fail
  generalize hW : w.alloc _ = W
  obtain ⟨g, hg, hB, bW, hsz⟩ := boxedP (p := ⟨ty, dup, id, topic, payload, qos, retain, client, clean, alive, hasWill, hasUser, hasPass, user, pass, present, codes, subs⟩) hW
  generalize hV : W.alloc _ = V
  obtain ⟨g2, hg2, hB2, bV, -⟩ := boxedP (p := ⟨ty2, dup2, id2, topic2, payload2, qos2, retain2, client2, clean2, alive2, hasWill2, hasUser2, hasPass2, user2, pass2, present2, codes2, subs2⟩) hV
  have hw1 : w.heap.size + 1 = g2 := by omega
  rw [hw1, hg]
  have hB1 := hB.keep (by rw [hg2]; exact bV)
  have bw : Below w.heap.size w V := below_on (by rw [hg]; exact bW) (by rw [hg2]; exact bV)
  obtain ⟨c0, c1, c2, c3, c4, c5, c6, c7, c8, c9, c10, c11, c12, c13, c14, c15, c16, c17⟩ := hB1.p18
  obtain ⟨k0, k1, k2, k3, k4, k5, k6, k7, k8, k9, k10, k11, k12, k13, k14, k15, k16, k17⟩ := hB2.p18
  simp only at c0 c1 c2 c3 c4 c5 c6 c7 c8 c9 c10 c11 c12 c13 c14 c15 c16 c17 k0 k1 k2 k3 k4 k5 k6 k7 k8 k9 k10 k11 k12 k13 k14 k15 k16 k17
  have BW := hide bw
  clear hW hV hB hB2 hB1 bW bV bw hsz hg2 hg hw1
  go_wp2_with fail
  go_ret
  exact ⟨rfl, BW.out⟩

set_option maxRecDepth 100000 in
set_option maxHeartbeats 8000000 in
theorem sameN_dup (p q : Pk) (C C2 : Option Addr) (nc kc nc2 kc2 : Nat) (S S2 : Option Addr) (ns ks ns2 ks2 : Nat) (w : World) (e0 : p.ty = q.ty) (hd : ¬ p.dup = q.dup) : Calls Try.prog 31 #[pkA p C nc kc S ns ks, pkA q C2 nc2 kc2 S2 ns2 ks2] w fun e w' => e = .returned (.bool false) ∧ Below w.heap.size w w' := by
  obtain ⟨ty, dup, id, topic, payload, qos, retain, client, clean, alive, hasWill, hasUser, hasPass, user, pass, present, codes, subs⟩ := p
  obtain ⟨ty2, dup2, id2, topic2, payload2, qos2, retain2, client2, clean2, alive2, hasWill2, hasUser2, hasPass2, user2, pass2, present2, codes2, subs2⟩ := q
  simp only at e0 hd
  subst e0
  simp only [pkA]
  have d1 : (dup == dup2) = false := by simpa using hd
  have d2 : (dup != dup2) = true := by rw [bne_iff_ne]; exact hd
  have d3 : dup2 = !dup := by cases dup <;> cases dup2 <;> simp_all
  subst d3
  cases dup
  all_goals clear d1 d2
  all_goals try clear hd
  · go_enter Try.func31, Try.ntmps31
    go_upto_region 1 with fail
    generalize hW : w.alloc _ = W
    obtain ⟨g, hg, hB, bW, hsz⟩ := boxedP (p := ⟨ty, false, id, topic, payload, qos, retain, client, clean, alive, hasWill, hasUser, hasPass, user, pass, present, codes, subs⟩) hW
    generalize hV : W.alloc _ = V
    obtain ⟨g2, hg2, hB2, bV, -⟩ := boxedP (p := ⟨ty, true, id2, topic2, payload2, qos2, retain2, client2, clean2, alive2, hasWill2, hasUser2, hasPass2, user2, pass2, present2, codes2, subs2⟩) hV
    have hw1 : w.heap.size + 1 = g2 := by omega
    rw [hw1, hg]
    have hB1 := hB.keep (by rw [hg2]; exact bV)
    have bw : Below w.heap.size w V := below_on (by rw [hg]; exact bW) (by rw [hg2]; exact bV)
    obtain ⟨c0, c1, c2, c3, c4, c5, c6, c7, c8, c9, c10, c11, c12, c13, c14, c15, c16, c17⟩ := hB1.p18
    obtain ⟨k0, k1, k2, k3, k4, k5, k6, k7, k8, k9, k10, k11, k12, k13, k14, k15, k16, k17⟩ := hB2.p18
    simp only at c0 c1 c2 c3 c4 c5 c6 c7 c8 c9 c10 c11 c12 c13 c14 c15 c16 c17 k0 k1 k2 k3 k4 k5 k6 k7 k8 k9 k10 k11 k12 k13 k14 k15 k16 k17
    have BW := hide bw
    clear hW hV hB hB2 hB1 bW bV bw hsz hg2 hg hw1
    go_wp2_with fail
    go_ret
    exact ⟨rfl, BW.out⟩
  · go_enter Try.func31, Try.ntmps31
    go_upto_region 1 with fail
    generalize hW : w.alloc _ = W
    obtain ⟨g, hg, hB, bW, hsz⟩ := boxedP (p := ⟨ty, true, id, topic, payload, qos, retain, client, clean, alive, hasWill, hasUser, hasPass, user, pass, present, codes, subs⟩) hW
    generalize hV : W.alloc _ = V
    obtain ⟨g2, hg2, hB2, bV, -⟩ := boxedP (p := ⟨ty, false, id2, topic2, payload2, qos2, retain2, client2, clean2, alive2, hasWill2, hasUser2, hasPass2, user2, pass2, present2, codes2, subs2⟩) hV
    have hw1 : w.heap.size + 1 = g2 := by omega
    rw [hw1, hg]
    have hB1 := hB.keep (by rw [hg2]; exact bV)
    have bw : Below w.heap.size w V := below_on (by rw [hg]; exact bW) (by rw [hg2]; exact bV)
    obtain ⟨c0, c1, c2, c3, c4, c5, c6, c7, c8, c9, c10, c11, c12, c13, c14, c15, c16, c17⟩ := hB1.p18
    obtain ⟨k0, k1, k2, k3, k4, k5, k6, k7, k8, k9, k10, k11, k12, k13, k14, k15, k16, k17⟩ := hB2.p18
    simp only at c0 c1 c2 c3 c4 c5 c6 c7 c8 c9 c10 c11 c12 c13 c14 c15 c16 c17 k0 k1 k2 k3 k4 k5 k6 k7 k8 k9 k10 k11 k12 k13 k14 k15 k16 k17
    have BW := hide bw
    clear hW hV hB hB2 hB1 bW bV bw hsz hg2 hg hw1
    go_wp2_with fail
    go_ret
    exact ⟨rfl, BW.out⟩

set_option maxRecDepth 100000 in
set_option maxHeartbeats 8000000 in
theorem sameN_id (p q : Pk) (C C2 : Option Addr) (nc kc nc2 kc2 : Nat) (S S2 : Option Addr) (ns ks ns2 ks2 : Nat) (w : World) (e0 : p.ty = q.ty) (e1 : p.dup = q.dup) (hd : ¬ p.id = q.id) : Calls Try.prog 31 #[pkA p C nc kc S ns ks, pkA q C2 nc2 kc2 S2 ns2 ks2] w fun e w' => e = .returned (.bool false) ∧ Below w.heap.size w w' := by
  obtain ⟨ty, dup, id, topic, payload, qos, retain, client, clean, alive, hasWill, hasUser, hasPass, user, pass, present, codes, subs⟩ := p
  obtain ⟨ty2, dup2, id2, topic2, payload2, qos2, retain2, client2, clean2, alive2, hasWill2, hasUser2, hasPass2, user2, pass2, present2, codes2, subs2⟩ := q
  simp only at e0 e1 hd
  subst e0 e1
  simp only [pkA]
  have d1 : (id == id2) = false := by simpa using hd
  have d2 : (id != id2) = true := by rw [bne_iff_ne]; exact hd
  clear hd
  go_enter Try.func31, Try.ntmps31
  go_upto_region 1 with fail
  generalize hW : w.alloc _ = W
  obtain ⟨g, hg, hB, bW, hsz⟩ := boxedP (p := ⟨ty, dup, id, topic, payload, qos, retain, client, clean, alive, hasWill, hasUser, hasPass, user, pass, present, codes, subs⟩) hW
  generalize hV : W.alloc _ = V
  obtain ⟨g2, hg2, hB2, bV, -⟩ := boxedP (p := ⟨ty, dup, id2, topic2, payload2, qos2, retain2, client2, clean2, alive2, hasWill2, hasUser2, hasPass2, user2, pass2, present2, codes2, subs2⟩) hV
  have hw1 : w.heap.size + 1 = g2 := by omega
  rw [hw1, hg]
  have hB1 := hB.keep (by rw [hg2]; exact bV)
  have bw : Below w.heap.size w V := below_on (by rw [hg]; exact bW) (by rw [hg2]; exact bV)
  obtain ⟨c0, c1, c2, c3, c4, c5, c6, c7, c8, c9, c10, c11, c12, c13, c14, c15, c16, c17⟩ := hB1.p18
  obtain ⟨k0, k1, k2, k3, k4, k5, k6, k7, k8, k9, k10, k11, k12, k13, k14, k15, k16, k17⟩ := hB2.p18
  simp only at c0 c1 c2 c3 c4 c5 c6 c7 c8 c9 c10 c11 c12 c13 c14 c15 c16 c17 k0 k1 k2 k3 k4 k5 k6 k7 k8 k9 k10 k11 k12 k13 k14 k15 k16 k17
  have BW := hide bw
  clear hW hV hB hB2 hB1 bW bV bw hsz hg2 hg hw1
  go_wp2_with fail
  go_ret
  exact ⟨rfl, BW.out⟩

set_option maxRecDepth 100000 in
set_option maxHeartbeats 8000000 in
theorem sameN_topic (p q : Pk) (C C2 : Option Addr) (nc kc nc2 kc2 : Nat) (S S2 : Option Addr) (ns ks ns2 ks2 : Nat) (w : World) (e0 : p.ty = q.ty) (e1 : p.dup = q.dup) (e2 : p.id = q.id) (hd : ¬ p.topic = q.topic) : Calls Try.prog 31 #[pkA p C nc kc S ns ks, pkA q C2 nc2 kc2 S2 ns2 ks2] w fun e w' => e = .returned (.bool false) ∧ Below w.heap.size w w' := by
  obtain ⟨ty, dup, id, topic, payload, qos, retain, client, clean, alive, hasWill, hasUser, hasPass, user, pass, present, codes, subs⟩ := p
  obtain ⟨ty2, dup2, id2, topic2, payload2, qos2, retain2, client2, clean2, alive2, hasWill2, hasUser2, hasPass2, user2, pass2, present2, codes2, subs2⟩ := q
  simp only at e0 e1 e2 hd
  subst e0 e1 e2
  simp only [pkA]
  have d1 : (topic == topic2) = false := by simpa using hd
  have d2 : (topic != topic2) = true := by rw [bne_iff_ne]; exact hd
  clear hd
  go_enter Try.func31, Try.ntmps31
  go_upto_region 1 with fail
  generalize hW : w.alloc _ = W
  obtain ⟨g, hg, hB, bW, hsz⟩ := boxedP (p := ⟨ty, dup, id, topic, payload, qos, retain, client, clean, alive, hasWill, hasUser, hasPass, user, pass, present, codes, subs⟩) hW
  generalize hV : W.alloc _ = V
  obtain ⟨g2, hg2, hB2, bV, -⟩ := boxedP (p := ⟨ty, dup, id, topic2, payload2, qos2, retain2, client2, clean2, alive2, hasWill2, hasUser2, hasPass2, user2, pass2, present2, codes2, subs2⟩) hV
  have hw1 : w.heap.size + 1 = g2 := by omega
  rw [hw1, hg]
  have hB1 := hB.keep (by rw [hg2]; exact bV)
  have bw : Below w.heap.size w V := below_on (by rw [hg]; exact bW) (by rw [hg2]; exact bV)
  obtain ⟨c0, c1, c2, c3, c4, c5, c6, c7, c8, c9, c10, c11, c12, c13, c14, c15, c16, c17⟩ := hB1.p18
  obtain ⟨k0, k1, k2, k3, k4, k5, k6, k7, k8, k9, k10, k11, k12, k13, k14, k15, k16, k17⟩ := hB2.p18
  simp only at c0 c1 c2 c3 c4 c5 c6 c7 c8 c9 c10 c11 c12 c13 c14 c15 c16 c17 k0 k1 k2 k3 k4 k5 k6 k7 k8 k9 k10 k11 k12 k13 k14 k15 k16 k17
  have BW := hide bw
  clear hW hV hB hB2 hB1 bW bV bw hsz hg2 hg hw1
  go_wp2_with fail
  go_ret
  exact ⟨rfl, BW.out⟩

end Go.Proofs.Ytkgidimaiedocaa

namespace Go.Proofs.Ytkgidimaiedocaa
set_option linter.unusedVariables false
set_option linter.unusedSimpArgs false
open Go.RowKit

set_option maxRecDepth 100000 in
set_option maxHeartbeats 8000000 in
theorem sameN_payload (p q : Pk) (C C2 : Option Addr) (nc kc nc2 kc2 : Nat) (S S2 : Option Addr) (ns ks ns2 ks2 : Nat) (w : World) (e0 : p.ty = q.ty) (e1 : p.dup = q.dup) (e2 : p.id = q.id) (e3 : p.topic = q.topic) (hd : ¬ p.payload = q.payload) : Calls Try.prog 31 #[pkA p C nc kc S ns ks, pkA q C2 nc2 kc2 S2 ns2 ks2] w fun e w' => e = .returned (.bool false) ∧ Below w.heap.size w w' := by
  obtain ⟨ty, dup, id, topic, payload, qos, retain, client, clean, alive, hasWill, hasUser, hasPass, user, pass, present, codes, subs⟩ := p
  obtain ⟨ty2, dup2, id2, topic2, payload2, qos2, retain2, client2, clean2, alive2, hasWill2, hasUser2, hasPass2, user2, pass2, present2, codes2, subs2⟩ := q
  simp only at e0 e1 e2 e3 hd
  subst e0 e1 e2 e3
  simp only [pkA]
  have d1 : (payload == payload2) = false := by simpa using hd
  have d2 : (payload != payload2) = true := by rw [bne_iff_ne]; exact hd
  clear hd
  go_enter Try.func31, Try.ntmps31
  go_upto_region 1 with fail
  generalize hW : w.alloc _ = W
  obtain ⟨g, hg, hB, bW, hsz⟩ := boxedP (p := ⟨ty, dup, id, topic, payload, qos, retain, client, clean, alive, hasWill, hasUser, hasPass, user, pass, present, codes, subs⟩) hW
  generalize hV : W.alloc _ = V
  obtain ⟨g2, hg2, hB2, bV, -⟩ := boxedP (p := ⟨ty, dup, id, topic, payload2, qos2, retain2, client2, clean2, alive2, hasWill2, hasUser2, hasPass2, user2, pass2, present2, codes2, subs2⟩) hV
  have hw1 : w.heap.size + 1 = g2 := by omega
  rw [hw1, hg]
  have hB1 := hB.keep (by rw [hg2]; exact bV)
  have bw : Below w.heap.size w V := below_on (by rw [hg]; exact bW) (by rw [hg2]; exact bV)
  obtain ⟨c0, c1, c2, c3, c4, c5, c6, c7, c8, c9, c10, c11, c12, c13, c14, c15, c16, c17⟩ := hB1.p18
  obtain ⟨k0, k1, k2, k3, k4, k5, k6, k7, k8, k9, k10, k11, k12, k13, k14, k15, k16, k17⟩ := hB2.p18
  simp only at c0 c1 c2 c3 c4 c5 c6 c7 c8 c9 c10 c11 c12 c13 c14 c15 c16 c17 k0 k1 k2 k3 k4 k5 k6 k7 k8 k9 k10 k11 k12 k13 k14 k15 k16 k17
  have BW := hide bw
  clear hW hV hB hB2 hB1 bW bV bw hsz hg2 hg hw1
  go_wp2_with fail
  go_ret
  exact ⟨rfl, BW.out⟩

set_option maxRecDepth 100000 in
set_option maxHeartbeats 8000000 in
theorem sameN_qos (p q : Pk) (C C2 : Option Addr) (nc kc nc2 kc2 : Nat) (S S2 : Option Addr) (ns ks ns2 ks2 : Nat) (w : World) (e0 : p.ty = q.ty) (e1 : p.dup = q.dup) (e2 : p.id = q.id) (e3 : p.topic = q.topic) (e4 : p.payload = q.payload) (hd : ¬ p.qos = q.qos) : Calls Try.prog 31 #[pkA p C nc kc S ns ks, pkA q C2 nc2 kc2 S2 ns2 ks2] w fun e w' => e = .returned (.bool false) ∧ Below w.heap.size w w' := by
  obtain ⟨ty, dup, id, topic, payload, qos, retain, client, clean, alive, hasWill, hasUser, hasPass, user, pass, present, codes, subs⟩ := p
  obtain ⟨ty2, dup2, id2, topic2, payload2, qos2, retain2, client2, clean2, alive2, hasWill2, hasUser2, hasPass2, user2, pass2, present2, codes2, subs2⟩ := q
  simp only at e0 e1 e2 e3 e4 hd
  subst e0 e1 e2 e3 e4
  simp only [pkA]
  have d1 : (qos == qos2) = false := by simpa using hd
  have d2 : (qos != qos2) = true := by rw [bne_iff_ne]; exact hd
  clear hd
  go_enter Try.func31, Try.ntmps31
  go_upto_region 1 with fail
  generalize hW : w.alloc _ = W
  obtain ⟨g, hg, hB, bW, hsz⟩ := boxedP (p := ⟨ty, dup, id, topic, payload, qos, retain, client, clean, alive, hasWill, hasUser, hasPass, user, pass, present, codes, subs⟩) hW
  generalize hV : W.alloc _ = V
  obtain ⟨g2, hg2, hB2, bV, -⟩ := boxedP (p := ⟨ty, dup, id, topic, payload, qos2, retain2, client2, clean2, alive2, hasWill2, hasUser2, hasPass2, user2, pass2, present2, codes2, subs2⟩) hV
  have hw1 : w.heap.size + 1 = g2 := by omega
  rw [hw1, hg]
  have hB1 := hB.keep (by rw [hg2]; exact bV)
  have bw : Below w.heap.size w V := below_on (by rw [hg]; exact bW) (by rw [hg2]; exact bV)
  obtain ⟨c0, c1, c2, c3, c4, c5, c6, c7, c8, c9, c10, c11, c12, c13, c14, c15, c16, c17⟩ := hB1.p18
  obtain ⟨k0, k1, k2, k3, k4, k5, k6, k7, k8, k9, k10, k11, k12, k13, k14, k15, k16, k17⟩ := hB2.p18
  simp only at c0 c1 c2 c3 c4 c5 c6 c7 c8 c9 c10 c11 c12 c13 c14 c15 c16 c17 k0 k1 k2 k3 k4 k5 k6 k7 k8 k9 k10 k11 k12 k13 k14 k15 k16 k17
  have BW := hide bw
  clear hW hV hB hB2 hB1 bW bV bw hsz hg2 hg hw1
  go_wp2_with fail
  go_ret
  exact ⟨rfl, BW.out⟩

set_option maxRecDepth 100000 in
set_option maxHeartbeats 8000000 in
theorem sameN_retain (p q : Pk) (C C2 : Option Addr) (nc kc nc2 kc2 : Nat) (S S2 : Option Addr) (ns ks ns2 ks2 : Nat) (w : World) (e0 : p.ty = q.ty) (e1 : p.dup = q.dup) (e2 : p.id = q.id) (e3 : p.topic = q.topic) (e4 : p.payload = q.payload) (e5 : p.qos = q.qos) (hd : ¬ p.retain = q.retain) : Calls Try.prog 31 #[pkA p C nc kc S ns ks, pkA q C2 nc2 kc2 S2 ns2 ks2] w fun e w' => e = .returned (.bool false) ∧ Below w.heap.size w w' := by
  obtain ⟨ty, dup, id, topic, payload, qos, retain, client, clean, alive, hasWill, hasUser, hasPass, user, pass, present, codes, subs⟩ := p
  obtain ⟨ty2, dup2, id2, topic2, payload2, qos2, retain2, client2, clean2, alive2, hasWill2, hasUser2, hasPass2, user2, pass2, present2, codes2, subs2⟩ := q
  simp only at e0 e1 e2 e3 e4 e5 hd
  subst e0 e1 e2 e3 e4 e5
  simp only [pkA]
  have d1 : (retain == retain2) = false := by simpa using hd
  have d2 : (retain != retain2) = true := by rw [bne_iff_ne]; exact hd
  have d3 : retain2 = !retain := by cases retain <;> cases retain2 <;> simp_all
  subst d3
  cases retain
  all_goals clear d1 d2
  all_goals try clear hd
  · go_enter Try.func31, Try.ntmps31
    go_upto_region 1 with fail
    generalize hW : w.alloc _ = W
    obtain ⟨g, hg, hB, bW, hsz⟩ := boxedP (p := ⟨ty, dup, id, topic, payload, qos, false, client, clean, alive, hasWill, hasUser, hasPass, user, pass, present, codes, subs⟩) hW
    generalize hV : W.alloc _ = V
    obtain ⟨g2, hg2, hB2, bV, -⟩ := boxedP (p := ⟨ty, dup, id, topic, payload, qos, true, client2, clean2, alive2, hasWill2, hasUser2, hasPass2, user2, pass2, present2, codes2, subs2⟩) hV
    have hw1 : w.heap.size + 1 = g2 := by omega
    rw [hw1, hg]
    have hB1 := hB.keep (by rw [hg2]; exact bV)
    have bw : Below w.heap.size w V := below_on (by rw [hg]; exact bW) (by rw [hg2]; exact bV)
    obtain ⟨c0, c1, c2, c3, c4, c5, c6, c7, c8, c9, c10, c11, c12, c13, c14, c15, c16, c17⟩ := hB1.p18
    obtain ⟨k0, k1, k2, k3, k4, k5, k6, k7, k8, k9, k10, k11, k12, k13, k14, k15, k16, k17⟩ := hB2.p18
    simp only at c0 c1 c2 c3 c4 c5 c6 c7 c8 c9 c10 c11 c12 c13 c14 c15 c16 c17 k0 k1 k2 k3 k4 k5 k6 k7 k8 k9 k10 k11 k12 k13 k14 k15 k16 k17
    have BW := hide bw
    clear hW hV hB hB2 hB1 bW bV bw hsz hg2 hg hw1
    go_wp2_with fail
    go_ret
    exact ⟨rfl, BW.out⟩
  · go_enter Try.func31, Try.ntmps31
    go_upto_region 1 with fail
    generalize hW : w.alloc _ = W
    obtain ⟨g, hg, hB, bW, hsz⟩ := boxedP (p := ⟨ty, dup, id, topic, payload, qos, true, client, clean, alive, hasWill, hasUser, hasPass, user, pass, present, codes, subs⟩) hW
    generalize hV : W.alloc _ = V
    obtain ⟨g2, hg2, hB2, bV, -⟩ := boxedP (p := ⟨ty, dup, id, topic, payload, qos, false, client2, clean2, alive2, hasWill2, hasUser2, hasPass2, user2, pass2, present2, codes2, subs2⟩) hV
    have hw1 : w.heap.size + 1 = g2 := by omega
    rw [hw1, hg]
    have hB1 := hB.keep (by rw [hg2]; exact bV)
    have bw : Below w.heap.size w V := below_on (by rw [hg]; exact bW) (by rw [hg2]; exact bV)
    obtain ⟨c0, c1, c2, c3, c4, c5, c6, c7, c8, c9, c10, c11, c12, c13, c14, c15, c16, c17⟩ := hB1.p18
    obtain ⟨k0, k1, k2, k3, k4, k5, k6, k7, k8, k9, k10, k11, k12, k13, k14, k15, k16, k17⟩ := hB2.p18
    simp only at c0 c1 c2 c3 c4 c5 c6 c7 c8 c9 c10 c11 c12 c13 c14 c15 c16 c17 k0 k1 k2 k3 k4 k5 k6 k7 k8 k9 k10 k11 k12 k13 k14 k15 k16 k17
    have BW := hide bw
    clear hW hV hB hB2 hB1 bW bV bw hsz hg2 hg hw1
    go_wp2_with fail
    go_ret
    exact ⟨rfl, BW.out⟩

set_option maxRecDepth 100000 in
set_option maxHeartbeats 8000000 in
theorem sameN_client (p q : Pk) (C C2 : Option Addr) (nc kc nc2 kc2 : Nat) (S S2 : Option Addr) (ns ks ns2 ks2 : Nat) (w : World) (e0 : p.ty = q.ty) (e1 : p.dup = q.dup) (e2 : p.id = q.id) (e3 : p.topic = q.topic) (e4 : p.payload = q.payload) (e5 : p.qos = q.qos) (e6 : p.retain = q.retain) (hd : ¬ p.client = q.client) : Calls Try.prog 31 #[pkA p C nc kc S ns ks, pkA q C2 nc2 kc2 S2 ns2 ks2] w fun e w' => e = .returned (.bool false) ∧ Below w.heap.size w w' := by
  obtain ⟨ty, dup, id, topic, payload, qos, retain, client, clean, alive, hasWill, hasUser, hasPass, user, pass, present, codes, subs⟩ := p
  obtain ⟨ty2, dup2, id2, topic2, payload2, qos2, retain2, client2, clean2, alive2, hasWill2, hasUser2, hasPass2, user2, pass2, present2, codes2, subs2⟩ := q
  simp only at e0 e1 e2 e3 e4 e5 e6 hd
  subst e0 e1 e2 e3 e4 e5 e6
  simp only [pkA]
  have d1 : (client == client2) = false := by simpa using hd
  have d2 : (client != client2) = true := by rw [bne_iff_ne]; exact hd
  clear hd
  go_enter Try.func31, Try.ntmps31
  go_upto_region 1 with fail
  generalize hW : w.alloc _ = W
  obtain ⟨g, hg, hB, bW, hsz⟩ := boxedP (p := ⟨ty, dup, id, topic, payload, qos, retain, client, clean, alive, hasWill, hasUser, hasPass, user, pass, present, codes, subs⟩) hW
  generalize hV : W.alloc _ = V
  obtain ⟨g2, hg2, hB2, bV, -⟩ := boxedP (p := ⟨ty, dup, id, topic, payload, qos, retain, client2, clean2, alive2, hasWill2, hasUser2, hasPass2, user2, pass2, present2, codes2, subs2⟩) hV
  have hw1 : w.heap.size + 1 = g2 := by omega
  rw [hw1, hg]
  have hB1 := hB.keep (by rw [hg2]; exact bV)
  have bw : Below w.heap.size w V := below_on (by rw [hg]; exact bW) (by rw [hg2]; exact bV)
  obtain ⟨c0, c1, c2, c3, c4, c5, c6, c7, c8, c9, c10, c11, c12, c13, c14, c15, c16, c17⟩ := hB1.p18
  obtain ⟨k0, k1, k2, k3, k4, k5, k6, k7, k8, k9, k10, k11, k12, k13, k14, k15, k16, k17⟩ := hB2.p18
  simp only at c0 c1 c2 c3 c4 c5 c6 c7 c8 c9 c10 c11 c12 c13 c14 c15 c16 c17 k0 k1 k2 k3 k4 k5 k6 k7 k8 k9 k10 k11 k12 k13 k14 k15 k16 k17
  have BW := hide bw
  clear hW hV hB hB2 hB1 bW bV bw hsz hg2 hg hw1
  go_wp2_with fail
  go_ret
  exact ⟨rfl, BW.out⟩

end Go.Proofs.Ytkgidimaiedocaa
