/-
  What is proved here: what the document's own 'Same' of layer 10 returns where two packets differ in a field (clean, alive, hasWill, hasUser). No condition. ALSO: what the document's own 'Same' of layer 10 returns where two packets differ in a field (hasPass, user, pass, present). No condition.
-/
import Derived.Test.YtkgidimaiedocaaPkLd
namespace Go.Proofs.Ytkgidimaiedocaa
set_option linter.unusedVariables false
set_option linter.unusedSimpArgs false
open Go.RowKit

set_option maxRecDepth 100000 in
set_option maxHeartbeats 8000000 in
theorem sameN_clean (p q : Pk) (C C2 : Option Addr) (nc kc nc2 kc2 : Nat) (S S2 : Option Addr) (ns ks ns2 ks2 : Nat) (w : World) (e0 : p.ty = q.ty) (e1 : p.dup = q.dup) (e2 : p.id = q.id) (e3 : p.topic = q.topic) (e4 : p.payload = q.payload) (e5 : p.qos = q.qos) (e6 : p.retain = q.retain) (e7 : p.client = q.client) (hd : ¬ p.clean = q.clean) : Calls Try.prog 31 #[pkA p C nc kc S ns ks, pkA q C2 nc2 kc2 S2 ns2 ks2] w fun e w' => e = .returned (.bool false) ∧ Below w.heap.size w w' := by
  obtain ⟨ty, dup, id, topic, payload, qos, retain, client, clean, alive, hasWill, hasUser, hasPass, user, pass, present, codes, subs⟩ := p
  obtain ⟨ty2, dup2, id2, topic2, payload2, qos2, retain2, client2, clean2, alive2, hasWill2, hasUser2, hasPass2, user2, pass2, present2, codes2, subs2⟩ := q
  simp only at e0 e1 e2 e3 e4 e5 e6 e7 hd
  subst e0 e1 e2 e3 e4 e5 e6 e7
  simp only [pkA]
  have d1 : (clean == clean2) = false := by simpa using hd
  have d2 : (clean != clean2) = true := by rw [bne_iff_ne]; exact hd
  have d3 : clean2 = !clean := by cases clean <;> cases clean2 <;> simp_all
  subst d3
  cases clean
  all_goals clear d1 d2
  all_goals try clear hd
  · go_enter Try.func31, Try.ntmps31
    go_upto_region 1 with fail
    generalize hW : w.alloc _ = W
    obtain ⟨g, hg, hB, bW, hsz⟩ := boxedP (p := ⟨ty, dup, id, topic, payload, qos, retain, client, false, alive, hasWill, hasUser, hasPass, user, pass, present, codes, subs⟩) hW
    generalize hV : W.alloc _ = V
    obtain ⟨g2, hg2, hB2, bV, -⟩ := boxedP (p := ⟨ty, dup, id, topic, payload, qos, retain, client, true, alive2, hasWill2, hasUser2, hasPass2, user2, pass2, present2, codes2, subs2⟩) hV
    have hw1 : w.heap.size + 1 = g2 := by omega
    rw [hw1, hg]
    have hB1 := hB.keep (by rw [hg2]; exact bV)
    have bw : Below w.heap.size w V := below_on (by rw [hg]; exact bW) (by rw [hg2]; exact bV)
    obtain ⟨c0, c1, c2, c3, c4, c5, c6, c7, c8, c9, c10, c11, c12, c13, c14, c15, c16, c17⟩ := hB1.p18
    obtain ⟨k0, k1, k2, k3, k4, k5, k6, k7, k8, k9, k10, k11, k12, k13, k14, k15, k16, k17⟩ := hB2.p18
    simp only at c0 c1 c2 c3 c4 c5 c6 c7 c8 c9 c10 c11 c12 c13 c14 c15 c16 c17 k0 k1 k2 k3 k4 k5 k6 k7 k8 k9 k10 k11 k12 k13 k14 k15 k16 k17
    have BW := hide bw
    clear hW hV hB hB2 hB1 bW bV bw hsz hg2 hg hw1
    go_wp2_with fail
    go_ret
    exact ⟨rfl, BW.out⟩
  · go_enter Try.func31, Try.ntmps31
    go_upto_region 1 with fail
    generalize hW : w.alloc _ = W
    obtain ⟨g, hg, hB, bW, hsz⟩ := boxedP (p := ⟨ty, dup, id, topic, payload, qos, retain, client, true, alive, hasWill, hasUser, hasPass, user, pass, present, codes, subs⟩) hW
    generalize hV : W.alloc _ = V
    obtain ⟨g2, hg2, hB2, bV, -⟩ := boxedP (p := ⟨ty, dup, id, topic, payload, qos, retain, client, false, alive2, hasWill2, hasUser2, hasPass2, user2, pass2, present2, codes2, subs2⟩) hV
    have hw1 : w.heap.size + 1 = g2 := by omega
    rw [hw1, hg]
    have hB1 := hB.keep (by rw [hg2]; exact bV)
    have bw : Below w.heap.size w V := below_on (by rw [hg]; exact bW) (by rw [hg2]; exact bV)
    obtain ⟨c0, c1, c2, c3, c4, c5, c6, c7, c8, c9, c10, c11, c12, c13, c14, c15, c16, c17⟩ := hB1.p18
    obtain ⟨k0, k1, k2, k3, k4, k5, k6, k7, k8, k9, k10, k11, k12, k13, k14, k15, k16, k17⟩ := hB2.p18
    simp only at c0 c1 c2 c3 c4 c5 c6 c7 c8 c9 c10 c11 c12 c13 c14 c15 c16 c17 k0 k1 k2 k3 k4 k5 k6 k7 k8 k9 k10 k11 k12 k13 k14 k15 k16 k17
    have BW := hide bw
    clear hW hV hB hB2 hB1 bW bV bw hsz hg2 hg hw1
    go_wp2_with fail
    go_ret
    exact ⟨rfl, BW.out⟩

set_option maxRecDepth 100000 in
set_option maxHeartbeats 8000000 in
theorem sameN_alive (p q : Pk) (C C2 : Option Addr) (nc kc nc2 kc2 : Nat) (S S2 : Option Addr) (ns ks ns2 ks2 : Nat) (w : World) (e0 : p.ty = q.ty) (e1 : p.dup = q.dup) (e2 : p.id = q.id) (e3 : p.topic = q.topic) (e4 : p.payload = q.payload) (e5 : p.qos = q.qos) (e6 : p.retain = q.retain) (e7 : p.client = q.client) (e8 : p.clean = q.clean) (hd : ¬ p.alive = q.alive) : Calls Try.prog 31 #[pkA p C nc kc S ns ks, pkA q C2 nc2 kc2 S2 ns2 ks2] w fun e w' => e = .returned (.bool false) ∧ Below w.heap.size w w' := by
  obtain ⟨ty, dup, id, topic, payload, qos, retain, client, clean, alive, hasWill, hasUser, hasPass, user, pass, present, codes, subs⟩ := p
  obtain ⟨ty2, dup2, id2, topic2, payload2, qos2, retain2, client2, clean2, alive2, hasWill2, hasUser2, hasPass2, user2, pass2, present2, codes2, subs2⟩ := q
  simp only at e0 e1 e2 e3 e4 e5 e6 e7 e8 hd
  subst e0 e1 e2 e3 e4 e5 e6 e7 e8
  simp only [pkA]
  have d1 : (alive == alive2) = false := by simpa using hd
  have d2 : (alive != alive2) = true := by rw [bne_iff_ne]; exact hd
  clear hd
  go_enter Try.func31, Try.ntmps31
  go_upto_region 1 with fail
  generalize hW : w.alloc _ = W
  obtain ⟨g, hg, hB, bW, hsz⟩ := boxedP (p := ⟨ty, dup, id, topic, payload, qos, retain, client, clean, alive, hasWill, hasUser, hasPass, user, pass, present, codes, subs⟩) hW
  generalize hV : W.alloc _ = V
  obtain ⟨g2, hg2, hB2, bV, -⟩ := boxedP (p := ⟨ty, dup, id, topic, payload, qos, retain, client, clean, alive2, hasWill2, hasUser2, hasPass2, user2, pass2, present2, codes2, subs2⟩) hV
  have hw1 : w.heap.size + 1 = g2 := by omega
  rw [hw1, hg]
  have hB1 := hB.keep (by rw [hg2]; exact bV)
  have bw : Below w.heap.size w V := below_on (by rw [hg]; exact bW) (by rw [hg2]; exact bV)
  obtain ⟨c0, c1, c2, c3, c4, c5, c6, c7, c8, c9, c10, c11, c12, c13, c14, c15, c16, c17⟩ := hB1.p18
  obtain ⟨k0, k1, k2, k3, k4, k5, k6, k7, k8, k9, k10, k11, k12, k13, k14, k15, k16, k17⟩ := hB2.p18
  simp only at c0 c1 c2 c3 c4 c5 c6 c7 c8 c9 c10 c11 c12 c13 c14 c15 c16 c17 k0 k1 k2 k3 k4 k5 k6 k7 k8 k9 k10 k11 k12 k13 k14 k15 k16 k17
  have BW := hide bw
  clear hW hV hB hB2 hB1 bW bV bw hsz hg2 hg hw1
  go_wp2_with fail
  go_ret
  exact ⟨rfl, BW.out⟩

set_option maxRecDepth 100000 in
set_option maxHeartbeats 8000000 in
theorem sameN_hasWill (p q : Pk) (C C2 : Option Addr) (nc kc nc2 kc2 : Nat) (S S2 : Option Addr) (ns ks ns2 ks2 : Nat) (w : World) (e0 : p.ty = q.ty) (e1 : p.dup = q.dup) (e2 : p.id = q.id) (e3 : p.topic = q.topic) (e4 : p.payload = q.payload) (e5 : p.qos = q.qos) (e6 : p.retain = q.retain) (e7 : p.client = q.client) (e8 : p.clean = q.clean) (e9 : p.alive = q.alive) (hd : ¬ p.hasWill = q.hasWill) : Calls Try.prog 31 #[pkA p C nc kc S ns ks, pkA q C2 nc2 kc2 S2 ns2 ks2] w fun e w' => e = .returned (.bool false) ∧ Below w.heap.size w w' := by
  obtain ⟨ty, dup, id, topic, payload, qos, retain, client, clean, alive, hasWill, hasUser, hasPass, user, pass, present, codes, subs⟩ := p
  obtain ⟨ty2, dup2, id2, topic2, payload2, qos2, retain2, client2, clean2, alive2, hasWill2, hasUser2, hasPass2, user2, pass2, present2, codes2, subs2⟩ := q
  simp only at e0 e1 e2 e3 e4 e5 e6 e7 e8 e9 hd
  subst e0 e1 e2 e3 e4 e5 e6 e7 e8 e9
  simp only [pkA]
  have d1 : (hasWill == hasWill2) = false := by simpa using hd
  have d2 : (hasWill != hasWill2) = true := by rw [bne_iff_ne]; exact hd
  have d3 : hasWill2 = !hasWill := by cases hasWill <;> cases hasWill2 <;> simp_all
  subst d3
  cases hasWill
  all_goals clear d1 d2
  all_goals try clear hd
  · go_enter Try.func31, Try.ntmps31
    go_upto_region 1 with fail
    generalize hW : w.alloc _ = W
    obtain ⟨g, hg, hB, bW, hsz⟩ := boxedP (p := ⟨ty, dup, id, topic, payload, qos, retain, client, clean, alive, false, hasUser, hasPass, user, pass, present, codes, subs⟩) hW
    generalize hV : W.alloc _ = V
    obtain ⟨g2, hg2, hB2, bV, -⟩ := boxedP (p := ⟨ty, dup, id, topic, payload, qos, retain, client, clean, alive, true, hasUser2, hasPass2, user2, pass2, present2, codes2, subs2⟩) hV
    have hw1 : w.heap.size + 1 = g2 := by omega
    rw [hw1, hg]
    have hB1 := hB.keep (by rw [hg2]; exact bV)
    have bw : Below w.heap.size w V := below_on (by rw [hg]; exact bW) (by rw [hg2]; exact bV)
    obtain ⟨c0, c1, c2, c3, c4, c5, c6, c7, c8, c9, c10, c11, c12, c13, c14, c15, c16, c17⟩ := hB1.p18
    obtain ⟨k0, k1, k2, k3, k4, k5, k6, k7, k8, k9, k10, k11, k12, k13, k14, k15, k16, k17⟩ := hB2.p18
    simp only at c0 c1 c2 c3 c4 c5 c6 c7 c8 c9 c10 c11 c12 c13 c14 c15 c16 c17 k0 k1 k2 k3 k4 k5 k6 k7 k8 k9 k10 k11 k12 k13 k14 k15 k16 k17
    have BW := hide bw
    clear hW hV hB hB2 hB1 bW bV bw hsz hg2 hg hw1
    go_wp2_with fail
    go_ret
    exact ⟨rfl, BW.out⟩
  · go_enter Try.func31, Try.ntmps31
    go_upto_region 1 with fail
    generalize hW : w.alloc _ = W
    obtain ⟨g, hg, hB, bW, hsz⟩ := boxedP (p := ⟨ty, dup, id, topic, payload, qos, retain, client, clean, alive, true, hasUser, hasPass, user, pass, present, codes, subs⟩) hW
    generalize hV : W.alloc _ = V
    obtain ⟨g2, hg2, hB2, bV, -⟩ := boxedP (p := ⟨ty, dup, id, topic, payload, qos, retain, client, clean, alive, false, hasUser2, hasPass2, user2, pass2, present2, codes2, subs2⟩) hV
    have hw1 : w.heap.size + 1 = g2 := by omega
    rw [hw1, hg]
    have hB1 := hB.keep (by rw [hg2]; exact bV)
    have bw : Below w.heap.size w V := below_on (by rw [hg]; exact bW) (by rw [hg2]; exact bV)
    obtain ⟨c0, c1, c2, c3, c4, c5, c6, c7, c8, c9, c10, c11, c12, c13, c14, c15, c16, c17⟩ := hB1.p18
    obtain ⟨k0, k1, k2, k3, k4, k5, k6, k7, k8, k9, k10, k11, k12, k13, k14, k15, k16, k17⟩ := hB2.p18
    simp only at c0 c1 c2 c3 c4 c5 c6 c7 c8 c9 c10 c11 c12 c13 c14 c15 c16 c17 k0 k1 k2 k3 k4 k5 k6 k7 k8 k9 k10 k11 k12 k13 k14 k15 k16 k17
    have BW := hide bw
    clear hW hV hB hB2 hB1 bW bV bw hsz hg2 hg hw1
    go_wp2_with fail
    go_ret
    exact ⟨rfl, BW.out⟩

set_option maxRecDepth 100000 in
set_option maxHeartbeats 8000000 in
theorem sameN_hasUser (p q : Pk) (C C2 : Option Addr) (nc kc nc2 kc2 : Nat) (S S2 : Option Addr) (ns ks ns2 ks2 : Nat) (w : World) (e0 : p.ty = q.ty) (e1 : p.dup = q.dup) (e2 : p.id = q.id) (e3 : p.topic = q.topic) (e4 : p.payload = q.payload) (e5 : p.qos = q.qos) (e6 : p.retain = q.retain) (e7 : p.client = q.client) (e8 : p.clean = q.clean) (e9 : p.alive = q.alive) (e10 : p.hasWill = q.hasWill) (hd : ¬ p.hasUser = q.hasUser) : Calls Try.prog 31 #[pkA p C nc kc S ns ks, pkA q C2 nc2 kc2 S2 ns2 ks2] w fun e w' => e = .returned (.bool false) ∧ Below w.heap.size w w' := by
  obtain ⟨ty, dup, id, topic, payload, qos, retain, client, clean, alive, hasWill, hasUser, hasPass, user, pass, present, codes, subs⟩ := p
  obtain ⟨ty2, dup2, id2, topic2, payload2, qos2, retain2, client2, clean2, alive2, hasWill2, hasUser2, hasPass2, user2, pass2, present2, codes2, subs2⟩ := q
  simp only at e0 e1 e2 e3 e4 e5 e6 e7 e8 e9 e10 hd
  subst e0 e1 e2 e3 e4 e5 e6 e7 e8 e9 e10
  simp only [pkA]
  have d1 : (hasUser == hasUser2) = false := by simpa using hd
  have d2 : (hasUser != hasUser2) = true := by rw [bne_iff_ne]; exact hd
  have d3 : hasUser2 = !hasUser := by cases hasUser <;> cases hasUser2 <;> simp_all
  subst d3
  cases hasUser
  all_goals clear d1 d2
  all_goals try clear hd
  · go_enter Try.func31, Try.ntmps31
    go_upto_region 1 with fail
    generalize hW : w.alloc _ = W
    obtain ⟨g, hg, hB, bW, hsz⟩ := boxedP (p := ⟨ty, dup, id, topic, payload, qos, retain, client, clean, alive, hasWill, false, hasPass, user, pass, present, codes, subs⟩) hW
    generalize hV : W.alloc _ = V
    obtain ⟨g2, hg2, hB2, bV, -⟩ := boxedP (p := ⟨ty, dup, id, topic, payload, qos, retain, client, clean, alive, hasWill, true, hasPass2, user2, pass2, present2, codes2, subs2⟩) hV
    have hw1 : w.heap.size + 1 = g2 := by omega
    rw [hw1, hg]
    have hB1 := hB.keep (by rw [hg2]; exact bV)
    have bw : Below w.heap.size w V := below_on (by rw [hg]; exact bW) (by rw [hg2]; exact bV)
    obtain ⟨c0, c1, c2, c3, c4, c5, c6, c7, c8, c9, c10, c11, c12, c13, c14, c15, c16, c17⟩ := hB1.p18
    obtain ⟨k0, k1, k2, k3, k4, k5, k6, k7, k8, k9, k10, k11, k12, k13, k14, k15, k16, k17⟩ := hB2.p18
    simp only at c0 c1 c2 c3 c4 c5 c6 c7 c8 c9 c10 c11 c12 c13 c14 c15 c16 c17 k0 k1 k2 k3 k4 k5 k6 k7 k8 k9 k10 k11 k12 k13 k14 k15 k16 k17
    have BW := hide bw
    clear hW hV hB hB2 hB1 bW bV bw hsz hg2 hg hw1
    go_wp2_with fail
    go_ret
    exact ⟨rfl, BW.out⟩
  · go_enter Try.func31, Try.ntmps31
    go_upto_region 1 with fail
    generalize hW : w.alloc _ = W
    obtain ⟨g, hg, hB, bW, hsz⟩ := boxedP (p := ⟨ty, dup, id, topic, payload, qos, retain, client, clean, alive, hasWill, true, hasPass, user, pass, present, codes, subs⟩) hW
    generalize hV : W.alloc _ = V
    obtain ⟨g2, hg2, hB2, bV, -⟩ := boxedP (p := ⟨ty, dup, id, topic, payload, qos, retain, client, clean, alive, hasWill, false, hasPass2, user2, pass2, present2, codes2, subs2⟩) hV
    have hw1 : w.heap.size + 1 = g2 := by omega
    rw [hw1, hg]
    have hB1 := hB.keep (by rw [hg2]; exact bV)
    have bw : Below w.heap.size w V := below_on (by rw [hg]; exact bW) (by rw [hg2]; exact bV)
    obtain ⟨c0, c1, c2, c3, c4, c5, c6, c7, c8, c9, c10, c11, c12, c13, c14, c15, c16, c17⟩ := hB1.p18
    obtain ⟨k0, k1, k2, k3, k4, k5, k6, k7, k8, k9, k10, k11, k12, k13, k14, k15, k16, k17⟩ := hB2.p18
    simp only at c0 c1 c2 c3 c4 c5 c6 c7 c8 c9 c10 c11 c12 c13 c14 c15 c16 c17 k0 k1 k2 k3 k4 k5 k6 k7 k8 k9 k10 k11 k12 k13 k14 k15 k16 k17
    have BW := hide bw
    clear hW hV hB hB2 hB1 bW bV bw hsz hg2 hg hw1
    go_wp2_with fail
    go_ret
    exact ⟨rfl, BW.out⟩

end Go.Proofs.Ytkgidimaiedocaa

namespace Go.Proofs.Ytkgidimaiedocaa
set_option linter.unusedVariables false
set_option linter.unusedSimpArgs false
open Go.RowKit

set_option maxRecDepth 100000 in
set_option maxHeartbeats 8000000 in
theorem sameN_hasPass (p q : Pk) (C C2 : Option Addr) (nc kc nc2 kc2 : Nat) (S S2 : Option Addr) (ns ks ns2 ks2 : Nat) (w : World) (e0 : p.ty = q.ty) (e1 : p.dup = q.dup) (e2 : p.id = q.id) (e3 : p.topic = q.topic) (e4 : p.payload = q.payload) (e5 : p.qos = q.qos) (e6 : p.retain = q.retain) (e7 : p.client = q.client) (e8 : p.clean = q.clean) (e9 : p.alive = q.alive) (e10 : p.hasWill = q.hasWill) (e11 : p.hasUser = q.hasUser) (hd : ¬ p.hasPass = q.hasPass) : Calls Try.prog 31 #[pkA p C nc kc S ns ks, pkA q C2 nc2 kc2 S2 ns2 ks2] w fun e w' => e = .returned (.bool false) ∧ Below w.heap.size w w' := by
  obtain ⟨ty, dup, id, topic, payload, qos, retain, client, clean, alive, hasWill, hasUser, hasPass, user, pass, present, codes, subs⟩ := p
  obtain ⟨ty2, dup2, id2, topic2, payload2, qos2, retain2, client2, clean2, alive2, hasWill2, hasUser2, hasPass2, user2, pass2, present2, codes2, subs2⟩ := q
  simp only at e0 e1 e2 e3 e4 e5 e6 e7 e8 e9 e10 e11 hd
  subst e0 e1 e2 e3 e4 e5 e6 e7 e8 e9 e10 e11
  simp only [pkA]
  have d1 : (hasPass == hasPass2) = false := by simpa using hd
  have d2 : (hasPass != hasPass2) = true := by rw [bne_iff_ne]; exact hd
  have d3 : hasPass2 = !hasPass := by cases hasPass <;> cases hasPass2 <;> simp_all
  subst d3
  cases hasPass
  all_goals clear d1 d2
  all_goals try clear hd
  · go_enter Try.func31, Try.ntmps31
    go_upto_region 1 with fail
    generalize hW : w.alloc _ = W
    obtain ⟨g, hg, hB, bW, hsz⟩ := boxedP (p := ⟨ty, dup, id, topic, payload, qos, retain, client, clean, alive, hasWill, hasUser, false, user, pass, present, codes, subs⟩) hW
    generalize hV : W.alloc _ = V
    obtain ⟨g2, hg2, hB2, bV, -⟩ := boxedP (p := ⟨ty, dup, id, topic, payload, qos, retain, client, clean, alive, hasWill, hasUser, true, user2, pass2, present2, codes2, subs2⟩) hV
    have hw1 : w.heap.size + 1 = g2 := by omega
    rw [hw1, hg]
    have hB1 := hB.keep (by rw [hg2]; exact bV)
    have bw : Below w.heap.size w V := below_on (by rw [hg]; exact bW) (by rw [hg2]; exact bV)
    obtain ⟨c0, c1, c2, c3, c4, c5, c6, c7, c8, c9, c10, c11, c12, c13, c14, c15, c16, c17⟩ := hB1.p18
    obtain ⟨k0, k1, k2, k3, k4, k5, k6, k7, k8, k9, k10, k11, k12, k13, k14, k15, k16, k17⟩ := hB2.p18
    simp only at c0 c1 c2 c3 c4 c5 c6 c7 c8 c9 c10 c11 c12 c13 c14 c15 c16 c17 k0 k1 k2 k3 k4 k5 k6 k7 k8 k9 k10 k11 k12 k13 k14 k15 k16 k17
    have BW := hide bw
    clear hW hV hB hB2 hB1 bW bV bw hsz hg2 hg hw1
    go_wp2_with fail
    go_ret
    exact ⟨rfl, BW.out⟩
  · go_enter Try.func31, Try.ntmps31
    go_upto_region 1 with fail
    generalize hW : w.alloc _ = W
    obtain ⟨g, hg, hB, bW, hsz⟩ := boxedP (p := ⟨ty, dup, id, topic, payload, qos, retain, client, clean, alive, hasWill, hasUser, true, user, pass, present, codes, subs⟩) hW
    generalize hV : W.alloc _ = V
    obtain ⟨g2, hg2, hB2, bV, -⟩ := boxedP (p := ⟨ty, dup, id, topic, payload, qos, retain, client, clean, alive, hasWill, hasUser, false, user2, pass2, present2, codes2, subs2⟩) hV
    have hw1 : w.heap.size + 1 = g2 := by omega
    rw [hw1, hg]
    have hB1 := hB.keep (by rw [hg2]; exact bV)
    have bw : Below w.heap.size w V := below_on (by rw [hg]; exact bW) (by rw [hg2]; exact bV)
    obtain ⟨c0, c1, c2, c3, c4, c5, c6, c7, c8, c9, c10, c11, c12, c13, c14, c15, c16, c17⟩ := hB1.p18
    obtain ⟨k0, k1, k2, k3, k4, k5, k6, k7, k8, k9, k10, k11, k12, k13, k14, k15, k16, k17⟩ := hB2.p18
    simp only at c0 c1 c2 c3 c4 c5 c6 c7 c8 c9 c10 c11 c12 c13 c14 c15 c16 c17 k0 k1 k2 k3 k4 k5 k6 k7 k8 k9 k10 k11 k12 k13 k14 k15 k16 k17
    have BW := hide bw
    clear hW hV hB hB2 hB1 bW bV bw hsz hg2 hg hw1
    go_wp2_with fail
    go_ret
    exact ⟨rfl, BW.out⟩

set_option maxRecDepth 100000 in
set_option maxHeartbeats 8000000 in
theorem sameN_user (p q : Pk) (C C2 : Option Addr) (nc kc nc2 kc2 : Nat) (S S2 : Option Addr) (ns ks ns2 ks2 : Nat) (w : World) (e0 : p.ty = q.ty) (e1 : p.dup = q.dup) (e2 : p.id = q.id) (e3 : p.topic = q.topic) (e4 : p.payload = q.payload) (e5 : p.qos = q.qos) (e6 : p.retain = q.retain) (e7 : p.client = q.client) (e8 : p.clean = q.clean) (e9 : p.alive = q.alive) (e10 : p.hasWill = q.hasWill) (e11 : p.hasUser = q.hasUser) (e12 : p.hasPass = q.hasPass) (hd : ¬ p.user = q.user) : Calls Try.prog 31 #[pkA p C nc kc S ns ks, pkA q C2 nc2 kc2 S2 ns2 ks2] w fun e w' => e = .returned (.bool false) ∧ Below w.heap.size w w' := by
  obtain ⟨ty, dup, id, topic, payload, qos, retain, client, clean, alive, hasWill, hasUser, hasPass, user, pass, present, codes, subs⟩ := p
  obtain ⟨ty2, dup2, id2, topic2, payload2, qos2, retain2, client2, clean2, alive2, hasWill2, hasUser2, hasPass2, user2, pass2, present2, codes2, subs2⟩ := q
  simp only at e0 e1 e2 e3 e4 e5 e6 e7 e8 e9 e10 e11 e12 hd
  subst e0 e1 e2 e3 e4 e5 e6 e7 e8 e9 e10 e11 e12
  simp only [pkA]
  have d1 : (user == user2) = false := by simpa using hd
  have d2 : (user != user2) = true := by rw [bne_iff_ne]; exact hd
  clear hd
  go_enter Try.func31, Try.ntmps31
  go_upto_region 1 with fail
  generalize hW : w.alloc _ = W
  obtain ⟨g, hg, hB, bW, hsz⟩ := boxedP (p := ⟨ty, dup, id, topic, payload, qos, retain, client, clean, alive, hasWill, hasUser, hasPass, user, pass, present, codes, subs⟩) hW
  generalize hV : W.alloc _ = V
  obtain ⟨g2, hg2, hB2, bV, -⟩ := boxedP (p := ⟨ty, dup, id, topic, payload, qos, retain, client, clean, alive, hasWill, hasUser, hasPass, user2, pass2, present2, codes2, subs2⟩) hV
  have hw1 : w.heap.size + 1 = g2 := by omega
  rw [hw1, hg]
  have hB1 := hB.keep (by rw [hg2]; exact bV)
  have bw : Below w.heap.size w V := below_on (by rw [hg]; exact bW) (by rw [hg2]; exact bV)
  obtain ⟨c0, c1, c2, c3, c4, c5, c6, c7, c8, c9, c10, c11, c12, c13, c14, c15, c16, c17⟩ := hB1.p18
  obtain ⟨k0, k1, k2, k3, k4, k5, k6, k7, k8, k9, k10, k11, k12, k13, k14, k15, k16, k17⟩ := hB2.p18
  simp only at c0 c1 c2 c3 c4 c5 c6 c7 c8 c9 c10 c11 c12 c13 c14 c15 c16 c17 k0 k1 k2 k3 k4 k5 k6 k7 k8 k9 k10 k11 k12 k13 k14 k15 k16 k17
  have BW := hide bw
  clear hW hV hB hB2 hB1 bW bV bw hsz hg2 hg hw1
  go_wp2_with fail
  go_ret
  exact ⟨rfl, BW.out⟩

set_option maxRecDepth 100000 in
set_option maxHeartbeats 8000000 in
theorem sameN_pass (p q : Pk) (C C2 : Option Addr) (nc kc nc2 kc2 : Nat) (S S2 : Option Addr) (ns ks ns2 ks2 : Nat) (w : World) (e0 : p.ty = q.ty) (e1 : p.dup = q.dup) (e2 : p.id = q.id) (e3 : p.topic = q.topic) (e4 : p.payload = q.payload) (e5 : p.qos = q.qos) (e6 : p.retain = q.retain) (e7 : p.client = q.client) (e8 : p.clean = q.clean) (e9 : p.alive = q.alive) (e10 : p.hasWill = q.hasWill) (e11 : p.hasUser = q.hasUser) (e12 : p.hasPass = q.hasPass) (e13 : p.user = q.user) (hd : ¬ p.pass = q.pass) : Calls Try.prog 31 #[pkA p C nc kc S ns ks, pkA q C2 nc2 kc2 S2 ns2 ks2] w fun e w' => e = .returned (.bool false) ∧ Below w.heap.size w w' := by
  obtain ⟨ty, dup, id, topic, payload, qos, retain, client, clean, alive, hasWill, hasUser, hasPass, user, pass, present, codes, subs⟩ := p
  obtain ⟨ty2, dup2, id2, topic2, payload2, qos2, retain2, client2, clean2, alive2, hasWill2, hasUser2, hasPass2, user2, pass2, present2, codes2, subs2⟩ := q
  simp only at e0 e1 e2 e3 e4 e5 e6 e7 e8 e9 e10 e11 e12 e13 hd
  subst e0 e1 e2 e3 e4 e5 e6 e7 e8 e9 e10 e11 e12 e13
  simp only [pkA]
  have d1 : (pass == pass2) = false := by simpa using hd
  have d2 : (pass != pass2) = true := by rw [bne_iff_ne]; exact hd
  clear hd
  go_enter Try.func31, Try.ntmps31
  go_upto_region 1 with fail
  generalize hW : w.alloc _ = W
  obtain ⟨g, hg, hB, bW, hsz⟩ := boxedP (p := ⟨ty, dup, id, topic, payload, qos, retain, client, clean, alive, hasWill, hasUser, hasPass, user, pass, present, codes, subs⟩) hW
  generalize hV : W.alloc _ = V
  obtain ⟨g2, hg2, hB2, bV, -⟩ := boxedP (p := ⟨ty, dup, id, topic, payload, qos, retain, client, clean, alive, hasWill, hasUser, hasPass, user, pass2, present2, codes2, subs2⟩) hV
  have hw1 : w.heap.size + 1 = g2 := by omega
  rw [hw1, hg]
  have hB1 := hB.keep (by rw [hg2]; exact bV)
  have bw : Below w.heap.size w V := below_on (by rw [hg]; exact bW) (by rw [hg2]; exact bV)
  obtain ⟨c0, c1, c2, c3, c4, c5, c6, c7, c8, c9, c10, c11, c12, c13, c14, c15, c16, c17⟩ := hB1.p18
  obtain ⟨k0, k1, k2, k3, k4, k5, k6, k7, k8, k9, k10, k11, k12, k13, k14, k15, k16, k17⟩ := hB2.p18
  simp only at c0 c1 c2 c3 c4 c5 c6 c7 c8 c9 c10 c11 c12 c13 c14 c15 c16 c17 k0 k1 k2 k3 k4 k5 k6 k7 k8 k9 k10 k11 k12 k13 k14 k15 k16 k17
  have BW := hide bw
  clear hW hV hB hB2 hB1 bW bV bw hsz hg2 hg hw1
  go_wp2_with fail
  go_ret
  exact ⟨rfl, BW.out⟩

set_option maxRecDepth 100000 in
set_option maxHeartbeats 8000000 in
theorem sameN_present (p q : Pk) (C C2 : Option Addr) (nc kc nc2 kc2 : Nat) (S S2 : Option Addr) (ns ks ns2 ks2 : Nat) (w : World) (e0 : p.ty = q.ty) (e1 : p.dup = q.dup) (e2 : p.id = q.id) (e3 : p.topic = q.topic) (e4 : p.payload = q.payload) (e5 : p.qos = q.qos) (e6 : p.retain = q.retain) (e7 : p.client = q.client) (e8 : p.clean = q.clean) (e9 : p.alive = q.alive) (e10 : p.hasWill = q.hasWill) (e11 : p.hasUser = q.hasUser) (e12 : p.hasPass = q.hasPass) (e13 : p.user = q.user) (e14 : p.pass = q.pass) (hd : ¬ p.present = q.present) : Calls Try.prog 31 #[pkA p C nc kc S ns ks, pkA q C2 nc2 kc2 S2 ns2 ks2] w fun e w' => e = .returned (.bool false) ∧ Below w.heap.size w w' := by
  obtain ⟨ty, dup, id, topic, payload, qos, retain, client, clean, alive, hasWill, hasUser, hasPass, user, pass, present, codes, subs⟩ := p
  obtain ⟨ty2, dup2, id2, topic2, payload2, qos2, retain2, client2, clean2, alive2, hasWill2, hasUser2, hasPass2, user2, pass2, present2, codes2, subs2⟩ := q
  simp only at e0 e1 e2 e3 e4 e5 e6 e7 e8 e9 e10 e11 e12 e13 e14 hd
  subst e0 e1 e2 e3 e4 e5 e6 e7 e8 e9 e10 e11 e12 e13 e14
  simp only [pkA]
  have d1 : (present == present2) = false := by simpa using hd
  have d2 : (present != present2) = true := by rw [bne_iff_ne]; exact hd
  have d3 : present2 = !present := by cases present <;> cases present2 <;> simp_all
  subst d3
  cases present
  all_goals clear d1 d2
  all_goals try clear hd
  · go_enter Try.func31, Try.ntmps31
    go_upto_region 1 with fail
    generalize hW : w.alloc _ = W
    obtain ⟨g, hg, hB, bW, hsz⟩ := boxedP (p := ⟨ty, dup, id, topic, payload, qos, retain, client, clean, alive, hasWill, hasUser, hasPass, user, pass, false, codes, subs⟩) hW
    generalize hV : W.alloc _ = V
    obtain ⟨g2, hg2, hB2, bV, -⟩ := boxedP (p := ⟨ty, dup, id, topic, payload, qos, retain, client, clean, alive, hasWill, hasUser, hasPass, user, pass, true, codes2, subs2⟩) hV
    have hw1 : w.heap.size + 1 = g2 := by omega
    rw [hw1, hg]
    have hB1 := hB.keep (by rw [hg2]; exact bV)
    have bw : Below w.heap.size w V := below_on (by rw [hg]; exact bW) (by rw [hg2]; exact bV)
    obtain ⟨c0, c1, c2, c3, c4, c5, c6, c7, c8, c9, c10, c11, c12, c13, c14, c15, c16, c17⟩ := hB1.p18
    obtain ⟨k0, k1, k2, k3, k4, k5, k6, k7, k8, k9, k10, k11, k12, k13, k14, k15, k16, k17⟩ := hB2.p18
    simp only at c0 c1 c2 c3 c4 c5 c6 c7 c8 c9 c10 c11 c12 c13 c14 c15 c16 c17 k0 k1 k2 k3 k4 k5 k6 k7 k8 k9 k10 k11 k12 k13 k14 k15 k16 k17
    have BW := hide bw
    clear hW hV hB hB2 hB1 bW bV bw hsz hg2 hg hw1
    go_wp2_with fail
    go_ret
    exact ⟨rfl, BW.out⟩
  · go_enter Try.func31, Try.ntmps31
    go_upto_region 1 with fail
    generalize hW : w.alloc _ = W
    obtain ⟨g, hg, hB, bW, hsz⟩ := boxedP (p := ⟨ty, dup, id, topic, payload, qos, retain, client, clean, alive, hasWill, hasUser, hasPass, user, pass, true, codes, subs⟩) hW
    generalize hV : W.alloc _ = V
    obtain ⟨g2, hg2, hB2, bV, -⟩ := boxedP (p := ⟨ty, dup, id, topic, payload, qos, retain, client, clean, alive, hasWill, hasUser, hasPass, user, pass, false, codes2, subs2⟩) hV
    have hw1 : w.heap.size + 1 = g2 := by omega
    rw [hw1, hg]
    have hB1 := hB.keep (by rw [hg2]; exact bV)
    have bw : Below w.heap.size w V := below_on (by rw [hg]; exact bW) (by rw [hg2]; exact bV)
    obtain ⟨c0, c1, c2, c3, c4, c5, c6, c7, c8, c9, c10, c11, c12, c13, c14, c15, c16, c17⟩ := hB1.p18
    obtain ⟨k0, k1, k2, k3, k4, k5, k6, k7, k8, k9, k10, k11, k12, k13, k14, k15, k16, k17⟩ := hB2.p18
    simp only at c0 c1 c2 c3 c4 c5 c6 c7 c8 c9 c10 c11 c12 c13 c14 c15 c16 c17 k0 k1 k2 k3 k4 k5 k6 k7 k8 k9 k10 k11 k12 k13 k14 k15 k16 k17
    have BW := hide bw
    clear hW hV hB hB2 hB1 bW bV bw hsz hg2 hg hw1
    go_wp2_with fail
    go_ret
    exact ⟨rfl, BW.out⟩

end Go.Proofs.Ytkgidimaiedocaa
