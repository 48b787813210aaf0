/-
  What is proved here: what the document's own 'Same' of layer 10 returns where two packets differ in their codes, in how many filters they have. Conditions: at most 65535 codes and filters. ALSO: what the document's own 'Same' of layer 10 returns where two packets differ in a filter. Conditions: at most 65535 codes and filters.
-/
import Derived.Test.YtkgidimaiedocaaPkLd
import Derived.Test.YtkgidimaiedocaaRefA
import Derived.Test.YtkgidimaiedocaaRoundReg
namespace Go.Proofs.Ytkgidimaiedocaa
set_option linter.unusedVariables false
set_option linter.unusedSimpArgs false
open Go.RowKit

set_option maxRecDepth 100000 in
set_option maxHeartbeats 8000000 in
theorem sameN_codes (p q : Pk) (C C2 : Option Addr) (nc kc nc2 kc2 : Nat) (S S2 : Option Addr) (ns ks ns2 ks2 : Nat) (w : World) (h1 : PkM w p C nc kc S ns ks) (h2 : PkM w q C2 nc2 kc2 S2 ns2 ks2) (hc : p.codes.length ≤ 1048576) (hs : p.subs.length ≤ 1048576) (hc2 : q.codes.length ≤ 1048576) (hs2 : q.subs.length ≤ 1048576) (e0 : p.ty = q.ty) (e1 : p.dup = q.dup) (e2 : p.id = q.id) (e3 : p.topic = q.topic) (e4 : p.payload = q.payload) (e5 : p.qos = q.qos) (e6 : p.retain = q.retain) (e7 : p.client = q.client) (e8 : p.clean = q.clean) (e9 : p.alive = q.alive) (e10 : p.hasWill = q.hasWill) (e11 : p.hasUser = q.hasUser) (e12 : p.hasPass = q.hasPass) (e13 : p.user = q.user) (e14 : p.pass = q.pass) (e15 : p.present = q.present) (hd : ¬ p.codes = q.codes) : Calls Try.prog 31 #[pkA p C nc kc S ns ks, pkA q C2 nc2 kc2 S2 ns2 ks2] w fun e w' => e = .returned (.bool false) ∧ Below w.heap.size w w' := by
  obtain ⟨l1, a1, r1, l2, a2, r2⟩ := h1
  obtain ⟨l3, a3, r3, l4, a4, r4⟩ := h2
  have H := hide (show ∀ W, Below w.heap.size w W → Rd W C nc (iv p.codes) ∧ Rd W S (ns * 2) (subVs p.subs) ∧ Rd W C2 nc2 (iv q.codes) ∧ Rd W S2 (ns2 * 2) (subVs q.subs) from fun W b => ⟨r1.keep b, r2.keep b, r3.keep b, r4.keep b⟩)
  clear r1 r2 r3 r4 a1 a2 a3 a4
  obtain ⟨ty, dup, id, topic, payload, qos, retain, client, clean, alive, hasWill, hasUser, hasPass, user, pass, present, codes, subs⟩ := p
  obtain ⟨ty2, dup2, id2, topic2, payload2, qos2, retain2, client2, clean2, alive2, hasWill2, hasUser2, hasPass2, user2, pass2, present2, codes2, subs2⟩ := q
  simp only at * 
  subst e0 e1 e2 e3 e4 e5 e6 e7 e8 e9 e10 e11 e12 e13 e14 e15
  simp only [pkA] at *
  have Hd := hide hd
  clear hd l2 l4
  go_enter Try.func31, Try.ntmps31
  go_upto_region 1 with fail
  generalize hW : w.alloc _ = W
  obtain ⟨g, hg, hB, bW, hsz⟩ := boxedP (p := ⟨ty, dup, id, topic, payload, qos, retain, client, clean, alive, hasWill, hasUser, hasPass, user, pass, present, codes, subs⟩) hW
  generalize hV : W.alloc _ = V
  obtain ⟨g2, hg2, hB2, bV, -⟩ := boxedP (p := ⟨ty, dup, id, topic, payload, qos, retain, client, clean, alive, hasWill, hasUser, hasPass, user, pass, present, codes2, subs2⟩) hV
  have hw1 : w.heap.size + 1 = g2 := by omega
  rw [hw1, hg]
  have hB1 := hB.keep (by rw [hg2]; exact bV)
  have bw : Below w.heap.size w V := below_on (by rw [hg]; exact bW) (by rw [hg2]; exact bV)
  obtain ⟨c0, c1, c2, c3, c4, c5, c6, c7, c8, c9, c10, c11, c12, c13, c14, c15, c16, c17⟩ := hB1.p18
  obtain ⟨d0, d1, d2, d3, d4, d5, d6, d7, d8, d9, d10, d11, d12, d13, d14, d15, d16, d17⟩ := hB2.p18
  simp only at c0 c1 c2 c3 c4 c5 c6 c7 c8 c9 c10 c11 c12 c13 c14 c15 c16 c17 d0 d1 d2 d3 d4 d5 d6 d7 d8 d9 d10 d11 d12 d13 d14 d15 d16 d17
  have BW := hide bw
  obtain ⟨q1, -, q3, -⟩ := H.out V bw
  have HI := hide (ints_any C C2 nc nc2 kc kc2 codes codes2 V q1 q3 (by omega) (by omega))
  clear hW hV hB hB2 hB1 bW bV bw hsz hg2 hg hw1 q1 q3
  go_wp2_with (go_at_call 61; refine HI.out.mono ?_; rintro e w1 ⟨rfl, q, rfl⟩; rw [decide_eq_false Hd.out])
  go_ret
  exact ⟨rfl, below_drewN BW.out q⟩

set_option maxRecDepth 100000 in
set_option maxHeartbeats 8000000 in
theorem sameN_len (p q : Pk) (C C2 : Option Addr) (nc kc nc2 kc2 : Nat) (S S2 : Option Addr) (ns ks ns2 ks2 : Nat) (w : World) (h1 : PkM w p C nc kc S ns ks) (h2 : PkM w q C2 nc2 kc2 S2 ns2 ks2) (hc : p.codes.length ≤ 1048576) (hs : p.subs.length ≤ 1048576) (hc2 : q.codes.length ≤ 1048576) (hs2 : q.subs.length ≤ 1048576) (e0 : p.ty = q.ty) (e1 : p.dup = q.dup) (e2 : p.id = q.id) (e3 : p.topic = q.topic) (e4 : p.payload = q.payload) (e5 : p.qos = q.qos) (e6 : p.retain = q.retain) (e7 : p.client = q.client) (e8 : p.clean = q.clean) (e9 : p.alive = q.alive) (e10 : p.hasWill = q.hasWill) (e11 : p.hasUser = q.hasUser) (e12 : p.hasPass = q.hasPass) (e13 : p.user = q.user) (e14 : p.pass = q.pass) (e15 : p.present = q.present) (ec : p.codes = q.codes) (hd : ¬ ns = ns2) : Calls Try.prog 31 #[pkA p C nc kc S ns ks, pkA q C2 nc2 kc2 S2 ns2 ks2] w fun e w' => e = .returned (.bool false) ∧ Below w.heap.size w w' := by
  obtain ⟨l1, a1, r1, l2, a2, r2⟩ := h1
  obtain ⟨l3, a3, r3, l4, a4, r4⟩ := h2
  have H := hide (show ∀ W, Below w.heap.size w W → Rd W C nc (iv p.codes) ∧ Rd W S (ns * 2) (subVs p.subs) ∧ Rd W C2 nc2 (iv q.codes) ∧ Rd W S2 (ns2 * 2) (subVs q.subs) from fun W b => ⟨r1.keep b, r2.keep b, r3.keep b, r4.keep b⟩)
  clear r1 r2 r3 r4 a1 a2 a3 a4
  obtain ⟨ty, dup, id, topic, payload, qos, retain, client, clean, alive, hasWill, hasUser, hasPass, user, pass, present, codes, subs⟩ := p
  obtain ⟨ty2, dup2, id2, topic2, payload2, qos2, retain2, client2, clean2, alive2, hasWill2, hasUser2, hasPass2, user2, pass2, present2, codes2, subs2⟩ := q
  simp only at * 
  subst e0 e1 e2 e3 e4 e5 e6 e7 e8 e9 e10 e11 e12 e13 e14 e15
  simp only [pkA] at *
  subst ec
  have z1 : ((ns : Int) == (ns2 : Int)) = false := by rw [beq_eq_false_iff_ne]; omega
  have z2 : ((ns : Int) != (ns2 : Int)) = true := by rw [bne_iff_ne]; omega
  clear hd l2 l4
  go_enter Try.func31, Try.ntmps31
  go_upto_region 1 with fail
  generalize hW : w.alloc _ = W
  obtain ⟨g, hg, hB, bW, hsz⟩ := boxedP (p := ⟨ty, dup, id, topic, payload, qos, retain, client, clean, alive, hasWill, hasUser, hasPass, user, pass, present, codes, subs⟩) hW
  generalize hV : W.alloc _ = V
  obtain ⟨g2, hg2, hB2, bV, -⟩ := boxedP (p := ⟨ty, dup, id, topic, payload, qos, retain, client, clean, alive, hasWill, hasUser, hasPass, user, pass, present, codes, subs2⟩) hV
  have hw1 : w.heap.size + 1 = g2 := by omega
  rw [hw1, hg]
  have hB1 := hB.keep (by rw [hg2]; exact bV)
  have bw : Below w.heap.size w V := below_on (by rw [hg]; exact bW) (by rw [hg2]; exact bV)
  obtain ⟨c0, c1, c2, c3, c4, c5, c6, c7, c8, c9, c10, c11, c12, c13, c14, c15, c16, c17⟩ := hB1.p18
  obtain ⟨d0, d1, d2, d3, d4, d5, d6, d7, d8, d9, d10, d11, d12, d13, d14, d15, d16, d17⟩ := hB2.p18
  simp only at c0 c1 c2 c3 c4 c5 c6 c7 c8 c9 c10 c11 c12 c13 c14 c15 c16 c17 d0 d1 d2 d3 d4 d5 d6 d7 d8 d9 d10 d11 d12 d13 d14 d15 d16 d17
  have BW := hide bw
  obtain ⟨q1, -, q3, -⟩ := H.out V bw
  have HI := hide (ints_any C C2 nc nc2 kc kc2 codes codes V q1 q3 (by omega) (by omega))
  clear hW hV hB hB2 hB1 bW bV bw hsz hg2 hg hw1 q1 q3
  go_wp2_with (go_at_call 61; refine HI.out.mono ?_; rintro e w1 ⟨rfl, q, rfl⟩; rw [decide_eq_true rfl])
  go_ret
  exact ⟨rfl, below_drewN BW.out q⟩

end Go.Proofs.Ytkgidimaiedocaa

namespace Go.Proofs.Ytkgidimaiedocaa
set_option linter.unusedVariables false
set_option linter.unusedSimpArgs false
open Go.RowKit

set_option maxRecDepth 100000 in
set_option maxHeartbeats 8000000 in
theorem sameN_subs (p q : Pk) (C C2 : Option Addr) (nc kc nc2 kc2 : Nat) (S S2 : Option Addr) (ns ks ns2 ks2 : Nat) (w : World) (h1 : PkM w p C nc kc S ns ks) (h2 : PkM w q C2 nc2 kc2 S2 ns2 ks2) (hc : p.codes.length ≤ 1048576) (hs : p.subs.length ≤ 1048576) (hc2 : q.codes.length ≤ 1048576) (hs2 : q.subs.length ≤ 1048576) (e0 : p.ty = q.ty) (e1 : p.dup = q.dup) (e2 : p.id = q.id) (e3 : p.topic = q.topic) (e4 : p.payload = q.payload) (e5 : p.qos = q.qos) (e6 : p.retain = q.retain) (e7 : p.client = q.client) (e8 : p.clean = q.clean) (e9 : p.alive = q.alive) (e10 : p.hasWill = q.hasWill) (e11 : p.hasUser = q.hasUser) (e12 : p.hasPass = q.hasPass) (e13 : p.user = q.user) (e14 : p.pass = q.pass) (e15 : p.present = q.present) (ec : p.codes = q.codes) (hn : ns = ns2) (hd : ¬ p.subs = q.subs) : Calls Try.prog 31 #[pkA p C nc kc S ns ks, pkA q C2 nc2 kc2 S2 ns2 ks2] w fun e w' => e = .returned (.bool false) ∧ Below w.heap.size w w' := by
  obtain ⟨l1, a1, r1, l2, a2, r2⟩ := h1
  obtain ⟨l3, a3, r3, l4, a4, r4⟩ := h2
  have H := hide (show ∀ W, Below w.heap.size w W → Rd W C nc (iv p.codes) ∧ Rd W S (ns * 2) (subVs p.subs) ∧ Rd W C2 nc2 (iv q.codes) ∧ Rd W S2 (ns2 * 2) (subVs q.subs) from fun W b => ⟨r1.keep b, r2.keep b, r3.keep b, r4.keep b⟩)
  clear r1 r2 r3 r4 a1 a2 a3 a4
  obtain ⟨ty, dup, id, topic, payload, qos, retain, client, clean, alive, hasWill, hasUser, hasPass, user, pass, present, codes, subs⟩ := p
  obtain ⟨ty2, dup2, id2, topic2, payload2, qos2, retain2, client2, clean2, alive2, hasWill2, hasUser2, hasPass2, user2, pass2, present2, codes2, subs2⟩ := q
  simp only at * 
  subst e0 e1 e2 e3 e4 e5 e6 e7 e8 e9 e10 e11 e12 e13 e14 e15
  simp only [pkA] at *
  subst ec
  subst hn
  have Hd := hide hd
  have L2 := hide l2
  have L4 := hide l4
  clear hd l2 l4
  go_enter Try.func31, Try.ntmps31
  go_upto_region 1 with fail
  generalize hW : w.alloc _ = W
  obtain ⟨g, hg, hB, bW, hsz⟩ := boxedP (p := ⟨ty, dup, id, topic, payload, qos, retain, client, clean, alive, hasWill, hasUser, hasPass, user, pass, present, codes, subs⟩) hW
  generalize hV : W.alloc _ = V
  obtain ⟨g2, hg2, hB2, bV, -⟩ := boxedP (p := ⟨ty, dup, id, topic, payload, qos, retain, client, clean, alive, hasWill, hasUser, hasPass, user, pass, present, codes, subs2⟩) hV
  have hw1 : w.heap.size + 1 = g2 := by omega
  rw [hw1, hg]
  have hB1 := hB.keep (by rw [hg2]; exact bV)
  have bw : Below w.heap.size w V := below_on (by rw [hg]; exact bW) (by rw [hg2]; exact bV)
  obtain ⟨c0, c1, c2, c3, c4, c5, c6, c7, c8, c9, c10, c11, c12, c13, c14, c15, c16, c17⟩ := hB1.p18
  obtain ⟨d0, d1, d2, d3, d4, d5, d6, d7, d8, d9, d10, d11, d12, d13, d14, d15, d16, d17⟩ := hB2.p18
  simp only at c0 c1 c2 c3 c4 c5 c6 c7 c8 c9 c10 c11 c12 c13 c14 c15 c16 c17 d0 d1 d2 d3 d4 d5 d6 d7 d8 d9 d10 d11 d12 d13 d14 d15 d16 d17
  have BW := hide bw
  obtain ⟨q1, -, q3, -⟩ := H.out V bw
  have HI := hide (ints_any C C2 nc nc2 kc kc2 codes codes V q1 q3 (by omega) (by omega))
  have HB1 := hide hB1
  have HB2 := hide hB2
  clear hW hV hB hB2 hB1 bW bV bw hsz hg2 hg hw1 q1 q3
  go_wp2_with (go_at_call 61; refine HI.out.mono ?_; rintro e w1 ⟨rfl, q, rfl⟩; rw [decide_eq_true rfl])
  have Bq := hide (below_drewN (Below.refl V.heap.size V) q)
  clear c0 c1 c2 c3 c4 c5 c6 c7 c8 c9 c10 c11 c12 c13 c14 c15 c16 c17 d0 d1 d2 d3 d4 d5 d6 d7 d8 d9 d10 d11 d12 d13 d14 d15 d16 d17 HI
  go_loopw [5] (fun i wr => ∃ k : Nat, i = .int .i64 (k : Int) ∧ k ≤ ns ∧ subs.take k = subs2.take k ∧ Below V.heap.size V wr) (fun i _ => ns - (intOf i).toNat)
  case atStart => exact ⟨0, rfl, by omega, rfl, Bq.out⟩
  case round =>
    obtain ⟨k, rfl, hkn, htk, hbr⟩ := hrel
    have hbw := below_on BW.out hbr
    obtain ⟨-, q2, -, q4⟩ := H.out wr hbw
    obtain ⟨-, -, -, -, -, -, -, -, -, -, -, -, -, -, -, -, -, c17⟩ := (HB1.out.keep hbr).p18
    obtain ⟨-, -, -, -, -, -, -, -, -, -, -, -, -, -, -, -, -, d17⟩ := (HB2.out.keep hbr).p18
    by_cases hlt : k < ns
    · have q1 : (k : Int) < (ns : Int) := by omega
      have hlt1 : k < subs.length := by have := L2.out; omega
      have hlt2 : k < subs2.length := by have := L4.out; omega
      obtain ⟨b, o, rfl, -, hc1⟩ := q2.at_ (k := k * 2) (by omega)
      obtain ⟨b2, o2, rfl, -, hc2⟩ := q4.at_ (k := k * 2) (by omega)
      obtain ⟨g0, g1⟩ := subVs_get subs k hlt1
      obtain ⟨j0, j1⟩ := subVs_get subs2 k hlt2
      have cA := hc1 _ _ g0
      have cB := hc1 _ _ g1
      have dA := hc2 _ _ j0
      have dB := hc2 _ _ j1
      rw [← Nat.add_assoc] at cB dB
      have t1 : subs.take (k + 1) = subs.take k ++ [subs[k]] := (List.take_append_getElem hlt1).symm
      have t2 : subs2.take (k + 1) = subs2.take k ++ [subs2[k]] := (List.take_append_getElem hlt2).symm
      have Htk := hide (show subs[k] = subs2[k] → subs.take (k + 1) = subs2.take (k + 1) from fun e => by rw [t1, t2, e, htk])
      generalize subs[k] = f at *
      generalize subs2[k] = h at *
      obtain ⟨f1, f2⟩ := f
      obtain ⟨h1, h2⟩ := h
      simp only at cA cB dA dB
      have Br := hide hbr
      have Bw := hide hbw
      clear hc1 hc2 g0 g1 j0 j1 q2 q4 hbr hbw t1 t2 htk
      by_cases e1 : f1 = h1
      · subst e1
        by_cases e2 : f2 = h2
        · subst e2
          go_wp2_with fail
          go_quiet (fail)
          go_wp2_with fail
          exact ⟨⟨k + 1, by go_num, by omega, Htk.out (by simp), by first | exact below_drewN Br.out _ | exact Br.out⟩, by simp [intOf]; omega⟩
        · have d1 : (f2 == h2) = false := by rw [beq_eq_false_iff_ne]; exact e2
          have d2 : (f2 != h2) = true := by rw [bne_iff_ne]; exact e2
          clear e2
          go_wp2_with fail
          go_quiet (fail)
          go_wp2_with fail
          go_ret
          exact ⟨rfl, by first | exact below_drewN Bw.out _ | exact Bw.out⟩
      · have d1 : (f1 == h1) = false := by rw [beq_eq_false_iff_ne]; exact e1
        have d2 : (f1 != h1) = true := by rw [bne_iff_ne]; exact e1
        clear e1
        go_wp2_with fail
        go_quiet (fail)
        go_wp2_with fail
        go_ret
        exact ⟨rfl, by first | exact below_drewN Bw.out _ | exact Bw.out⟩
    · obtain rfl : k = ns := by omega
      rw [List.take_of_length_le (by have := L2.out; omega), List.take_of_length_le (by have := L4.out; omega)] at htk
      exact absurd htk Hd.out

end Go.Proofs.Ytkgidimaiedocaa
