/-
  What is proved here: how long the bytes of a small packet are. Plain lists, nothing of the program. No condition. ALSO: what the document's own 'Same' of layer 10 returns where two packets are the same: true. Conditions: at most 2^20 codes and filters.
-/
import Derived.Test.YtkgidimaiedocaaPq13
import Derived.Test.YtkgidimaiedocaaOpenPkt
import Derived.Test.YtkgidimaiedocaaPkLd
import Derived.Test.YtkgidimaiedocaaRefA
import Derived.Test.YtkgidimaiedocaaRoundReg
namespace Go.Proofs.Ytkgidimaiedocaa
set_option linter.unusedVariables false
set_option linter.unusedSimpArgs false
open Go.RowKit

theorem filtS_filN (l : List (List UInt8 × Int)) : filtS l = 2 * l.length + filN l := by
  induction l with
  | nil => rfl
  | cons s l ih =>
    simp only [filtS, filN, List.map_cons, List.sum_cons, List.length_cons] at *
    omega
theorem small_lay {p : Pk} (hs : smallB p = true) (hm : mayP p = true) : (layP p).length ≤ 4000 := by
  have hlen := (mayP_parts hm).2.2.2
  have hfit : fitB p = true := by
    have := hm
    rw [mayP_fit, Bool.and_eq_true] at this
    exact this.1
  rw [lay_len, dg_length _ hlen]
  have h4 := (dgL_le (bodyP p).length).2
  simp only [smallB, Bool.and_eq_true, decide_eq_true_eq] at hs
  obtain ⟨h1, h2⟩ := hs
  rw [List.take_of_length_le (by omega)] at h1
  have ht : sizeT (textsP p) ≤ 10 + p.client.length + p.topic.length + p.payload.length + p.user.length + p.pass.length := by
    unfold textsP
    cases p.hasWill <;> cases p.hasUser <;> cases p.hasPass <;> simp [sizeT] <;> omega
  have hf := filtS_filN p.subs
  have hb : (bodyP p).length ≤ 3900 := by
    rw [remain_fit p hfit]
    unfold remainP
    repeat' split
    all_goals omega
  omega

end Go.Proofs.Ytkgidimaiedocaa

namespace Go.Proofs.Ytkgidimaiedocaa
set_option linter.unusedVariables false
set_option linter.unusedSimpArgs false
open Go.RowKit

set_option maxRecDepth 100000 in
set_option maxHeartbeats 8000000 in
theorem same_eq (p : Pk) (C C2 : Option Addr) (nc kc nc2 kc2 : Nat) (S S2 : Option Addr) (ns ks ns2 ks2 : Nat) (w : World) (h1 : PkM w p C nc kc S ns ks) (h2 : PkM w p C2 nc2 kc2 S2 ns2 ks2) (hc : p.codes.length ≤ 1048576) (hs : p.subs.length ≤ 1048576) : Calls Try.prog 31 #[pkA p C nc kc S ns ks, pkA p C2 nc2 kc2 S2 ns2 ks2] w fun e w' => e = .returned (.bool true) ∧ Below w.heap.size w w' := by
  obtain ⟨e1, a1, r1, e2, a2, r2⟩ := h1
  obtain ⟨e3, a3, r3, e4, a4, r4⟩ := h2
  obtain rfl : nc2 = nc := by omega
  obtain rfl : ns2 = ns := by omega
  rw [e1] at hc
  rw [e2] at hs
  have H := hide (show ∀ W, Below w.heap.size w W → Rd W C nc2 (iv p.codes) ∧ Rd W S (ns2 * 2) (subVs p.subs) ∧ Rd W C2 nc2 (iv p.codes) ∧ Rd W S2 (ns2 * 2) (subVs p.subs) from fun W b => ⟨r1.keep b, r2.keep b, r3.keep b, r4.keep b⟩)
  have E2 := hide e2
  clear e1 e2 e3 e4 r1 r2 r3 r4 a1 a2 a3 a4
  obtain ⟨ty, dup, id, topic, payload, qos, retain, client, clean, alive, hasWill, hasUser, hasPass, user, pass, present, codes, subs⟩ := p
  simp only [pkA] at *
  go_enter Try.func31, Try.ntmps31
  go_upto_region 1 with fail
  generalize hW : w.alloc _ = W
  obtain ⟨g, hg, hB, bW, hsz⟩ := boxedP (p := ⟨ty, dup, id, topic, payload, qos, retain, client, clean, alive, hasWill, hasUser, hasPass, user, pass, present, codes, subs⟩) hW
  generalize hV : W.alloc _ = V
  obtain ⟨g2, hg2, hB2, bV, -⟩ := boxedP (p := ⟨ty, dup, id, topic, payload, qos, retain, client, clean, alive, hasWill, hasUser, hasPass, user, pass, present, codes, subs⟩) hV
  have hw1 : w.heap.size + 1 = g2 := by omega
  rw [hw1, hg]
  have hB1 := hB.keep (by rw [hg2]; exact bV)
  have bw : Below w.heap.size w V := below_on (by rw [hg]; exact bW) (by rw [hg2]; exact bV)
  obtain ⟨c0, c1, c2, c3, c4, c5, c6, c7, c8, c9, c10, c11, c12, c13, c14, c15, c16, c17⟩ := hB1.p18
  obtain ⟨d0, d1, d2, d3, d4, d5, d6, d7, d8, d9, d10, d11, d12, d13, d14, d15, d16, d17⟩ := hB2.p18
  simp only at c0 c1 c2 c3 c4 c5 c6 c7 c8 c9 c10 c11 c12 c13 c14 c15 c16 c17 d0 d1 d2 d3 d4 d5 d6 d7 d8 d9 d10 d11 d12 d13 d14 d15 d16 d17
  have BW := hide bw
  have HB1 := hide hB1
  have HB2 := hide hB2
  obtain ⟨q1, -, q3, -⟩ := H.out V bw
  have HI := hide (ints_any C C2 nc2 nc2 kc kc2 codes codes V q1 q3 (by omega) (by omega))
  clear hW hV hB hB2 hB1 bW bV bw hsz hg2 hg hw1 q1 q3
  go_wp2_with (go_at_call 61; refine HI.out.mono ?_; rintro e w1 ⟨rfl, q, rfl⟩; rw [decide_eq_true rfl])
  have Bq := hide (below_drewN (Below.refl V.heap.size V) q)
  clear c0 c1 c2 c3 c4 c5 c6 c7 c8 c9 c10 c11 c12 c13 c14 c15 c16 c17 d0 d1 d2 d3 d4 d5 d6 d7 d8 d9 d10 d11 d12 d13 d14 d15 d16 d17 HI
  go_loopw [5] (fun i wr => ∃ k : Nat, i = .int .i64 (k : Int) ∧ k ≤ ns2 ∧ Below V.heap.size V wr) (fun i _ => ns2 - (intOf i).toNat)
  case atStart => exact ⟨0, rfl, by omega, Bq.out⟩
  case round =>
    obtain ⟨k, rfl, hkn, hbr⟩ := hrel
    have hbw := below_on BW.out hbr
    obtain ⟨-, q2, -, q4⟩ := H.out wr hbw
    obtain ⟨-, -, -, -, -, -, -, -, -, -, -, -, -, -, -, -, -, c17⟩ := (HB1.out.keep hbr).p18
    obtain ⟨-, -, -, -, -, -, -, -, -, -, -, -, -, -, -, -, -, d17⟩ := (HB2.out.keep hbr).p18
    by_cases hlt : k < ns2
    · have q1 : (k : Int) < (ns2 : Int) := by omega
      have hlt' : k < subs.length := by have := E2.out; omega
      obtain ⟨b, o, rfl, -, hc1⟩ := q2.at_ (k := k * 2) (by omega)
      obtain ⟨b2, o2, rfl, -, hc2⟩ := q4.at_ (k := k * 2) (by omega)
      obtain ⟨g0, g1⟩ := subVs_get subs k hlt'
      have cA := hc1 _ _ g0
      have cB := hc1 _ _ g1
      have dA := hc2 _ _ g0
      have dB := hc2 _ _ g1
      rw [← Nat.add_assoc] at cB dB
      generalize subs[k] = f at *
      obtain ⟨f1, f2⟩ := f
      simp only at cA cB dA dB
      have Br := hide hbr
      clear hc1 hc2 g0 g1 q2 q4 hbr hbw
      go_wp2_with fail
      go_quiet (fail)
      go_wp2_with fail
      exact ⟨⟨k + 1, by go_num, by omega, by first | exact below_drewN Br.out _ | exact Br.out⟩, by simp [intOf]; omega⟩
    · obtain rfl : k = ns2 := by omega
      have q1 : ¬ (k : Int) < (k : Int) := by omega
      clear q2 q4 d17
      go_wp2_with fail
      go_ret
      exact ⟨rfl, hbw⟩

end Go.Proofs.Ytkgidimaiedocaa
