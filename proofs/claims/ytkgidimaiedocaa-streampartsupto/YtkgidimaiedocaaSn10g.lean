/-
  What is proved here: what the document's own 'Same' of layer 10 returns. Conditions: at most 65535 codes and filters.
-/
import Derived.Test.YtkgidimaiedocaaLay10
import Derived.Test.YtkgidimaiedocaaSn10a
import Derived.Test.YtkgidimaiedocaaSn10c
import Derived.Test.YtkgidimaiedocaaSn10e
namespace Go.Proofs.Ytkgidimaiedocaa
set_option linter.unusedVariables false
set_option linter.unusedSimpArgs false
open Go.RowKit

theorem same_any (p q : Pk) (C C2 : Option Addr) (nc kc nc2 kc2 : Nat) (S S2 : Option Addr) (ns ks ns2 ks2 : Nat) (w : World) (h1 : PkM w p C nc kc S ns ks) (h2 : PkM w q C2 nc2 kc2 S2 ns2 ks2) (hc : p.codes.length ≤ 1048576) (hs : p.subs.length ≤ 1048576) (hc2 : q.codes.length ≤ 1048576) (hs2 : q.subs.length ≤ 1048576) : Calls Try.prog 31 #[pkA p C nc kc S ns ks, pkA q C2 nc2 kc2 S2 ns2 ks2] w fun e w' => e = .returned (.bool (decide (p = q))) ∧ Below w.heap.size w w' := by
  by_cases hpq : p = q
  · subst hpq
    rw [decide_eq_true rfl]
    exact same_eq p C C2 nc kc nc2 kc2 S S2 ns ks ns2 ks2 w h1 h2 hc hs
  rw [decide_eq_false hpq]
  by_cases e0 : p.ty = q.ty
  case neg => exact sameN_ty p q C C2 nc kc nc2 kc2 S S2 ns ks ns2 ks2 w  e0
  by_cases e1 : p.dup = q.dup
  case neg => exact sameN_dup p q C C2 nc kc nc2 kc2 S S2 ns ks ns2 ks2 w e0 e1
  by_cases e2 : p.id = q.id
  case neg => exact sameN_id p q C C2 nc kc nc2 kc2 S S2 ns ks ns2 ks2 w e0 e1 e2
  by_cases e3 : p.topic = q.topic
  case neg => exact sameN_topic p q C C2 nc kc nc2 kc2 S S2 ns ks ns2 ks2 w e0 e1 e2 e3
  by_cases e4 : p.payload = q.payload
  case neg => exact sameN_payload p q C C2 nc kc nc2 kc2 S S2 ns ks ns2 ks2 w e0 e1 e2 e3 e4
  by_cases e5 : p.qos = q.qos
  case neg => exact sameN_qos p q C C2 nc kc nc2 kc2 S S2 ns ks ns2 ks2 w e0 e1 e2 e3 e4 e5
  by_cases e6 : p.retain = q.retain
  case neg => exact sameN_retain p q C C2 nc kc nc2 kc2 S S2 ns ks ns2 ks2 w e0 e1 e2 e3 e4 e5 e6
  by_cases e7 : p.client = q.client
  case neg => exact sameN_client p q C C2 nc kc nc2 kc2 S S2 ns ks ns2 ks2 w e0 e1 e2 e3 e4 e5 e6 e7
  by_cases e8 : p.clean = q.clean
  case neg => exact sameN_clean p q C C2 nc kc nc2 kc2 S S2 ns ks ns2 ks2 w e0 e1 e2 e3 e4 e5 e6 e7 e8
  by_cases e9 : p.alive = q.alive
  case neg => exact sameN_alive p q C C2 nc kc nc2 kc2 S S2 ns ks ns2 ks2 w e0 e1 e2 e3 e4 e5 e6 e7 e8 e9
  by_cases e10 : p.hasWill = q.hasWill
  case neg => exact sameN_hasWill p q C C2 nc kc nc2 kc2 S S2 ns ks ns2 ks2 w e0 e1 e2 e3 e4 e5 e6 e7 e8 e9 e10
  by_cases e11 : p.hasUser = q.hasUser
  case neg => exact sameN_hasUser p q C C2 nc kc nc2 kc2 S S2 ns ks ns2 ks2 w e0 e1 e2 e3 e4 e5 e6 e7 e8 e9 e10 e11
  by_cases e12 : p.hasPass = q.hasPass
  case neg => exact sameN_hasPass p q C C2 nc kc nc2 kc2 S S2 ns ks ns2 ks2 w e0 e1 e2 e3 e4 e5 e6 e7 e8 e9 e10 e11 e12
  by_cases e13 : p.user = q.user
  case neg => exact sameN_user p q C C2 nc kc nc2 kc2 S S2 ns ks ns2 ks2 w e0 e1 e2 e3 e4 e5 e6 e7 e8 e9 e10 e11 e12 e13
  by_cases e14 : p.pass = q.pass
  case neg => exact sameN_pass p q C C2 nc kc nc2 kc2 S S2 ns ks ns2 ks2 w e0 e1 e2 e3 e4 e5 e6 e7 e8 e9 e10 e11 e12 e13 e14
  by_cases e15 : p.present = q.present
  case neg => exact sameN_present p q C C2 nc kc nc2 kc2 S S2 ns ks ns2 ks2 w e0 e1 e2 e3 e4 e5 e6 e7 e8 e9 e10 e11 e12 e13 e14 e15
  by_cases ec : p.codes = q.codes
  case neg => exact sameN_codes p q C C2 nc kc nc2 kc2 S S2 ns ks ns2 ks2 w h1 h2 hc hs hc2 hs2 e0 e1 e2 e3 e4 e5 e6 e7 e8 e9 e10 e11 e12 e13 e14 e15 ec
  by_cases el : ns = ns2
  case neg => exact sameN_len p q C C2 nc kc nc2 kc2 S S2 ns ks ns2 ks2 w h1 h2 hc hs hc2 hs2 e0 e1 e2 e3 e4 e5 e6 e7 e8 e9 e10 e11 e12 e13 e14 e15 ec el
  refine sameN_subs p q C C2 nc kc nc2 kc2 S S2 ns ks ns2 ks2 w h1 h2 hc hs hc2 hs2 e0 e1 e2 e3 e4 e5 e6 e7 e8 e9 e10 e11 e12 e13 e14 e15 ec el fun ed => hpq ?_
  obtain ⟨ty, dup, id, topic, payload, qos, retain, client, clean, alive, hasWill, hasUser, hasPass, user, pass, present, codes, subs⟩ := p
  obtain ⟨ty2, dup2, id2, topic2, payload2, qos2, retain2, client2, clean2, alive2, hasWill2, hasUser2, hasPass2, user2, pass2, present2, codes2, subs2⟩ := q
  simp only at e0 e1 e2 e3 e4 e5 e6 e7 e8 e9 e10 e11 e12 e13 e14 e15 ec ed
  simp only [e0, e1, e2, e3, e4, e5, e6, e7, e8, e9, e10, e11, e12, e13, e14, e15, ec, ed]

end Go.Proofs.Ytkgidimaiedocaa
