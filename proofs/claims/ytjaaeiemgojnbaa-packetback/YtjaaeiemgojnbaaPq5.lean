/-
  What is proved here: the program's 'mayWill', 'mayLogin' of package packet. No condition.
-/
import Derived.Test.YtjaaeiemgojnbaaPq2
import Derived.Test.YtjaaeiemgojnbaaPkLd
import Derived.Test.YtjaaeiemgojnbaaPq1
namespace Go.Proofs.Ytjaaeiemgojnbaa
set_option linter.unusedVariables false
set_option linter.unusedSimpArgs false
open Go.RowKit

def willB (p : Pk) : Bool := if p.hasWill = true then msgB p.topic p.qos && decide (p.payload.length ≤ 65535) else p.topic.isEmpty && p.payload.isEmpty && decide (p.qos = 0) && !p.retain
def loginB (p : Pk) : Bool := !(!p.hasUser && (!p.user.isEmpty || p.hasPass)) && !(!p.hasPass && !p.pass.isEmpty) && (isStr p.user && decide (p.pass.length ≤ 65535))

set_option maxRecDepth 100000 in
set_option maxHeartbeats 4000000 in
theorem mayWill_any (p : Pk) (C : Option Addr) (nc kc : Nat) (S : Option Addr) (ns ks : Nat) (w : World) : Calls Try.prog 73 #[pkA p C nc kc S ns ks] w fun e w' => e = .returned (.bool (willB p)) ∧ Below w.heap.size w w' := by
  have P1 := fun W => hide (isMessage_any p.topic p.payload p.qos p.retain W)
  have P2 := fun W => hide (isText_any p.payload W)
  unfold willB
  obtain ⟨ty, dup, id, topic, payload, qos, retain, client, clean, alive, hasWill, hasUser, hasPass, user, pass, present, codes, subs⟩ := p
  simp only [pkA] at P1 P2 ⊢
  cases hasWill with
  | false =>
    rw [if_neg (by simp)]
    clear P1 P2
    cases topic with
    | cons hx ht =>
      have q : ((hx :: ht) == []) = false := rfl
      have q2 : (hx :: ht).isEmpty = false := rfl
      rw [q2]
      clear q2
      generalize hx :: ht = xs at *
      go_enter Try.func73, Try.ntmps73
      go_wp2_with fail
      go_ret
      exact ⟨by first | rfl | simp, (Below.refl _ _).alloc (Nat.le_refl _) _⟩
    | nil =>
    cases payload with
    | cons hx ht =>
      have q : ((hx :: ht) == []) = false := rfl
      have q2 : (hx :: ht).isEmpty = false := rfl
      rw [q2]
      clear q2
      generalize hx :: ht = xs at *
      go_enter Try.func73, Try.ntmps73
      go_wp2_with fail
      go_ret
      exact ⟨by first | rfl | simp, (Below.refl _ _).alloc (Nat.le_refl _) _⟩
    | nil =>
    by_cases hq : qos = 0
    case neg =>
      rw [decide_eq_false hq]
      have q : (qos == 0) = false := by simpa using hq
      go_enter Try.func73, Try.ntmps73
      go_wp2_with fail
      go_ret
      exact ⟨by first | rfl | simp, (Below.refl _ _).alloc (Nat.le_refl _) _⟩
    case pos =>
    subst hq
    cases retain with
    | true =>
      go_enter Try.func73, Try.ntmps73
      go_wp2_with fail
      go_ret
      exact ⟨by first | rfl | simp, (Below.refl _ _).alloc (Nat.le_refl _) _⟩
    | false =>
      go_enter Try.func73, Try.ntmps73
      go_wp2_with fail
      go_ret
      exact ⟨by first | rfl | simp, (Below.refl _ _).alloc (Nat.le_refl _) _⟩
  | true =>
    rw [if_pos rfl]
    generalize msgB topic qos = y at *
    generalize decide (payload.length ≤ 65535) = z at *
    go_enter Try.func73, Try.ntmps73
    go_wp2_with fail
    generalize hW : w.alloc _ = W
    obtain ⟨g, hg, hB, bW, -⟩ := boxedP (p := ⟨ty, dup, id, topic, payload, qos, retain, client, clean, alive, true, hasUser, hasPass, user, pass, present, codes, subs⟩) hW
    rw [hg]
    have Hg := hide hg
    have HB := hide hB
    have BW := hide bW
    clear hW hg hB bW
    refine (P1 _).out.mono ?_
    rintro e w1 ⟨rfl, b1⟩
    have c4 := (Blk.p18 (HB.out.keep b1)).2.2.2.2.1
    have BW := hide (BW.out.trans (b1.mono (Nat.le_of_lt HB.out.lt)))
    clear b1
    cases y with
    | false =>
      go_wp2_with fail
      go_ret
      exact ⟨rfl, by rw [Hg.out]; exact BW.out⟩
    | true =>
      go_wp2_with fail
      refine (P2 _).out.mono ?_
      rintro e w2 ⟨rfl, rfl⟩
      go_wp2_with fail
      go_ret
      exact ⟨rfl, by rw [Hg.out]; exact BW.out⟩

set_option maxRecDepth 100000 in
set_option maxHeartbeats 4000000 in
theorem mayLogin_any (p : Pk) (C : Option Addr) (nc kc : Nat) (S : Option Addr) (ns ks : Nat) (w : World) : Calls Try.prog 74 #[pkA p C nc kc S ns ks] w fun e w' => e = .returned (.bool (loginB p)) ∧ Below w.heap.size w w' := by
  have P1 := fun W => hide (utIs_l p.user W)
  have P2 := fun W => hide (isText_any p.pass W)
  unfold loginB
  obtain ⟨ty, dup, id, topic, payload, qos, retain, client, clean, alive, hasWill, hasUser, hasPass, user, pass, present, codes, subs⟩ := p
  simp only [pkA] at P1 P2 ⊢
  generalize isStr user = y at *
  generalize decide (pass.length ≤ 65535) = z at *
  obtain ⟨eu, heu⟩ : ∃ eu, user.isEmpty = eu := ⟨_, rfl⟩
  obtain ⟨ep, hep⟩ : ∃ ep, pass.isEmpty = ep := ⟨_, rfl⟩
  have qu : (user == []) = eu := by rw [← heu]; cases user <;> rfl
  have qp : (pass == []) = ep := by rw [← hep]; cases pass <;> rfl
  rw [heu, hep]
  clear heu hep
  cases hasUser with
  | false =>
    cases eu with
    | false =>
      go_enter Try.func74, Try.ntmps74
      go_wp2_with fail
      go_ret
      exact ⟨by first | rfl | simp, (Below.refl _ _).alloc (Nat.le_refl _) _⟩
    | true =>
      cases hasPass with
      | true =>
        go_enter Try.func74, Try.ntmps74
        go_wp2_with fail
        go_ret
        exact ⟨by first | rfl | simp, (Below.refl _ _).alloc (Nat.le_refl _) _⟩
      | false =>
        cases ep with
        | false =>
          go_enter Try.func74, Try.ntmps74
          go_wp2_with fail
          go_ret
          exact ⟨by first | rfl | simp, (Below.refl _ _).alloc (Nat.le_refl _) _⟩
        | true =>
          go_enter Try.func74, Try.ntmps74
          go_wp2_with fail
          generalize hW : w.alloc _ = W
          obtain ⟨g, hg, hB, bW, -⟩ := boxedP (p := ⟨ty, dup, id, topic, payload, qos, retain, client, clean, alive, hasWill, false, false, user, pass, present, codes, subs⟩) hW
          rw [hg]
          have Hg := hide hg
          have HB := hide hB
          have BW := hide bW
          clear hW hg hB bW
          refine (P1 _).out.mono ?_
          rintro e w1 ⟨rfl, b1⟩
          have c14 := (Blk.p18 (HB.out.keep b1)).2.2.2.2.2.2.2.2.2.2.2.2.2.2.1
          have BW := hide (BW.out.trans (b1.mono (Nat.le_of_lt HB.out.lt)))
          clear b1
          cases y with
          | false =>
            go_wp2_with fail
            go_ret
            exact ⟨by first | rfl | simp, by rw [Hg.out]; exact BW.out⟩
          | true =>
            go_wp2_with fail
            refine (P2 _).out.mono ?_
            rintro e w2 ⟨rfl, rfl⟩
            go_wp2_with fail
            go_ret
            exact ⟨by first | rfl | simp, by rw [Hg.out]; exact BW.out⟩
  | true =>
    cases hasPass with
    | true =>
      go_enter Try.func74, Try.ntmps74
      go_wp2_with fail
      generalize hW : w.alloc _ = W
      obtain ⟨g, hg, hB, bW, -⟩ := boxedP (p := ⟨ty, dup, id, topic, payload, qos, retain, client, clean, alive, hasWill, true, true, user, pass, present, codes, subs⟩) hW
      rw [hg]
      have Hg := hide hg
      have HB := hide hB
      have BW := hide bW
      clear hW hg hB bW
      refine (P1 _).out.mono ?_
      rintro e w1 ⟨rfl, b1⟩
      have c14 := (Blk.p18 (HB.out.keep b1)).2.2.2.2.2.2.2.2.2.2.2.2.2.2.1
      have BW := hide (BW.out.trans (b1.mono (Nat.le_of_lt HB.out.lt)))
      clear b1
      cases y with
      | false =>
        go_wp2_with fail
        go_ret
        exact ⟨by first | rfl | simp, by rw [Hg.out]; exact BW.out⟩
      | true =>
        go_wp2_with fail
        refine (P2 _).out.mono ?_
        rintro e w2 ⟨rfl, rfl⟩
        go_wp2_with fail
        go_ret
        exact ⟨by first | rfl | simp, by rw [Hg.out]; exact BW.out⟩
    | false =>
      cases ep with
      | false =>
        go_enter Try.func74, Try.ntmps74
        go_wp2_with fail
        go_ret
        exact ⟨by first | rfl | simp, (Below.refl _ _).alloc (Nat.le_refl _) _⟩
      | true =>
        go_enter Try.func74, Try.ntmps74
        go_wp2_with fail
        generalize hW : w.alloc _ = W
        obtain ⟨g, hg, hB, bW, -⟩ := boxedP (p := ⟨ty, dup, id, topic, payload, qos, retain, client, clean, alive, hasWill, true, false, user, pass, present, codes, subs⟩) hW
        rw [hg]
        have Hg := hide hg
        have HB := hide hB
        have BW := hide bW
        clear hW hg hB bW
        refine (P1 _).out.mono ?_
        rintro e w1 ⟨rfl, b1⟩
        have c14 := (Blk.p18 (HB.out.keep b1)).2.2.2.2.2.2.2.2.2.2.2.2.2.2.1
        have BW := hide (BW.out.trans (b1.mono (Nat.le_of_lt HB.out.lt)))
        clear b1
        cases y with
        | false =>
          go_wp2_with fail
          go_ret
          exact ⟨by first | rfl | simp, by rw [Hg.out]; exact BW.out⟩
        | true =>
          go_wp2_with fail
          refine (P2 _).out.mono ?_
          rintro e w2 ⟨rfl, rfl⟩
          go_wp2_with fail
          go_ret
          exact ⟨by first | rfl | simp, by rw [Hg.out]; exact BW.out⟩

end Go.Proofs.Ytjaaeiemgojnbaa
