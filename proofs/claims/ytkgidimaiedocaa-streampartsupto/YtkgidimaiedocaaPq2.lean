/-
  What is proved here: what it is for a packet to have nothing but its type, as plain data. No condition. ALSO: the program's 'bare' of package packet: whether a packet has nothing but its type. No condition.
-/
import Derived.Test.YtkgidimaiedocaaPq1
namespace Go.Proofs.Ytkgidimaiedocaa
set_option linter.unusedVariables false
set_option linter.unusedSimpArgs false
open Go.RowKit

/-- Has it nothing but its type? -/
def bareB (p : Pk) : Bool := !p.dup && decide (p.id = 0) && (p.topic.isEmpty && p.payload.isEmpty && decide (p.qos = 0) && !p.retain) && p.client.isEmpty && !p.clean && decide (p.alive = 0) && !p.hasWill && !p.hasUser && !p.hasPass && p.user.isEmpty && p.pass.isEmpty && !p.present && p.codes.isEmpty && p.subs.isEmpty
theorem bareB_iff (p : Pk) : bareB p = true ↔ p = zeroP p.ty := by
  obtain ⟨ty, dup, id, topic, payload, qos, retain, client, clean, alive, hasWill, hasUser, hasPass, user, pass, present, codes, subs⟩ := p
  simp [bareB, zeroP]
  constructor <;> (intro h; simp_all)

end Go.Proofs.Ytkgidimaiedocaa

namespace Go.Proofs.Ytkgidimaiedocaa
set_option linter.unusedVariables false
set_option linter.unusedSimpArgs false
open Go.RowKit

set_option maxRecDepth 100000 in
set_option maxHeartbeats 8000000 in
theorem bare_any (p : Pk) (C : Option Addr) (nc kc : Nat) (S : Option Addr) (ns ks : Nat) (w : World) (hc : p.codes.length = nc) (hs : p.subs.length = ns) : Calls Try.prog 79 #[pkA p C nc kc S ns ks] w fun e w' => e = .returned (.bool (bareB p)) ∧ Below w.heap.size w w' := by
  unfold bareB
  obtain ⟨ty, dup, id, topic, payload, qos, retain, client, clean, alive, hasWill, hasUser, hasPass, user, pass, present, codes, subs⟩ := p
  simp only [pkA] at hc hs ⊢
  have ec : codes.isEmpty = decide (nc = 0) := by cases codes <;> simp at hc <;> subst hc <;> simp
  have es : subs.isEmpty = decide (ns = 0) := by cases subs <;> simp at hs <;> subst hs <;> simp
  rw [ec, es]
  clear ec es hc hs
  cases dup with
  | true =>
    go_enter Try.func79, Try.ntmps79
    go_wp2_with fail
    go_ret
    exact ⟨by first | rfl | simp, (Below.refl _ _).alloc (Nat.le_refl _) _⟩
  | false =>
  by_cases hid : id = 0
  case neg =>
    rw [decide_eq_false hid]
    have q : (id == 0) = false := by simpa using hid
    go_enter Try.func79, Try.ntmps79
    go_wp2_with fail
    go_ret
    exact ⟨by first | rfl | simp, (Below.refl _ _).alloc (Nat.le_refl _) _⟩
  case pos =>
  subst hid
  cases topic with
  | cons hx ht =>
    have q : ((hx :: ht) == []) = false := rfl
    have q2 : (hx :: ht).isEmpty = false := rfl
    rw [q2]
    clear q2
    generalize hx :: ht = xs at *
    go_enter Try.func79, Try.ntmps79
    go_wp2_with fail
    go_ret
    exact ⟨by first | rfl | simp, (Below.refl _ _).alloc (Nat.le_refl _) _⟩
  | nil =>
  cases payload with
  | cons hx ht =>
    have q : ((hx :: ht) == []) = false := rfl
    have q2 : (hx :: ht).isEmpty = false := rfl
    rw [q2]
    clear q2
    generalize hx :: ht = xs at *
    go_enter Try.func79, Try.ntmps79
    go_wp2_with fail
    go_ret
    exact ⟨by first | rfl | simp, (Below.refl _ _).alloc (Nat.le_refl _) _⟩
  | nil =>
  by_cases hqos : qos = 0
  case neg =>
    rw [decide_eq_false hqos]
    have q : (qos == 0) = false := by simpa using hqos
    go_enter Try.func79, Try.ntmps79
    go_wp2_with fail
    go_ret
    exact ⟨by first | rfl | simp, (Below.refl _ _).alloc (Nat.le_refl _) _⟩
  case pos =>
  subst hqos
  cases retain with
  | true =>
    go_enter Try.func79, Try.ntmps79
    go_wp2_with fail
    go_ret
    exact ⟨by first | rfl | simp, (Below.refl _ _).alloc (Nat.le_refl _) _⟩
  | false =>
  cases client with
  | cons hx ht =>
    have q : ((hx :: ht) == []) = false := rfl
    have q2 : (hx :: ht).isEmpty = false := rfl
    rw [q2]
    clear q2
    generalize hx :: ht = xs at *
    go_enter Try.func79, Try.ntmps79
    go_wp2_with fail
    go_ret
    exact ⟨by first | rfl | simp, (Below.refl _ _).alloc (Nat.le_refl _) _⟩
  | nil =>
  cases clean with
  | true =>
    go_enter Try.func79, Try.ntmps79
    go_wp2_with fail
    go_ret
    exact ⟨by first | rfl | simp, (Below.refl _ _).alloc (Nat.le_refl _) _⟩
  | false =>
  by_cases halive : alive = 0
  case neg =>
    rw [decide_eq_false halive]
    have q : (alive == 0) = false := by simpa using halive
    go_enter Try.func79, Try.ntmps79
    go_wp2_with fail
    go_ret
    exact ⟨by first | rfl | simp, (Below.refl _ _).alloc (Nat.le_refl _) _⟩
  case pos =>
  subst halive
  cases hasWill with
  | true =>
    go_enter Try.func79, Try.ntmps79
    go_wp2_with fail
    go_ret
    exact ⟨by first | rfl | simp, (Below.refl _ _).alloc (Nat.le_refl _) _⟩
  | false =>
  cases hasUser with
  | true =>
    go_enter Try.func79, Try.ntmps79
    go_wp2_with fail
    go_ret
    exact ⟨by first | rfl | simp, (Below.refl _ _).alloc (Nat.le_refl _) _⟩
  | false =>
  cases hasPass with
  | true =>
    go_enter Try.func79, Try.ntmps79
    go_wp2_with fail
    go_ret
    exact ⟨by first | rfl | simp, (Below.refl _ _).alloc (Nat.le_refl _) _⟩
  | false =>
  cases user with
  | cons hx ht =>
    have q : ((hx :: ht) == []) = false := rfl
    have q2 : (hx :: ht).isEmpty = false := rfl
    rw [q2]
    clear q2
    generalize hx :: ht = xs at *
    go_enter Try.func79, Try.ntmps79
    go_wp2_with fail
    go_ret
    exact ⟨by first | rfl | simp, (Below.refl _ _).alloc (Nat.le_refl _) _⟩
  | nil =>
  cases pass with
  | cons hx ht =>
    have q : ((hx :: ht) == []) = false := rfl
    have q2 : (hx :: ht).isEmpty = false := rfl
    rw [q2]
    clear q2
    generalize hx :: ht = xs at *
    go_enter Try.func79, Try.ntmps79
    go_wp2_with fail
    go_ret
    exact ⟨by first | rfl | simp, (Below.refl _ _).alloc (Nat.le_refl _) _⟩
  | nil =>
  cases present with
  | true =>
    go_enter Try.func79, Try.ntmps79
    go_wp2_with fail
    go_ret
    exact ⟨by first | rfl | simp, (Below.refl _ _).alloc (Nat.le_refl _) _⟩
  | false =>
  by_cases hc : nc = 0
  case neg =>
    have q : ((nc : Int) == 0) = false := by simp; omega
    rw [decide_eq_false hc]
    go_enter Try.func79, Try.ntmps79
    go_wp2_with fail
    go_ret
    exact ⟨by first | rfl | simp, (Below.refl _ _).alloc (Nat.le_refl _) _⟩
  case pos =>
  subst hc
  by_cases hs : ns = 0
  case neg =>
    have q : ((ns : Int) == 0) = false := by simp; omega
    rw [decide_eq_false hs]
    go_enter Try.func79, Try.ntmps79
    go_wp2_with fail
    go_ret
    exact ⟨by first | rfl | simp, (Below.refl _ _).alloc (Nat.le_refl _) _⟩
  case pos =>
  subst hs
  go_enter Try.func79, Try.ntmps79
  go_wp2_with fail
  go_ret
  exact ⟨by first | rfl | simp, (Below.refl _ _).alloc (Nat.le_refl _) _⟩

end Go.Proofs.Ytkgidimaiedocaa
