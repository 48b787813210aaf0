/-
  What is proved here: the program's 'flags' and 'marks' of package packet. Condition: qualities from 0 to 3.
-/
import Derived.Test.YtkgidimaiedocaaPq1
import Derived.Test.YtkgidimaiedocaaPkLd
namespace Go.Proofs.Ytkgidimaiedocaa
set_option linter.unusedVariables false
set_option linter.unusedSimpArgs false
open Go.RowKit

theorem mark_q (b : Bool) (W : Nat) (w : World) (n : Nat) : Calls Try.prog 55 #[.bool b, .int .i64 (W : Int)] (w.drewN n) fun e w' => e = .returned (.int .i64 (flagB b W : Int)) ∧ w' = w.drewN n := (mark_any b W _).mono fun _ _ h => ⟨h.1, h.2.symm⟩

set_option maxRecDepth 100000 in
set_option maxHeartbeats 2000000 in
theorem marks_any (p : Pk) (C : Option Addr) (nc kc : Nat) (S : Option Addr) (ns ks : Nat) (w : World) (hq0 : 0 ≤ p.qos) (hq1 : p.qos ≤ 3) : Calls Try.prog 83 #[pkA p C nc kc S ns ks] w fun e w' => e = .returned (.int .i64 (conFlags p : Int)) ∧ Below w.heap.size w w' := by
  have HF : ∀ b n, flagB b n ≤ n := fun b n => by unfold flagB; split <;> omega
  unfold conFlags
  obtain ⟨ty, dup, id, topic, payload, qos, retain, client, clean, alive, hasWill, hasUser, hasPass, user, pass, present, codes, subs⟩ := p
  simp only [pkA] at hq0 hq1 ⊢
  obtain ⟨q, rfl⟩ : ∃ q : Nat, qos = (q : Int) := ⟨qos.toNat, by omega⟩
  rw [Int.toNat_natCast]
  have P1 := hide (mark_q clean 2)
  have P2 := hide (mark_q hasWill 4)
  have P3 := hide (mark_q retain 32)
  have P4 := hide (mark_q hasPass 64)
  have P5 := hide (mark_q hasUser 128)
  have l1 := HF clean 2
  have l2 := HF hasWill 4
  have l3 := HF retain 32
  have l4 := HF hasPass 64
  have l5 := HF hasUser 128
  clear HF
  generalize flagB clean 2 = F1 at *
  generalize flagB hasWill 4 = F2 at *
  generalize flagB retain 32 = F3 at *
  generalize flagB hasPass 64 = F4 at *
  generalize flagB hasUser 128 = F5 at *
  have w1 : IntKind.i64.wrap (8 * (q : Int)) = 8 * (q : Int) := by rw [IntKind.wrap_i64]; omega
  have w2 : IntKind.i64.wrap ((F1 : Int) + (F2 : Int)) = (F1 : Int) + (F2 : Int) := by rw [IntKind.wrap_i64]; omega
  have w3 : IntKind.i64.wrap ((F1 : Int) + (F2 : Int) + 8 * (q : Int)) = (F1 : Int) + (F2 : Int) + 8 * (q : Int) := by rw [IntKind.wrap_i64]; omega
  have w4 : IntKind.i64.wrap ((F1 : Int) + (F2 : Int) + 8 * (q : Int) + (F3 : Int)) = (F1 : Int) + (F2 : Int) + 8 * (q : Int) + (F3 : Int) := by rw [IntKind.wrap_i64]; omega
  have w5 : IntKind.i64.wrap ((F1 : Int) + (F2 : Int) + 8 * (q : Int) + (F3 : Int) + (F4 : Int)) = (F1 : Int) + (F2 : Int) + 8 * (q : Int) + (F3 : Int) + (F4 : Int) := by rw [IntKind.wrap_i64]; omega
  obtain ⟨N, hN⟩ : ∃ N, F1 + F2 + 8 * q + F3 + F4 + F5 = N := ⟨_, rfl⟩
  rw [hN]
  have w6 : IntKind.i64.wrap ((F1 : Int) + (F2 : Int) + 8 * (q : Int) + (F3 : Int) + (F4 : Int) + (F5 : Int)) = (N : Int) := by rw [IntKind.wrap_i64]; omega
  clear hN
  go_enter Try.func83, Try.ntmps83
  go_wp2_with fail
  generalize hW : w.alloc _ = W
  obtain ⟨g, hg, hB, bW, -⟩ := boxedP (p := ⟨ty, dup, id, topic, payload, (q : Int), retain, client, clean, alive, hasWill, hasUser, hasPass, user, pass, present, codes, subs⟩) hW
  rw [hg]
  have Hg := hide hg
  obtain ⟨-, -, -, -, -, c5, c6, -, c8, -, c10, c11, c12, -, -, -, -, -⟩ := hB.p18
  have BW := hide bW
  clear hW hg hB bW
  go_quiet ((first
    | (go_at_call 55; exact Calls.quiet_of_same (P1.out _ _))
    | (go_at_call 55; exact Calls.quiet_of_same (P2.out _ _))
    | (go_at_call 55; exact Calls.quiet_of_same (P3.out _ _))
    | (go_at_call 55; exact Calls.quiet_of_same (P4.out _ _))
    | (go_at_call 55; exact Calls.quiet_of_same (P5.out _ _))))
  go_wp2_with fail
  go_ret
  exact ⟨rfl, by rw [Hg.out]; exact below_drewN BW.out _⟩

set_option maxRecDepth 100000 in
set_option maxHeartbeats 2000000 in
theorem flags_p (p : Pk) (C : Option Addr) (nc kc : Nat) (S : Option Addr) (ns ks : Nat) (w : World) (hq0 : p.ty = 3 → 0 ≤ p.qos) (hq1 : p.ty = 3 → p.qos ≤ 3) : Calls Try.prog 29 #[pkA p C nc kc S ns ks] w fun e w' => e = .returned (.int .i64 (flagsP p : Int)) ∧ Below w.heap.size w w' := by
  obtain ⟨ty, dup, id, topic, payload, qos, retain, client, clean, alive, hasWill, hasUser, hasPass, user, pass, present, codes, subs⟩ := p
  simp only [pkA] at hq0 hq1 ⊢
  unfold flagsP
  simp only
  by_cases h3 : ty = 3
  · rw [if_pos h3]
    subst h3
    have hq0 := hq0 rfl
    have hq1 := hq1 rfl
    obtain ⟨q, rfl⟩ : ∃ q : Nat, qos = (q : Int) := ⟨qos.toNat, by omega⟩
    rw [Int.toNat_natCast]
    have HF : ∀ b n, flagB b n ≤ n := fun b n => by unfold flagB; split <;> omega
    have P1 := hide (mark_q dup 8)
    have P2 := hide (mark_q retain 1)
    have l1 := HF dup 8
    have l2 := HF retain 1
    clear HF
    generalize flagB dup 8 = F1 at *
    generalize flagB retain 1 = F2 at *
    have w1 : IntKind.i64.wrap (2 * (q : Int)) = 2 * (q : Int) := by rw [IntKind.wrap_i64]; omega
    have w2 : IntKind.i64.wrap ((F1 : Int) + 2 * (q : Int)) = (F1 : Int) + 2 * (q : Int) := by rw [IntKind.wrap_i64]; omega
    obtain ⟨N, hN⟩ : ∃ N, F1 + 2 * q + F2 = N := ⟨_, rfl⟩
    rw [hN]
    have w3 : IntKind.i64.wrap ((F1 : Int) + 2 * (q : Int) + (F2 : Int)) = (N : Int) := by rw [IntKind.wrap_i64]; omega
    clear hN
    go_enter Try.func29, Try.ntmps29
    go_wp2_with fail
    generalize hW : w.alloc _ = W
    obtain ⟨g, hg, hB, bW, -⟩ := boxedP (p := ⟨3, dup, id, topic, payload, (q : Int), retain, client, clean, alive, hasWill, hasUser, hasPass, user, pass, present, codes, subs⟩) hW
    rw [hg]
    have Hg := hide hg
    obtain ⟨-, c1, -, -, -, c5, c6, -, -, -, -, -, -, -, -, -, -, -⟩ := hB.p18
    have BW := hide bW
    clear hW hg hB bW
    go_quiet ((first
      | (go_at_call 55; exact Calls.quiet_of_same (P1.out _ _))
      | (go_at_call 55; exact Calls.quiet_of_same (P2.out _ _))))
    go_wp2_with fail
    go_ret
    exact ⟨rfl, by rw [Hg.out]; exact below_drewN BW.out _⟩
  · rw [if_neg h3]
    have q3 : (ty == 3) = false := by simpa using h3
    by_cases h6 : ty = 6
    · rw [if_pos (.inl h6)]
      subst h6
      go_enter Try.func29, Try.ntmps29
      go_wp2_with fail
      go_ret
      exact ⟨rfl, (Below.refl _ _).alloc (Nat.le_refl _) _⟩
    · have q6 : (ty == 6) = false := by simpa using h6
      by_cases h8 : ty = 8
      · rw [if_pos (.inr (.inl h8))]
        subst h8
        go_enter Try.func29, Try.ntmps29
        go_wp2_with fail
        go_ret
        exact ⟨rfl, (Below.refl _ _).alloc (Nat.le_refl _) _⟩
      · have q8 : (ty == 8) = false := by simpa using h8
        by_cases h10 : ty = 10
        · rw [if_pos (.inr (.inr h10))]
          subst h10
          go_enter Try.func29, Try.ntmps29
          go_wp2_with fail
          go_ret
          exact ⟨rfl, (Below.refl _ _).alloc (Nat.le_refl _) _⟩
        · have q10 : (ty == 10) = false := by simpa using h10
          rw [if_neg (by omega)]
          clear h3 h6 h8 h10 hq0 hq1
          go_enter Try.func29, Try.ntmps29
          go_wp2_with fail
          go_ret
          exact ⟨rfl, (Below.refl _ _).alloc (Nat.le_refl _) _⟩

end Go.Proofs.Ytkgidimaiedocaa
