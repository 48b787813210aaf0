/-
  What is proved here: what the document's own Has, Set and write of layer 4 do. Conditions: a slave that lies in memory, its rows words; what is written lies elsewhere, and fits.
-/
import Derived.Test.YtohiblldhdglgaaAll4
namespace Go.Proofs.Ytohiblldhdglgaa
set_option linter.unusedVariables false
set_option linter.unusedSimpArgs false
open Go.RowKit

theorem rHas_any (lo hi g : Nat) (b : Nat → Nat) (R : Nat → List Int) (kind addr : Int) (w : World) (h : SlA 50 lo hi w g b R) :
    Calls Try.prog 18 #[.pointer (some ⟨g, 0, none⟩), .int .i64 kind, .int .i64 addr] w fun e w' => e = .returned (.bool (hasB R kind addr 1)) ∧ w = w' := by
  rcases kind_or kind with ⟨k, hk, rfl⟩ | hn
  · have c0 := h.cellk k hk
    unfold hasB
    rw [rowL_kind R k hk]
    have hL : 0 ≤ ((R k).length : Int) := by omega
    generalize (R k).length = L at *
    have k0 : 0 ≤ (k : Int) := by omega
    have k4 : (k : Int) < 4 := by omega
    have q1 : decide (1 ≤ (k : Int) + 1) = true := by simp; omega
    have q2 : decide ((k : Int) + 1 ≤ 4) = true := by simp; omega
    cases h1 : decide (0 ≤ addr)
    · go_enter Try.func18, Try.ntmps18
      go_wp2
      go_ret
      exact ⟨rfl, rfl⟩
    · rw [Bool.true_and, show decide (addr ≤ (L : Int) - 1) = decide (addr < (L : Int)) by rw [decide_eq_decide]; omega]
      cases h2 : decide (addr < (L : Int))
      all_goals
        go_enter Try.func18, Try.ntmps18
        go_wp2
        go_ret
        exact ⟨rfl, rfl⟩
  · have e : hasB R kind addr 1 = false := by
      unfold hasB
      rw [rowL_no R kind hn]
      simp
      omega
    rw [e]
    cases h1 : decide (1 ≤ kind)
    · go_enter Try.func18, Try.ntmps18
      go_wp2
      go_ret
      exact ⟨rfl, rfl⟩
    · have h2 : decide (kind ≤ 4) = false := by simp at h1; simp; omega
      go_enter Try.func18, Try.ntmps18
      go_wp2
      go_ret
      exact ⟨rfl, rfl⟩

theorem rSet_no (lo hi g : Nat) (b : Nat → Nat) (R : Nat → List Int) (kind addr value : Int) (w : World) (h : SlA 50 lo hi w g b R) (hB : setB R kind addr value = false) :
    Calls Try.prog 16 #[.pointer (some ⟨g, 0, none⟩), .int .i64 kind, .int .i64 addr, .int .i64 value] w fun e w' => e = .returned (.int .i64 1) ∧ w = w' := by
  have HH := hide (fun W (h : SlA 50 lo hi W g b R) => rHas_any lo hi g b R kind addr W h)
  have H1 := hide h
  clear h
  unfold setB at hB
  cases h1 : hasB R kind addr 1
  · rw [h1] at HH
    clear hB h1
    go_enter Try.func16, Try.ntmps16
    go_wp2_with fail
    refine (HH.out _ H1.out).mono ?_
    rintro e w1 ⟨rfl, rfl⟩
    go_wp2
    go_ret
    exact ⟨rfl, rfl⟩
  rw [h1, Bool.true_and] at hB
  rw [h1] at HH
  obtain ⟨k, hk, ek, _, _⟩ := hasB_kind h1 (by omega)
  clear h1
  cases t1 : decide (value < 0)
  case true =>
    clear hB ek
    go_enter Try.func16, Try.ntmps16
    go_wp2_with fail
    refine (HH.out _ H1.out).mono ?_
    rintro e w1 ⟨rfl, rfl⟩
    go_wp2
    go_ret
    exact ⟨rfl, rfl⟩
  cases t2 : decide (65535 < value)
  case true =>
    clear hB ek
    go_enter Try.func16, Try.ntmps16
    go_wp2_with fail
    refine (HH.out _ H1.out).mono ?_
    rintro e w1 ⟨rfl, rfl⟩
    go_wp2
    go_ret
    exact ⟨rfl, rfl⟩
  have t3 : decide (kind < 3) = true := by
    simp at t1 t2 hB
    have := hB t1
    split at this
    · simp; omega
    · omega
  have t4 : decide (1 < value) = true := by
    simp at t1 t2 hB
    have := hB t1
    split at this
    · simp; omega
    · omega
  clear hB ek
  go_enter Try.func16, Try.ntmps16
  go_wp2_with fail
  refine (HH.out _ H1.out).mono ?_
  rintro e w1 ⟨rfl, rfl⟩
  go_wp2
  go_ret
  exact ⟨rfl, rfl⟩

theorem rSet_yes (lo hi g : Nat) (b : Nat → Nat) (R : Nat → List Int) (kind addr value : Int) (w : World) (h : SlA 50 lo hi w g b R) (hB : setB R kind addr value = true) :
    Calls Try.prog 16 #[.pointer (some ⟨g, 0, none⟩), .int .i64 kind, .int .i64 addr, .int .i64 value] w fun e w' => e = .returned (.int .i64 0) ∧ SlA 50 lo hi w' g b (setR R kind addr value) ∧ Oth lo hi w w' := by
  have HH := hide (fun W (h : SlA 50 lo hi W g b R) => rHas_any lo hi g b R kind addr W h)
  have S1 := hide h
  clear h
  unfold setB at hB
  simp only [Bool.and_eq_true, decide_eq_true_eq] at hB
  obtain ⟨h1, h2, h3⟩ := hB
  obtain ⟨k, hk, rfl, a0, a1⟩ := hasB_kind h1 (by omega)
  rw [h1] at HH
  have t1 : decide (value < 0) = false := by simp; omega
  have t2 : decide (65535 < value) = false := by split at h3 <;> simp <;> omega
  have t3 : (decide ((k : Int) + 1 < 3) && decide (1 < value)) = false := by
    split at h3
    · simp; omega
    · simp; omega
  clear h1 h3
  obtain ⟨at_, rfl⟩ : ∃ n : Nat, addr = (n : Int) := ⟨addr.toNat, by omega⟩
  have hlt : at_ < (R k).length := by omega
  have HLT := hide hlt
  have c0 := S1.out.cellk k hk
  have c1 : w.cell? ⟨b k, at_, none⟩ = some (.int .i64 ((R k)[at_])) := by rw [(S1.out.row k hk).cell]; exact iv_get _ _ _
  have cf := (S1.out.row k hk).frozen at_
  have k0 : 0 ≤ (k : Int) := by omega
  have k4 : (k : Int) < 4 := by omega
  generalize (R k)[at_] = y at c1
  have o1 : Oth (b k) (b k + 1) w (w.setCell ⟨b k, at_, none⟩ (.int .i64 value)) := Oth.setCell w _
  have k9 := (S1.out.row k hk).set at_ (.int .i64 value)
  rw [iv_over1 _ _ _ HLT.out] at k9
  have HE : Hid (SlA 50 lo hi (w.setCell ⟨b k, at_, none⟩ (.int .i64 value)) g b (setR R ((k : Int) + 1) (at_ : Int) value) ∧ Oth lo hi w (w.setCell ⟨b k, at_, none⟩ (.int .i64 value))) := by
    rw [setR_upd]
    exact hide ⟨S1.out.set k hk _ (over_length _ _ _ HLT.out) o1 k9, S1.out.wide k hk o1⟩
  clear o1 k9
  cases t4 : decide ((k : Int) + 1 < 3)
  · clear t3
    go_enter Try.func16, Try.ntmps16
    go_wp2_with fail
    refine (HH.out _ S1.out).mono ?_
    rintro e w1 ⟨rfl, rfl⟩
    go_wp2
    go_ret
    exact ⟨rfl, HE.out⟩
  · rw [t4, Bool.true_and] at t3
    go_enter Try.func16, Try.ntmps16
    go_wp2_with fail
    refine (HH.out _ S1.out).mono ?_
    rintro e w1 ⟨rfl, rfl⟩
    go_wp2
    go_ret
    exact ⟨rfl, HE.out⟩

end Go.Proofs.Ytohiblldhdglgaa
