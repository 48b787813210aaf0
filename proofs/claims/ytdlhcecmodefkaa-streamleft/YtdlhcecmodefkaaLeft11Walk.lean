/-
  What is proved here: the law StreamLeft returns true for every number and all bytes, and writes nothing that was there. No condition.
-/
import Derived.Test.YtdlhcecmodefkaaAwake11
import Derived.Test.YtdlhcecmodefkaaFlat11
namespace Go.Proofs.Ytdlhcecmodefkaa
set_option linter.unusedVariables false
set_option linter.unusedSimpArgs false
open Go.RowKit

set_option maxHeartbeats 4000000 in
set_option maxRecDepth 100000 in
theorem left11_walk (most_ : Int) (A : Option Addr) (n k : Nat) (xs : List UInt8) (w : World) (hA : Rd w A n (bv xs)) (hk : n ≤ k) :
    Calls Try.prog 9 #[.int .i64 most_, .slice A n k] w fun e w' => e = .returned (.bool true) ∧ Below w.heap.size w w' := by
  have HA := hide hA
  have HX : Hid (xs.length = n) := by show _ = _; rw [← bv_length]; exact hA.1
  clear hA
  by_cases h1 : 3000 < n
  · have q : (3000 : Int) < (n : Int) := by omega
    go_enter Try.func9, Try.ntmps9
    go_wp2
    go_ret
    exact ⟨rfl, Below.refl _ _⟩
  have q1 : ¬ (3000 : Int) < (n : Int) := by omega
  by_cases hm : most_ < 2 ∨ 268435460 < most_
  · have PN := fun W => new11_no most_ W hm
    clear hm
    go_enter Try.func9, Try.ntmps9
    go_wp2_with fail
    refine (PN w).mono ?_
    rintro e w1 ⟨rfl, rfl⟩
    clear PN
    go_wp2_with fail
    refine (awake11_any _).mono ?_
    rintro e w1 ⟨rfl, b1⟩
    go_wp2_with fail
    go_ret
    exact ⟨rfl, b1⟩
  obtain ⟨most, rfl⟩ := Int.eq_ofNat_of_zero_le (show 0 ≤ most_ by omega)
  have hmo : most ≤ 268435460 := by omega
  have PN := fun W => new11_any most W (by omega)
  clear hm
  go_enter Try.func9, Try.ntmps9
  go_wp2_with fail
  refine (PN w).mono ?_
  rintro e w1 ⟨g, rfl, hg, s1, b1⟩
  have S1 := hide s1
  have B1 := hide b1
  clear s1 b1 PN
  go_wp2_with fail
  refine (feed11_any g most hmo none 0 [] none A n k xs w1 S1.out (HA.out.keep B1.out) (by simp; omega)).mono ?_
  rintro e w2 ⟨O, ok, rs, A2, k2, rfl, t2, r2, -, -, s2, -, -, -, b2⟩
  have b3 : Below w.heap.size w w2 := But.below B1.out b2 (fun i e => by rcases e with e | ⟨o, e⟩; omega; cases e) B1.out.size
  have B2 := hide b3
  have R2 := hide r2
  have S2 := hide s2
  have RA := hide (HA.out.keep b3)
  clear s2 b2 b3 r2 HA B1 S1
  have e1 : fdE11 most [] none xs = erP most xs := rfl
  have e2 : fdL11 most [] none xs = lfP most xs := rfl
  have e3 : fdT11 most [] none xs = toP most xs := rfl
  rw [e1]
  rw [e2] at S2
  rw [e3] at t2
  clear e1 e2 e3
  have hall := toP_all most xs
  have hok := toP_ok most xs
  have hsh := toP_short most xs (by have := HX.out; omega)
  rw [← t2] at hall hok hsh
  have HAll := hide hall
  have HOk := hide hok
  have HSh := hide hsh
  have hrl : rs.length ≤ 3000 := by
    have := lfP_len most xs
    have h2 := congrArg List.length t2
    have h3 := HX.out
    simp at h2
    omega
  have hend : (brP most xs = false ∧ erP most xs = 0 ∧ (lysL (rs.map PkRow.p)).length + (lfP most xs).length = n) ∨ (brP most xs = true ∧ (erP most xs = 100 ∨ erP most xs = 101) ∧ lfP most xs = [] ∧ (lysL (rs.map PkRow.p)).length < n) := by
    have hl := congrArg List.length hall
    rw [List.length_append, HX.out] at hl
    cases hb : brP most xs with
    | false =>
      refine Or.inl ⟨rfl, by unfold erP; rw [hb]; rfl, ?_⟩
      unfold lfP
      rw [hb]
      exact hl.symm
    | true =>
      have hr := cutAll_badleft (stCuts most) _ xs (Nat.le_refl _) hb
      refine Or.inr ⟨rfl, by unfold erP; rw [hb]; exact stC_or _ _, by unfold lfP; rw [hb]; rfl, ?_⟩
      have hne : (cutAll (stNx most) xs).2.1.length ≠ 0 := fun h0 => by
        rw [List.eq_nil_of_length_eq_zero h0, (stCuts most).nil] at hr
        cases hr
      omega
  have HEnd := hide hend
  clear hall hok hsh hend t2
  generalize erP most xs = E at *
  generalize lfP most xs = L at *
  generalize brP most xs = bb at *
  generalize fdF11 most [] none xs = F at *
  generalize (cutAll (stNx most) xs).2.1 = RR at *
  go_wp2_with fail
  go_loopw [9, 10] (fun nv iv_ wr => ∃ i : Nat, i ≤ rs.length ∧ iv_ = .int .i64 (i : Int) ∧ nv = .int .i64 ((lysL ((rs.map PkRow.p).take i)).length : Nat) ∧ Below w2.heap.size w2 wr) (fun _ iv_ _ => rs.length - (intOf iv_).toNat)
  case atStart => exact ⟨0, by omega, rfl, rfl, Below.refl _ _⟩
  case round =>
    obtain ⟨i, hi, rfl, rfl, hbel⟩ := hrel
    have Hb := hide hbel
    by_cases hlt : i < rs.length
    · obtain ⟨b, o, rfl, hbl, hc⟩ := (R2.out.keep hbel).at_ i hlt
      have hm := List.getElem_mem hlt
      have hre : (rs.map PkRow.p)[i]? = some rs[i].p := by rw [List.getElem?_map, List.getElem?_eq_getElem hlt]; rfl
      have hok := HOk.out rs[i].p (List.mem_map_of_mem hm)
      have hsh := HSh.out rs[i].p (List.mem_map_of_mem hm)
      have hrange := hc i hlt
      have hM := (R2.out.2 _ hm).keep hbel
      obtain ⟨f1, f2, f3⟩ := left_step11 xs _ RR HAll.out i rs[i].p hre
      generalize rs[i] = r at *
      have PB := bytes_any r.p r.C r.nc r.kc r.S r.ns r.ks wr hM hsh
      unfold ByPost at PB
      simp only [if_pos hok.1] at PB
      obtain ⟨N7, hN7⟩ : ∃ N7, (layP r.p).length = N7 := ⟨_, rfl⟩
      obtain ⟨AL, hAL⟩ : ∃ AL, layP r.p = AL := ⟨_, rfl⟩
      obtain ⟨P, hP⟩ : ∃ P, (lysL ((rs.map PkRow.p).take i)).length = P := ⟨_, rfl⟩
      rw [hN7, hAL] at PB
      rw [hP] at f1 f2 f3 ⊢
      rw [hN7] at f1 f2 f3
      rw [hAL] at f1
      have hmst := hok.2
      rw [hN7] at hmst
      have hx := HX.out
      have F3 := hide f3
      have rB := ((RA.out.keep hbel).cut P N7 k (by omega) hk)
      rw [bv_cut, f1] at rB
      have RB := hide rB
      have hsl : ∀ W, (Instr.slice 31 (.slice A n k) (some (.int .i64 (P : Int))) (some (.int .i64 ((P : Int) + (N7 : Int)))) none).run Try.prog W = .ok (.slice (cutA A P k) N7 (k - P)) W := by
        intro W
        have := run_sl (P := Try.prog) 31 5 Try.underlying31 u8_size A n k (P : Int) ((P : Int) + (N7 : Int)) P (P + N7) rfl (by omega) (by omega) (by omega) W
        rwa [Nat.add_sub_cancel_left] at this
      have q2 : (i : Int) < (rs.length : Int) := by omega
      have q3 : ¬ (n : Int) < (P : Int) + (N7 : Int) := by omega
      have q3d : decide ((n : Int) < (P : Int) + (N7 : Int)) = false := decide_eq_false q3
      have q4 : IntKind.i64.wrap ((P : Int) + (N7 : Int)) = (P : Int) + (N7 : Int) := by rw [IntKind.wrap_i64]; omega
      have q5 : ¬ (most : Int) < (N7 : Int) := by omega
      have q5d : decide (most < N7) = false := decide_eq_false (by omega)
      have q3n : decide (n < P + N7) = false := decide_eq_false (by omega)
      have hlr := hlt
      have HRg := hide hrange
      clear hbel hre hok hsh hrange hM hm hc hN7 hAL f1 f2 f3 rB hP hx hmst hlt
      go_wp2_with (refine wpList_loadR rfl 27 (.tmp 47) rfl b (o + i * 18) r rfl HRg.out Try.underlying27 rfl (by kernel_rfl) ?_)
      refine PB.mono ?_
      rintro e w3 ⟨F', fk, rfl, o3, b3⟩
      have dF := strOn (own_rd o3)
      have dB := strOn (RB.out.keep b3)
      have B3 := hide b3
      clear o3 b3 PB HRg RB
      go_upto_region 12 with fail
      refine wp_region_held_drew (S := fun w' => Below w3.heap.size w3 w') (by kernel_rfl) ?_ (fun hHeld => ?_)
      · exact (Below.refl _ _).drew
      refine wpAnyH_take (i := 0) (oi := { dst := some 52, op := _, type := _, pos := _, after := _, guard := _ }) (v := ?v1x1) rfl (by kernel_rfl) (by kernel_rfl) (by kernel_rfl) (fun _ _ _ h => h) (Or.inl ⟨by rfl, ?hy1x1⟩) hHeld ?rest1x1
      case hy1x1 => (intro w hSw; go_simp <;> with_reducible rfl)
      try simp only [Act.put, List.setIfInBounds_toArray, List.set_cons_zero, List.set_cons_succ]
      refine wpAnyH_take (i := 1) (oi := { dst := some 53, op := _, type := _, pos := _, after := _, guard := _ }) (v := ?v1x2) rfl (by kernel_rfl) (by kernel_rfl) (by kernel_rfl) (fun _ _ _ h => h) (Or.inl ⟨by rfl, ?hy1x2⟩) hHeld ?rest1x2
      case hy1x2 => (intro w hSw; go_simp <;> with_reducible rfl)
      try simp only [Act.put, List.setIfInBounds_toArray, List.set_cons_zero, List.set_cons_succ]
      refine wpAnyH_take (i := 2) (oi := { dst := some 54, op := _, type := _, pos := _, after := _, guard := _ }) (v := ?v1x3) rfl (by kernel_rfl) (by kernel_rfl) (by kernel_rfl) (fun _ _ _ h => h) (Or.inl ⟨by rfl, ?hy1x3⟩) hHeld ?rest1x3
      case hy1x3 => (intro w hSw; go_simp <;> with_reducible rfl)
      try simp only [Act.put, List.setIfInBounds_toArray, List.set_cons_zero, List.set_cons_succ]
      refine wpAnyH_take (i := 3) (oi := { dst := some 55, op := _, type := _, pos := _, after := _, guard := _ }) (v := ?v1x4) rfl (by kernel_rfl) (by kernel_rfl) (by kernel_rfl) (fun _ _ _ h => h) (Or.inl ⟨by rfl, ?hy1x4⟩) hHeld ?rest1x4
      case hy1x4 => (intro w hSw; go_simp <;> with_reducible rfl)
      try simp only [Act.put, List.setIfInBounds_toArray, List.set_cons_zero, List.set_cons_succ]
      refine wpAnyH_take (i := 4) (oi := { dst := some 56, op := _, type := _, pos := _, after := _, guard := _ }) (v := ?v1x5) rfl (by kernel_rfl) (by kernel_rfl) (by kernel_rfl) (fun _ _ _ h => h) (Or.inl ⟨by rfl, ?hy1x5⟩) hHeld ?rest1x5
      case hy1x5 => (intro w hSw; go_simp <;> with_reducible rfl)
      try simp only [Act.put, List.setIfInBounds_toArray, List.set_cons_zero, List.set_cons_succ]
      refine wpAnyH_take (i := 5) (oi := { dst := some 57, op := _, type := _, pos := _, after := _, guard := _ }) (v := ?v1x6) rfl (by kernel_rfl) (by kernel_rfl) (by kernel_rfl) (fun _ _ _ h => h) (Or.inl ⟨by rfl, ?hy1x6⟩) hHeld ?rest1x6
      case hy1x6 => (intro w hSw; go_simp <;> with_reducible rfl)
      try simp only [Act.put, List.setIfInBounds_toArray, List.set_cons_zero, List.set_cons_succ]
      refine wpAnyH_take (i := 6) (oi := { dst := some 58, op := _, type := _, pos := _, after := _, guard := _ }) (v := ?v1x7) rfl (by kernel_rfl) (by kernel_rfl) (by kernel_rfl) (fun _ _ _ h => h) (Or.inl ⟨by rfl, ?hy1x7⟩) hHeld ?rest1x7
      case hy1x7 => (intro w hSw; go_simp <;> with_reducible rfl)
      try simp only [Act.put, List.setIfInBounds_toArray, List.set_cons_zero, List.set_cons_succ]
      refine wpAnyH_take (i := 7) (oi := { dst := some 59, op := _, type := _, pos := _, after := _, guard := _ }) (v := ?v1x8) rfl (by kernel_rfl) (by kernel_rfl) (by kernel_rfl) (fun _ _ _ h => h) (Or.inl ⟨by rfl, ?hy1x8⟩) hHeld ?rest1x8
      case hy1x8 => (intro w hSw; go_simp <;> with_reducible rfl)
      try simp only [Act.put, List.setIfInBounds_toArray, List.set_cons_zero, List.set_cons_succ]
      refine wpAnyH_take (i := 8) (oi := { dst := some 60, op := _, type := _, pos := _, after := _, guard := _ }) (v := ?v1x9) rfl (by kernel_rfl) (by kernel_rfl) (by kernel_rfl) (fun _ _ _ h => h) (Or.inl ⟨by rfl, ?hy1x9⟩) hHeld ?rest1x9
      case hy1x9 => (intro w hSw; go_simp <;> with_reducible rfl)
      try simp only [Act.put, List.setIfInBounds_toArray, List.set_cons_zero, List.set_cons_succ]
      refine wpAnyH_take (i := 9) (oi := { dst := some 61, op := _, type := _, pos := _, after := _, guard := _ }) (v := ?v1x10) rfl (by kernel_rfl) (by kernel_rfl) (by kernel_rfl) (fun _ _ _ h => h) (Or.inl ⟨by rfl, ?hy1x10⟩) hHeld ?rest1x10
      case hy1x10 => (intro w hSw; go_simp <;> with_reducible rfl)
      try simp only [Act.put, List.setIfInBounds_toArray, List.set_cons_zero, List.set_cons_succ]
      refine wpAnyH_take (i := 10) (oi := { dst := some 62, op := _, type := _, pos := _, after := _, guard := _ }) (v := ?v1x11) rfl (by kernel_rfl) (by kernel_rfl) (by kernel_rfl) (fun _ _ _ h => h) (Or.inl ⟨by rfl, ?hy1x11⟩) hHeld ?rest1x11
      case hy1x11 => (intro w hSw; go_simp <;> with_reducible rfl)
      try simp only [Act.put, List.setIfInBounds_toArray, List.set_cons_zero, List.set_cons_succ]
      refine wpAnyH_take (i := 11) (oi := { dst := some 63, op := _, type := _, pos := _, after := _, guard := _ }) (v := ?v1x12) rfl (by kernel_rfl) (by kernel_rfl) (by kernel_rfl) (fun _ _ _ h => h) (Or.inl ⟨by rfl, ?hy1x12⟩) hHeld ?rest1x12
      case hy1x12 => (intro w hSw; go_simp <;> with_reducible rfl)
      try simp only [Act.put, List.setIfInBounds_toArray, List.set_cons_zero, List.set_cons_succ]
      refine wpAnyH_take (i := 12) (oi := { dst := some 64, op := _, type := _, pos := _, after := _, guard := _ }) (v := ?v1x13) rfl (by kernel_rfl) (by kernel_rfl) (by kernel_rfl) (fun _ _ _ h => h) (Or.inl ⟨by rfl, ?hy1x13⟩) hHeld ?rest1x13
      case hy1x13 => (intro w hSw; go_simp <;> with_reducible rfl)
      try simp only [Act.put, List.setIfInBounds_toArray, List.set_cons_zero, List.set_cons_succ]
      refine wpAnyH_take (i := 13) (oi := { dst := some 65, op := _, type := _, pos := _, after := _, guard := _ }) (v := ?v1x14) rfl (by kernel_rfl) (by kernel_rfl) (by kernel_rfl) (fun _ _ _ h => h) (Or.inl ⟨by rfl, ?hy1x14⟩) hHeld ?rest1x14
      case hy1x14 => (intro w hSw; go_simp <;> with_reducible rfl)
      try simp only [Act.put, List.setIfInBounds_toArray, List.set_cons_zero, List.set_cons_succ]
      refine wpAnyH_take (i := 14) (oi := { dst := some 66, op := _, type := _, pos := _, after := _, guard := _ }) (v := ?v1x15) rfl (by kernel_rfl) (by kernel_rfl) (by kernel_rfl) (fun _ _ _ h => h) (Or.inl ⟨by rfl, ?hy1x15⟩) hHeld ?rest1x15
      case hy1x15 => (intro w hSw; go_simp <;> with_reducible rfl)
      try simp only [Act.put, List.setIfInBounds_toArray, List.set_cons_zero, List.set_cons_succ]
      refine wpAnyH_take (i := 15) (oi := { dst := some 67, op := _, type := _, pos := _, after := _, guard := _ }) (v := ?v1x16) rfl (by kernel_rfl) (by kernel_rfl) (by kernel_rfl) (fun _ _ _ h => h) (Or.inl ⟨by rfl, ?hy1x16⟩) hHeld ?rest1x16
      case hy1x16 => (intro w hSw; go_simp <;> with_reducible rfl)
      try simp only [Act.put, List.setIfInBounds_toArray, List.set_cons_zero, List.set_cons_succ]
      refine wpAnyH_take (i := 16) (oi := { dst := some 68, op := _, type := _, pos := _, after := _, guard := _ }) (v := ?v1x17) rfl (by kernel_rfl) (by kernel_rfl) (by kernel_rfl) (fun _ _ _ h => h) (Or.inl ⟨by rfl, ?hy1x17⟩) hHeld ?rest1x17
      case hy1x17 => (intro w hSw; go_simp <;> with_reducible rfl)
      try simp only [Act.put, List.setIfInBounds_toArray, List.set_cons_zero, List.set_cons_succ]
      refine wpAnyH_take (i := 17) (oi := { dst := some 69, op := _, type := _, pos := _, after := _, guard := _ }) (v := ?v1x18) rfl (by kernel_rfl) (by kernel_rfl) (by kernel_rfl) (fun _ _ _ h => h) (Or.inl ⟨by rfl, ?hy1x18⟩) hHeld ?rest1x18
      case hy1x18 => (intro w hSw; go_simp <;> with_reducible rfl)
      try simp only [Act.put, List.setIfInBounds_toArray, List.set_cons_zero, List.set_cons_succ]
      refine wpAnyH_take (i := 18) (oi := { dst := some 70, op := _, type := _, pos := _, after := _, guard := _ }) (v := ?v1x19) rfl (by kernel_rfl) (by kernel_rfl) (by kernel_rfl) (fun _ _ _ h => h) (Or.inl ⟨by rfl, ?hy1x19⟩) hHeld ?rest1x19
      case hy1x19 => (intro w hSw; go_simp <;> with_reducible rfl)
      try simp only [Act.put, List.setIfInBounds_toArray, List.set_cons_zero, List.set_cons_succ]
      refine wpAnyH_take (i := 19) (oi := { dst := some 71, op := _, type := _, pos := _, after := _, guard := _ }) (v := ?v1x20) rfl (by kernel_rfl) (by kernel_rfl) (by kernel_rfl) (fun _ _ _ h => h) (Or.inl ⟨by rfl, ?hy1x20⟩) hHeld ?rest1x20
      case hy1x20 => (intro w hSw; go_simp <;> with_reducible rfl)
      try simp only [Act.put, List.setIfInBounds_toArray, List.set_cons_zero, List.set_cons_succ]
      refine wpAnyH_take (i := 20) (oi := { dst := some 72, op := _, type := _, pos := _, after := _, guard := _ }) (v := ?v1x21) rfl (by kernel_rfl) (by kernel_rfl) (by kernel_rfl) (fun _ _ _ h => h) (Or.inl ⟨by rfl, ?hy1x21⟩) hHeld ?rest1x21
      case hy1x21 => (intro w hSw; go_simp <;> with_reducible rfl)
      try simp only [Act.put, List.setIfInBounds_toArray, List.set_cons_zero, List.set_cons_succ]
      refine wpAnyH_take (i := 21) (oi := { dst := some 73, op := _, type := _, pos := _, after := _, guard := _ }) (v := ?v1x22) rfl (by kernel_rfl) (by kernel_rfl) (by kernel_rfl) (fun _ _ _ h => h) (Or.inl ⟨by rfl, ?hy1x22⟩) hHeld ?rest1x22
      case hy1x22 => (intro w hSw; go_simp <;> with_reducible rfl)
      try simp only [Act.put, List.setIfInBounds_toArray, List.set_cons_zero, List.set_cons_succ]
      refine wpAnyH_take (i := 22) (oi := { dst := some 74, op := _, type := _, pos := _, after := _, guard := _ }) (v := ?v1x23) rfl (by kernel_rfl) (by kernel_rfl) (by kernel_rfl) (fun _ _ _ h => h) (Or.inl ⟨by rfl, ?hy1x23⟩) hHeld ?rest1x23
      case hy1x23 => (intro w hSw; go_simp <;> with_reducible rfl)
      try simp only [Act.put, List.setIfInBounds_toArray, List.set_cons_zero, List.set_cons_succ]
      refine wpAnyH_take (i := 23) (oi := { dst := some 75, op := _, type := _, pos := _, after := _, guard := _ }) (v := ?v1x24) rfl (by kernel_rfl) (by kernel_rfl) (by kernel_rfl) (fun _ _ _ h => h) (Or.inl ⟨by rfl, ?hy1x24⟩) hHeld ?rest1x24
      case hy1x24 => (intro w hSw; go_simp <;> with_reducible rfl)
      try simp only [Act.put, List.setIfInBounds_toArray, List.set_cons_zero, List.set_cons_succ]
      refine wpAnyH_take (i := 24) (oi := { dst := some 76, op := _, type := _, pos := _, after := _, guard := _ }) (v := ?v1x25) rfl (by kernel_rfl) (by kernel_rfl) (by kernel_rfl) (fun _ _ _ h => h) (Or.inl ⟨by rfl, ?hy1x25⟩) hHeld ?rest1x25
      case hy1x25 => (intro w hSw; go_simp <;> with_reducible rfl)
      try simp only [Act.put, List.setIfInBounds_toArray, List.set_cons_zero, List.set_cons_succ]
      refine wpAnyH_take (i := 25) (oi := { dst := some 77, op := _, type := _, pos := _, after := _, guard := _ }) (v := ?v1x26) rfl (by kernel_rfl) (by kernel_rfl) (by kernel_rfl) (fun _ _ _ h => h) (Or.inl ⟨by rfl, ?hy1x26⟩) hHeld ?rest1x26
      case hy1x26 => (intro w hSw; go_simp <;> with_reducible rfl)
      try simp only [Act.put, List.setIfInBounds_toArray, List.set_cons_zero, List.set_cons_succ]
      refine wpAnyH_take (i := 26) (oi := { dst := some 78, op := _, type := _, pos := _, after := _, guard := _ }) (v := ?v1x27) rfl (by kernel_rfl) (by kernel_rfl) (by kernel_rfl) (fun _ _ _ h => h) (Or.inl ⟨by rfl, ?hy1x27⟩) hHeld ?rest1x27
      case hy1x27 => (intro w hSw; go_simp <;> with_reducible rfl)
      try simp only [Act.put, List.setIfInBounds_toArray, List.set_cons_zero, List.set_cons_succ]
      refine wpAnyH_take (i := 27) (oi := { dst := some 79, op := _, type := _, pos := _, after := _, guard := _ }) (v := ?v1x28) rfl (by kernel_rfl) (by kernel_rfl) (by kernel_rfl) (fun _ _ _ h => h) (Or.inl ⟨by rfl, ?hy1x28⟩) hHeld ?rest1x28
      case hy1x28 => (intro w hSw; go_simp <;> with_reducible rfl)
      try simp only [Act.put, List.setIfInBounds_toArray, List.set_cons_zero, List.set_cons_succ]
      refine wpAnyH_take (i := 28) (oi := { dst := some 80, op := _, type := _, pos := _, after := _, guard := _ }) (v := ?v1x29) rfl (by kernel_rfl) (by kernel_rfl) (by kernel_rfl) (fun _ _ _ h => h) (Or.inl ⟨by rfl, ?hy1x29⟩) hHeld ?rest1x29
      case hy1x29 => (intro w hSw; go_simp <;> with_reducible rfl)
      try simp only [Act.put, List.setIfInBounds_toArray, List.set_cons_zero, List.set_cons_succ]
      refine wpAnyH_take (i := 29) (oi := { dst := some 81, op := _, type := _, pos := _, after := _, guard := _ }) (v := ?v1x30) rfl (by kernel_rfl) (by kernel_rfl) (by kernel_rfl) (fun _ _ _ h => h) (Or.inl ⟨by rfl, ?hy1x30⟩) hHeld ?rest1x30
      case hy1x30 => (intro w hSw; go_simp <;> with_reducible rfl)
      try simp only [Act.put, List.setIfInBounds_toArray, List.set_cons_zero, List.set_cons_succ]
      refine wpAnyH_done (by kernel_rfl) ?_ _
      go_wp2_with fail
      exact ⟨⟨i + 1, by omega, by go_num, by rw [F3.out]; go_num, below_on Hb.out (below_on B3.out hHeld)⟩, by simp [intOf]; omega⟩
    · obtain rfl : i = rs.length := by omega
      have q2 : ¬ (rs.length : Int) < (rs.length : Int) := by omega
      have htk : (rs.map PkRow.p).take rs.length = rs.map PkRow.p := List.take_of_length_le (by simp)
      rw [htk]
      rcases HEnd.out with ⟨-, rfl, hz⟩ | ⟨-, hE, rfl, hz⟩
      · generalize (lysL (rs.map PkRow.p)).length = P at *
        have q3 : IntKind.i64.wrap ((P : Int) + (L.length : Int)) = (n : Int) := by rw [IntKind.wrap_i64]; omega
        clear hbel hz htk
        go_wp2_with (first
          | (go_at_call 20; refine (awake11_any _).mono ?_; rintro e w4 ⟨rfl, b4⟩; have B4 := hide (below_on Hb.out b4); clear b4)
          | (go_at_call 22; refine (left11_any g most A2 k2 L _ w4 (S2.out.keep B4.out)).mono ?_; rintro e w5 ⟨rfl, rfl⟩))
        go_ret
        exact ⟨rfl, below_on B2.out B4.out⟩
      · generalize (lysL (rs.map PkRow.p)).length = P at *
        have q3 : (P : Int) < (n : Int) := by omega
        clear hbel hz htk
        rcases hE with rfl | rfl
        all_goals
          go_wp2_with (first
            | (go_at_call 20; refine (awake11_any _).mono ?_; rintro e w4 ⟨rfl, b4⟩; have B4 := hide (below_on Hb.out b4); clear b4)
            | (go_at_call 22; refine (left11_any g most A2 k2 [] _ w4 (S2.out.keep B4.out)).mono ?_; rintro e w5 ⟨rfl, rfl⟩))
          go_ret
          exact ⟨rfl, below_on B2.out B4.out⟩

end Go.Proofs.Ytdlhcecmodefkaa
