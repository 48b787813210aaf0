/-
  What is proved here: what the document's All of layer 6 returns. Conditions: lengths up to some hundred thousand.
-/
import Derived.Test.YtjldfefebnpdgaaRef6b
import Derived.Test.YtjldfefebnpdgaaMb5
namespace Go.Proofs.Ytjldfefebnpdgaa
set_option linter.unusedVariables false
set_option linter.unusedSimpArgs false
open Go.RowKit

/-- What the loop keeps. -/
structure AllSt (A : Option Addr) (n k : Nat) (xs : List UInt8) (w : World) (P : Nat) (O : Option Addr) (ok : Nat) (rs : List AduM) (wr : World) : Prop where
  le : P ≤ n
  told : toL xs = rs.map AduM.e ++ toL (xs.drop P)
  rest : (cutAll mbNx xs).2 = (cutAll mbNx (xs.drop P)).2
  rows : ∀ r ∈ rs, r.is w
  own : wr.ownsRow w.heap.size 24 3 (.slice O rs.length ok) rs.length (avs rs)
  few : rs.length ≤ P
  bel : Below w.heap.size w wr
section
variable {A : Option Addr} {n k : Nat} {xs : List UInt8} {w : World} {P : Nat} {O : Option Addr} {ok : Nat} {rs : List AduM} {wr : World}
theorem AllSt.step (h : AllSt A n k xs w P O ok rs wr) (hr : Rd w A n (bv xs)) (hk : n ≤ k) (a : AduE) (N : Nat) (hn : mbNx (xs.drop P) = .cut a N) (O' : Option Addr) (ok' : Nat) (w' : World)
    (own' : w'.ownsRow w.heap.size 24 3 (.slice O' (rs.length + 1) ok') (rs.length + 1) (avs rs ++ AduM.vs ⟨a.tid, a.unit, cutA A (P + 7) k, k - (P + 7), a.pdu⟩)) (bel' : Below w.heap.size w w') :
    AllSt A n k xs w (P + N) O' ok' (rs ++ [⟨a.tid, a.unit, cutA A (P + 7) k, k - (P + 7), a.pdu⟩]) w' := by
  have hx : xs.length = n := by rw [← bv_length]; exact hr.1
  have hp := mbCuts.pos _ _ _ hn
  rw [List.length_drop] at hp
  obtain ⟨h1, h2, h3⟩ := mbNx_back _ _ _ hn
  have hcut := cutAll_cut (xs.drop P) mbCuts a N hn
  rw [List.drop_drop] at hcut
  have hpdu : a.pdu = (xs.drop (P + 7)).take a.pdu.length := by
    have : a.pdu = (((xs.drop P).take N).drop 7).take (N - 7) := by
      rw [← h2]
      show a.pdu = List.take (N - 7) a.pdu
      rw [h3, Nat.add_sub_cancel, List.take_length]
    rw [List.drop_take, List.take_take, Nat.min_self, List.drop_drop] at this
    conv => lhs; rw [this]
    rw [h3, Nat.add_sub_cancel]
  refine ⟨by omega, ?_, ?_, ?_, ?_, ?_, bel'⟩
  · rw [h.told]
    unfold toL
    rw [hcut, List.map_append, List.append_assoc]
    rfl
  · rw [h.rest, hcut]
  · intro r hr'
    rw [List.mem_append] at hr'
    rcases hr' with hr' | hr'
    · exact h.rows r hr'
    · simp at hr'
      subst hr'
      show Rd w (cutA A (P + 7) k) a.pdu.length (bv a.pdu)
      have := hr.cut (P + 7) a.pdu.length k (by omega) hk
      rw [bv_cut, ← hpdu] at this
      exact this
  · rw [avs_append, List.length_append]
    exact own'
  · have := h.few
    rw [List.length_append]
    show rs.length + 1 ≤ P + N
    omega
theorem AllSt.wait (h : AllSt A n k xs w P O ok rs wr) (hx : xs.length = n) (hn : mbNx (xs.drop P) = .wait) : rs.map AduM.e = toL xs ∧ (lfL xs).length = n - P ∧ brB xs = false := by
  have hc := cutAll_wait _ mbCuts hn
  have h1 := h.told
  have h2 := h.rest
  rw [hc] at h2
  unfold toL at h1 ⊢
  rw [hc] at h1
  refine ⟨by rw [h1, List.append_nil], ?_, ?_⟩
  · unfold lfL brB
    rw [h2]
    show (xs.drop P).length = _
    rw [List.length_drop, hx]
  · unfold brB
    rw [h2]
theorem AllSt.bad (h : AllSt A n k xs w P O ok rs wr) (hn : mbNx (xs.drop P) = .bad) : rs.map AduM.e = toL xs ∧ (lfL xs).length = 0 ∧ brB xs = true := by
  have hc := cutAll_bad _ mbCuts hn
  have h1 := h.told
  have h2 := h.rest
  rw [hc] at h2
  unfold toL at h1 ⊢
  rw [hc] at h1
  refine ⟨by rw [h1, List.append_nil], ?_, ?_⟩
  · unfold lfL brB
    rw [h2]
    rfl
  · unfold brB
    rw [h2]
theorem AllSt.ard (h : AllSt A n k xs w P O ok rs wr) {w' : World} (b : Below wr.heap.size wr w') : ARd w' O rs.length rs :=
  ⟨(ownS_rd h.own).keep b, fun r hr => Rd.keep (h.rows r hr) (below_on h.bel b)⟩
end
/-- What All answers. -/
def RetAll (xs : List UInt8) (w : World) (e : Ending) (w' : World) : Prop :=
  ∃ O ok rs, e = .returned (.tuple #[.slice O rs.length ok, .int .i64 ((lfL xs).length : Nat), .bool (brB xs)]) ∧ rs.map AduM.e = toL xs ∧ ARd w' O rs.length rs ∧ rs.length ≤ ok ∧ Below w.heap.size w w'

set_option maxHeartbeats 1000000 in
set_option maxRecDepth 100000 in
theorem rall_any (A : Option Addr) (n k : Nat) (xs : List UInt8) (w : World) (hr : Rd w A n (bv xs)) (hk : n ≤ k) (hn : n ≤ 1000000) :
    Calls Try.prog 18 #[.slice A n k] w (RetAll xs w) := by
  have hx : xs.length = n := by rw [← bv_length]; exact hr.1
  have HR := hide hr
  have HX := hide hx
  clear hr hx
  go_enter Try.func18, Try.ntmps18
  go_wp2
  go_loopw [5, 6] (fun v pv wr => ∃ P O ok rs, v = .slice O (List.length rs) ok ∧ pv = .int .i64 ((P : Nat) : Int) ∧ AllSt A n k xs w P O ok rs wr) (fun _ pv _ => n + 1 - (intOf pv).toNat)
  case atStart => exact ⟨0, none, 0, [], rfl, rfl, ⟨Nat.zero_le _, rfl, rfl, by simp, World.ownsRow_nil _ _ _ _, Nat.le_refl _, Below.refl _ _⟩⟩
  case round =>
    obtain ⟨P, O, ok, rs, rfl, rfl, st⟩ := hrel
    have hle := st.le
    have hfew := st.few
    have St := hide st
    have hyl : (xs.drop P).length = n - P := by rw [List.length_drop, HX.out]
    by_cases h6 : n < P + 6
    · obtain ⟨f1, f2, f3⟩ := st.wait HX.out (mbNx_few _ (by omega))
      have F1 := hide f1
      have F2 := hide f2
      have F3 := hide f3
      have q1 : ¬ (P : Int) + 6 ≤ (n : Int) := by omega
      clear st f1 f2 f3 hyl
      go_wp2
      go_ret3
      have b1 : Below wr.heap.size wr wr := Below.refl _ _
      refine ⟨O, ok, rs, ?_, F1.out, St.out.ard b1, ownS_cap St.out.own, St.out.bel⟩
      rw [F2.out, F3.out, show ((n - P : Nat) : Int) = (n : Int) - (P : Int) by omega]
      rfl
    · have q1 : (P : Int) + 6 ≤ (n : Int) := by omega
      have hN4 := hide (fun (W : World) (h : Rd W A n (bv xs)) => number_at A n k xs W h (P + 4) (by omega) hk)
      have hN2 := hide (fun (W : World) (h : Rd W A n (bv xs)) => number_at A n k xs W h (P + 2) (by omega) hk)
      have hsl4 := fun W => run_slTail (P := Try.prog) 22 5 Try.underlying22 u8_size A n k ((P : Int) + 4) (P + 4) (by omega) (by omega) W
      have hsl2 := fun W => run_slTail (P := Try.prog) 22 5 Try.underlying22 u8_size A n k ((P : Int) + 2) (P + 2) (by omega) (by omega) W
      have e4 := wordN_drop xs P 4
      have e2 := wordN_drop xs P 2
      have l4 : wordN xs (P + 4) ≤ 65535 := by unfold wordN; have := byteAt_lt xs (P + 4); have := byteAt_lt xs (P + 4 + 1); omega
      by_cases hb : wordN xs (P + 2) ≠ 0 ∨ wordN xs (P + 4) < 2 ∨ 254 < wordN xs (P + 4)
      · obtain ⟨f1, f2, f3⟩ := st.bad (mbNx_bad _ (by omega) (by rw [e2, e4]; exact hb))
        have F1 := hide f1
        have F2 := hide f2
        have F3 := hide f3
        clear st f1 f2 f3 hyl e2 e4
        generalize wordN xs (P + 2) = m2 at *
        generalize wordN xs (P + 4) = m4 at *
        by_cases p1 : m2 = 0
        · subst p1
          by_cases p2 : m4 < 2
          · have q2 : (m4 : Int) < 2 := by omega
            go_wp2_with fail
            refine (hN4.out wr (HR.out.keep St.out.bel)).mono ?_
            rintro e w1 ⟨rfl, nq, rfl⟩
            go_wp2_with fail
            refine (hN2.out (wr.drewN nq) ((HR.out.keep St.out.bel).drewN nq)).mono ?_
            rintro e w2 ⟨rfl, nq2, rfl⟩
            have b1 : Below wr.heap.size wr ((wr.drewN nq).drewN nq2) := below_drewN (below_drewN (Below.refl _ _) nq) nq2
            generalize (wr.drewN nq).drewN nq2 = U at *
            go_wp2
            go_ret3
            refine ⟨O, ok, rs, ?_, F1.out, St.out.ard b1, ownS_cap St.out.own, below_on St.out.bel b1⟩
            rw [F2.out, F3.out]
            rfl
          · have q2 : ¬ (m4 : Int) < 2 := by omega
            have q3 : (254 : Int) < (m4 : Int) := by omega
            go_wp2_with fail
            refine (hN4.out wr (HR.out.keep St.out.bel)).mono ?_
            rintro e w1 ⟨rfl, nq, rfl⟩
            go_wp2_with fail
            refine (hN2.out (wr.drewN nq) ((HR.out.keep St.out.bel).drewN nq)).mono ?_
            rintro e w2 ⟨rfl, nq2, rfl⟩
            have b1 : Below wr.heap.size wr ((wr.drewN nq).drewN nq2) := below_drewN (below_drewN (Below.refl _ _) nq) nq2
            generalize (wr.drewN nq).drewN nq2 = U at *
            go_wp2
            go_ret3
            refine ⟨O, ok, rs, ?_, F1.out, St.out.ard b1, ownS_cap St.out.own, below_on St.out.bel b1⟩
            rw [F2.out, F3.out]
            rfl
        · have q2 : ((m2 : Int) != 0) = true := by rw [bne_iff_ne]; omega
          go_wp2_with fail
          refine (hN4.out wr (HR.out.keep St.out.bel)).mono ?_
          rintro e w1 ⟨rfl, nq, rfl⟩
          go_wp2_with fail
          refine (hN2.out (wr.drewN nq) ((HR.out.keep St.out.bel).drewN nq)).mono ?_
          rintro e w2 ⟨rfl, nq2, rfl⟩
          have b1 : Below wr.heap.size wr ((wr.drewN nq).drewN nq2) := below_drewN (below_drewN (Below.refl _ _) nq) nq2
          generalize (wr.drewN nq).drewN nq2 = U at *
          go_wp2
          go_ret3
          refine ⟨O, ok, rs, ?_, F1.out, St.out.ard b1, ownS_cap St.out.own, below_on St.out.bel b1⟩
          rw [F2.out, F3.out]
          rfl
      · have z2 : wordN xs (P + 2) = 0 := by omega
        have q2 : ¬ (wordN xs (P + 4) : Int) < 2 := by omega
        have q3 : ¬ (254 : Int) < (wordN xs (P + 4) : Int) := by omega
        rw [z2] at hN2
        by_cases h3 : n < P + 6 + wordN xs (P + 4)
        · obtain ⟨f1, f2, f3⟩ := st.wait HX.out (mbNx_wait _ (by omega) (by rw [e2, e4]; exact hb) (by rw [e4]; omega))
          have F1 := hide f1
          have F2 := hide f2
          have F3 := hide f3
          clear st f1 f2 f3 hyl e2 e4 hb z2
          generalize wordN xs (P + 4) = m4 at *
          have q4 : (n : Int) < (P : Int) + 6 + (m4 : Int) := by omega
          go_wp2_with fail
          refine (hN4.out wr (HR.out.keep St.out.bel)).mono ?_
          rintro e w1 ⟨rfl, nq, rfl⟩
          go_wp2_with fail
          refine (hN2.out (wr.drewN nq) ((HR.out.keep St.out.bel).drewN nq)).mono ?_
          rintro e w2 ⟨rfl, nq2, rfl⟩
          have b1 : Below wr.heap.size wr ((wr.drewN nq).drewN nq2) := below_drewN (below_drewN (Below.refl _ _) nq) nq2
          generalize (wr.drewN nq).drewN nq2 = U at *
          go_wp2
          go_ret3
          refine ⟨O, ok, rs, ?_, F1.out, St.out.ard b1, ownS_cap St.out.own, below_on St.out.bel b1⟩
          rw [F2.out, F3.out, show ((n - P : Nat) : Int) = (n : Int) - (P : Int) by omega]
          rfl
        · have hnx := mbNx_cut (xs.drop P) (by omega) (by rw [e2, e4]; exact hb) (by rw [e4]; omega)
          rw [e4, wordN_drop, byteAt_drop, Nat.add_zero] at hnx
          have HS := hide (fun O' ok' w' => st.step HR.out hk _ _ hnx O' ok' w')
          obtain ⟨_, _, hlen⟩ := mbNx_back _ _ _ hnx
          simp only at hlen
          have hN0 := hide (fun (W : World) (h : Rd W A n (bv xs)) => number_at A n k xs W h P (by omega) hk)
          have hsl0 := fun W => run_slTail (P := Try.prog) 22 5 Try.underlying22 u8_size A n k (P : Int) P rfl (by omega) W
          obtain ⟨b, o, rfl, hbl, hc⟩ := HR.out.at_ (k := 0) (by omega)
          have cy : w.cell? ⟨b, o + (P + 6), none⟩ = some (.int .u8 (byteAt xs (P + 6) : Nat)) := by
            obtain ⟨x6, g6, b6⟩ := get_byteAt xs (P + 6) (by rw [HX.out]; omega)
            rw [← b6]
            exact hc (P + 6) _ (by simp [bv, g6])
          have hy6 := byteAt_lt xs (P + 6)
          generalize (List.drop 7 (xs.drop P)).take (wordN xs (P + 4) - 1) = pd at *
          clear st hyl e2 e4 hb z2 hnx hc
          generalize wordN xs (P + 4) = m4 at *
          generalize wordN xs P = t0 at *
          generalize byteAt xs (P + 6) = y6 at *
          have q4 : ¬ (n : Int) < (P : Int) + 6 + (m4 : Int) := by omega
          have hslM : ∀ W, (Instr.slice 22 (.slice (some ⟨b, o, none⟩) n k) (some (.int .i64 ((P : Int) + 7))) (some (.int .i64 ((P : Int) + 6 + (m4 : Int)))) none).run Try.prog W = .ok (.slice (cutA (some ⟨b, o, none⟩) (P + 7) k) pd.length (k - (P + 7))) W := by
            intro W
            have := run_sl (P := Try.prog) 22 5 Try.underlying22 u8_size (some ⟨b, o, none⟩) n k ((P : Int) + 7) ((P : Int) + 6 + (m4 : Int)) (P + 7) (P + 6 + m4) (by omega) (by omega) (by omega) (by omega) W
            rwa [show P + 6 + m4 - (P + 7) = pd.length by omega] at this
          go_wp2_with fail
          refine (hN4.out wr (HR.out.keep St.out.bel)).mono ?_
          rintro e w1 ⟨rfl, nq, rfl⟩
          go_wp2_with fail
          refine (hN2.out (wr.drewN nq) ((HR.out.keep St.out.bel).drewN nq)).mono ?_
          rintro e w2 ⟨rfl, nq2, rfl⟩
          have b1 : Below wr.heap.size wr ((wr.drewN nq).drewN nq2) := below_drewN (below_drewN (Below.refl _ _) nq) nq2
          generalize (wr.drewN nq).drewN nq2 = U at *
          have hBU := below_on St.out.bel b1
          have hOU := ownS_keep St.out.own b1
          have HBU := hide hBU
          have HOU := hide hOU
          have HRU := hide (HR.out.keep hBU)
          have cU : ∀ w', Below w.heap.size w w' → w'.cell? ⟨b, o + ((P : Int) + 6).toNat, none⟩ = some (.int .u8 (y6 : Int)) := fun w' h => by
            rw [show ((P : Int) + 6).toNat = P + 6 by omega]
            exact (h.cell (p := ⟨b, o + (P + 6), none⟩) hbl).trans cy
          have w6 : IntKind.i64.wrap ((P : Int) + 6) = (P : Int) + 6 := by rw [IntKind.wrap_i64]; omega
          have w7 : IntKind.i64.wrap ((P : Int) + 7) = (P : Int) + 7 := by rw [IntKind.wrap_i64]; omega
          have wm : IntKind.i64.wrap ((P : Int) + 6 + (m4 : Int)) = (P : Int) + 6 + (m4 : Int) := by rw [IntKind.wrap_i64]; omega
          have wy : IntKind.i64.wrap (y6 : Int) = (y6 : Int) := wrap_nat y6 (by omega)
          have q6 : (P : Int) + 6 < (n : Int) := by omega
          have q7 : 0 ≤ (P : Int) + 6 := by omega
          have hlN := hlen
          clear hBU hOU b1 cy hlen
          go_wp2_with fail
          refine wp_region_held_drew (S := fun w' => Below w.heap.size w w') (by kernel_rfl) ?_ (fun hHeld => ?_)
          · exact HBU.out.drew
          refine wpAnyH_take (i := 0) (oi := { dst := some 40, op := _, type := _, pos := _, after := _, guard := _ }) (v := ?v1x1) rfl (by kernel_rfl) (by kernel_rfl) (by kernel_rfl) (fun _ _ _ h => h) (Or.inl ⟨by rfl, ?hy1x1⟩) hHeld ?rest1x1
          case hy1x1 => (intro w hSw; go_simp <;> with_reducible rfl)
          try simp only [Act.put, List.setIfInBounds_toArray, List.set_cons_zero, List.set_cons_succ]
          refine wpAnyH_take (i := 1) (oi := { dst := some 41, op := _, type := _, pos := _, after := _, guard := _ }) (v := ?v1x2) rfl (by kernel_rfl) (by kernel_rfl) (by kernel_rfl) (fun _ _ _ h => h) (Or.inl ⟨by rfl, ?hy1x2⟩) hHeld ?rest1x2
          case hy1x2 => (intro w hSw; go_simp <;> with_reducible rfl)
          try simp only [Act.put, List.setIfInBounds_toArray, List.set_cons_zero, List.set_cons_succ]
          refine wpAnyH_take (i := 2) (oi := { dst := some 42, op := _, type := _, pos := _, after := _, guard := _ }) (v := ?v1x3) rfl (by kernel_rfl) (by kernel_rfl) (by kernel_rfl) (fun _ _ _ h => h) (Or.inl ⟨by rfl, ?hy1x3⟩) hHeld ?rest1x3
          case hy1x3 => (intro w hSw; go_simp <;> with_reducible rfl)
          try simp only [Act.put, List.setIfInBounds_toArray, List.set_cons_zero, List.set_cons_succ]
          refine wpAnyH_take (i := 3) (oi := { dst := some 43, op := _, type := _, pos := _, after := _, guard := _ }) (v := ?v1x4) rfl (by kernel_rfl) (by kernel_rfl) (by kernel_rfl) (fun _ _ _ h => h) (Or.inl ⟨by rfl, ?hy1x4⟩) hHeld ?rest1x4
          case hy1x4 => (intro w hSw; go_simp <;> with_reducible rfl)
          try simp only [Act.put, List.setIfInBounds_toArray, List.set_cons_zero, List.set_cons_succ]
          refine wpAnyH_take (i := 5) (oi := { dst := some 45, op := _, type := _, pos := _, after := _, guard := _ }) (v := ?v1x5) rfl (by kernel_rfl) (by kernel_rfl) (by kernel_rfl) (fun _ _ _ h => h) (Or.inl ⟨by rfl, ?hy1x5⟩) hHeld ?rest1x5
          case hy1x5 => (intro w hSw; go_simp <;> with_reducible rfl)
          try simp only [Act.put, List.setIfInBounds_toArray, List.set_cons_zero, List.set_cons_succ]
          refine wpAnyH_take (i := 6) (oi := { dst := some 46, op := _, type := _, pos := _, after := _, guard := _ }) (v := ?v1x6) rfl (by kernel_rfl) (by kernel_rfl) (by kernel_rfl) (fun _ _ _ h => h) (Or.inl ⟨by rfl, ?hy1x6⟩) hHeld ?rest1x6
          case hy1x6 => (intro w hSw; go_simp <;> with_reducible rfl)
          try simp only [Act.put, List.setIfInBounds_toArray, List.set_cons_zero, List.set_cons_succ]
          refine wpAnyH_take (i := 7) (oi := { dst := some 47, op := _, type := _, pos := _, after := _, guard := _ }) (v := ?v1x7) rfl (by kernel_rfl) (by kernel_rfl) (by kernel_rfl) (fun _ _ _ h => h) (Or.inl ⟨by rfl, ?hy1x7⟩) hHeld ?rest1x7
          case hy1x7 => (intro w hSw; go_simp <;> with_reducible rfl)
          try simp only [Act.put, List.setIfInBounds_toArray, List.set_cons_zero, List.set_cons_succ]
          refine wpAnyH_take (i := 8) (oi := { dst := some 48, op := _, type := _, pos := _, after := _, guard := _ }) (v := ?v1x8) rfl (by kernel_rfl) (by kernel_rfl) (by kernel_rfl) (fun _ _ _ h => h) (Or.inl ⟨by rfl, ?hy1x8⟩) hHeld ?rest1x8
          case hy1x8 => (intro w hSw; go_simp <;> with_reducible rfl)
          try simp only [Act.put, List.setIfInBounds_toArray, List.set_cons_zero, List.set_cons_succ]
          refine wpAnyH_take (i := 9) (oi := { dst := some 49, op := _, type := _, pos := _, after := _, guard := _ }) (v := ?v1x9) rfl (by kernel_rfl) (by kernel_rfl) (by kernel_rfl) (fun _ _ _ h => h) (Or.inl ⟨by rfl, ?hy1x9⟩) hHeld ?rest1x9
          case hy1x9 => (intro w hSw; go_simp <;> with_reducible rfl)
          try simp only [Act.put, List.setIfInBounds_toArray, List.set_cons_zero, List.set_cons_succ]
          refine wpAnyH_take (i := 10) (oi := { dst := some 50, op := _, type := _, pos := _, after := _, guard := _ }) (v := ?v1x10) rfl (by kernel_rfl) (by kernel_rfl) (by kernel_rfl) (fun _ _ _ h => h) (Or.inl ⟨by rfl, ?hy1x10⟩) hHeld ?rest1x10
          case hy1x10 => (intro w hSw; go_simp <;> with_reducible rfl)
          try simp only [Act.put, List.setIfInBounds_toArray, List.set_cons_zero, List.set_cons_succ]
          refine wpAnyH_take (i := 11) (oi := { dst := some 51, op := _, type := _, pos := _, after := _, guard := _ }) (v := ?v1x11) rfl (by kernel_rfl) (by kernel_rfl) (by kernel_rfl) (fun _ _ _ h => h) (Or.inl ⟨by rfl, ?hy1x11⟩) hHeld ?rest1x11
          case hy1x11 => (intro w hSw; go_simp <;> with_reducible rfl)
          try simp only [Act.put, List.setIfInBounds_toArray, List.set_cons_zero, List.set_cons_succ]
          refine wpAnyH_take (i := 12) (oi := { dst := some 52, op := _, type := _, pos := _, after := _, guard := _ }) (v := ?v1x12) rfl (by kernel_rfl) (by kernel_rfl) (by kernel_rfl) (fun _ _ _ h => h) (Or.inl ⟨by rfl, ?hy1x12⟩) hHeld ?rest1x12
          case hy1x12 => (intro w hSw; go_simp <;> with_reducible rfl)
          try simp only [Act.put, List.setIfInBounds_toArray, List.set_cons_zero, List.set_cons_succ]
          refine wpAnyH_take (i := 13) (oi := { dst := some 53, op := _, type := _, pos := _, after := _, guard := _ }) (v := ?v1x13) rfl (by kernel_rfl) (by kernel_rfl) (by kernel_rfl) (fun _ _ _ h => h) (Or.inl ⟨by rfl, ?hy1x13⟩) hHeld ?rest1x13
          case hy1x13 => (intro w hSw; go_simp <;> with_reducible rfl)
          try simp only [Act.put, List.setIfInBounds_toArray, List.set_cons_zero, List.set_cons_succ]
          refine wpAnyH_take (i := 14) (oi := { dst := some 54, op := _, type := _, pos := _, after := _, guard := _ }) (v := ?v1x14) rfl (by kernel_rfl) (by kernel_rfl) (by kernel_rfl) (fun _ _ _ h => h) (Or.inl ⟨by rfl, ?hy1x14⟩) hHeld ?rest1x14
          case hy1x14 => (intro w hSw; go_simp <;> with_reducible rfl)
          try simp only [Act.put, List.setIfInBounds_toArray, List.set_cons_zero, List.set_cons_succ]
          refine wpAnyH_take (i := 15) (oi := { dst := some 55, op := _, type := _, pos := _, after := _, guard := _ }) (v := ?v1x15) rfl (by kernel_rfl) (by kernel_rfl) (by kernel_rfl) (fun _ _ _ h => h) (Or.inl ⟨by rfl, ?hy1x15⟩) hHeld ?rest1x15
          case hy1x15 => (intro w hSw; go_simp <;> with_reducible rfl)
          try simp only [Act.put, List.setIfInBounds_toArray, List.set_cons_zero, List.set_cons_succ]
          refine wpAnyH_take (i := 16) (oi := { dst := some 56, op := _, type := _, pos := _, after := _, guard := _ }) (v := ?v1x16) rfl (by kernel_rfl) (by kernel_rfl) (by kernel_rfl) (fun _ _ _ h => h) (Or.inl ⟨by rfl, ?hy1x16⟩) hHeld ?rest1x16
          case hy1x16 => (intro w hSw; go_simp <;> with_reducible rfl)
          try simp only [Act.put, List.setIfInBounds_toArray, List.set_cons_zero, List.set_cons_succ]
          refine wpAnyH_take (i := 17) (oi := { dst := some 57, op := _, type := _, pos := _, after := _, guard := _ }) (v := ?v1x17) rfl (by kernel_rfl) (by kernel_rfl) (by kernel_rfl) (fun _ _ _ h => h) (Or.inl ⟨by rfl, ?hy1x17⟩) hHeld ?rest1x17
          case hy1x17 => (intro w hSw; go_simp <;> with_reducible rfl)
          try simp only [Act.put, List.setIfInBounds_toArray, List.set_cons_zero, List.set_cons_succ]
          refine wpAnyH_take (i := 18) (oi := { dst := some 58, op := _, type := _, pos := _, after := _, guard := _ }) (v := ?v1x18) rfl (by kernel_rfl) (by kernel_rfl) (by kernel_rfl) (fun _ _ _ h => h) (Or.inl ⟨by rfl, ?hy1x18⟩) hHeld ?rest1x18
          case hy1x18 => (intro w hSw; go_simp <;> with_reducible rfl)
          try simp only [Act.put, List.setIfInBounds_toArray, List.set_cons_zero, List.set_cons_succ]
          refine wpAnyH_ready (rs := [4]) (by kernel_rfl) (by simp) (AllReadyH.cons (o := { dst := some 44, op := _, type := _, pos := _, after := _, guard := _ }) rfl (fun K hK => ?_) AllReadyH.nil)
          go_simp
          refine (hN0.out U.drew HRU.out).mono ?_
          rintro e w3 ⟨rfl, nq3, rfl⟩
          have b3 : Below U.heap.size U (U.drew.drewN nq3) := below_drewN ((Below.refl _ _).drew) nq3
          have s3 := below_on HBU.out b3
          generalize U.drew.drewN nq3 = V at *
          have HOV := hide (ownS_keep HOU.out b3)
          have HBV := hide s3
          clear b3
          go_wp2_with fail
          refine hK.out _ _ ?_ (fun hHeld => ?_)
          · exact s3
          clear hK K
          try simp only [Act.put, List.setIfInBounds_toArray, List.set_cons_zero, List.set_cons_succ]
          refine wpAnyH_take (i := 19) (oi := { dst := some 59, op := _, type := _, pos := _, after := _, guard := _ }) (v := ?v1x20) rfl (by kernel_rfl) (by kernel_rfl) (by kernel_rfl) (fun _ _ _ h => h) (Or.inl ⟨by rfl, ?hy1x20⟩) hHeld ?rest1x20
          case hy1x20 => (intro w hSw; go_simp <;> with_reducible rfl)
          try simp only [Act.put, List.setIfInBounds_toArray, List.set_cons_zero, List.set_cons_succ]
          refine wpAnyH_ready (rs := [20]) (by kernel_rfl) (by simp) (AllReadyH.cons (o := { dst := some 60, op := _, type := _, pos := _, after := _, guard := _ }) rfl (fun K hK => ?_) AllReadyH.nil)
          go_simp
          have b4 : Below V.heap.size V (V.alloc (.cells #[.int .i64 (t0 : Int), .int .i64 (y6 : Int), .slice (cutA (some ⟨b, o, none⟩) (P + 7) k) pd.length (k - (P + 7))] 24)) := (Below.refl _ _).alloc (Nat.le_refl _) _
          have s4 := below_on HBV.out b4
          have HO4 := hide (ownS_keep HOV.out b4)
          go_wp2_with fail
          refine hK.out _ _ ?_ (fun hHeld => ?_)
          · exact s4
          clear hK K
          try simp only [Act.put, List.setIfInBounds_toArray, List.set_cons_zero, List.set_cons_succ]
          refine wpAnyH_ready (rs := [21]) (by kernel_rfl) (by simp) (AllReadyH.cons (o := { dst := some 61, op := _, type := _, pos := _, after := _, guard := _ }) rfl (fun K hK => ?_) AllReadyH.nil)
          rw [if_pos (by rfl)]
          refine op_appS (.tmp 40) (.tmp 60) 35 rfl 24 _ 3 _ Try.underlying35 adu_info rfl (by omega) w.heap.size O rs.length ok (avs rs) rfl HO4.out _ 1 1 (AduM.vs ⟨(t0 : Nat), (y6 : Nat), cutA (some ⟨b, o, none⟩) (P + 7) k, k - (P + 7), pd⟩) rfl ((Blk.new V 24 (AduM.vs ⟨(t0 : Nat), (y6 : Nat), cutA (some ⟨b, o, none⟩) (P + 7) k, k - (P + 7), pd⟩)).rd) (by intro v hv; simp [AduM.vs] at hv; rcases hv with rfl | rfl | rfl <;> rfl) (by unfold maxLen; omega) (by omega) s4.size ?_
          intro A5 c5 w5 o5 b5 h5
          have s5 : Below w.heap.size w w5 := But.below s4 b5 (fun i ⟨o, e⟩ => ownS_new HOV.out i o e) s4.size
          refine hK.out _ _ ?_ (fun hHeld => ?_)
          · exact s5
          clear hK K
          try simp only [Act.put, List.setIfInBounds_toArray, List.set_cons_zero, List.set_cons_succ]
          refine wpAnyH_take (i := 22) (oi := { dst := some 5, op := _, type := _, pos := _, after := _, guard := _ }) (v := ?v1x23) rfl (by kernel_rfl) (by kernel_rfl) (by kernel_rfl) (fun _ _ _ h => h) (Or.inl ⟨by rfl, ?hy1x23⟩) hHeld ?rest1x23
          case hy1x23 => (intro w hSw; go_simp <;> with_reducible rfl)
          try simp only [Act.put, List.setIfInBounds_toArray, List.set_cons_zero, List.set_cons_succ]
          refine wpAnyH_done (by kernel_rfl) ?_ _
          have HS5 := hide (HS.out A5 c5 w5 o5 s5)
          clear o5 b5 h5 s4 s3 hHeld
          go_wp2_with fail
          refine ⟨⟨P + (6 + m4), A5, c5, _, by rw [List.length_append]; rfl, by go_num, HS5.out⟩, by simp [intOf]; omega⟩

end Go.Proofs.Ytjldfefebnpdgaa
