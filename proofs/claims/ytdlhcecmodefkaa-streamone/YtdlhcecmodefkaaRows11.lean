/-
  What is proved here: what the document's Rows of layer 11 returns of two rows of packets (rows11_any). Condition: packets' lists and the rows are at most 65535 long.
-/
import Derived.Test.YtdlhcecmodefkaaSm2
import Derived.Test.YtdlhcecmodefkaaSn10g
namespace Go.Proofs.Ytdlhcecmodefkaa
set_option linter.unusedVariables false
set_option linter.unusedSimpArgs false
open Go.RowKit

/-- A packet in a row is read: what the operation yields. -/
theorem exec_loadR {P : Program} {w : World} {o : Oper} {a : Act} (ty : TypeId) (x : Operand) (ho : o.op = .load ty x) (b i : Nat) (r : PkRow)
    (hx : a.eval x = .pointer (some ⟨b, i, none⟩)) (hB : w.rangeAt b i r.vs) {d : TypeDesc} (hu : P.underlying ty = some d) (hd : d.isRow = true) (hi : (P.info? ty).map (·.size) = some 18) :
    (execOp a.eval o).run P w = .ok (.value (pkA r.p r.C r.nc r.kc r.S r.ns r.ks)) w := by
  have hr := run_loadAt_mid (P := P) w b i ty r.vs d hB hu hd hi
  unfold execOp
  simp only [ho, hx, Sem.run_bind, hr, Result.andThen_ok]
  rfl
theorem PRd.at_ {w : World} {O : Option Addr} {rs : List PkRow} (h : PRd w O rs) (k : Nat) (hk : k < rs.length) : ∃ b o, O = some ⟨b, o, none⟩ ∧ b < w.heap.size ∧ ∀ j (hj : j < rs.length), w.rangeAt b (o + j * 18) (rs[j]).vs := by
  obtain ⟨b, o, e, hl, hc⟩ := h.1.at_ (k := k * 18) (by omega)
  refine ⟨b, o, e, hl, fun j hj i v hv => ?_⟩
  have hi : i < 18 := by
    by_cases h18 : i < 18
    · exact h18
    · rw [List.getElem?_eq_none (by rw [PkRow.vs_len]; omega)] at hv
      cases hv
  have := hc (j * 18 + i) v (by rw [prVs_get rs j i hj hi]; exact hv)
  rw [Nat.add_assoc]
  exact this
/-- Their lists are short. -/
def PkT (p : Pk) : Prop := p.codes.length ≤ 65535 ∧ p.subs.length ≤ 65535

set_option maxRecDepth 100000 in
set_option maxHeartbeats 4000000 in
theorem rows11_any (O1 O2 : Option Addr) (k1 k2 : Nat) (rs1 rs2 : List PkRow) (w : World) (h1 : PRd w O1 rs1) (h2 : PRd w O2 rs2) (t1 : ∀ r ∈ rs1, PkT r.p) (t2 : ∀ r ∈ rs2, PkT r.p) (n1 : rs1.length ≤ 65535) (n2 : rs2.length ≤ 65535) :
    Calls Try.prog 25 #[.slice O1 rs1.length k1, .slice O2 rs2.length k2] w fun e w' => e = .returned (.bool (decide (rs1.map PkRow.p = rs2.map PkRow.p))) ∧ Below w.heap.size w w' := by
  have H1 := hide h1
  have H2 := hide h2
  have T1 := hide t1
  have T2 := hide t2
  clear h1 h2 t1 t2
  obtain ⟨R, hR⟩ : ∃ R, decide (rs1.map PkRow.p = rs2.map PkRow.p) = R := ⟨_, rfl⟩
  rw [hR]
  have HR := hide hR
  clear hR
  by_cases hn : rs1.length = rs2.length
  case neg =>
    have q : ((rs1.length : Int) != (rs2.length : Int)) = true := by rw [bne_iff_ne]; omega
    have hr : R = false := by
      rw [← HR.out]
      apply decide_eq_false
      intro e
      have := congrArg List.length e
      simp at this
      exact hn this
    subst hr
    clear hn
    go_enter Try.func25, Try.ntmps25
    go_wp2_with fail
    go_ret
    exact ⟨rfl, Below.refl _ _⟩
  case pos =>
  have Hn := hide hn
  obtain ⟨n, hn1⟩ : ∃ n, rs1.length = n := ⟨_, rfl⟩
  have hn2 : rs2.length = n := by rw [← hn, hn1]
  rw [hn1, hn2]
  have N1 := hide hn1
  have N2 := hide hn2
  rw [hn1] at n1
  clear n2 hn hn1 hn2
  go_enter Try.func25, Try.ntmps25
  go_wp2_with fail
  go_loopw [5] (fun i wr => ∃ k : Nat, i = .int .i64 (k : Int) ∧ k ≤ n ∧ (rs1.take k).map PkRow.p = (rs2.take k).map PkRow.p ∧ Below w.heap.size w wr) (fun i _ => n - (intOf i).toNat)
  case atStart => exact ⟨0, rfl, by omega, rfl, Below.refl _ _⟩
  case round =>
    obtain ⟨k, rfl, hkn, hall, hbr⟩ := hrel
    have Hall := hide hall
    have Hbr := hide hbr
    clear hall hbr
    by_cases hlt : k < n
    · have q1 : (k : Int) < (n : Int) := by omega
      have hl1 : k < rs1.length := by rw [N1.out]; exact hlt
      have hl2 : k < rs2.length := by rw [N2.out]; exact hlt
      obtain ⟨b1, o1, rfl, hb1, hc1⟩ := H1.out.at_ k hl1
      obtain ⟨b2, o2, rfl, hb2, hc2⟩ := H2.out.at_ k hl2
      have tk1 : rs1.take (k + 1) = rs1.take k ++ [rs1[k]] := (List.take_append_getElem hl1).symm
      have tk2 : rs2.take (k + 1) = rs2.take k ++ [rs2[k]] := (List.take_append_getElem hl2).symm
      have m1 := List.getElem_mem hl1
      have m2 := List.getElem_mem hl2
      have G1 := hide (show ∀ W, Below w.heap.size w W → W.rangeAt b1 (o1 + k * 18) (rs1[k]).vs from fun W b j v hv => (b.cell (p := ⟨b1, o1 + k * 18 + j, none⟩) hb1).trans (hc1 k hl1 j v hv))
      have G2 := hide (show ∀ W, Below w.heap.size w W → W.rangeAt b2 (o2 + k * 18) (rs2[k]).vs from fun W b j v hv => (b.cell (p := ⟨b2, o2 + k * 18 + j, none⟩) hb2).trans (hc2 k hl2 j v hv))
      have PS := hide (show ∀ W, Below w.heap.size w W → Calls Try.prog 18 #[pkA rs1[k].p rs1[k].C rs1[k].nc rs1[k].kc rs1[k].S rs1[k].ns rs1[k].ks, pkA rs2[k].p rs2[k].C rs2[k].nc rs2[k].kc rs2[k].S rs2[k].ns rs2[k].ks] W (fun e w' => e = .returned (.bool (decide (rs1[k].p = rs2[k].p))) ∧ Below W.heap.size W w') from fun W b => same_any rs1[k].p rs2[k].p rs1[k].C rs2[k].C rs1[k].nc rs1[k].kc rs2[k].nc rs2[k].kc rs1[k].S rs2[k].S rs1[k].ns rs1[k].ks rs2[k].ns rs2[k].ks W ((H1.out.2 _ m1).keep b) ((H2.out.2 _ m2).keep b) (T1.out _ m1).1 (T1.out _ m1).2 (T2.out _ m2).1 (T2.out _ m2).2)
      have hdec : decide (rs1[k].p = rs2[k].p) = false → R = false := fun hd => by
        rw [← HR.out]
        apply decide_eq_false
        intro e
        have h1 : (rs1.map PkRow.p)[k]? = (rs2.map PkRow.p)[k]? := by rw [e]
        rw [List.getElem?_map, List.getElem?_map, List.getElem?_eq_getElem hl1, List.getElem?_eq_getElem hl2] at h1
        simp only [Option.map_some, Option.some.injEq] at h1
        rw [h1] at hd
        simp at hd
      have hdt : decide (rs1[k].p = rs2[k].p) = true → (rs1.take (k + 1)).map PkRow.p = (rs2.take (k + 1)).map PkRow.p := fun hd => by
        rw [tk1, tk2, List.map_append, List.map_append, Hall.out]
        have := of_decide_eq_true hd
        simp [this]
      generalize rs1[k] = r1 at *
      generalize rs2[k] = r2 at *
      obtain ⟨dd, hdd⟩ : ∃ dd, decide (r1.p = r2.p) = dd := ⟨_, rfl⟩
      rw [hdd] at PS hdec hdt
      have Hdec := hide hdec
      have Hdt := hide hdt
      clear hdd hdec hdt tk1 tk2 m1 m2 hc1 hc2 hl1 hl2
      go_upto_region 6 with fail
      refine wp_region_held_drew (S := fun Z => Below wr.heap.size wr Z) (by kernel_rfl) ?_ (fun hHeld => ?_)
      · exact (Below.refl _ _).drew
      refine wpAnyH_take (i := 0) (oi := { dst := some 17, op := _, type := _, pos := _, after := _, guard := _ }) (v := ?v1x1) rfl (by kernel_rfl) (by kernel_rfl) (by kernel_rfl) (fun _ _ _ h => h) (Or.inl ⟨by rfl, ?hy1x1⟩) hHeld ?rest1x1
      case hy1x1 => (intro w hSw; go_simp <;> with_reducible rfl)
      try simp only [Act.put, List.setIfInBounds_toArray, List.set_cons_zero, List.set_cons_succ]
      refine wpAnyH_take (i := 1) (oi := { dst := some 18, op := _, type := _, pos := _, after := _, guard := _ }) (v := ?v1x2) rfl (by kernel_rfl) (by kernel_rfl) (by kernel_rfl) (fun _ _ _ h => h) (Or.inl ⟨by rfl, ?hy1x2⟩) hHeld ?rest1x2
      case hy1x2 => (intro w hSw; go_simp <;> with_reducible rfl)
      try simp only [Act.put, List.setIfInBounds_toArray, List.set_cons_zero, List.set_cons_succ]
      refine wpAnyH_take (i := 2) (oi := { dst := some 19, op := _, type := _, pos := _, after := _, guard := _ }) (v := ?v1x3) rfl (by kernel_rfl) (by kernel_rfl) (by kernel_rfl) (fun _ _ _ h => h) (Or.inl ⟨by rfl, ?hy1x3⟩) hHeld ?rest1x3
      case hy1x3 => (intro w hSw; go_simp <;> with_reducible rfl)
      try simp only [Act.put, List.setIfInBounds_toArray, List.set_cons_zero, List.set_cons_succ]
      refine wpAnyH_take (i := 3) (oi := { dst := some 20, op := _, type := _, pos := _, after := _, guard := _ }) (v := ?v1x4) rfl (by kernel_rfl) (by kernel_rfl) (by kernel_rfl) (fun _ _ _ h => h) (Or.inl ⟨by rfl, ?hy1x4⟩) hHeld ?rest1x4
      case hy1x4 => (intro w hSw; refine exec_loadR 27 (.tmp 19) ?_ b1 (o1 + k * 18) r1 ?_ (G1.out _ (below_on Hbr.out hSw)) Try.underlying27 ?_ ?_; rfl; rfl; rfl; kernel_rfl)
      try simp only [Act.put, List.setIfInBounds_toArray, List.set_cons_zero, List.set_cons_succ]
      refine wpAnyH_take (i := 4) (oi := { dst := some 21, op := _, type := _, pos := _, after := _, guard := _ }) (v := ?v1x5) rfl (by kernel_rfl) (by kernel_rfl) (by kernel_rfl) (fun _ _ _ h => h) (Or.inl ⟨by rfl, ?hy1x5⟩) hHeld ?rest1x5
      case hy1x5 => (intro w hSw; go_simp <;> with_reducible rfl)
      try simp only [Act.put, List.setIfInBounds_toArray, List.set_cons_zero, List.set_cons_succ]
      refine wpAnyH_take (i := 5) (oi := { dst := some 22, op := _, type := _, pos := _, after := _, guard := _ }) (v := ?v1x6) rfl (by kernel_rfl) (by kernel_rfl) (by kernel_rfl) (fun _ _ _ h => h) (Or.inl ⟨by rfl, ?hy1x6⟩) hHeld ?rest1x6
      case hy1x6 => (intro w hSw; go_simp <;> with_reducible rfl)
      try simp only [Act.put, List.setIfInBounds_toArray, List.set_cons_zero, List.set_cons_succ]
      refine wpAnyH_take (i := 6) (oi := { dst := some 23, op := _, type := _, pos := _, after := _, guard := _ }) (v := ?v1x7) rfl (by kernel_rfl) (by kernel_rfl) (by kernel_rfl) (fun _ _ _ h => h) (Or.inl ⟨by rfl, ?hy1x7⟩) hHeld ?rest1x7
      case hy1x7 => (intro w hSw; go_simp <;> with_reducible rfl)
      try simp only [Act.put, List.setIfInBounds_toArray, List.set_cons_zero, List.set_cons_succ]
      refine wpAnyH_take (i := 7) (oi := { dst := some 24, op := _, type := _, pos := _, after := _, guard := _ }) (v := ?v1x8) rfl (by kernel_rfl) (by kernel_rfl) (by kernel_rfl) (fun _ _ _ h => h) (Or.inl ⟨by rfl, ?hy1x8⟩) hHeld ?rest1x8
      case hy1x8 => (intro w hSw; refine exec_loadR 27 (.tmp 23) ?_ b2 (o2 + k * 18) r2 ?_ (G2.out _ (below_on Hbr.out hSw)) Try.underlying27 ?_ ?_; rfl; rfl; rfl; kernel_rfl)
      try simp only [Act.put, List.setIfInBounds_toArray, List.set_cons_zero, List.set_cons_succ]
      refine wpAnyH_ready (rs := [8]) (by kernel_rfl) (by simp) (AllReadyH.cons (o := { dst := some 25, op := _, type := _, pos := _, after := _, guard := _ }) rfl (fun K hK => ?_) AllReadyH.nil)
      go_simp
      refine (PS.out _ (below_on Hbr.out hHeld)).mono ?_
      rintro e w6 ⟨rfl, b6⟩
      have s6 := below_on hHeld b6
      go_wp2_with fail
      refine hK.out _ _ ?_ (fun hHeld => ?_)
      · exact below_on hHeld b6
      clear hK K
      try simp only [Act.put, List.setIfInBounds_toArray, List.set_cons_zero, List.set_cons_succ]
      refine wpAnyH_strong (S' := fun w' => Below w6.heap.size w6 w') (by intro w' h; exact below_on hHeld h) ?_
      replace hHeld : (fun w' => Below w6.heap.size w6 w') _ := Below.refl _ _
      refine wpAnyH_take (i := 9) (oi := { dst := some 26, op := _, type := _, pos := _, after := _, guard := _ }) (v := ?v1x10) rfl (by kernel_rfl) (by kernel_rfl) (by kernel_rfl) (fun _ _ _ h => h) (Or.inl ⟨by rfl, ?hy1x10⟩) hHeld ?rest1x10
      case hy1x10 => (intro w hSw; go_simp <;> with_reducible rfl)
      try simp only [Act.put, List.setIfInBounds_toArray, List.set_cons_zero, List.set_cons_succ]
      refine wpAnyH_done (by kernel_rfl) ?_ _
      clear G1 G2 PS
      cases dd with
      | false =>
        obtain rfl := Hdec.out rfl
        go_wp2_with fail
        go_ret
        exact ⟨rfl, below_on Hbr.out s6⟩
      | true =>
        have hnx := hide (Hdt.out rfl)
        go_wp2_with fail
        exact ⟨⟨k + 1, by go_num, by omega, hnx.out, below_on Hbr.out s6⟩, by simp [intOf]; omega⟩
    · obtain rfl : k = n := by omega
      have q1 : ¬ (k : Int) < (k : Int) := by omega
      have hr : R = true := by
        rw [← HR.out]
        apply decide_eq_true
        have := Hall.out
        rwa [List.take_of_length_le (by rw [N1.out]; exact Nat.le_refl _), List.take_of_length_le (by rw [N2.out]; exact Nat.le_refl _)] at this
      subst hr
      go_wp2_with fail
      go_ret
      exact ⟨rfl, Hbr.out⟩

end Go.Proofs.Ytdlhcecmodefkaa
