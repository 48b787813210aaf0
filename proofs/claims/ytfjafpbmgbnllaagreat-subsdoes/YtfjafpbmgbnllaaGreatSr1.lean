/-
  What is proved here: rows of a text with a number in memory; own rows written in place; what the document's own Wants and Subs of layer 13 return. No condition but lengths.
-/
import Derived.Test.YtfjafpbmgbnllaaGreatSbMath
import Derived.Test.YtfjafpbmgbnllaaGreatMem5
import Derived.Test.YtfjafpbmgbnllaaGreatRoundReg
import Derived.Laws.StructEq
import Derived.Deep.RegionHeld3
import Derived.StillTailTactics
import Derived.Deep.DeepCutAuto
namespace Go.Proofs.YtfjafpbmgbnllaaGreat
set_option linter.unusedVariables false
set_option linter.unusedSimpArgs false
open Go.RowKit

/-- A whole struct in a row is read. -/
theorem exec_loadS {P : Program} {w : World} {o : Oper} {a : Act} (ty : TypeId) (x : Operand) (ho : o.op = .load ty x) (b i : Nat) (cs : List Value)
    (hx : a.eval x = .pointer (some ⟨b, i, none⟩)) (hB : w.rangeAt b i cs) {d : TypeDesc} (hu : P.underlying ty = some d) (hd : d.isRow = true) (hi : (P.info? ty).map (·.size) = some cs.length) :
    (execOp a.eval o).run P w = .ok (.value (.agg cs.toArray)) w := by
  have hr := run_loadAt_mid (P := P) w b i ty cs d hB hu hd hi
  unfold execOp
  simp only [ho, hx, Sem.run_bind, hr, Result.andThen_ok]
  rfl
theorem wpList_loadS {P : Program} {w : World} {ops : Array Oper} {rest : List Oper} {o : Oper} {a : Act} {Q : Exit → Act → World → Prop} (hgd : o.guard = none) (ty : TypeId) (x : Operand) (ho : o.op = .load ty x) (b i : Nat) (cs : List Value)
    (hx : a.eval x = .pointer (some ⟨b, i, none⟩)) (hB : w.rangeAt b i cs) {d : TypeDesc} (hu : P.underlying ty = some d) (hd : d.isRow = true) (hi : (P.info? ty).map (·.size) = some cs.length)
    (h : wpList P ops Q rest (a.put o.dst (.agg cs.toArray)) w) : wpList P ops Q (o :: rest) a w := by
  refine wpList_plain hgd fun K hK => ?_
  have hr := exec_loadS (P := P) (w := w) (o := o) (a := a) ty x ho b i cs hx hB hu hd hi
  unfold Oper.wp
  rw [hr]
  exact hK _ _ h
/-- Two structs are compared. -/
theorem exec_neqS {P : Program} {w : World} {o : Oper} {a : Act} (t t' : TypeId) (x y : Operand) (ho : o.op = .binOp .neq t x y t') (xs ys : Array Value) (hx : a.eval x = .agg xs) (hy : a.eval y = .agg ys) (hm : P.eqGuardType P.depth t = false)
    {v : Value} (h : (Go.binOp .neq t (.agg xs) (.agg ys)).run P w = .ok v w) : (execOp a.eval o).run P w = .ok (.value v) w := by
  unfold execOp
  simp only [ho, hx, hy, Sem.run_bind, run_eqGuard_agg w .neq t x y xs ys hm, Result.andThen_ok, h]
  rfl
theorem str_beq (a b : List UInt8) : ((str a).toList == (str b).toList) = decide (a = b) := by
  rw [str_toList, str_toList]
  by_cases h : a = b <;> simp [h]

/-- Pairs in memory. -/
theorem tw_at {w : World} {A : Option Addr} {l : List (List UInt8 × Int)} (h : Rd w A (l.length * 2) (twVs l)) (k : Nat) (hk : k < l.length) : ∃ b o, A = some ⟨b, o, none⟩ ∧ b < w.heap.size ∧ ∀ j (hj : j < l.length), w.rangeAt b (o + j * 2) (twOne l[j]) := by
  obtain ⟨b, o, e, hl, hc⟩ := h.at_ (k := k * 2) (by omega)
  refine ⟨b, o, e, hl, fun j hj i v hv => ?_⟩
  have hi : i < 2 := by
    by_cases h2 : i < 2
    · exact h2
    · rw [List.getElem?_eq_none (by simp [twOne]; omega)] at hv
      cases hv
  have := hc (j * 2 + i) v (by rw [twVs_get l j i hj hi]; exact hv)
  rw [Nat.add_assoc]
  exact this
/-- Entries in memory. -/
theorem se_at {w : World} {A : Option Addr} {l : List SE} (h : Rd w A (l.length * 3) (seVs l)) (k : Nat) (hk : k < l.length) : ∃ b o, A = some ⟨b, o, none⟩ ∧ b < w.heap.size ∧ ∀ j (hj : j < l.length), w.rangeAt b (o + j * 3) (l[j]).vs := by
  obtain ⟨b, o, e, hl, hc⟩ := h.at_ (k := k * 3) (by omega)
  refine ⟨b, o, e, hl, fun j hj i v hv => ?_⟩
  have hi : i < 3 := by
    by_cases h2 : i < 3
    · exact h2
    · rw [List.getElem?_eq_none (by simp [SE.vs]; omega)] at hv
      cases hv
  have := hc (j * 3 + i) v (by rw [seVs_get l j i hj hi]; exact hv)
  rw [Nat.add_assoc]
  exact this
/-- A cell of an own row is written. -/
theorem ownS_set {w : World} {base s : Nat} {e : TypeId} {A : Option Addr} {n c : Nat} {xs : List Value} (h : w.ownsRow base e s (.slice A n c) n xs) {b o : Nat} (eA : A = some ⟨b, o, none⟩) (i : Nat) (hi : i < n * s) (v : Value) :
    (w.setCell ⟨b, o + i, none⟩ v).ownsRow base e s (.slice A n c) n (xs.set i v) := by
  refine ⟨by rw [List.length_set]; exact h.1, ?_⟩
  rcases h.2 with ⟨hv, h0⟩ | ⟨g, cap, cur, hv, hb, hh, hc, hm, hs, ht⟩
  · injection hv with hA _ _
    rw [eA] at hA
    cases hA
  · have hA : A = some ⟨g, 0, none⟩ := by injection hv
    rw [eA] at hA
    injection hA with hA
    injection hA with h1 h2 _
    subst h1 h2
    rw [Nat.zero_add]
    have hB : Blk w b e cur.toList := by simpa [Blk, arr] using hh
    have hB2 := hB.set i v
    refine .inr ⟨b, cap, arr (cur.toList.set i v), hv, hb, hB2, hc, hm, by rw [arr_size, List.length_set]; simpa using hs, ?_⟩
    rw [arr_toList, List.take_set, ht]

theorem want_neq (a b : List UInt8 × Int) (w : World) : (Go.binOp .neq 69 (.agg (twOne a).toArray) (.agg (twOne b).toArray)).run Tryz.prog w = .ok (.bool (!decide (a = b))) w := by
  have hS : Tryz.prog.underlying 69 = some (.struct (Tryz.prog.fieldsOf 69)) := by kernel_rfl
  have hp : Tryz.prog.stoodInHeld 69 = false := by kernel_rfl
  rw [run_neq_struct, show (10000 : Nat) = 9999 + 1 from rfl, run_equalIn_agg w 9999 69 _ _ hS hp]
  simp only [Program.fieldsOf, Tryz.underlying69, twOne]
  obtain ⟨a1, a2⟩ := a
  obtain ⟨b1, b2⟩ := b
  go_simp
  by_cases h1 : a1 = b1 <;> by_cases h2 : a2 = b2 <;> simp [h1, h2]
set_option maxRecDepth 100000 in
theorem wants_any (O1 O2 : Option Addr) (k1 k2 : Nat) (l1 l2 : List (List UInt8 × Int)) (w : World) (h1 : Rd w O1 (l1.length * 2) (twVs l1)) (h2 : Rd w O2 (l2.length * 2) (twVs l2)) (n1 : l1.length ≤ 65535) (n2 : l2.length ≤ 65535) :
    Calls Tryz.prog 14 #[.slice O1 l1.length k1, .slice O2 l2.length k2] w fun e w' => e = .returned (.bool (decide (l1 = l2))) ∧ Below w.heap.size w w' := by
  have H1 := hide h1
  have H2 := hide h2
  clear h1 h2
  obtain ⟨R, hR⟩ : ∃ R, decide (l1 = l2) = R := ⟨_, rfl⟩
  rw [hR]
  have HR := hide hR
  clear hR
  by_cases hn : l1.length = l2.length
  case neg =>
    have q : ((l1.length : Int) != (l2.length : Int)) = true := by rw [bne_iff_ne]; omega
    have hr : R = false := by
      rw [← HR.out]
      apply decide_eq_false
      intro e
      exact hn (congrArg List.length e)
    subst hr
    clear hn
    go_enter Tryz.func14, Tryz.ntmps14
    go_wp2_with fail
    go_ret
    exact ⟨rfl, Below.refl _ _⟩
  case pos =>
  obtain ⟨n, hn1⟩ : ∃ n, l1.length = n := ⟨_, rfl⟩
  have hn2 : l2.length = n := by rw [← hn, hn1]
  rw [hn1, hn2]
  have N1 := hide hn1
  have N2 := hide hn2
  rw [hn1] at n1
  clear n2 hn hn1 hn2
  go_enter Tryz.func14, Tryz.ntmps14
  go_wp2_with fail
  go_loopw [5] (fun i wr => ∃ k : Nat, i = .int .i64 (k : Int) ∧ k ≤ n ∧ l1.take k = l2.take k ∧ Below w.heap.size w wr) (fun i _ => n - (intOf i).toNat)
  case atStart => exact ⟨0, rfl, by omega, rfl, Below.refl _ _⟩
  case round =>
    obtain ⟨k, rfl, hkn, hall, hbr⟩ := hrel
    have Hall := hide hall
    have Hbr := hide hbr
    clear hall hbr
    by_cases hlt : k < n
    · have q1 : (k : Int) < (n : Int) := by omega
      have hl1 : k < l1.length := by rw [N1.out]; exact hlt
      have hl2 : k < l2.length := by rw [N2.out]; exact hlt
      obtain ⟨b1, o1, rfl, hb1, hc1⟩ := tw_at H1.out k hl1
      obtain ⟨b2, o2, rfl, hb2, hc2⟩ := tw_at H2.out k hl2
      have tk1 : l1.take (k + 1) = l1.take k ++ [l1[k]] := (List.take_append_getElem hl1).symm
      have tk2 : l2.take (k + 1) = l2.take k ++ [l2[k]] := (List.take_append_getElem hl2).symm
      have G1 := hide (show ∀ W, Below w.heap.size w W → W.rangeAt b1 (o1 + k * 2) (twOne l1[k]) from fun W b j v hv => (b.cell (p := ⟨b1, o1 + k * 2 + j, none⟩) hb1).trans (hc1 k hl1 j v hv))
      have G2 := hide (show ∀ W, Below w.heap.size w W → W.rangeAt b2 (o2 + k * 2) (twOne l2[k]) from fun W b j v hv => (b.cell (p := ⟨b2, o2 + k * 2 + j, none⟩) hb2).trans (hc2 k hl2 j v hv))
      have hdec : decide (l1[k] = l2[k]) = false → R = false := fun hd => by
        rw [← HR.out]
        apply decide_eq_false
        intro e
        subst e
        simp at hd
      have hdt : decide (l1[k] = l2[k]) = true → l1.take (k + 1) = l2.take (k + 1) := fun hd => by
        rw [tk1, tk2, Hall.out, of_decide_eq_true hd]
      generalize l1[k] = r1 at *
      generalize l2[k] = r2 at *
      have HQ := hide (want_neq r1 r2)
      obtain ⟨dd, hdd⟩ : ∃ dd, decide (r1 = r2) = dd := ⟨_, rfl⟩
      rw [hdd] at hdec hdt
      have HQ2 : Hid (∀ W, (Go.binOp .neq 69 (.agg (twOne r1).toArray) (.agg (twOne r2).toArray)).run Tryz.prog W = .ok (.bool (!dd)) W) := hide (by intro W; rw [HQ.out W, hdd])
      have Hdec := hide hdec
      have Hdt := hide hdt
      clear HQ hdd hdec hdt tk1 tk2 hc1 hc2 hl1 hl2
      go_upto_region 6 with fail
      refine wp_region_held_drew (S := fun Z => Below wr.heap.size wr Z) (by kernel_rfl) ?_ (fun hHeld => ?_)
      · exact (Below.refl _ _).drew
      refine wpAnyH_take (i := 0) (oi := { dst := some 17, op := _, type := _, pos := _, after := _, guard := _ }) (v := ?v1x1) rfl (by kernel_rfl) (by kernel_rfl) (by kernel_rfl) (fun _ _ _ h => h) (Or.inl ⟨by rfl, ?hy1x1⟩) hHeld ?rest1x1
      case hy1x1 => (intro w hSw; go_simp <;> with_reducible rfl)
      try simp only [Act.put, List.setIfInBounds_toArray, List.set_cons_zero, List.set_cons_succ]
      refine wpAnyH_take (i := 1) (oi := { dst := some 18, op := _, type := _, pos := _, after := _, guard := _ }) (v := ?v1x2) rfl (by kernel_rfl) (by kernel_rfl) (by kernel_rfl) (fun _ _ _ h => h) (Or.inl ⟨by rfl, ?hy1x2⟩) hHeld ?rest1x2
      case hy1x2 => (intro w hSw; go_simp <;> with_reducible rfl)
      try simp only [Act.put, List.setIfInBounds_toArray, List.set_cons_zero, List.set_cons_succ]
      refine wpAnyH_take (i := 2) (oi := { dst := some 19, op := _, type := _, pos := _, after := _, guard := _ }) (v := ?v1x3) rfl (by kernel_rfl) (by kernel_rfl) (by kernel_rfl) (fun _ _ _ h => h) (Or.inl ⟨by rfl, ?hy1x3⟩) hHeld ?rest1x3
      case hy1x3 => (intro w hSw; go_simp <;> with_reducible rfl)
      try simp only [Act.put, List.setIfInBounds_toArray, List.set_cons_zero, List.set_cons_succ]
      refine wpAnyH_take (i := 3) (oi := { dst := some 20, op := _, type := _, pos := _, after := _, guard := _ }) (v := ?v1x4) rfl (by kernel_rfl) (by kernel_rfl) (by kernel_rfl) (fun _ _ _ h => h) (Or.inl ⟨by rfl, ?hy1x4⟩) hHeld ?rest1x4
      case hy1x4 => (intro w hSw; refine exec_loadS 69 (.tmp 19) ?_ b1 (o1 + k * 2) (twOne r1) ?_ (G1.out _ (below_on Hbr.out hSw)) Tryz.underlying69 ?_ ?_; rfl; rfl; rfl; kernel_rfl)
      try simp only [Act.put, List.setIfInBounds_toArray, List.set_cons_zero, List.set_cons_succ]
      refine wpAnyH_take (i := 4) (oi := { dst := some 21, op := _, type := _, pos := _, after := _, guard := _ }) (v := ?v1x5) rfl (by kernel_rfl) (by kernel_rfl) (by kernel_rfl) (fun _ _ _ h => h) (Or.inl ⟨by rfl, ?hy1x5⟩) hHeld ?rest1x5
      case hy1x5 => (intro w hSw; go_simp <;> with_reducible rfl)
      try simp only [Act.put, List.setIfInBounds_toArray, List.set_cons_zero, List.set_cons_succ]
      refine wpAnyH_take (i := 5) (oi := { dst := some 22, op := _, type := _, pos := _, after := _, guard := _ }) (v := ?v1x6) rfl (by kernel_rfl) (by kernel_rfl) (by kernel_rfl) (fun _ _ _ h => h) (Or.inl ⟨by rfl, ?hy1x6⟩) hHeld ?rest1x6
      case hy1x6 => (intro w hSw; go_simp <;> with_reducible rfl)
      try simp only [Act.put, List.setIfInBounds_toArray, List.set_cons_zero, List.set_cons_succ]
      refine wpAnyH_take (i := 6) (oi := { dst := some 23, op := _, type := _, pos := _, after := _, guard := _ }) (v := ?v1x7) rfl (by kernel_rfl) (by kernel_rfl) (by kernel_rfl) (fun _ _ _ h => h) (Or.inl ⟨by rfl, ?hy1x7⟩) hHeld ?rest1x7
      case hy1x7 => (intro w hSw; go_simp <;> with_reducible rfl)
      try simp only [Act.put, List.setIfInBounds_toArray, List.set_cons_zero, List.set_cons_succ]
      refine wpAnyH_take (i := 7) (oi := { dst := some 24, op := _, type := _, pos := _, after := _, guard := _ }) (v := ?v1x8) rfl (by kernel_rfl) (by kernel_rfl) (by kernel_rfl) (fun _ _ _ h => h) (Or.inl ⟨by rfl, ?hy1x8⟩) hHeld ?rest1x8
      case hy1x8 => (intro w hSw; refine exec_loadS 69 (.tmp 23) ?_ b2 (o2 + k * 2) (twOne r2) ?_ (G2.out _ (below_on Hbr.out hSw)) Tryz.underlying69 ?_ ?_; rfl; rfl; rfl; kernel_rfl)
      try simp only [Act.put, List.setIfInBounds_toArray, List.set_cons_zero, List.set_cons_succ]
      refine wpAnyH_take (i := 8) (oi := { dst := some 25, op := _, type := _, pos := _, after := _, guard := _ }) (v := ?v1x9) rfl (by kernel_rfl) (by kernel_rfl) (by kernel_rfl) (fun _ _ _ h => h) (Or.inl ⟨by rfl, ?hy1x9⟩) hHeld ?rest1x9
      case hy1x9 => (intro w hSw; refine exec_neqS (v := .bool (!dd)) 69 69 (.tmp 20) (.tmp 24) ?_ (twOne r1).toArray (twOne r2).toArray ?_ ?_ ?_ (HQ2.out w); rfl; rfl; rfl; kernel_rfl)
      try simp only [Act.put, List.setIfInBounds_toArray, List.set_cons_zero, List.set_cons_succ]
      refine wpAnyH_done (by kernel_rfl) ?_ _
      have s6 := hHeld
      clear G1 G2
      cases dd with
      | false =>
        obtain rfl := Hdec.out rfl
        go_wp2_with fail
        go_ret
        exact ⟨rfl, below_on Hbr.out s6⟩
      | true =>
        have hnx := hide (Hdt.out rfl)
        go_wp2_with fail
        exact ⟨⟨k + 1, by go_num, by omega, hnx.out, below_on Hbr.out s6⟩, by simp [intOf]; omega⟩
    · obtain rfl : k = n := by omega
      have q1 : ¬ (k : Int) < (k : Int) := by omega
      have hr : R = true := by
        rw [← HR.out]
        apply decide_eq_true
        have := Hall.out
        rwa [List.take_of_length_le (by rw [N1.out]; exact Nat.le_refl _), List.take_of_length_le (by rw [N2.out]; exact Nat.le_refl _)] at this
      subst hr
      go_wp2_with fail
      go_ret
      exact ⟨rfl, Hbr.out⟩

theorem sub_neq (a b : List UInt8 × Int) (w : World) : (Go.binOp .neq 33 (.agg (twOne a).toArray) (.agg (twOne b).toArray)).run Tryz.prog w = .ok (.bool (!decide (a = b))) w := by
  have hS : Tryz.prog.underlying 33 = some (.struct (Tryz.prog.fieldsOf 33)) := by kernel_rfl
  have hp : Tryz.prog.stoodInHeld 33 = false := by kernel_rfl
  rw [run_neq_struct, show (10000 : Nat) = 9999 + 1 from rfl, run_equalIn_agg w 9999 33 _ _ hS hp]
  simp only [Program.fieldsOf, Tryz.underlying33, twOne]
  obtain ⟨a1, a2⟩ := a
  obtain ⟨b1, b2⟩ := b
  go_simp
  by_cases h1 : a1 = b1 <;> by_cases h2 : a2 = b2 <;> simp [h1, h2]
set_option maxRecDepth 100000 in
theorem subs13_any (O1 O2 : Option Addr) (k1 k2 : Nat) (l1 l2 : List (List UInt8 × Int)) (w : World) (h1 : Rd w O1 (l1.length * 2) (twVs l1)) (h2 : Rd w O2 (l2.length * 2) (twVs l2)) (n1 : l1.length ≤ 65535) (n2 : l2.length ≤ 65535) :
    Calls Tryz.prog 17 #[.slice O1 l1.length k1, .slice O2 l2.length k2] w fun e w' => e = .returned (.bool (decide (l1 = l2))) ∧ Below w.heap.size w w' := by
  have H1 := hide h1
  have H2 := hide h2
  clear h1 h2
  obtain ⟨R, hR⟩ : ∃ R, decide (l1 = l2) = R := ⟨_, rfl⟩
  rw [hR]
  have HR := hide hR
  clear hR
  by_cases hn : l1.length = l2.length
  case neg =>
    have q : ((l1.length : Int) != (l2.length : Int)) = true := by rw [bne_iff_ne]; omega
    have hr : R = false := by
      rw [← HR.out]
      apply decide_eq_false
      intro e
      exact hn (congrArg List.length e)
    subst hr
    clear hn
    go_enter Tryz.func17, Tryz.ntmps17
    go_wp2_with fail
    go_ret
    exact ⟨rfl, Below.refl _ _⟩
  case pos =>
  obtain ⟨n, hn1⟩ : ∃ n, l1.length = n := ⟨_, rfl⟩
  have hn2 : l2.length = n := by rw [← hn, hn1]
  rw [hn1, hn2]
  have N1 := hide hn1
  have N2 := hide hn2
  rw [hn1] at n1
  clear n2 hn hn1 hn2
  go_enter Tryz.func17, Tryz.ntmps17
  go_wp2_with fail
  go_loopw [5] (fun i wr => ∃ k : Nat, i = .int .i64 (k : Int) ∧ k ≤ n ∧ l1.take k = l2.take k ∧ Below w.heap.size w wr) (fun i _ => n - (intOf i).toNat)
  case atStart => exact ⟨0, rfl, by omega, rfl, Below.refl _ _⟩
  case round =>
    obtain ⟨k, rfl, hkn, hall, hbr⟩ := hrel
    have Hall := hide hall
    have Hbr := hide hbr
    clear hall hbr
    by_cases hlt : k < n
    · have q1 : (k : Int) < (n : Int) := by omega
      have hl1 : k < l1.length := by rw [N1.out]; exact hlt
      have hl2 : k < l2.length := by rw [N2.out]; exact hlt
      obtain ⟨b1, o1, rfl, hb1, hc1⟩ := tw_at H1.out k hl1
      obtain ⟨b2, o2, rfl, hb2, hc2⟩ := tw_at H2.out k hl2
      have tk1 : l1.take (k + 1) = l1.take k ++ [l1[k]] := (List.take_append_getElem hl1).symm
      have tk2 : l2.take (k + 1) = l2.take k ++ [l2[k]] := (List.take_append_getElem hl2).symm
      have G1 := hide (show ∀ W, Below w.heap.size w W → W.rangeAt b1 (o1 + k * 2) (twOne l1[k]) from fun W b j v hv => (b.cell (p := ⟨b1, o1 + k * 2 + j, none⟩) hb1).trans (hc1 k hl1 j v hv))
      have G2 := hide (show ∀ W, Below w.heap.size w W → W.rangeAt b2 (o2 + k * 2) (twOne l2[k]) from fun W b j v hv => (b.cell (p := ⟨b2, o2 + k * 2 + j, none⟩) hb2).trans (hc2 k hl2 j v hv))
      have hdec : decide (l1[k] = l2[k]) = false → R = false := fun hd => by
        rw [← HR.out]
        apply decide_eq_false
        intro e
        subst e
        simp at hd
      have hdt : decide (l1[k] = l2[k]) = true → l1.take (k + 1) = l2.take (k + 1) := fun hd => by
        rw [tk1, tk2, Hall.out, of_decide_eq_true hd]
      generalize l1[k] = r1 at *
      generalize l2[k] = r2 at *
      have HQ := hide (sub_neq r1 r2)
      obtain ⟨dd, hdd⟩ : ∃ dd, decide (r1 = r2) = dd := ⟨_, rfl⟩
      rw [hdd] at hdec hdt
      have HQ2 : Hid (∀ W, (Go.binOp .neq 33 (.agg (twOne r1).toArray) (.agg (twOne r2).toArray)).run Tryz.prog W = .ok (.bool (!dd)) W) := hide (by intro W; rw [HQ.out W, hdd])
      have Hdec := hide hdec
      have Hdt := hide hdt
      clear HQ hdd hdec hdt tk1 tk2 hc1 hc2 hl1 hl2
      go_upto_region 6 with fail
      refine wp_region_held_drew (S := fun Z => Below wr.heap.size wr Z) (by kernel_rfl) ?_ (fun hHeld => ?_)
      · exact (Below.refl _ _).drew
      refine wpAnyH_take (i := 0) (oi := { dst := some 17, op := _, type := _, pos := _, after := _, guard := _ }) (v := ?v2x1) rfl (by kernel_rfl) (by kernel_rfl) (by kernel_rfl) (fun _ _ _ h => h) (Or.inl ⟨by rfl, ?hy2x1⟩) hHeld ?rest2x1
      case hy2x1 => (intro w hSw; go_simp <;> with_reducible rfl)
      try simp only [Act.put, List.setIfInBounds_toArray, List.set_cons_zero, List.set_cons_succ]
      refine wpAnyH_take (i := 1) (oi := { dst := some 18, op := _, type := _, pos := _, after := _, guard := _ }) (v := ?v2x2) rfl (by kernel_rfl) (by kernel_rfl) (by kernel_rfl) (fun _ _ _ h => h) (Or.inl ⟨by rfl, ?hy2x2⟩) hHeld ?rest2x2
      case hy2x2 => (intro w hSw; go_simp <;> with_reducible rfl)
      try simp only [Act.put, List.setIfInBounds_toArray, List.set_cons_zero, List.set_cons_succ]
      refine wpAnyH_take (i := 2) (oi := { dst := some 19, op := _, type := _, pos := _, after := _, guard := _ }) (v := ?v2x3) rfl (by kernel_rfl) (by kernel_rfl) (by kernel_rfl) (fun _ _ _ h => h) (Or.inl ⟨by rfl, ?hy2x3⟩) hHeld ?rest2x3
      case hy2x3 => (intro w hSw; go_simp <;> with_reducible rfl)
      try simp only [Act.put, List.setIfInBounds_toArray, List.set_cons_zero, List.set_cons_succ]
      refine wpAnyH_take (i := 3) (oi := { dst := some 20, op := _, type := _, pos := _, after := _, guard := _ }) (v := ?v2x4) rfl (by kernel_rfl) (by kernel_rfl) (by kernel_rfl) (fun _ _ _ h => h) (Or.inl ⟨by rfl, ?hy2x4⟩) hHeld ?rest2x4
      case hy2x4 => (intro w hSw; refine exec_loadS 33 (.tmp 19) ?_ b1 (o1 + k * 2) (twOne r1) ?_ (G1.out _ (below_on Hbr.out hSw)) Tryz.underlying33 ?_ ?_; rfl; rfl; rfl; kernel_rfl)
      try simp only [Act.put, List.setIfInBounds_toArray, List.set_cons_zero, List.set_cons_succ]
      refine wpAnyH_take (i := 4) (oi := { dst := some 21, op := _, type := _, pos := _, after := _, guard := _ }) (v := ?v2x5) rfl (by kernel_rfl) (by kernel_rfl) (by kernel_rfl) (fun _ _ _ h => h) (Or.inl ⟨by rfl, ?hy2x5⟩) hHeld ?rest2x5
      case hy2x5 => (intro w hSw; go_simp <;> with_reducible rfl)
      try simp only [Act.put, List.setIfInBounds_toArray, List.set_cons_zero, List.set_cons_succ]
      refine wpAnyH_take (i := 5) (oi := { dst := some 22, op := _, type := _, pos := _, after := _, guard := _ }) (v := ?v2x6) rfl (by kernel_rfl) (by kernel_rfl) (by kernel_rfl) (fun _ _ _ h => h) (Or.inl ⟨by rfl, ?hy2x6⟩) hHeld ?rest2x6
      case hy2x6 => (intro w hSw; go_simp <;> with_reducible rfl)
      try simp only [Act.put, List.setIfInBounds_toArray, List.set_cons_zero, List.set_cons_succ]
      refine wpAnyH_take (i := 6) (oi := { dst := some 23, op := _, type := _, pos := _, after := _, guard := _ }) (v := ?v2x7) rfl (by kernel_rfl) (by kernel_rfl) (by kernel_rfl) (fun _ _ _ h => h) (Or.inl ⟨by rfl, ?hy2x7⟩) hHeld ?rest2x7
      case hy2x7 => (intro w hSw; go_simp <;> with_reducible rfl)
      try simp only [Act.put, List.setIfInBounds_toArray, List.set_cons_zero, List.set_cons_succ]
      refine wpAnyH_take (i := 7) (oi := { dst := some 24, op := _, type := _, pos := _, after := _, guard := _ }) (v := ?v2x8) rfl (by kernel_rfl) (by kernel_rfl) (by kernel_rfl) (fun _ _ _ h => h) (Or.inl ⟨by rfl, ?hy2x8⟩) hHeld ?rest2x8
      case hy2x8 => (intro w hSw; refine exec_loadS 33 (.tmp 23) ?_ b2 (o2 + k * 2) (twOne r2) ?_ (G2.out _ (below_on Hbr.out hSw)) Tryz.underlying33 ?_ ?_; rfl; rfl; rfl; kernel_rfl)
      try simp only [Act.put, List.setIfInBounds_toArray, List.set_cons_zero, List.set_cons_succ]
      refine wpAnyH_take (i := 8) (oi := { dst := some 25, op := _, type := _, pos := _, after := _, guard := _ }) (v := ?v2x9) rfl (by kernel_rfl) (by kernel_rfl) (by kernel_rfl) (fun _ _ _ h => h) (Or.inl ⟨by rfl, ?hy2x9⟩) hHeld ?rest2x9
      case hy2x9 => (intro w hSw; refine exec_neqS (v := .bool (!dd)) 33 33 (.tmp 20) (.tmp 24) ?_ (twOne r1).toArray (twOne r2).toArray ?_ ?_ ?_ (HQ2.out w); rfl; rfl; rfl; kernel_rfl)
      try simp only [Act.put, List.setIfInBounds_toArray, List.set_cons_zero, List.set_cons_succ]
      refine wpAnyH_done (by kernel_rfl) ?_ _
      have s6 := hHeld
      clear G1 G2
      cases dd with
      | false =>
        obtain rfl := Hdec.out rfl
        go_wp2_with fail
        go_ret
        exact ⟨rfl, below_on Hbr.out s6⟩
      | true =>
        have hnx := hide (Hdt.out rfl)
        go_wp2_with fail
        exact ⟨⟨k + 1, by go_num, by omega, hnx.out, below_on Hbr.out s6⟩, by simp [intOf]; omega⟩
    · obtain rfl : k = n := by omega
      have q1 : ¬ (k : Int) < (k : Int) := by omega
      have hr : R = true := by
        rw [← HR.out]
        apply decide_eq_true
        have := Hall.out
        rwa [List.take_of_length_le (by rw [N1.out]; exact Nat.le_refl _), List.take_of_length_le (by rw [N2.out]; exact Nat.le_refl _)] at this
      subst hr
      go_wp2_with fail
      go_ret
      exact ⟨rfl, Hbr.out⟩

end Go.Proofs.YtfjafpbmgbnllaaGreat
