/-
  What is proved here: the law SubsOrder returns true for every script, turn and name, and writes nothing that was there. No condition.
-/
import Derived.Test.YtfjafpbmgbnllaaSp12
import Derived.Test.YtfjafpbmgbnllaaTr4
import Derived.Test.YtfjafpbmgbnllaaOpen13
namespace Go.Proofs.Ytfjafpbmgbnllaa
set_option linter.unusedVariables false
set_option linter.unusedSimpArgs false
open Go.RowKit

/-- What few says. -/
theorem fewO_yes {l : List OpS} (h : fewB l = true) : l.length ≤ 100 ∧ ∀ o ∈ l, o.f.length ≤ 100 ∧ o.c.length ≤ 100 := by
  unfold fewB at h
  rw [Bool.and_eq_true, List.all_eq_true] at h
  refine ⟨of_decide_eq_true h.1, fun o ho => ?_⟩
  have := h.2 o ho
  rw [Bool.and_eq_true] at this
  exact ⟨of_decide_eq_true this.1, of_decide_eq_true this.2⟩
/-- A call as an entry; the rows of entries, turned. -/
def seO (o : OpS) : SE := ⟨o.c, o.f, o.q⟩
def tsO (l : List OpS) : List SE := l.map seO
def rotO (ts : List SE) (d : Nat) : List SE := ts.drop d ++ ts.take d
theorem rotO_len (ts : List SE) (d : Nat) : (rotO ts d).length = ts.length := by
  unfold rotO
  rw [List.length_append, List.length_drop, List.length_take]
  omega
theorem rotO_get (ts : List SE) (d i : Nat) (hd : d < ts.length) (hi : i < ts.length) (h1 : i < (rotO ts d).length) (h2 : (i + d) % ts.length < ts.length) : (rotO ts d)[i] = ts[(i + d) % ts.length] := by
  have h1' : i < (ts.drop d ++ ts.take d).length := h1
  show (ts.drop d ++ ts.take d)[i]'h1' = _
  by_cases h : i < ts.length - d
  · have e : (i + d) % ts.length = d + i := by rw [Nat.mod_eq_of_lt (show i + d < ts.length by omega)]; omega
    rw [List.getElem_append_left (by rw [List.length_drop]; exact h), List.getElem_drop]
    simp only [e]
  · have e : (i + d) % ts.length = i - (ts.length - d) := by rw [Nat.mod_eq_sub_mod (show ts.length ≤ i + d by omega), Nat.mod_eq_of_lt (show i + d - ts.length < ts.length by omega)]; omega
    rw [List.getElem_append_right (by rw [List.length_drop]; omega), List.getElem_take]
    simp only [List.length_drop, e]
theorem addAll_next (ts : List SE) (i : Nat) (h : i < ts.length) : addAll (ts.take (i + 1)) = addV (addAll (ts.take i)) ts[i].c ts[i].f ts[i].q := by
  rw [List.take_succ_eq_append_getElem h, addAll_snoc]
theorem uniqE_next {ts : List SE} {i : Nat} (h : uniqE (ts.take i)) (hi : i < ts.length) (hn : ∀ j (hj : j < ts.length), j < i → ¬ (ts[j].c = ts[i].c ∧ ts[j].f = ts[i].f)) : uniqE (ts.take (i + 1)) := by
  rw [List.take_succ_eq_append_getElem hi]
  unfold uniqE at h ⊢
  rw [List.pairwise_append]
  refine ⟨h, List.pairwise_singleton _ _, fun a ha b hb => ?_⟩
  rw [List.mem_singleton] at hb
  subst hb
  obtain ⟨j, hj, rfl⟩ := List.getElem_of_mem ha
  rw [List.length_take] at hj
  rw [List.getElem_take]
  exact hn j (by omega) (by omega)
/-- Those that are not of this client. -/
def offO (g : List UInt8) (l : List (List UInt8 × Int)) : List (List UInt8 × Int) := l.filter fun s => !decide (s.1 = g)
theorem offO_snoc (g : List UInt8) (l : List (List UInt8 × Int)) (s : List UInt8 × Int) : offO g (l ++ [s]) = if s.1 = g then offO g l else offO g l ++ [s] := by
  unfold offO
  rw [List.filter_append]
  by_cases h : s.1 = g <;> simp [h]
theorem offO_le (g : List UInt8) (l : List (List UInt8 × Int)) : (offO g l).length ≤ l.length := List.length_filter_le _ _


set_option maxHeartbeats 8000000 in
set_option maxRecDepth 100000 in
theorem order13_walk (A : Option Addr) (l : List OpS) (k : Nat) (by_ : Int) (s2 : ByteArray) (w : World) (hs : ScrS w A l) :
    Calls Try.prog 3 #[.slice A l.length k, .int .i64 by_, .string s2] w fun e w' => e = .returned (.bool true) ∧ Below w.heap.size w w' := by
  obtain ⟨nm, rfl⟩ : ∃ xs, s2 = str xs := ⟨_, (str_of s2).symm⟩
  have F := hide (few13_any A k l w hs)
  have P := hide fun W => rNameAny nm W
  have HS := hide hs
  have hsz : (str nm).size = nm.length := size_str nm
  clear hs
  cases hfw : fewB l with
  | false =>
    rw [hfw] at F
    clear hfw
    go_enter Try.func3, Try.ntmps3
    go_wp2_with fail
    refine F.out.mono ?_
    rintro e w1 ⟨rfl, rfl⟩
    go_wp2_with fail
    go_ret
    exact ⟨rfl, Below.refl _ _⟩
  | true =>
  rw [hfw] at F
  obtain ⟨hlen, hall⟩ := fewO_yes hfw
  have HALL := hide hall
  clear hfw hall
  by_cases hb0 : by_ < 0
  · skip
    go_enter Try.func3, Try.ntmps3
    go_wp2_with fail
    refine F.out.mono ?_
    rintro e w1 ⟨rfl, rfl⟩
    go_wp2_with fail
    go_ret
    exact ⟨rfl, Below.refl _ _⟩
  by_cases hbn : (l.length : Int) ≤ by_
  · skip
    go_enter Try.func3, Try.ntmps3
    go_wp2_with fail
    refine F.out.mono ?_
    rintro e w1 ⟨rfl, rfl⟩
    go_wp2_with fail
    go_ret
    exact ⟨rfl, Below.refl _ _⟩
  cases hnm : nameL nm with
  | false =>
    rw [hnm] at P
    clear hnm
    go_enter Try.func3, Try.ntmps3
    go_wp2_with fail
    refine F.out.mono ?_
    rintro e w1 ⟨rfl, rfl⟩
    go_wp2_with fail
    refine (P.out _).mono ?_
    rintro e w2 ⟨rfl, b2⟩
    have B2 := hide b2
    clear b2
    go_wp2_with fail
    go_ret
    exact ⟨rfl, B2.out⟩
  | true =>
  rw [hnm] at P
  have HNM := hide hnm
  clear hnm
  by_cases hl : 100 < nm.length
  · have q0 : (100 : Int) < (nm.length : Int) := by omega
    go_enter Try.func3, Try.ntmps3
    go_wp2_with fail
    refine F.out.mono ?_
    rintro e w1 ⟨rfl, rfl⟩
    go_wp2_with fail
    refine (P.out _).mono ?_
    rintro e w2 ⟨rfl, b2⟩
    have B2 := hide b2
    clear b2
    go_wp2_with fail
    go_ret
    exact ⟨rfl, B2.out⟩
  have q0 : ¬ (100 : Int) < (nm.length : Int) := by omega
  have HL : Hid (nm.length ≤ 65535) := hide (by omega)
  clear hl
  go_enter Try.func3, Try.ntmps3
  go_wp2_with fail
  refine F.out.mono ?_
  rintro e w1 ⟨rfl, rfl⟩
  go_wp2_with fail
  refine (P.out _).mono ?_
  rintro e w2 ⟨rfl, b2⟩
  have B2 := hide b2
  clear b2
  go_wp2_with fail
  obtain ⟨d, rfl⟩ : ∃ d : Nat, by_ = (d : Int) := ⟨by_.toNat, by omega⟩
  have hdn : d < l.length := by omega
  obtain ⟨ts, hts⟩ : ∃ ts, tsO l = ts := ⟨_, rfl⟩
  have htl : ts.length = l.length := by rw [← hts]; exact List.length_map _
  have htg : ∀ i (h : i < l.length) (h2 : i < ts.length), ts[i] = seO l[i] := by
    intro i h h2
    subst hts
    simp [tsO]
  have HTL := hide htl
  have HTG := hide htg
  clear hts htl htg hb0 hbn q0 F P
  obtain ⟨n, hn⟩ : ∃ n, l.length = n := ⟨_, rfl⟩
  have HN := hide hn
  rw [hn] at hdn hlen ⊢
  clear hn
  refine (xNew w w2 B2.out).mono ?_
  rintro e w3 ⟨B, rfl, h3⟩
  have H3 := hide h3
  clear h3 B2 hsz
  go_wp2_with fail
  refine (yNew H3.out).mono ?_
  rintro e w4 ⟨C, rfl, h4⟩
  have H4 := hide h4
  clear h4 H3
  go_wp2_with fail
  go_loopw [9] (fun x wr => ∃ i, x = .int .i64 ((i : Nat) : Int) ∧ i ≤ n ∧ Xy noT w wr B C (addAll (ts.take i)) (addAll ((rotO ts d).take i)) (2 * i) ∧ uniqE (ts.take i)) (fun x _ => n - (intOf x).toNat)
  case atStart => exact ⟨0, rfl, by omega, H4.out, List.Pairwise.nil⟩
  case round =>
    obtain ⟨i, rfl, hi, hX, hun⟩ := hrel
    have HX := hide hX
    have HUN := hide hun
    clear hX H4 hun
    by_cases hlt : i < n
    · have q : (i : Int) < (n : Int) := by omega
      have hil : i < l.length := by rw [HN.out]; exact hlt
      have hit : i < ts.length := by rw [HTL.out]; exact hil
      obtain ⟨b, o, hA, hbl, hc⟩ := HS.out.at_ i hil
      have hr := hc i hil
      have hm := HALL.out _ (List.getElem_mem hil)
      have hcc : ∀ j v, (l[i]).vs[j]? = some v → wr.cell? ⟨b, o + i * 4 + j, none⟩ = some v := fun j v hv => (HX.out.bel.cell (p := ⟨b, o + i * 4 + j, none⟩) hbl).trans (hr j v hv)
      have HCL := hide (fun j (hj : j < l.length) => hc j hj)
      have HBL := hide hbl
      have htgi := HTG.out i hil hit
      have hnx := addAll_next ts i hit
      have hux := fun hn => uniqE_next (i := i) HUN.out hit hn
      rw [htgi] at hnx hux
      clear hc hr htgi hbl
      generalize hp : l[i] = p at *
      obtain ⟨call, c, f, q4⟩ := p
      simp only [seO] at hm hnx hux
      have HNX := hide hnx
      have HUX := hide hux
      have c0 : wr.cell? ⟨b, o + i * 4, none⟩ = some (.int .i64 call) := hcc 0 _ rfl
      have c1 : wr.cell? ⟨b, o + i * 4 + 1, none⟩ = some (.string (str c)) := hcc 1 _ rfl
      have c2 : wr.cell? ⟨b, o + i * 4 + 2, none⟩ = some (.string (str f)) := hcc 2 _ rfl
      have c3 : wr.cell? ⟨b, o + i * 4 + 3, none⟩ = some (.int .i64 q4) := hcc 3 _ rfl
      clear hcc hnx hux hp hil hit
      subst hA
      go_upto_region 11 with fail
      generalize hU : wr.alloc _ = U
      obtain ⟨zU, bU⟩ := box1 wr 28 (OpS.vs ⟨call, c, f, q4⟩) U hU.symm
      have hUs : U.heap.size = wr.heap.size + 1 := by rw [← hU]; simp
      obtain ⟨g, hg⟩ : ∃ g, wr.heap.size = g := ⟨_, rfl⟩
      rw [hg] at zU hUs ⊢
      have HBU := hide bU
      have ZU := hide zU
      have HG := hide hg
      clear c0 c1 c2 c3 hU bU zU hg
      go_wp2_with fail
      go_loopw [11] (fun x wz => ∃ kk : Nat, x = .int .i64 (kk : Int) ∧ kk ≤ i ∧ Below U.heap.size U wz ∧ ∀ j (hj : j < l.length), j < kk → ¬ ((l[j]).c = c ∧ (l[j]).f = f)) (fun x _ => i - (intOf x).toNat)
      case atStart => exact ⟨0, rfl, by omega, Below.refl _ _, fun j hj h => by omega⟩
      case round =>
        obtain ⟨kk, rfl, hkk, hbz, hno⟩ := hrel
        have HBZ := hide hbz
        have HNO := hide hno
        have HBW := hide (below_on HX.out.bel (below_on HBU.out hbz))
        clear hbz hno
        have hzU := ZU.out.keep HBZ.out
        by_cases hki : kk < i
        · have q1 : (kk : Int) < (i : Int) := by omega
          have q2 : (kk : Int) < (n : Int) := by omega
          have hkl : kk < l.length := by rw [HN.out]; omega
          have hr := HCL.out kk hkl
          have hst : (∀ j (hj : j < l.length), j < kk → ¬ ((l[j]).c = c ∧ (l[j]).f = f)) → ¬ ((l[kk]).c = c ∧ (l[kk]).f = f) → ∀ j (hj : j < l.length), j < kk + 1 → ¬ ((l[j]).c = c ∧ (l[j]).f = f) := by
            intro h1 h2 j hj hjk
            by_cases he : j = kk
            · subst he
              exact h2
            · exact h1 j hj (by omega)
          have HST := hide (hst HNO.out)
          clear hst
          generalize l[kk] = p at *
          obtain ⟨call', c', f', q4'⟩ := p
          have cw1 : ∀ v, Below wr.heap.size wr v → v.cell? ⟨b, o + kk * 4 + 1, none⟩ = some (.string (str c')) := fun v bv => ((below_on HBW.out bv).cell (p := ⟨b, o + kk * 4 + 1, none⟩) HBL.out).trans (hr 1 _ rfl)
          have cw2 : ∀ v, Below wr.heap.size wr v → v.cell? ⟨b, o + kk * 4 + 2, none⟩ = some (.string (str f')) := fun v bv => ((below_on HBW.out bv).cell (p := ⟨b, o + kk * 4 + 2, none⟩) HBL.out).trans (hr 2 _ rfl)
          have dw1 : ∀ v, Below wr.heap.size wr v → v.cell? ⟨g, 1, none⟩ = some (.string (str c)) := fun v bv => (hzU.keep bv).cell 1
          have dw2 : ∀ v, Below wr.heap.size wr v → v.cell? ⟨g, 2, none⟩ = some (.string (str f)) := fun v bv => (hzU.keep bv).cell 2
          clear hr hkl
          by_cases h1 : c' = c
          · have q5 : (c' == c) = true := beq_iff_eq.2 h1
            by_cases h2 : f' = f
            · have q6 : (f' == f) = true := beq_iff_eq.2 h2
              clear h1 h2
              go_upto_region 14 with fail
              refine wp_region_held_drew (S := fun Z => Below wr.heap.size wr Z) (by kernel_rfl) ?_ (fun hHeld => ?_)
              · exact (Below.refl _ _).drew
              refine wpAnyH_take (i := 0) (oi := { dst := some 70, op := _, type := _, pos := _, after := _, guard := _ }) (v := ?v1x1) rfl (by kernel_rfl) (by kernel_rfl) (by kernel_rfl) (fun _ _ _ h => h) (Or.inl ⟨by rfl, ?hy1x1⟩) hHeld ?rest1x1
              case hy1x1 => (intro w hSw; go_simp <;> with_reducible rfl)
              try simp only [Act.put, List.setIfInBounds_toArray, List.set_cons_zero, List.set_cons_succ]
              refine wpAnyH_take (i := 1) (oi := { dst := some 71, op := _, type := _, pos := _, after := _, guard := _ }) (v := ?v1x2) rfl (by kernel_rfl) (by kernel_rfl) (by kernel_rfl) (fun _ _ _ h => h) (Or.inl ⟨by rfl, ?hy1x2⟩) hHeld ?rest1x2
              case hy1x2 => (intro w hSw; go_simp <;> with_reducible rfl)
              try simp only [Act.put, List.setIfInBounds_toArray, List.set_cons_zero, List.set_cons_succ]
              refine wpAnyH_take (i := 2) (oi := { dst := some 72, op := _, type := _, pos := _, after := _, guard := _ }) (v := ?v1x3) rfl (by kernel_rfl) (by kernel_rfl) (by kernel_rfl) (fun _ _ _ h => h) (Or.inl ⟨by rfl, ?hy1x3⟩) hHeld ?rest1x3
              case hy1x3 => (intro w hSw; go_simp <;> with_reducible rfl)
              try simp only [Act.put, List.setIfInBounds_toArray, List.set_cons_zero, List.set_cons_succ]
              refine wpAnyH_take (i := 3) (oi := { dst := some 73, op := _, type := _, pos := _, after := _, guard := _ }) (v := ?v1x4) rfl (by kernel_rfl) (by kernel_rfl) (by kernel_rfl) (fun _ _ _ h => h) (Or.inl ⟨by rfl, ?hy1x4⟩) hHeld ?rest1x4
              case hy1x4 => (intro w hSw; go_simp <;> with_reducible rfl)
              try simp only [Act.put, List.setIfInBounds_toArray, List.set_cons_zero, List.set_cons_succ]
              refine wpAnyH_take (i := 4) (oi := { dst := some 74, op := _, type := _, pos := _, after := _, guard := _ }) (v := ?v1x5) rfl (by kernel_rfl) (by kernel_rfl) (by kernel_rfl) (fun _ _ _ h => h) (Or.inl ⟨by rfl, ?hy1x5⟩) hHeld ?rest1x5
              case hy1x5 => (intro w hSw; go_simp <;> with_reducible rfl)
              try simp only [Act.put, List.setIfInBounds_toArray, List.set_cons_zero, List.set_cons_succ]
              refine wpAnyH_take (i := 5) (oi := { dst := some 75, op := _, type := _, pos := _, after := _, guard := _ }) (v := ?v1x6) rfl (by kernel_rfl) (by kernel_rfl) (by kernel_rfl) (fun _ _ _ h => h) (Or.inl ⟨by rfl, ?hy1x6⟩) hHeld ?rest1x6
              case hy1x6 => (intro w hSw; go_simp <;> with_reducible rfl)
              try simp only [Act.put, List.setIfInBounds_toArray, List.set_cons_zero, List.set_cons_succ]
              refine wpAnyH_take (i := 6) (oi := { dst := some 76, op := _, type := _, pos := _, after := _, guard := _ }) (v := ?v1x7) rfl (by kernel_rfl) (by kernel_rfl) (by kernel_rfl) (fun _ _ _ h => h) (Or.inl ⟨by rfl, ?hy1x7⟩) hHeld ?rest1x7
              case hy1x7 => (intro w hSw; go_simp <;> with_reducible rfl)
              try simp only [Act.put, List.setIfInBounds_toArray, List.set_cons_zero, List.set_cons_succ]
              refine wpAnyH_take (i := 7) (oi := { dst := some 77, op := _, type := _, pos := _, after := _, guard := _ }) (v := ?v1x8) rfl (by kernel_rfl) (by kernel_rfl) (by kernel_rfl) (fun _ _ _ h => h) (Or.inl ⟨by rfl, ?hy1x8⟩) hHeld ?rest1x8
              case hy1x8 => (intro w hSw; go_simp <;> with_reducible rfl)
              try simp only [Act.put, List.setIfInBounds_toArray, List.set_cons_zero, List.set_cons_succ]
              refine wpAnyH_take (i := 8) (oi := { dst := some 78, op := _, type := _, pos := _, after := _, guard := _ }) (v := ?v1x9) rfl (by kernel_rfl) (by kernel_rfl) (by kernel_rfl) (fun _ _ _ h => h) (Or.inl ⟨by rfl, ?hy1x9⟩) hHeld ?rest1x9
              case hy1x9 => (intro w hSw; go_simp <;> with_reducible rfl)
              try simp only [Act.put, List.setIfInBounds_toArray, List.set_cons_zero, List.set_cons_succ]
              refine wpAnyH_take (i := 9) (oi := { dst := some 79, op := _, type := _, pos := _, after := _, guard := _ }) (v := ?v1x10) rfl (by kernel_rfl) (by kernel_rfl) (by kernel_rfl) (fun _ _ _ h => h) (Or.inl ⟨by rfl, ?hy1x10⟩) hHeld ?rest1x10
              case hy1x10 => (intro w hSw; go_simp <;> with_reducible rfl)
              try simp only [Act.put, List.setIfInBounds_toArray, List.set_cons_zero, List.set_cons_succ]
              refine wpAnyH_take (i := 10) (oi := { dst := some 80, op := _, type := _, pos := _, after := _, guard := _ }) (v := ?v1x11) rfl (by kernel_rfl) (by kernel_rfl) (by kernel_rfl) (fun _ _ _ h => h) (Or.inl ⟨by rfl, ?hy1x11⟩) hHeld ?rest1x11
              case hy1x11 => (intro w hSw; go_simp <;> with_reducible rfl)
              try simp only [Act.put, List.setIfInBounds_toArray, List.set_cons_zero, List.set_cons_succ]
              refine wpAnyH_take (i := 11) (oi := { dst := some 81, op := _, type := _, pos := _, after := _, guard := _ }) (v := ?v1x12) rfl (by kernel_rfl) (by kernel_rfl) (by kernel_rfl) (fun _ _ _ h => h) (Or.inl ⟨by rfl, ?hy1x12⟩) hHeld ?rest1x12
              case hy1x12 => (intro w hSw; go_simp <;> with_reducible rfl)
              try simp only [Act.put, List.setIfInBounds_toArray, List.set_cons_zero, List.set_cons_succ]
              refine wpAnyH_take (i := 12) (oi := { dst := some 82, op := _, type := _, pos := _, after := _, guard := _ }) (v := ?v1x13) rfl (by kernel_rfl) (by kernel_rfl) (by kernel_rfl) (fun _ _ _ h => h) (Or.inl ⟨by rfl, ?hy1x13⟩) hHeld ?rest1x13
              case hy1x13 => (intro w hSw; go_simp <;> with_reducible rfl)
              try simp only [Act.put, List.setIfInBounds_toArray, List.set_cons_zero, List.set_cons_succ]
              refine wpAnyH_take (i := 13) (oi := { dst := some 83, op := _, type := _, pos := _, after := _, guard := _ }) (v := ?v1x14) rfl (by kernel_rfl) (by kernel_rfl) (by kernel_rfl) (fun _ _ _ h => h) (Or.inl ⟨by rfl, ?hy1x14⟩) hHeld ?rest1x14
              case hy1x14 => (intro w hSw; go_simp <;> with_reducible rfl)
              try simp only [Act.put, List.setIfInBounds_toArray, List.set_cons_zero, List.set_cons_succ]
              refine wpAnyH_take (i := 14) (oi := { dst := some 84, op := _, type := _, pos := _, after := _, guard := _ }) (v := ?v1x15) rfl (by kernel_rfl) (by kernel_rfl) (by kernel_rfl) (fun _ _ _ h => h) (Or.inl ⟨by rfl, ?hy1x15⟩) hHeld ?rest1x15
              case hy1x15 => (intro w hSw; go_simp <;> with_reducible rfl)
              try simp only [Act.put, List.setIfInBounds_toArray, List.set_cons_zero, List.set_cons_succ]
              refine wpAnyH_take (i := 15) (oi := { dst := some 85, op := _, type := _, pos := _, after := _, guard := _ }) (v := ?v1x16) rfl (by kernel_rfl) (by kernel_rfl) (by kernel_rfl) (fun _ _ _ h => h) (Or.inl ⟨by rfl, ?hy1x16⟩) hHeld ?rest1x16
              case hy1x16 => (intro w hSw; go_simp <;> with_reducible rfl)
              try simp only [Act.put, List.setIfInBounds_toArray, List.set_cons_zero, List.set_cons_succ]
              refine wpAnyH_take (i := 16) (oi := { dst := some 86, op := _, type := _, pos := _, after := _, guard := _ }) (v := ?v1x17) rfl (by kernel_rfl) (by kernel_rfl) (by kernel_rfl) (fun _ _ _ h => h) (Or.inl ⟨by rfl, ?hy1x17⟩) hHeld ?rest1x17
              case hy1x17 => (intro w hSw; go_simp <;> with_reducible rfl)
              try simp only [Act.put, List.setIfInBounds_toArray, List.set_cons_zero, List.set_cons_succ]
              refine wpAnyH_take (i := 17) (oi := { dst := some 87, op := _, type := _, pos := _, after := _, guard := _ }) (v := ?v1x18) rfl (by kernel_rfl) (by kernel_rfl) (by kernel_rfl) (fun _ _ _ h => h) (Or.inl ⟨by rfl, ?hy1x18⟩) hHeld ?rest1x18
              case hy1x18 => (intro w hSw; go_simp <;> with_reducible rfl)
              try simp only [Act.put, List.setIfInBounds_toArray, List.set_cons_zero, List.set_cons_succ]
              refine wpAnyH_done (by kernel_rfl) ?_ _
              have hbel := below_on HBW.out hHeld
              clear hHeld cw1 cw2 dw1 dw2
              go_wp2_with fail
              go_ret
              exact ⟨rfl, hbel⟩
            · have q6 : (f' == f) = false := beq_eq_false_iff_ne.2 h2
              have HST2 := hide (HST.out fun h => h2 h.2)
              clear h1 h2
              go_upto_region 14 with fail
              refine wp_region_held_drew (S := fun Z => Below wr.heap.size wr Z) (by kernel_rfl) ?_ (fun hHeld => ?_)
              · exact (Below.refl _ _).drew
              refine wpAnyH_take (i := 0) (oi := { dst := some 70, op := _, type := _, pos := _, after := _, guard := _ }) (v := ?v2x1) rfl (by kernel_rfl) (by kernel_rfl) (by kernel_rfl) (fun _ _ _ h => h) (Or.inl ⟨by rfl, ?hy2x1⟩) hHeld ?rest2x1
              case hy2x1 => (intro w hSw; go_simp <;> with_reducible rfl)
              try simp only [Act.put, List.setIfInBounds_toArray, List.set_cons_zero, List.set_cons_succ]
              refine wpAnyH_take (i := 1) (oi := { dst := some 71, op := _, type := _, pos := _, after := _, guard := _ }) (v := ?v2x2) rfl (by kernel_rfl) (by kernel_rfl) (by kernel_rfl) (fun _ _ _ h => h) (Or.inl ⟨by rfl, ?hy2x2⟩) hHeld ?rest2x2
              case hy2x2 => (intro w hSw; go_simp <;> with_reducible rfl)
              try simp only [Act.put, List.setIfInBounds_toArray, List.set_cons_zero, List.set_cons_succ]
              refine wpAnyH_take (i := 2) (oi := { dst := some 72, op := _, type := _, pos := _, after := _, guard := _ }) (v := ?v2x3) rfl (by kernel_rfl) (by kernel_rfl) (by kernel_rfl) (fun _ _ _ h => h) (Or.inl ⟨by rfl, ?hy2x3⟩) hHeld ?rest2x3
              case hy2x3 => (intro w hSw; go_simp <;> with_reducible rfl)
              try simp only [Act.put, List.setIfInBounds_toArray, List.set_cons_zero, List.set_cons_succ]
              refine wpAnyH_take (i := 3) (oi := { dst := some 73, op := _, type := _, pos := _, after := _, guard := _ }) (v := ?v2x4) rfl (by kernel_rfl) (by kernel_rfl) (by kernel_rfl) (fun _ _ _ h => h) (Or.inl ⟨by rfl, ?hy2x4⟩) hHeld ?rest2x4
              case hy2x4 => (intro w hSw; go_simp <;> with_reducible rfl)
              try simp only [Act.put, List.setIfInBounds_toArray, List.set_cons_zero, List.set_cons_succ]
              refine wpAnyH_take (i := 4) (oi := { dst := some 74, op := _, type := _, pos := _, after := _, guard := _ }) (v := ?v2x5) rfl (by kernel_rfl) (by kernel_rfl) (by kernel_rfl) (fun _ _ _ h => h) (Or.inl ⟨by rfl, ?hy2x5⟩) hHeld ?rest2x5
              case hy2x5 => (intro w hSw; go_simp <;> with_reducible rfl)
              try simp only [Act.put, List.setIfInBounds_toArray, List.set_cons_zero, List.set_cons_succ]
              refine wpAnyH_take (i := 5) (oi := { dst := some 75, op := _, type := _, pos := _, after := _, guard := _ }) (v := ?v2x6) rfl (by kernel_rfl) (by kernel_rfl) (by kernel_rfl) (fun _ _ _ h => h) (Or.inl ⟨by rfl, ?hy2x6⟩) hHeld ?rest2x6
              case hy2x6 => (intro w hSw; go_simp <;> with_reducible rfl)
              try simp only [Act.put, List.setIfInBounds_toArray, List.set_cons_zero, List.set_cons_succ]
              refine wpAnyH_take (i := 6) (oi := { dst := some 76, op := _, type := _, pos := _, after := _, guard := _ }) (v := ?v2x7) rfl (by kernel_rfl) (by kernel_rfl) (by kernel_rfl) (fun _ _ _ h => h) (Or.inl ⟨by rfl, ?hy2x7⟩) hHeld ?rest2x7
              case hy2x7 => (intro w hSw; go_simp <;> with_reducible rfl)
              try simp only [Act.put, List.setIfInBounds_toArray, List.set_cons_zero, List.set_cons_succ]
              refine wpAnyH_take (i := 7) (oi := { dst := some 77, op := _, type := _, pos := _, after := _, guard := _ }) (v := ?v2x8) rfl (by kernel_rfl) (by kernel_rfl) (by kernel_rfl) (fun _ _ _ h => h) (Or.inl ⟨by rfl, ?hy2x8⟩) hHeld ?rest2x8
              case hy2x8 => (intro w hSw; go_simp <;> with_reducible rfl)
              try simp only [Act.put, List.setIfInBounds_toArray, List.set_cons_zero, List.set_cons_succ]
              refine wpAnyH_take (i := 8) (oi := { dst := some 78, op := _, type := _, pos := _, after := _, guard := _ }) (v := ?v2x9) rfl (by kernel_rfl) (by kernel_rfl) (by kernel_rfl) (fun _ _ _ h => h) (Or.inl ⟨by rfl, ?hy2x9⟩) hHeld ?rest2x9
              case hy2x9 => (intro w hSw; go_simp <;> with_reducible rfl)
              try simp only [Act.put, List.setIfInBounds_toArray, List.set_cons_zero, List.set_cons_succ]
              refine wpAnyH_take (i := 9) (oi := { dst := some 79, op := _, type := _, pos := _, after := _, guard := _ }) (v := ?v2x10) rfl (by kernel_rfl) (by kernel_rfl) (by kernel_rfl) (fun _ _ _ h => h) (Or.inl ⟨by rfl, ?hy2x10⟩) hHeld ?rest2x10
              case hy2x10 => (intro w hSw; go_simp <;> with_reducible rfl)
              try simp only [Act.put, List.setIfInBounds_toArray, List.set_cons_zero, List.set_cons_succ]
              refine wpAnyH_take (i := 10) (oi := { dst := some 80, op := _, type := _, pos := _, after := _, guard := _ }) (v := ?v2x11) rfl (by kernel_rfl) (by kernel_rfl) (by kernel_rfl) (fun _ _ _ h => h) (Or.inl ⟨by rfl, ?hy2x11⟩) hHeld ?rest2x11
              case hy2x11 => (intro w hSw; go_simp <;> with_reducible rfl)
              try simp only [Act.put, List.setIfInBounds_toArray, List.set_cons_zero, List.set_cons_succ]
              refine wpAnyH_take (i := 11) (oi := { dst := some 81, op := _, type := _, pos := _, after := _, guard := _ }) (v := ?v2x12) rfl (by kernel_rfl) (by kernel_rfl) (by kernel_rfl) (fun _ _ _ h => h) (Or.inl ⟨by rfl, ?hy2x12⟩) hHeld ?rest2x12
              case hy2x12 => (intro w hSw; go_simp <;> with_reducible rfl)
              try simp only [Act.put, List.setIfInBounds_toArray, List.set_cons_zero, List.set_cons_succ]
              refine wpAnyH_take (i := 12) (oi := { dst := some 82, op := _, type := _, pos := _, after := _, guard := _ }) (v := ?v2x13) rfl (by kernel_rfl) (by kernel_rfl) (by kernel_rfl) (fun _ _ _ h => h) (Or.inl ⟨by rfl, ?hy2x13⟩) hHeld ?rest2x13
              case hy2x13 => (intro w hSw; go_simp <;> with_reducible rfl)
              try simp only [Act.put, List.setIfInBounds_toArray, List.set_cons_zero, List.set_cons_succ]
              refine wpAnyH_take (i := 13) (oi := { dst := some 83, op := _, type := _, pos := _, after := _, guard := _ }) (v := ?v2x14) rfl (by kernel_rfl) (by kernel_rfl) (by kernel_rfl) (fun _ _ _ h => h) (Or.inl ⟨by rfl, ?hy2x14⟩) hHeld ?rest2x14
              case hy2x14 => (intro w hSw; go_simp <;> with_reducible rfl)
              try simp only [Act.put, List.setIfInBounds_toArray, List.set_cons_zero, List.set_cons_succ]
              refine wpAnyH_take (i := 14) (oi := { dst := some 84, op := _, type := _, pos := _, after := _, guard := _ }) (v := ?v2x15) rfl (by kernel_rfl) (by kernel_rfl) (by kernel_rfl) (fun _ _ _ h => h) (Or.inl ⟨by rfl, ?hy2x15⟩) hHeld ?rest2x15
              case hy2x15 => (intro w hSw; go_simp <;> with_reducible rfl)
              try simp only [Act.put, List.setIfInBounds_toArray, List.set_cons_zero, List.set_cons_succ]
              refine wpAnyH_take (i := 15) (oi := { dst := some 85, op := _, type := _, pos := _, after := _, guard := _ }) (v := ?v2x16) rfl (by kernel_rfl) (by kernel_rfl) (by kernel_rfl) (fun _ _ _ h => h) (Or.inl ⟨by rfl, ?hy2x16⟩) hHeld ?rest2x16
              case hy2x16 => (intro w hSw; go_simp <;> with_reducible rfl)
              try simp only [Act.put, List.setIfInBounds_toArray, List.set_cons_zero, List.set_cons_succ]
              refine wpAnyH_take (i := 16) (oi := { dst := some 86, op := _, type := _, pos := _, after := _, guard := _ }) (v := ?v2x17) rfl (by kernel_rfl) (by kernel_rfl) (by kernel_rfl) (fun _ _ _ h => h) (Or.inl ⟨by rfl, ?hy2x17⟩) hHeld ?rest2x17
              case hy2x17 => (intro w hSw; go_simp <;> with_reducible rfl)
              try simp only [Act.put, List.setIfInBounds_toArray, List.set_cons_zero, List.set_cons_succ]
              refine wpAnyH_take (i := 17) (oi := { dst := some 87, op := _, type := _, pos := _, after := _, guard := _ }) (v := ?v2x18) rfl (by kernel_rfl) (by kernel_rfl) (by kernel_rfl) (fun _ _ _ h => h) (Or.inl ⟨by rfl, ?hy2x18⟩) hHeld ?rest2x18
              case hy2x18 => (intro w hSw; go_simp <;> with_reducible rfl)
              try simp only [Act.put, List.setIfInBounds_toArray, List.set_cons_zero, List.set_cons_succ]
              refine wpAnyH_done (by kernel_rfl) ?_ _
              have hbel := below_on HBZ.out hHeld
              clear hHeld cw1 cw2 dw1 dw2
              go_wp2_with fail
              exact ⟨⟨kk + 1, by go_num, by omega, hbel, HST2.out⟩, by simp [intOf]; omega⟩
          · have q5 : (c' == c) = false := beq_eq_false_iff_ne.2 h1
            have HST2 := hide (HST.out fun h => h1 h.1)
            clear h1
            go_upto_region 14 with fail
            refine wp_region_held_drew (S := fun Z => Below wr.heap.size wr Z) (by kernel_rfl) ?_ (fun hHeld => ?_)
            · exact (Below.refl _ _).drew
            refine wpAnyH_take (i := 0) (oi := { dst := some 70, op := _, type := _, pos := _, after := _, guard := _ }) (v := ?v3x1) rfl (by kernel_rfl) (by kernel_rfl) (by kernel_rfl) (fun _ _ _ h => h) (Or.inl ⟨by rfl, ?hy3x1⟩) hHeld ?rest3x1
            case hy3x1 => (intro w hSw; go_simp <;> with_reducible rfl)
            try simp only [Act.put, List.setIfInBounds_toArray, List.set_cons_zero, List.set_cons_succ]
            refine wpAnyH_take (i := 1) (oi := { dst := some 71, op := _, type := _, pos := _, after := _, guard := _ }) (v := ?v3x2) rfl (by kernel_rfl) (by kernel_rfl) (by kernel_rfl) (fun _ _ _ h => h) (Or.inl ⟨by rfl, ?hy3x2⟩) hHeld ?rest3x2
            case hy3x2 => (intro w hSw; go_simp <;> with_reducible rfl)
            try simp only [Act.put, List.setIfInBounds_toArray, List.set_cons_zero, List.set_cons_succ]
            refine wpAnyH_take (i := 2) (oi := { dst := some 72, op := _, type := _, pos := _, after := _, guard := _ }) (v := ?v3x3) rfl (by kernel_rfl) (by kernel_rfl) (by kernel_rfl) (fun _ _ _ h => h) (Or.inl ⟨by rfl, ?hy3x3⟩) hHeld ?rest3x3
            case hy3x3 => (intro w hSw; go_simp <;> with_reducible rfl)
            try simp only [Act.put, List.setIfInBounds_toArray, List.set_cons_zero, List.set_cons_succ]
            refine wpAnyH_take (i := 3) (oi := { dst := some 73, op := _, type := _, pos := _, after := _, guard := _ }) (v := ?v3x4) rfl (by kernel_rfl) (by kernel_rfl) (by kernel_rfl) (fun _ _ _ h => h) (Or.inl ⟨by rfl, ?hy3x4⟩) hHeld ?rest3x4
            case hy3x4 => (intro w hSw; go_simp <;> with_reducible rfl)
            try simp only [Act.put, List.setIfInBounds_toArray, List.set_cons_zero, List.set_cons_succ]
            refine wpAnyH_take (i := 4) (oi := { dst := some 74, op := _, type := _, pos := _, after := _, guard := _ }) (v := ?v3x5) rfl (by kernel_rfl) (by kernel_rfl) (by kernel_rfl) (fun _ _ _ h => h) (Or.inl ⟨by rfl, ?hy3x5⟩) hHeld ?rest3x5
            case hy3x5 => (intro w hSw; go_simp <;> with_reducible rfl)
            try simp only [Act.put, List.setIfInBounds_toArray, List.set_cons_zero, List.set_cons_succ]
            refine wpAnyH_take (i := 5) (oi := { dst := some 75, op := _, type := _, pos := _, after := _, guard := _ }) (v := ?v3x6) rfl (by kernel_rfl) (by kernel_rfl) (by kernel_rfl) (fun _ _ _ h => h) (Or.inl ⟨by rfl, ?hy3x6⟩) hHeld ?rest3x6
            case hy3x6 => (intro w hSw; go_simp <;> with_reducible rfl)
            try simp only [Act.put, List.setIfInBounds_toArray, List.set_cons_zero, List.set_cons_succ]
            refine wpAnyH_take (i := 6) (oi := { dst := some 76, op := _, type := _, pos := _, after := _, guard := _ }) (v := ?v3x7) rfl (by kernel_rfl) (by kernel_rfl) (by kernel_rfl) (fun _ _ _ h => h) (Or.inl ⟨by rfl, ?hy3x7⟩) hHeld ?rest3x7
            case hy3x7 => (intro w hSw; go_simp <;> with_reducible rfl)
            try simp only [Act.put, List.setIfInBounds_toArray, List.set_cons_zero, List.set_cons_succ]
            refine wpAnyH_take (i := 7) (oi := { dst := some 77, op := _, type := _, pos := _, after := _, guard := _ }) (v := ?v3x8) rfl (by kernel_rfl) (by kernel_rfl) (by kernel_rfl) (fun _ _ _ h => h) (Or.inl ⟨by rfl, ?hy3x8⟩) hHeld ?rest3x8
            case hy3x8 => (intro w hSw; go_simp <;> with_reducible rfl)
            try simp only [Act.put, List.setIfInBounds_toArray, List.set_cons_zero, List.set_cons_succ]
            refine wpAnyH_take (i := 8) (oi := { dst := some 78, op := _, type := _, pos := _, after := _, guard := _ }) (v := ?v3x9) rfl (by kernel_rfl) (by kernel_rfl) (by kernel_rfl) (fun _ _ _ h => h) (Or.inl ⟨by rfl, ?hy3x9⟩) hHeld ?rest3x9
            case hy3x9 => (intro w hSw; go_simp <;> with_reducible rfl)
            try simp only [Act.put, List.setIfInBounds_toArray, List.set_cons_zero, List.set_cons_succ]
            refine wpAnyH_take (i := 9) (oi := { dst := some 79, op := _, type := _, pos := _, after := _, guard := _ }) (v := undef) rfl (by kernel_rfl) (by kernel_rfl) (by kernel_rfl) (fun _ _ _ h => h) (Or.inr ⟨by rfl, rfl⟩) hHeld ?_
            try simp only [Act.put, List.setIfInBounds_toArray, List.set_cons_zero, List.set_cons_succ]
            refine wpAnyH_take (i := 10) (oi := { dst := some 80, op := _, type := _, pos := _, after := _, guard := _ }) (v := undef) rfl (by kernel_rfl) (by kernel_rfl) (by kernel_rfl) (fun _ _ _ h => h) (Or.inr ⟨by rfl, rfl⟩) hHeld ?_
            try simp only [Act.put, List.setIfInBounds_toArray, List.set_cons_zero, List.set_cons_succ]
            refine wpAnyH_take (i := 11) (oi := { dst := some 81, op := _, type := _, pos := _, after := _, guard := _ }) (v := undef) rfl (by kernel_rfl) (by kernel_rfl) (by kernel_rfl) (fun _ _ _ h => h) (Or.inr ⟨by rfl, rfl⟩) hHeld ?_
            try simp only [Act.put, List.setIfInBounds_toArray, List.set_cons_zero, List.set_cons_succ]
            refine wpAnyH_take (i := 12) (oi := { dst := some 82, op := _, type := _, pos := _, after := _, guard := _ }) (v := undef) rfl (by kernel_rfl) (by kernel_rfl) (by kernel_rfl) (fun _ _ _ h => h) (Or.inr ⟨by rfl, rfl⟩) hHeld ?_
            try simp only [Act.put, List.setIfInBounds_toArray, List.set_cons_zero, List.set_cons_succ]
            refine wpAnyH_take (i := 13) (oi := { dst := some 83, op := _, type := _, pos := _, after := _, guard := _ }) (v := undef) rfl (by kernel_rfl) (by kernel_rfl) (by kernel_rfl) (fun _ _ _ h => h) (Or.inr ⟨by rfl, rfl⟩) hHeld ?_
            try simp only [Act.put, List.setIfInBounds_toArray, List.set_cons_zero, List.set_cons_succ]
            refine wpAnyH_take (i := 14) (oi := { dst := some 84, op := _, type := _, pos := _, after := _, guard := _ }) (v := undef) rfl (by kernel_rfl) (by kernel_rfl) (by kernel_rfl) (fun _ _ _ h => h) (Or.inr ⟨by rfl, rfl⟩) hHeld ?_
            try simp only [Act.put, List.setIfInBounds_toArray, List.set_cons_zero, List.set_cons_succ]
            refine wpAnyH_take (i := 15) (oi := { dst := some 85, op := _, type := _, pos := _, after := _, guard := _ }) (v := undef) rfl (by kernel_rfl) (by kernel_rfl) (by kernel_rfl) (fun _ _ _ h => h) (Or.inr ⟨by rfl, rfl⟩) hHeld ?_
            try simp only [Act.put, List.setIfInBounds_toArray, List.set_cons_zero, List.set_cons_succ]
            refine wpAnyH_take (i := 16) (oi := { dst := some 86, op := _, type := _, pos := _, after := _, guard := _ }) (v := undef) rfl (by kernel_rfl) (by kernel_rfl) (by kernel_rfl) (fun _ _ _ h => h) (Or.inr ⟨by rfl, rfl⟩) hHeld ?_
            try simp only [Act.put, List.setIfInBounds_toArray, List.set_cons_zero, List.set_cons_succ]
            refine wpAnyH_take (i := 17) (oi := { dst := some 87, op := _, type := _, pos := _, after := _, guard := _ }) (v := ?v3x18) rfl (by kernel_rfl) (by kernel_rfl) (by kernel_rfl) (fun _ _ _ h => h) (Or.inl ⟨by rfl, ?hy3x18⟩) hHeld ?rest3x18
            case hy3x18 => (intro w hSw; go_simp <;> with_reducible rfl)
            try simp only [Act.put, List.setIfInBounds_toArray, List.set_cons_zero, List.set_cons_succ]
            refine wpAnyH_done (by kernel_rfl) ?_ _
            have hbel := below_on HBZ.out hHeld
            clear hHeld cw1 cw2 dw1 dw2
            go_wp2_with fail
            exact ⟨⟨kk + 1, by go_num, by omega, hbel, HST2.out⟩, by simp [intOf]; omega⟩
        · have q1 : ¬ (kk : Int) < (i : Int) := by omega
          obtain rfl : kk = i := by omega
          have hux := HUX.out fun j hj hji => by
            have hj' : j < l.length := by rw [← HTL.out]; exact hj
            have := HNO.out j hj' hji
            rw [HTG.out j hj' hj]
            exact this
          have HUX2 := hide hux
          obtain ⟨r, hr⟩ : ∃ r, (kk + d) % n = r := ⟨_, rfl⟩
          have hrn : r < n := by rw [← hr]; exact Nat.mod_lt _ (by omega)
          have hrl : r < l.length := by rw [HN.out]; exact hrn
          have hrt : r < ts.length := by rw [HTL.out]; exact hrl
          have q2 : (r : Int) < (n : Int) := by omega
          have q3 : ((kk : Int) + (d : Int)).tmod (n : Int) = (r : Int) := by
            rw [← hr, Int.tmod_eq_emod_of_nonneg (by omega)]
            push_cast
            rfl
          have q4n : (n : Int) ≠ 0 := by omega
          have hrg := rotO_get ts d kk (by rw [HTL.out, HN.out]; exact hdn) (by rw [HTL.out, HN.out]; exact hlt) (by rw [rotO_len, HTL.out, HN.out]; exact hlt) (by rw [HTL.out, HN.out, hr]; exact hrn)
          have hny := addAll_next (rotO ts d) kk (by rw [rotO_len, HTL.out, HN.out]; exact hlt)
          rw [hrg] at hny
          have hrr : ∀ (h1 : (kk + d) % ts.length < ts.length), ts[(kk + d) % ts.length] = ts[r] := by
            intro h1
            congr 1
            rw [HTL.out, HN.out, hr]
          rw [hrr, HTG.out r hrl hrt] at hny
          have hq := HCL.out r hrl
          have hmr := HALL.out _ (List.getElem_mem hrl)
          clear hux hrg hrr hrt
          generalize l[r] = p at *
          obtain ⟨callr, cr, fr, qr⟩ := p
          simp only [seO] at hny hmr
          have HNY := hide hny
          have e0 : wr.cell? ⟨b, o + r * 4, none⟩ = some (.int .i64 callr) := (HBW.out.cell (p := ⟨b, o + r * 4, none⟩) HBL.out).trans (hq 0 _ rfl)
          have e1 : wr.cell? ⟨b, o + r * 4 + 1, none⟩ = some (.string (str cr)) := (HBW.out.cell (p := ⟨b, o + r * 4 + 1, none⟩) HBL.out).trans (hq 1 _ rfl)
          have e2 : wr.cell? ⟨b, o + r * 4 + 2, none⟩ = some (.string (str fr)) := (HBW.out.cell (p := ⟨b, o + r * 4 + 2, none⟩) HBL.out).trans (hq 2 _ rfl)
          have e3 : wr.cell? ⟨b, o + r * 4 + 3, none⟩ = some (.int .i64 qr) := (HBW.out.cell (p := ⟨b, o + r * 4 + 3, none⟩) HBL.out).trans (hq 3 _ rfl)
          have HR := hide hr
          clear hny hq hr hrl
          go_upto_region 17 with fail
          generalize hV : wr.alloc _ = V
          obtain ⟨zV, bV⟩ := box1 wr 28 (OpS.vs ⟨callr, cr, fr, qr⟩) V hV.symm
          have hVs : V.heap.size = wr.heap.size + 1 := by rw [← hV]; simp
          have hzV := hzU.keep bV
          have hgV := HBZ.out.size
          obtain ⟨g2, hg2⟩ : ∃ g2, wr.heap.size = g2 := ⟨_, rfl⟩
          rw [hg2] at zV hVs hgV ⊢
          have HXV := hide ((HX.out.past (fun i => i = g ∨ i = g2) (fun i e => by rw [HG.out]; rcases e with rfl | rfl <;> omega)).keep (below_on HBU.out (below_on HBZ.out bV)))
          have HT := hide (fun (i : Nat) (e : i = g ∨ i = g2) => show i < V.heap.size by rcases e with rfl | rfl <;> omega)
          have ZV := hide zV
          have d1 : V.cell? ⟨g, 1, none⟩ = some (.string (str c)) := hzV.cell 1
          have d2 : V.cell? ⟨g, 2, none⟩ = some (.string (str f)) := hzV.cell 2
          have d3 : V.cell? ⟨g, 3, none⟩ = some (.int .i64 q4) := hzV.cell 3
          clear e0 e1 e2 e3 hV bV zV hg2 hzV hgV hVs HBZ
          go_wp2_with fail
          refine (yAdd HXV.out HT.out c f q4 (by omega) (by omega) (by omega)).mono ?_
          rintro e W ⟨rfl, h2, b2⟩
          rw [← HNX.out] at h2
          have H2 := hide h2
          have zW := Blk.but ZV.out b2 (fun h => h (Or.inr rfl))
          have HT2 := hide (fun (i : Nat) (e : i = g ∨ i = g2) => Nat.lt_of_lt_of_le (HT.out i e) b2.size)
          clear h2 b2 d1 d2 d3
          have d1 : W.cell? ⟨g2, 1, none⟩ = some (.string (str cr)) := zW.cell 1
          have d2 : W.cell? ⟨g2, 2, none⟩ = some (.string (str fr)) := zW.cell 2
          have d3 : W.cell? ⟨g2, 3, none⟩ = some (.int .i64 qr) := zW.cell 3
          clear zW
          go_wp2_with fail
          refine (yAdd2 H2.out HT2.out cr fr qr (by omega) (by omega) (by omega)).mono ?_
          rintro e W2 ⟨rfl, h3, -⟩
          rw [← HNY.out] at h3
          have H3 := hide h3
          clear h3 d1 d2 d3
          go_wp2_with fail
          exact ⟨⟨kk + 1, by go_num, by omega, H3.out.plain.more (by omega), HUX2.out⟩, by simp [intOf]; omega⟩
    · have q : ¬ (i : Int) < (n : Int) := by omega
      have htt : ts.take i = ts := List.take_of_length_le (by rw [HTL.out, HN.out]; omega)
      have hrt : (rotO ts d).take i = rotO ts d := List.take_of_length_le (by rw [rotO_len, HTL.out, HN.out]; omega)
      have hu := HUN.out
      have hx := HX.out
      rw [htt] at hu hx
      rw [hrt] at hx
      have hfe : findE (addAll ts) nm = findE (addAll (rotO ts d)) nm := addAll_turned hu d nm
      have h0 : 0 < l.length := by rw [HN.out]; omega
      obtain ⟨b, o, hA, hbl, hc⟩ := HS.out.at_ 0 h0
      have hr := hc 0 h0
      have hm := HALL.out _ (List.getElem_mem h0)
      have HI : Hid (2 * i ≤ 200) := hide (by omega)
      have HX1 := hide hx
      have HFE := hide hfe
      have HBL := hide hbl
      have hlenE : (findE (addAll ts) nm).length ≤ 200 := by
        have h1 := findE_len nm (addAll ts)
        have h2 := hx.left.len
        omega
      clear hc hi htt hrt hu hx HX HUN hfe hbl
      generalize l[0] = p at *
      obtain ⟨call, c, f, q4⟩ := p
      simp only at hm
      have HCC := hide (show ∀ v, Below w.heap.size w v → v.cell? ⟨b, o + 1, none⟩ = some (.string (str c)) from fun v bv => (bv.cell (p := ⟨b, o + 1, none⟩) HBL.out).trans (hr 1 _ (by rfl)))
      subst hA
      clear hr h0
      go_wp2_with fail
      refine (xFind HX1.out.left nm HL.out (by have := HI.out; omega)).mono ?_
      intro e w5 h5
      unfold RetPF at h5
      rw [if_pos HNM.out] at h5
      obtain ⟨O1, k1, rfl, r5, b5, n5⟩ := h5
      have H5 := hide (HX1.out.slice b5 n5)
      have R5 := hide r5
      clear r5 b5 n5 HX1
      go_wp2_with fail
      refine (xFind H5.out.right nm HL.out (by have := HI.out; omega)).mono ?_
      intro e w6 h6
      unfold RetPF at h6
      rw [if_pos HNM.out, ← HFE.out] at h6
      obtain ⟨O2, k2, rfl, r6, b6, -⟩ := h6
      obtain ⟨es, hes⟩ : ∃ es, addAll ts = es := ⟨_, rfl⟩
      have hgone := findE_gone es nm c
      rw [hes] at r6 hlenE R5 H5 ⊢
      obtain ⟨fl, hfl⟩ : ∃ fl, findE es nm = fl := ⟨_, rfl⟩
      rw [hfl] at r6 hlenE R5 hgone ⊢
      have H6 := hide (H5.out.keep b6)
      have R5' := hide (R5.out.keep b6)
      have hW := wants_any O1 O2 k1 k2 fl fl w6 (R5.out.keep b6) r6 (by omega) (by omega)
      rw [decide_eq_true rfl] at hW
      have HW := hide hW
      have HGONE := hide hgone
      obtain ⟨m, hm2⟩ : ∃ m, fl.length = m := ⟨_, rfl⟩
      rw [hm2] at HW hlenE ⊢
      have HM := hide hm2
      clear hW hgone r6 b6 hes hfl hm2 H5 R5 HFE
      go_wp2_with fail
      refine HW.out.mono ?_
      rintro e w7 ⟨rfl, b7⟩
      have H7 := hide (H6.out.keep b7)
      have R7 := hide (R5'.out.keep b7)
      clear b7 H6 R5' HW
      have c1 := HCC.out w7 H7.out.bel
      go_wp2_with fail
      refine (yGone H7.out c (by omega) (by have := HI.out; omega)).mono ?_
      rintro e w8 ⟨rfl, h8, b8⟩
      have H8 := hide h8
      have R8 := hide (R7.out.but b8 (fun b o e h => h ⟨o, e⟩))
      clear h8 b8 H7 R7 c1
      go_wp2_with fail
      refine (xFind H8.out.left nm HL.out (by have := HI.out; omega)).mono ?_
      intro e w9 h9
      unfold RetPF at h9
      rw [if_pos HNM.out, HGONE.out] at h9
      obtain ⟨O3, k3, rfl, r9, b9, -⟩ := h9
      have HB9 := hide (below_on H8.out.bel b9)
      have R9 := hide r9
      have R1 := hide (R8.out.keep b9)
      have ho : (List.filter (fun s => !decide (s.1 = c)) fl) = offO c fl := rfl
      rw [ho] at R9 ⊢
      have hofm : (offO c fl).length ≤ m := by rw [← HM.out]; exact offO_le c fl
      obtain ⟨mo, hmo⟩ : ∃ mo, (offO c fl).length = mo := ⟨_, rfl⟩
      rw [hmo] at hofm ⊢
      have HMO := hide hmo
      clear r9 b9 H8 R8 hmo ho
      go_wp2_with fail
      go_loopw [22, 23] (fun ov iv wz => ∃ (j mm : Nat) (A' : Option Addr) (k' : Nat), iv = .int .i64 (j : Int) ∧ j ≤ m ∧ ov = .slice A' mm k' ∧ mm = (offO c (fl.take j)).length ∧ wz.ownsRow w9.heap.size 41 2 (.slice A' mm k') mm (twVs (offO c (fl.take j))) ∧ Below w9.heap.size w9 wz) (fun _ iv _ => m - (intOf iv).toNat)
      case atStart => exact ⟨0, 0, none, 0, rfl, by omega, rfl, rfl, World.ownsRow_nil _ _ _ _, Below.refl _ _⟩
      case round =>
        obtain ⟨j, mm, A', k', rfl, hj, rfl, hmm, hown, hbz⟩ := hrel
        have HMM := hide hmm
        have HOWN := hide hown
        have HBZ := hide hbz
        have hmj : mm ≤ j := by rw [hmm]; refine Nat.le_trans (offO_le _ _) ?_; rw [List.length_take]; omega
        clear hmm hown hbz
        by_cases hjm : j < m
        · have q1 : (j : Int) < (m : Int) := by omega
          have h0 : j < fl.length := by rw [HM.out]; exact hjm
          obtain ⟨b2, o2, hO2, hb5, hr5⟩ := tw_at (R1.out.keep HBZ.out) j h0
          have r5 := hr5 j h0
          have hbs := offO_snoc c (fl.take j) fl[j]
          rw [List.take_append_getElem h0] at hbs
          generalize fl[j] = s at *
          obtain ⟨sc, sq⟩ := s
          have d0 : wr.cell? ⟨b2, o2 + j * 2, none⟩ = some (.string (str sc)) := r5 0 _ rfl
          have RG := hide r5
          clear hr5 r5
          subst hO2
          by_cases he : sc = c
          · have q5 : (sc == c) = true := beq_iff_eq.2 he
            have q6 : (sc != c) = false := by simp [he]
            rw [if_pos he] at hbs
            have HBS := hide hbs
            clear hbs he
            go_wp2_with fail
            exact ⟨⟨j + 1, mm, A', k', by go_num, by omega, rfl, by rw [HBS.out]; exact HMM.out, by rw [HBS.out]; exact HOWN.out, HBZ.out⟩, by simp [intOf]; omega⟩
          · have q5 : (sc == c) = false := beq_eq_false_iff_ne.2 he
            have q6 : (sc != c) = true := by simp [he]
            rw [if_neg he] at hbs
            have HBS := hide hbs
            clear hbs he
            go_wp2_with (first
              | (refine wpList_loadS rfl 41 (.tmp 171) rfl b2 (o2 + j * 2) (twOne (sc, sq)) rfl RG.out Try.underlying41 rfl (by kernel_rfl) ?_)
              | (refine wpList_bsS rfl 34 41 (.tmp 172) rfl Try.underlying34 2 (by omega) (by omega) (by kernel_rfl) (arr (twOne (sc, sq))) rfl rfl ?_)
              | (at_builtin; refine wpList_appS rfl (.tmp 168) (.tmp 173) 34 rfl 41 _ 2 24 Try.underlying34 want_info13 rfl (by omega) w9.heap.size A' mm k' (twVs (offO c (fl.take j))) rfl (ownS_keep HOWN.out ((Below.refl _ _).alloc (Nat.le_refl _) _)) _ 1 1 (twOne (sc, sq)) rfl (Blk.new wr 41 (twOne (sc, sq))).rd (by simpa [twVs] using twVs_one [(sc, sq)]) (by unfold maxLen; omega) (by omega) (by have := HBZ.out.size; simp; omega) ?_; intro A4 k4 w4 o4 b4 h4))
            have bA : Below wr.heap.size wr (wr.alloc (.cells (arr (twOne (sc, sq))) 41)) := (Below.refl _ _).alloc (Nat.le_refl _) _
            have hb4 : Below w9.heap.size w9 w4 := But.below (below_on HBZ.out bA) b4 (fun i ⟨o, e⟩ => ownS_new HOWN.out i o e) (by have := HBZ.out.size; have := bA.size; omega)
            refine ⟨⟨j + 1, mm + 1, A4, k4, by go_num, by omega, rfl, ?_, ?_, hb4⟩, by simp [intOf]; omega⟩
            · rw [HBS.out, List.length_append, ← HMM.out]; rfl
            · rw [HBS.out, twVs_app]; simpa [twVs] using o4
        · have q1 : ¬ (j : Int) < (m : Int) := by omega
          have hall : fl.take j = fl := List.take_of_length_le (by rw [HM.out]; omega)
          have hmm := HMM.out
          have hown := HOWN.out
          rw [hall] at hmm hown
          rw [HMO.out] at hmm
          subst hmm
          have HW := hide (fun W (b : Below wr.heap.size wr W) => wants_any O3 A' k3 k' (offO c fl) (offO c fl) W ((R9.out.keep HBZ.out).keep b) ((by rw [HMO.out]; exact ownS_rd hown : Rd wr A' ((offO c fl).length * 2) (twVs (offO c fl))).keep b) (by rw [HMO.out]; omega) (by rw [HMO.out]; omega))
          rw [HMO.out, decide_eq_true rfl] at HW
          clear hall hown HMM HOWN
          go_wp2_with fail
          refine (awake13_any wr).mono ?_
          rintro e w10 ⟨rfl, b10⟩
          have HB := hide (below_on (below_on HB9.out HBZ.out) b10)
          have HWW := hide (HW.out w10 b10)
          clear b10 HW
          go_wp2_with fail
          refine HWW.out.mono ?_
          rintro e w11 ⟨rfl, b11⟩
          have HB2 := hide (below_on HB.out b11)
          clear b11
          go_wp2_with fail
          go_ret
          exact ⟨rfl, HB2.out⟩
end Go.Proofs.Ytfjafpbmgbnllaa
