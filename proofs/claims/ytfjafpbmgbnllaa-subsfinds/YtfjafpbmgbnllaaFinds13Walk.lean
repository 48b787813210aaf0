/-
  What is proved here: the law SubsFinds returns true for every script and name, and writes nothing that was there. No condition.
-/
import Derived.Test.YtfjafpbmgbnllaaSp11
import Derived.Test.YtfjafpbmgbnllaaTr4
import Derived.Test.YtfjafpbmgbnllaaTr3
import Derived.Test.YtfjafpbmgbnllaaOpen13
namespace Go.Proofs.Ytfjafpbmgbnllaa
set_option linter.unusedVariables false
set_option linter.unusedSimpArgs false
open Go.RowKit

theorem bestO_snoc (n : List UInt8) (l : List (List UInt8 × Int)) (s : List UInt8 × Int) : bestO n (l ++ [s]) = if matchL s.1 n = true then max (bestO n l) s.2 else bestO n l := by
  unfold bestO
  rw [List.foldl_append]
  rfl
theorem foundO_snoc (d : List UInt8) (l : List (List UInt8 × Int)) (s : List UInt8 × Int) : foundO d (l ++ [s]) = if s.1 = d then s.2 else foundO d l := by
  unfold foundO
  rw [List.foldl_append]
  rfl
theorem filterL_len {f : List UInt8} (h : filterL f = true) : f.length ≤ 65535 := by
  unfold filterL textL at h
  by_cases hl : f.length ≤ 65535
  · exact hl
  · rw [ptsU_long f (by omega)] at h
    simp at h
theorem ofE_ok {es : List SE} (h : okE es) (c : List UInt8) : ∀ s ∈ ofE es c, filterL s.1 = true := fun s hs => by
  unfold ofE at hs
  obtain ⟨e, he, rfl⟩ := List.mem_map.1 hs
  exact (h e (List.mem_filter.1 he).1).1
theorem ofE_len (es : List SE) (c : List UInt8) : (ofE es c).length ≤ es.length := by
  unfold ofE
  rw [List.length_map]
  exact List.length_filter_le _ _

/-- What few says. -/
theorem few_yes {l : List OpS} (h : fewB l = true) : l.length ≤ 100 ∧ ∀ o ∈ l, o.f.length ≤ 100 ∧ o.c.length ≤ 100 := by
  unfold fewB at h
  rw [Bool.and_eq_true, List.all_eq_true] at h
  refine ⟨of_decide_eq_true h.1, fun o ho => ?_⟩
  have := h.2 o ho
  rw [Bool.and_eq_true] at this
  exact ⟨of_decide_eq_true this.1, of_decide_eq_true this.2⟩


set_option maxHeartbeats 8000000 in
set_option maxRecDepth 100000 in
theorem finds13_walk (A : Option Addr) (l : List OpS) (k : Nat) (s1 : ByteArray) (w : World) (hs : ScrS w A l) :
    Calls Try.prog 4 #[.slice A l.length k, .string s1] w fun e w' => e = .returned (.bool true) ∧ Below w.heap.size w w' := by
  obtain ⟨nm, rfl⟩ : ∃ xs, s1 = str xs := ⟨_, (str_of s1).symm⟩
  have F := hide (few13_any A k l w hs)
  have P := hide fun W => rNameAny nm W
  have HS := hide hs
  have hsz : (str nm).size = nm.length := size_str nm
  clear hs
  cases hfw : fewB l with
  | false =>
    rw [hfw] at F
    clear hfw
    go_enter Try.func4, Try.ntmps4
    go_wp2_with fail
    refine F.out.mono ?_
    rintro e w1 ⟨rfl, rfl⟩
    go_wp2_with fail
    go_ret
    exact ⟨rfl, Below.refl _ _⟩
  | true =>
  rw [hfw] at F
  obtain ⟨hlen, hall⟩ := few_yes hfw
  have HALL := hide hall
  clear hfw hall
  cases hnm : nameL nm with
  | false =>
    rw [hnm] at P
    clear hnm
    go_enter Try.func4, Try.ntmps4
    go_wp2_with fail
    refine F.out.mono ?_
    rintro e w1 ⟨rfl, rfl⟩
    go_wp2_with fail
    refine (P.out _).mono ?_
    rintro e w2 ⟨rfl, b2⟩
    go_wp2_with fail
    go_ret
    exact ⟨rfl, b2⟩
  | true =>
  rw [hnm] at P
  have HNM := hide hnm
  have hne := (nameL_parts hnm).1
  have HNE := hide hne
  clear hnm hne
  by_cases hl : 100 < nm.length
  · have q0 : (100 : Int) < (nm.length : Int) := by omega
    go_enter Try.func4, Try.ntmps4
    go_wp2_with fail
    refine F.out.mono ?_
    rintro e w1 ⟨rfl, rfl⟩
    go_wp2_with fail
    refine (P.out _).mono ?_
    rintro e w2 ⟨rfl, b2⟩
    go_wp2_with fail
    go_ret
    exact ⟨rfl, b2⟩
  have q0 : ¬ (100 : Int) < (nm.length : Int) := by omega
  have HL : Hid (nm.length ≤ 100) := hide (by omega)
  clear hl
  go_enter Try.func4, Try.ntmps4
  go_wp2_with fail
  refine F.out.mono ?_
  rintro e w1 ⟨rfl, rfl⟩
  go_wp2_with fail
  refine (P.out _).mono ?_
  rintro e w2 ⟨rfl, b2⟩
  have B2 := hide b2
  clear b2 F P
  go_wp2_with fail
  refine (xNew w w2 B2.out).mono ?_
  rintro e w3 ⟨B, rfl, h3⟩
  have H3 := hide h3
  clear h3 B2 q0 hsz
  go_wp2_with fail
  go_loopw [6] (fun x wr => ∃ i es, x = .int .i64 ((i : Nat) : Int) ∧ i ≤ l.length ∧ Xs w wr B es i) (fun x _ => l.length - (intOf x).toNat)
  case atStart => exact ⟨0, [], rfl, by omega, H3.out⟩
  case round =>
    obtain ⟨i, es, rfl, hi, hX⟩ := hrel
    have HX := hide hX
    clear hX H3
    by_cases hlt : i < l.length
    · have q : (i : Int) < (l.length : Int) := by omega
      obtain ⟨b, o, rfl, hbl, hc⟩ := HS.out.at_ i hlt
      have hr := hc i hlt
      have hm := HALL.out _ (List.getElem_mem hlt)
      have hcc : ∀ j v, (l[i]).vs[j]? = some v → wr.cell? ⟨b, o + i * 4 + j, none⟩ = some v := fun j v hv => (HX.out.bel.cell (p := ⟨b, o + i * 4 + j, none⟩) hbl).trans (hr j v hv)
      clear hc hr
      generalize l[i] = p at *
      obtain ⟨call, c, f, q4⟩ := p
      simp only at hm
      have c0 : wr.cell? ⟨b, o + i * 4, none⟩ = some (.int .i64 call) := hcc 0 _ rfl
      have c1 : wr.cell? ⟨b, o + i * 4 + 1, none⟩ = some (.string (str c)) := hcc 1 _ rfl
      have c2 : wr.cell? ⟨b, o + i * 4 + 2, none⟩ = some (.string (str f)) := hcc 2 _ rfl
      have c3 : wr.cell? ⟨b, o + i * 4 + 3, none⟩ = some (.int .i64 q4) := hcc 3 _ rfl
      clear hcc
      go_upto_region 10 with fail
      generalize hU : wr.alloc _ = U
      obtain ⟨zU, bU⟩ := box1 wr 28 (OpS.vs ⟨call, c, f, q4⟩) U hU.symm
      have HU := hide (HX.out.keep bU)
      have d0 : U.cell? ⟨wr.heap.size, 0, none⟩ = some (.int .i64 call) := zU.cell 0
      have d1 : U.cell? ⟨wr.heap.size, 1, none⟩ = some (.string (str c)) := zU.cell 1
      have d2 : U.cell? ⟨wr.heap.size, 2, none⟩ = some (.string (str f)) := zU.cell 2
      have d3 : U.cell? ⟨wr.heap.size, 3, none⟩ = some (.int .i64 q4) := zU.cell 3
      clear c0 c1 c2 c3 hU bU zU HX
      by_cases k1 : call = 1
      · have q1 : (call == 1) = true := by simpa using k1
        go_wp2_with fail
        refine (xDrop HU.out c f (by omega) (by omega) (by omega)).mono ?_
        rintro e W ⟨rfl, h2⟩
        have H2 := hide h2
        clear h2 HU d0 d1 d2 d3
        go_wp2_with fail
        exact ⟨⟨i + 1, _, by go_num, by omega, H2.out.more (by omega)⟩, by simp [intOf]; omega⟩
      · have q1 : (call == 1) = false := by simpa using k1
        by_cases k2 : call = 2
        · have q2 : (call == 2) = true := by simpa using k2
          go_wp2_with fail
          refine (xGone HU.out c (by omega) (by omega)).mono ?_
          rintro e W ⟨rfl, h2⟩
          have H2 := hide h2
          clear h2 HU d0 d1 d2 d3
          go_wp2_with fail
          exact ⟨⟨i + 1, _, by go_num, by omega, H2.out.more (by omega)⟩, by simp [intOf]; omega⟩
        · have q2 : (call == 2) = false := by simpa using k2
          go_wp2_with fail
          refine (xAdd HU.out c f q4 (by omega) (by omega) (by omega)).mono ?_
          rintro e W ⟨rfl, h2⟩
          have H2 := hide h2
          clear h2 HU d0 d1 d2 d3
          go_wp2_with fail
          exact ⟨⟨i + 1, _, by go_num, by omega, H2.out⟩, by simp [intOf]; omega⟩
    · have q : ¬ (i : Int) < (l.length : Int) := by omega
      have hok := HX.out.okE
      have hel := HX.out.len
      have HOK := hide hok
      have HEL : Hid (es.length ≤ 100) := hide (by omega)
      have HK : Hid (i ≤ 1000000) := hide (by omega)
      clear hok hel hi
      go_wp2_with fail
      refine (xFind HX.out nm (by have := HL.out; omega) HK.out).mono ?_
      intro e w5 h5
      unfold RetPF at h5
      rw [if_pos HNM.out] at h5
      obtain ⟨O, ko, rfl, r5, b5, -⟩ := h5
      have H5 := hide (HX.out.keep b5)
      have hsrt := findE_srt es nm
      have hfb := fun d => found_best es HOK.out nm d
      have hfl := findE_len nm es
      generalize findE es nm = fl at *
      have HSRT := hide hsrt
      have HFB := hide hfb
      have R5 := hide r5
      obtain ⟨n, hn⟩ : ∃ n, fl.length = n := ⟨_, rfl⟩
      rw [hn]
      have HN := hide hn
      have hn1 : n ≤ 100 := by have := HEL.out; omega
      clear hsrt hfb r5 b5 HX hn hfl q
      go_wp2_with fail
      go_loopw [10] (fun x wr2 => ∃ j : Nat, x = .int .i64 (j : Int) ∧ j ≤ n ∧ Below w5.heap.size w5 wr2) (fun x _ => n - (intOf x).toNat)
      case atStart => exact ⟨0, rfl, by omega, Below.refl _ _⟩
      case round =>
        obtain ⟨j, rfl, hj, hb⟩ := hrel
        have HB := hide hb
        clear hb
        by_cases hjn : j < n
        · have q1 : (j : Int) < (n : Int) := by omega
          by_cases hj0 : j = 0
          · have q2 : decide ((j : Int) > 0) = false := decide_eq_false (by omega)
            go_upto_region 21 with fail
            refine wp_region_held_drew (S := fun Z => Below wr.heap.size wr Z) (by kernel_rfl) ?_ (fun hHeld => ?_)
            · exact (Below.refl _ _).drew
            refine wpAnyH_take (i := 0) (oi := { dst := some 83, op := _, type := _, pos := _, after := _, guard := _ }) (v := ?v1x1) rfl (by kernel_rfl) (by kernel_rfl) (by kernel_rfl) (fun _ _ _ h => h) (Or.inl ⟨by rfl, ?hy1x1⟩) hHeld ?rest1x1
            case hy1x1 => (intro w hSw; go_simp <;> with_reducible rfl)
            try simp only [Act.put, List.setIfInBounds_toArray, List.set_cons_zero, List.set_cons_succ]
            refine wpAnyH_take (i := 1) (oi := { dst := some 84, op := _, type := _, pos := _, after := _, guard := _ }) (v := ?v1x2) rfl (by kernel_rfl) (by kernel_rfl) (by kernel_rfl) (fun _ _ _ h => h) (Or.inl ⟨by rfl, ?hy1x2⟩) hHeld ?rest1x2
            case hy1x2 => (intro w hSw; go_simp <;> with_reducible rfl)
            try simp only [Act.put, List.setIfInBounds_toArray, List.set_cons_zero, List.set_cons_succ]
            refine wpAnyH_take (i := 2) (oi := { dst := some 85, op := _, type := _, pos := _, after := _, guard := _ }) (v := ?v1x3) rfl (by kernel_rfl) (by kernel_rfl) (by kernel_rfl) (fun _ _ _ h => h) (Or.inl ⟨by rfl, ?hy1x3⟩) hHeld ?rest1x3
            case hy1x3 => (intro w hSw; go_simp <;> with_reducible rfl)
            try simp only [Act.put, List.setIfInBounds_toArray, List.set_cons_zero, List.set_cons_succ]
            refine wpAnyH_take (i := 3) (oi := { dst := some 86, op := _, type := _, pos := _, after := _, guard := _ }) (v := undef) rfl (by kernel_rfl) (by kernel_rfl) (by kernel_rfl) (fun _ _ _ h => h) (Or.inr ⟨by rfl, rfl⟩) hHeld ?_
            try simp only [Act.put, List.setIfInBounds_toArray, List.set_cons_zero, List.set_cons_succ]
            refine wpAnyH_take (i := 4) (oi := { dst := some 87, op := _, type := _, pos := _, after := _, guard := _ }) (v := undef) rfl (by kernel_rfl) (by kernel_rfl) (by kernel_rfl) (fun _ _ _ h => h) (Or.inr ⟨by rfl, rfl⟩) hHeld ?_
            try simp only [Act.put, List.setIfInBounds_toArray, List.set_cons_zero, List.set_cons_succ]
            refine wpAnyH_take (i := 5) (oi := { dst := some 88, op := _, type := _, pos := _, after := _, guard := _ }) (v := undef) rfl (by kernel_rfl) (by kernel_rfl) (by kernel_rfl) (fun _ _ _ h => h) (Or.inr ⟨by rfl, rfl⟩) hHeld ?_
            try simp only [Act.put, List.setIfInBounds_toArray, List.set_cons_zero, List.set_cons_succ]
            refine wpAnyH_take (i := 6) (oi := { dst := some 89, op := _, type := _, pos := _, after := _, guard := _ }) (v := undef) rfl (by kernel_rfl) (by kernel_rfl) (by kernel_rfl) (fun _ _ _ h => h) (Or.inr ⟨by rfl, rfl⟩) hHeld ?_
            try simp only [Act.put, List.setIfInBounds_toArray, List.set_cons_zero, List.set_cons_succ]
            refine wpAnyH_take (i := 7) (oi := { dst := some 90, op := _, type := _, pos := _, after := _, guard := _ }) (v := undef) rfl (by kernel_rfl) (by kernel_rfl) (by kernel_rfl) (fun _ _ _ h => h) (Or.inr ⟨by rfl, rfl⟩) hHeld ?_
            try simp only [Act.put, List.setIfInBounds_toArray, List.set_cons_zero, List.set_cons_succ]
            refine wpAnyH_take (i := 8) (oi := { dst := some 91, op := _, type := _, pos := _, after := _, guard := _ }) (v := undef) rfl (by kernel_rfl) (by kernel_rfl) (by kernel_rfl) (fun _ _ _ h => h) (Or.inr ⟨by rfl, rfl⟩) hHeld ?_
            try simp only [Act.put, List.setIfInBounds_toArray, List.set_cons_zero, List.set_cons_succ]
            refine wpAnyH_take (i := 9) (oi := { dst := some 92, op := _, type := _, pos := _, after := _, guard := _ }) (v := undef) rfl (by kernel_rfl) (by kernel_rfl) (by kernel_rfl) (fun _ _ _ h => h) (Or.inr ⟨by rfl, rfl⟩) hHeld ?_
            try simp only [Act.put, List.setIfInBounds_toArray, List.set_cons_zero, List.set_cons_succ]
            refine wpAnyH_take (i := 10) (oi := { dst := some 93, op := _, type := _, pos := _, after := _, guard := _ }) (v := undef) rfl (by kernel_rfl) (by kernel_rfl) (by kernel_rfl) (fun _ _ _ h => h) (Or.inr ⟨by rfl, rfl⟩) hHeld ?_
            try simp only [Act.put, List.setIfInBounds_toArray, List.set_cons_zero, List.set_cons_succ]
            refine wpAnyH_take (i := 11) (oi := { dst := some 94, op := _, type := _, pos := _, after := _, guard := _ }) (v := undef) rfl (by kernel_rfl) (by kernel_rfl) (by kernel_rfl) (fun _ _ _ h => h) (Or.inr ⟨by rfl, rfl⟩) hHeld ?_
            try simp only [Act.put, List.setIfInBounds_toArray, List.set_cons_zero, List.set_cons_succ]
            refine wpAnyH_take (i := 12) (oi := { dst := some 95, op := _, type := _, pos := _, after := _, guard := _ }) (v := undef) rfl (by kernel_rfl) (by kernel_rfl) (by kernel_rfl) (fun _ _ _ h => h) (Or.inr ⟨by rfl, rfl⟩) hHeld ?_
            try simp only [Act.put, List.setIfInBounds_toArray, List.set_cons_zero, List.set_cons_succ]
            refine wpAnyH_take (i := 13) (oi := { dst := some 96, op := _, type := _, pos := _, after := _, guard := _ }) (v := undef) rfl (by kernel_rfl) (by kernel_rfl) (by kernel_rfl) (fun _ _ _ h => h) (Or.inr ⟨by rfl, rfl⟩) hHeld ?_
            try simp only [Act.put, List.setIfInBounds_toArray, List.set_cons_zero, List.set_cons_succ]
            refine wpAnyH_take (i := 14) (oi := { dst := some 97, op := _, type := _, pos := _, after := _, guard := _ }) (v := undef) rfl (by kernel_rfl) (by kernel_rfl) (by kernel_rfl) (fun _ _ _ h => h) (Or.inr ⟨by rfl, rfl⟩) hHeld ?_
            try simp only [Act.put, List.setIfInBounds_toArray, List.set_cons_zero, List.set_cons_succ]
            refine wpAnyH_take (i := 15) (oi := { dst := some 98, op := _, type := _, pos := _, after := _, guard := _ }) (v := ?v1x16) rfl (by kernel_rfl) (by kernel_rfl) (by kernel_rfl) (fun _ _ _ h => h) (Or.inl ⟨by rfl, ?hy1x16⟩) hHeld ?rest1x16
            case hy1x16 => (intro w hSw; go_simp <;> with_reducible rfl)
            try simp only [Act.put, List.setIfInBounds_toArray, List.set_cons_zero, List.set_cons_succ]
            refine wpAnyH_done (by kernel_rfl) ?_ _
            have hbel := below_on HB.out hHeld
            clear hHeld
            go_wp2_with fail
            exact ⟨⟨j + 1, by go_num, by omega, hbel⟩, by simp [intOf]; omega⟩
          · obtain ⟨jp, hjp⟩ : ∃ jp, j = jp + 1 := ⟨j - 1, by omega⟩
            have q2 : decide ((j : Int) > 0) = true := decide_eq_true (by omega)
            have q2b : decide ((0 : Int) < (j : Int)) = true := decide_eq_true (by omega)
            have q2c : (0 : Int) < (j : Int) := by omega
            have q2d : 0 < j := by omega
            have h1 : j < fl.length := by rw [HN.out]; exact hjn
            have h0 : jp < fl.length := by omega
            obtain ⟨b, o, hO, hb1, hr⟩ := tw_at (R5.out.keep HB.out) j h1
            have r1 := hr j h1
            have r0 := hr jp h0
            have hlt2 : Op.bytesLess (fl[jp]).1 (fl[j]).1 = true := List.pairwise_iff_getElem.1 HSRT.out jp j h0 h1 (by omega)
            generalize fl[j] = x1 at *
            generalize fl[jp] = x0 at *
            obtain ⟨y1, p1⟩ := x1
            obtain ⟨y0, p0⟩ := x0
            have q5 : Op.bytesLess y1 y0 = false := bl_asym hlt2
            have q6 : (y1 == y0) = false := beq_eq_false_iff_ne.2 (bl_ne hlt2).symm
            have cw1 : ∀ v, Below wr.heap.size wr v → v.cell? ⟨b, o + j * 2, none⟩ = some (.string (str y1)) := fun v bv => (bv.cell (p := ⟨b, o + j * 2, none⟩) hb1).trans (r1 0 _ rfl)
            have cw0 : ∀ v, Below wr.heap.size wr v → v.cell? ⟨b, o + jp * 2, none⟩ = some (.string (str y0)) := fun v bv => (bv.cell (p := ⟨b, o + jp * 2, none⟩) hb1).trans (r0 0 _ rfl)
            have qw : IntKind.i64.wrap ((j : Int) - 1) = (jp : Int) := by rw [show (j : Int) - 1 = (jp : Int) by omega]; exact wrap_nat _ (by omega)
            have q7 : (jp : Int) < (n : Int) := by omega
            have qj : (0 : Int) ≤ (j : Int) := by omega
            clear hr r1 r0 hlt2 hjp
            subst hO
            go_upto_region 21 with fail
            refine wp_region_held_drew (S := fun Z => Below wr.heap.size wr Z) (by kernel_rfl) ?_ (fun hHeld => ?_)
            · exact (Below.refl _ _).drew
            refine wpAnyH_take (i := 0) (oi := { dst := some 83, op := _, type := _, pos := _, after := _, guard := _ }) (v := ?v2x1) rfl (by kernel_rfl) (by kernel_rfl) (by kernel_rfl) (fun _ _ _ h => h) (Or.inl ⟨by rfl, ?hy2x1⟩) hHeld ?rest2x1
            case hy2x1 => (intro w hSw; go_simp <;> with_reducible rfl)
            try simp only [Act.put, List.setIfInBounds_toArray, List.set_cons_zero, List.set_cons_succ]
            refine wpAnyH_take (i := 1) (oi := { dst := some 84, op := _, type := _, pos := _, after := _, guard := _ }) (v := ?v2x2) rfl (by kernel_rfl) (by kernel_rfl) (by kernel_rfl) (fun _ _ _ h => h) (Or.inl ⟨by rfl, ?hy2x2⟩) hHeld ?rest2x2
            case hy2x2 => (intro w hSw; go_simp <;> with_reducible rfl)
            try simp only [Act.put, List.setIfInBounds_toArray, List.set_cons_zero, List.set_cons_succ]
            refine wpAnyH_take (i := 2) (oi := { dst := some 85, op := _, type := _, pos := _, after := _, guard := _ }) (v := ?v2x3) rfl (by kernel_rfl) (by kernel_rfl) (by kernel_rfl) (fun _ _ _ h => h) (Or.inl ⟨by rfl, ?hy2x3⟩) hHeld ?rest2x3
            case hy2x3 => (intro w hSw; go_simp <;> with_reducible rfl)
            try simp only [Act.put, List.setIfInBounds_toArray, List.set_cons_zero, List.set_cons_succ]
            refine wpAnyH_take (i := 3) (oi := { dst := some 86, op := _, type := _, pos := _, after := _, guard := _ }) (v := ?v2x4) rfl (by kernel_rfl) (by kernel_rfl) (by kernel_rfl) (fun _ _ _ h => h) (Or.inl ⟨by rfl, ?hy2x4⟩) hHeld ?rest2x4
            case hy2x4 => (intro w hSw; go_simp <;> with_reducible rfl)
            try simp only [Act.put, List.setIfInBounds_toArray, List.set_cons_zero, List.set_cons_succ]
            refine wpAnyH_take (i := 4) (oi := { dst := some 87, op := _, type := _, pos := _, after := _, guard := _ }) (v := ?v2x5) rfl (by kernel_rfl) (by kernel_rfl) (by kernel_rfl) (fun _ _ _ h => h) (Or.inl ⟨by rfl, ?hy2x5⟩) hHeld ?rest2x5
            case hy2x5 => (intro w hSw; go_simp <;> with_reducible rfl)
            try simp only [Act.put, List.setIfInBounds_toArray, List.set_cons_zero, List.set_cons_succ]
            refine wpAnyH_take (i := 5) (oi := { dst := some 88, op := _, type := _, pos := _, after := _, guard := _ }) (v := ?v2x6) rfl (by kernel_rfl) (by kernel_rfl) (by kernel_rfl) (fun _ _ _ h => h) (Or.inl ⟨by rfl, ?hy2x6⟩) hHeld ?rest2x6
            case hy2x6 => (intro w hSw; go_simp <;> with_reducible rfl)
            try simp only [Act.put, List.setIfInBounds_toArray, List.set_cons_zero, List.set_cons_succ]
            refine wpAnyH_take (i := 6) (oi := { dst := some 89, op := _, type := _, pos := _, after := _, guard := _ }) (v := ?v2x7) rfl (by kernel_rfl) (by kernel_rfl) (by kernel_rfl) (fun _ _ _ h => h) (Or.inl ⟨by rfl, ?hy2x7⟩) hHeld ?rest2x7
            case hy2x7 => (intro w hSw; go_simp <;> with_reducible rfl)
            try simp only [Act.put, List.setIfInBounds_toArray, List.set_cons_zero, List.set_cons_succ]
            refine wpAnyH_take (i := 7) (oi := { dst := some 90, op := _, type := _, pos := _, after := _, guard := _ }) (v := ?v2x8) rfl (by kernel_rfl) (by kernel_rfl) (by kernel_rfl) (fun _ _ _ h => h) (Or.inl ⟨by rfl, ?hy2x8⟩) hHeld ?rest2x8
            case hy2x8 => (intro w hSw; go_simp <;> with_reducible rfl)
            try simp only [Act.put, List.setIfInBounds_toArray, List.set_cons_zero, List.set_cons_succ]
            refine wpAnyH_take (i := 8) (oi := { dst := some 91, op := _, type := _, pos := _, after := _, guard := _ }) (v := ?v2x9) rfl (by kernel_rfl) (by kernel_rfl) (by kernel_rfl) (fun _ _ _ h => h) (Or.inl ⟨by rfl, ?hy2x9⟩) hHeld ?rest2x9
            case hy2x9 => (intro w hSw; go_simp <;> with_reducible rfl)
            try simp only [Act.put, List.setIfInBounds_toArray, List.set_cons_zero, List.set_cons_succ]
            refine wpAnyH_take (i := 9) (oi := { dst := some 92, op := _, type := _, pos := _, after := _, guard := _ }) (v := ?v2x10) rfl (by kernel_rfl) (by kernel_rfl) (by kernel_rfl) (fun _ _ _ h => h) (Or.inl ⟨by rfl, ?hy2x10⟩) hHeld ?rest2x10
            case hy2x10 => (intro w hSw; go_simp <;> with_reducible rfl)
            try simp only [Act.put, List.setIfInBounds_toArray, List.set_cons_zero, List.set_cons_succ]
            refine wpAnyH_take (i := 10) (oi := { dst := some 93, op := _, type := _, pos := _, after := _, guard := _ }) (v := ?v2x11) rfl (by kernel_rfl) (by kernel_rfl) (by kernel_rfl) (fun _ _ _ h => h) (Or.inl ⟨by rfl, ?hy2x11⟩) hHeld ?rest2x11
            case hy2x11 => (intro w hSw; go_simp <;> with_reducible rfl)
            try simp only [Act.put, List.setIfInBounds_toArray, List.set_cons_zero, List.set_cons_succ]
            refine wpAnyH_take (i := 11) (oi := { dst := some 94, op := _, type := _, pos := _, after := _, guard := _ }) (v := ?v2x12) rfl (by kernel_rfl) (by kernel_rfl) (by kernel_rfl) (fun _ _ _ h => h) (Or.inl ⟨by rfl, ?hy2x12⟩) hHeld ?rest2x12
            case hy2x12 => (intro w hSw; go_simp <;> with_reducible rfl)
            try simp only [Act.put, List.setIfInBounds_toArray, List.set_cons_zero, List.set_cons_succ]
            refine wpAnyH_take (i := 12) (oi := { dst := some 95, op := _, type := _, pos := _, after := _, guard := _ }) (v := ?v2x13) rfl (by kernel_rfl) (by kernel_rfl) (by kernel_rfl) (fun _ _ _ h => h) (Or.inl ⟨by rfl, ?hy2x13⟩) hHeld ?rest2x13
            case hy2x13 => (intro w hSw; go_simp <;> with_reducible rfl)
            try simp only [Act.put, List.setIfInBounds_toArray, List.set_cons_zero, List.set_cons_succ]
            refine wpAnyH_take (i := 13) (oi := { dst := some 96, op := _, type := _, pos := _, after := _, guard := _ }) (v := ?v2x14) rfl (by kernel_rfl) (by kernel_rfl) (by kernel_rfl) (fun _ _ _ h => h) (Or.inl ⟨by rfl, ?hy2x14⟩) hHeld ?rest2x14
            case hy2x14 => (intro w hSw; go_simp <;> with_reducible rfl)
            try simp only [Act.put, List.setIfInBounds_toArray, List.set_cons_zero, List.set_cons_succ]
            refine wpAnyH_take (i := 14) (oi := { dst := some 97, op := _, type := _, pos := _, after := _, guard := _ }) (v := ?v2x15) rfl (by kernel_rfl) (by kernel_rfl) (by kernel_rfl) (fun _ _ _ h => h) (Or.inl ⟨by rfl, ?hy2x15⟩) hHeld ?rest2x15
            case hy2x15 => (intro w hSw; go_simp <;> with_reducible rfl)
            try simp only [Act.put, List.setIfInBounds_toArray, List.set_cons_zero, List.set_cons_succ]
            refine wpAnyH_take (i := 15) (oi := { dst := some 98, op := _, type := _, pos := _, after := _, guard := _ }) (v := ?v2x16) rfl (by kernel_rfl) (by kernel_rfl) (by kernel_rfl) (fun _ _ _ h => h) (Or.inl ⟨by rfl, ?hy2x16⟩) hHeld ?rest2x16
            case hy2x16 => (intro w hSw; go_simp <;> with_reducible rfl)
            try simp only [Act.put, List.setIfInBounds_toArray, List.set_cons_zero, List.set_cons_succ]
            refine wpAnyH_done (by kernel_rfl) ?_ _
            have hbel := below_on HB.out hHeld
            clear hHeld cw0 cw1
            go_wp2_with fail
            exact ⟨⟨j + 1, by go_num, by omega, hbel⟩, by simp [intOf]; omega⟩
        · have q1 : ¬ (j : Int) < (n : Int) := by omega
          go_wp2_with fail
          go_loopw [11] (fun x wr3 => ∃ i2 : Nat, x = .int .i64 (i2 : Int) ∧ i2 ≤ l.length ∧ Below w5.heap.size w5 wr3) (fun x _ => l.length - (intOf x).toNat)
          case atStart => exact ⟨0, rfl, by omega, HB.out⟩
          case round =>
            obtain ⟨i, rfl, hi, hb3⟩ := hrel
            have HB3 := hide hb3
            clear hb3 HB
            by_cases hlt : i < l.length
            · have q2 : (i : Int) < (l.length : Int) := by omega
              obtain ⟨b, o, rfl, hbl, hc⟩ := HS.out.at_ i hlt
              have hr := hc i hlt
              have hm := HALL.out _ (List.getElem_mem hlt)
              have HBW := hide (below_on H5.out.bel HB3.out)
              have hcc : ∀ v, Below wr.heap.size wr v → v.cell? ⟨b, o + i * 4 + 1, none⟩ = some (.string (str (l[i]).c)) := fun v bv => ((below_on HBW.out bv).cell (p := ⟨b, o + i * 4 + 1, none⟩) hbl).trans (hr 1 _ rfl)
              clear hc hr
              generalize l[i] = p at *
              obtain ⟨call, c, f, q4⟩ := p
              simp only at hm hcc
              have c1 := hcc wr (Below.refl _ _)
              have HCC := hide hcc
              clear hcc
              go_wp2_with fail
              refine (xOf (H5.out.keep HB3.out) c (by omega) HK.out).mono ?_
              rintro e w6 ⟨O2, k2, rfl, r6, b6⟩
              have hok := ofE_ok HOK.out c
              have hol := ofE_len es c
              have hfb := HFB.out c
              generalize ofE es c = ol at *
              have HFBC := hide hfb
              have HO := hide hok
              have R6 := hide r6
              obtain ⟨m, hm2⟩ : ∃ m, ol.length = m := ⟨_, rfl⟩
              rw [hm2]
              have HM := hide hm2
              have B6 := hide b6
              have hm1 : m ≤ 100 := by have := HEL.out; omega
              clear hok hfb r6 hm2 b6 hol c1
              go_wp2_with fail
              go_loopw [14, 15] (fun bv kv wr4 => ∃ kk : Nat, kv = .int .i64 (kk : Int) ∧ kk ≤ m ∧ bv = .int .i64 (bestO nm (ol.take kk)) ∧ Below w6.heap.size w6 wr4) (fun _ kv _ => m - (intOf kv).toNat)
              case atStart => exact ⟨0, rfl, by omega, rfl, Below.refl _ _⟩
              case round =>
                obtain ⟨kk, rfl, hkk, rfl, hb4⟩ := hrel
                have HB4 := hide hb4
                clear hb4
                by_cases hkm : kk < m
                · have q3 : (kk : Int) < (m : Int) := by omega
                  have h0 : kk < ol.length := by rw [HM.out]; exact hkm
                  obtain ⟨b2, o2, hO2, hb5, hr5⟩ := tw_at (R6.out.keep HB4.out) kk h0
                  have r5 := hr5 kk h0
                  have hbs := bestO_snoc nm (ol.take kk) ol[kk]
                  rw [List.take_append_getElem h0] at hbs
                  have hfo := HO.out _ (List.getElem_mem h0)
                  generalize ol[kk] = s at *
                  obtain ⟨sf, sq⟩ := s
                  generalize bestO nm (ol.take kk) = bst at *
                  simp only at hbs hfo
                  have d0 : wr.cell? ⟨b2, o2 + kk * 2, none⟩ = some (.string (str sf)) := r5 0 _ rfl
                  have PT := rTakes_any sf nm (filterL_len hfo) (by have := HL.out; omega) hfo HNE.out wr
                  clear hr5 hfo
                  subst hO2
                  cases hmt : matchL sf nm with
                  | false =>
                    rw [if_neg (by rw [hmt]; simp)] at hbs
                    rw [hmt] at PT
                    have HBS := hide hbs
                    clear hbs hmt r5
                    go_wp2_with fail
                    refine PT.mono ?_
                    rintro e w7 ⟨rfl, b7⟩
                    have B7 := hide (below_on HB4.out b7)
                    clear b7 PT d0
                    go_wp2_with fail
                    exact ⟨⟨kk + 1, by go_num, by omega, by rw [HBS.out], B7.out⟩, by simp [intOf]; omega⟩
                  | true =>
                    rw [if_pos hmt] at hbs
                    rw [hmt] at PT
                    have HBS := hide hbs
                    have e1 := r5 1 _ rfl
                    have hd : ∀ v, Below wr.heap.size wr v → v.cell? ⟨b2, o2 + kk * 2 + 1, none⟩ = some (.int .i64 sq) := fun v bv => (bv.cell (p := ⟨b2, o2 + kk * 2 + 1, none⟩) hb5).trans e1
                    clear hbs hmt r5 e1
                    go_wp2_with fail
                    refine PT.mono ?_
                    rintro e w7 ⟨rfl, b7⟩
                    have B7 := hide (below_on HB4.out b7)
                    have d1 := hd w7 b7
                    clear b7 PT d0 hd
                    go_wp2_with fail
                    exact ⟨⟨kk + 1, by go_num, by omega, by rw [HBS.out], B7.out⟩, by simp [intOf]; omega⟩
                · have hke : kk = m := by omega
                  have q3 : ¬ (kk : Int) < (m : Int) := by omega
                  have hall : ol.take kk = ol := List.take_of_length_le (by rw [HM.out]; omega)
                  rw [hall, ← HFBC.out]
                  clear hall hke
                  go_wp2_with fail
                  go_loopw [16, 17] (fun fv kv wr5 => ∃ kk : Nat, kv = .int .i64 (kk : Int) ∧ kk ≤ n ∧ fv = .int .i64 (foundO c (fl.take kk)) ∧ Below w6.heap.size w6 wr5) (fun _ kv _ => n - (intOf kv).toNat)
                  case atStart => exact ⟨0, rfl, by omega, rfl, HB4.out⟩
                  case round =>
                    obtain ⟨kk, rfl, hkk, rfl, hb4⟩ := hrel
                    have HB5 := hide hb4
                    have HBX := hide (below_on (below_on HB3.out B6.out) HB5.out)
                    clear hb4 HB4
                    by_cases hkn : kk < n
                    · have q4 : (kk : Int) < (n : Int) := by omega
                      have h0 : kk < fl.length := by rw [HN.out]; exact hkn
                      obtain ⟨b2, o2, hO2, hb5, hr5⟩ := tw_at (R5.out.keep HBX.out) kk h0
                      have r5 := hr5 kk h0
                      have hbs := foundO_snoc c (fl.take kk) fl[kk]
                      rw [List.take_append_getElem h0] at hbs
                      generalize fl[kk] = s at *
                      obtain ⟨sc, sq⟩ := s
                      generalize foundO c (fl.take kk) = fnd at *
                      simp only at hbs
                      have cw0 : ∀ v, Below wr.heap.size wr v → v.cell? ⟨b2, o2 + kk * 2, none⟩ = some (.string (str sc)) := fun v bv => (bv.cell (p := ⟨b2, o2 + kk * 2, none⟩) hb5).trans (r5 0 _ rfl)
                      have hd : ∀ v, Below wr.heap.size wr v → v.cell? ⟨b2, o2 + kk * 2 + 1, none⟩ = some (.int .i64 sq) := fun v bv => (bv.cell (p := ⟨b2, o2 + kk * 2 + 1, none⟩) hb5).trans (r5 1 _ rfl)
                      have cs : ∀ v, Below wr.heap.size wr v → v.cell? ⟨b, o + i * 4 + 1, none⟩ = some (.string (str c)) := fun v bv => HCC.out v (below_on (below_on B6.out HB5.out) bv)
                      clear hr5 r5
                      subst hO2
                      by_cases he : sc = c
                      · have q5 : (sc == c) = true := beq_iff_eq.2 he
                        rw [if_pos he] at hbs
                        have HBS := hide hbs
                        clear hbs he
                        go_upto_region 37 with fail
                        refine wp_region_held_drew (S := fun Z => Below wr.heap.size wr Z) (by kernel_rfl) ?_ (fun hHeld => ?_)
                        · exact (Below.refl _ _).drew
                        refine wpAnyH_take (i := 0) (oi := { dst := some 141, op := _, type := _, pos := _, after := _, guard := _ }) (v := ?v3x1) rfl (by kernel_rfl) (by kernel_rfl) (by kernel_rfl) (fun _ _ _ h => h) (Or.inl ⟨by rfl, ?hy3x1⟩) hHeld ?rest3x1
                        case hy3x1 => (intro w hSw; go_simp <;> with_reducible rfl)
                        try simp only [Act.put, List.setIfInBounds_toArray, List.set_cons_zero, List.set_cons_succ]
                        refine wpAnyH_take (i := 1) (oi := { dst := some 142, op := _, type := _, pos := _, after := _, guard := _ }) (v := ?v3x2) rfl (by kernel_rfl) (by kernel_rfl) (by kernel_rfl) (fun _ _ _ h => h) (Or.inl ⟨by rfl, ?hy3x2⟩) hHeld ?rest3x2
                        case hy3x2 => (intro w hSw; go_simp <;> with_reducible rfl)
                        try simp only [Act.put, List.setIfInBounds_toArray, List.set_cons_zero, List.set_cons_succ]
                        refine wpAnyH_take (i := 2) (oi := { dst := some 143, op := _, type := _, pos := _, after := _, guard := _ }) (v := ?v3x3) rfl (by kernel_rfl) (by kernel_rfl) (by kernel_rfl) (fun _ _ _ h => h) (Or.inl ⟨by rfl, ?hy3x3⟩) hHeld ?rest3x3
                        case hy3x3 => (intro w hSw; go_simp <;> with_reducible rfl)
                        try simp only [Act.put, List.setIfInBounds_toArray, List.set_cons_zero, List.set_cons_succ]
                        refine wpAnyH_take (i := 3) (oi := { dst := some 144, op := _, type := _, pos := _, after := _, guard := _ }) (v := ?v3x4) rfl (by kernel_rfl) (by kernel_rfl) (by kernel_rfl) (fun _ _ _ h => h) (Or.inl ⟨by rfl, ?hy3x4⟩) hHeld ?rest3x4
                        case hy3x4 => (intro w hSw; go_simp <;> with_reducible rfl)
                        try simp only [Act.put, List.setIfInBounds_toArray, List.set_cons_zero, List.set_cons_succ]
                        refine wpAnyH_take (i := 4) (oi := { dst := some 145, op := _, type := _, pos := _, after := _, guard := _ }) (v := ?v3x5) rfl (by kernel_rfl) (by kernel_rfl) (by kernel_rfl) (fun _ _ _ h => h) (Or.inl ⟨by rfl, ?hy3x5⟩) hHeld ?rest3x5
                        case hy3x5 => (intro w hSw; go_simp <;> with_reducible rfl)
                        try simp only [Act.put, List.setIfInBounds_toArray, List.set_cons_zero, List.set_cons_succ]
                        refine wpAnyH_take (i := 5) (oi := { dst := some 146, op := _, type := _, pos := _, after := _, guard := _ }) (v := ?v3x6) rfl (by kernel_rfl) (by kernel_rfl) (by kernel_rfl) (fun _ _ _ h => h) (Or.inl ⟨by rfl, ?hy3x6⟩) hHeld ?rest3x6
                        case hy3x6 => (intro w hSw; go_simp <;> with_reducible rfl)
                        try simp only [Act.put, List.setIfInBounds_toArray, List.set_cons_zero, List.set_cons_succ]
                        refine wpAnyH_take (i := 6) (oi := { dst := some 147, op := _, type := _, pos := _, after := _, guard := _ }) (v := ?v3x7) rfl (by kernel_rfl) (by kernel_rfl) (by kernel_rfl) (fun _ _ _ h => h) (Or.inl ⟨by rfl, ?hy3x7⟩) hHeld ?rest3x7
                        case hy3x7 => (intro w hSw; go_simp <;> with_reducible rfl)
                        try simp only [Act.put, List.setIfInBounds_toArray, List.set_cons_zero, List.set_cons_succ]
                        refine wpAnyH_take (i := 7) (oi := { dst := some 148, op := _, type := _, pos := _, after := _, guard := _ }) (v := ?v3x8) rfl (by kernel_rfl) (by kernel_rfl) (by kernel_rfl) (fun _ _ _ h => h) (Or.inl ⟨by rfl, ?hy3x8⟩) hHeld ?rest3x8
                        case hy3x8 => (intro w hSw; go_simp <;> with_reducible rfl)
                        try simp only [Act.put, List.setIfInBounds_toArray, List.set_cons_zero, List.set_cons_succ]
                        refine wpAnyH_take (i := 8) (oi := { dst := some 149, op := _, type := _, pos := _, after := _, guard := _ }) (v := ?v3x9) rfl (by kernel_rfl) (by kernel_rfl) (by kernel_rfl) (fun _ _ _ h => h) (Or.inl ⟨by rfl, ?hy3x9⟩) hHeld ?rest3x9
                        case hy3x9 => (intro w hSw; go_simp <;> with_reducible rfl)
                        try simp only [Act.put, List.setIfInBounds_toArray, List.set_cons_zero, List.set_cons_succ]
                        refine wpAnyH_take (i := 9) (oi := { dst := some 150, op := _, type := _, pos := _, after := _, guard := _ }) (v := ?v3x10) rfl (by kernel_rfl) (by kernel_rfl) (by kernel_rfl) (fun _ _ _ h => h) (Or.inl ⟨by rfl, ?hy3x10⟩) hHeld ?rest3x10
                        case hy3x10 => (intro w hSw; go_simp <;> with_reducible rfl)
                        try simp only [Act.put, List.setIfInBounds_toArray, List.set_cons_zero, List.set_cons_succ]
                        refine wpAnyH_take (i := 10) (oi := { dst := some 151, op := _, type := _, pos := _, after := _, guard := _ }) (v := ?v3x11) rfl (by kernel_rfl) (by kernel_rfl) (by kernel_rfl) (fun _ _ _ h => h) (Or.inl ⟨by rfl, ?hy3x11⟩) hHeld ?rest3x11
                        case hy3x11 => (intro w hSw; go_simp <;> with_reducible rfl)
                        try simp only [Act.put, List.setIfInBounds_toArray, List.set_cons_zero, List.set_cons_succ]
                        refine wpAnyH_done (by kernel_rfl) ?_ _
                        have hbel := below_on HB5.out hHeld
                        have d1 := hd _ hHeld
                        clear cw0 cs hd hHeld
                        go_wp2_with fail
                        exact ⟨⟨kk + 1, by go_num, by omega, by rw [HBS.out], hbel⟩, by simp [intOf]; omega⟩
                      · have q5 : (sc == c) = false := beq_eq_false_iff_ne.2 he
                        rw [if_neg he] at hbs
                        have HBS := hide hbs
                        clear hbs he
                        go_upto_region 37 with fail
                        refine wp_region_held_drew (S := fun Z => Below wr.heap.size wr Z) (by kernel_rfl) ?_ (fun hHeld => ?_)
                        · exact (Below.refl _ _).drew
                        refine wpAnyH_take (i := 0) (oi := { dst := some 141, op := _, type := _, pos := _, after := _, guard := _ }) (v := ?v4x1) rfl (by kernel_rfl) (by kernel_rfl) (by kernel_rfl) (fun _ _ _ h => h) (Or.inl ⟨by rfl, ?hy4x1⟩) hHeld ?rest4x1
                        case hy4x1 => (intro w hSw; go_simp <;> with_reducible rfl)
                        try simp only [Act.put, List.setIfInBounds_toArray, List.set_cons_zero, List.set_cons_succ]
                        refine wpAnyH_take (i := 1) (oi := { dst := some 142, op := _, type := _, pos := _, after := _, guard := _ }) (v := ?v4x2) rfl (by kernel_rfl) (by kernel_rfl) (by kernel_rfl) (fun _ _ _ h => h) (Or.inl ⟨by rfl, ?hy4x2⟩) hHeld ?rest4x2
                        case hy4x2 => (intro w hSw; go_simp <;> with_reducible rfl)
                        try simp only [Act.put, List.setIfInBounds_toArray, List.set_cons_zero, List.set_cons_succ]
                        refine wpAnyH_take (i := 2) (oi := { dst := some 143, op := _, type := _, pos := _, after := _, guard := _ }) (v := ?v4x3) rfl (by kernel_rfl) (by kernel_rfl) (by kernel_rfl) (fun _ _ _ h => h) (Or.inl ⟨by rfl, ?hy4x3⟩) hHeld ?rest4x3
                        case hy4x3 => (intro w hSw; go_simp <;> with_reducible rfl)
                        try simp only [Act.put, List.setIfInBounds_toArray, List.set_cons_zero, List.set_cons_succ]
                        refine wpAnyH_take (i := 3) (oi := { dst := some 144, op := _, type := _, pos := _, after := _, guard := _ }) (v := ?v4x4) rfl (by kernel_rfl) (by kernel_rfl) (by kernel_rfl) (fun _ _ _ h => h) (Or.inl ⟨by rfl, ?hy4x4⟩) hHeld ?rest4x4
                        case hy4x4 => (intro w hSw; go_simp <;> with_reducible rfl)
                        try simp only [Act.put, List.setIfInBounds_toArray, List.set_cons_zero, List.set_cons_succ]
                        refine wpAnyH_take (i := 4) (oi := { dst := some 145, op := _, type := _, pos := _, after := _, guard := _ }) (v := ?v4x5) rfl (by kernel_rfl) (by kernel_rfl) (by kernel_rfl) (fun _ _ _ h => h) (Or.inl ⟨by rfl, ?hy4x5⟩) hHeld ?rest4x5
                        case hy4x5 => (intro w hSw; go_simp <;> with_reducible rfl)
                        try simp only [Act.put, List.setIfInBounds_toArray, List.set_cons_zero, List.set_cons_succ]
                        refine wpAnyH_take (i := 5) (oi := { dst := some 146, op := _, type := _, pos := _, after := _, guard := _ }) (v := ?v4x6) rfl (by kernel_rfl) (by kernel_rfl) (by kernel_rfl) (fun _ _ _ h => h) (Or.inl ⟨by rfl, ?hy4x6⟩) hHeld ?rest4x6
                        case hy4x6 => (intro w hSw; go_simp <;> with_reducible rfl)
                        try simp only [Act.put, List.setIfInBounds_toArray, List.set_cons_zero, List.set_cons_succ]
                        refine wpAnyH_take (i := 6) (oi := { dst := some 147, op := _, type := _, pos := _, after := _, guard := _ }) (v := ?v4x7) rfl (by kernel_rfl) (by kernel_rfl) (by kernel_rfl) (fun _ _ _ h => h) (Or.inl ⟨by rfl, ?hy4x7⟩) hHeld ?rest4x7
                        case hy4x7 => (intro w hSw; go_simp <;> with_reducible rfl)
                        try simp only [Act.put, List.setIfInBounds_toArray, List.set_cons_zero, List.set_cons_succ]
                        refine wpAnyH_take (i := 7) (oi := { dst := some 148, op := _, type := _, pos := _, after := _, guard := _ }) (v := ?v4x8) rfl (by kernel_rfl) (by kernel_rfl) (by kernel_rfl) (fun _ _ _ h => h) (Or.inl ⟨by rfl, ?hy4x8⟩) hHeld ?rest4x8
                        case hy4x8 => (intro w hSw; go_simp <;> with_reducible rfl)
                        try simp only [Act.put, List.setIfInBounds_toArray, List.set_cons_zero, List.set_cons_succ]
                        refine wpAnyH_take (i := 8) (oi := { dst := some 149, op := _, type := _, pos := _, after := _, guard := _ }) (v := ?v4x9) rfl (by kernel_rfl) (by kernel_rfl) (by kernel_rfl) (fun _ _ _ h => h) (Or.inl ⟨by rfl, ?hy4x9⟩) hHeld ?rest4x9
                        case hy4x9 => (intro w hSw; go_simp <;> with_reducible rfl)
                        try simp only [Act.put, List.setIfInBounds_toArray, List.set_cons_zero, List.set_cons_succ]
                        refine wpAnyH_take (i := 9) (oi := { dst := some 150, op := _, type := _, pos := _, after := _, guard := _ }) (v := ?v4x10) rfl (by kernel_rfl) (by kernel_rfl) (by kernel_rfl) (fun _ _ _ h => h) (Or.inl ⟨by rfl, ?hy4x10⟩) hHeld ?rest4x10
                        case hy4x10 => (intro w hSw; go_simp <;> with_reducible rfl)
                        try simp only [Act.put, List.setIfInBounds_toArray, List.set_cons_zero, List.set_cons_succ]
                        refine wpAnyH_take (i := 10) (oi := { dst := some 151, op := _, type := _, pos := _, after := _, guard := _ }) (v := ?v4x11) rfl (by kernel_rfl) (by kernel_rfl) (by kernel_rfl) (fun _ _ _ h => h) (Or.inl ⟨by rfl, ?hy4x11⟩) hHeld ?rest4x11
                        case hy4x11 => (intro w hSw; go_simp <;> with_reducible rfl)
                        try simp only [Act.put, List.setIfInBounds_toArray, List.set_cons_zero, List.set_cons_succ]
                        refine wpAnyH_done (by kernel_rfl) ?_ _
                        have hbel := below_on HB5.out hHeld
                        clear cw0 cs hd hHeld
                        go_wp2_with fail
                        exact ⟨⟨kk + 1, by go_num, by omega, by rw [HBS.out], hbel⟩, by simp [intOf]; omega⟩
                    · have q4 : ¬ (kk : Int) < (n : Int) := by omega
                      have hall : fl.take kk = fl := List.take_of_length_le (by rw [HN.out]; omega)
                      rw [hall]
                      generalize foundO c fl = fnd at *
                      have q5 : (fnd != fnd) = false := by simp
                      clear hall
                      go_wp2_with fail
                      exact ⟨⟨i + 1, by go_num, by omega, HBX.out⟩, by simp [intOf]; omega⟩
            · have q2 : ¬ (i : Int) < (l.length : Int) := by omega
              go_wp2_with fail
              refine (awake13_any wr).mono ?_
              rintro e w7 ⟨rfl, b7⟩
              have B7 := hide (below_on (below_on H5.out.bel HB3.out) b7)
              clear b7
              go_wp2_with fail
              go_ret
              exact ⟨rfl, B7.out⟩
end Go.Proofs.Ytfjafpbmgbnllaa
