/-
  What is proved here: the document's own Step of layer 7 in every case; its Sends and Dones say yes of rows that are the same. Conditions: the master keeps to MOk; the tick and the rest are at most 10^9; rows of at most a thousand, values of at most 10^6.
-/
import Derived.Test.YtfpfijggmfeejaaRs8
import Derived.Test.YtfpfijggmfeejaaSame3
namespace Go.Proofs.Ytfpfijggmfeejaa
set_option linter.unusedVariables false
set_option linter.unusedSimpArgs false
open Go.RowKit Go.Maps

theorem rsStep_any (R : RL) (s : MSt) (now : Int) (w : World) (h : RsA w R s) (hk : MOk s) (hw : now ≤ 1000000000) (hrs : s.rest ≤ 1000000000) :
    Calls Try.prog 12 #[.pointer (some ⟨R.g, 0, none⟩), .int .i64 now] w (RetRStep R (stepR s now) w) := by
  cases hb : tickBad s now
  · rcases out_cases s with ho | ⟨x, t, ho⟩
    · exact rsStep_none R s now w h hk (by omega) hb ho
    · by_cases hd : now - s.last < s.wait
      · exact rsStep_wait R s now x t w h hk (by omega) hb ho hd
      by_cases ht : t < s.again + 1
      · exact rsStep_again R s now x t w h hk (by omega) hb ho hd ht
      · exact rsStep_late R s now x t w h hk hw hrs hb ho hd ht
  · exact rsStep_bad R s now w h hb

set_option maxHeartbeats 2000000 in
theorem sends_yes (O P : Option Addr) (n m c d : Nat) (rs ss : List SM) (w : World) (h1 : SRd w O n rs) (h2 : SRd w P m ss) (l1 : n = rs.length) (l2 : m = ss.length) (hn : n ≤ 1000) (hv : ∀ y ∈ rs, y.r.vs.length ≤ 1000000) (he : rs.map SM.wt = ss.map SM.wt) :
    Calls Try.prog 13 #[.slice O n c, .slice P m d] w fun e w' => e = .returned (.bool true) ∧ Below w.heap.size w w' := by
  have hnm : n = m := by
    have := congrArg List.length he
    simp at this
    omega
  subst hnm
  have q : ((n : Int) != (n : Int)) = false := by simp
  have H1 := hide h1
  have H2 := hide h2
  have HE := hide he
  have HV := hide hv
  have L1 := hide l1
  have L2 := hide l2
  clear h1 h2 he hv l1 l2
  go_enter Try.func13, Try.ntmps13
  go_wp2
  go_loopw [5] (fun x wr => ∃ i : Nat, i ≤ n ∧ x = .int .i64 (i : Int) ∧ Below w.heap.size w wr) (fun x _ => n - (intOf x).toNat)
  case atStart => exact ⟨0, by omega, rfl, Below.refl _ _⟩
  case round =>
    obtain ⟨i, hi, rfl, hbel⟩ := hrel
    have Hb := hide hbel
    by_cases hlt : i < n
    · obtain ⟨b, o, r, rfl, hb, hr, hc, hir⟩ := (H1.out.keep hbel).at_ hlt
      obtain ⟨b', o', s, rfl, hb', hs, hc', his⟩ := (H2.out.keep hbel).at_ hlt
      have hvl := HV.out r (List.mem_of_getElem? hr)
      have hrs : r.wt = s.wt := by
        have a1 : (rs.map SM.wt)[i]? = some r.wt := by rw [List.getElem?_map, hr]; rfl
        have a2 : (ss.map SM.wt)[i]? = some s.wt := by rw [List.getElem?_map, hs]; rfl
        rw [HE.out, a2] at a1
        injection a1 with a1
        exact a1.symm
      obtain ⟨rt, ru, rq, rV, rk⟩ := r
      obtain ⟨st, su, sq, sV, sk⟩ := s
      simp only [SM.wt, Wt.mk.injEq] at hrs
      obtain ⟨rfl, rfl, rfl⟩ := hrs
      simp only [SM.is] at hir his
      have q1 : (i : Int) < (n : Int) := by omega
      have q2 : (((rt : Nat) : Int) != ((rt : Nat) : Int)) = false := by simp
      have q3 : (ru != ru) = false := by simp
      have z0c := hc 0 _ rfl
      have z0 : ∀ v, Below wr.heap.size wr v → v.cell? ⟨b, o + i * 9, none⟩ = some _ := fun v hv => (hv.cell (p := ⟨b, o + i * 9, none⟩) hb).trans z0c
      clear z0c
      have y0c := hc' 0 _ rfl
      have y0 : ∀ v, Below wr.heap.size wr v → v.cell? ⟨b', o' + i * 9, none⟩ = some _ := fun v hv => (hv.cell (p := ⟨b', o' + i * 9, none⟩) hb').trans y0c
      clear y0c
      have z1c := hc 1 _ rfl
      have z1 : ∀ v, Below wr.heap.size wr v → v.cell? ⟨b, o + i * 9 + 1, none⟩ = some _ := fun v hv => (hv.cell (p := ⟨b, o + i * 9 + 1, none⟩) hb).trans z1c
      clear z1c
      have z2c := hc 2 _ rfl
      have z2 : ∀ v, Below wr.heap.size wr v → v.cell? ⟨b, o + i * 9 + 2, none⟩ = some _ := fun v hv => (hv.cell (p := ⟨b, o + i * 9 + 2, none⟩) hb).trans z2c
      clear z2c
      have z3c := hc 3 _ rfl
      have z3 : ∀ v, Below wr.heap.size wr v → v.cell? ⟨b, o + i * 9 + 3, none⟩ = some _ := fun v hv => (hv.cell (p := ⟨b, o + i * 9 + 3, none⟩) hb).trans z3c
      clear z3c
      have z4c := hc 4 _ rfl
      have z4 : ∀ v, Below wr.heap.size wr v → v.cell? ⟨b, o + i * 9 + 4, none⟩ = some _ := fun v hv => (hv.cell (p := ⟨b, o + i * 9 + 4, none⟩) hb).trans z4c
      clear z4c
      have z5c := hc 5 _ rfl
      have z5 : ∀ v, Below wr.heap.size wr v → v.cell? ⟨b, o + i * 9 + 5, none⟩ = some _ := fun v hv => (hv.cell (p := ⟨b, o + i * 9 + 5, none⟩) hb).trans z5c
      clear z5c
      have z6c := hc 6 _ rfl
      have z6 : ∀ v, Below wr.heap.size wr v → v.cell? ⟨b, o + i * 9 + 6, none⟩ = some _ := fun v hv => (hv.cell (p := ⟨b, o + i * 9 + 6, none⟩) hb).trans z6c
      clear z6c
      have z7c := hc 7 _ rfl
      have z7 : ∀ v, Below wr.heap.size wr v → v.cell? ⟨b, o + i * 9 + 7, none⟩ = some _ := fun v hv => (hv.cell (p := ⟨b, o + i * 9 + 7, none⟩) hb).trans z7c
      clear z7c
      have z8c := hc 8 _ rfl
      have z8 : ∀ v, Below wr.heap.size wr v → v.cell? ⟨b, o + i * 9 + 8, none⟩ = some _ := fun v hv => (hv.cell (p := ⟨b, o + i * 9 + 8, none⟩) hb).trans z8c
      clear z8c
      have y1c := hc' 1 _ rfl
      have y1 : ∀ v, Below wr.heap.size wr v → v.cell? ⟨b', o' + i * 9 + 1, none⟩ = some _ := fun v hv => (hv.cell (p := ⟨b', o' + i * 9 + 1, none⟩) hb').trans y1c
      clear y1c
      have y2c := hc' 2 _ rfl
      have y2 : ∀ v, Below wr.heap.size wr v → v.cell? ⟨b', o' + i * 9 + 2, none⟩ = some _ := fun v hv => (hv.cell (p := ⟨b', o' + i * 9 + 2, none⟩) hb').trans y2c
      clear y2c
      have y3c := hc' 3 _ rfl
      have y3 : ∀ v, Below wr.heap.size wr v → v.cell? ⟨b', o' + i * 9 + 3, none⟩ = some _ := fun v hv => (hv.cell (p := ⟨b', o' + i * 9 + 3, none⟩) hb').trans y3c
      clear y3c
      have y4c := hc' 4 _ rfl
      have y4 : ∀ v, Below wr.heap.size wr v → v.cell? ⟨b', o' + i * 9 + 4, none⟩ = some _ := fun v hv => (hv.cell (p := ⟨b', o' + i * 9 + 4, none⟩) hb').trans y4c
      clear y4c
      have y5c := hc' 5 _ rfl
      have y5 : ∀ v, Below wr.heap.size wr v → v.cell? ⟨b', o' + i * 9 + 5, none⟩ = some _ := fun v hv => (hv.cell (p := ⟨b', o' + i * 9 + 5, none⟩) hb').trans y5c
      clear y5c
      have y6c := hc' 6 _ rfl
      have y6 : ∀ v, Below wr.heap.size wr v → v.cell? ⟨b', o' + i * 9 + 6, none⟩ = some _ := fun v hv => (hv.cell (p := ⟨b', o' + i * 9 + 6, none⟩) hb').trans y6c
      clear y6c
      have y7c := hc' 7 _ rfl
      have y7 : ∀ v, Below wr.heap.size wr v → v.cell? ⟨b', o' + i * 9 + 7, none⟩ = some _ := fun v hv => (hv.cell (p := ⟨b', o' + i * 9 + 7, none⟩) hb').trans y7c
      clear y7c
      have y8c := hc' 8 _ rfl
      have y8 : ∀ v, Below wr.heap.size wr v → v.cell? ⟨b', o' + i * 9 + 8, none⟩ = some _ := fun v hv => (hv.cell (p := ⟨b', o' + i * 9 + 8, none⟩) hb').trans y8c
      clear y8c
      have HZ := hide (fun W (b : Below wr.heap.size wr W) => same_yes rq.f rq.a rq.c rq.t rq.an rq.o rV sV _ _ rk sk rq.vs W (hir.keep b) (his.keep b) hvl)
      clear hbel hir his hr hs hc hc' hvl
      go_wp2_with fail
      refine wp_region_held_drew (S := fun w' => Below wr.heap.size wr w') (by kernel_rfl) ?_ (fun hHeld => ?_)
      · exact (Below.refl _ _).drew
      refine wpAnyH_take (i := 0) (oi := { dst := some 17, op := _, type := _, pos := _, after := _, guard := _ }) (v := ?v1x1) rfl (by kernel_rfl) (by kernel_rfl) (by kernel_rfl) (fun _ _ _ h => h) (Or.inl ⟨by rfl, ?hy1x1⟩) hHeld ?rest1x1
      case hy1x1 => (intro w hSw; go_simp <;> with_reducible rfl)
      try simp only [Act.put, List.setIfInBounds_toArray, List.set_cons_zero, List.set_cons_succ]
      refine wpAnyH_take (i := 1) (oi := { dst := some 18, op := _, type := _, pos := _, after := _, guard := _ }) (v := ?v1x2) rfl (by kernel_rfl) (by kernel_rfl) (by kernel_rfl) (fun _ _ _ h => h) (Or.inl ⟨by rfl, ?hy1x2⟩) hHeld ?rest1x2
      case hy1x2 => (intro w hSw; go_simp <;> with_reducible rfl)
      try simp only [Act.put, List.setIfInBounds_toArray, List.set_cons_zero, List.set_cons_succ]
      refine wpAnyH_take (i := 2) (oi := { dst := some 19, op := _, type := _, pos := _, after := _, guard := _ }) (v := ?v1x3) rfl (by kernel_rfl) (by kernel_rfl) (by kernel_rfl) (fun _ _ _ h => h) (Or.inl ⟨by rfl, ?hy1x3⟩) hHeld ?rest1x3
      case hy1x3 => (intro w hSw; go_simp <;> with_reducible rfl)
      try simp only [Act.put, List.setIfInBounds_toArray, List.set_cons_zero, List.set_cons_succ]
      refine wpAnyH_take (i := 3) (oi := { dst := some 20, op := _, type := _, pos := _, after := _, guard := _ }) (v := ?v1x4) rfl (by kernel_rfl) (by kernel_rfl) (by kernel_rfl) (fun _ _ _ h => h) (Or.inl ⟨by rfl, ?hy1x4⟩) hHeld ?rest1x4
      case hy1x4 => (intro w hSw; go_simp <;> with_reducible rfl)
      try simp only [Act.put, List.setIfInBounds_toArray, List.set_cons_zero, List.set_cons_succ]
      refine wpAnyH_take (i := 4) (oi := { dst := some 21, op := _, type := _, pos := _, after := _, guard := _ }) (v := ?v1x5) rfl (by kernel_rfl) (by kernel_rfl) (by kernel_rfl) (fun _ _ _ h => h) (Or.inl ⟨by rfl, ?hy1x5⟩) hHeld ?rest1x5
      case hy1x5 => (intro w hSw; go_simp <;> with_reducible rfl)
      try simp only [Act.put, List.setIfInBounds_toArray, List.set_cons_zero, List.set_cons_succ]
      refine wpAnyH_take (i := 5) (oi := { dst := some 22, op := _, type := _, pos := _, after := _, guard := _ }) (v := ?v1x6) rfl (by kernel_rfl) (by kernel_rfl) (by kernel_rfl) (fun _ _ _ h => h) (Or.inl ⟨by rfl, ?hy1x6⟩) hHeld ?rest1x6
      case hy1x6 => (intro w hSw; go_simp <;> with_reducible rfl)
      try simp only [Act.put, List.setIfInBounds_toArray, List.set_cons_zero, List.set_cons_succ]
      refine wpAnyH_take (i := 6) (oi := { dst := some 23, op := _, type := _, pos := _, after := _, guard := _ }) (v := ?v1x7) rfl (by kernel_rfl) (by kernel_rfl) (by kernel_rfl) (fun _ _ _ h => h) (Or.inl ⟨by rfl, ?hy1x7⟩) hHeld ?rest1x7
      case hy1x7 => (intro w hSw; go_simp <;> with_reducible rfl)
      try simp only [Act.put, List.setIfInBounds_toArray, List.set_cons_zero, List.set_cons_succ]
      refine wpAnyH_take (i := 7) (oi := { dst := some 24, op := _, type := _, pos := _, after := _, guard := _ }) (v := ?v1x8) rfl (by kernel_rfl) (by kernel_rfl) (by kernel_rfl) (fun _ _ _ h => h) (Or.inl ⟨by rfl, ?hy1x8⟩) hHeld ?rest1x8
      case hy1x8 => (intro w hSw; go_simp <;> with_reducible rfl)
      try simp only [Act.put, List.setIfInBounds_toArray, List.set_cons_zero, List.set_cons_succ]
      refine wpAnyH_take (i := 8) (oi := { dst := some 25, op := _, type := _, pos := _, after := _, guard := _ }) (v := ?v1x9) rfl (by kernel_rfl) (by kernel_rfl) (by kernel_rfl) (fun _ _ _ h => h) (Or.inl ⟨by rfl, ?hy1x9⟩) hHeld ?rest1x9
      case hy1x9 => (intro w hSw; go_simp <;> with_reducible rfl)
      try simp only [Act.put, List.setIfInBounds_toArray, List.set_cons_zero, List.set_cons_succ]
      refine wpAnyH_take (i := 9) (oi := { dst := some 26, op := _, type := _, pos := _, after := _, guard := _ }) (v := ?v1x10) rfl (by kernel_rfl) (by kernel_rfl) (by kernel_rfl) (fun _ _ _ h => h) (Or.inl ⟨by rfl, ?hy1x10⟩) hHeld ?rest1x10
      case hy1x10 => (intro w hSw; go_simp <;> with_reducible rfl)
      try simp only [Act.put, List.setIfInBounds_toArray, List.set_cons_zero, List.set_cons_succ]
      refine wpAnyH_take (i := 10) (oi := { dst := some 27, op := _, type := _, pos := _, after := _, guard := _ }) (v := ?v1x11) rfl (by kernel_rfl) (by kernel_rfl) (by kernel_rfl) (fun _ _ _ h => h) (Or.inl ⟨by rfl, ?hy1x11⟩) hHeld ?rest1x11
      case hy1x11 => (intro w hSw; go_simp <;> with_reducible rfl)
      try simp only [Act.put, List.setIfInBounds_toArray, List.set_cons_zero, List.set_cons_succ]
      refine wpAnyH_take (i := 11) (oi := { dst := some 28, op := _, type := _, pos := _, after := _, guard := _ }) (v := ?v1x12) rfl (by kernel_rfl) (by kernel_rfl) (by kernel_rfl) (fun _ _ _ h => h) (Or.inl ⟨by rfl, ?hy1x12⟩) hHeld ?rest1x12
      case hy1x12 => (intro w hSw; go_simp <;> with_reducible rfl)
      try simp only [Act.put, List.setIfInBounds_toArray, List.set_cons_zero, List.set_cons_succ]
      refine wpAnyH_take (i := 12) (oi := { dst := some 29, op := _, type := _, pos := _, after := _, guard := _ }) (v := ?v1x13) rfl (by kernel_rfl) (by kernel_rfl) (by kernel_rfl) (fun _ _ _ h => h) (Or.inl ⟨by rfl, ?hy1x13⟩) hHeld ?rest1x13
      case hy1x13 => (intro w hSw; go_simp <;> with_reducible rfl)
      try simp only [Act.put, List.setIfInBounds_toArray, List.set_cons_zero, List.set_cons_succ]
      refine wpAnyH_take (i := 13) (oi := { dst := some 30, op := _, type := _, pos := _, after := _, guard := _ }) (v := ?v1x14) rfl (by kernel_rfl) (by kernel_rfl) (by kernel_rfl) (fun _ _ _ h => h) (Or.inl ⟨by rfl, ?hy1x14⟩) hHeld ?rest1x14
      case hy1x14 => (intro w hSw; go_simp <;> with_reducible rfl)
      try simp only [Act.put, List.setIfInBounds_toArray, List.set_cons_zero, List.set_cons_succ]
      refine wpAnyH_take (i := 14) (oi := { dst := some 31, op := _, type := _, pos := _, after := _, guard := _ }) (v := ?v1x15) rfl (by kernel_rfl) (by kernel_rfl) (by kernel_rfl) (fun _ _ _ h => h) (Or.inl ⟨by rfl, ?hy1x15⟩) hHeld ?rest1x15
      case hy1x15 => (intro w hSw; go_simp <;> with_reducible rfl)
      try simp only [Act.put, List.setIfInBounds_toArray, List.set_cons_zero, List.set_cons_succ]
      refine wpAnyH_take (i := 15) (oi := { dst := some 32, op := _, type := _, pos := _, after := _, guard := _ }) (v := ?v1x16) rfl (by kernel_rfl) (by kernel_rfl) (by kernel_rfl) (fun _ _ _ h => h) (Or.inl ⟨by rfl, ?hy1x16⟩) hHeld ?rest1x16
      case hy1x16 => (intro w hSw; go_simp <;> with_reducible rfl)
      try simp only [Act.put, List.setIfInBounds_toArray, List.set_cons_zero, List.set_cons_succ]
      refine wpAnyH_take (i := 16) (oi := { dst := some 33, op := _, type := _, pos := _, after := _, guard := _ }) (v := ?v1x17) rfl (by kernel_rfl) (by kernel_rfl) (by kernel_rfl) (fun _ _ _ h => h) (Or.inl ⟨by rfl, ?hy1x17⟩) hHeld ?rest1x17
      case hy1x17 => (intro w hSw; go_simp <;> with_reducible rfl)
      try simp only [Act.put, List.setIfInBounds_toArray, List.set_cons_zero, List.set_cons_succ]
      refine wpAnyH_take (i := 17) (oi := { dst := some 34, op := _, type := _, pos := _, after := _, guard := _ }) (v := ?v1x18) rfl (by kernel_rfl) (by kernel_rfl) (by kernel_rfl) (fun _ _ _ h => h) (Or.inl ⟨by rfl, ?hy1x18⟩) hHeld ?rest1x18
      case hy1x18 => (intro w hSw; go_simp <;> with_reducible rfl)
      try simp only [Act.put, List.setIfInBounds_toArray, List.set_cons_zero, List.set_cons_succ]
      refine wpAnyH_take (i := 18) (oi := { dst := some 35, op := _, type := _, pos := _, after := _, guard := _ }) (v := ?v1x19) rfl (by kernel_rfl) (by kernel_rfl) (by kernel_rfl) (fun _ _ _ h => h) (Or.inl ⟨by rfl, ?hy1x19⟩) hHeld ?rest1x19
      case hy1x19 => (intro w hSw; go_simp <;> with_reducible rfl)
      try simp only [Act.put, List.setIfInBounds_toArray, List.set_cons_zero, List.set_cons_succ]
      refine wpAnyH_take (i := 19) (oi := { dst := some 36, op := _, type := _, pos := _, after := _, guard := _ }) (v := ?v1x20) rfl (by kernel_rfl) (by kernel_rfl) (by kernel_rfl) (fun _ _ _ h => h) (Or.inl ⟨by rfl, ?hy1x20⟩) hHeld ?rest1x20
      case hy1x20 => (intro w hSw; go_simp <;> with_reducible rfl)
      try simp only [Act.put, List.setIfInBounds_toArray, List.set_cons_zero, List.set_cons_succ]
      refine wpAnyH_take (i := 20) (oi := { dst := some 37, op := _, type := _, pos := _, after := _, guard := _ }) (v := ?v1x21) rfl (by kernel_rfl) (by kernel_rfl) (by kernel_rfl) (fun _ _ _ h => h) (Or.inl ⟨by rfl, ?hy1x21⟩) hHeld ?rest1x21
      case hy1x21 => (intro w hSw; go_simp <;> with_reducible rfl)
      try simp only [Act.put, List.setIfInBounds_toArray, List.set_cons_zero, List.set_cons_succ]
      refine wpAnyH_take (i := 21) (oi := { dst := some 38, op := _, type := _, pos := _, after := _, guard := _ }) (v := ?v1x22) rfl (by kernel_rfl) (by kernel_rfl) (by kernel_rfl) (fun _ _ _ h => h) (Or.inl ⟨by rfl, ?hy1x22⟩) hHeld ?rest1x22
      case hy1x22 => (intro w hSw; go_simp <;> with_reducible rfl)
      try simp only [Act.put, List.setIfInBounds_toArray, List.set_cons_zero, List.set_cons_succ]
      refine wpAnyH_take (i := 22) (oi := { dst := some 39, op := _, type := _, pos := _, after := _, guard := _ }) (v := ?v1x23) rfl (by kernel_rfl) (by kernel_rfl) (by kernel_rfl) (fun _ _ _ h => h) (Or.inl ⟨by rfl, ?hy1x23⟩) hHeld ?rest1x23
      case hy1x23 => (intro w hSw; go_simp <;> with_reducible rfl)
      try simp only [Act.put, List.setIfInBounds_toArray, List.set_cons_zero, List.set_cons_succ]
      refine wpAnyH_take (i := 23) (oi := { dst := some 40, op := _, type := _, pos := _, after := _, guard := _ }) (v := ?v1x24) rfl (by kernel_rfl) (by kernel_rfl) (by kernel_rfl) (fun _ _ _ h => h) (Or.inl ⟨by rfl, ?hy1x24⟩) hHeld ?rest1x24
      case hy1x24 => (intro w hSw; go_simp <;> with_reducible rfl)
      try simp only [Act.put, List.setIfInBounds_toArray, List.set_cons_zero, List.set_cons_succ]
      refine wpAnyH_take (i := 24) (oi := { dst := some 41, op := _, type := _, pos := _, after := _, guard := _ }) (v := ?v1x25) rfl (by kernel_rfl) (by kernel_rfl) (by kernel_rfl) (fun _ _ _ h => h) (Or.inl ⟨by rfl, ?hy1x25⟩) hHeld ?rest1x25
      case hy1x25 => (intro w hSw; go_simp <;> with_reducible rfl)
      try simp only [Act.put, List.setIfInBounds_toArray, List.set_cons_zero, List.set_cons_succ]
      refine wpAnyH_take (i := 25) (oi := { dst := some 42, op := _, type := _, pos := _, after := _, guard := _ }) (v := ?v1x26) rfl (by kernel_rfl) (by kernel_rfl) (by kernel_rfl) (fun _ _ _ h => h) (Or.inl ⟨by rfl, ?hy1x26⟩) hHeld ?rest1x26
      case hy1x26 => (intro w hSw; go_simp <;> with_reducible rfl)
      try simp only [Act.put, List.setIfInBounds_toArray, List.set_cons_zero, List.set_cons_succ]
      refine wpAnyH_take (i := 26) (oi := { dst := some 43, op := _, type := _, pos := _, after := _, guard := _ }) (v := ?v1x27) rfl (by kernel_rfl) (by kernel_rfl) (by kernel_rfl) (fun _ _ _ h => h) (Or.inl ⟨by rfl, ?hy1x27⟩) hHeld ?rest1x27
      case hy1x27 => (intro w hSw; go_simp <;> with_reducible rfl)
      try simp only [Act.put, List.setIfInBounds_toArray, List.set_cons_zero, List.set_cons_succ]
      refine wpAnyH_take (i := 27) (oi := { dst := some 44, op := _, type := _, pos := _, after := _, guard := _ }) (v := ?v1x28) rfl (by kernel_rfl) (by kernel_rfl) (by kernel_rfl) (fun _ _ _ h => h) (Or.inl ⟨by rfl, ?hy1x28⟩) hHeld ?rest1x28
      case hy1x28 => (intro w hSw; go_simp <;> with_reducible rfl)
      try simp only [Act.put, List.setIfInBounds_toArray, List.set_cons_zero, List.set_cons_succ]
      refine wpAnyH_take (i := 28) (oi := { dst := some 45, op := _, type := _, pos := _, after := _, guard := _ }) (v := ?v1x29) rfl (by kernel_rfl) (by kernel_rfl) (by kernel_rfl) (fun _ _ _ h => h) (Or.inl ⟨by rfl, ?hy1x29⟩) hHeld ?rest1x29
      case hy1x29 => (intro w hSw; go_simp <;> with_reducible rfl)
      try simp only [Act.put, List.setIfInBounds_toArray, List.set_cons_zero, List.set_cons_succ]
      refine wpAnyH_take (i := 29) (oi := { dst := some 46, op := _, type := _, pos := _, after := _, guard := _ }) (v := ?v1x30) rfl (by kernel_rfl) (by kernel_rfl) (by kernel_rfl) (fun _ _ _ h => h) (Or.inl ⟨by rfl, ?hy1x30⟩) hHeld ?rest1x30
      case hy1x30 => (intro w hSw; go_simp <;> with_reducible rfl)
      try simp only [Act.put, List.setIfInBounds_toArray, List.set_cons_zero, List.set_cons_succ]
      refine wpAnyH_take (i := 30) (oi := { dst := some 47, op := _, type := _, pos := _, after := _, guard := _ }) (v := ?v1x31) rfl (by kernel_rfl) (by kernel_rfl) (by kernel_rfl) (fun _ _ _ h => h) (Or.inl ⟨by rfl, ?hy1x31⟩) hHeld ?rest1x31
      case hy1x31 => (intro w hSw; go_simp <;> with_reducible rfl)
      try simp only [Act.put, List.setIfInBounds_toArray, List.set_cons_zero, List.set_cons_succ]
      refine wpAnyH_take (i := 31) (oi := { dst := some 48, op := _, type := _, pos := _, after := _, guard := _ }) (v := ?v1x32) rfl (by kernel_rfl) (by kernel_rfl) (by kernel_rfl) (fun _ _ _ h => h) (Or.inl ⟨by rfl, ?hy1x32⟩) hHeld ?rest1x32
      case hy1x32 => (intro w hSw; go_simp <;> with_reducible rfl)
      try simp only [Act.put, List.setIfInBounds_toArray, List.set_cons_zero, List.set_cons_succ]
      refine wpAnyH_take (i := 32) (oi := { dst := some 49, op := _, type := _, pos := _, after := _, guard := _ }) (v := ?v1x33) rfl (by kernel_rfl) (by kernel_rfl) (by kernel_rfl) (fun _ _ _ h => h) (Or.inl ⟨by rfl, ?hy1x33⟩) hHeld ?rest1x33
      case hy1x33 => (intro w hSw; go_simp <;> with_reducible rfl)
      try simp only [Act.put, List.setIfInBounds_toArray, List.set_cons_zero, List.set_cons_succ]
      refine wpAnyH_take (i := 33) (oi := { dst := some 50, op := _, type := _, pos := _, after := _, guard := _ }) (v := ?v1x34) rfl (by kernel_rfl) (by kernel_rfl) (by kernel_rfl) (fun _ _ _ h => h) (Or.inl ⟨by rfl, ?hy1x34⟩) hHeld ?rest1x34
      case hy1x34 => (intro w hSw; go_simp <;> with_reducible rfl)
      try simp only [Act.put, List.setIfInBounds_toArray, List.set_cons_zero, List.set_cons_succ]
      refine wpAnyH_take (i := 34) (oi := { dst := some 51, op := _, type := _, pos := _, after := _, guard := _ }) (v := ?v1x35) rfl (by kernel_rfl) (by kernel_rfl) (by kernel_rfl) (fun _ _ _ h => h) (Or.inl ⟨by rfl, ?hy1x35⟩) hHeld ?rest1x35
      case hy1x35 => (intro w hSw; go_simp <;> with_reducible rfl)
      try simp only [Act.put, List.setIfInBounds_toArray, List.set_cons_zero, List.set_cons_succ]
      refine wpAnyH_ready (rs := [35]) (by kernel_rfl) (by simp) (AllReadyH.cons (o := { dst := some 52, op := _, type := _, pos := _, after := _, guard := _ }) rfl (fun K hK => ?_) AllReadyH.nil)
      go_simp
      refine (HZ.out _ hHeld).mono ?_
      rintro e w9 ⟨rfl, b9⟩
      have B9 := hide (below_on hHeld b9)
      clear b9
      go_wp2_with fail
      refine hK.out _ _ ?_ (fun hHeld => ?_)
      · exact B9.out
      clear hK K
      try simp only [Act.put, List.setIfInBounds_toArray, List.set_cons_zero, List.set_cons_succ]
      refine wpAnyH_take (i := 36) (oi := { dst := some 53, op := _, type := _, pos := _, after := _, guard := _ }) (v := ?v1x37) rfl (by kernel_rfl) (by kernel_rfl) (by kernel_rfl) (fun _ _ _ h => h) (Or.inl ⟨by rfl, ?hy1x37⟩) hHeld ?rest1x37
      case hy1x37 => (intro w hSw; go_simp <;> with_reducible rfl)
      try simp only [Act.put, List.setIfInBounds_toArray, List.set_cons_zero, List.set_cons_succ]
      refine wpAnyH_take (i := 37) (oi := { dst := some 54, op := _, type := _, pos := _, after := _, guard := _ }) (v := ?v1x38) rfl (by kernel_rfl) (by kernel_rfl) (by kernel_rfl) (fun _ _ _ h => h) (Or.inl ⟨by rfl, ?hy1x38⟩) hHeld ?rest1x38
      case hy1x38 => (intro w hSw; go_simp <;> with_reducible rfl)
      try simp only [Act.put, List.setIfInBounds_toArray, List.set_cons_zero, List.set_cons_succ]
      refine wpAnyH_done (by kernel_rfl) ?_ _
      go_wp2_with fail
      go_roundw
      case rel => exact ⟨i + 1, by omega, by go_num, below_on Hb.out hHeld⟩
      case measure => simp [intOf]; omega
    · obtain rfl : i = n := by omega
      have q1 : ¬ (i : Int) < (i : Int) := by omega
      clear hbel
      go_wp2
      go_ret
      exact ⟨rfl, Hb.out⟩

theorem dvs_get : ∀ (rs : List DM) (i : Nat) (r : DM) (j : Nat), rs[i]? = some r → j < 4 → (rs.flatMap DM.vs)[i * 4 + j]? = r.vs[j]?
  | [], _, _, _, h, _ => by simp at h
  | x :: rs, 0, r, j, h, hj => by
    simp at h
    subst h
    rw [List.flatMap_cons, List.getElem?_append_left (by show _ < 4; omega), Nat.zero_mul, Nat.zero_add]
  | x :: rs, i + 1, r, j, h, hj => by
    rw [List.flatMap_cons, List.getElem?_append_right (by show 4 ≤ _; omega)]
    show (rs.flatMap DM.vs)[(i + 1) * 4 + j - 4]? = _
    rw [show (i + 1) * 4 + j - 4 = i * 4 + j by omega]
    exact dvs_get rs i r j (by simpa using h) hj
theorem DRdN.keep {w w' : World} {P : Option Addr} {n : Nat} {ds : List DM} (h : DRdN w P n ds) (b : Below w.heap.size w w') : DRdN w' P n ds := ⟨h.1.keep b, fun d hd => (h.2 d hd).keep b⟩
theorem DRdN.at_ {w : World} {O : Option Addr} {n i : Nat} {ds : List DM} (h : DRdN w O n ds) (hn : n = ds.length) (hi : i < n) : ∃ b o y, O = some ⟨b, o, none⟩ ∧ b < w.heap.size ∧ ds[i]? = some y ∧ (∀ j v, j < 4 → y.vs[j]? = some v → w.cell? ⟨b, o + (i * 4 + j), none⟩ = some v) ∧ y.is w := by
  obtain ⟨b, o, e, hb, hc⟩ := h.1.2 (by omega)
  have hy : ds[i]? = some ds[i] := List.getElem?_eq_getElem (by omega)
  exact ⟨b, o, ds[i], e, hb, hy, fun j v hj hv => hc _ v ((dvs_get ds i _ j hy hj).trans hv), h.2 _ (List.getElem_mem _)⟩
theorem DRd.rows {w : World} {O : Option Addr} {n : Nat} {ds : List DM} (h : DRd w O n ds) : DRdN w O n ds := by
  rcases h with ⟨rfl, rfl⟩ | ⟨d, b, rfl, rfl, rfl, hb, hd⟩
  · exact DRdN.nil _ _
  · refine ⟨?_, by intro x hx; simp at hx; subst hx; exact hd⟩
    show Rd w _ (1 * 4) (d.vs ++ [])
    rw [List.append_nil]
    exact hb.rd
set_option maxHeartbeats 2000000 in
theorem dones_yes (O P : Option Addr) (n m c d : Nat) (rs ss : List DM) (w : World) (h1 : DRdN w O n rs) (h2 : DRdN w P m ss) (l1 : n = rs.length) (l2 : m = ss.length) (hn : n ≤ 1000) (hv : ∀ y ∈ rs, y.an.us.length ≤ 1000000) (he : rs.map DM.dn = ss.map DM.dn) :
    Calls Try.prog 14 #[.slice O n c, .slice P m d] w fun e w' => e = .returned (.bool true) ∧ Below w.heap.size w w' := by
  have hnm : n = m := by
    have := congrArg List.length he
    simp at this
    omega
  subst hnm
  have q : ((n : Int) != (n : Int)) = false := by simp
  have H1 := hide h1
  have H2 := hide h2
  have HE := hide he
  have HV := hide hv
  have L1 := hide l1
  have L2 := hide l2
  clear h1 h2 he hv l1 l2
  go_enter Try.func14, Try.ntmps14
  go_wp2
  go_loopw [5] (fun x wr => ∃ i : Nat, i ≤ n ∧ x = .int .i64 (i : Int) ∧ Below w.heap.size w wr) (fun x _ => n - (intOf x).toNat)
  case atStart => exact ⟨0, by omega, rfl, Below.refl _ _⟩
  case round =>
    obtain ⟨i, hi, rfl, hbel⟩ := hrel
    have Hb := hide hbel
    by_cases hlt : i < n
    · obtain ⟨b, o, r, rfl, hb, hr, hc, hir⟩ := (H1.out.keep hbel).at_ L1.out hlt
      obtain ⟨b', o', s, rfl, hb', hs, hc', his⟩ := (H2.out.keep hbel).at_ L2.out hlt
      have hvl := HV.out r (List.mem_of_getElem? hr)
      have hrs : r.dn = s.dn := by
        have a1 : (rs.map DM.dn)[i]? = some r.dn := by rw [List.getElem?_map, hr]; rfl
        have a2 : (ss.map DM.dn)[i]? = some s.dn := by rw [List.getElem?_map, hs]; rfl
        rw [HE.out, a2] at a1
        injection a1 with a1
        exact a1.symm
      obtain ⟨rt, ra, rl, rV, rk⟩ := r
      obtain ⟨st, sa, sl, sV, sk⟩ := s
      simp only [DM.dn, Dn.mk.injEq] at hrs
      obtain ⟨rfl, rfl, rfl⟩ := hrs
      simp only [DM.is] at hir his
      have q1 : (i : Int) < (n : Int) := by omega
      have q2 : (((rt : Nat) : Int) != ((rt : Nat) : Int)) = false := by simp
      have q3 : (rl != rl) = false := by simp
      have z0c := hc 0 _ (by decide) rfl
      have z0 : ∀ v, Below wr.heap.size wr v → v.cell? ⟨b, o + i * 4, none⟩ = some _ := fun v hv => (hv.cell (p := ⟨b, o + i * 4, none⟩) hb).trans z0c
      clear z0c
      have y0c := hc' 0 _ (by decide) rfl
      have y0 : ∀ v, Below wr.heap.size wr v → v.cell? ⟨b', o' + i * 4, none⟩ = some _ := fun v hv => (hv.cell (p := ⟨b', o' + i * 4, none⟩) hb').trans y0c
      clear y0c
      have z1c := hc 1 _ (by decide) rfl
      have z1 : ∀ v, Below wr.heap.size wr v → v.cell? ⟨b, o + i * 4 + 1, none⟩ = some _ := fun v hv => (hv.cell (p := ⟨b, o + i * 4 + 1, none⟩) hb).trans z1c
      clear z1c
      have z2c := hc 2 _ (by decide) rfl
      have z2 : ∀ v, Below wr.heap.size wr v → v.cell? ⟨b, o + i * 4 + 2, none⟩ = some _ := fun v hv => (hv.cell (p := ⟨b, o + i * 4 + 2, none⟩) hb).trans z2c
      clear z2c
      have z3c := hc 3 _ (by decide) rfl
      have z3 : ∀ v, Below wr.heap.size wr v → v.cell? ⟨b, o + i * 4 + 3, none⟩ = some _ := fun v hv => (hv.cell (p := ⟨b, o + i * 4 + 3, none⟩) hb).trans z3c
      clear z3c
      have y1c := hc' 1 _ (by decide) rfl
      have y1 : ∀ v, Below wr.heap.size wr v → v.cell? ⟨b', o' + i * 4 + 1, none⟩ = some _ := fun v hv => (hv.cell (p := ⟨b', o' + i * 4 + 1, none⟩) hb').trans y1c
      clear y1c
      have y2c := hc' 2 _ (by decide) rfl
      have y2 : ∀ v, Below wr.heap.size wr v → v.cell? ⟨b', o' + i * 4 + 2, none⟩ = some _ := fun v hv => (hv.cell (p := ⟨b', o' + i * 4 + 2, none⟩) hb').trans y2c
      clear y2c
      have y3c := hc' 3 _ (by decide) rfl
      have y3 : ∀ v, Below wr.heap.size wr v → v.cell? ⟨b', o' + i * 4 + 3, none⟩ = some _ := fun v hv => (hv.cell (p := ⟨b', o' + i * 4 + 3, none⟩) hb').trans y3c
      clear y3c
      have HZ := hide (fun W (b : Below wr.heap.size wr W) => ansSame_yes ra.code rV sV _ _ rk sk ra.us W (hir.keep b) (his.keep b) hvl)
      clear hbel hir his hr hs hc hc' hvl
      go_wp2_with fail
      refine wp_region_held_drew (S := fun w' => Below wr.heap.size wr w') (by kernel_rfl) ?_ (fun hHeld => ?_)
      · exact (Below.refl _ _).drew
      refine wpAnyH_take (i := 0) (oi := { dst := some 17, op := _, type := _, pos := _, after := _, guard := _ }) (v := ?v2x1) rfl (by kernel_rfl) (by kernel_rfl) (by kernel_rfl) (fun _ _ _ h => h) (Or.inl ⟨by rfl, ?hy2x1⟩) hHeld ?rest2x1
      case hy2x1 => (intro w hSw; go_simp <;> with_reducible rfl)
      try simp only [Act.put, List.setIfInBounds_toArray, List.set_cons_zero, List.set_cons_succ]
      refine wpAnyH_take (i := 1) (oi := { dst := some 18, op := _, type := _, pos := _, after := _, guard := _ }) (v := ?v2x2) rfl (by kernel_rfl) (by kernel_rfl) (by kernel_rfl) (fun _ _ _ h => h) (Or.inl ⟨by rfl, ?hy2x2⟩) hHeld ?rest2x2
      case hy2x2 => (intro w hSw; go_simp <;> with_reducible rfl)
      try simp only [Act.put, List.setIfInBounds_toArray, List.set_cons_zero, List.set_cons_succ]
      refine wpAnyH_take (i := 2) (oi := { dst := some 19, op := _, type := _, pos := _, after := _, guard := _ }) (v := ?v2x3) rfl (by kernel_rfl) (by kernel_rfl) (by kernel_rfl) (fun _ _ _ h => h) (Or.inl ⟨by rfl, ?hy2x3⟩) hHeld ?rest2x3
      case hy2x3 => (intro w hSw; go_simp <;> with_reducible rfl)
      try simp only [Act.put, List.setIfInBounds_toArray, List.set_cons_zero, List.set_cons_succ]
      refine wpAnyH_take (i := 3) (oi := { dst := some 20, op := _, type := _, pos := _, after := _, guard := _ }) (v := ?v2x4) rfl (by kernel_rfl) (by kernel_rfl) (by kernel_rfl) (fun _ _ _ h => h) (Or.inl ⟨by rfl, ?hy2x4⟩) hHeld ?rest2x4
      case hy2x4 => (intro w hSw; go_simp <;> with_reducible rfl)
      try simp only [Act.put, List.setIfInBounds_toArray, List.set_cons_zero, List.set_cons_succ]
      refine wpAnyH_take (i := 4) (oi := { dst := some 21, op := _, type := _, pos := _, after := _, guard := _ }) (v := ?v2x5) rfl (by kernel_rfl) (by kernel_rfl) (by kernel_rfl) (fun _ _ _ h => h) (Or.inl ⟨by rfl, ?hy2x5⟩) hHeld ?rest2x5
      case hy2x5 => (intro w hSw; go_simp <;> with_reducible rfl)
      try simp only [Act.put, List.setIfInBounds_toArray, List.set_cons_zero, List.set_cons_succ]
      refine wpAnyH_take (i := 5) (oi := { dst := some 22, op := _, type := _, pos := _, after := _, guard := _ }) (v := ?v2x6) rfl (by kernel_rfl) (by kernel_rfl) (by kernel_rfl) (fun _ _ _ h => h) (Or.inl ⟨by rfl, ?hy2x6⟩) hHeld ?rest2x6
      case hy2x6 => (intro w hSw; go_simp <;> with_reducible rfl)
      try simp only [Act.put, List.setIfInBounds_toArray, List.set_cons_zero, List.set_cons_succ]
      refine wpAnyH_take (i := 6) (oi := { dst := some 23, op := _, type := _, pos := _, after := _, guard := _ }) (v := ?v2x7) rfl (by kernel_rfl) (by kernel_rfl) (by kernel_rfl) (fun _ _ _ h => h) (Or.inl ⟨by rfl, ?hy2x7⟩) hHeld ?rest2x7
      case hy2x7 => (intro w hSw; go_simp <;> with_reducible rfl)
      try simp only [Act.put, List.setIfInBounds_toArray, List.set_cons_zero, List.set_cons_succ]
      refine wpAnyH_take (i := 7) (oi := { dst := some 24, op := _, type := _, pos := _, after := _, guard := _ }) (v := ?v2x8) rfl (by kernel_rfl) (by kernel_rfl) (by kernel_rfl) (fun _ _ _ h => h) (Or.inl ⟨by rfl, ?hy2x8⟩) hHeld ?rest2x8
      case hy2x8 => (intro w hSw; go_simp <;> with_reducible rfl)
      try simp only [Act.put, List.setIfInBounds_toArray, List.set_cons_zero, List.set_cons_succ]
      refine wpAnyH_take (i := 8) (oi := { dst := some 25, op := _, type := _, pos := _, after := _, guard := _ }) (v := ?v2x9) rfl (by kernel_rfl) (by kernel_rfl) (by kernel_rfl) (fun _ _ _ h => h) (Or.inl ⟨by rfl, ?hy2x9⟩) hHeld ?rest2x9
      case hy2x9 => (intro w hSw; go_simp <;> with_reducible rfl)
      try simp only [Act.put, List.setIfInBounds_toArray, List.set_cons_zero, List.set_cons_succ]
      refine wpAnyH_take (i := 9) (oi := { dst := some 26, op := _, type := _, pos := _, after := _, guard := _ }) (v := ?v2x10) rfl (by kernel_rfl) (by kernel_rfl) (by kernel_rfl) (fun _ _ _ h => h) (Or.inl ⟨by rfl, ?hy2x10⟩) hHeld ?rest2x10
      case hy2x10 => (intro w hSw; go_simp <;> with_reducible rfl)
      try simp only [Act.put, List.setIfInBounds_toArray, List.set_cons_zero, List.set_cons_succ]
      refine wpAnyH_take (i := 10) (oi := { dst := some 27, op := _, type := _, pos := _, after := _, guard := _ }) (v := ?v2x11) rfl (by kernel_rfl) (by kernel_rfl) (by kernel_rfl) (fun _ _ _ h => h) (Or.inl ⟨by rfl, ?hy2x11⟩) hHeld ?rest2x11
      case hy2x11 => (intro w hSw; go_simp <;> with_reducible rfl)
      try simp only [Act.put, List.setIfInBounds_toArray, List.set_cons_zero, List.set_cons_succ]
      refine wpAnyH_take (i := 11) (oi := { dst := some 28, op := _, type := _, pos := _, after := _, guard := _ }) (v := ?v2x12) rfl (by kernel_rfl) (by kernel_rfl) (by kernel_rfl) (fun _ _ _ h => h) (Or.inl ⟨by rfl, ?hy2x12⟩) hHeld ?rest2x12
      case hy2x12 => (intro w hSw; go_simp <;> with_reducible rfl)
      try simp only [Act.put, List.setIfInBounds_toArray, List.set_cons_zero, List.set_cons_succ]
      refine wpAnyH_take (i := 12) (oi := { dst := some 29, op := _, type := _, pos := _, after := _, guard := _ }) (v := ?v2x13) rfl (by kernel_rfl) (by kernel_rfl) (by kernel_rfl) (fun _ _ _ h => h) (Or.inl ⟨by rfl, ?hy2x13⟩) hHeld ?rest2x13
      case hy2x13 => (intro w hSw; go_simp <;> with_reducible rfl)
      try simp only [Act.put, List.setIfInBounds_toArray, List.set_cons_zero, List.set_cons_succ]
      refine wpAnyH_take (i := 13) (oi := { dst := some 30, op := _, type := _, pos := _, after := _, guard := _ }) (v := ?v2x14) rfl (by kernel_rfl) (by kernel_rfl) (by kernel_rfl) (fun _ _ _ h => h) (Or.inl ⟨by rfl, ?hy2x14⟩) hHeld ?rest2x14
      case hy2x14 => (intro w hSw; go_simp <;> with_reducible rfl)
      try simp only [Act.put, List.setIfInBounds_toArray, List.set_cons_zero, List.set_cons_succ]
      refine wpAnyH_take (i := 14) (oi := { dst := some 31, op := _, type := _, pos := _, after := _, guard := _ }) (v := ?v2x15) rfl (by kernel_rfl) (by kernel_rfl) (by kernel_rfl) (fun _ _ _ h => h) (Or.inl ⟨by rfl, ?hy2x15⟩) hHeld ?rest2x15
      case hy2x15 => (intro w hSw; go_simp <;> with_reducible rfl)
      try simp only [Act.put, List.setIfInBounds_toArray, List.set_cons_zero, List.set_cons_succ]
      refine wpAnyH_take (i := 15) (oi := { dst := some 32, op := _, type := _, pos := _, after := _, guard := _ }) (v := ?v2x16) rfl (by kernel_rfl) (by kernel_rfl) (by kernel_rfl) (fun _ _ _ h => h) (Or.inl ⟨by rfl, ?hy2x16⟩) hHeld ?rest2x16
      case hy2x16 => (intro w hSw; go_simp <;> with_reducible rfl)
      try simp only [Act.put, List.setIfInBounds_toArray, List.set_cons_zero, List.set_cons_succ]
      refine wpAnyH_take (i := 16) (oi := { dst := some 33, op := _, type := _, pos := _, after := _, guard := _ }) (v := ?v2x17) rfl (by kernel_rfl) (by kernel_rfl) (by kernel_rfl) (fun _ _ _ h => h) (Or.inl ⟨by rfl, ?hy2x17⟩) hHeld ?rest2x17
      case hy2x17 => (intro w hSw; go_simp <;> with_reducible rfl)
      try simp only [Act.put, List.setIfInBounds_toArray, List.set_cons_zero, List.set_cons_succ]
      refine wpAnyH_take (i := 17) (oi := { dst := some 34, op := _, type := _, pos := _, after := _, guard := _ }) (v := ?v2x18) rfl (by kernel_rfl) (by kernel_rfl) (by kernel_rfl) (fun _ _ _ h => h) (Or.inl ⟨by rfl, ?hy2x18⟩) hHeld ?rest2x18
      case hy2x18 => (intro w hSw; go_simp <;> with_reducible rfl)
      try simp only [Act.put, List.setIfInBounds_toArray, List.set_cons_zero, List.set_cons_succ]
      refine wpAnyH_take (i := 18) (oi := { dst := some 35, op := _, type := _, pos := _, after := _, guard := _ }) (v := ?v2x19) rfl (by kernel_rfl) (by kernel_rfl) (by kernel_rfl) (fun _ _ _ h => h) (Or.inl ⟨by rfl, ?hy2x19⟩) hHeld ?rest2x19
      case hy2x19 => (intro w hSw; go_simp <;> with_reducible rfl)
      try simp only [Act.put, List.setIfInBounds_toArray, List.set_cons_zero, List.set_cons_succ]
      refine wpAnyH_take (i := 19) (oi := { dst := some 36, op := _, type := _, pos := _, after := _, guard := _ }) (v := ?v2x20) rfl (by kernel_rfl) (by kernel_rfl) (by kernel_rfl) (fun _ _ _ h => h) (Or.inl ⟨by rfl, ?hy2x20⟩) hHeld ?rest2x20
      case hy2x20 => (intro w hSw; go_simp <;> with_reducible rfl)
      try simp only [Act.put, List.setIfInBounds_toArray, List.set_cons_zero, List.set_cons_succ]
      refine wpAnyH_take (i := 20) (oi := { dst := some 37, op := _, type := _, pos := _, after := _, guard := _ }) (v := ?v2x21) rfl (by kernel_rfl) (by kernel_rfl) (by kernel_rfl) (fun _ _ _ h => h) (Or.inl ⟨by rfl, ?hy2x21⟩) hHeld ?rest2x21
      case hy2x21 => (intro w hSw; go_simp <;> with_reducible rfl)
      try simp only [Act.put, List.setIfInBounds_toArray, List.set_cons_zero, List.set_cons_succ]
      refine wpAnyH_take (i := 21) (oi := { dst := some 38, op := _, type := _, pos := _, after := _, guard := _ }) (v := ?v2x22) rfl (by kernel_rfl) (by kernel_rfl) (by kernel_rfl) (fun _ _ _ h => h) (Or.inl ⟨by rfl, ?hy2x22⟩) hHeld ?rest2x22
      case hy2x22 => (intro w hSw; go_simp <;> with_reducible rfl)
      try simp only [Act.put, List.setIfInBounds_toArray, List.set_cons_zero, List.set_cons_succ]
      refine wpAnyH_take (i := 22) (oi := { dst := some 39, op := _, type := _, pos := _, after := _, guard := _ }) (v := ?v2x23) rfl (by kernel_rfl) (by kernel_rfl) (by kernel_rfl) (fun _ _ _ h => h) (Or.inl ⟨by rfl, ?hy2x23⟩) hHeld ?rest2x23
      case hy2x23 => (intro w hSw; go_simp <;> with_reducible rfl)
      try simp only [Act.put, List.setIfInBounds_toArray, List.set_cons_zero, List.set_cons_succ]
      refine wpAnyH_take (i := 23) (oi := { dst := some 40, op := _, type := _, pos := _, after := _, guard := _ }) (v := ?v2x24) rfl (by kernel_rfl) (by kernel_rfl) (by kernel_rfl) (fun _ _ _ h => h) (Or.inl ⟨by rfl, ?hy2x24⟩) hHeld ?rest2x24
      case hy2x24 => (intro w hSw; go_simp <;> with_reducible rfl)
      try simp only [Act.put, List.setIfInBounds_toArray, List.set_cons_zero, List.set_cons_succ]
      refine wpAnyH_take (i := 24) (oi := { dst := some 41, op := _, type := _, pos := _, after := _, guard := _ }) (v := ?v2x25) rfl (by kernel_rfl) (by kernel_rfl) (by kernel_rfl) (fun _ _ _ h => h) (Or.inl ⟨by rfl, ?hy2x25⟩) hHeld ?rest2x25
      case hy2x25 => (intro w hSw; go_simp <;> with_reducible rfl)
      try simp only [Act.put, List.setIfInBounds_toArray, List.set_cons_zero, List.set_cons_succ]
      refine wpAnyH_take (i := 25) (oi := { dst := some 42, op := _, type := _, pos := _, after := _, guard := _ }) (v := ?v2x26) rfl (by kernel_rfl) (by kernel_rfl) (by kernel_rfl) (fun _ _ _ h => h) (Or.inl ⟨by rfl, ?hy2x26⟩) hHeld ?rest2x26
      case hy2x26 => (intro w hSw; go_simp <;> with_reducible rfl)
      try simp only [Act.put, List.setIfInBounds_toArray, List.set_cons_zero, List.set_cons_succ]
      refine wpAnyH_take (i := 26) (oi := { dst := some 43, op := _, type := _, pos := _, after := _, guard := _ }) (v := ?v2x27) rfl (by kernel_rfl) (by kernel_rfl) (by kernel_rfl) (fun _ _ _ h => h) (Or.inl ⟨by rfl, ?hy2x27⟩) hHeld ?rest2x27
      case hy2x27 => (intro w hSw; go_simp <;> with_reducible rfl)
      try simp only [Act.put, List.setIfInBounds_toArray, List.set_cons_zero, List.set_cons_succ]
      refine wpAnyH_take (i := 27) (oi := { dst := some 44, op := _, type := _, pos := _, after := _, guard := _ }) (v := ?v2x28) rfl (by kernel_rfl) (by kernel_rfl) (by kernel_rfl) (fun _ _ _ h => h) (Or.inl ⟨by rfl, ?hy2x28⟩) hHeld ?rest2x28
      case hy2x28 => (intro w hSw; go_simp <;> with_reducible rfl)
      try simp only [Act.put, List.setIfInBounds_toArray, List.set_cons_zero, List.set_cons_succ]
      refine wpAnyH_take (i := 28) (oi := { dst := some 45, op := _, type := _, pos := _, after := _, guard := _ }) (v := ?v2x29) rfl (by kernel_rfl) (by kernel_rfl) (by kernel_rfl) (fun _ _ _ h => h) (Or.inl ⟨by rfl, ?hy2x29⟩) hHeld ?rest2x29
      case hy2x29 => (intro w hSw; go_simp <;> with_reducible rfl)
      try simp only [Act.put, List.setIfInBounds_toArray, List.set_cons_zero, List.set_cons_succ]
      refine wpAnyH_take (i := 29) (oi := { dst := some 46, op := _, type := _, pos := _, after := _, guard := _ }) (v := ?v2x30) rfl (by kernel_rfl) (by kernel_rfl) (by kernel_rfl) (fun _ _ _ h => h) (Or.inl ⟨by rfl, ?hy2x30⟩) hHeld ?rest2x30
      case hy2x30 => (intro w hSw; go_simp <;> with_reducible rfl)
      try simp only [Act.put, List.setIfInBounds_toArray, List.set_cons_zero, List.set_cons_succ]
      refine wpAnyH_take (i := 30) (oi := { dst := some 47, op := _, type := _, pos := _, after := _, guard := _ }) (v := ?v2x31) rfl (by kernel_rfl) (by kernel_rfl) (by kernel_rfl) (fun _ _ _ h => h) (Or.inl ⟨by rfl, ?hy2x31⟩) hHeld ?rest2x31
      case hy2x31 => (intro w hSw; go_simp <;> with_reducible rfl)
      try simp only [Act.put, List.setIfInBounds_toArray, List.set_cons_zero, List.set_cons_succ]
      refine wpAnyH_take (i := 31) (oi := { dst := some 48, op := _, type := _, pos := _, after := _, guard := _ }) (v := ?v2x32) rfl (by kernel_rfl) (by kernel_rfl) (by kernel_rfl) (fun _ _ _ h => h) (Or.inl ⟨by rfl, ?hy2x32⟩) hHeld ?rest2x32
      case hy2x32 => (intro w hSw; go_simp <;> with_reducible rfl)
      try simp only [Act.put, List.setIfInBounds_toArray, List.set_cons_zero, List.set_cons_succ]
      refine wpAnyH_take (i := 32) (oi := { dst := some 49, op := _, type := _, pos := _, after := _, guard := _ }) (v := ?v2x33) rfl (by kernel_rfl) (by kernel_rfl) (by kernel_rfl) (fun _ _ _ h => h) (Or.inl ⟨by rfl, ?hy2x33⟩) hHeld ?rest2x33
      case hy2x33 => (intro w hSw; go_simp <;> with_reducible rfl)
      try simp only [Act.put, List.setIfInBounds_toArray, List.set_cons_zero, List.set_cons_succ]
      refine wpAnyH_take (i := 33) (oi := { dst := some 50, op := _, type := _, pos := _, after := _, guard := _ }) (v := ?v2x34) rfl (by kernel_rfl) (by kernel_rfl) (by kernel_rfl) (fun _ _ _ h => h) (Or.inl ⟨by rfl, ?hy2x34⟩) hHeld ?rest2x34
      case hy2x34 => (intro w hSw; go_simp <;> with_reducible rfl)
      try simp only [Act.put, List.setIfInBounds_toArray, List.set_cons_zero, List.set_cons_succ]
      refine wpAnyH_take (i := 34) (oi := { dst := some 51, op := _, type := _, pos := _, after := _, guard := _ }) (v := ?v2x35) rfl (by kernel_rfl) (by kernel_rfl) (by kernel_rfl) (fun _ _ _ h => h) (Or.inl ⟨by rfl, ?hy2x35⟩) hHeld ?rest2x35
      case hy2x35 => (intro w hSw; go_simp <;> with_reducible rfl)
      try simp only [Act.put, List.setIfInBounds_toArray, List.set_cons_zero, List.set_cons_succ]
      refine wpAnyH_ready (rs := [35]) (by kernel_rfl) (by simp) (AllReadyH.cons (o := { dst := some 52, op := _, type := _, pos := _, after := _, guard := _ }) rfl (fun K hK => ?_) AllReadyH.nil)
      go_simp
      refine (HZ.out _ hHeld).mono ?_
      rintro e w9 ⟨rfl, b9⟩
      have B9 := hide (below_on hHeld b9)
      clear b9
      go_wp2_with fail
      refine hK.out _ _ ?_ (fun hHeld => ?_)
      · exact B9.out
      clear hK K
      try simp only [Act.put, List.setIfInBounds_toArray, List.set_cons_zero, List.set_cons_succ]
      refine wpAnyH_take (i := 36) (oi := { dst := some 53, op := _, type := _, pos := _, after := _, guard := _ }) (v := ?v2x37) rfl (by kernel_rfl) (by kernel_rfl) (by kernel_rfl) (fun _ _ _ h => h) (Or.inl ⟨by rfl, ?hy2x37⟩) hHeld ?rest2x37
      case hy2x37 => (intro w hSw; go_simp <;> with_reducible rfl)
      try simp only [Act.put, List.setIfInBounds_toArray, List.set_cons_zero, List.set_cons_succ]
      refine wpAnyH_take (i := 37) (oi := { dst := some 54, op := _, type := _, pos := _, after := _, guard := _ }) (v := ?v2x38) rfl (by kernel_rfl) (by kernel_rfl) (by kernel_rfl) (fun _ _ _ h => h) (Or.inl ⟨by rfl, ?hy2x38⟩) hHeld ?rest2x38
      case hy2x38 => (intro w hSw; go_simp <;> with_reducible rfl)
      try simp only [Act.put, List.setIfInBounds_toArray, List.set_cons_zero, List.set_cons_succ]
      refine wpAnyH_done (by kernel_rfl) ?_ _
      go_wp2_with fail
      go_roundw
      case rel => exact ⟨i + 1, by omega, by go_num, below_on Hb.out hHeld⟩
      case measure => simp [intOf]; omega
    · obtain rfl : i = n := by omega
      have q1 : ¬ (i : Int) < (i : Int) := by omega
      clear hbel
      go_wp2
      go_ret
      exact ⟨rfl, Hb.out⟩

end Go.Proofs.Ytfpfijggmfeejaa
