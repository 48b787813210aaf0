/-
  What is proved here: the law MasterOrder returns true for every number and rows of numbers, and writes nothing that was there. No condition of its own.
-/
import Derived.Test.YtnialjikpoembaaMs13
import Derived.Test.YtnialjikpoembaaMsMath4
namespace Go.Proofs.Ytnialjikpoembaa
set_option linter.unusedVariables false
set_option linter.unusedSimpArgs false
open Go.RowKit Go.Maps

def rdf : Nat → Rq := fun _ => rdq
structure OW1 (g : Nat) (x0 : Int) (us : List Int) (w : World) (i : Nat) (wr : World) : Prop where
  all : ∃ (m : ML) (s : MSt), MsW w.heap.size wr m s ∧ m.g = g ∧ m.n = 0 ∧ Below w.heap.size w wr ∧ AskI x0 1 0 rdf (us.take i) s
structure OW2 (g : Nat) (x0 : Int) (us : List Int) (w : World) (i nx : Nat) (now : Int) (wr : World) : Prop where
  all : ∃ (m : ML) (s : MSt), MsW w.heap.size wr m s ∧ m.g = g ∧ m.n ≤ i ∧ Below w.heap.size w wr ∧ OI x0 us nx s ∧ s.now = now
theorem OW2.drew {g : Nat} {x0 : Int} {us : List Int} {w : World} {i nx : Nat} {now : Int} {wr : World} (h : OW2 g x0 us w i nx now wr) : OW2 g x0 us w i nx now wr.drew := by
  obtain ⟨m, s, h1, h2, h3, h4, h5⟩ := h.all
  exact ⟨m, s, h1.keep (Below.refl _ _).drew, h2, h3, h4.drew, h5⟩
set_option maxHeartbeats 4000000 in
set_option maxRecDepth 100000 in
theorem order7_walk (x0 : Int) (A B : Option Addr) (n k l d : Nat) (us vs : List Int) (w : World) (hr : Rd w A n (iv us)) (hs : Rd w B l (iv vs)) (hwf : ∀ v ∈ vs, (Lit.int .i64 v).wf = true) (hl : l ≤ maxLen) :
    Calls Try.prog 5 #[.int .i64 x0, .slice A n k, .slice B l d] w fun e w' => e = .returned (.bool true) ∧ Below w.heap.size w w' := by
  cases t1 : decide (x0 < 1)
  case true =>
    go_enter Try.func5, Try.ntmps5
    go_wp2
    go_ret
    exact ⟨rfl, Below.refl _ _⟩
  cases t2 : decide (1000 < x0)
  case true =>
    go_enter Try.func5, Try.ntmps5
    go_wp2
    go_ret
    exact ⟨rfl, Below.refl _ _⟩
  cases t3 : decide (60 < (n : Int))
  case true =>
    go_enter Try.func5, Try.ntmps5
    go_wp2
    go_ret
    exact ⟨rfl, Below.refl _ _⟩
  have hun : us.length = n := by rw [← iv_length]; exact hr.1
  have hvl : vs.length = l := by rw [← iv_length]; exact hs.1
  have hn60 : n ≤ 60 := by
    simp only [decide_eq_false_iff_not] at t3
    omega
  have hmay : mMay x0 1 0 = true := by
    simp only [decide_eq_false_iff_not] at t1
    unfold mMay
    rw [decide_eq_true (by omega)]
    rfl
  have HR := hide hr
  have HS := hide hs
  have HUN := hide hun
  have HVL := hide hvl
  have HWF := hide hwf
  have HL : Hid (l ≤ 9223372036854775807) := hide (by unfold maxLen at hl; omega)
  clear hr hs hun hvl hwf hl
  go_enter Try.func5, Try.ntmps5
  go_wp2_with fail
  refine (msNew_w x0 1 0 hmay w).mono ?_
  rintro e w1 ⟨m, rfl, a1, n1, b1⟩
  have X0 : Hid (OW1 m.g x0 us w 0 w1) := hide ⟨m, _, a1, rfl, n1, b1, askI_new x0 1 0 rdf⟩
  clear a1 n1 b1 hmay t1 t2 t3
  generalize m.g = g at *
  go_wp2_with fail
  go_loopw [9] (fun x wr => ∃ i : Nat, x = .int .i64 (i : Int) ∧ i ≤ n ∧ OW1 g x0 us w i wr) (fun x _ => n - (intOf x).toNat)
  case atStart => exact ⟨0, rfl, by omega, X0.out⟩
  case round =>
    obtain ⟨i, rfl, hi, hX⟩ := hrel
    clear X0
    obtain ⟨mm, s, hM, hg, hmn, hbel, hai⟩ := hX.all
    have HM := hide hM
    have HG := hide hg
    have HMN := hide hmn
    have HBL := hide hbel
    have HAI := hide hai
    clear hX hM hg hmn hbel hai
    by_cases hlt : i < n
    · have q : (i : Int) < (n : Int) := by omega
      obtain ⟨b, o, rfl, hbl, hc⟩ := HR.out.at_ hlt
      have hun := HUN.out
      have hcu := hc i _ (iv_get us i (by omega))
      have hug : us[i]? = some us[i] := List.getElem?_eq_getElem (by omega)
      have HUG := hide hug
      generalize us[i] = u at *
      have cu : wr.cell? ⟨b, o + i, none⟩ = some (.int .i64 u) := (HBL.out.cell (p := ⟨b, o + i, none⟩) hbl).trans hcu
      clear hc hug hun
      cases t1 : decide (u < 0)
      · cases t2 : decide (247 < u)
        · have hu0 : 0 ≤ u ∧ u ≤ 247 := by
            simp only [decide_eq_false_iff_not] at t1 t2
            omega
          go_wp2_with fail
          clear t1 t2
          have cuS : ∀ w', Below w.heap.size w w' → w'.cell? ⟨b, o + i, none⟩ = some (.int .i64 u) := fun w' h => (h.cell (p := ⟨b, o + i, none⟩) hbl).trans hcu
          have htl : (us.take i).length = i := by rw [List.length_take, HUN.out]; omega
          have hask := askI_ask HAI.out u hu0.1 hu0.2 (by rw [htl]; exact rdq_may) (by rw [htl]; omega)
          rw [htl] at hask
          obtain ⟨hE, hT, hI⟩ := hask
          have hI2 : AskI x0 1 0 rdf (us.take (i + 1)) (askS s u rdq) := by
            rw [List.take_add_one, HUG.out]
            exact hI
          have HI2 := hide hI2
          have hE' : askE s u rdq = 0 := hE
          have hT' : askT s u rdq = ((i + 1 : Nat) : Int) := hT
          have HET := hide (And.intro hE' hT')
          have hnx : s.next ≤ 1000000 := by
            have := HAI.out
            unfold AskI at this
            rw [this]
            show (us.take i).length ≤ _
            omega
          have HNX := hide hnx
          clear hE hT hI hI2 hE' hT' hnx htl cu
          refine wp_region_held_drew (S := fun w' => Below w.heap.size w w') (by kernel_rfl) ?_ (fun hHeld => ?_)
          · exact HBL.out.drew
          refine wpAnyH_take (i := 0) (oi := { dst := some 59, op := _, type := _, pos := _, after := _, guard := _ }) (v := ?v1x1) rfl (by kernel_rfl) (by kernel_rfl) (by kernel_rfl) (fun _ _ _ h => h) (Or.inl ⟨by rfl, ?hy1x1⟩) hHeld ?rest1x1
          case hy1x1 => (intro w hSw; go_simp <;> with_reducible rfl)
          try simp only [Act.put, List.setIfInBounds_toArray, List.set_cons_zero, List.set_cons_succ]
          refine wpAnyH_take (i := 1) (oi := { dst := some 60, op := _, type := _, pos := _, after := _, guard := _ }) (v := ?v1x2) rfl (by kernel_rfl) (by kernel_rfl) (by kernel_rfl) (fun _ _ _ h => h) (Or.inl ⟨by rfl, ?hy1x2⟩) hHeld ?rest1x2
          case hy1x2 => (intro w hSw; go_simp <;> with_reducible rfl)
          try simp only [Act.put, List.setIfInBounds_toArray, List.set_cons_zero, List.set_cons_succ]
          refine wpAnyH_take (i := 2) (oi := { dst := some 61, op := _, type := _, pos := _, after := _, guard := _ }) (v := ?v1x3) rfl (by kernel_rfl) (by kernel_rfl) (by kernel_rfl) (fun _ _ _ h => h) (Or.inl ⟨by rfl, ?hy1x3⟩) hHeld ?rest1x3
          case hy1x3 => (intro w hSw; go_simp <;> with_reducible rfl)
          try simp only [Act.put, List.setIfInBounds_toArray, List.set_cons_zero, List.set_cons_succ]
          refine wpAnyH_take (i := 3) (oi := { dst := some 62, op := _, type := _, pos := _, after := _, guard := _ }) (v := ?v1x4) rfl (by kernel_rfl) (by kernel_rfl) (by kernel_rfl) (fun _ _ _ h => h) (Or.inl ⟨by rfl, ?hy1x4⟩) hHeld ?rest1x4
          case hy1x4 => (intro w hSw; go_simp <;> with_reducible rfl)
          try simp only [Act.put, List.setIfInBounds_toArray, List.set_cons_zero, List.set_cons_succ]
          refine wpAnyH_take (i := 4) (oi := { dst := some 63, op := _, type := _, pos := _, after := _, guard := _ }) (v := ?v1x5) rfl (by kernel_rfl) (by kernel_rfl) (by kernel_rfl) (fun _ _ _ h => h) (Or.inl ⟨by rfl, ?hy1x5⟩) hHeld ?rest1x5
          case hy1x5 => (intro w hSw; go_simp <;> with_reducible rfl)
          try simp only [Act.put, List.setIfInBounds_toArray, List.set_cons_zero, List.set_cons_succ]
          refine wpAnyH_ready (rs := [5]) (by kernel_rfl) (by simp) (AllReadyH.cons (o := { dst := some 64, op := _, type := _, pos := _, after := _, guard := _ }) rfl (fun K hK => ?_) AllReadyH.nil)
          go_simp
          refine (read7 _).mono ?_
          rintro e w2 ⟨rfl, b2⟩
          have A2 := hide ((HM.out.keep (Below.refl _ _).drew).keep b2)
          have B2 := hide (below_on HBL.out.drew b2)
          clear b2
          go_wp2_with fail
          refine hK.out _ _ ?_ (fun hHeld => ?_)
          · exact B2.out
          clear hK K
          try simp only [Act.put, List.setIfInBounds_toArray, List.set_cons_zero, List.set_cons_succ]
          refine wpAnyH_ready (rs := [6]) (by kernel_rfl) (by simp) (AllReadyH.cons (o := { dst := some 65, op := _, type := _, pos := _, after := _, guard := _ }) rfl (fun K hK => ?_) AllReadyH.nil)
          go_simp
          have hcall := msAsk_w w.heap.size g mm s u rdq none 0 w w2 A2.out (Rd.nil _ _) (by decide) HNX.out (Off.none_ _) B2.out B2.out.size HG.out
          rw [HET.out.1, HET.out.2] at hcall
          refine hcall.mono ?_
          rintro e w3 ⟨m3, rfl, a3, g3, n3, b3, _, _⟩
          have X1 : Hid (OW1 g x0 us w (i + 1) w3) := hide ⟨m3, _, a3, g3, n3.trans HMN.out, b3, HI2.out⟩
          have B3 := hide b3
          clear a3 g3 n3 b3 hcall
          go_wp2_with fail
          refine hK.out _ _ ?_ (fun hHeld => ?_)
          · exact B3.out
          clear hK K
          try simp only [Act.put, List.setIfInBounds_toArray, List.set_cons_zero, List.set_cons_succ]
          refine wpAnyH_take (i := 7) (oi := { dst := some 58, op := _, type := _, pos := _, after := _, guard := _ }) (v := ?v1x8) rfl (by kernel_rfl) (by kernel_rfl) (by kernel_rfl) (fun _ _ _ h => h) (Or.inl ⟨by rfl, ?hy1x8⟩) hHeld ?rest1x8
          case hy1x8 => (intro w hSw; go_simp <;> with_reducible rfl)
          try simp only [Act.put, List.setIfInBounds_toArray, List.set_cons_zero, List.set_cons_succ]
          refine wpAnyH_take (i := 8) (oi := { dst := some 66, op := _, type := _, pos := _, after := _, guard := _ }) (v := ?v1x9) rfl (by kernel_rfl) (by kernel_rfl) (by kernel_rfl) (fun _ _ _ h => h) (Or.inl ⟨by rfl, ?hy1x9⟩) hHeld ?rest1x9
          case hy1x9 => (intro w hSw; go_simp <;> with_reducible rfl)
          try simp only [Act.put, List.setIfInBounds_toArray, List.set_cons_zero, List.set_cons_succ]
          refine wpAnyH_take (i := 9) (oi := { dst := some 67, op := _, type := _, pos := _, after := _, guard := _ }) (v := ?v1x10) rfl (by kernel_rfl) (by kernel_rfl) (by kernel_rfl) (fun _ _ _ h => h) (Or.inl ⟨by rfl, ?hy1x10⟩) hHeld ?rest1x10
          case hy1x10 => (intro w hSw; go_simp <;> with_reducible rfl)
          try simp only [Act.put, List.setIfInBounds_toArray, List.set_cons_zero, List.set_cons_succ]
          refine wpAnyH_take (i := 10) (oi := { dst := some 10, op := _, type := _, pos := _, after := _, guard := _ }) (v := ?v1x11) rfl (by kernel_rfl) (by kernel_rfl) (by kernel_rfl) (fun _ _ _ h => h) (Or.inl ⟨by rfl, ?hy1x11⟩) hHeld ?rest1x11
          case hy1x11 => (intro w hSw; go_simp <;> with_reducible rfl)
          try simp only [Act.put, List.setIfInBounds_toArray, List.set_cons_zero, List.set_cons_succ]
          refine wpAnyH_take (i := 11) (oi := { dst := some 11, op := _, type := _, pos := _, after := _, guard := _ }) (v := ?v1x12) rfl (by kernel_rfl) (by kernel_rfl) (by kernel_rfl) (fun _ _ _ h => h) (Or.inl ⟨by rfl, ?hy1x12⟩) hHeld ?rest1x12
          case hy1x12 => (intro w hSw; go_simp <;> with_reducible rfl)
          try simp only [Act.put, List.setIfInBounds_toArray, List.set_cons_zero, List.set_cons_succ]
          refine wpAnyH_done (by kernel_rfl) ?_ _
          clear cuS
          go_wp2
          exact ⟨⟨i + 1, by rw [Int.natCast_add]; rfl, by omega, X1.out⟩, by simp only [intOf]; omega⟩
        · go_wp2
          go_ret
          exact ⟨rfl, HBL.out⟩
      · go_wp2
        go_ret
        exact ⟨rfl, HBL.out⟩
    · obtain rfl : i = n := by omega
      have q : ¬ (i : Int) < (i : Int) := by omega
      have Y0 : Hid (OW2 g x0 us w 0 1 0 wr) := hide ⟨mm, s, HM.out, HG.out, by rw [HMN.out]; exact Nat.le_refl _, HBL.out, by
        have := HAI.out
        rw [List.take_of_length_le (by rw [HUN.out]; omega)] at this
        exact ⟨oi_start this, by unfold AskI at this; rw [this]; rfl⟩⟩
      clear HM HG HMN HBL HAI
      go_wp2_with fail
      go_loopw [12, 13, 14] (fun xn xx xi wr => ∃ (j p : Nat) (now : Int), xi = .int .i64 (j : Int) ∧ xn = .int .i64 now ∧ xx = .int .i64 ((p : Int) + 1) ∧ j ≤ l ∧ j ≤ 300 ∧ 0 ≤ now ∧ now ≤ 1000 * j ∧ OW2 g x0 us w j (p + 1) now wr) (fun _ _ xi _ => l - (intOf xi).toNat)
      case atStart => exact ⟨0, 0, 0, rfl, rfl, rfl, by omega, by omega, by omega, by omega, Y0.out⟩
      case round =>
        obtain ⟨j, p, now, rfl, rfl, rfl, hj, hj3, hn0, hn1, hX⟩ := hrel
        clear Y0
        obtain ⟨m2, s2, hM, hg, hmn, hbel, hoi, hsn⟩ := hX.all
        have HM := hide hM
        have HG := hide hg
        have HMN := hide hmn
        have HBL := hide hbel
        have HOI := hide hoi
        have HSN := hide hsn
        have hp : p ≤ 60 := by have := hoi.n2; have := HUN.out; omega
        clear hX hM hg hmn hbel hoi hsn
        by_cases hlt : j < l
        · have q1 : decide ((j : Int) < (l : Int)) = true := decide_eq_true (by omega)
          by_cases h3 : j < 300
          · have q2 : decide ((j : Int) < 300) = true := decide_eq_true (by omega)
            obtain ⟨b, o, rfl, hbl, hc⟩ := HS.out.at_ hlt
            have hvl := HVL.out
            have hcv := hc j _ (iv_get vs j (by omega))
            generalize vs[j] = v at *
            have cv : wr.cell? ⟨b, o + j, none⟩ = some (.int .i64 v) := (HBL.out.cell (p := ⟨b, o + j, none⟩) hbl).trans hcv
            clear hc hcv hvl
            have hjl : j < l := hlt
            cases t1 : decide (0 < v)
            · skip
              go_wp2_with fail
              obtain ⟨hoo, herr, hnw⟩ := oi_step HOI.out now (by omega) (by rw [HSN.out]; omega)
              refine (msStep_w w.heap.size g m2 s2 now w wr HM.out (by omega) (by have := HMN.out; omega) HBL.out HBL.out.size HG.out).mono ?_
              rintro e w6 ⟨O, P, k6, l6, rs, ds, m6, rfl, e1, r6, e2, d6, a6, g6, n6, b6, _, _, _, _⟩
              rw [herr]
              have HN6 : Hid (m6.n ≤ j + 1) := hide (by have := HMN.out; omega)
              have A6 := hide a6
              have G6 := hide g6
              have B6 := hide b6
              have R6 := hide r6
              have HNW := hide hnw
              clear a6 g6 n6 b6 r6 d6 hnw herr e2 cv
              rcases hoo with ⟨hA, hI⟩ | ⟨x, hA, hx, hI⟩ | ⟨x, hA, hx, hxu, hle, hI⟩
              · rw [hA] at e1
                obtain rfl := List.map_eq_nil_iff.1 e1
                have Z : Hid (OW2 g x0 us w (j + 1) (p + 1) now w6) := hide ⟨m6, _, A6.out, G6.out, HN6.out, B6.out, hI, HNW.out⟩
                clear e1 hA hI HN6 A6 G6 B6 R6 HNW HM HG HMN HBL HOI HSN
                go_wp2
                exact ⟨⟨j + 1, p, now, by rw [Int.natCast_add]; rfl, rfl, rfl, by omega, by omega, by omega, by omega, Z.out⟩, by simp only [intOf]; omega⟩
              · rw [hA] at e1
                obtain ⟨y, rfl, ey⟩ := sm_one e1
                obtain ⟨bO, rfl, zO, _⟩ := R6.out.one
                obtain ⟨ytk, yu, yr, yV, yk⟩ := y
                have eyt : ytk = p := by
                  have := congrArg Wt.tk ey
                  have : ytk = x.tk := this
                  omega
                subst eyt
                have s0 : w6.cell? ⟨bO, 0, none⟩ = some (.int .i64 (ytk : Nat)) := zO.cell 0
                have Z : Hid (OW2 g x0 us w (j + 1) (ytk + 1) now w6) := hide ⟨m6, _, A6.out, G6.out, HN6.out, B6.out, hI, HNW.out⟩
                have z1 : ((ytk : Int) != (ytk : Int) + 1) = true := ne_bne (by omega)
                have z2 : ((ytk : Int) == (ytk : Int) + 1) = false := ne_beq (by omega)
                have z3 : ((ytk : Int) != (ytk : Int)) = false := by simp
                clear ey zO e1 hA hI hx HN6 A6 G6 B6 R6 HNW HM HG HMN HBL HOI HSN
                go_wp2
                exact ⟨⟨j + 1, ytk, now, by rw [Int.natCast_add]; rfl, rfl, rfl, by omega, by omega, by omega, by omega, Z.out⟩, by simp only [intOf]; omega⟩
              · rw [hA] at e1
                obtain ⟨y, rfl, ey⟩ := sm_one e1
                obtain ⟨bO, rfl, zO, _⟩ := R6.out.one
                obtain ⟨ytk, yu, yr, yV, yk⟩ := y
                have eyt : ytk = p + 1 := by
                  have := congrArg Wt.tk ey
                  have : ytk = x.tk := this
                  omega
                have eyu : yu = x.u := congrArg Wt.u ey
                subst eyt eyu
                have s0 : w6.cell? ⟨bO, 0, none⟩ = some (.int .i64 ((p : Int) + 1)) := zO.cell 0
                have s1 : w6.cell? ⟨bO, 1, none⟩ = some (.int .i64 x.u) := zO.cell 1
                have Z : Hid (OW2 g x0 us w (j + 1) (p + 1 + 1) now w6) := hide ⟨m6, _, A6.out, G6.out, HN6.out, B6.out, hI, HNW.out⟩
                have z1 : (((p : Int) + 1) != (p : Int) + 1) = false := by simp
                have z2 : (((p : Int) + 1) == (p : Int) + 1) = true := by simp
                have hun := HUN.out
                have hpi : p < i := by omega
                obtain ⟨bA, oA, rfl, hbA, hcA⟩ := HR.out.at_ hpi
                have hgp : us[p]? = some x.u := hxu
                have hcp := hcA p (.int .i64 x.u) (by rw [iv, List.getElem?_map, hgp]; rfl)
                have cp : w6.cell? ⟨bA, oA + p, none⟩ = some (.int .i64 x.u) := (B6.out.cell (p := ⟨bA, oA + p, none⟩) hbA).trans hcp
                have z4 : (p : Int) < (i : Int) := by omega
                have z5 : IntKind.i64.wrap (p : Int) = (p : Int) := wrap_nat p (by omega)
                have z6 : 0 ≤ (p : Int) := by omega
                clear ey zO e1 hA hI hx HN6 A6 G6 B6 R6 HNW HM HG HMN HBL HOI HSN hcA hcp hgp hxu hun
                go_wp2_with fail
                refine wp_region_held_drew (S := fun w' => w' = w6.drew) (by kernel_rfl) ?_ (fun hHeld => ?_)
                · exact rfl
                refine wpAnyH_take (i := 0) (oi := { dst := some 143, op := _, type := _, pos := _, after := _, guard := _ }) (v := ?v2x1) rfl (by kernel_rfl) (by kernel_rfl) (by kernel_rfl) (fun _ _ _ h => h) (Or.inl ⟨by rfl, ?hy2x1⟩) hHeld ?rest2x1
                case hy2x1 => (intro w hSw; go_simp <;> with_reducible rfl)
                try simp only [Act.put, List.setIfInBounds_toArray, List.set_cons_zero, List.set_cons_succ]
                refine wpAnyH_take (i := 1) (oi := { dst := some 144, op := _, type := _, pos := _, after := _, guard := _ }) (v := ?v2x2) rfl (by kernel_rfl) (by kernel_rfl) (by kernel_rfl) (fun _ _ _ h => h) (Or.inl ⟨by rfl, ?hy2x2⟩) hHeld ?rest2x2
                case hy2x2 => (intro w hSw; go_simp <;> with_reducible rfl)
                try simp only [Act.put, List.setIfInBounds_toArray, List.set_cons_zero, List.set_cons_succ]
                refine wpAnyH_take (i := 2) (oi := { dst := some 145, op := _, type := _, pos := _, after := _, guard := _ }) (v := ?v2x3) rfl (by kernel_rfl) (by kernel_rfl) (by kernel_rfl) (fun _ _ _ h => h) (Or.inl ⟨by rfl, ?hy2x3⟩) hHeld ?rest2x3
                case hy2x3 => (intro w hSw; go_simp <;> with_reducible rfl)
                try simp only [Act.put, List.setIfInBounds_toArray, List.set_cons_zero, List.set_cons_succ]
                refine wpAnyH_take (i := 3) (oi := { dst := some 146, op := _, type := _, pos := _, after := _, guard := _ }) (v := ?v2x4) rfl (by kernel_rfl) (by kernel_rfl) (by kernel_rfl) (fun _ _ _ h => h) (Or.inl ⟨by rfl, ?hy2x4⟩) hHeld ?rest2x4
                case hy2x4 => (intro w hSw; go_simp <;> with_reducible rfl)
                try simp only [Act.put, List.setIfInBounds_toArray, List.set_cons_zero, List.set_cons_succ]
                refine wpAnyH_take (i := 4) (oi := { dst := some 147, op := _, type := _, pos := _, after := _, guard := _ }) (v := ?v2x5) rfl (by kernel_rfl) (by kernel_rfl) (by kernel_rfl) (fun _ _ _ h => h) (Or.inl ⟨by rfl, ?hy2x5⟩) hHeld ?rest2x5
                case hy2x5 => (intro w hSw; go_simp <;> with_reducible rfl)
                try simp only [Act.put, List.setIfInBounds_toArray, List.set_cons_zero, List.set_cons_succ]
                refine wpAnyH_take (i := 5) (oi := { dst := some 148, op := _, type := _, pos := _, after := _, guard := _ }) (v := ?v2x6) rfl (by kernel_rfl) (by kernel_rfl) (by kernel_rfl) (fun _ _ _ h => h) (Or.inl ⟨by rfl, ?hy2x6⟩) hHeld ?rest2x6
                case hy2x6 => (intro w hSw; go_simp <;> with_reducible rfl)
                try simp only [Act.put, List.setIfInBounds_toArray, List.set_cons_zero, List.set_cons_succ]
                refine wpAnyH_take (i := 6) (oi := { dst := some 149, op := _, type := _, pos := _, after := _, guard := _ }) (v := ?v2x7) rfl (by kernel_rfl) (by kernel_rfl) (by kernel_rfl) (fun _ _ _ h => h) (Or.inl ⟨by rfl, ?hy2x7⟩) hHeld ?rest2x7
                case hy2x7 => (intro w hSw; go_simp <;> with_reducible rfl)
                try simp only [Act.put, List.setIfInBounds_toArray, List.set_cons_zero, List.set_cons_succ]
                refine wpAnyH_take (i := 7) (oi := { dst := some 150, op := _, type := _, pos := _, after := _, guard := _ }) (v := ?v2x8) rfl (by kernel_rfl) (by kernel_rfl) (by kernel_rfl) (fun _ _ _ h => h) (Or.inl ⟨by rfl, ?hy2x8⟩) hHeld ?rest2x8
                case hy2x8 => (intro w hSw; go_simp <;> with_reducible rfl)
                try simp only [Act.put, List.setIfInBounds_toArray, List.set_cons_zero, List.set_cons_succ]
                refine wpAnyH_take (i := 8) (oi := { dst := some 151, op := _, type := _, pos := _, after := _, guard := _ }) (v := ?v2x9) rfl (by kernel_rfl) (by kernel_rfl) (by kernel_rfl) (fun _ _ _ h => h) (Or.inl ⟨by rfl, ?hy2x9⟩) hHeld ?rest2x9
                case hy2x9 => (intro w hSw; go_simp <;> with_reducible rfl)
                try simp only [Act.put, List.setIfInBounds_toArray, List.set_cons_zero, List.set_cons_succ]
                refine wpAnyH_take (i := 9) (oi := { dst := some 152, op := _, type := _, pos := _, after := _, guard := _ }) (v := ?v2x10) rfl (by kernel_rfl) (by kernel_rfl) (by kernel_rfl) (fun _ _ _ h => h) (Or.inl ⟨by rfl, ?hy2x10⟩) hHeld ?rest2x10
                case hy2x10 => (intro w hSw; go_simp <;> with_reducible rfl)
                try simp only [Act.put, List.setIfInBounds_toArray, List.set_cons_zero, List.set_cons_succ]
                refine wpAnyH_done (by kernel_rfl) ?_ _
                go_wp2
                exact ⟨⟨j + 1, p + 1, now, by rw [Int.natCast_add]; rfl, rfl, by rw [Int.natCast_add]; rfl, by omega, by omega, by omega, by omega, Z.out.drew⟩, by simp only [intOf]; omega⟩
            · have hv0 : 0 < v := of_decide_eq_true t1
              have hv1 : 0 ≤ v % 1000 := Int.emod_nonneg _ (by omega)
              have hv2 : v % 1000 < 1000 := Int.emod_lt_of_pos _ (by omega)
              have qv : IntKind.i64.wrap (now + v % 1000) = now + v % 1000 := by rw [IntKind.wrap_i64]; omega
              go_wp2_with fail
              obtain ⟨hoo, herr, hnw⟩ := oi_step HOI.out (now + v % 1000) (by omega) (by rw [HSN.out]; omega)
              refine (msStep_w w.heap.size g m2 s2 (now + v % 1000) w wr HM.out (by omega) (by have := HMN.out; omega) HBL.out HBL.out.size HG.out).mono ?_
              rintro e w6 ⟨O, P, k6, l6, rs, ds, m6, rfl, e1, r6, e2, d6, a6, g6, n6, b6, _, _, _, _⟩
              rw [herr]
              have HN6 : Hid (m6.n ≤ j + 1) := hide (by have := HMN.out; omega)
              have A6 := hide a6
              have G6 := hide g6
              have B6 := hide b6
              have R6 := hide r6
              have HNW := hide hnw
              clear a6 g6 n6 b6 r6 d6 hnw herr e2 cv
              rcases hoo with ⟨hA, hI⟩ | ⟨x, hA, hx, hI⟩ | ⟨x, hA, hx, hxu, hle, hI⟩
              · rw [hA] at e1
                obtain rfl := List.map_eq_nil_iff.1 e1
                have Z : Hid (OW2 g x0 us w (j + 1) (p + 1) (now + v % 1000) w6) := hide ⟨m6, _, A6.out, G6.out, HN6.out, B6.out, hI, HNW.out⟩
                clear e1 hA hI HN6 A6 G6 B6 R6 HNW HM HG HMN HBL HOI HSN
                go_wp2
                exact ⟨⟨j + 1, p, (now + v % 1000), by rw [Int.natCast_add]; rfl, rfl, rfl, by omega, by omega, by omega, by omega, Z.out⟩, by simp only [intOf]; omega⟩
              · rw [hA] at e1
                obtain ⟨y, rfl, ey⟩ := sm_one e1
                obtain ⟨bO, rfl, zO, _⟩ := R6.out.one
                obtain ⟨ytk, yu, yr, yV, yk⟩ := y
                have eyt : ytk = p := by
                  have := congrArg Wt.tk ey
                  have : ytk = x.tk := this
                  omega
                subst eyt
                have s0 : w6.cell? ⟨bO, 0, none⟩ = some (.int .i64 (ytk : Nat)) := zO.cell 0
                have Z : Hid (OW2 g x0 us w (j + 1) (ytk + 1) (now + v % 1000) w6) := hide ⟨m6, _, A6.out, G6.out, HN6.out, B6.out, hI, HNW.out⟩
                have z1 : ((ytk : Int) != (ytk : Int) + 1) = true := ne_bne (by omega)
                have z2 : ((ytk : Int) == (ytk : Int) + 1) = false := ne_beq (by omega)
                have z3 : ((ytk : Int) != (ytk : Int)) = false := by simp
                clear ey zO e1 hA hI hx HN6 A6 G6 B6 R6 HNW HM HG HMN HBL HOI HSN
                go_wp2
                exact ⟨⟨j + 1, ytk, (now + v % 1000), by rw [Int.natCast_add]; rfl, rfl, rfl, by omega, by omega, by omega, by omega, Z.out⟩, by simp only [intOf]; omega⟩
              · rw [hA] at e1
                obtain ⟨y, rfl, ey⟩ := sm_one e1
                obtain ⟨bO, rfl, zO, _⟩ := R6.out.one
                obtain ⟨ytk, yu, yr, yV, yk⟩ := y
                have eyt : ytk = p + 1 := by
                  have := congrArg Wt.tk ey
                  have : ytk = x.tk := this
                  omega
                have eyu : yu = x.u := congrArg Wt.u ey
                subst eyt eyu
                have s0 : w6.cell? ⟨bO, 0, none⟩ = some (.int .i64 ((p : Int) + 1)) := zO.cell 0
                have s1 : w6.cell? ⟨bO, 1, none⟩ = some (.int .i64 x.u) := zO.cell 1
                have Z : Hid (OW2 g x0 us w (j + 1) (p + 1 + 1) (now + v % 1000) w6) := hide ⟨m6, _, A6.out, G6.out, HN6.out, B6.out, hI, HNW.out⟩
                have z1 : (((p : Int) + 1) != (p : Int) + 1) = false := by simp
                have z2 : (((p : Int) + 1) == (p : Int) + 1) = true := by simp
                have hun := HUN.out
                have hpi : p < i := by omega
                obtain ⟨bA, oA, rfl, hbA, hcA⟩ := HR.out.at_ hpi
                have hgp : us[p]? = some x.u := hxu
                have hcp := hcA p (.int .i64 x.u) (by rw [iv, List.getElem?_map, hgp]; rfl)
                have cp : w6.cell? ⟨bA, oA + p, none⟩ = some (.int .i64 x.u) := (B6.out.cell (p := ⟨bA, oA + p, none⟩) hbA).trans hcp
                have z4 : (p : Int) < (i : Int) := by omega
                have z5 : IntKind.i64.wrap (p : Int) = (p : Int) := wrap_nat p (by omega)
                have z6 : 0 ≤ (p : Int) := by omega
                clear ey zO e1 hA hI hx HN6 A6 G6 B6 R6 HNW HM HG HMN HBL HOI HSN hcA hcp hgp hxu hun
                go_wp2_with fail
                refine wp_region_held_drew (S := fun w' => w' = w6.drew) (by kernel_rfl) ?_ (fun hHeld => ?_)
                · exact rfl
                refine wpAnyH_take (i := 0) (oi := { dst := some 143, op := _, type := _, pos := _, after := _, guard := _ }) (v := ?v3x1) rfl (by kernel_rfl) (by kernel_rfl) (by kernel_rfl) (fun _ _ _ h => h) (Or.inl ⟨by rfl, ?hy3x1⟩) hHeld ?rest3x1
                case hy3x1 => (intro w hSw; go_simp <;> with_reducible rfl)
                try simp only [Act.put, List.setIfInBounds_toArray, List.set_cons_zero, List.set_cons_succ]
                refine wpAnyH_take (i := 1) (oi := { dst := some 144, op := _, type := _, pos := _, after := _, guard := _ }) (v := ?v3x2) rfl (by kernel_rfl) (by kernel_rfl) (by kernel_rfl) (fun _ _ _ h => h) (Or.inl ⟨by rfl, ?hy3x2⟩) hHeld ?rest3x2
                case hy3x2 => (intro w hSw; go_simp <;> with_reducible rfl)
                try simp only [Act.put, List.setIfInBounds_toArray, List.set_cons_zero, List.set_cons_succ]
                refine wpAnyH_take (i := 2) (oi := { dst := some 145, op := _, type := _, pos := _, after := _, guard := _ }) (v := ?v3x3) rfl (by kernel_rfl) (by kernel_rfl) (by kernel_rfl) (fun _ _ _ h => h) (Or.inl ⟨by rfl, ?hy3x3⟩) hHeld ?rest3x3
                case hy3x3 => (intro w hSw; go_simp <;> with_reducible rfl)
                try simp only [Act.put, List.setIfInBounds_toArray, List.set_cons_zero, List.set_cons_succ]
                refine wpAnyH_take (i := 3) (oi := { dst := some 146, op := _, type := _, pos := _, after := _, guard := _ }) (v := ?v3x4) rfl (by kernel_rfl) (by kernel_rfl) (by kernel_rfl) (fun _ _ _ h => h) (Or.inl ⟨by rfl, ?hy3x4⟩) hHeld ?rest3x4
                case hy3x4 => (intro w hSw; go_simp <;> with_reducible rfl)
                try simp only [Act.put, List.setIfInBounds_toArray, List.set_cons_zero, List.set_cons_succ]
                refine wpAnyH_take (i := 4) (oi := { dst := some 147, op := _, type := _, pos := _, after := _, guard := _ }) (v := ?v3x5) rfl (by kernel_rfl) (by kernel_rfl) (by kernel_rfl) (fun _ _ _ h => h) (Or.inl ⟨by rfl, ?hy3x5⟩) hHeld ?rest3x5
                case hy3x5 => (intro w hSw; go_simp <;> with_reducible rfl)
                try simp only [Act.put, List.setIfInBounds_toArray, List.set_cons_zero, List.set_cons_succ]
                refine wpAnyH_take (i := 5) (oi := { dst := some 148, op := _, type := _, pos := _, after := _, guard := _ }) (v := ?v3x6) rfl (by kernel_rfl) (by kernel_rfl) (by kernel_rfl) (fun _ _ _ h => h) (Or.inl ⟨by rfl, ?hy3x6⟩) hHeld ?rest3x6
                case hy3x6 => (intro w hSw; go_simp <;> with_reducible rfl)
                try simp only [Act.put, List.setIfInBounds_toArray, List.set_cons_zero, List.set_cons_succ]
                refine wpAnyH_take (i := 6) (oi := { dst := some 149, op := _, type := _, pos := _, after := _, guard := _ }) (v := ?v3x7) rfl (by kernel_rfl) (by kernel_rfl) (by kernel_rfl) (fun _ _ _ h => h) (Or.inl ⟨by rfl, ?hy3x7⟩) hHeld ?rest3x7
                case hy3x7 => (intro w hSw; go_simp <;> with_reducible rfl)
                try simp only [Act.put, List.setIfInBounds_toArray, List.set_cons_zero, List.set_cons_succ]
                refine wpAnyH_take (i := 7) (oi := { dst := some 150, op := _, type := _, pos := _, after := _, guard := _ }) (v := ?v3x8) rfl (by kernel_rfl) (by kernel_rfl) (by kernel_rfl) (fun _ _ _ h => h) (Or.inl ⟨by rfl, ?hy3x8⟩) hHeld ?rest3x8
                case hy3x8 => (intro w hSw; go_simp <;> with_reducible rfl)
                try simp only [Act.put, List.setIfInBounds_toArray, List.set_cons_zero, List.set_cons_succ]
                refine wpAnyH_take (i := 8) (oi := { dst := some 151, op := _, type := _, pos := _, after := _, guard := _ }) (v := ?v3x9) rfl (by kernel_rfl) (by kernel_rfl) (by kernel_rfl) (fun _ _ _ h => h) (Or.inl ⟨by rfl, ?hy3x9⟩) hHeld ?rest3x9
                case hy3x9 => (intro w hSw; go_simp <;> with_reducible rfl)
                try simp only [Act.put, List.setIfInBounds_toArray, List.set_cons_zero, List.set_cons_succ]
                refine wpAnyH_take (i := 9) (oi := { dst := some 152, op := _, type := _, pos := _, after := _, guard := _ }) (v := ?v3x10) rfl (by kernel_rfl) (by kernel_rfl) (by kernel_rfl) (fun _ _ _ h => h) (Or.inl ⟨by rfl, ?hy3x10⟩) hHeld ?rest3x10
                case hy3x10 => (intro w hSw; go_simp <;> with_reducible rfl)
                try simp only [Act.put, List.setIfInBounds_toArray, List.set_cons_zero, List.set_cons_succ]
                refine wpAnyH_done (by kernel_rfl) ?_ _
                go_wp2
                exact ⟨⟨j + 1, p + 1, (now + v % 1000), by rw [Int.natCast_add]; rfl, rfl, by rw [Int.natCast_add]; rfl, by omega, by omega, by omega, by omega, Z.out.drew⟩, by simp only [intOf]; omega⟩
          · have q2 : decide ((j : Int) < 300) = false := decide_eq_false (by omega)
            go_wp2_with fail
            refine (awake7_any wr).mono ?_
            rintro e w6 ⟨rfl, b6⟩
            have B6 := hide (below_on HBL.out b6)
            clear b6
            go_wp2
            go_ret
            exact ⟨rfl, B6.out⟩
        · have q1 : decide ((j : Int) < (l : Int)) = false := decide_eq_false (by omega)
          go_wp2_with fail
          refine (awake7_any wr).mono ?_
          rintro e w6 ⟨rfl, b6⟩
          have B6 := hide (below_on HBL.out b6)
          clear b6
          go_wp2
          go_ret
          exact ⟨rfl, B6.out⟩
end Go.Proofs.Ytnialjikpoembaa
