/-
  What is proved here: the law MasterAnswers returns true for every numbers and requests, and writes nothing that was there. No condition of its own.
-/
import Derived.Test.YtnialjikpoembaaAns7
import Derived.Test.YtnialjikpoembaaMsMath4
import Derived.Test.YtnialjikpoembaaOpen7
import Derived.Test.YtnialjikpoembaaSame3
import Derived.Test.YtnialjikpoembaaMayLong
namespace Go.Proofs.Ytnialjikpoembaa
set_option linter.unusedVariables false
set_option linter.unusedSimpArgs false
open Go.RowKit Go.Maps

structure AW1 (g : Nat) (x0 x1 x2 : Int) (rs : Nat → Rq) (w : World) (i : Nat) (wr : World) : Prop where
  all : ∃ (m : ML) (s : MSt), MsW w.heap.size wr m s ∧ m.g = g ∧ m.n = 0 ∧ Below w.heap.size w wr ∧ AskI x0 x1 x2 rs (unitsL i) s ∧ ∀ j, j < i → (rs j).may = true
structure AW2 (g : Nat) (rs : Nat → Rq) (len : Nat) (w : World) (i : Nat) (wr : World) : Prop where
  all : ∃ (m : ML) (s : MSt), MsW w.heap.size wr m s ∧ m.g = g ∧ m.n ≤ i ∧ Below w.heap.size w wr ∧ AI rs len i s
/-- What is read while an answer comes. -/
def AnsQ (w : World) (bO : Nat) (cs : List Value) (w' : World) : Prop := Below w.heap.size w w' ∧ Blk w' bO 51 cs
theorem AnsQ.keep {w w' w'' : World} {bO : Nat} {cs : List Value} (h : AnsQ w bO cs w') (b : Below w'.heap.size w' w'') : AnsQ w bO cs w'' := ⟨below_on h.1 b, h.2.keep b⟩
set_option maxHeartbeats 4000000 in
set_option maxRecDepth 100000 in
theorem answers7_bad (x0 x1 x2 x4 : Int) (B : Option Addr) (len cap : Nat) (w : World) (hmay : mMay x0 x1 x2 = false) (t1 : decide (60 < (len : Int)) = false) (t2 : decide (1000000000 < x2) = false) (t3 : decide (1000000000 < x0) = false) (t4 : decide (x4 < 0) = false) (t5 : decide (65535 < x4) = false) :
    Calls Try.prog 6 #[.int .i64 x0, .int .i64 x1, .int .i64 x2, .slice B len cap, .int .i64 x4] w fun e w' => e = .returned (.bool true) ∧ Below w.heap.size w w' := by
  go_enter Try.func6, Try.ntmps6
  go_wp2_with fail
  refine (msNew_no x0 x1 x2 hmay w).mono ?_
  rintro e w1 ⟨rfl, rfl⟩
  go_wp2_with fail
  refine (awake7_any w).mono ?_
  rintro e w2 ⟨rfl, b2⟩
  go_wp2
  go_ret
  exact ⟨rfl, b2⟩
set_option maxHeartbeats 4000000 in
set_option maxRecDepth 100000 in
theorem answers7_walk (x0 x1 x2 x4 : Int) (B : Option Addr) (len cap : Nat) (xs : Nat → RqI) (w : World) (hs : ReqP w B len xs) :
    Calls Try.prog 6 #[.int .i64 x0, .int .i64 x1, .int .i64 x2, .slice B len cap, .int .i64 x4] w fun e w' => e = .returned (.bool true) ∧ Below w.heap.size w w' := by
  cases t1 : decide (60 < (len : Int))
  case true =>
    go_enter Try.func6, Try.ntmps6
    go_wp2
    go_ret
    exact ⟨rfl, Below.refl _ _⟩
  cases t2 : decide (1000000000 < x2)
  case true =>
    go_enter Try.func6, Try.ntmps6
    go_wp2
    go_ret
    exact ⟨rfl, Below.refl _ _⟩
  cases t3 : decide (1000000000 < x0)
  case true =>
    go_enter Try.func6, Try.ntmps6
    go_wp2
    go_ret
    exact ⟨rfl, Below.refl _ _⟩
  cases t4 : decide (x4 < 0)
  case true =>
    go_enter Try.func6, Try.ntmps6
    go_wp2
    go_ret
    exact ⟨rfl, Below.refl _ _⟩
  cases t5 : decide (65535 < x4)
  case true =>
    go_enter Try.func6, Try.ntmps6
    go_wp2
    go_ret
    exact ⟨rfl, Below.refl _ _⟩
  cases hmay : mMay x0 x1 x2
  · exact answers7_bad x0 x1 x2 x4 B len cap w hmay t1 t2 t3 t4 t5
  have hl60 : len ≤ 60 := by have := of_decide_eq_false t1; omega
  have hv0 : 0 ≤ x4 := by have := of_decide_eq_false t4; omega
  have HS := hide hs
  clear hs
  go_enter Try.func6, Try.ntmps6
  go_wp2_with fail
  refine (msNew_w x0 x1 x2 hmay w).mono ?_
  rintro e w1 ⟨m, rfl, a1, n1, b1⟩
  have X0 : Hid (AW1 m.g x0 x1 x2 (fun j => (xs j).r) w 0 w1) := hide ⟨m, _, a1, rfl, n1, b1, askI_new x0 x1 x2 _, fun j hj => by omega⟩
  clear a1 n1 b1 hmay t1 t2 t3 t4 t5
  generalize m.g = g at *
  go_wp2_with fail
  go_loopw [13] (fun x wr => ∃ i : Nat, x = .int .i64 (i : Int) ∧ i ≤ len ∧ AW1 g x0 x1 x2 (fun j => (xs j).r) w i wr) (fun x _ => len - (intOf x).toNat)
  case atStart => exact ⟨0, rfl, by omega, X0.out⟩
  case round =>
    obtain ⟨i, rfl, hi, hX⟩ := hrel
    clear X0
    obtain ⟨mm, s, hM, hg, hmn, hbel, hai, hmy⟩ := hX.all
    have HM := hide hM
    have HG := hide hg
    have HMN := hide hmn
    have HBL := hide hbel
    have HAI := hide hai
    have HMY := hide hmy
    clear hX hM hg hmn hbel hai hmy
    by_cases hlt : i < len
    · have q : (i : Int) < (len : Int) := by omega
      obtain ⟨b, o, rfl, hbl, hc, hrd⟩ := HS.out.at_ hlt
      have hcw : ∀ W, Below w.heap.size w W → ∀ j v, (xs i).cells[j]? = some v → W.cell? ⟨b, o + (i * 7 + j), none⟩ = some v := fun W hW j v hv => (hW.cell (p := ⟨b, o + (i * 7 + j), none⟩) hbl).trans (hc j v hv)
      obtain ⟨X, hX⟩ : ∃ X, xs i = X := ⟨_, rfl⟩
      rw [hX] at hcw hrd
      have HXI := hide hX
      clear hc hX
      obtain ⟨r, A, k⟩ := X
      have HRD := hide (show Rd w A r.vs.length (iv r.vs) from hrd)
      have HCW := hide hcw
      clear hrd hcw
      have c0 : wr.cell? ⟨b, o + i * 7, none⟩ = some (.int .i64 r.f) := HCW.out _ HBL.out 0 _ rfl
      have c1 : wr.cell? ⟨b, o + i * 7 + 1, none⟩ = some (.int .i64 r.a) := HCW.out _ HBL.out 1 _ rfl
      have c2 : wr.cell? ⟨b, o + i * 7 + 2, none⟩ = some (.int .i64 r.c) := HCW.out _ HBL.out 2 _ rfl
      have c3 : wr.cell? ⟨b, o + i * 7 + 3, none⟩ = some (.slice A r.vs.length k) := HCW.out _ HBL.out 3 _ rfl
      have c4 : wr.cell? ⟨b, o + i * 7 + 4, none⟩ = some (.int .i64 r.t) := HCW.out _ HBL.out 4 _ rfl
      have c5 : wr.cell? ⟨b, o + i * 7 + 5, none⟩ = some (.int .i64 r.an) := HCW.out _ HBL.out 5 _ rfl
      have c6 : wr.cell? ⟨b, o + i * 7 + 6, none⟩ = some (.int .i64 r.o) := HCW.out _ HBL.out 6 _ rfl
      go_wp2_with fail
      by_cases hlong : 1000000 < r.vs.length
      · refine (refMay_long r.f r.a r.c r.t r.an r.o A r.vs.length k wr hlong).mono ?_
        rintro e w1 ⟨rfl, b1⟩
        have B1 := hide (below_on HBL.out b1)
        clear b1 c0 c1 c2 c3 c4 c5 c6
        go_wp2
        go_ret
        exact ⟨rfl, B1.out⟩
      have hM := refMay_any r.f r.a r.c r.t r.an r.o A r.vs.length k r.vs wr (HRD.out.keep HBL.out) (by omega)
      cases hm : mayB r.f r.a r.c r.vs r.t r.an r.o
      · rw [hm] at hM
        refine hM.mono ?_
        rintro e w1 ⟨rfl, b1⟩
        have B1 := hide (below_on HBL.out b1)
        clear b1 c0 c1 c2 c3 c4 c5 c6 hM
        go_wp2
        go_ret
        exact ⟨rfl, B1.out⟩
      · rw [hm] at hM
        refine hM.mono ?_
        rintro e w1 ⟨rfl, b1⟩
        have B1 := hide (below_on HBL.out b1)
        have A1 := hide (HM.out.keep b1)
        clear b1 c0 c1 c2 c3 c4 c5 c6 hM
        have c0 : w1.cell? ⟨b, o + i * 7, none⟩ = some (.int .i64 r.f) := HCW.out _ B1.out 0 _ rfl
        have c1 : w1.cell? ⟨b, o + i * 7 + 1, none⟩ = some (.int .i64 r.a) := HCW.out _ B1.out 1 _ rfl
        have c2 : w1.cell? ⟨b, o + i * 7 + 2, none⟩ = some (.int .i64 r.c) := HCW.out _ B1.out 2 _ rfl
        have c3 : w1.cell? ⟨b, o + i * 7 + 3, none⟩ = some (.slice A r.vs.length k) := HCW.out _ B1.out 3 _ rfl
        have c4 : w1.cell? ⟨b, o + i * 7 + 4, none⟩ = some (.int .i64 r.t) := HCW.out _ B1.out 4 _ rfl
        have c5 : w1.cell? ⟨b, o + i * 7 + 5, none⟩ = some (.int .i64 r.an) := HCW.out _ B1.out 5 _ rfl
        have c6 : w1.cell? ⟨b, o + i * 7 + 6, none⟩ = some (.int .i64 r.o) := HCW.out _ B1.out 6 _ rfl
        cases t3 : decide ((300 : Int) < (r.vs.length : Int))
        · have hmay : r.may = true := hm
          have hq : (i : Int) % 248 = (i : Int) := by omega
          have hask := askI_ask HAI.out (i : Int) (by omega) (by omega) (by rw [unitsL_length]; show (xs i).r.may = true; rw [HXI.out]; exact hmay) (by rw [unitsL_length]; omega)
          rw [unitsL_length] at hask
          simp only [HXI.out] at hask
          obtain ⟨hE, hT, hI⟩ := hask
          have HI2 : Hid (AskI x0 x1 x2 (fun j => (xs j).r) (unitsL (i + 1)) (askS s (i : Int) r)) := hide (by rw [unitsL_succ]; exact hI)
          have HE := hide hE
          have HMY2 : Hid (∀ j, j < i + 1 → (xs j).r.may = true) := hide (fun j hj => by
            by_cases hji : j < i
            · exact HMY.out j hji
            · obtain rfl : j = i := by omega
              rw [HXI.out]
              exact hmay)
          have hnx : s.next ≤ 1000000 := by
            have := HAI.out
            unfold AskI at this
            rw [this]
            show (unitsL i).length ≤ _
            rw [unitsL_length]
            omega
          have HNX := hide hnx
          have hvl : r.vs.length ≤ 1000000 := by omega
          clear hE hT hI hnx hm hmay hlong
          go_wp2_with fail
          have hcall := msAsk_w w.heap.size g mm s (i : Int) r A k w w1 A1.out (HRD.out.keep B1.out) hvl HNX.out (fun h0 => A1.out.off (fun b' o' e' => rd_lt HRD.out h0 b' o' e')) B1.out B1.out.size HG.out
          rw [HE.out] at hcall
          refine hcall.mono ?_
          rintro e w3 ⟨m3, rfl, a3, g3, n3, b3, _, _⟩
          have X1 : Hid (AW1 g x0 x1 x2 (fun j => (xs j).r) w (i + 1) w3) := hide ⟨m3, _, a3, g3, n3.trans HMN.out, b3, HI2.out, HMY2.out⟩
          clear a3 g3 n3 b3 hcall c0 c1 c2 c3 c4 c5 c6
          go_wp2
          exact ⟨⟨i + 1, by rw [Int.natCast_add]; rfl, by omega, X1.out⟩, by simp only [intOf]; omega⟩
        · go_wp2
          go_ret
          exact ⟨rfl, B1.out⟩
    · obtain rfl : i = len := by omega
      have q : ¬ (i : Int) < (i : Int) := by omega
      have Y0 : Hid (AW2 g (fun j => (xs j).r) i w 0 wr) := hide ⟨mm, s, HM.out, HG.out, by rw [HMN.out]; exact Nat.le_refl _, HBL.out, ai_start HAI.out⟩
      clear HM HG HMN HBL HAI
      go_wp2_with fail
      go_loopw [16] (fun x wr => ∃ j : Nat, x = .int .i64 (j : Int) ∧ j ≤ i ∧ AW2 g (fun j => (xs j).r) i w j wr) (fun x _ => i - (intOf x).toNat)
      case atStart => exact ⟨0, rfl, by omega, Y0.out⟩
      case round =>
        obtain ⟨j, rfl, hj, hX⟩ := hrel
        clear Y0
        obtain ⟨m2, s2, hM, hg, hmn, hbel, hai⟩ := hX.all
        have HM := hide hM
        have HG := hide hg
        have HMN := hide hmn
        have HBL := hide hbel
        have HAI := hide hai
        clear hX hM hg hmn hbel hai
        by_cases hlt : j < i
        · have q5 : (j : Int) < (i : Int) := by omega
          go_wp2_with fail
          obtain ⟨eA, eD, eE, hAO⟩ := ai_step HAI.out hlt
          refine (msStep_w w.heap.size g m2 s2 (j : Int) w wr HM.out (by omega) (by have := HMN.out; omega) HBL.out HBL.out.size HG.out).mono ?_
          rintro e w6 ⟨O, P, k6, l6, rs, ds, m6, rfl, e1, r6, e2, d6, a6, g6, n6, b6, fO, _, _, _⟩
          rw [eE]
          rw [eA] at e1
          rw [eD] at e2
          obtain ⟨y, rfl, ey⟩ := sm_one e1
          obtain rfl := List.map_eq_nil_iff.1 e2
          obtain ⟨bO, rfl, zO, oO⟩ := r6.one
          obtain ⟨ytk, yu, yr, yV, yk⟩ := y
          injection ey with ey1 ey2 ey3
          simp only at ey1 ey2 ey3
          subst ey1 ey2
          have HYR := hide ey3
          have ZO := hide zO
          have OO := hide oO
          have A6 := hide a6
          have G6 := hide g6
          have N6 : Hid (m6.n ≤ j + 1) := hide (by have := HMN.out; omega)
          have B6 := hide b6
          have FO := hide (fO bO 0 rfl).1
          have HAO := hide hAO
          clear e1 e2 ey3 zO oO a6 g6 n6 b6 fO hAO r6 d6 eA eD eE HM HG HMN HBL HAI
          obtain ⟨b, o, rfl, hbl, hc, hrd⟩ := HS.out.at_ hlt
          have hcw : ∀ W, Below w.heap.size w W → ∀ t v, (xs j).cells[t]? = some v → W.cell? ⟨b, o + (j * 7 + t), none⟩ = some v := fun W hW t v hv => (hW.cell (p := ⟨b, o + (j * 7 + t), none⟩) hbl).trans (hc t v hv)
          obtain ⟨X, hX⟩ : ∃ X, xs j = X := ⟨_, rfl⟩
          rw [hX] at hcw hrd HYR
          have HXI := hide hX
          clear hc hX
          obtain ⟨r, A, k⟩ := X
          have eyr : yr = r := HYR.out
          subst eyr
          have hmy : yr.may = true := by have := HMY.out j hlt; rw [HXI.out] at this; exact this
          have hyl : yr.vs.length ≤ 2000 := may_vs hmy
          have HMJ := hide hmy
          have HRD := hide (show Rd w A yr.vs.length (iv yr.vs) from hrd)
          have q0 : IntKind.i64.wrap ((j : Int) + 1) = (j : Int) + 1 := by rw [IntKind.wrap_i64]; omega
          have hsS : ∀ w', AnsQ w bO (SM.vs ⟨j + 1, (j : Int), yr, yV, yk⟩) w' → ∀ t v, (SM.vs ⟨j + 1, (j : Int), yr, yV, yk⟩)[t]? = some v → w'.cell? ⟨bO, t, none⟩ = some v := fun w' h t v hv => (h.2.cell t).trans hv
          have d0 : ∀ w', AnsQ w bO (SM.vs ⟨j + 1, (j : Int), yr, yV, yk⟩) w' → w'.cell? ⟨bO, 0, none⟩ = some (.int .i64 ((j : Int) + 1)) := fun w' h => hsS w' h 0 _ rfl
          have d1 : ∀ w', AnsQ w bO (SM.vs ⟨j + 1, (j : Int), yr, yV, yk⟩) w' → w'.cell? ⟨bO, 1, none⟩ = some (.int .i64 (j : Int)) := fun w' h => hsS w' h 1 _ rfl
          have d2 : ∀ w', AnsQ w bO (SM.vs ⟨j + 1, (j : Int), yr, yV, yk⟩) w' → w'.cell? ⟨bO, 2, none⟩ = some (.int .i64 yr.f) := fun w' h => hsS w' h 2 _ rfl
          have d3 : ∀ w', AnsQ w bO (SM.vs ⟨j + 1, (j : Int), yr, yV, yk⟩) w' → w'.cell? ⟨bO, 3, none⟩ = some (.int .i64 yr.a) := fun w' h => hsS w' h 3 _ rfl
          have d4 : ∀ w', AnsQ w bO (SM.vs ⟨j + 1, (j : Int), yr, yV, yk⟩) w' → w'.cell? ⟨bO, 4, none⟩ = some (.int .i64 yr.c) := fun w' h => hsS w' h 4 _ rfl
          have d5 : ∀ w', AnsQ w bO (SM.vs ⟨j + 1, (j : Int), yr, yV, yk⟩) w' → w'.cell? ⟨bO, 5, none⟩ = some (.slice yV yr.vs.length yk) := fun w' h => hsS w' h 5 _ rfl
          have d6 : ∀ w', AnsQ w bO (SM.vs ⟨j + 1, (j : Int), yr, yV, yk⟩) w' → w'.cell? ⟨bO, 6, none⟩ = some (.int .i64 yr.t) := fun w' h => hsS w' h 6 _ rfl
          have d7 : ∀ w', AnsQ w bO (SM.vs ⟨j + 1, (j : Int), yr, yV, yk⟩) w' → w'.cell? ⟨bO, 7, none⟩ = some (.int .i64 yr.an) := fun w' h => hsS w' h 7 _ rfl
          have d8 : ∀ w', AnsQ w bO (SM.vs ⟨j + 1, (j : Int), yr, yV, yk⟩) w' → w'.cell? ⟨bO, 8, none⟩ = some (.int .i64 yr.o) := fun w' h => hsS w' h 8 _ rfl
          have l0 : ∀ w', AnsQ w bO (SM.vs ⟨j + 1, (j : Int), yr, yV, yk⟩) w' → w'.cell? ⟨b, o + j * 7, none⟩ = some (.int .i64 yr.f) := fun w' h => hcw w' h.1 0 _ rfl
          have l1 : ∀ w', AnsQ w bO (SM.vs ⟨j + 1, (j : Int), yr, yV, yk⟩) w' → w'.cell? ⟨b, o + j * 7 + 1, none⟩ = some (.int .i64 yr.a) := fun w' h => hcw w' h.1 1 _ rfl
          have l2 : ∀ w', AnsQ w bO (SM.vs ⟨j + 1, (j : Int), yr, yV, yk⟩) w' → w'.cell? ⟨b, o + j * 7 + 2, none⟩ = some (.int .i64 yr.c) := fun w' h => hcw w' h.1 2 _ rfl
          have l3 : ∀ w', AnsQ w bO (SM.vs ⟨j + 1, (j : Int), yr, yV, yk⟩) w' → w'.cell? ⟨b, o + j * 7 + 3, none⟩ = some (.slice A yr.vs.length k) := fun w' h => hcw w' h.1 3 _ rfl
          have l4 : ∀ w', AnsQ w bO (SM.vs ⟨j + 1, (j : Int), yr, yV, yk⟩) w' → w'.cell? ⟨b, o + j * 7 + 4, none⟩ = some (.int .i64 yr.t) := fun w' h => hcw w' h.1 4 _ rfl
          have l5 : ∀ w', AnsQ w bO (SM.vs ⟨j + 1, (j : Int), yr, yV, yk⟩) w' → w'.cell? ⟨b, o + j * 7 + 5, none⟩ = some (.int .i64 yr.an) := fun w' h => hcw w' h.1 5 _ rfl
          have l6 : ∀ w', AnsQ w bO (SM.vs ⟨j + 1, (j : Int), yr, yV, yk⟩) w' → w'.cell? ⟨b, o + j * 7 + 6, none⟩ = some (.int .i64 yr.o) := fun w' h => hcw w' h.1 6 _ rfl
          clear hsS hcw hrd hmy
          go_wp2_with fail
          refine wp_region_held_drew (S := AnsQ w bO (SM.vs ⟨j + 1, (j : Int), yr, yV, yk⟩)) (by kernel_rfl) ?_ (fun hHeld => ?_)
          · exact ⟨B6.out.drew, ZO.out.drew⟩
          refine wpAnyH_take (i := 0) (oi := { dst := some 108, op := _, type := _, pos := _, after := _, guard := _ }) (v := ?v1x1) rfl (by kernel_rfl) (by kernel_rfl) (by kernel_rfl) (fun _ _ _ h => h) (Or.inl ⟨by rfl, ?hy1x1⟩) hHeld ?rest1x1
          case hy1x1 => (intro w hSw; go_simp <;> with_reducible rfl)
          try simp only [Act.put, List.setIfInBounds_toArray, List.set_cons_zero, List.set_cons_succ]
          refine wpAnyH_take (i := 1) (oi := { dst := some 109, op := _, type := _, pos := _, after := _, guard := _ }) (v := ?v1x2) rfl (by kernel_rfl) (by kernel_rfl) (by kernel_rfl) (fun _ _ _ h => h) (Or.inl ⟨by rfl, ?hy1x2⟩) hHeld ?rest1x2
          case hy1x2 => (intro w hSw; go_simp <;> with_reducible rfl)
          try simp only [Act.put, List.setIfInBounds_toArray, List.set_cons_zero, List.set_cons_succ]
          refine wpAnyH_take (i := 2) (oi := { dst := some 110, op := _, type := _, pos := _, after := _, guard := _ }) (v := ?v1x3) rfl (by kernel_rfl) (by kernel_rfl) (by kernel_rfl) (fun _ _ _ h => h) (Or.inl ⟨by rfl, ?hy1x3⟩) hHeld ?rest1x3
          case hy1x3 => (intro w hSw; go_simp <;> with_reducible rfl)
          try simp only [Act.put, List.setIfInBounds_toArray, List.set_cons_zero, List.set_cons_succ]
          refine wpAnyH_take (i := 3) (oi := { dst := some 111, op := _, type := _, pos := _, after := _, guard := _ }) (v := ?v1x4) rfl (by kernel_rfl) (by kernel_rfl) (by kernel_rfl) (fun _ _ _ h => h) (Or.inl ⟨by rfl, ?hy1x4⟩) hHeld ?rest1x4
          case hy1x4 => (intro w hSw; go_simp <;> with_reducible rfl)
          try simp only [Act.put, List.setIfInBounds_toArray, List.set_cons_zero, List.set_cons_succ]
          refine wpAnyH_take (i := 4) (oi := { dst := some 112, op := _, type := _, pos := _, after := _, guard := _ }) (v := ?v1x5) rfl (by kernel_rfl) (by kernel_rfl) (by kernel_rfl) (fun _ _ _ h => h) (Or.inl ⟨by rfl, ?hy1x5⟩) hHeld ?rest1x5
          case hy1x5 => (intro w hSw; go_simp <;> with_reducible rfl)
          try simp only [Act.put, List.setIfInBounds_toArray, List.set_cons_zero, List.set_cons_succ]
          refine wpAnyH_take (i := 5) (oi := { dst := some 113, op := _, type := _, pos := _, after := _, guard := _ }) (v := ?v1x6) rfl (by kernel_rfl) (by kernel_rfl) (by kernel_rfl) (fun _ _ _ h => h) (Or.inl ⟨by rfl, ?hy1x6⟩) hHeld ?rest1x6
          case hy1x6 => (intro w hSw; go_simp <;> with_reducible rfl)
          try simp only [Act.put, List.setIfInBounds_toArray, List.set_cons_zero, List.set_cons_succ]
          refine wpAnyH_take (i := 6) (oi := { dst := some 114, op := _, type := _, pos := _, after := _, guard := _ }) (v := ?v1x7) rfl (by kernel_rfl) (by kernel_rfl) (by kernel_rfl) (fun _ _ _ h => h) (Or.inl ⟨by rfl, ?hy1x7⟩) hHeld ?rest1x7
          case hy1x7 => (intro w hSw; go_simp <;> with_reducible rfl)
          try simp only [Act.put, List.setIfInBounds_toArray, List.set_cons_zero, List.set_cons_succ]
          refine wpAnyH_take (i := 7) (oi := { dst := some 115, op := _, type := _, pos := _, after := _, guard := _ }) (v := ?v1x8) rfl (by kernel_rfl) (by kernel_rfl) (by kernel_rfl) (fun _ _ _ h => h) (Or.inl ⟨by rfl, ?hy1x8⟩) hHeld ?rest1x8
          case hy1x8 => (intro w hSw; go_simp <;> with_reducible rfl)
          try simp only [Act.put, List.setIfInBounds_toArray, List.set_cons_zero, List.set_cons_succ]
          refine wpAnyH_take (i := 8) (oi := { dst := some 116, op := _, type := _, pos := _, after := _, guard := _ }) (v := ?v1x9) rfl (by kernel_rfl) (by kernel_rfl) (by kernel_rfl) (fun _ _ _ h => h) (Or.inl ⟨by rfl, ?hy1x9⟩) hHeld ?rest1x9
          case hy1x9 => (intro w hSw; go_simp <;> with_reducible rfl)
          try simp only [Act.put, List.setIfInBounds_toArray, List.set_cons_zero, List.set_cons_succ]
          refine wpAnyH_take (i := 9) (oi := { dst := some 117, op := _, type := _, pos := _, after := _, guard := _ }) (v := ?v1x10) rfl (by kernel_rfl) (by kernel_rfl) (by kernel_rfl) (fun _ _ _ h => h) (Or.inl ⟨by rfl, ?hy1x10⟩) hHeld ?rest1x10
          case hy1x10 => (intro w hSw; go_simp <;> with_reducible rfl)
          try simp only [Act.put, List.setIfInBounds_toArray, List.set_cons_zero, List.set_cons_succ]
          refine wpAnyH_take (i := 10) (oi := { dst := some 118, op := _, type := _, pos := _, after := _, guard := _ }) (v := ?v1x11) rfl (by kernel_rfl) (by kernel_rfl) (by kernel_rfl) (fun _ _ _ h => h) (Or.inl ⟨by rfl, ?hy1x11⟩) hHeld ?rest1x11
          case hy1x11 => (intro w hSw; go_simp <;> with_reducible rfl)
          try simp only [Act.put, List.setIfInBounds_toArray, List.set_cons_zero, List.set_cons_succ]
          refine wpAnyH_take (i := 11) (oi := { dst := some 119, op := _, type := _, pos := _, after := _, guard := _ }) (v := ?v1x12) rfl (by kernel_rfl) (by kernel_rfl) (by kernel_rfl) (fun _ _ _ h => h) (Or.inl ⟨by rfl, ?hy1x12⟩) hHeld ?rest1x12
          case hy1x12 => (intro w hSw; go_simp <;> with_reducible rfl)
          try simp only [Act.put, List.setIfInBounds_toArray, List.set_cons_zero, List.set_cons_succ]
          refine wpAnyH_take (i := 12) (oi := { dst := some 120, op := _, type := _, pos := _, after := _, guard := _ }) (v := ?v1x13) rfl (by kernel_rfl) (by kernel_rfl) (by kernel_rfl) (fun _ _ _ h => h) (Or.inl ⟨by rfl, ?hy1x13⟩) hHeld ?rest1x13
          case hy1x13 => (intro w hSw; go_simp <;> with_reducible rfl)
          try simp only [Act.put, List.setIfInBounds_toArray, List.set_cons_zero, List.set_cons_succ]
          refine wpAnyH_take (i := 13) (oi := { dst := some 121, op := _, type := _, pos := _, after := _, guard := _ }) (v := ?v1x14) rfl (by kernel_rfl) (by kernel_rfl) (by kernel_rfl) (fun _ _ _ h => h) (Or.inl ⟨by rfl, ?hy1x14⟩) hHeld ?rest1x14
          case hy1x14 => (intro w hSw; go_simp <;> with_reducible rfl)
          try simp only [Act.put, List.setIfInBounds_toArray, List.set_cons_zero, List.set_cons_succ]
          refine wpAnyH_take (i := 14) (oi := { dst := some 122, op := _, type := _, pos := _, after := _, guard := _ }) (v := ?v1x15) rfl (by kernel_rfl) (by kernel_rfl) (by kernel_rfl) (fun _ _ _ h => h) (Or.inl ⟨by rfl, ?hy1x15⟩) hHeld ?rest1x15
          case hy1x15 => (intro w hSw; go_simp <;> with_reducible rfl)
          try simp only [Act.put, List.setIfInBounds_toArray, List.set_cons_zero, List.set_cons_succ]
          refine wpAnyH_take (i := 15) (oi := { dst := some 123, op := _, type := _, pos := _, after := _, guard := _ }) (v := ?v1x16) rfl (by kernel_rfl) (by kernel_rfl) (by kernel_rfl) (fun _ _ _ h => h) (Or.inl ⟨by rfl, ?hy1x16⟩) hHeld ?rest1x16
          case hy1x16 => (intro w hSw; go_simp <;> with_reducible rfl)
          try simp only [Act.put, List.setIfInBounds_toArray, List.set_cons_zero, List.set_cons_succ]
          refine wpAnyH_take (i := 16) (oi := { dst := some 124, op := _, type := _, pos := _, after := _, guard := _ }) (v := ?v1x17) rfl (by kernel_rfl) (by kernel_rfl) (by kernel_rfl) (fun _ _ _ h => h) (Or.inl ⟨by rfl, ?hy1x17⟩) hHeld ?rest1x17
          case hy1x17 => (intro w hSw; go_simp <;> with_reducible rfl)
          try simp only [Act.put, List.setIfInBounds_toArray, List.set_cons_zero, List.set_cons_succ]
          refine wpAnyH_take (i := 17) (oi := { dst := some 125, op := _, type := _, pos := _, after := _, guard := _ }) (v := ?v1x18) rfl (by kernel_rfl) (by kernel_rfl) (by kernel_rfl) (fun _ _ _ h => h) (Or.inl ⟨by rfl, ?hy1x18⟩) hHeld ?rest1x18
          case hy1x18 => (intro w hSw; go_simp <;> with_reducible rfl)
          try simp only [Act.put, List.setIfInBounds_toArray, List.set_cons_zero, List.set_cons_succ]
          refine wpAnyH_take (i := 18) (oi := { dst := some 126, op := _, type := _, pos := _, after := _, guard := _ }) (v := ?v1x19) rfl (by kernel_rfl) (by kernel_rfl) (by kernel_rfl) (fun _ _ _ h => h) (Or.inl ⟨by rfl, ?hy1x19⟩) hHeld ?rest1x19
          case hy1x19 => (intro w hSw; go_simp <;> with_reducible rfl)
          try simp only [Act.put, List.setIfInBounds_toArray, List.set_cons_zero, List.set_cons_succ]
          refine wpAnyH_take (i := 19) (oi := { dst := some 127, op := _, type := _, pos := _, after := _, guard := _ }) (v := ?v1x20) rfl (by kernel_rfl) (by kernel_rfl) (by kernel_rfl) (fun _ _ _ h => h) (Or.inl ⟨by rfl, ?hy1x20⟩) hHeld ?rest1x20
          case hy1x20 => (intro w hSw; go_simp <;> with_reducible rfl)
          try simp only [Act.put, List.setIfInBounds_toArray, List.set_cons_zero, List.set_cons_succ]
          refine wpAnyH_take (i := 20) (oi := { dst := some 128, op := _, type := _, pos := _, after := _, guard := _ }) (v := ?v1x21) rfl (by kernel_rfl) (by kernel_rfl) (by kernel_rfl) (fun _ _ _ h => h) (Or.inl ⟨by rfl, ?hy1x21⟩) hHeld ?rest1x21
          case hy1x21 => (intro w hSw; go_simp <;> with_reducible rfl)
          try simp only [Act.put, List.setIfInBounds_toArray, List.set_cons_zero, List.set_cons_succ]
          refine wpAnyH_take (i := 21) (oi := { dst := some 129, op := _, type := _, pos := _, after := _, guard := _ }) (v := ?v1x22) rfl (by kernel_rfl) (by kernel_rfl) (by kernel_rfl) (fun _ _ _ h => h) (Or.inl ⟨by rfl, ?hy1x22⟩) hHeld ?rest1x22
          case hy1x22 => (intro w hSw; go_simp <;> with_reducible rfl)
          try simp only [Act.put, List.setIfInBounds_toArray, List.set_cons_zero, List.set_cons_succ]
          refine wpAnyH_take (i := 22) (oi := { dst := some 130, op := _, type := _, pos := _, after := _, guard := _ }) (v := ?v1x23) rfl (by kernel_rfl) (by kernel_rfl) (by kernel_rfl) (fun _ _ _ h => h) (Or.inl ⟨by rfl, ?hy1x23⟩) hHeld ?rest1x23
          case hy1x23 => (intro w hSw; go_simp <;> with_reducible rfl)
          try simp only [Act.put, List.setIfInBounds_toArray, List.set_cons_zero, List.set_cons_succ]
          refine wpAnyH_take (i := 23) (oi := { dst := some 131, op := _, type := _, pos := _, after := _, guard := _ }) (v := ?v1x24) rfl (by kernel_rfl) (by kernel_rfl) (by kernel_rfl) (fun _ _ _ h => h) (Or.inl ⟨by rfl, ?hy1x24⟩) hHeld ?rest1x24
          case hy1x24 => (intro w hSw; go_simp <;> with_reducible rfl)
          try simp only [Act.put, List.setIfInBounds_toArray, List.set_cons_zero, List.set_cons_succ]
          refine wpAnyH_take (i := 24) (oi := { dst := some 132, op := _, type := _, pos := _, after := _, guard := _ }) (v := ?v1x25) rfl (by kernel_rfl) (by kernel_rfl) (by kernel_rfl) (fun _ _ _ h => h) (Or.inl ⟨by rfl, ?hy1x25⟩) hHeld ?rest1x25
          case hy1x25 => (intro w hSw; go_simp <;> with_reducible rfl)
          try simp only [Act.put, List.setIfInBounds_toArray, List.set_cons_zero, List.set_cons_succ]
          refine wpAnyH_take (i := 25) (oi := { dst := some 133, op := _, type := _, pos := _, after := _, guard := _ }) (v := ?v1x26) rfl (by kernel_rfl) (by kernel_rfl) (by kernel_rfl) (fun _ _ _ h => h) (Or.inl ⟨by rfl, ?hy1x26⟩) hHeld ?rest1x26
          case hy1x26 => (intro w hSw; go_simp <;> with_reducible rfl)
          try simp only [Act.put, List.setIfInBounds_toArray, List.set_cons_zero, List.set_cons_succ]
          refine wpAnyH_take (i := 26) (oi := { dst := some 134, op := _, type := _, pos := _, after := _, guard := _ }) (v := ?v1x27) rfl (by kernel_rfl) (by kernel_rfl) (by kernel_rfl) (fun _ _ _ h => h) (Or.inl ⟨by rfl, ?hy1x27⟩) hHeld ?rest1x27
          case hy1x27 => (intro w hSw; go_simp <;> with_reducible rfl)
          try simp only [Act.put, List.setIfInBounds_toArray, List.set_cons_zero, List.set_cons_succ]
          refine wpAnyH_take (i := 27) (oi := { dst := some 135, op := _, type := _, pos := _, after := _, guard := _ }) (v := ?v1x28) rfl (by kernel_rfl) (by kernel_rfl) (by kernel_rfl) (fun _ _ _ h => h) (Or.inl ⟨by rfl, ?hy1x28⟩) hHeld ?rest1x28
          case hy1x28 => (intro w hSw; go_simp <;> with_reducible rfl)
          try simp only [Act.put, List.setIfInBounds_toArray, List.set_cons_zero, List.set_cons_succ]
          refine wpAnyH_take (i := 28) (oi := { dst := some 136, op := _, type := _, pos := _, after := _, guard := _ }) (v := ?v1x29) rfl (by kernel_rfl) (by kernel_rfl) (by kernel_rfl) (fun _ _ _ h => h) (Or.inl ⟨by rfl, ?hy1x29⟩) hHeld ?rest1x29
          case hy1x29 => (intro w hSw; go_simp <;> with_reducible rfl)
          try simp only [Act.put, List.setIfInBounds_toArray, List.set_cons_zero, List.set_cons_succ]
          refine wpAnyH_take (i := 29) (oi := { dst := some 137, op := _, type := _, pos := _, after := _, guard := _ }) (v := ?v1x30) rfl (by kernel_rfl) (by kernel_rfl) (by kernel_rfl) (fun _ _ _ h => h) (Or.inl ⟨by rfl, ?hy1x30⟩) hHeld ?rest1x30
          case hy1x30 => (intro w hSw; go_simp <;> with_reducible rfl)
          try simp only [Act.put, List.setIfInBounds_toArray, List.set_cons_zero, List.set_cons_succ]
          refine wpAnyH_ready (rs := [30]) (by kernel_rfl) (by simp) (AllReadyH.cons (o := { dst := some 138, op := _, type := _, pos := _, after := _, guard := _ }) rfl (fun K hK => ?_) AllReadyH.nil)
          go_simp
          refine (same_yes yr.f yr.a yr.c yr.t yr.an yr.o yV A yr.vs.length yr.vs.length yk k yr.vs w6.drew (OO.out.keep (Below.refl _ _).drew).is (HRD.out.keep B6.out.drew) (by omega)).mono ?_
          rintro e w7 ⟨rfl, b7⟩
          have A7 := hide ((A6.out.keep (Below.refl _ _).drew).keep b7)
          have B7 := hide (below_on B6.out.drew b7)
          have Z7 := hide ((ZO.out.drew).keep b7)
          clear b7
          go_wp2_with fail
          refine hK.out _ _ ?_ (fun hHeld => ?_)
          · exact ⟨B7.out, Z7.out⟩
          clear hK K
          try simp only [Act.put, List.setIfInBounds_toArray, List.set_cons_zero, List.set_cons_succ]
          refine wpAnyH_take (i := 31) (oi := { dst := some 139, op := _, type := _, pos := _, after := _, guard := _ }) (v := ?v1x32) rfl (by kernel_rfl) (by kernel_rfl) (by kernel_rfl) (fun _ _ _ h => h) (Or.inl ⟨by rfl, ?hy1x32⟩) hHeld ?rest1x32
          case hy1x32 => (intro w hSw; go_simp <;> with_reducible rfl)
          try simp only [Act.put, List.setIfInBounds_toArray, List.set_cons_zero, List.set_cons_succ]
          refine wpAnyH_take (i := 32) (oi := { dst := some 140, op := _, type := _, pos := _, after := _, guard := _ }) (v := ?v1x33) rfl (by kernel_rfl) (by kernel_rfl) (by kernel_rfl) (fun _ _ _ h => h) (Or.inl ⟨by rfl, ?hy1x33⟩) hHeld ?rest1x33
          case hy1x33 => (intro w hSw; go_simp <;> with_reducible rfl)
          try simp only [Act.put, List.setIfInBounds_toArray, List.set_cons_zero, List.set_cons_succ]
          refine wpAnyH_done (by kernel_rfl) ?_ _
          obtain ⟨L, hL⟩ : ∃ L, (ansV yr x4).lay yr = L := ⟨_, rfl⟩
          have hans := fun W hr => answer7_any yr A k x4 W HMJ.out hr
          have hprs := ansV_parse yr HMJ.out x4
          rw [hL] at hprs
          simp only [hL] at hans
          have HANS := hide hans
          have HPRS := hide hprs
          have HCD := hide (ansV_code yr x4 hv0)
          have hu1 := ao_unit HAO.out ((j : Int) + 1) (by omega) L
          have HU1 := hide hu1
          clear hL hans hprs hu1
          go_wp2_with fail
          refine wp_region_held_drew (S := AnsQ w bO (SM.vs ⟨j + 1, (j : Int), yr, yV, yk⟩)) (by kernel_rfl) ?_ (fun hHeld => ?_)
          · exact ⟨B7.out.drew, Z7.out.drew⟩
          refine wpAnyH_take (i := 0) (oi := { dst := some 142, op := _, type := _, pos := _, after := _, guard := _ }) (v := ?v2x1) rfl (by kernel_rfl) (by kernel_rfl) (by kernel_rfl) (fun _ _ _ h => h) (Or.inl ⟨by rfl, ?hy2x1⟩) hHeld ?rest2x1
          case hy2x1 => (intro w hSw; go_simp <;> with_reducible rfl)
          try simp only [Act.put, List.setIfInBounds_toArray, List.set_cons_zero, List.set_cons_succ]
          refine wpAnyH_take (i := 1) (oi := { dst := some 143, op := _, type := _, pos := _, after := _, guard := _ }) (v := ?v2x2) rfl (by kernel_rfl) (by kernel_rfl) (by kernel_rfl) (fun _ _ _ h => h) (Or.inl ⟨by rfl, ?hy2x2⟩) hHeld ?rest2x2
          case hy2x2 => (intro w hSw; go_simp <;> with_reducible rfl)
          try simp only [Act.put, List.setIfInBounds_toArray, List.set_cons_zero, List.set_cons_succ]
          refine wpAnyH_take (i := 2) (oi := { dst := some 144, op := _, type := _, pos := _, after := _, guard := _ }) (v := ?v2x3) rfl (by kernel_rfl) (by kernel_rfl) (by kernel_rfl) (fun _ _ _ h => h) (Or.inl ⟨by rfl, ?hy2x3⟩) hHeld ?rest2x3
          case hy2x3 => (intro w hSw; go_simp <;> with_reducible rfl)
          try simp only [Act.put, List.setIfInBounds_toArray, List.set_cons_zero, List.set_cons_succ]
          refine wpAnyH_take (i := 3) (oi := { dst := some 145, op := _, type := _, pos := _, after := _, guard := _ }) (v := ?v2x4) rfl (by kernel_rfl) (by kernel_rfl) (by kernel_rfl) (fun _ _ _ h => h) (Or.inl ⟨by rfl, ?hy2x4⟩) hHeld ?rest2x4
          case hy2x4 => (intro w hSw; go_simp <;> with_reducible rfl)
          try simp only [Act.put, List.setIfInBounds_toArray, List.set_cons_zero, List.set_cons_succ]
          refine wpAnyH_take (i := 4) (oi := { dst := some 146, op := _, type := _, pos := _, after := _, guard := _ }) (v := ?v2x5) rfl (by kernel_rfl) (by kernel_rfl) (by kernel_rfl) (fun _ _ _ h => h) (Or.inl ⟨by rfl, ?hy2x5⟩) hHeld ?rest2x5
          case hy2x5 => (intro w hSw; go_simp <;> with_reducible rfl)
          try simp only [Act.put, List.setIfInBounds_toArray, List.set_cons_zero, List.set_cons_succ]
          refine wpAnyH_take (i := 5) (oi := { dst := some 147, op := _, type := _, pos := _, after := _, guard := _ }) (v := ?v2x6) rfl (by kernel_rfl) (by kernel_rfl) (by kernel_rfl) (fun _ _ _ h => h) (Or.inl ⟨by rfl, ?hy2x6⟩) hHeld ?rest2x6
          case hy2x6 => (intro w hSw; go_simp <;> with_reducible rfl)
          try simp only [Act.put, List.setIfInBounds_toArray, List.set_cons_zero, List.set_cons_succ]
          refine wpAnyH_take (i := 6) (oi := { dst := some 148, op := _, type := _, pos := _, after := _, guard := _ }) (v := ?v2x7) rfl (by kernel_rfl) (by kernel_rfl) (by kernel_rfl) (fun _ _ _ h => h) (Or.inl ⟨by rfl, ?hy2x7⟩) hHeld ?rest2x7
          case hy2x7 => (intro w hSw; go_simp <;> with_reducible rfl)
          try simp only [Act.put, List.setIfInBounds_toArray, List.set_cons_zero, List.set_cons_succ]
          refine wpAnyH_take (i := 7) (oi := { dst := some 149, op := _, type := _, pos := _, after := _, guard := _ }) (v := ?v2x8) rfl (by kernel_rfl) (by kernel_rfl) (by kernel_rfl) (fun _ _ _ h => h) (Or.inl ⟨by rfl, ?hy2x8⟩) hHeld ?rest2x8
          case hy2x8 => (intro w hSw; go_simp <;> with_reducible rfl)
          try simp only [Act.put, List.setIfInBounds_toArray, List.set_cons_zero, List.set_cons_succ]
          refine wpAnyH_take (i := 8) (oi := { dst := some 150, op := _, type := _, pos := _, after := _, guard := _ }) (v := ?v2x9) rfl (by kernel_rfl) (by kernel_rfl) (by kernel_rfl) (fun _ _ _ h => h) (Or.inl ⟨by rfl, ?hy2x9⟩) hHeld ?rest2x9
          case hy2x9 => (intro w hSw; go_simp <;> with_reducible rfl)
          try simp only [Act.put, List.setIfInBounds_toArray, List.set_cons_zero, List.set_cons_succ]
          refine wpAnyH_take (i := 9) (oi := { dst := some 151, op := _, type := _, pos := _, after := _, guard := _ }) (v := ?v2x10) rfl (by kernel_rfl) (by kernel_rfl) (by kernel_rfl) (fun _ _ _ h => h) (Or.inl ⟨by rfl, ?hy2x10⟩) hHeld ?rest2x10
          case hy2x10 => (intro w hSw; go_simp <;> with_reducible rfl)
          try simp only [Act.put, List.setIfInBounds_toArray, List.set_cons_zero, List.set_cons_succ]
          refine wpAnyH_take (i := 10) (oi := { dst := some 152, op := _, type := _, pos := _, after := _, guard := _ }) (v := ?v2x11) rfl (by kernel_rfl) (by kernel_rfl) (by kernel_rfl) (fun _ _ _ h => h) (Or.inl ⟨by rfl, ?hy2x11⟩) hHeld ?rest2x11
          case hy2x11 => (intro w hSw; go_simp <;> with_reducible rfl)
          try simp only [Act.put, List.setIfInBounds_toArray, List.set_cons_zero, List.set_cons_succ]
          refine wpAnyH_take (i := 11) (oi := { dst := some 153, op := _, type := _, pos := _, after := _, guard := _ }) (v := ?v2x12) rfl (by kernel_rfl) (by kernel_rfl) (by kernel_rfl) (fun _ _ _ h => h) (Or.inl ⟨by rfl, ?hy2x12⟩) hHeld ?rest2x12
          case hy2x12 => (intro w hSw; go_simp <;> with_reducible rfl)
          try simp only [Act.put, List.setIfInBounds_toArray, List.set_cons_zero, List.set_cons_succ]
          refine wpAnyH_ready (rs := [12]) (by kernel_rfl) (by simp) (AllReadyH.cons (o := { dst := some 154, op := _, type := _, pos := _, after := _, guard := _ }) rfl (fun K hK => ?_) AllReadyH.nil)
          go_simp
          refine (HANS.out w7.drew (HRD.out.keep B7.out.drew)).mono ?_
          rintro e w8 ⟨C8, k8, rfl, lC8, rC8, b8⟩
          have A8 := hide ((A7.out.keep (Below.refl _ _).drew).keep b8)
          have B8 := hide (below_on B7.out.drew b8)
          have Z8 := hide ((Z7.out.drew).keep b8)
          have RC8 := hide rC8
          clear b8 rC8
          go_wp2_with fail
          refine hK.out _ _ ?_ (fun hHeld => ?_)
          · exact ⟨B8.out, Z8.out⟩
          clear hK K
          try simp only [Act.put, List.setIfInBounds_toArray, List.set_cons_zero, List.set_cons_succ]
          refine wpAnyH_ready (rs := [13]) (by kernel_rfl) (by simp) (AllReadyH.cons (o := { dst := some 155, op := _, type := _, pos := _, after := _, guard := _ }) rfl (fun K hK => ?_) AllReadyH.nil)
          go_simp
          refine (msCame_w w.heap.size g m6 _ (j : Int) ((j : Int) + 1) C8 L.length k8 L w w8 A8.out RC8.out lC8 B8.out B8.out.size G6.out).mono ?_
          rintro e w9 ⟨P9, l9, ds9, m9, rfl, e9, d9, _, a9, g9, n9, b9, _, u9, s9, _⟩
          obtain ⟨v1, v2, v3⟩ := HU1.out
          rw [v1] at e9
          rw [v2]
          obtain rfl := List.map_eq_nil_iff.1 e9
          have A9 := hide a9
          have G9 := hide g9
          have N9 : Hid (m9.n ≤ j + 1) := hide (by rw [n9]; exact N6.out)
          have B9 := hide b9
          have Z9 := hide (Z8.out.but u9 FO.out)
          have F9 : Hid (¬ m9.S bO) := hide (fun hc => (s9 bO hc).elim FO.out (fun hge => by have := Z8.out.lt; omega))
          have AO9 := hide v3
          clear e9 d9 a9 g9 n9 b9 u9 s9 v1 v2 v3
          go_wp2_with fail
          refine hK.out _ _ ?_ (fun hHeld => ?_)
          · exact ⟨B9.out, Z9.out⟩
          clear hK K
          try simp only [Act.put, List.setIfInBounds_toArray, List.set_cons_zero, List.set_cons_succ]
          refine wpAnyH_take (i := 14) (oi := { dst := some 141, op := _, type := _, pos := _, after := _, guard := _ }) (v := ?v2x15) rfl (by kernel_rfl) (by kernel_rfl) (by kernel_rfl) (fun _ _ _ h => h) (Or.inl ⟨by rfl, ?hy2x15⟩) hHeld ?rest2x15
          case hy2x15 => (intro w hSw; go_simp <;> with_reducible rfl)
          try simp only [Act.put, List.setIfInBounds_toArray, List.set_cons_zero, List.set_cons_succ]
          refine wpAnyH_take (i := 15) (oi := { dst := some 156, op := _, type := _, pos := _, after := _, guard := _ }) (v := ?v2x16) rfl (by kernel_rfl) (by kernel_rfl) (by kernel_rfl) (fun _ _ _ h => h) (Or.inl ⟨by rfl, ?hy2x16⟩) hHeld ?rest2x16
          case hy2x16 => (intro w hSw; go_simp <;> with_reducible rfl)
          try simp only [Act.put, List.setIfInBounds_toArray, List.set_cons_zero, List.set_cons_succ]
          refine wpAnyH_take (i := 16) (oi := { dst := some 157, op := _, type := _, pos := _, after := _, guard := _ }) (v := ?v2x17) rfl (by kernel_rfl) (by kernel_rfl) (by kernel_rfl) (fun _ _ _ h => h) (Or.inl ⟨by rfl, ?hy2x17⟩) hHeld ?rest2x17
          case hy2x17 => (intro w hSw; go_simp <;> with_reducible rfl)
          try simp only [Act.put, List.setIfInBounds_toArray, List.set_cons_zero, List.set_cons_succ]
          refine wpAnyH_take (i := 17) (oi := { dst := some 20, op := _, type := _, pos := _, after := _, guard := _ }) (v := ?v2x18) rfl (by kernel_rfl) (by kernel_rfl) (by kernel_rfl) (fun _ _ _ h => h) (Or.inl ⟨by rfl, ?hy2x18⟩) hHeld ?rest2x18
          case hy2x18 => (intro w hSw; go_simp <;> with_reducible rfl)
          try simp only [Act.put, List.setIfInBounds_toArray, List.set_cons_zero, List.set_cons_succ]
          refine wpAnyH_take (i := 18) (oi := { dst := some 21, op := _, type := _, pos := _, after := _, guard := _ }) (v := ?v2x19) rfl (by kernel_rfl) (by kernel_rfl) (by kernel_rfl) (fun _ _ _ h => h) (Or.inl ⟨by rfl, ?hy2x19⟩) hHeld ?rest2x19
          case hy2x19 => (intro w hSw; go_simp <;> with_reducible rfl)
          try simp only [Act.put, List.setIfInBounds_toArray, List.set_cons_zero, List.set_cons_succ]
          refine wpAnyH_done (by kernel_rfl) ?_ _
          have hu2 := ao_yes AO9.out L (ansV yr x4) (by show ansParseL (xs j).r L = _; rw [HXI.out]; exact HPRS.out)
          have HU2 := hide hu2
          clear hu2
          go_wp2_with fail
          refine wp_region_held_drew (S := AnsQ w bO (SM.vs ⟨j + 1, (j : Int), yr, yV, yk⟩)) (by kernel_rfl) ?_ (fun hHeld => ?_)
          · exact ⟨B9.out.drew, Z9.out.drew⟩
          refine wpAnyH_take (i := 0) (oi := { dst := some 159, op := _, type := _, pos := _, after := _, guard := _ }) (v := ?v3x1) rfl (by kernel_rfl) (by kernel_rfl) (by kernel_rfl) (fun _ _ _ h => h) (Or.inl ⟨by rfl, ?hy3x1⟩) hHeld ?rest3x1
          case hy3x1 => (intro w hSw; go_simp <;> with_reducible rfl)
          try simp only [Act.put, List.setIfInBounds_toArray, List.set_cons_zero, List.set_cons_succ]
          refine wpAnyH_take (i := 1) (oi := { dst := some 160, op := _, type := _, pos := _, after := _, guard := _ }) (v := ?v3x2) rfl (by kernel_rfl) (by kernel_rfl) (by kernel_rfl) (fun _ _ _ h => h) (Or.inl ⟨by rfl, ?hy3x2⟩) hHeld ?rest3x2
          case hy3x2 => (intro w hSw; go_simp <;> with_reducible rfl)
          try simp only [Act.put, List.setIfInBounds_toArray, List.set_cons_zero, List.set_cons_succ]
          refine wpAnyH_take (i := 2) (oi := { dst := some 161, op := _, type := _, pos := _, after := _, guard := _ }) (v := ?v3x3) rfl (by kernel_rfl) (by kernel_rfl) (by kernel_rfl) (fun _ _ _ h => h) (Or.inl ⟨by rfl, ?hy3x3⟩) hHeld ?rest3x3
          case hy3x3 => (intro w hSw; go_simp <;> with_reducible rfl)
          try simp only [Act.put, List.setIfInBounds_toArray, List.set_cons_zero, List.set_cons_succ]
          refine wpAnyH_take (i := 3) (oi := { dst := some 162, op := _, type := _, pos := _, after := _, guard := _ }) (v := ?v3x4) rfl (by kernel_rfl) (by kernel_rfl) (by kernel_rfl) (fun _ _ _ h => h) (Or.inl ⟨by rfl, ?hy3x4⟩) hHeld ?rest3x4
          case hy3x4 => (intro w hSw; go_simp <;> with_reducible rfl)
          try simp only [Act.put, List.setIfInBounds_toArray, List.set_cons_zero, List.set_cons_succ]
          refine wpAnyH_take (i := 4) (oi := { dst := some 163, op := _, type := _, pos := _, after := _, guard := _ }) (v := ?v3x5) rfl (by kernel_rfl) (by kernel_rfl) (by kernel_rfl) (fun _ _ _ h => h) (Or.inl ⟨by rfl, ?hy3x5⟩) hHeld ?rest3x5
          case hy3x5 => (intro w hSw; go_simp <;> with_reducible rfl)
          try simp only [Act.put, List.setIfInBounds_toArray, List.set_cons_zero, List.set_cons_succ]
          refine wpAnyH_take (i := 5) (oi := { dst := some 164, op := _, type := _, pos := _, after := _, guard := _ }) (v := ?v3x6) rfl (by kernel_rfl) (by kernel_rfl) (by kernel_rfl) (fun _ _ _ h => h) (Or.inl ⟨by rfl, ?hy3x6⟩) hHeld ?rest3x6
          case hy3x6 => (intro w hSw; go_simp <;> with_reducible rfl)
          try simp only [Act.put, List.setIfInBounds_toArray, List.set_cons_zero, List.set_cons_succ]
          refine wpAnyH_take (i := 6) (oi := { dst := some 165, op := _, type := _, pos := _, after := _, guard := _ }) (v := ?v3x7) rfl (by kernel_rfl) (by kernel_rfl) (by kernel_rfl) (fun _ _ _ h => h) (Or.inl ⟨by rfl, ?hy3x7⟩) hHeld ?rest3x7
          case hy3x7 => (intro w hSw; go_simp <;> with_reducible rfl)
          try simp only [Act.put, List.setIfInBounds_toArray, List.set_cons_zero, List.set_cons_succ]
          refine wpAnyH_take (i := 7) (oi := { dst := some 166, op := _, type := _, pos := _, after := _, guard := _ }) (v := ?v3x8) rfl (by kernel_rfl) (by kernel_rfl) (by kernel_rfl) (fun _ _ _ h => h) (Or.inl ⟨by rfl, ?hy3x8⟩) hHeld ?rest3x8
          case hy3x8 => (intro w hSw; go_simp <;> with_reducible rfl)
          try simp only [Act.put, List.setIfInBounds_toArray, List.set_cons_zero, List.set_cons_succ]
          refine wpAnyH_take (i := 8) (oi := { dst := some 167, op := _, type := _, pos := _, after := _, guard := _ }) (v := ?v3x9) rfl (by kernel_rfl) (by kernel_rfl) (by kernel_rfl) (fun _ _ _ h => h) (Or.inl ⟨by rfl, ?hy3x9⟩) hHeld ?rest3x9
          case hy3x9 => (intro w hSw; go_simp <;> with_reducible rfl)
          try simp only [Act.put, List.setIfInBounds_toArray, List.set_cons_zero, List.set_cons_succ]
          refine wpAnyH_take (i := 9) (oi := { dst := some 168, op := _, type := _, pos := _, after := _, guard := _ }) (v := ?v3x10) rfl (by kernel_rfl) (by kernel_rfl) (by kernel_rfl) (fun _ _ _ h => h) (Or.inl ⟨by rfl, ?hy3x10⟩) hHeld ?rest3x10
          case hy3x10 => (intro w hSw; go_simp <;> with_reducible rfl)
          try simp only [Act.put, List.setIfInBounds_toArray, List.set_cons_zero, List.set_cons_succ]
          refine wpAnyH_take (i := 10) (oi := { dst := some 169, op := _, type := _, pos := _, after := _, guard := _ }) (v := ?v3x11) rfl (by kernel_rfl) (by kernel_rfl) (by kernel_rfl) (fun _ _ _ h => h) (Or.inl ⟨by rfl, ?hy3x11⟩) hHeld ?rest3x11
          case hy3x11 => (intro w hSw; go_simp <;> with_reducible rfl)
          try simp only [Act.put, List.setIfInBounds_toArray, List.set_cons_zero, List.set_cons_succ]
          refine wpAnyH_ready (rs := [11]) (by kernel_rfl) (by simp) (AllReadyH.cons (o := { dst := some 170, op := _, type := _, pos := _, after := _, guard := _ }) rfl (fun K hK => ?_) AllReadyH.nil)
          go_simp
          refine (HANS.out w9.drew (HRD.out.keep B9.out.drew)).mono ?_
          rintro e wA ⟨CA, kA, rfl, lCA, rCA, bA⟩
          have AA := hide ((A9.out.keep (Below.refl _ _).drew).keep bA)
          have BA := hide (below_on B9.out.drew bA)
          have ZA := hide ((Z9.out.drew).keep bA)
          have RCA := hide rCA
          clear bA rCA
          go_wp2_with fail
          refine hK.out _ _ ?_ (fun hHeld => ?_)
          · exact ⟨BA.out, ZA.out⟩
          clear hK K
          try simp only [Act.put, List.setIfInBounds_toArray, List.set_cons_zero, List.set_cons_succ]
          refine wpAnyH_ready (rs := [12]) (by kernel_rfl) (by simp) (AllReadyH.cons (o := { dst := some 171, op := _, type := _, pos := _, after := _, guard := _ }) rfl (fun K hK => ?_) AllReadyH.nil)
          go_simp
          refine (msCame_w w.heap.size g m9 _ (j : Int) (j : Int) CA L.length kA L w wA AA.out RCA.out lCA BA.out BA.out.size G9.out).mono ?_
          rintro e wB ⟨PB, lB, dsB, mB, rfl, eB, dB, _, aB, gB, nB, bB, _, uB, sB, _⟩
          obtain ⟨v1, v2, v3⟩ := HU2.out
          rw [v1] at eB
          rw [v2]
          obtain ⟨dd, rfl, ed⟩ := dm_one eB
          obtain ⟨bD, rfl, zD, _⟩ := dB.one
          obtain ⟨dtk, dan, dlate, dV, dk⟩ := dd
          injection ed with ed1 ed2 ed3
          simp only at ed1 ed2 ed3
          subst ed1 ed2 ed3
          have ZD := hide zD
          have X2 : Hid (AW2 g (fun j => (xs j).r) i w (j + 1) wB) := hide ⟨mB, _, aB, gB, by rw [nB]; exact N9.out, bB, v3⟩
          have BB := hide bB
          have ZB := hide (ZA.out.but uB F9.out)
          clear eB dB zD aB gB nB bB uB sB v1 v2 v3
          go_wp2_with fail
          refine hK.out _ _ ?_ (fun hHeld => ?_)
          · exact ⟨BB.out, ZB.out⟩
          clear hK K
          try simp only [Act.put, List.setIfInBounds_toArray, List.set_cons_zero, List.set_cons_succ]
          refine wpAnyH_take (i := 13) (oi := { dst := some 158, op := _, type := _, pos := _, after := _, guard := _ }) (v := ?v3x14) rfl (by kernel_rfl) (by kernel_rfl) (by kernel_rfl) (fun _ _ _ h => h) (Or.inl ⟨by rfl, ?hy3x14⟩) hHeld ?rest3x14
          case hy3x14 => (intro w hSw; go_simp <;> with_reducible rfl)
          try simp only [Act.put, List.setIfInBounds_toArray, List.set_cons_zero, List.set_cons_succ]
          refine wpAnyH_take (i := 14) (oi := { dst := some 172, op := _, type := _, pos := _, after := _, guard := _ }) (v := ?v3x15) rfl (by kernel_rfl) (by kernel_rfl) (by kernel_rfl) (fun _ _ _ h => h) (Or.inl ⟨by rfl, ?hy3x15⟩) hHeld ?rest3x15
          case hy3x15 => (intro w hSw; go_simp <;> with_reducible rfl)
          try simp only [Act.put, List.setIfInBounds_toArray, List.set_cons_zero, List.set_cons_succ]
          refine wpAnyH_take (i := 15) (oi := { dst := some 173, op := _, type := _, pos := _, after := _, guard := _ }) (v := ?v3x16) rfl (by kernel_rfl) (by kernel_rfl) (by kernel_rfl) (fun _ _ _ h => h) (Or.inl ⟨by rfl, ?hy3x16⟩) hHeld ?rest3x16
          case hy3x16 => (intro w hSw; go_simp <;> with_reducible rfl)
          try simp only [Act.put, List.setIfInBounds_toArray, List.set_cons_zero, List.set_cons_succ]
          refine wpAnyH_take (i := 16) (oi := { dst := some 22, op := _, type := _, pos := _, after := _, guard := _ }) (v := ?v3x17) rfl (by kernel_rfl) (by kernel_rfl) (by kernel_rfl) (fun _ _ _ h => h) (Or.inl ⟨by rfl, ?hy3x17⟩) hHeld ?rest3x17
          case hy3x17 => (intro w hSw; go_simp <;> with_reducible rfl)
          try simp only [Act.put, List.setIfInBounds_toArray, List.set_cons_zero, List.set_cons_succ]
          refine wpAnyH_take (i := 17) (oi := { dst := some 23, op := _, type := _, pos := _, after := _, guard := _ }) (v := ?v3x18) rfl (by kernel_rfl) (by kernel_rfl) (by kernel_rfl) (fun _ _ _ h => h) (Or.inl ⟨by rfl, ?hy3x18⟩) hHeld ?rest3x18
          case hy3x18 => (intro w hSw; go_simp <;> with_reducible rfl)
          try simp only [Act.put, List.setIfInBounds_toArray, List.set_cons_zero, List.set_cons_succ]
          refine wpAnyH_done (by kernel_rfl) ?_ _
          have e0 : wB.cell? ⟨bD, 0, none⟩ = some (.int .i64 ((j : Int) + 1)) := ZD.out.cell 0
          have e2 : wB.cell? ⟨bD, 2, none⟩ = some (.int .i64 0) := by rw [← HCD.out]; exact ZD.out.cell 2
          have e3 : wB.cell? ⟨bD, 3, none⟩ = some (.bool false) := ZD.out.cell 3
          clear d0 d1 d2 d3 d4 d5 d6 d7 d8 l0 l1 l2 l3 l4 l5 l6
          go_wp2
          exact ⟨⟨j + 1, by rw [Int.natCast_add]; rfl, by omega, X2.out⟩, by simp only [intOf]; omega⟩
        · obtain rfl : j = i := by omega
          have q5 : ¬ (j : Int) < (j : Int) := by omega
          go_wp2_with fail
          refine (awake7_any wr).mono ?_
          rintro e w6 ⟨rfl, b6⟩
          have A6 := hide (HM.out.keep b6)
          have B6 := hide (below_on HBL.out b6)
          clear b6
          go_wp2_with fail
          have hcnt := msCount_w w.heap.size g m2 s2 w6 A6.out HG.out
          rw [ai_end HAI.out] at hcnt
          refine hcnt.mono ?_
          rintro e w7 ⟨rfl, rfl⟩
          go_wp2
          go_ret
          exact ⟨rfl, B6.out⟩
end Go.Proofs.Ytnialjikpoembaa
