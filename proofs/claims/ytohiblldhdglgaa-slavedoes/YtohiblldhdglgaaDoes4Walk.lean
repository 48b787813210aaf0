/-
  What is proved here: the law SlaveDoes returns true for every input. No condition of its own.
-/
import Derived.Test.YtohiblldhdglgaaDoes4a
import Derived.Test.YtohiblldhdglgaaAwake4
import Derived.Test.YtohiblldhdglgaaRef3c
namespace Go.Proofs.Ytohiblldhdglgaa
set_option linter.unusedVariables false
set_option linter.unusedSimpArgs false
open Go.RowKit

/-- A slave and the document's, with the same rows. -/
structure BothS (hi g : Nat) (b : Nat → Nat) (hi2 g2 : Nat) (b2 : Nat → Nat) (w : World) (R : Nat → List Int) (wr : World) : Prop where
  s : SlA 58 w.heap.size hi wr g b R
  r : SlA 50 hi hi2 wr g2 b2 R
  well : wellR R
  bel : Below w.heap.size w wr
theorem BothS.on {hi g : Nat} {b : Nat → Nat} {hi2 g2 : Nat} {b2 : Nat → Nat} {w : World} {R : Nat → List Int} {wr wr' : World} (h : BothS hi g b hi2 g2 b2 w R wr) (bl : Below wr.heap.size wr wr') : BothS hi g b hi2 g2 b2 w R wr' :=
  ⟨h.s.keep bl, h.r.keep bl, h.well, below_on h.bel bl⟩
theorem BothS.hi12 {hi g : Nat} {b : Nat → Nat} {hi2 g2 : Nat} {b2 : Nat → Nat} {w : World} {R : Nat → List Int} {wr : World} (h : BothS hi g b hi2 g2 b2 w R wr) : w.heap.size ≤ hi ∧ hi ≤ hi2 ∧ hi2 ≤ wr.heap.size :=
  ⟨by have := h.s.gl; have := h.s.gh; omega, by have := h.r.gl; have := h.r.gh; omega, h.r.hi⟩

set_option maxRecDepth 100000 in
theorem does4_bad (x0 x1 : Int) (B : Option Addr) (len cap : Nat) (xs : Nat → SOp) (w : World) (h : ScrP w B len xs) (hbad : ¬ (0 ≤ x0 ∧ x0 ≤ 65536) ∨ ¬ (0 ≤ x1 ∧ x1 ≤ 65536)) :
    Calls Try.prog 3 #[.int .i64 x0, .int .i64 x1, .slice B len cap] w fun e w' => e = .returned (.bool true) ∧ Below w.heap.size w w' := by
  have HF := hide (few4_any B len cap xs w h)
  have HN1 := hide (fun W => sNew_no x0 x1 hbad W)
  have HN2 := hide (fun W => rNew_no x0 x1 hbad W)
  clear h hbad
  cases t1 : decide (200 < x0)
  · cases t3 : decide (200 < x1)
    · skip
      go_enter Try.func3, Try.ntmps3
      go_wp2_with fail
      refine HF.out.mono ?_
      rintro e w1 ⟨r, rfl, rfl, hr⟩
      clear hr
      cases r
      · go_wp2
        go_ret
        exact ⟨rfl, Below.refl _ _⟩
      · go_wp2_with fail
        refine (HN1.out _).mono ?_
        rintro e w2 ⟨rfl, rfl⟩
        go_wp2_with fail
        refine (HN2.out _).mono ?_
        rintro e w2 ⟨rfl, rfl⟩
        go_wp2_with fail
        refine (awake4_any _).mono ?_
        rintro e w3 ⟨rfl, b3⟩
        go_wp2
        go_ret
        exact ⟨rfl, b3⟩
    · cases t4 : decide (x1 ≤ 65536)
      · skip
        go_enter Try.func3, Try.ntmps3
        go_wp2_with fail
        refine HF.out.mono ?_
        rintro e w1 ⟨r, rfl, rfl, hr⟩
        clear hr
        cases r
        · go_wp2
          go_ret
          exact ⟨rfl, Below.refl _ _⟩
        · go_wp2_with fail
          refine (HN1.out _).mono ?_
          rintro e w2 ⟨rfl, rfl⟩
          go_wp2_with fail
          refine (HN2.out _).mono ?_
          rintro e w2 ⟨rfl, rfl⟩
          go_wp2_with fail
          refine (awake4_any _).mono ?_
          rintro e w3 ⟨rfl, b3⟩
          go_wp2
          go_ret
          exact ⟨rfl, b3⟩
      · skip
        go_enter Try.func3, Try.ntmps3
        go_wp2
        go_ret
        exact ⟨rfl, Below.refl _ _⟩
  · cases t2 : decide (x0 ≤ 65536)
    · cases t3 : decide (200 < x1)
      · skip
        go_enter Try.func3, Try.ntmps3
        go_wp2_with fail
        refine HF.out.mono ?_
        rintro e w1 ⟨r, rfl, rfl, hr⟩
        clear hr
        cases r
        · go_wp2
          go_ret
          exact ⟨rfl, Below.refl _ _⟩
        · go_wp2_with fail
          refine (HN1.out _).mono ?_
          rintro e w2 ⟨rfl, rfl⟩
          go_wp2_with fail
          refine (HN2.out _).mono ?_
          rintro e w2 ⟨rfl, rfl⟩
          go_wp2_with fail
          refine (awake4_any _).mono ?_
          rintro e w3 ⟨rfl, b3⟩
          go_wp2
          go_ret
          exact ⟨rfl, b3⟩
      · cases t4 : decide (x1 ≤ 65536)
        · skip
          go_enter Try.func3, Try.ntmps3
          go_wp2_with fail
          refine HF.out.mono ?_
          rintro e w1 ⟨r, rfl, rfl, hr⟩
          clear hr
          cases r
          · go_wp2
            go_ret
            exact ⟨rfl, Below.refl _ _⟩
          · go_wp2_with fail
            refine (HN1.out _).mono ?_
            rintro e w2 ⟨rfl, rfl⟩
            go_wp2_with fail
            refine (HN2.out _).mono ?_
            rintro e w2 ⟨rfl, rfl⟩
            go_wp2_with fail
            refine (awake4_any _).mono ?_
            rintro e w3 ⟨rfl, b3⟩
            go_wp2
            go_ret
            exact ⟨rfl, b3⟩
        · skip
          go_enter Try.func3, Try.ntmps3
          go_wp2
          go_ret
          exact ⟨rfl, Below.refl _ _⟩
    · skip
      go_enter Try.func3, Try.ntmps3
      go_wp2
      go_ret
      exact ⟨rfl, Below.refl _ _⟩

theorem Blk.elev {w : World} {g : Nat} {t : TypeId} {v0 v1 v2 v3 v4 v5 v6 v7 v8 v9 v10 : Value} (h : Blk w g t [v0, v1, v2, v3, v4, v5, v6, v7, v8, v9, v10]) :
    w.cell? ⟨g, 0, none⟩ = some v0 ∧ w.cell? ⟨g, 1, none⟩ = some v1 ∧ w.cell? ⟨g, 2, none⟩ = some v2 ∧ w.cell? ⟨g, 3, none⟩ = some v3 ∧ w.cell? ⟨g, 4, none⟩ = some v4 ∧ w.cell? ⟨g, 5, none⟩ = some v5 ∧ w.cell? ⟨g, 6, none⟩ = some v6 ∧ w.cell? ⟨g, 7, none⟩ = some v7 ∧ w.cell? ⟨g, 8, none⟩ = some v8 ∧ w.cell? ⟨g, 9, none⟩ = some v9 ∧ w.cell? ⟨g, 10, none⟩ = some v10 :=
  ⟨h.cell 0, h.cell 1, h.cell 2, h.cell 3, h.cell 4, h.cell 5, h.cell 6, h.cell 7, h.cell 8, h.cell 9, h.cell 10⟩

/-- Two blocks, known whole. -/
def TwoB (g1 : Nat) (t1 : TypeId) (c1 : List Value) (g2 : Nat) (t2 : TypeId) (c2 : List Value) (w : World) : Prop := Blk w g1 t1 c1 ∧ Blk w g2 t2 c2
theorem TwoB.keep {g1 : Nat} {t1 : TypeId} {c1 : List Value} {g2 : Nat} {t2 : TypeId} {c2 : List Value} {w w' : World} (h : TwoB g1 t1 c1 g2 t2 c2 w) (b : Below w.heap.size w w') : TwoB g1 t1 c1 g2 t2 c2 w' := And.intro (h.1.keep b) (h.2.keep b)
theorem TwoB.out {g1 : Nat} {t1 : TypeId} {c1 : List Value} {g2 : Nat} {t2 : TypeId} {c2 : List Value} {w w' : World} (h : TwoB g1 t1 c1 g2 t2 c2 w) {lo hi : Nat} (o : Oth lo hi w w') (h1 : hi ≤ g1) (h2 : hi ≤ g2) : TwoB g1 t1 c1 g2 t2 c2 w' := And.intro (h.1.out o (Or.inr h1)) (h.2.out o (Or.inr h2))

set_option maxRecDepth 100000 in
set_option maxHeartbeats 4000000 in
theorem does4_walk (x0 x1 : Int) (B : Option Addr) (len cap : Nat) (xs : Nat → SOp) (w : World) (h : ScrP w B len xs) :
    Calls Try.prog 3 #[.int .i64 x0, .int .i64 x1, .slice B len cap] w fun e w' => e = .returned (.bool true) ∧ Below w.heap.size w w' := by
  by_cases hbad : ¬ (0 ≤ x0 ∧ x0 ≤ 65536) ∨ ¬ (0 ≤ x1 ∧ x1 ≤ 65536)
  · exact does4_bad x0 x1 B len cap xs w h hbad
  have HF := hide (few4_any B len cap xs w h)
  have HS := hide h
  clear h
  cases t1 : decide (200 < x0)
  case true =>
    have t2 : decide (x0 ≤ 65536) = true := decide_eq_true (by omega)
    go_enter Try.func3, Try.ntmps3
    go_wp2
    go_ret
    exact ⟨rfl, Below.refl _ _⟩
  cases t3 : decide (200 < x1)
  case true =>
    have t4 : decide (x1 ≤ 65536) = true := decide_eq_true (by omega)
    go_enter Try.func3, Try.ntmps3
    go_wp2
    go_ret
    exact ⟨rfl, Below.refl _ _⟩
  obtain ⟨nb, rfl⟩ : ∃ m : Nat, x0 = (m : Int) := ⟨x0.toNat, by omega⟩
  obtain ⟨nw, rfl⟩ : ∃ m : Nat, x1 = (m : Int) := ⟨x1.toNat, by omega⟩
  have hnb : nb ≤ 200 := by simp at t1; omega
  have hnw : nw ≤ 200 := by simp at t3; omega
  clear hbad
  go_enter Try.func3, Try.ntmps3
  go_wp2_with fail
  refine HF.out.mono ?_
  rintro e w1 ⟨r, rfl, rfl, hr⟩
  cases r
  · clear hr
    go_wp2
    go_ret
    exact ⟨rfl, Below.refl _ _⟩
  obtain ⟨hlen, hns⟩ := hr rfl
  have HNS := hide hns
  clear hr hns HF t1 t3
  go_wp2_with fail
  refine (sNew_ok _ _ nb nw rfl rfl (by omega) (by omega) w).mono ?_
  rintro e w2 ⟨g, b, rfl, s2, b2⟩
  have S2 := hide s2
  have B2 := hide b2
  clear s2 b2
  go_wp2_with fail
  refine (rNew_ok _ _ nb nw rfl rfl (by omega) (by omega) w2).mono ?_
  rintro e w3 ⟨g2, b2, rfl, s3, b3⟩
  have X0 : Hid (BothS w2.heap.size g b w3.heap.size g2 b2 w (newR nb nw) w3) := hide ⟨S2.out.keep b3, s3, newR_well nb nw (by omega) (by omega), below_on B2.out b3⟩
  generalize w2.heap.size = hi at *
  generalize w3.heap.size = hi2 at *
  clear s3 b3 S2 B2
  go_wp2_with fail
  go_loopw [11] (fun x wr => ∃ (i : Nat) (R : Nat → List Int), i ≤ len ∧ x = .int .i64 (i : Int) ∧ BothS hi g b hi2 g2 b2 w R wr) (fun x _ => len - (intOf x).toNat)
  case atStart => exact ⟨0, _, by omega, rfl, X0.out⟩
  case round =>
    obtain ⟨i, R, hi', rfl, hX⟩ := hrel
    have HX := hide hX
    clear hX X0
    by_cases hlt : i < len
    · obtain ⟨bb, oo, rfl, hbl, hc, hrd⟩ := HS.out.at_ hlt
      have hn := HNS.out i hlt
      have hcc : ∀ j v, (xs i).cells[j]? = some v → wr.cell? ⟨bb, oo + (i * 11 + j), none⟩ = some v := fun j v hv => (HX.out.bel.cell (p := ⟨bb, oo + (i * 11 + j), none⟩) hbl).trans (hc j v hv)
      clear hc
      generalize xs i = X at *
      obtain ⟨call, kind, addr, value, f, a, c, A, n, k, t, an, o, vs⟩ := X
      simp only at hn hrd
      have c0 : wr.cell? ⟨bb, oo + i * 11, none⟩ = some (.int .i64 call) := hcc 0 _ rfl
      have c1 : wr.cell? ⟨bb, oo + i * 11 + 1, none⟩ = some (.int .i64 kind) := hcc 1 _ rfl
      have c2 : wr.cell? ⟨bb, oo + i * 11 + 2, none⟩ = some (.int .i64 addr) := hcc 2 _ rfl
      have c3 : wr.cell? ⟨bb, oo + i * 11 + 3, none⟩ = some (.int .i64 value) := hcc 3 _ rfl
      have c4 : wr.cell? ⟨bb, oo + i * 11 + 4, none⟩ = some (.int .i64 f) := hcc 4 _ rfl
      have c5 : wr.cell? ⟨bb, oo + i * 11 + 5, none⟩ = some (.int .i64 a) := hcc 5 _ rfl
      have c6 : wr.cell? ⟨bb, oo + i * 11 + 6, none⟩ = some (.int .i64 c) := hcc 6 _ rfl
      have c7 : wr.cell? ⟨bb, oo + i * 11 + 7, none⟩ = some (.slice A n k) := hcc 7 _ rfl
      have c8 : wr.cell? ⟨bb, oo + i * 11 + 8, none⟩ = some (.int .i64 t) := hcc 8 _ rfl
      have c9 : wr.cell? ⟨bb, oo + i * 11 + 9, none⟩ = some (.int .i64 an) := hcc 9 _ rfl
      have c10 : wr.cell? ⟨bb, oo + i * 11 + 10, none⟩ = some (.int .i64 o) := hcc 10 _ rfl
      have q : (i : Int) < (len : Int) := by omega
      have HRD := hide hrd
      clear hcc hrd
      by_cases h0 : call = 0
      · subst h0
        go_wp2_with fail
        generalize hV : wr.alloc _ = V
        obtain ⟨zV, bV⟩ := box1 wr 36 [.int .i64 0, .int .i64 kind, .int .i64 addr, .int .i64 value, .int .i64 f, .int .i64 a, .int .i64 c, .slice A n k, .int .i64 t, .int .i64 an, .int .i64 o] V hV.symm
        have Z1 := hide zV
        have HY := hide (HX.out.on bV)
        have G12 := hide (HX.out.hi12)
        clear hV zV bV c0 c1 c2 c3 c4 c5 c6 c7 c8 c9 c10
        cases hM : mayB f a c vs t an o
        · refine (sDo_no g f a c t an o A n k vs V (HRD.out.keep HY.out.bel) (by omega) hM).mono ?_
          rintro e w4 ⟨rfl, b4⟩
          have HY4 := hide (HY.out.on b4)
          have Z4 := hide (Z1.out.keep b4)
          clear b4
          obtain ⟨e0, e1, e2, e3, e4, e5, e6, e7, e8, e9, e10⟩ := Z4.out.elev
          have zlt := Z4.out.lt
          go_wp2_with fail
          clear e0 e1 e2 e3 e4 e5 e6 e7 e8 e9 e10 zlt
          generalize hV : w4.alloc _ = V4
          obtain ⟨zV, bV⟩ := box2 w4 _ _ _ V4 hV.symm
          have Z13 := hide zV
          have HY5 := hide (HY4.out.on bV)
          clear hV zV bV
          have hMay := refMay_any f a c t an o A n k vs V4 (HRD.out.keep HY5.out.bel) (by omega)
          rw [hM] at hMay
          refine hMay.mono ?_
          rintro e w5 ⟨rfl, b5⟩
          have HY6 := hide (HY5.out.on b5)
          have Z15 := hide (Z13.out.keep b5)
          clear b5 hMay hM
          obtain ⟨j0, j1⟩ := Z15.out.two
          go_wp2_with fail
          refine (ansSame_yes 0 none none 0 0 0 0 [] _ (Rd.nil _ _) (Rd.nil _ _) (by omega)).mono ?_
          rintro e w6 ⟨rfl, b6⟩
          have HY7 := hide (HY6.out.on b6)
          clear b6 j0 j1
          go_wp2_with fail
          go_roundw
          case rel => exact ⟨i + 1, R, by omega, by go_num, HY7.out⟩
          case measure => simp [intOf]; omega
        · have hl : vs.length = n := by rw [← iv_length]; exact HRD.out.1
          have HD := hide (fun W h hr hA => rDo_any hi hi2 g2 b2 R f a c t an o A n k vs W h HY.out.well hr hA (by omega) hM)
          unfold RetRDo at HD
          rw [hl] at HD
          have HWL := hide (well_do HY.out.well hM)
          have HVL := hide (doV_len (R := R) hM)
          have hOut : 0 < n → OutA hi hi2 A := fun h0 b' o' e' => by
            obtain ⟨bq, oq, eq, hq, _⟩ := HRD.out.2 h0
            rw [eq] at e'
            injection e' with e'
            injection e' with e1 _ _
            have := G12.out
            exact Or.inl (by omega)
          have HOUT := hide hOut
          refine (sDo_ok _ _ g b R f a c t an o A n k vs V HY.out.s HY.out.well (HRD.out.keep HY.out.bel) (by omega) hM).mono ?_
          rintro e w4 ⟨C4, m4, rfl, lm, rC, nC, s4, o4⟩
          generalize doC R f a c n t = cd at *
          generalize doV R f a c vs t an o = VV at *
          generalize doR R f a c vs t an o = RR at *
          have gV := Z1.out.lt
          have S4 := hide s4
          have T4 := hide (HY.out.r.out o4 (Or.inr (Nat.le_refl _)))
          have B4 := hide (below_out HY.out.bel o4 (Nat.le_refl _) HY.out.bel.size)
          have Z4 := hide (Z1.out.out o4 (Or.inr (by have := G12.out; omega)))
          have RC4 := hide rC
          have NC4 : Hid (∀ b' o', C4 = some ⟨b', o', none⟩ → hi2 ≤ b') := hide (fun b' o' e' => by have := nC b' o' e'; have := G12.out; omega)
          have G4 : Hid (hi2 ≤ w4.heap.size) := hide (by have := G12.out; have := o4.size; omega)
          clear lm rC nC s4 o4 hl hOut gV
          obtain ⟨e0, e1, e2, e3, e4, e5, e6, e7, e8, e9, e10⟩ := Z4.out.elev
          have zlt := Z4.out.lt
          go_wp2_with fail
          clear e0 e1 e2 e3 e4 e5 e6 e7 e8 e9 e10 zlt
          generalize hV : w4.alloc _ = V4
          obtain ⟨zV, bV⟩ := box2 w4 _ _ _ V4 hV.symm
          have hMay := refMay_any f a c t an o A n k vs V4 (HRD.out.keep (below_on B4.out bV)) (by omega)
          rw [hM] at hMay
          refine hMay.mono ?_
          rintro e w5 ⟨rfl, b5⟩
          have b6 : Below w4.heap.size w4 w5.drew := below_on (below_on bV b5) (Below.refl _ _).drew
          have S6 := hide (S4.out.keep b6)
          have T6 := hide (T4.out.keep b6)
          have B6 := hide (below_on B4.out b6)
          have R6 := hide (RC4.out.keep b6)
          have W6 : Hid (TwoB wr.heap.size 36 [.int .i64 0, .int .i64 kind, .int .i64 addr, .int .i64 value, .int .i64 f, .int .i64 a, .int .i64 c, .slice A n k, .int .i64 t, .int .i64 an, .int .i64 o] w4.heap.size 38 [.slice C4 VV.length m4, .int .i64 cd] w5.drew) := hide (And.intro (Z4.out.keep b6) ((zV.keep b5).keep (Below.refl _ _).drew))
          clear b6 b5 bV zV hV hMay hM S4 T4 B4 RC4 Z4 Z1 HY
          generalize hp13 : w4.heap.size = p13 at *
          generalize hp12 : wr.heap.size = p12 at *
          have P13 := hide hp13
          have P12 := hide hp12
          clear hp13 hp12
          have f4 : ∀ w', TwoB p12 36 [.int .i64 0, .int .i64 kind, .int .i64 addr, .int .i64 value, .int .i64 f, .int .i64 a, .int .i64 c, .slice A n k, .int .i64 t, .int .i64 an, .int .i64 o] p13 38 [.slice C4 VV.length m4, .int .i64 cd] w' → w'.cell? ⟨p12, 4, none⟩ = some (.int .i64 f) := fun w' h => h.1.cell 4
          have f5 : ∀ w', TwoB p12 36 [.int .i64 0, .int .i64 kind, .int .i64 addr, .int .i64 value, .int .i64 f, .int .i64 a, .int .i64 c, .slice A n k, .int .i64 t, .int .i64 an, .int .i64 o] p13 38 [.slice C4 VV.length m4, .int .i64 cd] w' → w'.cell? ⟨p12, 5, none⟩ = some (.int .i64 a) := fun w' h => h.1.cell 5
          have f6 : ∀ w', TwoB p12 36 [.int .i64 0, .int .i64 kind, .int .i64 addr, .int .i64 value, .int .i64 f, .int .i64 a, .int .i64 c, .slice A n k, .int .i64 t, .int .i64 an, .int .i64 o] p13 38 [.slice C4 VV.length m4, .int .i64 cd] w' → w'.cell? ⟨p12, 6, none⟩ = some (.int .i64 c) := fun w' h => h.1.cell 6
          have f7 : ∀ w', TwoB p12 36 [.int .i64 0, .int .i64 kind, .int .i64 addr, .int .i64 value, .int .i64 f, .int .i64 a, .int .i64 c, .slice A n k, .int .i64 t, .int .i64 an, .int .i64 o] p13 38 [.slice C4 VV.length m4, .int .i64 cd] w' → w'.cell? ⟨p12, 7, none⟩ = some (.slice A n k) := fun w' h => h.1.cell 7
          have f8 : ∀ w', TwoB p12 36 [.int .i64 0, .int .i64 kind, .int .i64 addr, .int .i64 value, .int .i64 f, .int .i64 a, .int .i64 c, .slice A n k, .int .i64 t, .int .i64 an, .int .i64 o] p13 38 [.slice C4 VV.length m4, .int .i64 cd] w' → w'.cell? ⟨p12, 8, none⟩ = some (.int .i64 t) := fun w' h => h.1.cell 8
          have f9 : ∀ w', TwoB p12 36 [.int .i64 0, .int .i64 kind, .int .i64 addr, .int .i64 value, .int .i64 f, .int .i64 a, .int .i64 c, .slice A n k, .int .i64 t, .int .i64 an, .int .i64 o] p13 38 [.slice C4 VV.length m4, .int .i64 cd] w' → w'.cell? ⟨p12, 9, none⟩ = some (.int .i64 an) := fun w' h => h.1.cell 9
          have f10 : ∀ w', TwoB p12 36 [.int .i64 0, .int .i64 kind, .int .i64 addr, .int .i64 value, .int .i64 f, .int .i64 a, .int .i64 c, .slice A n k, .int .i64 t, .int .i64 an, .int .i64 o] p13 38 [.slice C4 VV.length m4, .int .i64 cd] w' → w'.cell? ⟨p12, 10, none⟩ = some (.int .i64 o) := fun w' h => h.1.cell 10
          have a0 : ∀ w', TwoB p12 36 [.int .i64 0, .int .i64 kind, .int .i64 addr, .int .i64 value, .int .i64 f, .int .i64 a, .int .i64 c, .slice A n k, .int .i64 t, .int .i64 an, .int .i64 o] p13 38 [.slice C4 VV.length m4, .int .i64 cd] w' → w'.cell? ⟨p13, 0, none⟩ = some (.slice C4 VV.length m4) := fun w' h => h.2.cell 0
          have a1 : ∀ w', TwoB p12 36 [.int .i64 0, .int .i64 kind, .int .i64 addr, .int .i64 value, .int .i64 f, .int .i64 a, .int .i64 c, .slice A n k, .int .i64 t, .int .i64 an, .int .i64 o] p13 38 [.slice C4 VV.length m4, .int .i64 cd] w' → w'.cell? ⟨p13, 1, none⟩ = some (.int .i64 cd) := fun w' h => h.2.cell 1
          go_wp2_with fail
          refine wp_region_held_drew (S := fun w' => TwoB p12 36 [.int .i64 0, .int .i64 kind, .int .i64 addr, .int .i64 value, .int .i64 f, .int .i64 a, .int .i64 c, .slice A n k, .int .i64 t, .int .i64 an, .int .i64 o] p13 38 [.slice C4 VV.length m4, .int .i64 cd] w') (by kernel_rfl) ?_ (fun hHeld => ?_)
          · exact W6.out
          refine wpAnyH_take (i := 0) (oi := { dst := some 148, op := _, type := _, pos := _, after := _, guard := _ }) (v := ?v1x1) rfl (by kernel_rfl) (by kernel_rfl) (by kernel_rfl) (fun _ _ _ h => h) (Or.inl ⟨by rfl, ?hy1x1⟩) hHeld ?rest1x1
          case hy1x1 => (intro w hSw; go_simp <;> with_reducible rfl)
          try simp only [Act.put, List.setIfInBounds_toArray, List.set_cons_zero, List.set_cons_succ]
          refine wpAnyH_take (i := 1) (oi := { dst := some 149, op := _, type := _, pos := _, after := _, guard := _ }) (v := ?v1x2) rfl (by kernel_rfl) (by kernel_rfl) (by kernel_rfl) (fun _ _ _ h => h) (Or.inl ⟨by rfl, ?hy1x2⟩) hHeld ?rest1x2
          case hy1x2 => (intro w hSw; go_simp <;> with_reducible rfl)
          try simp only [Act.put, List.setIfInBounds_toArray, List.set_cons_zero, List.set_cons_succ]
          refine wpAnyH_take (i := 2) (oi := { dst := some 150, op := _, type := _, pos := _, after := _, guard := _ }) (v := ?v1x3) rfl (by kernel_rfl) (by kernel_rfl) (by kernel_rfl) (fun _ _ _ h => h) (Or.inl ⟨by rfl, ?hy1x3⟩) hHeld ?rest1x3
          case hy1x3 => (intro w hSw; go_simp <;> with_reducible rfl)
          try simp only [Act.put, List.setIfInBounds_toArray, List.set_cons_zero, List.set_cons_succ]
          refine wpAnyH_take (i := 3) (oi := { dst := some 151, op := _, type := _, pos := _, after := _, guard := _ }) (v := ?v1x4) rfl (by kernel_rfl) (by kernel_rfl) (by kernel_rfl) (fun _ _ _ h => h) (Or.inl ⟨by rfl, ?hy1x4⟩) hHeld ?rest1x4
          case hy1x4 => (intro w hSw; go_simp <;> with_reducible rfl)
          try simp only [Act.put, List.setIfInBounds_toArray, List.set_cons_zero, List.set_cons_succ]
          refine wpAnyH_take (i := 4) (oi := { dst := some 152, op := _, type := _, pos := _, after := _, guard := _ }) (v := ?v1x5) rfl (by kernel_rfl) (by kernel_rfl) (by kernel_rfl) (fun _ _ _ h => h) (Or.inl ⟨by rfl, ?hy1x5⟩) hHeld ?rest1x5
          case hy1x5 => (intro w hSw; go_simp <;> with_reducible rfl)
          try simp only [Act.put, List.setIfInBounds_toArray, List.set_cons_zero, List.set_cons_succ]
          refine wpAnyH_take (i := 5) (oi := { dst := some 153, op := _, type := _, pos := _, after := _, guard := _ }) (v := ?v1x6) rfl (by kernel_rfl) (by kernel_rfl) (by kernel_rfl) (fun _ _ _ h => h) (Or.inl ⟨by rfl, ?hy1x6⟩) hHeld ?rest1x6
          case hy1x6 => (intro w hSw; go_simp <;> with_reducible rfl)
          try simp only [Act.put, List.setIfInBounds_toArray, List.set_cons_zero, List.set_cons_succ]
          refine wpAnyH_take (i := 6) (oi := { dst := some 154, op := _, type := _, pos := _, after := _, guard := _ }) (v := ?v1x7) rfl (by kernel_rfl) (by kernel_rfl) (by kernel_rfl) (fun _ _ _ h => h) (Or.inl ⟨by rfl, ?hy1x7⟩) hHeld ?rest1x7
          case hy1x7 => (intro w hSw; go_simp <;> with_reducible rfl)
          try simp only [Act.put, List.setIfInBounds_toArray, List.set_cons_zero, List.set_cons_succ]
          refine wpAnyH_ready (rs := [7]) (by kernel_rfl) (by simp) (AllReadyH.cons (o := { dst := some 155, op := _, type := _, pos := _, after := _, guard := _ }) rfl (fun K hK => ?_) AllReadyH.nil)
          go_simp
          refine (HD.out _ T6.out (HRD.out.keep B6.out) HOUT.out).mono ?_
          rintro e U ⟨C5, m5, rfl, lm5, rC5, nC5, s5, o5⟩
          have S7 := hide (S6.out.out o5 (Or.inl (Nat.le_refl _)))
          have T7 := hide s5
          have B7 := hide (below_out B6.out o5 (by have := G12.out; omega) B6.out.size)
          have R7 := hide (R6.out.out o5 (fun b' o' e' => Or.inr (NC4.out b' o' e')))
          have Q7 := hide rC5
          have W7 := hide (W6.out.out o5 (by have := G12.out; have := P12.out; omega) (by have := G4.out; have := P13.out; omega))
          clear lm5 rC5 nC5 s5 o5
          go_wp2_with fail
          refine hK.out _ _ ?_ (fun hHeld => ?_)
          · exact W7.out
          clear hK K
          try simp only [Act.put, List.setIfInBounds_toArray, List.set_cons_zero, List.set_cons_succ]
          refine wpAnyH_ready (rs := [8]) (by kernel_rfl) (by simp) (AllReadyH.cons (o := { dst := some 156, op := _, type := _, pos := _, after := _, guard := _ }) rfl (fun K hK => ?_) AllReadyH.nil)
          go_simp
          refine (ansSame_yes cd C4 C5 VV.length VV.length m4 m5 VV U R7.out Q7.out HVL.out).mono ?_
          rintro e U2 ⟨rfl, b8⟩
          have X8 : Hid (BothS hi g b hi2 g2 b2 w RR U2) := hide ⟨S7.out.keep b8, T7.out.keep b8, HWL.out, below_on B7.out b8⟩
          have W8 := hide (W7.out.keep b8)
          clear b8
          go_wp2_with fail
          refine hK.out _ _ ?_ (fun hHeld => ?_)
          · exact W8.out
          clear hK K
          try simp only [Act.put, List.setIfInBounds_toArray, List.set_cons_zero, List.set_cons_succ]
          refine wpAnyH_take (i := 9) (oi := { dst := some 157, op := _, type := _, pos := _, after := _, guard := _ }) (v := ?v1x10) rfl (by kernel_rfl) (by kernel_rfl) (by kernel_rfl) (fun _ _ _ h => h) (Or.inl ⟨by rfl, ?hy1x10⟩) hHeld ?rest1x10
          case hy1x10 => (intro w hSw; go_simp <;> with_reducible rfl)
          try simp only [Act.put, List.setIfInBounds_toArray, List.set_cons_zero, List.set_cons_succ]
          refine wpAnyH_take (i := 10) (oi := { dst := some 158, op := _, type := _, pos := _, after := _, guard := _ }) (v := ?v1x11) rfl (by kernel_rfl) (by kernel_rfl) (by kernel_rfl) (fun _ _ _ h => h) (Or.inl ⟨by rfl, ?hy1x11⟩) hHeld ?rest1x11
          case hy1x11 => (intro w hSw; go_simp <;> with_reducible rfl)
          try simp only [Act.put, List.setIfInBounds_toArray, List.set_cons_zero, List.set_cons_succ]
          refine wpAnyH_done (by kernel_rfl) ?_ _
          go_wp2_with fail
          go_roundw
          case rel => exact ⟨i + 1, RR, by omega, by go_num, X8.out⟩
          case measure => simp [intOf]; omega
      by_cases h1 : call = 1
      · subst h1
        go_wp2_with fail
        generalize hV : wr.alloc _ = V
        obtain ⟨zV, bV⟩ := box1 wr 36 [.int .i64 1, .int .i64 kind, .int .i64 addr, .int .i64 value, .int .i64 f, .int .i64 a, .int .i64 c, .slice A n k, .int .i64 t, .int .i64 an, .int .i64 o] V hV.symm
        have Z1 := hide zV
        have HY := hide (HX.out.on bV)
        have G12 := hide (HX.out.hi12)
        clear hV zV bV c0 c1 c2 c3 c4 c5 c6 c7 c8 c9 c10
        generalize hp12 : wr.heap.size = p12 at *
        have P12 := hide hp12
        clear hp12
        have f1 : ∀ w', Blk w' p12 36 [.int .i64 1, .int .i64 kind, .int .i64 addr, .int .i64 value, .int .i64 f, .int .i64 a, .int .i64 c, .slice A n k, .int .i64 t, .int .i64 an, .int .i64 o] → w'.cell? ⟨p12, 1, none⟩ = some (.int .i64 kind) := fun w' h => h.cell 1
        have f2 : ∀ w', Blk w' p12 36 [.int .i64 1, .int .i64 kind, .int .i64 addr, .int .i64 value, .int .i64 f, .int .i64 a, .int .i64 c, .slice A n k, .int .i64 t, .int .i64 an, .int .i64 o] → w'.cell? ⟨p12, 2, none⟩ = some (.int .i64 addr) := fun w' h => h.cell 2
        have f3 : ∀ w', Blk w' p12 36 [.int .i64 1, .int .i64 kind, .int .i64 addr, .int .i64 value, .int .i64 f, .int .i64 a, .int .i64 c, .slice A n k, .int .i64 t, .int .i64 an, .int .i64 o] → w'.cell? ⟨p12, 3, none⟩ = some (.int .i64 value) := fun w' h => h.cell 3
        have bD : Below V.heap.size V V.drew := (Below.refl _ _).drew
        have HY4 := hide (HY.out.on bD)
        have Z4 := hide (Z1.out.keep bD)
        clear bD
        cases hB : setB R kind addr value
        · skip
          refine wp_region_held_drew (S := fun w' => Blk w' p12 36 [.int .i64 1, .int .i64 kind, .int .i64 addr, .int .i64 value, .int .i64 f, .int .i64 a, .int .i64 c, .slice A n k, .int .i64 t, .int .i64 an, .int .i64 o]) (by kernel_rfl) ?_ (fun hHeld => ?_)
          · exact Z4.out
          refine wpAnyH_take (i := 0) (oi := { dst := some 161, op := _, type := _, pos := _, after := _, guard := _ }) (v := ?v2x1) rfl (by kernel_rfl) (by kernel_rfl) (by kernel_rfl) (fun _ _ _ h => h) (Or.inl ⟨by rfl, ?hy2x1⟩) hHeld ?rest2x1
          case hy2x1 => (intro w hSw; go_simp <;> with_reducible rfl)
          try simp only [Act.put, List.setIfInBounds_toArray, List.set_cons_zero, List.set_cons_succ]
          refine wpAnyH_take (i := 1) (oi := { dst := some 162, op := _, type := _, pos := _, after := _, guard := _ }) (v := ?v2x2) rfl (by kernel_rfl) (by kernel_rfl) (by kernel_rfl) (fun _ _ _ h => h) (Or.inl ⟨by rfl, ?hy2x2⟩) hHeld ?rest2x2
          case hy2x2 => (intro w hSw; go_simp <;> with_reducible rfl)
          try simp only [Act.put, List.setIfInBounds_toArray, List.set_cons_zero, List.set_cons_succ]
          refine wpAnyH_take (i := 2) (oi := { dst := some 163, op := _, type := _, pos := _, after := _, guard := _ }) (v := ?v2x3) rfl (by kernel_rfl) (by kernel_rfl) (by kernel_rfl) (fun _ _ _ h => h) (Or.inl ⟨by rfl, ?hy2x3⟩) hHeld ?rest2x3
          case hy2x3 => (intro w hSw; go_simp <;> with_reducible rfl)
          try simp only [Act.put, List.setIfInBounds_toArray, List.set_cons_zero, List.set_cons_succ]
          refine wpAnyH_take (i := 3) (oi := { dst := some 164, op := _, type := _, pos := _, after := _, guard := _ }) (v := ?v2x4) rfl (by kernel_rfl) (by kernel_rfl) (by kernel_rfl) (fun _ _ _ h => h) (Or.inl ⟨by rfl, ?hy2x4⟩) hHeld ?rest2x4
          case hy2x4 => (intro w hSw; go_simp <;> with_reducible rfl)
          try simp only [Act.put, List.setIfInBounds_toArray, List.set_cons_zero, List.set_cons_succ]
          refine wpAnyH_take (i := 4) (oi := { dst := some 165, op := _, type := _, pos := _, after := _, guard := _ }) (v := ?v2x5) rfl (by kernel_rfl) (by kernel_rfl) (by kernel_rfl) (fun _ _ _ h => h) (Or.inl ⟨by rfl, ?hy2x5⟩) hHeld ?rest2x5
          case hy2x5 => (intro w hSw; go_simp <;> with_reducible rfl)
          try simp only [Act.put, List.setIfInBounds_toArray, List.set_cons_zero, List.set_cons_succ]
          refine wpAnyH_take (i := 5) (oi := { dst := some 166, op := _, type := _, pos := _, after := _, guard := _ }) (v := ?v2x6) rfl (by kernel_rfl) (by kernel_rfl) (by kernel_rfl) (fun _ _ _ h => h) (Or.inl ⟨by rfl, ?hy2x6⟩) hHeld ?rest2x6
          case hy2x6 => (intro w hSw; go_simp <;> with_reducible rfl)
          try simp only [Act.put, List.setIfInBounds_toArray, List.set_cons_zero, List.set_cons_succ]
          refine wpAnyH_take (i := 6) (oi := { dst := some 167, op := _, type := _, pos := _, after := _, guard := _ }) (v := ?v2x7) rfl (by kernel_rfl) (by kernel_rfl) (by kernel_rfl) (fun _ _ _ h => h) (Or.inl ⟨by rfl, ?hy2x7⟩) hHeld ?rest2x7
          case hy2x7 => (intro w hSw; go_simp <;> with_reducible rfl)
          try simp only [Act.put, List.setIfInBounds_toArray, List.set_cons_zero, List.set_cons_succ]
          refine wpAnyH_take (i := 8) (oi := { dst := some 169, op := _, type := _, pos := _, after := _, guard := _ }) (v := ?v2x8) rfl (by kernel_rfl) (by kernel_rfl) (by kernel_rfl) (fun _ _ _ h => h) (Or.inl ⟨by rfl, ?hy2x8⟩) hHeld ?rest2x8
          case hy2x8 => (intro w hSw; go_simp <;> with_reducible rfl)
          try simp only [Act.put, List.setIfInBounds_toArray, List.set_cons_zero, List.set_cons_succ]
          refine wpAnyH_take (i := 9) (oi := { dst := some 170, op := _, type := _, pos := _, after := _, guard := _ }) (v := ?v2x9) rfl (by kernel_rfl) (by kernel_rfl) (by kernel_rfl) (fun _ _ _ h => h) (Or.inl ⟨by rfl, ?hy2x9⟩) hHeld ?rest2x9
          case hy2x9 => (intro w hSw; go_simp <;> with_reducible rfl)
          try simp only [Act.put, List.setIfInBounds_toArray, List.set_cons_zero, List.set_cons_succ]
          refine wpAnyH_take (i := 10) (oi := { dst := some 171, op := _, type := _, pos := _, after := _, guard := _ }) (v := ?v2x10) rfl (by kernel_rfl) (by kernel_rfl) (by kernel_rfl) (fun _ _ _ h => h) (Or.inl ⟨by rfl, ?hy2x10⟩) hHeld ?rest2x10
          case hy2x10 => (intro w hSw; go_simp <;> with_reducible rfl)
          try simp only [Act.put, List.setIfInBounds_toArray, List.set_cons_zero, List.set_cons_succ]
          refine wpAnyH_take (i := 11) (oi := { dst := some 172, op := _, type := _, pos := _, after := _, guard := _ }) (v := ?v2x11) rfl (by kernel_rfl) (by kernel_rfl) (by kernel_rfl) (fun _ _ _ h => h) (Or.inl ⟨by rfl, ?hy2x11⟩) hHeld ?rest2x11
          case hy2x11 => (intro w hSw; go_simp <;> with_reducible rfl)
          try simp only [Act.put, List.setIfInBounds_toArray, List.set_cons_zero, List.set_cons_succ]
          refine wpAnyH_take (i := 12) (oi := { dst := some 173, op := _, type := _, pos := _, after := _, guard := _ }) (v := ?v2x12) rfl (by kernel_rfl) (by kernel_rfl) (by kernel_rfl) (fun _ _ _ h => h) (Or.inl ⟨by rfl, ?hy2x12⟩) hHeld ?rest2x12
          case hy2x12 => (intro w hSw; go_simp <;> with_reducible rfl)
          try simp only [Act.put, List.setIfInBounds_toArray, List.set_cons_zero, List.set_cons_succ]
          refine wpAnyH_take (i := 13) (oi := { dst := some 174, op := _, type := _, pos := _, after := _, guard := _ }) (v := ?v2x13) rfl (by kernel_rfl) (by kernel_rfl) (by kernel_rfl) (fun _ _ _ h => h) (Or.inl ⟨by rfl, ?hy2x13⟩) hHeld ?rest2x13
          case hy2x13 => (intro w hSw; go_simp <;> with_reducible rfl)
          try simp only [Act.put, List.setIfInBounds_toArray, List.set_cons_zero, List.set_cons_succ]
          refine wpAnyH_take (i := 14) (oi := { dst := some 175, op := _, type := _, pos := _, after := _, guard := _ }) (v := ?v2x14) rfl (by kernel_rfl) (by kernel_rfl) (by kernel_rfl) (fun _ _ _ h => h) (Or.inl ⟨by rfl, ?hy2x14⟩) hHeld ?rest2x14
          case hy2x14 => (intro w hSw; go_simp <;> with_reducible rfl)
          try simp only [Act.put, List.setIfInBounds_toArray, List.set_cons_zero, List.set_cons_succ]
          refine wpAnyH_ready (rs := [7]) (by kernel_rfl) (by simp) (AllReadyH.cons (o := { dst := some 168, op := _, type := _, pos := _, after := _, guard := _ }) rfl (fun K hK => ?_) AllReadyH.nil)
          go_simp
          refine (sSet_no _ _ g b R kind addr value _ HY4.out.s HY4.out.well hB).mono ?_
          rintro e U ⟨rfl, bU⟩
          have HY5 := hide (HY4.out.on bU)
          have Z5 := hide (Z4.out.keep bU)
          clear bU
          go_wp2_with fail
          refine hK.out _ _ ?_ (fun hHeld => ?_)
          · exact Z5.out
          clear hK K
          try simp only [Act.put, List.setIfInBounds_toArray, List.set_cons_zero, List.set_cons_succ]
          refine wpAnyH_ready (rs := [15]) (by kernel_rfl) (by simp) (AllReadyH.cons (o := { dst := some 176, op := _, type := _, pos := _, after := _, guard := _ }) rfl (fun K hK => ?_) AllReadyH.nil)
          go_simp
          refine (rSet_no _ _ g2 b2 R kind addr value _ HY5.out.r hB).mono ?_
          rintro e U2 ⟨rfl, rfl⟩
          go_wp2_with fail
          refine hK.out _ _ ?_ (fun hHeld => ?_)
          · exact Z5.out
          clear hK K
          try simp only [Act.put, List.setIfInBounds_toArray, List.set_cons_zero, List.set_cons_succ]
          refine wpAnyH_take (i := 16) (oi := { dst := some 177, op := _, type := _, pos := _, after := _, guard := _ }) (v := ?v2x17) rfl (by kernel_rfl) (by kernel_rfl) (by kernel_rfl) (fun _ _ _ h => h) (Or.inl ⟨by rfl, ?hy2x17⟩) hHeld ?rest2x17
          case hy2x17 => (intro w hSw; go_simp <;> with_reducible rfl)
          try simp only [Act.put, List.setIfInBounds_toArray, List.set_cons_zero, List.set_cons_succ]
          refine wpAnyH_done (by kernel_rfl) ?_ _
          go_wp2_with fail
          go_roundw
          case rel => exact ⟨i + 1, R, by omega, by go_num, HY5.out⟩
          case measure => simp [intOf]; omega
        · skip
          refine wp_region_held_drew (S := fun w' => Blk w' p12 36 [.int .i64 1, .int .i64 kind, .int .i64 addr, .int .i64 value, .int .i64 f, .int .i64 a, .int .i64 c, .slice A n k, .int .i64 t, .int .i64 an, .int .i64 o]) (by kernel_rfl) ?_ (fun hHeld => ?_)
          · exact Z4.out
          refine wpAnyH_take (i := 0) (oi := { dst := some 161, op := _, type := _, pos := _, after := _, guard := _ }) (v := ?v3x1) rfl (by kernel_rfl) (by kernel_rfl) (by kernel_rfl) (fun _ _ _ h => h) (Or.inl ⟨by rfl, ?hy3x1⟩) hHeld ?rest3x1
          case hy3x1 => (intro w hSw; go_simp <;> with_reducible rfl)
          try simp only [Act.put, List.setIfInBounds_toArray, List.set_cons_zero, List.set_cons_succ]
          refine wpAnyH_take (i := 1) (oi := { dst := some 162, op := _, type := _, pos := _, after := _, guard := _ }) (v := ?v3x2) rfl (by kernel_rfl) (by kernel_rfl) (by kernel_rfl) (fun _ _ _ h => h) (Or.inl ⟨by rfl, ?hy3x2⟩) hHeld ?rest3x2
          case hy3x2 => (intro w hSw; go_simp <;> with_reducible rfl)
          try simp only [Act.put, List.setIfInBounds_toArray, List.set_cons_zero, List.set_cons_succ]
          refine wpAnyH_take (i := 2) (oi := { dst := some 163, op := _, type := _, pos := _, after := _, guard := _ }) (v := ?v3x3) rfl (by kernel_rfl) (by kernel_rfl) (by kernel_rfl) (fun _ _ _ h => h) (Or.inl ⟨by rfl, ?hy3x3⟩) hHeld ?rest3x3
          case hy3x3 => (intro w hSw; go_simp <;> with_reducible rfl)
          try simp only [Act.put, List.setIfInBounds_toArray, List.set_cons_zero, List.set_cons_succ]
          refine wpAnyH_take (i := 3) (oi := { dst := some 164, op := _, type := _, pos := _, after := _, guard := _ }) (v := ?v3x4) rfl (by kernel_rfl) (by kernel_rfl) (by kernel_rfl) (fun _ _ _ h => h) (Or.inl ⟨by rfl, ?hy3x4⟩) hHeld ?rest3x4
          case hy3x4 => (intro w hSw; go_simp <;> with_reducible rfl)
          try simp only [Act.put, List.setIfInBounds_toArray, List.set_cons_zero, List.set_cons_succ]
          refine wpAnyH_take (i := 4) (oi := { dst := some 165, op := _, type := _, pos := _, after := _, guard := _ }) (v := ?v3x5) rfl (by kernel_rfl) (by kernel_rfl) (by kernel_rfl) (fun _ _ _ h => h) (Or.inl ⟨by rfl, ?hy3x5⟩) hHeld ?rest3x5
          case hy3x5 => (intro w hSw; go_simp <;> with_reducible rfl)
          try simp only [Act.put, List.setIfInBounds_toArray, List.set_cons_zero, List.set_cons_succ]
          refine wpAnyH_take (i := 5) (oi := { dst := some 166, op := _, type := _, pos := _, after := _, guard := _ }) (v := ?v3x6) rfl (by kernel_rfl) (by kernel_rfl) (by kernel_rfl) (fun _ _ _ h => h) (Or.inl ⟨by rfl, ?hy3x6⟩) hHeld ?rest3x6
          case hy3x6 => (intro w hSw; go_simp <;> with_reducible rfl)
          try simp only [Act.put, List.setIfInBounds_toArray, List.set_cons_zero, List.set_cons_succ]
          refine wpAnyH_take (i := 6) (oi := { dst := some 167, op := _, type := _, pos := _, after := _, guard := _ }) (v := ?v3x7) rfl (by kernel_rfl) (by kernel_rfl) (by kernel_rfl) (fun _ _ _ h => h) (Or.inl ⟨by rfl, ?hy3x7⟩) hHeld ?rest3x7
          case hy3x7 => (intro w hSw; go_simp <;> with_reducible rfl)
          try simp only [Act.put, List.setIfInBounds_toArray, List.set_cons_zero, List.set_cons_succ]
          refine wpAnyH_take (i := 8) (oi := { dst := some 169, op := _, type := _, pos := _, after := _, guard := _ }) (v := ?v3x8) rfl (by kernel_rfl) (by kernel_rfl) (by kernel_rfl) (fun _ _ _ h => h) (Or.inl ⟨by rfl, ?hy3x8⟩) hHeld ?rest3x8
          case hy3x8 => (intro w hSw; go_simp <;> with_reducible rfl)
          try simp only [Act.put, List.setIfInBounds_toArray, List.set_cons_zero, List.set_cons_succ]
          refine wpAnyH_take (i := 9) (oi := { dst := some 170, op := _, type := _, pos := _, after := _, guard := _ }) (v := ?v3x9) rfl (by kernel_rfl) (by kernel_rfl) (by kernel_rfl) (fun _ _ _ h => h) (Or.inl ⟨by rfl, ?hy3x9⟩) hHeld ?rest3x9
          case hy3x9 => (intro w hSw; go_simp <;> with_reducible rfl)
          try simp only [Act.put, List.setIfInBounds_toArray, List.set_cons_zero, List.set_cons_succ]
          refine wpAnyH_take (i := 10) (oi := { dst := some 171, op := _, type := _, pos := _, after := _, guard := _ }) (v := ?v3x10) rfl (by kernel_rfl) (by kernel_rfl) (by kernel_rfl) (fun _ _ _ h => h) (Or.inl ⟨by rfl, ?hy3x10⟩) hHeld ?rest3x10
          case hy3x10 => (intro w hSw; go_simp <;> with_reducible rfl)
          try simp only [Act.put, List.setIfInBounds_toArray, List.set_cons_zero, List.set_cons_succ]
          refine wpAnyH_take (i := 11) (oi := { dst := some 172, op := _, type := _, pos := _, after := _, guard := _ }) (v := ?v3x11) rfl (by kernel_rfl) (by kernel_rfl) (by kernel_rfl) (fun _ _ _ h => h) (Or.inl ⟨by rfl, ?hy3x11⟩) hHeld ?rest3x11
          case hy3x11 => (intro w hSw; go_simp <;> with_reducible rfl)
          try simp only [Act.put, List.setIfInBounds_toArray, List.set_cons_zero, List.set_cons_succ]
          refine wpAnyH_take (i := 12) (oi := { dst := some 173, op := _, type := _, pos := _, after := _, guard := _ }) (v := ?v3x12) rfl (by kernel_rfl) (by kernel_rfl) (by kernel_rfl) (fun _ _ _ h => h) (Or.inl ⟨by rfl, ?hy3x12⟩) hHeld ?rest3x12
          case hy3x12 => (intro w hSw; go_simp <;> with_reducible rfl)
          try simp only [Act.put, List.setIfInBounds_toArray, List.set_cons_zero, List.set_cons_succ]
          refine wpAnyH_take (i := 13) (oi := { dst := some 174, op := _, type := _, pos := _, after := _, guard := _ }) (v := ?v3x13) rfl (by kernel_rfl) (by kernel_rfl) (by kernel_rfl) (fun _ _ _ h => h) (Or.inl ⟨by rfl, ?hy3x13⟩) hHeld ?rest3x13
          case hy3x13 => (intro w hSw; go_simp <;> with_reducible rfl)
          try simp only [Act.put, List.setIfInBounds_toArray, List.set_cons_zero, List.set_cons_succ]
          refine wpAnyH_take (i := 14) (oi := { dst := some 175, op := _, type := _, pos := _, after := _, guard := _ }) (v := ?v3x14) rfl (by kernel_rfl) (by kernel_rfl) (by kernel_rfl) (fun _ _ _ h => h) (Or.inl ⟨by rfl, ?hy3x14⟩) hHeld ?rest3x14
          case hy3x14 => (intro w hSw; go_simp <;> with_reducible rfl)
          try simp only [Act.put, List.setIfInBounds_toArray, List.set_cons_zero, List.set_cons_succ]
          refine wpAnyH_ready (rs := [7]) (by kernel_rfl) (by simp) (AllReadyH.cons (o := { dst := some 168, op := _, type := _, pos := _, after := _, guard := _ }) rfl (fun K hK => ?_) AllReadyH.nil)
          go_simp
          refine (sSet_yes _ _ g b R kind addr value _ HY4.out.s HY4.out.well hB).mono ?_
          rintro e U ⟨rfl, s5, o5⟩
          have S5 := hide s5
          have T5 := hide (HY4.out.r.out o5 (Or.inr (Nat.le_refl _)))
          have B5 := hide (below_out HY4.out.bel o5 (Nat.le_refl _) HY4.out.bel.size)
          have Z5 := hide (Z4.out.out o5 (Or.inr (by have := G12.out; have := P12.out; omega)))
          clear s5 o5
          go_wp2_with fail
          refine hK.out _ _ ?_ (fun hHeld => ?_)
          · exact Z5.out
          clear hK K
          try simp only [Act.put, List.setIfInBounds_toArray, List.set_cons_zero, List.set_cons_succ]
          refine wpAnyH_ready (rs := [15]) (by kernel_rfl) (by simp) (AllReadyH.cons (o := { dst := some 176, op := _, type := _, pos := _, after := _, guard := _ }) rfl (fun K hK => ?_) AllReadyH.nil)
          go_simp
          refine (rSet_yes _ _ g2 b2 R kind addr value _ T5.out hB).mono ?_
          rintro e U2 ⟨rfl, s6, o6⟩
          have X6 : Hid (BothS hi g b hi2 g2 b2 w (setR R kind addr value) U2) := hide ⟨S5.out.out o6 (Or.inl (Nat.le_refl _)), s6, setR_well HY4.out.well hB, below_out B5.out o6 (by have := G12.out; omega) B5.out.size⟩
          have Z6 := hide (Z5.out.out o6 (Or.inr (by have := G12.out; have := P12.out; omega)))
          clear s6 o6
          go_wp2_with fail
          refine hK.out _ _ ?_ (fun hHeld => ?_)
          · exact Z6.out
          clear hK K
          try simp only [Act.put, List.setIfInBounds_toArray, List.set_cons_zero, List.set_cons_succ]
          refine wpAnyH_take (i := 16) (oi := { dst := some 177, op := _, type := _, pos := _, after := _, guard := _ }) (v := ?v3x17) rfl (by kernel_rfl) (by kernel_rfl) (by kernel_rfl) (fun _ _ _ h => h) (Or.inl ⟨by rfl, ?hy3x17⟩) hHeld ?rest3x17
          case hy3x17 => (intro w hSw; go_simp <;> with_reducible rfl)
          try simp only [Act.put, List.setIfInBounds_toArray, List.set_cons_zero, List.set_cons_succ]
          refine wpAnyH_done (by kernel_rfl) ?_ _
          go_wp2_with fail
          go_roundw
          case rel => exact ⟨i + 1, _, by omega, by go_num, X6.out⟩
          case measure => simp [intOf]; omega
      · replace h0 := ne_beq h0
        replace h1 := ne_beq h1
        go_wp2_with fail
        generalize hV : wr.alloc _ = V
        obtain ⟨zV, bV⟩ := box1 wr 36 [.int .i64 call, .int .i64 kind, .int .i64 addr, .int .i64 value, .int .i64 f, .int .i64 a, .int .i64 c, .slice A n k, .int .i64 t, .int .i64 an, .int .i64 o] V hV.symm
        have Z1 := hide zV
        have HY := hide (HX.out.on bV)
        have G12 := hide (HX.out.hi12)
        clear hV zV bV c0 c1 c2 c3 c4 c5 c6 c7 c8 c9 c10
        refine (sGet_any _ _ g b R kind addr V HY.out.s HY.out.well).mono ?_
        rintro e w4 ⟨rfl, b4⟩
        have HY4 := hide (HY.out.on b4)
        have Z4 := hide (Z1.out.keep b4)
        clear b4
        cases hB : hasB R kind addr 1
        · rw [show getV R kind addr = 0 by simp [getV, hB], show getE R kind addr = 1 by simp [getE, hB]]
          have HH := hide (fun W h => rHas_any hi hi2 g2 b2 R kind addr W h)
          rw [hB] at HH
          have bD : Below w4.heap.size w4 w4.drew := (Below.refl _ _).drew
          have HY5 := hide (HY4.out.on bD)
          clear bD hB
          obtain ⟨e0, e1, e2, e3, e4, e5, e6, e7, e8, e9, e10⟩ := Z4.out.elev
          go_wp2_with fail
          refine wp_region_held_drew (S := fun w' => w' = w4.drew) (by kernel_rfl) ?_ (fun hHeld => ?_)
          · rfl
          refine wpAnyH_take (i := 0) (oi := { dst := some 86, op := _, type := _, pos := _, after := _, guard := _ }) (v := ?v4x1) rfl (by kernel_rfl) (by kernel_rfl) (by kernel_rfl) (fun _ _ _ h => h) (Or.inl ⟨by rfl, ?hy4x1⟩) hHeld ?rest4x1
          case hy4x1 => (intro w hSw; go_simp <;> with_reducible rfl)
          try simp only [Act.put, List.setIfInBounds_toArray, List.set_cons_zero, List.set_cons_succ]
          refine wpAnyH_take (i := 1) (oi := { dst := some 87, op := _, type := _, pos := _, after := _, guard := _ }) (v := ?v4x2) rfl (by kernel_rfl) (by kernel_rfl) (by kernel_rfl) (fun _ _ _ h => h) (Or.inl ⟨by rfl, ?hy4x2⟩) hHeld ?rest4x2
          case hy4x2 => (intro w hSw; go_simp <;> with_reducible rfl)
          try simp only [Act.put, List.setIfInBounds_toArray, List.set_cons_zero, List.set_cons_succ]
          refine wpAnyH_take (i := 2) (oi := { dst := some 88, op := _, type := _, pos := _, after := _, guard := _ }) (v := ?v4x3) rfl (by kernel_rfl) (by kernel_rfl) (by kernel_rfl) (fun _ _ _ h => h) (Or.inl ⟨by rfl, ?hy4x3⟩) hHeld ?rest4x3
          case hy4x3 => (intro w hSw; go_simp <;> with_reducible rfl)
          try simp only [Act.put, List.setIfInBounds_toArray, List.set_cons_zero, List.set_cons_succ]
          refine wpAnyH_take (i := 3) (oi := { dst := some 89, op := _, type := _, pos := _, after := _, guard := _ }) (v := ?v4x4) rfl (by kernel_rfl) (by kernel_rfl) (by kernel_rfl) (fun _ _ _ h => h) (Or.inl ⟨by rfl, ?hy4x4⟩) hHeld ?rest4x4
          case hy4x4 => (intro w hSw; go_simp <;> with_reducible rfl)
          try simp only [Act.put, List.setIfInBounds_toArray, List.set_cons_zero, List.set_cons_succ]
          refine wpAnyH_take (i := 4) (oi := { dst := some 90, op := _, type := _, pos := _, after := _, guard := _ }) (v := ?v4x5) rfl (by kernel_rfl) (by kernel_rfl) (by kernel_rfl) (fun _ _ _ h => h) (Or.inl ⟨by rfl, ?hy4x5⟩) hHeld ?rest4x5
          case hy4x5 => (intro w hSw; go_simp <;> with_reducible rfl)
          try simp only [Act.put, List.setIfInBounds_toArray, List.set_cons_zero, List.set_cons_succ]
          refine wpAnyH_take (i := 6) (oi := { dst := some 92, op := _, type := _, pos := _, after := _, guard := _ }) (v := ?v4x6) rfl (by kernel_rfl) (by kernel_rfl) (by kernel_rfl) (fun _ _ _ h => h) (Or.inl ⟨by rfl, ?hy4x6⟩) hHeld ?rest4x6
          case hy4x6 => (intro w hSw; go_simp <;> with_reducible rfl)
          try simp only [Act.put, List.setIfInBounds_toArray, List.set_cons_zero, List.set_cons_succ]
          refine wpAnyH_take (i := 7) (oi := { dst := some 93, op := _, type := _, pos := _, after := _, guard := _ }) (v := ?v4x7) rfl (by kernel_rfl) (by kernel_rfl) (by kernel_rfl) (fun _ _ _ h => h) (Or.inl ⟨by rfl, ?hy4x7⟩) hHeld ?rest4x7
          case hy4x7 => (intro w hSw; go_simp <;> with_reducible rfl)
          try simp only [Act.put, List.setIfInBounds_toArray, List.set_cons_zero, List.set_cons_succ]
          refine wpAnyH_ready (rs := [5]) (by kernel_rfl) (by simp) (AllReadyH.cons (o := { dst := some 91, op := _, type := _, pos := _, after := _, guard := _ }) rfl (fun K hK => ?_) AllReadyH.nil)
          go_simp
          refine (HH.out _ HY5.out.r).mono ?_
          rintro e U ⟨rfl, rfl⟩
          go_wp2_with fail
          refine hK.out _ _ ?_ (fun hHeld => ?_)
          · rfl
          clear hK K
          try simp only [Act.put, List.setIfInBounds_toArray, List.set_cons_zero, List.set_cons_succ]
          refine wpAnyH_take (i := 8) (oi := { dst := some 94, op := _, type := _, pos := _, after := _, guard := _ }) (v := ?v4x9) rfl (by kernel_rfl) (by kernel_rfl) (by kernel_rfl) (fun _ _ _ h => h) (Or.inl ⟨by rfl, ?hy4x9⟩) hHeld ?rest4x9
          case hy4x9 => (intro w hSw; go_simp <;> with_reducible rfl)
          try simp only [Act.put, List.setIfInBounds_toArray, List.set_cons_zero, List.set_cons_succ]
          refine wpAnyH_take (i := 9) (oi := { dst := some 95, op := _, type := _, pos := _, after := _, guard := _ }) (v := ?v4x10) rfl (by kernel_rfl) (by kernel_rfl) (by kernel_rfl) (fun _ _ _ h => h) (Or.inl ⟨by rfl, ?hy4x10⟩) hHeld ?rest4x10
          case hy4x10 => (intro w hSw; go_simp <;> with_reducible rfl)
          try simp only [Act.put, List.setIfInBounds_toArray, List.set_cons_zero, List.set_cons_succ]
          refine wpAnyH_take (i := 10) (oi := { dst := some 96, op := _, type := _, pos := _, after := _, guard := _ }) (v := ?v4x11) rfl (by kernel_rfl) (by kernel_rfl) (by kernel_rfl) (fun _ _ _ h => h) (Or.inl ⟨by rfl, ?hy4x11⟩) hHeld ?rest4x11
          case hy4x11 => (intro w hSw; go_simp <;> with_reducible rfl)
          try simp only [Act.put, List.setIfInBounds_toArray, List.set_cons_zero, List.set_cons_succ]
          refine wpAnyH_take (i := 11) (oi := { dst := some 97, op := _, type := _, pos := _, after := _, guard := _ }) (v := ?v4x12) rfl (by kernel_rfl) (by kernel_rfl) (by kernel_rfl) (fun _ _ _ h => h) (Or.inl ⟨by rfl, ?hy4x12⟩) hHeld ?rest4x12
          case hy4x12 => (intro w hSw; go_simp <;> with_reducible rfl)
          try simp only [Act.put, List.setIfInBounds_toArray, List.set_cons_zero, List.set_cons_succ]
          refine wpAnyH_take (i := 12) (oi := { dst := some 98, op := _, type := _, pos := _, after := _, guard := _ }) (v := ?v4x13) rfl (by kernel_rfl) (by kernel_rfl) (by kernel_rfl) (fun _ _ _ h => h) (Or.inl ⟨by rfl, ?hy4x13⟩) hHeld ?rest4x13
          case hy4x13 => (intro w hSw; go_simp <;> with_reducible rfl)
          try simp only [Act.put, List.setIfInBounds_toArray, List.set_cons_zero, List.set_cons_succ]
          refine wpAnyH_take (i := 13) (oi := { dst := some 99, op := _, type := _, pos := _, after := _, guard := _ }) (v := ?v4x14) rfl (by kernel_rfl) (by kernel_rfl) (by kernel_rfl) (fun _ _ _ h => h) (Or.inl ⟨by rfl, ?hy4x14⟩) hHeld ?rest4x14
          case hy4x14 => (intro w hSw; go_simp <;> with_reducible rfl)
          try simp only [Act.put, List.setIfInBounds_toArray, List.set_cons_zero, List.set_cons_succ]
          refine wpAnyH_take (i := 14) (oi := { dst := some 100, op := _, type := _, pos := _, after := _, guard := _ }) (v := ?v4x15) rfl (by kernel_rfl) (by kernel_rfl) (by kernel_rfl) (fun _ _ _ h => h) (Or.inl ⟨by rfl, ?hy4x15⟩) hHeld ?rest4x15
          case hy4x15 => (intro w hSw; go_simp <;> with_reducible rfl)
          try simp only [Act.put, List.setIfInBounds_toArray, List.set_cons_zero, List.set_cons_succ]
          refine wpAnyH_take (i := 15) (oi := { dst := some 101, op := _, type := _, pos := _, after := _, guard := _ }) (v := ?v4x16) rfl (by kernel_rfl) (by kernel_rfl) (by kernel_rfl) (fun _ _ _ h => h) (Or.inl ⟨by rfl, ?hy4x16⟩) hHeld ?rest4x16
          case hy4x16 => (intro w hSw; go_simp <;> with_reducible rfl)
          try simp only [Act.put, List.setIfInBounds_toArray, List.set_cons_zero, List.set_cons_succ]
          refine wpAnyH_take (i := 16) (oi := { dst := some 102, op := _, type := _, pos := _, after := _, guard := _ }) (v := ?v4x17) rfl (by kernel_rfl) (by kernel_rfl) (by kernel_rfl) (fun _ _ _ h => h) (Or.inl ⟨by rfl, ?hy4x17⟩) hHeld ?rest4x17
          case hy4x17 => (intro w hSw; go_simp <;> with_reducible rfl)
          try simp only [Act.put, List.setIfInBounds_toArray, List.set_cons_zero, List.set_cons_succ]
          refine wpAnyH_take (i := 17) (oi := { dst := some 103, op := _, type := _, pos := _, after := _, guard := _ }) (v := ?v4x18) rfl (by kernel_rfl) (by kernel_rfl) (by kernel_rfl) (fun _ _ _ h => h) (Or.inl ⟨by rfl, ?hy4x18⟩) hHeld ?rest4x18
          case hy4x18 => (intro w hSw; go_simp <;> with_reducible rfl)
          try simp only [Act.put, List.setIfInBounds_toArray, List.set_cons_zero, List.set_cons_succ]
          refine wpAnyH_take (i := 18) (oi := { dst := some 104, op := _, type := _, pos := _, after := _, guard := _ }) (v := ?v4x19) rfl (by kernel_rfl) (by kernel_rfl) (by kernel_rfl) (fun _ _ _ h => h) (Or.inl ⟨by rfl, ?hy4x19⟩) hHeld ?rest4x19
          case hy4x19 => (intro w hSw; go_simp <;> with_reducible rfl)
          try simp only [Act.put, List.setIfInBounds_toArray, List.set_cons_zero, List.set_cons_succ]
          refine wpAnyH_take (i := 19) (oi := { dst := some 105, op := _, type := _, pos := _, after := _, guard := _ }) (v := ?v4x20) rfl (by kernel_rfl) (by kernel_rfl) (by kernel_rfl) (fun _ _ _ h => h) (Or.inl ⟨by rfl, ?hy4x20⟩) hHeld ?rest4x20
          case hy4x20 => (intro w hSw; go_simp <;> with_reducible rfl)
          try simp only [Act.put, List.setIfInBounds_toArray, List.set_cons_zero, List.set_cons_succ]
          refine wpAnyH_take (i := 20) (oi := { dst := some 106, op := _, type := _, pos := _, after := _, guard := _ }) (v := ?v4x21) rfl (by kernel_rfl) (by kernel_rfl) (by kernel_rfl) (fun _ _ _ h => h) (Or.inl ⟨by rfl, ?hy4x21⟩) hHeld ?rest4x21
          case hy4x21 => (intro w hSw; go_simp <;> with_reducible rfl)
          try simp only [Act.put, List.setIfInBounds_toArray, List.set_cons_zero, List.set_cons_succ]
          refine wpAnyH_take (i := 21) (oi := { dst := some 107, op := _, type := _, pos := _, after := _, guard := _ }) (v := ?v4x22) rfl (by kernel_rfl) (by kernel_rfl) (by kernel_rfl) (fun _ _ _ h => h) (Or.inl ⟨by rfl, ?hy4x22⟩) hHeld ?rest4x22
          case hy4x22 => (intro w hSw; go_simp <;> with_reducible rfl)
          try simp only [Act.put, List.setIfInBounds_toArray, List.set_cons_zero, List.set_cons_succ]
          refine wpAnyH_take (i := 22) (oi := { dst := some 108, op := _, type := _, pos := _, after := _, guard := _ }) (v := ?v4x23) rfl (by kernel_rfl) (by kernel_rfl) (by kernel_rfl) (fun _ _ _ h => h) (Or.inl ⟨by rfl, ?hy4x23⟩) hHeld ?rest4x23
          case hy4x23 => (intro w hSw; go_simp <;> with_reducible rfl)
          try simp only [Act.put, List.setIfInBounds_toArray, List.set_cons_zero, List.set_cons_succ]
          refine wpAnyH_take (i := 23) (oi := { dst := some 109, op := _, type := _, pos := _, after := _, guard := _ }) (v := ?v4x24) rfl (by kernel_rfl) (by kernel_rfl) (by kernel_rfl) (fun _ _ _ h => h) (Or.inl ⟨by rfl, ?hy4x24⟩) hHeld ?rest4x24
          case hy4x24 => (intro w hSw; go_simp <;> with_reducible rfl)
          try simp only [Act.put, List.setIfInBounds_toArray, List.set_cons_zero, List.set_cons_succ]
          refine wpAnyH_take (i := 24) (oi := { dst := some 110, op := _, type := _, pos := _, after := _, guard := _ }) (v := ?v4x25) rfl (by kernel_rfl) (by kernel_rfl) (by kernel_rfl) (fun _ _ _ h => h) (Or.inl ⟨by rfl, ?hy4x25⟩) hHeld ?rest4x25
          case hy4x25 => (intro w hSw; go_simp <;> with_reducible rfl)
          try simp only [Act.put, List.setIfInBounds_toArray, List.set_cons_zero, List.set_cons_succ]
          refine wpAnyH_take (i := 25) (oi := { dst := some 111, op := _, type := _, pos := _, after := _, guard := _ }) (v := undef) rfl (by kernel_rfl) (by kernel_rfl) (by kernel_rfl) (fun _ _ _ h => h) (Or.inr ⟨by rfl, rfl⟩) hHeld ?_
          try simp only [Act.put, List.setIfInBounds_toArray, List.set_cons_zero, List.set_cons_succ]
          refine wpAnyH_take (i := 26) (oi := { dst := some 112, op := _, type := _, pos := _, after := _, guard := _ }) (v := undef) rfl (by kernel_rfl) (by kernel_rfl) (by kernel_rfl) (fun _ _ _ h => h) (Or.inr ⟨by rfl, rfl⟩) hHeld ?_
          try simp only [Act.put, List.setIfInBounds_toArray, List.set_cons_zero, List.set_cons_succ]
          refine wpAnyH_take (i := 27) (oi := { dst := some 113, op := _, type := _, pos := _, after := _, guard := _ }) (v := undef) rfl (by kernel_rfl) (by kernel_rfl) (by kernel_rfl) (fun _ _ _ h => h) (Or.inr ⟨by rfl, rfl⟩) hHeld ?_
          try simp only [Act.put, List.setIfInBounds_toArray, List.set_cons_zero, List.set_cons_succ]
          refine wpAnyH_take (i := 28) (oi := { dst := some 114, op := _, type := _, pos := _, after := _, guard := _ }) (v := undef) rfl (by kernel_rfl) (by kernel_rfl) (by kernel_rfl) (fun _ _ _ h => h) (Or.inr ⟨by rfl, rfl⟩) hHeld ?_
          try simp only [Act.put, List.setIfInBounds_toArray, List.set_cons_zero, List.set_cons_succ]
          refine wpAnyH_take (i := 29) (oi := { dst := some 115, op := _, type := _, pos := _, after := _, guard := _ }) (v := undef) rfl (by kernel_rfl) (by kernel_rfl) (by kernel_rfl) (fun _ _ _ h => h) (Or.inr ⟨by rfl, rfl⟩) hHeld ?_
          try simp only [Act.put, List.setIfInBounds_toArray, List.set_cons_zero, List.set_cons_succ]
          refine wpAnyH_take (i := 30) (oi := { dst := some 116, op := _, type := _, pos := _, after := _, guard := _ }) (v := undef) rfl (by kernel_rfl) (by kernel_rfl) (by kernel_rfl) (fun _ _ _ h => h) (Or.inr ⟨by rfl, rfl⟩) hHeld ?_
          try simp only [Act.put, List.setIfInBounds_toArray, List.set_cons_zero, List.set_cons_succ]
          refine wpAnyH_take (i := 31) (oi := { dst := some 117, op := _, type := _, pos := _, after := _, guard := _ }) (v := undef) rfl (by kernel_rfl) (by kernel_rfl) (by kernel_rfl) (fun _ _ _ h => h) (Or.inr ⟨by rfl, rfl⟩) hHeld ?_
          try simp only [Act.put, List.setIfInBounds_toArray, List.set_cons_zero, List.set_cons_succ]
          refine wpAnyH_take (i := 32) (oi := { dst := some 118, op := _, type := _, pos := _, after := _, guard := _ }) (v := undef) rfl (by kernel_rfl) (by kernel_rfl) (by kernel_rfl) (fun _ _ _ h => h) (Or.inr ⟨by rfl, rfl⟩) hHeld ?_
          try simp only [Act.put, List.setIfInBounds_toArray, List.set_cons_zero, List.set_cons_succ]
          refine wpAnyH_take (i := 33) (oi := { dst := some 119, op := _, type := _, pos := _, after := _, guard := _ }) (v := undef) rfl (by kernel_rfl) (by kernel_rfl) (by kernel_rfl) (fun _ _ _ h => h) (Or.inr ⟨by rfl, rfl⟩) hHeld ?_
          try simp only [Act.put, List.setIfInBounds_toArray, List.set_cons_zero, List.set_cons_succ]
          refine wpAnyH_take (i := 34) (oi := { dst := some 120, op := _, type := _, pos := _, after := _, guard := _ }) (v := undef) rfl (by kernel_rfl) (by kernel_rfl) (by kernel_rfl) (fun _ _ _ h => h) (Or.inr ⟨by rfl, rfl⟩) hHeld ?_
          try simp only [Act.put, List.setIfInBounds_toArray, List.set_cons_zero, List.set_cons_succ]
          refine wpAnyH_take (i := 35) (oi := { dst := some 121, op := _, type := _, pos := _, after := _, guard := _ }) (v := undef) rfl (by kernel_rfl) (by kernel_rfl) (by kernel_rfl) (fun _ _ _ h => h) (Or.inr ⟨by rfl, rfl⟩) hHeld ?_
          try simp only [Act.put, List.setIfInBounds_toArray, List.set_cons_zero, List.set_cons_succ]
          refine wpAnyH_take (i := 36) (oi := { dst := some 122, op := _, type := _, pos := _, after := _, guard := _ }) (v := undef) rfl (by kernel_rfl) (by kernel_rfl) (by kernel_rfl) (fun _ _ _ h => h) (Or.inr ⟨by rfl, rfl⟩) hHeld ?_
          try simp only [Act.put, List.setIfInBounds_toArray, List.set_cons_zero, List.set_cons_succ]
          refine wpAnyH_take (i := 37) (oi := { dst := some 123, op := _, type := _, pos := _, after := _, guard := _ }) (v := undef) rfl (by kernel_rfl) (by kernel_rfl) (by kernel_rfl) (fun _ _ _ h => h) (Or.inr ⟨by rfl, rfl⟩) hHeld ?_
          try simp only [Act.put, List.setIfInBounds_toArray, List.set_cons_zero, List.set_cons_succ]
          refine wpAnyH_take (i := 38) (oi := { dst := some 124, op := _, type := _, pos := _, after := _, guard := _ }) (v := undef) rfl (by kernel_rfl) (by kernel_rfl) (by kernel_rfl) (fun _ _ _ h => h) (Or.inr ⟨by rfl, rfl⟩) hHeld ?_
          try simp only [Act.put, List.setIfInBounds_toArray, List.set_cons_zero, List.set_cons_succ]
          refine wpAnyH_take (i := 39) (oi := { dst := some 125, op := _, type := _, pos := _, after := _, guard := _ }) (v := ?v4x40) rfl (by kernel_rfl) (by kernel_rfl) (by kernel_rfl) (fun _ _ _ h => h) (Or.inl ⟨by rfl, ?hy4x40⟩) hHeld ?rest4x40
          case hy4x40 => (intro w hSw; go_simp <;> with_reducible rfl)
          try simp only [Act.put, List.setIfInBounds_toArray, List.set_cons_zero, List.set_cons_succ]
          refine wpAnyH_take (i := 40) (oi := { dst := some 126, op := _, type := _, pos := _, after := _, guard := _ }) (v := ?v4x41) rfl (by kernel_rfl) (by kernel_rfl) (by kernel_rfl) (fun _ _ _ h => h) (Or.inl ⟨by rfl, ?hy4x41⟩) hHeld ?rest4x41
          case hy4x41 => (intro w hSw; go_simp <;> with_reducible rfl)
          try simp only [Act.put, List.setIfInBounds_toArray, List.set_cons_zero, List.set_cons_succ]
          refine wpAnyH_done (by kernel_rfl) ?_ _
          go_wp2_with fail
          go_roundw
          case rel => exact ⟨i + 1, R, by omega, by go_num, HY5.out⟩
          case measure => simp [intOf]; omega
        · obtain ⟨kk, hk, rfl, ha0, ha1⟩ := hasB_kind hB (by omega)
          obtain ⟨at_, rfl⟩ : ∃ m : Nat, addr = (m : Int) := ⟨addr.toNat, by omega⟩
          have hlt2 : at_ < (R kk).length := by omega
          rw [getE_row R kk at_ hk hlt2, getV_row R kk at_ hk hlt2]
          have HH := hide (fun W h => rHas_any hi hi2 g2 b2 R ((kk : Int) + 1) (at_ : Int) W h)
          rw [hB] at HH
          have bD : Below w4.heap.size w4 w4.drew := (Below.refl _ _).drew
          have HY5 := hide (HY4.out.on bD)
          clear bD hB
          obtain ⟨e0, e1, e2, e3, e4, e5, e6, e7, e8, e9, e10⟩ := Z4.out.elev
          have cg := HY4.out.r.cellk kk hk
          have cv : w4.cell? ⟨b2 kk, at_, none⟩ = some (.int .i64 ((R kk)[at_])) := by rw [(HY4.out.r.row kk hk).cell]; exact iv_get _ _ _
          have qx : ((R kk)[at_] != (R kk)[at_]) = false := by simp
          have k0 : 0 ≤ (kk : Int) := by omega
          have k4 : (kk : Int) < 4 := by omega
          have ew : IntKind.i64.wrap (kk : Int) = (kk : Int) := wrap_nat kk (by omega)
          have qb : (at_ : Int) < ((R kk).length : Int) := by omega
          go_wp2_with fail
          refine wp_region_held_drew (S := fun w' => w' = w4.drew) (by kernel_rfl) ?_ (fun hHeld => ?_)
          · rfl
          refine wpAnyH_take (i := 0) (oi := { dst := some 86, op := _, type := _, pos := _, after := _, guard := _ }) (v := ?v5x1) rfl (by kernel_rfl) (by kernel_rfl) (by kernel_rfl) (fun _ _ _ h => h) (Or.inl ⟨by rfl, ?hy5x1⟩) hHeld ?rest5x1
          case hy5x1 => (intro w hSw; go_simp <;> with_reducible rfl)
          try simp only [Act.put, List.setIfInBounds_toArray, List.set_cons_zero, List.set_cons_succ]
          refine wpAnyH_take (i := 1) (oi := { dst := some 87, op := _, type := _, pos := _, after := _, guard := _ }) (v := ?v5x2) rfl (by kernel_rfl) (by kernel_rfl) (by kernel_rfl) (fun _ _ _ h => h) (Or.inl ⟨by rfl, ?hy5x2⟩) hHeld ?rest5x2
          case hy5x2 => (intro w hSw; go_simp <;> with_reducible rfl)
          try simp only [Act.put, List.setIfInBounds_toArray, List.set_cons_zero, List.set_cons_succ]
          refine wpAnyH_take (i := 2) (oi := { dst := some 88, op := _, type := _, pos := _, after := _, guard := _ }) (v := ?v5x3) rfl (by kernel_rfl) (by kernel_rfl) (by kernel_rfl) (fun _ _ _ h => h) (Or.inl ⟨by rfl, ?hy5x3⟩) hHeld ?rest5x3
          case hy5x3 => (intro w hSw; go_simp <;> with_reducible rfl)
          try simp only [Act.put, List.setIfInBounds_toArray, List.set_cons_zero, List.set_cons_succ]
          refine wpAnyH_take (i := 3) (oi := { dst := some 89, op := _, type := _, pos := _, after := _, guard := _ }) (v := ?v5x4) rfl (by kernel_rfl) (by kernel_rfl) (by kernel_rfl) (fun _ _ _ h => h) (Or.inl ⟨by rfl, ?hy5x4⟩) hHeld ?rest5x4
          case hy5x4 => (intro w hSw; go_simp <;> with_reducible rfl)
          try simp only [Act.put, List.setIfInBounds_toArray, List.set_cons_zero, List.set_cons_succ]
          refine wpAnyH_take (i := 4) (oi := { dst := some 90, op := _, type := _, pos := _, after := _, guard := _ }) (v := ?v5x5) rfl (by kernel_rfl) (by kernel_rfl) (by kernel_rfl) (fun _ _ _ h => h) (Or.inl ⟨by rfl, ?hy5x5⟩) hHeld ?rest5x5
          case hy5x5 => (intro w hSw; go_simp <;> with_reducible rfl)
          try simp only [Act.put, List.setIfInBounds_toArray, List.set_cons_zero, List.set_cons_succ]
          refine wpAnyH_take (i := 6) (oi := { dst := some 92, op := _, type := _, pos := _, after := _, guard := _ }) (v := ?v5x6) rfl (by kernel_rfl) (by kernel_rfl) (by kernel_rfl) (fun _ _ _ h => h) (Or.inl ⟨by rfl, ?hy5x6⟩) hHeld ?rest5x6
          case hy5x6 => (intro w hSw; go_simp <;> with_reducible rfl)
          try simp only [Act.put, List.setIfInBounds_toArray, List.set_cons_zero, List.set_cons_succ]
          refine wpAnyH_take (i := 7) (oi := { dst := some 93, op := _, type := _, pos := _, after := _, guard := _ }) (v := ?v5x7) rfl (by kernel_rfl) (by kernel_rfl) (by kernel_rfl) (fun _ _ _ h => h) (Or.inl ⟨by rfl, ?hy5x7⟩) hHeld ?rest5x7
          case hy5x7 => (intro w hSw; go_simp <;> with_reducible rfl)
          try simp only [Act.put, List.setIfInBounds_toArray, List.set_cons_zero, List.set_cons_succ]
          refine wpAnyH_ready (rs := [5]) (by kernel_rfl) (by simp) (AllReadyH.cons (o := { dst := some 91, op := _, type := _, pos := _, after := _, guard := _ }) rfl (fun K hK => ?_) AllReadyH.nil)
          go_simp
          refine (HH.out _ HY5.out.r).mono ?_
          rintro e U ⟨rfl, rfl⟩
          go_wp2_with fail
          refine hK.out _ _ ?_ (fun hHeld => ?_)
          · rfl
          clear hK K
          try simp only [Act.put, List.setIfInBounds_toArray, List.set_cons_zero, List.set_cons_succ]
          refine wpAnyH_take (i := 8) (oi := { dst := some 94, op := _, type := _, pos := _, after := _, guard := _ }) (v := ?v5x9) rfl (by kernel_rfl) (by kernel_rfl) (by kernel_rfl) (fun _ _ _ h => h) (Or.inl ⟨by rfl, ?hy5x9⟩) hHeld ?rest5x9
          case hy5x9 => (intro w hSw; go_simp <;> with_reducible rfl)
          try simp only [Act.put, List.setIfInBounds_toArray, List.set_cons_zero, List.set_cons_succ]
          refine wpAnyH_take (i := 9) (oi := { dst := some 95, op := _, type := _, pos := _, after := _, guard := _ }) (v := ?v5x10) rfl (by kernel_rfl) (by kernel_rfl) (by kernel_rfl) (fun _ _ _ h => h) (Or.inl ⟨by rfl, ?hy5x10⟩) hHeld ?rest5x10
          case hy5x10 => (intro w hSw; go_simp <;> with_reducible rfl)
          try simp only [Act.put, List.setIfInBounds_toArray, List.set_cons_zero, List.set_cons_succ]
          refine wpAnyH_take (i := 10) (oi := { dst := some 96, op := _, type := _, pos := _, after := _, guard := _ }) (v := ?v5x11) rfl (by kernel_rfl) (by kernel_rfl) (by kernel_rfl) (fun _ _ _ h => h) (Or.inl ⟨by rfl, ?hy5x11⟩) hHeld ?rest5x11
          case hy5x11 => (intro w hSw; go_simp <;> with_reducible rfl)
          try simp only [Act.put, List.setIfInBounds_toArray, List.set_cons_zero, List.set_cons_succ]
          refine wpAnyH_take (i := 11) (oi := { dst := some 97, op := _, type := _, pos := _, after := _, guard := _ }) (v := ?v5x12) rfl (by kernel_rfl) (by kernel_rfl) (by kernel_rfl) (fun _ _ _ h => h) (Or.inl ⟨by rfl, ?hy5x12⟩) hHeld ?rest5x12
          case hy5x12 => (intro w hSw; go_simp <;> with_reducible rfl)
          try simp only [Act.put, List.setIfInBounds_toArray, List.set_cons_zero, List.set_cons_succ]
          refine wpAnyH_take (i := 12) (oi := { dst := some 98, op := _, type := _, pos := _, after := _, guard := _ }) (v := ?v5x13) rfl (by kernel_rfl) (by kernel_rfl) (by kernel_rfl) (fun _ _ _ h => h) (Or.inl ⟨by rfl, ?hy5x13⟩) hHeld ?rest5x13
          case hy5x13 => (intro w hSw; go_simp <;> with_reducible rfl)
          try simp only [Act.put, List.setIfInBounds_toArray, List.set_cons_zero, List.set_cons_succ]
          refine wpAnyH_take (i := 13) (oi := { dst := some 99, op := _, type := _, pos := _, after := _, guard := _ }) (v := undef) rfl (by kernel_rfl) (by kernel_rfl) (by kernel_rfl) (fun _ _ _ h => h) (Or.inr ⟨by rfl, rfl⟩) hHeld ?_
          try simp only [Act.put, List.setIfInBounds_toArray, List.set_cons_zero, List.set_cons_succ]
          refine wpAnyH_take (i := 14) (oi := { dst := some 100, op := _, type := _, pos := _, after := _, guard := _ }) (v := undef) rfl (by kernel_rfl) (by kernel_rfl) (by kernel_rfl) (fun _ _ _ h => h) (Or.inr ⟨by rfl, rfl⟩) hHeld ?_
          try simp only [Act.put, List.setIfInBounds_toArray, List.set_cons_zero, List.set_cons_succ]
          refine wpAnyH_take (i := 15) (oi := { dst := some 101, op := _, type := _, pos := _, after := _, guard := _ }) (v := undef) rfl (by kernel_rfl) (by kernel_rfl) (by kernel_rfl) (fun _ _ _ h => h) (Or.inr ⟨by rfl, rfl⟩) hHeld ?_
          try simp only [Act.put, List.setIfInBounds_toArray, List.set_cons_zero, List.set_cons_succ]
          refine wpAnyH_take (i := 16) (oi := { dst := some 102, op := _, type := _, pos := _, after := _, guard := _ }) (v := undef) rfl (by kernel_rfl) (by kernel_rfl) (by kernel_rfl) (fun _ _ _ h => h) (Or.inr ⟨by rfl, rfl⟩) hHeld ?_
          try simp only [Act.put, List.setIfInBounds_toArray, List.set_cons_zero, List.set_cons_succ]
          refine wpAnyH_take (i := 17) (oi := { dst := some 103, op := _, type := _, pos := _, after := _, guard := _ }) (v := undef) rfl (by kernel_rfl) (by kernel_rfl) (by kernel_rfl) (fun _ _ _ h => h) (Or.inr ⟨by rfl, rfl⟩) hHeld ?_
          try simp only [Act.put, List.setIfInBounds_toArray, List.set_cons_zero, List.set_cons_succ]
          refine wpAnyH_take (i := 18) (oi := { dst := some 104, op := _, type := _, pos := _, after := _, guard := _ }) (v := undef) rfl (by kernel_rfl) (by kernel_rfl) (by kernel_rfl) (fun _ _ _ h => h) (Or.inr ⟨by rfl, rfl⟩) hHeld ?_
          try simp only [Act.put, List.setIfInBounds_toArray, List.set_cons_zero, List.set_cons_succ]
          refine wpAnyH_take (i := 19) (oi := { dst := some 105, op := _, type := _, pos := _, after := _, guard := _ }) (v := ?v5x20) rfl (by kernel_rfl) (by kernel_rfl) (by kernel_rfl) (fun _ _ _ h => h) (Or.inl ⟨by rfl, ?hy5x20⟩) hHeld ?rest5x20
          case hy5x20 => (intro w hSw; go_simp <;> with_reducible rfl)
          try simp only [Act.put, List.setIfInBounds_toArray, List.set_cons_zero, List.set_cons_succ]
          refine wpAnyH_take (i := 20) (oi := { dst := some 106, op := _, type := _, pos := _, after := _, guard := _ }) (v := ?v5x21) rfl (by kernel_rfl) (by kernel_rfl) (by kernel_rfl) (fun _ _ _ h => h) (Or.inl ⟨by rfl, ?hy5x21⟩) hHeld ?rest5x21
          case hy5x21 => (intro w hSw; go_simp <;> with_reducible rfl)
          try simp only [Act.put, List.setIfInBounds_toArray, List.set_cons_zero, List.set_cons_succ]
          refine wpAnyH_take (i := 21) (oi := { dst := some 107, op := _, type := _, pos := _, after := _, guard := _ }) (v := ?v5x22) rfl (by kernel_rfl) (by kernel_rfl) (by kernel_rfl) (fun _ _ _ h => h) (Or.inl ⟨by rfl, ?hy5x22⟩) hHeld ?rest5x22
          case hy5x22 => (intro w hSw; go_simp <;> with_reducible rfl)
          try simp only [Act.put, List.setIfInBounds_toArray, List.set_cons_zero, List.set_cons_succ]
          refine wpAnyH_take (i := 22) (oi := { dst := some 108, op := _, type := _, pos := _, after := _, guard := _ }) (v := ?v5x23) rfl (by kernel_rfl) (by kernel_rfl) (by kernel_rfl) (fun _ _ _ h => h) (Or.inl ⟨by rfl, ?hy5x23⟩) hHeld ?rest5x23
          case hy5x23 => (intro w hSw; go_simp <;> with_reducible rfl)
          try simp only [Act.put, List.setIfInBounds_toArray, List.set_cons_zero, List.set_cons_succ]
          refine wpAnyH_take (i := 23) (oi := { dst := some 109, op := _, type := _, pos := _, after := _, guard := _ }) (v := ?v5x24) rfl (by kernel_rfl) (by kernel_rfl) (by kernel_rfl) (fun _ _ _ h => h) (Or.inl ⟨by rfl, ?hy5x24⟩) hHeld ?rest5x24
          case hy5x24 => (intro w hSw; go_simp <;> with_reducible rfl)
          try simp only [Act.put, List.setIfInBounds_toArray, List.set_cons_zero, List.set_cons_succ]
          refine wpAnyH_take (i := 24) (oi := { dst := some 110, op := _, type := _, pos := _, after := _, guard := _ }) (v := ?v5x25) rfl (by kernel_rfl) (by kernel_rfl) (by kernel_rfl) (fun _ _ _ h => h) (Or.inl ⟨by rfl, ?hy5x25⟩) hHeld ?rest5x25
          case hy5x25 => (intro w hSw; go_simp <;> with_reducible rfl)
          try simp only [Act.put, List.setIfInBounds_toArray, List.set_cons_zero, List.set_cons_succ]
          refine wpAnyH_take (i := 25) (oi := { dst := some 111, op := _, type := _, pos := _, after := _, guard := _ }) (v := ?v5x26) rfl (by kernel_rfl) (by kernel_rfl) (by kernel_rfl) (fun _ _ _ h => h) (Or.inl ⟨by rfl, ?hy5x26⟩) hHeld ?rest5x26
          case hy5x26 => (intro w hSw; go_simp <;> with_reducible rfl)
          try simp only [Act.put, List.setIfInBounds_toArray, List.set_cons_zero, List.set_cons_succ]
          refine wpAnyH_take (i := 26) (oi := { dst := some 112, op := _, type := _, pos := _, after := _, guard := _ }) (v := ?v5x27) rfl (by kernel_rfl) (by kernel_rfl) (by kernel_rfl) (fun _ _ _ h => h) (Or.inl ⟨by rfl, ?hy5x27⟩) hHeld ?rest5x27
          case hy5x27 => (intro w hSw; go_simp <;> with_reducible rfl)
          try simp only [Act.put, List.setIfInBounds_toArray, List.set_cons_zero, List.set_cons_succ]
          refine wpAnyH_take (i := 27) (oi := { dst := some 113, op := _, type := _, pos := _, after := _, guard := _ }) (v := ?v5x28) rfl (by kernel_rfl) (by kernel_rfl) (by kernel_rfl) (fun _ _ _ h => h) (Or.inl ⟨by rfl, ?hy5x28⟩) hHeld ?rest5x28
          case hy5x28 => (intro w hSw; go_simp <;> with_reducible rfl)
          try simp only [Act.put, List.setIfInBounds_toArray, List.set_cons_zero, List.set_cons_succ]
          refine wpAnyH_take (i := 28) (oi := { dst := some 114, op := _, type := _, pos := _, after := _, guard := _ }) (v := ?v5x29) rfl (by kernel_rfl) (by kernel_rfl) (by kernel_rfl) (fun _ _ _ h => h) (Or.inl ⟨by rfl, ?hy5x29⟩) hHeld ?rest5x29
          case hy5x29 => (intro w hSw; go_simp <;> with_reducible rfl)
          try simp only [Act.put, List.setIfInBounds_toArray, List.set_cons_zero, List.set_cons_succ]
          refine wpAnyH_take (i := 29) (oi := { dst := some 115, op := _, type := _, pos := _, after := _, guard := _ }) (v := ?v5x30) rfl (by kernel_rfl) (by kernel_rfl) (by kernel_rfl) (fun _ _ _ h => h) (Or.inl ⟨by rfl, ?hy5x30⟩) hHeld ?rest5x30
          case hy5x30 => (intro w hSw; go_simp <;> with_reducible rfl)
          try simp only [Act.put, List.setIfInBounds_toArray, List.set_cons_zero, List.set_cons_succ]
          refine wpAnyH_take (i := 30) (oi := { dst := some 116, op := _, type := _, pos := _, after := _, guard := _ }) (v := ?v5x31) rfl (by kernel_rfl) (by kernel_rfl) (by kernel_rfl) (fun _ _ _ h => h) (Or.inl ⟨by rfl, ?hy5x31⟩) hHeld ?rest5x31
          case hy5x31 => (intro w hSw; go_simp <;> with_reducible rfl)
          try simp only [Act.put, List.setIfInBounds_toArray, List.set_cons_zero, List.set_cons_succ]
          refine wpAnyH_take (i := 31) (oi := { dst := some 117, op := _, type := _, pos := _, after := _, guard := _ }) (v := ?v5x32) rfl (by kernel_rfl) (by kernel_rfl) (by kernel_rfl) (fun _ _ _ h => h) (Or.inl ⟨by rfl, ?hy5x32⟩) hHeld ?rest5x32
          case hy5x32 => (intro w hSw; go_simp <;> with_reducible rfl)
          try simp only [Act.put, List.setIfInBounds_toArray, List.set_cons_zero, List.set_cons_succ]
          refine wpAnyH_take (i := 32) (oi := { dst := some 118, op := _, type := _, pos := _, after := _, guard := _ }) (v := ?v5x33) rfl (by kernel_rfl) (by kernel_rfl) (by kernel_rfl) (fun _ _ _ h => h) (Or.inl ⟨by rfl, ?hy5x33⟩) hHeld ?rest5x33
          case hy5x33 => (intro w hSw; go_simp <;> with_reducible rfl)
          try simp only [Act.put, List.setIfInBounds_toArray, List.set_cons_zero, List.set_cons_succ]
          refine wpAnyH_take (i := 33) (oi := { dst := some 119, op := _, type := _, pos := _, after := _, guard := _ }) (v := ?v5x34) rfl (by kernel_rfl) (by kernel_rfl) (by kernel_rfl) (fun _ _ _ h => h) (Or.inl ⟨by rfl, ?hy5x34⟩) hHeld ?rest5x34
          case hy5x34 => (intro w hSw; go_simp <;> with_reducible rfl)
          try simp only [Act.put, List.setIfInBounds_toArray, List.set_cons_zero, List.set_cons_succ]
          refine wpAnyH_take (i := 34) (oi := { dst := some 120, op := _, type := _, pos := _, after := _, guard := _ }) (v := ?v5x35) rfl (by kernel_rfl) (by kernel_rfl) (by kernel_rfl) (fun _ _ _ h => h) (Or.inl ⟨by rfl, ?hy5x35⟩) hHeld ?rest5x35
          case hy5x35 => (intro w hSw; go_simp <;> with_reducible rfl)
          try simp only [Act.put, List.setIfInBounds_toArray, List.set_cons_zero, List.set_cons_succ]
          refine wpAnyH_take (i := 35) (oi := { dst := some 121, op := _, type := _, pos := _, after := _, guard := _ }) (v := ?v5x36) rfl (by kernel_rfl) (by kernel_rfl) (by kernel_rfl) (fun _ _ _ h => h) (Or.inl ⟨by rfl, ?hy5x36⟩) hHeld ?rest5x36
          case hy5x36 => (intro w hSw; go_simp <;> with_reducible rfl)
          try simp only [Act.put, List.setIfInBounds_toArray, List.set_cons_zero, List.set_cons_succ]
          refine wpAnyH_take (i := 36) (oi := { dst := some 122, op := _, type := _, pos := _, after := _, guard := _ }) (v := ?v5x37) rfl (by kernel_rfl) (by kernel_rfl) (by kernel_rfl) (fun _ _ _ h => h) (Or.inl ⟨by rfl, ?hy5x37⟩) hHeld ?rest5x37
          case hy5x37 => (intro w hSw; go_simp <;> with_reducible rfl)
          try simp only [Act.put, List.setIfInBounds_toArray, List.set_cons_zero, List.set_cons_succ]
          refine wpAnyH_take (i := 37) (oi := { dst := some 123, op := _, type := _, pos := _, after := _, guard := _ }) (v := ?v5x38) rfl (by kernel_rfl) (by kernel_rfl) (by kernel_rfl) (fun _ _ _ h => h) (Or.inl ⟨by rfl, ?hy5x38⟩) hHeld ?rest5x38
          case hy5x38 => (intro w hSw; go_simp <;> with_reducible rfl)
          try simp only [Act.put, List.setIfInBounds_toArray, List.set_cons_zero, List.set_cons_succ]
          refine wpAnyH_take (i := 38) (oi := { dst := some 124, op := _, type := _, pos := _, after := _, guard := _ }) (v := ?v5x39) rfl (by kernel_rfl) (by kernel_rfl) (by kernel_rfl) (fun _ _ _ h => h) (Or.inl ⟨by rfl, ?hy5x39⟩) hHeld ?rest5x39
          case hy5x39 => (intro w hSw; go_simp <;> with_reducible rfl)
          try simp only [Act.put, List.setIfInBounds_toArray, List.set_cons_zero, List.set_cons_succ]
          refine wpAnyH_take (i := 39) (oi := { dst := some 125, op := _, type := _, pos := _, after := _, guard := _ }) (v := ?v5x40) rfl (by kernel_rfl) (by kernel_rfl) (by kernel_rfl) (fun _ _ _ h => h) (Or.inl ⟨by rfl, ?hy5x40⟩) hHeld ?rest5x40
          case hy5x40 => (intro w hSw; go_simp <;> with_reducible rfl)
          try simp only [Act.put, List.setIfInBounds_toArray, List.set_cons_zero, List.set_cons_succ]
          refine wpAnyH_take (i := 40) (oi := { dst := some 126, op := _, type := _, pos := _, after := _, guard := _ }) (v := ?v5x41) rfl (by kernel_rfl) (by kernel_rfl) (by kernel_rfl) (fun _ _ _ h => h) (Or.inl ⟨by rfl, ?hy5x41⟩) hHeld ?rest5x41
          case hy5x41 => (intro w hSw; go_simp <;> with_reducible rfl)
          try simp only [Act.put, List.setIfInBounds_toArray, List.set_cons_zero, List.set_cons_succ]
          refine wpAnyH_done (by kernel_rfl) ?_ _
          go_wp2_with fail
          go_roundw
          case rel => exact ⟨i + 1, R, by omega, by go_num, HY5.out⟩
          case measure => simp [intOf]; omega
    · obtain rfl : i = len := by omega
      have q : ¬ (i : Int) < (i : Int) := by omega
      go_wp2_with fail
      refine (awake4_any _).mono ?_
      rintro e w4 ⟨rfl, b4⟩
      have HY := hide (HX.out.on b4)
      clear b4
      go_wp2_with fail
      refine (all4_any _ _ g b _ _ g2 b2 R _ HY.out.s HY.out.r HY.out.well).mono ?_
      rintro e w5 ⟨rfl, b5⟩
      go_wp2
      go_ret
      exact ⟨rfl, below_on HY.out.bel b5⟩

end Go.Proofs.Ytohiblldhdglgaa
