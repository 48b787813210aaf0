/-
  What is proved here: the law SlaveReads returns true for every input. No condition of its own.
-/
import Derived.Test.YtohiblldhdglgaaReads4a
import Derived.Test.YtohiblldhdglgaaAwake4
import Derived.Test.YtohiblldhdglgaaRef3c
namespace Go.Proofs.Ytohiblldhdglgaa
set_option linter.unusedVariables false
set_option linter.unusedSimpArgs false
open Go.RowKit

/-- While values are set ahead: a slave, its rows as long as they were; the request lies in its box. -/
def Ahead (nb nw lo hi g : Nat) (b : Nat → Nat) (w : World) (q : List Value) (R : Nat → List Int) (wr : World) : Prop :=
  SlA 58 lo hi wr g b R ∧ wellR R ∧ (∀ k, (R k).length = (newR nb nw k).length) ∧ Below w.heap.size w wr ∧ Blk wr w.heap.size 34 q
/-- While rows are copied. -/
def Copy (lo hi g : Nat) (b : Nat → Nat) (lo2 hi2 g2 : Nat) (b2 : Nat → Nat) (w : World) (q : List Value) (R R2 : Nat → List Int) (wr : World) : Prop :=
  SlA 58 lo hi wr g b R ∧ SlA 50 lo2 hi2 wr g2 b2 R2 ∧ Below w.heap.size w wr ∧ Blk wr w.heap.size 34 q
theorem Copy.on {lo hi g : Nat} {b : Nat → Nat} {lo2 hi2 g2 : Nat} {b2 : Nat → Nat} {w : World} {q : List Value} {R R2 : Nat → List Int} {wr wr' : World} (h : Copy lo hi g b lo2 hi2 g2 b2 w q R R2 wr) (bl : Below wr.heap.size wr wr') : Copy lo hi g b lo2 hi2 g2 b2 w q R R2 wr' :=
  ⟨h.1.keep bl, h.2.1.keep bl, below_on h.2.2.1 bl, h.2.2.2.keep bl⟩
/-- A value is stored into the document's slave. -/
theorem Copy.put {lo hi g : Nat} {b : Nat → Nat} {lo2 hi2 g2 : Nat} {b2 : Nat → Nat} {w : World} {q : List Value} {R R2 : Nat → List Int} {wr : World} (h : Copy lo hi g b lo2 hi2 g2 b2 w q R R2 wr) (hlo : w.heap.size < lo) (h12 : hi ≤ lo2) (hlh : lo ≤ hi) (k i : Nat) (hk : k < 4) (hi' : i < (R2 k).length) (v : Int) :
    Copy lo hi g b lo2 hi2 g2 b2 w q R (upd R2 k (over (R2 k) i [v])) (wr.setCell ⟨b2 k, i, none⟩ (.int .i64 v)) := by
  obtain ⟨h1, h2, h3, h4⟩ := h
  have hbl := h2.bl k hk
  have o1 : Oth (b2 k) (b2 k + 1) wr (wr.setCell ⟨b2 k, i, none⟩ (.int .i64 v)) := Oth.setCell wr _
  have k9 := (h2.row k hk).set i (.int .i64 v)
  rw [iv_over1 _ _ _ hi'] at k9
  exact ⟨h1.out o1 (Or.inl (by omega)), h2.set k hk _ (over_length _ _ _ hi') o1 k9, h3.setCell (by show w.heap.size ≤ b2 k; omega) _, h4.out o1 (Or.inl (by omega))⟩

theorem upd_self (R : Nat → List Int) (k : Nat) : upd R k (R k) = R := by
  funext j
  unfold upd
  split
  · subst j; rfl
  · rfl

theorem get_wr (lo hi g : Nat) (b : Nat → Nat) (R : Nat → List Int) (kk to_ : Nat) (us : List Int) (j : Nat) (hk : kk < 4) (hf : to_ + us.length ≤ (R kk).length) (hj : j < us.length) (hw : wellR (upd R kk (over (R kk) to_ us))) (kind addr : Int) (ek : kind = (kk : Int) + 1) (ea : addr = (to_ : Int) + (j : Int)) (W : World)
    (h : SlA 58 lo hi W g b (upd R kk (over (R kk) to_ us))) :
    Calls Try.prog 17 #[.pointer (some ⟨g, 0, none⟩), .int .i64 kind, .int .i64 addr] W fun e w' => e = .returned (.tuple #[.int .i64 us[j], .int .i64 0]) ∧ Below W.heap.size W w' := by
  obtain rfl : addr = ((to_ + j : Nat) : Int) := by omega
  subst ek
  have hl : (upd R kk (over (R kk) to_ us) kk).length = (R kk).length := by rw [upd_same, over_length _ _ _ hf]
  have := sGet_any lo hi g b _ ((kk : Int) + 1) ((to_ + j : Nat) : Int) W h hw
  rw [getE_row _ kk (to_ + j) hk (by rw [hl]; omega), getV_row _ kk (to_ + j) hk (by rw [hl]; omega)] at this
  have e : (upd R kk (over (R kk) to_ us) kk)[to_ + j]'(by rw [hl]; omega) = us[j] := by
    have := over_get (R kk) to_ us hf j hj
    rw [List.getElem?_eq_some_iff] at this
    obtain ⟨h1, h2⟩ := this
    simpa [upd_same] using h2
  rw [e] at this
  exact this

set_option maxRecDepth 100000 in
set_option maxHeartbeats 4000000 in
theorem reads4_walk (x0 x1 : Int) (A2 : Option Addr) (n2 k2 : Nat) (xs : List Int) (f a c t an o : Int) (A : Option Addr) (n k : Nat) (vs : List Int) (w : World) (hr2 : Rd w A2 n2 (iv xs)) (hr : Rd w A n (iv vs)) :
    Calls Try.prog 4 #[.int .i64 x0, .int .i64 x1, .slice A2 n2 k2, .agg #[.int .i64 f, .int .i64 a, .int .i64 c, .slice A n k, .int .i64 t, .int .i64 an, .int .i64 o]] w fun e w' => e = .returned (.bool true) ∧ Below w.heap.size w w' := by
  have HR2 := hide hr2
  have HR := hide hr
  clear hr hr2
  cases t1 : decide (x0 < 0)
  case true =>
    go_enter Try.func4, Try.ntmps4
    go_wp2
    go_ret
    exact ⟨rfl, (Below.refl _ _).alloc (Nat.le_refl _) _⟩
  cases t2 : decide (200 < x0)
  case true =>
    go_enter Try.func4, Try.ntmps4
    go_wp2
    go_ret
    exact ⟨rfl, (Below.refl _ _).alloc (Nat.le_refl _) _⟩
  cases t3 : decide (x1 < 0)
  case true =>
    go_enter Try.func4, Try.ntmps4
    go_wp2
    go_ret
    exact ⟨rfl, (Below.refl _ _).alloc (Nat.le_refl _) _⟩
  cases t4 : decide (200 < x1)
  case true =>
    go_enter Try.func4, Try.ntmps4
    go_wp2
    go_ret
    exact ⟨rfl, (Below.refl _ _).alloc (Nat.le_refl _) _⟩
  cases t5 : decide (200 < (n2 : Int))
  case true =>
    go_enter Try.func4, Try.ntmps4
    go_wp2
    go_ret
    exact ⟨rfl, (Below.refl _ _).alloc (Nat.le_refl _) _⟩
  cases t6 : decide (300 < (n : Int))
  case true =>
    go_enter Try.func4, Try.ntmps4
    go_wp2
    go_ret
    exact ⟨rfl, (Below.refl _ _).alloc (Nat.le_refl _) _⟩
  obtain ⟨nb, rfl⟩ : ∃ m : Nat, x0 = (m : Int) := ⟨x0.toNat, by simp at t1; omega⟩
  obtain ⟨nw, rfl⟩ : ∃ m : Nat, x1 = (m : Int) := ⟨x1.toNat, by simp at t3; omega⟩
  have hnb : nb ≤ 200 := by simp at t2; omega
  have hnw : nw ≤ 200 := by simp at t4; omega
  have hn2 : n2 ≤ 200 := by simp at t5; omega
  have hn : n ≤ 300 := by simp at t6; omega
  have HM := hide (fun W (b : Below w.heap.size w W) => refMay_any f a c t an o A n k vs W (HR.out.keep b) (by omega))
  have HZ := hide (Blk.new w 34 [.int .i64 f, .int .i64 a, .int .i64 c, .slice A n k, .int .i64 t, .int .i64 an, .int .i64 o])
  have HBV := hide (show Below w.heap.size w (w.alloc (.cells #[.int .i64 f, .int .i64 a, .int .i64 c, .slice A n k, .int .i64 t, .int .i64 an, .int .i64 o] 34)) from (Below.refl _ _).alloc (Nat.le_refl _) _)
  cases hM : mayB f a c vs t an o
  case false =>
    rw [hM] at HM
    clear hM
    go_enter Try.func4, Try.ntmps4
    go_wp2_with fail
    refine (HM.out _ HBV.out).mono ?_
    rintro e w1 ⟨rfl, b1⟩
    go_wp2
    go_ret
    exact ⟨rfl, below_on HBV.out b1⟩
  rw [hM] at HM
  have HMB := hide hM
  clear hM
  go_enter Try.func4, Try.ntmps4
  go_wp2_with fail
  refine (HM.out _ HBV.out).mono ?_
  rintro e w1 ⟨rfl, b1⟩
  have L1 := hide (below_on HBV.out b1)
  have Z1 := hide (HZ.out.keep b1)
  clear b1 HZ HBV HM t1 t2 t3 t4 t5 t6
  go_wp2_with fail
  refine (sNew_ok _ _ nb nw rfl rfl (by omega) (by omega) w1).mono ?_
  rintro e w2 ⟨g, b, rfl, s2, b2⟩
  have A0 : Hid (Ahead nb nw w1.heap.size w2.heap.size g b w _ (newR nb nw) w2) := hide ⟨s2, newR_well nb nw (by omega) (by omega), fun _ => rfl, below_on L1.out b2, Z1.out.keep b2⟩
  have G1 := hide (show w.heap.size < w1.heap.size from Z1.out.lt)
  have G2 := hide b2.size
  clear s2 b2 L1 Z1
  go_wp2_with fail
  go_loopw [11] (fun x wr => ∃ (i : Nat) (R : Nat → List Int), i ≤ n2 ∧ x = .int .i64 (i : Int) ∧ Ahead nb nw w1.heap.size w2.heap.size g b w [.int .i64 f, .int .i64 a, .int .i64 c, .slice A n k, .int .i64 t, .int .i64 an, .int .i64 o] R wr) (fun x _ => n2 - (intOf x).toNat)
  case atStart => exact ⟨0, _, by omega, rfl, A0.out⟩
  case round =>
    obtain ⟨i, R, hi, rfl, hA⟩ := hrel
    have HA := hide hA
    clear hA A0
    by_cases hlt : i < n2
    · obtain ⟨ba, oa, rfl, hbl, hc⟩ := HR2.out.at_ hlt
      have hl2 : xs.length = n2 := by rw [← iv_length]; exact HR2.out.1
      have hlt' : i < xs.length := by rw [hl2]; exact hlt
      have c0 : wr.cell? ⟨ba, oa + i, none⟩ = some (.int .i64 xs[i]) := (HA.out.2.2.2.1.cell (p := ⟨ba, oa + i, none⟩) hbl).trans (hc i _ (iv_get xs i hlt'))
      generalize xs[i] = y at *
      have q : (i : Int) < (n2 : Int) := by omega
      clear hc hl2 hlt'
      go_wp2_with fail
      refine (sSet_some _ _ g b R _ _ _ wr HA.out.1 HA.out.2.1).mono ?_
      rintro e w3 ⟨v, R', rfl, s3, hw3, hl3, o3⟩
      have A1 : Hid (Ahead nb nw w1.heap.size w2.heap.size g b w _ R' w3) := hide ⟨s3, hw3, fun k => (hl3 k).trans (HA.out.2.2.1 k), below_out HA.out.2.2.2.1 o3 (by have := G1.out; omega) HA.out.2.2.2.1.size, HA.out.2.2.2.2.out o3 (Or.inl G1.out)⟩
      clear s3 hw3 hl3 o3 c0
      go_wp2_with fail
      go_roundw
      case rel => exact ⟨i + 1, R', by omega, by go_num, A1.out⟩
      case measure => simp [intOf]; omega
    · have q : ¬ (i : Int) < (n2 : Int) := by omega
      go_wp2_with fail
      refine (rNew_ok _ _ nb nw rfl rfl (by omega) (by omega) wr).mono ?_
      rintro e w3 ⟨g2, b2, rfl, s3, b3⟩
      obtain ⟨hA1, hwR, hlR, hA2, hA3⟩ := HA.out
      have C0 : Hid (Copy w1.heap.size w2.heap.size g b wr.heap.size w3.heap.size g2 b2 w [.int .i64 f, .int .i64 a, .int .i64 c, .slice A n k, .int .i64 t, .int .i64 an, .int .i64 o] R (mixR R (newR nb nw) 0 0) w3) := hide ⟨hA1.keep b3, by rw [mix_zero]; exact s3, below_on hA2 b3, hA3.keep b3⟩
      have G3 := hide (show w2.heap.size ≤ wr.heap.size from hA1.hi)
      have HWR := hide hwR
      have HLR := hide hlR
      clear hA1 hA2 hA3 hwR hlR HA s3 b3 hlt hi q
      generalize wr.heap.size = lo2 at *
      generalize w3.heap.size = hi2 at *
      go_wp2_with fail
      go_loopw [14] (fun x wr => ∃ k' : Nat, k' ≤ 4 ∧ x = .int .i64 ((k' : Int) + 1) ∧ Copy w1.heap.size w2.heap.size g b lo2 hi2 g2 b2 w [.int .i64 f, .int .i64 a, .int .i64 c, .slice A n k, .int .i64 t, .int .i64 an, .int .i64 o] R (mixR R (newR nb nw) k' 0) wr) (fun x _ => 5 - (intOf x).toNat)
      case atStart => exact ⟨0, by omega, rfl, C0.out⟩
      case round =>
        obtain ⟨kk, hk, rfl, hC⟩ := hrel
        have HC := hide hC
        clear hC C0
        by_cases hlt : kk < 4
        · have hL := (HWR.out kk hlt).1
          have q : decide ((kk : Int) + 1 ≤ 4) = true := by simp; omega
          have k0 : 0 ≤ (kk : Int) := by omega
          have k4 : (kk : Int) < 4 := by omega
          go_wp2_with fail
          go_loopw [15] (fun x wr => ∃ i : Nat, i ≤ (R kk).length ∧ x = .int .i64 (i : Int) ∧ Copy w1.heap.size w2.heap.size g b lo2 hi2 g2 b2 w [.int .i64 f, .int .i64 a, .int .i64 c, .slice A n k, .int .i64 t, .int .i64 an, .int .i64 o] R (mixR R (newR nb nw) kk i) wr) (fun x _ => (R kk).length - (intOf x).toNat)
          case atStart => exact ⟨0, by omega, rfl, HC.out⟩
          case round =>
            obtain ⟨j, hj, rfl, hC⟩ := hrel
            have HG := hide (fun W h => sGet_any w1.heap.size w2.heap.size g b R ((kk : Int) + 1) (j : Int) W h HWR.out)
            have HD := hide hC
            clear hC HC
            have hml := mix_len R (newR nb nw) kk j kk HLR.out
            have c0 := HD.out.2.1.cellk kk hlt
            rw [hml] at c0
            have HML := hide hml
            clear hml
            by_cases hli : j < (R kk).length
            · rw [getE_row R kk j hlt hli, getV_row R kk j hlt hli] at HG
              have ql : (j : Int) < ((R kk).length : Int) := by omega
              go_wp2_with fail
              refine (HG.out _ HD.out.1).mono ?_
              rintro e w4 ⟨rfl, b4⟩
              have HE := hide (HD.out.on b4)
              clear c0 b4
              have c0 := HE.out.2.1.cellk kk hlt
              rw [HML.out] at c0
              have hli2 : j < (mixR R (newR nb nw) kk j kk).length := by rw [HML.out]; exact hli
              have c1 : w4.cell? ⟨b2 kk, j, none⟩ = some (.int .i64 ((mixR R (newR nb nw) kk j kk)[j])) := by rw [(HE.out.2.1.row kk hlt).cell]; exact iv_get _ _ _
              have cf := (HE.out.2.1.row kk hlt).frozen j
              have hp := HE.out.put G1.out G3.out G2.out kk j hlt hli2 ((R kk)[j])
              rw [mix_step R (newR nb nw) kk j hli HLR.out] at hp
              have HP := hide hp
              generalize (mixR R (newR nb nw) kk j kk)[j] = y0 at c1
              clear hp hli2
              go_wp2_with fail
              go_roundw
              case rel => exact ⟨j + 1, by omega, by go_num, HP.out⟩
              case measure => simp [intOf]; omega
            · obtain rfl : j = (R kk).length := by omega
              have ql : ¬ ((R kk).length : Int) < ((R kk).length : Int) := by omega
              have hp := HD.out
              rw [mix_row _ _ _ (HLR.out kk)] at hp
              have HP := hide hp
              clear hp
              go_wp2_with fail
              go_roundw
              case rel => exact ⟨kk + 1, by omega, by go_num, HP.out⟩
              case measure => simp [intOf]; omega
        · obtain rfl : kk = 4 := by omega
          obtain ⟨d1, d2, d3, d4⟩ := HC.out
          have D1 := hide d1
          have D2 := hide (d2.congr (mix_all R (newR nb nw)))
          have D3 := hide d3
          have D4 := hide d4
          clear HC d1 d2 d3 d4 hlt hk
          have hl : vs.length = n := by rw [← iv_length]; exact HR.out.1
          have HL := hide hl
          clear hl
          have HD0 := hide (fun W h hv => sDo_ok w1.heap.size w2.heap.size g b R f a c t an o A n k vs W h HWR.out hv (by omega) HMB.out)
          obtain ⟨i0, i1, i2, i3, i4, i5, i6⟩ := D4.out.seven
          go_wp2_with fail
          refine (HD0.out wr D1.out (HR.out.keep D3.out)).mono ?_
          rintro e w6 ⟨C6, m6, rfl, lm, rC, nC, s6, o6⟩
          have E1 := hide s6
          have E2 := hide (D2.out.out o6 (Or.inr G3.out))
          have E3 := hide (below_out D3.out o6 (Nat.le_of_lt G1.out) D3.out.size)
          have E4 := hide (D4.out.out o6 (Or.inl G1.out))
          clear i0 i1 i2 i3 i4 i5 i6 lm rC nC s6 o6 D1 D2 D3 D4 HD0
          obtain ⟨i0, i1, i2, i3, i4, i5, i6⟩ := E4.out.seven
          have zlt := E4.out.lt
          cases hG : goesB R f a c n t
          · have ec : doC R f a c n t = 2 := by simp [doC, hG]
            have er : doR R f a c vs t an o = R := by simp [doR, HL.out, hG]
            rw [ec]
            rw [er] at E1
            clear hG ec er
            go_wp2_with fail
            clear i0 i1 i2 i3 i4 i5 i6 zlt
            generalize hV : w6.alloc _ = V6'
            have bV : Below w6.heap.size w6 V6' := by subst hV; exact (Below.refl _ _).alloc (Nat.le_refl _) _
            have F1 := hide (E1.out.keep bV)
            have F2 := hide (E2.out.keep bV)
            have F3 := hide (below_on E3.out bV)
            clear hV bV
            refine (awake4_any _).mono ?_
            rintro e w7 ⟨rfl, b7⟩
            have J1 := hide (F1.out.keep b7)
            have J2 := hide (F2.out.keep b7)
            have J3 := hide (below_on F3.out b7)
            clear b7
            go_wp2_with fail
            refine (all4_any _ _ g b _ _ g2 b2 R _ J1.out J2.out HWR.out).mono ?_
            rintro e w8 ⟨rfl, b8⟩
            go_wp2
            go_ret
            exact ⟨rfl, below_on J3.out b8⟩
          · have ec : doC R f a c n t = 0 := by simp [doC, hG]
            have er : doR R f a c vs t an o = nextR R f a vs t an o := by simp [doR, HL.out, hG]
            rw [ec]
            rw [er] at E1
            have HGG := hide hG
            clear hG ec er
            by_cases hf : f ≤ 4
            · have en : nextR R f a vs t an o = R := by
                have := may_f HMB.out
                unfold nextR
                rw [if_neg (by omega), if_neg (by omega), if_neg (by omega)]
              rw [en] at E1
              clear en
              go_wp2_with fail
              clear i0 i1 i2 i3 i4 i5 i6 zlt
              generalize hV : w6.alloc _ = V6'
              have bV : Below w6.heap.size w6 V6' := by subst hV; exact (Below.refl _ _).alloc (Nat.le_refl _) _
              have F1 := hide (E1.out.keep bV)
              have F2 := hide (E2.out.keep bV)
              have F3 := hide (below_on E3.out bV)
              clear hV bV
              refine (awake4_any _).mono ?_
              rintro e w7 ⟨rfl, b7⟩
              have J1 := hide (F1.out.keep b7)
              have J2 := hide (F2.out.keep b7)
              have J3 := hide (below_on F3.out b7)
              clear b7
              go_wp2_with fail
              refine (all4_any _ _ g b _ _ g2 b2 R _ J1.out J2.out HWR.out).mono ?_
              rintro e w8 ⟨rfl, b8⟩
              go_wp2
              go_ret
              exact ⟨rfl, below_on J3.out b8⟩
            · obtain ⟨kk, to_, us, hk4, hkk, hto, hnx, hfit, hus, huv⟩ := next_wr HL.out HMB.out HGG.out (by omega) HWR.out
              have HWN := hide (well_next (vs := vs) HWR.out HMB.out (by have := goesB_wr HGG.out; rw [HL.out]; exact this))
              rw [hnx] at E1 HWN
              have HUV := hide huv
              have HUS := hide hus
              have HFIT := hide hfit
              clear hnx huv hus hfit HGG
              generalize doV R f a c vs t an o = V6 at *
              rcases may_f HMB.out with rfl | rfl | rfl | rfl | rfl | rfl | rfl | rfl | rfl | rfl
              · omega
              · omega
              · omega
              · omega
              · skip
                have qm : ¬ ((n : Int) < 1) := by have := may_one HMB.out (by omega) (by omega); have := HL.out; omega
                obtain rfl : kk = 0 := by simp at hkk; omega
                have HB := hide (fun W => bit_any 5 W)
                rw [show bitF 5 = true from rfl] at HB
                obtain rfl : a = (to_ : Int) := by simpa using hto.symm
                clear hto hkk
                (have euv := HUV.out (by omega); subst euv; clear HUV)
                have hL := (HWR.out 0 (by omega)).1
                have hfit := HFIT.out
                have hkkl : us.length = n := (by have := HUS.out; omega)
                have HKL := hide hkkl
                clear hkkl
                have C6' : Hid (Copy w1.heap.size w2.heap.size g b lo2 hi2 g2 b2 w [.int .i64 5, .int .i64 (to_ : Int), .int .i64 c, .slice A n k, .int .i64 t, .int .i64 an, .int .i64 o] (upd R 0 (over (R 0) to_ us)) (upd R 0 (over (R 0) to_ (us.take 0))) w6) := hide ⟨E1.out, by rw [List.take_zero, over_nil, upd_self]; exact E2.out, E3.out, E4.out⟩
                go_wp2_with fail
                refine (HB.out _).mono ?_
                rintro e w7 ⟨rfl, rfl⟩
                go_wp2_with fail
                clear i0 i1 i2 i3 i4 i5 i6 zlt
                generalize hV : w6.alloc _ = V6'
                have bV : Below w6.heap.size w6 V6' := by subst hV; exact (Below.refl _ _).alloc (Nat.le_refl _) _
                have C7 := hide (C6'.out.on bV)
                clear hV bV C6' E1 E2 E3 E4
                go_loopw [23] (fun x wr => ∃ j : Nat, j ≤ us.length ∧ x = .int .i64 (j : Int) ∧ Copy w1.heap.size w2.heap.size g b lo2 hi2 g2 b2 w [.int .i64 5, .int .i64 (to_ : Int), .int .i64 c, .slice A n k, .int .i64 t, .int .i64 an, .int .i64 o] (upd R 0 (over (R 0) to_ us)) (upd R 0 (over (R 0) to_ (us.take j))) wr) (fun x _ => us.length - (intOf x).toNat)
                case atStart => exact ⟨0, by omega, rfl, C7.out⟩
                case round =>
                  obtain ⟨j, hj, rfl, hC⟩ := hrel
                  have HC := hide hC
                  clear hC C7
                  by_cases hlj : j < us.length
                  · have hjn : j < n := by have := HKL.out; omega
                    have q : (j : Int) < (n : Int) := by omega
                    have HG := hide (fun W h => get_wr w1.heap.size w2.heap.size g b R 0 to_ us j (by omega) HFIT.out hlj HWN.out 1 ((to_ : Int) + (j : Int)) rfl rfl W h)
                    go_wp2_with fail
                    refine (HG.out wr HC.out.1).mono ?_
                    rintro e w8 ⟨rfl, b8⟩
                    have HE := hide (HC.out.on b8)
                    clear b8
                    have c0 := HE.out.2.1.cellk 0 (by omega)
                    have el : (upd R 0 (over (R 0) to_ (us.take j)) 0).length = (R 0).length := by
                      rw [upd_same, over_length _ _ _ (by simp; omega)]
                    rw [el] at c0
                    have hli2 : to_ + j < (upd R 0 (over (R 0) to_ (us.take j)) 0).length := by rw [el]; omega
                    have c1 : w8.cell? ⟨b2 0, to_ + j, none⟩ = some (.int .i64 ((upd R 0 (over (R 0) to_ (us.take j)) 0)[to_ + j])) := by rw [(HE.out.2.1.row 0 (by omega)).cell]; exact iv_get _ _ _
                    have cf := (HE.out.2.1.row 0 (by omega)).frozen (to_ + j)
                    have hp := HE.out.put G1.out G3.out G2.out 0 (to_ + j) (by omega) hli2 us[j]
                    rw [upd_upd, upd_same, over_step _ _ _ HFIT.out j hlj] at hp
                    have HP := hide hp
                    generalize (upd R 0 (over (R 0) to_ (us.take j)) 0)[to_ + j] = y0 at c1
                    clear hp hli2 el
                    obtain ⟨i0, i1, i2, i3, i4, i5, i6⟩ := HE.out.2.2.2.seven
                    (obtain ⟨ba, oa, rfl, hbl, hc⟩ := HR.out.at_ hjn; have ca : w8.cell? ⟨ba, oa + j, none⟩ = some (.int .i64 us[j]) := (HE.out.2.2.1.cell (p := ⟨ba, oa + j, none⟩) hbl).trans (hc j _ (iv_get us j hlj)); have qv : (us[j] != us[j]) = false := by simp); clear hc hbl
                    go_wp2_with fail
                    go_roundw
                    case rel => exact ⟨j + 1, by omega, by go_num, HP.out⟩
                    case measure => simp [intOf]; omega
                  · obtain rfl : j = us.length := by omega
                    have q : ¬ ((us.length : Nat) : Int) < (n : Int) := by have := HKL.out; omega
                    have hp := HC.out
                    rw [List.take_length] at hp
                    have HP := hide hp
                    clear hp HC
                    go_wp2_with fail
                    refine (awake4_any _).mono ?_
                    rintro e w8 ⟨rfl, b8⟩
                    have HE := hide (HP.out.on b8)
                    clear b8
                    go_wp2_with fail
                    refine (all4_any _ _ g b _ _ g2 b2 _ _ HE.out.1 HE.out.2.1 HWN.out).mono ?_
                    rintro e w9 ⟨rfl, b9⟩
                    go_wp2
                    go_ret
                    exact ⟨rfl, below_on HE.out.2.2.1 b9⟩
              · skip
                have qm : ¬ ((n : Int) < 1) := by have := may_one HMB.out (by omega) (by omega); have := HL.out; omega
                obtain rfl : kk = 2 := by simp at hkk; omega
                have HB := hide (fun W => bit_any 6 W)
                rw [show bitF 6 = false from rfl] at HB
                obtain rfl : a = (to_ : Int) := by simpa using hto.symm
                clear hto hkk
                (have euv := HUV.out (by omega); subst euv; clear HUV)
                have hL := (HWR.out 2 (by omega)).1
                have hfit := HFIT.out
                have hkkl : us.length = n := (by have := HUS.out; omega)
                have HKL := hide hkkl
                clear hkkl
                have C6' : Hid (Copy w1.heap.size w2.heap.size g b lo2 hi2 g2 b2 w [.int .i64 6, .int .i64 (to_ : Int), .int .i64 c, .slice A n k, .int .i64 t, .int .i64 an, .int .i64 o] (upd R 2 (over (R 2) to_ us)) (upd R 2 (over (R 2) to_ (us.take 0))) w6) := hide ⟨E1.out, by rw [List.take_zero, over_nil, upd_self]; exact E2.out, E3.out, E4.out⟩
                go_wp2_with fail
                refine (HB.out _).mono ?_
                rintro e w7 ⟨rfl, rfl⟩
                go_wp2_with fail
                clear i0 i1 i2 i3 i4 i5 i6 zlt
                generalize hV : w6.alloc _ = V6'
                have bV : Below w6.heap.size w6 V6' := by subst hV; exact (Below.refl _ _).alloc (Nat.le_refl _) _
                have C7 := hide (C6'.out.on bV)
                clear hV bV C6' E1 E2 E3 E4
                go_loopw [23] (fun x wr => ∃ j : Nat, j ≤ us.length ∧ x = .int .i64 (j : Int) ∧ Copy w1.heap.size w2.heap.size g b lo2 hi2 g2 b2 w [.int .i64 6, .int .i64 (to_ : Int), .int .i64 c, .slice A n k, .int .i64 t, .int .i64 an, .int .i64 o] (upd R 2 (over (R 2) to_ us)) (upd R 2 (over (R 2) to_ (us.take j))) wr) (fun x _ => us.length - (intOf x).toNat)
                case atStart => exact ⟨0, by omega, rfl, C7.out⟩
                case round =>
                  obtain ⟨j, hj, rfl, hC⟩ := hrel
                  have HC := hide hC
                  clear hC C7
                  by_cases hlj : j < us.length
                  · have hjn : j < n := by have := HKL.out; omega
                    have q : (j : Int) < (n : Int) := by omega
                    have HG := hide (fun W h => get_wr w1.heap.size w2.heap.size g b R 2 to_ us j (by omega) HFIT.out hlj HWN.out 3 ((to_ : Int) + (j : Int)) rfl rfl W h)
                    go_wp2_with fail
                    refine (HG.out wr HC.out.1).mono ?_
                    rintro e w8 ⟨rfl, b8⟩
                    have HE := hide (HC.out.on b8)
                    clear b8
                    have c0 := HE.out.2.1.cellk 2 (by omega)
                    have el : (upd R 2 (over (R 2) to_ (us.take j)) 2).length = (R 2).length := by
                      rw [upd_same, over_length _ _ _ (by simp; omega)]
                    rw [el] at c0
                    have hli2 : to_ + j < (upd R 2 (over (R 2) to_ (us.take j)) 2).length := by rw [el]; omega
                    have c1 : w8.cell? ⟨b2 2, to_ + j, none⟩ = some (.int .i64 ((upd R 2 (over (R 2) to_ (us.take j)) 2)[to_ + j])) := by rw [(HE.out.2.1.row 2 (by omega)).cell]; exact iv_get _ _ _
                    have cf := (HE.out.2.1.row 2 (by omega)).frozen (to_ + j)
                    have hp := HE.out.put G1.out G3.out G2.out 2 (to_ + j) (by omega) hli2 us[j]
                    rw [upd_upd, upd_same, over_step _ _ _ HFIT.out j hlj] at hp
                    have HP := hide hp
                    generalize (upd R 2 (over (R 2) to_ (us.take j)) 2)[to_ + j] = y0 at c1
                    clear hp hli2 el
                    obtain ⟨i0, i1, i2, i3, i4, i5, i6⟩ := HE.out.2.2.2.seven
                    (obtain ⟨ba, oa, rfl, hbl, hc⟩ := HR.out.at_ hjn; have ca : w8.cell? ⟨ba, oa + j, none⟩ = some (.int .i64 us[j]) := (HE.out.2.2.1.cell (p := ⟨ba, oa + j, none⟩) hbl).trans (hc j _ (iv_get us j hlj)); have qv : (us[j] != us[j]) = false := by simp); clear hc hbl
                    go_wp2_with fail
                    go_roundw
                    case rel => exact ⟨j + 1, by omega, by go_num, HP.out⟩
                    case measure => simp [intOf]; omega
                  · obtain rfl : j = us.length := by omega
                    have q : ¬ ((us.length : Nat) : Int) < (n : Int) := by have := HKL.out; omega
                    have hp := HC.out
                    rw [List.take_length] at hp
                    have HP := hide hp
                    clear hp HC
                    go_wp2_with fail
                    refine (awake4_any _).mono ?_
                    rintro e w8 ⟨rfl, b8⟩
                    have HE := hide (HP.out.on b8)
                    clear b8
                    go_wp2_with fail
                    refine (all4_any _ _ g b _ _ g2 b2 _ _ HE.out.1 HE.out.2.1 HWN.out).mono ?_
                    rintro e w9 ⟨rfl, b9⟩
                    go_wp2
                    go_ret
                    exact ⟨rfl, below_on HE.out.2.2.1 b9⟩
              · skip
                have qm : ¬ ((n : Int) < 1) := by have := may_one HMB.out (by omega) (by omega); have := HL.out; omega
                obtain rfl : kk = 0 := by simp at hkk; omega
                have HB := hide (fun W => bit_any 15 W)
                rw [show bitF 15 = true from rfl] at HB
                obtain rfl : a = (to_ : Int) := by simpa using hto.symm
                clear hto hkk
                (have euv := HUV.out (by omega); subst euv; clear HUV)
                have hL := (HWR.out 0 (by omega)).1
                have hfit := HFIT.out
                have hkkl : us.length = n := (by have := HUS.out; omega)
                have HKL := hide hkkl
                clear hkkl
                have C6' : Hid (Copy w1.heap.size w2.heap.size g b lo2 hi2 g2 b2 w [.int .i64 15, .int .i64 (to_ : Int), .int .i64 c, .slice A n k, .int .i64 t, .int .i64 an, .int .i64 o] (upd R 0 (over (R 0) to_ us)) (upd R 0 (over (R 0) to_ (us.take 0))) w6) := hide ⟨E1.out, by rw [List.take_zero, over_nil, upd_self]; exact E2.out, E3.out, E4.out⟩
                go_wp2_with fail
                refine (HB.out _).mono ?_
                rintro e w7 ⟨rfl, rfl⟩
                go_wp2_with fail
                clear i0 i1 i2 i3 i4 i5 i6 zlt
                generalize hV : w6.alloc _ = V6'
                have bV : Below w6.heap.size w6 V6' := by subst hV; exact (Below.refl _ _).alloc (Nat.le_refl _) _
                have C7 := hide (C6'.out.on bV)
                clear hV bV C6' E1 E2 E3 E4
                go_loopw [23] (fun x wr => ∃ j : Nat, j ≤ us.length ∧ x = .int .i64 (j : Int) ∧ Copy w1.heap.size w2.heap.size g b lo2 hi2 g2 b2 w [.int .i64 15, .int .i64 (to_ : Int), .int .i64 c, .slice A n k, .int .i64 t, .int .i64 an, .int .i64 o] (upd R 0 (over (R 0) to_ us)) (upd R 0 (over (R 0) to_ (us.take j))) wr) (fun x _ => us.length - (intOf x).toNat)
                case atStart => exact ⟨0, by omega, rfl, C7.out⟩
                case round =>
                  obtain ⟨j, hj, rfl, hC⟩ := hrel
                  have HC := hide hC
                  clear hC C7
                  by_cases hlj : j < us.length
                  · have hjn : j < n := by have := HKL.out; omega
                    have q : (j : Int) < (n : Int) := by omega
                    have HG := hide (fun W h => get_wr w1.heap.size w2.heap.size g b R 0 to_ us j (by omega) HFIT.out hlj HWN.out 1 ((to_ : Int) + (j : Int)) rfl rfl W h)
                    go_wp2_with fail
                    refine (HG.out wr HC.out.1).mono ?_
                    rintro e w8 ⟨rfl, b8⟩
                    have HE := hide (HC.out.on b8)
                    clear b8
                    have c0 := HE.out.2.1.cellk 0 (by omega)
                    have el : (upd R 0 (over (R 0) to_ (us.take j)) 0).length = (R 0).length := by
                      rw [upd_same, over_length _ _ _ (by simp; omega)]
                    rw [el] at c0
                    have hli2 : to_ + j < (upd R 0 (over (R 0) to_ (us.take j)) 0).length := by rw [el]; omega
                    have c1 : w8.cell? ⟨b2 0, to_ + j, none⟩ = some (.int .i64 ((upd R 0 (over (R 0) to_ (us.take j)) 0)[to_ + j])) := by rw [(HE.out.2.1.row 0 (by omega)).cell]; exact iv_get _ _ _
                    have cf := (HE.out.2.1.row 0 (by omega)).frozen (to_ + j)
                    have hp := HE.out.put G1.out G3.out G2.out 0 (to_ + j) (by omega) hli2 us[j]
                    rw [upd_upd, upd_same, over_step _ _ _ HFIT.out j hlj] at hp
                    have HP := hide hp
                    generalize (upd R 0 (over (R 0) to_ (us.take j)) 0)[to_ + j] = y0 at c1
                    clear hp hli2 el
                    obtain ⟨i0, i1, i2, i3, i4, i5, i6⟩ := HE.out.2.2.2.seven
                    (obtain ⟨ba, oa, rfl, hbl, hc⟩ := HR.out.at_ hjn; have ca : w8.cell? ⟨ba, oa + j, none⟩ = some (.int .i64 us[j]) := (HE.out.2.2.1.cell (p := ⟨ba, oa + j, none⟩) hbl).trans (hc j _ (iv_get us j hlj)); have qv : (us[j] != us[j]) = false := by simp); clear hc hbl
                    go_wp2_with fail
                    go_roundw
                    case rel => exact ⟨j + 1, by omega, by go_num, HP.out⟩
                    case measure => simp [intOf]; omega
                  · obtain rfl : j = us.length := by omega
                    have q : ¬ ((us.length : Nat) : Int) < (n : Int) := by have := HKL.out; omega
                    have hp := HC.out
                    rw [List.take_length] at hp
                    have HP := hide hp
                    clear hp HC
                    go_wp2_with fail
                    refine (awake4_any _).mono ?_
                    rintro e w8 ⟨rfl, b8⟩
                    have HE := hide (HP.out.on b8)
                    clear b8
                    go_wp2_with fail
                    refine (all4_any _ _ g b _ _ g2 b2 _ _ HE.out.1 HE.out.2.1 HWN.out).mono ?_
                    rintro e w9 ⟨rfl, b9⟩
                    go_wp2
                    go_ret
                    exact ⟨rfl, below_on HE.out.2.2.1 b9⟩
              · skip
                have qm : ¬ ((n : Int) < 1) := by have := may_one HMB.out (by omega) (by omega); have := HL.out; omega
                obtain rfl : kk = 2 := by simp at hkk; omega
                have HB := hide (fun W => bit_any 16 W)
                rw [show bitF 16 = false from rfl] at HB
                obtain rfl : a = (to_ : Int) := by simpa using hto.symm
                clear hto hkk
                (have euv := HUV.out (by omega); subst euv; clear HUV)
                have hL := (HWR.out 2 (by omega)).1
                have hfit := HFIT.out
                have hkkl : us.length = n := (by have := HUS.out; omega)
                have HKL := hide hkkl
                clear hkkl
                have C6' : Hid (Copy w1.heap.size w2.heap.size g b lo2 hi2 g2 b2 w [.int .i64 16, .int .i64 (to_ : Int), .int .i64 c, .slice A n k, .int .i64 t, .int .i64 an, .int .i64 o] (upd R 2 (over (R 2) to_ us)) (upd R 2 (over (R 2) to_ (us.take 0))) w6) := hide ⟨E1.out, by rw [List.take_zero, over_nil, upd_self]; exact E2.out, E3.out, E4.out⟩
                go_wp2_with fail
                refine (HB.out _).mono ?_
                rintro e w7 ⟨rfl, rfl⟩
                go_wp2_with fail
                clear i0 i1 i2 i3 i4 i5 i6 zlt
                generalize hV : w6.alloc _ = V6'
                have bV : Below w6.heap.size w6 V6' := by subst hV; exact (Below.refl _ _).alloc (Nat.le_refl _) _
                have C7 := hide (C6'.out.on bV)
                clear hV bV C6' E1 E2 E3 E4
                go_loopw [23] (fun x wr => ∃ j : Nat, j ≤ us.length ∧ x = .int .i64 (j : Int) ∧ Copy w1.heap.size w2.heap.size g b lo2 hi2 g2 b2 w [.int .i64 16, .int .i64 (to_ : Int), .int .i64 c, .slice A n k, .int .i64 t, .int .i64 an, .int .i64 o] (upd R 2 (over (R 2) to_ us)) (upd R 2 (over (R 2) to_ (us.take j))) wr) (fun x _ => us.length - (intOf x).toNat)
                case atStart => exact ⟨0, by omega, rfl, C7.out⟩
                case round =>
                  obtain ⟨j, hj, rfl, hC⟩ := hrel
                  have HC := hide hC
                  clear hC C7
                  by_cases hlj : j < us.length
                  · have hjn : j < n := by have := HKL.out; omega
                    have q : (j : Int) < (n : Int) := by omega
                    have HG := hide (fun W h => get_wr w1.heap.size w2.heap.size g b R 2 to_ us j (by omega) HFIT.out hlj HWN.out 3 ((to_ : Int) + (j : Int)) rfl rfl W h)
                    go_wp2_with fail
                    refine (HG.out wr HC.out.1).mono ?_
                    rintro e w8 ⟨rfl, b8⟩
                    have HE := hide (HC.out.on b8)
                    clear b8
                    have c0 := HE.out.2.1.cellk 2 (by omega)
                    have el : (upd R 2 (over (R 2) to_ (us.take j)) 2).length = (R 2).length := by
                      rw [upd_same, over_length _ _ _ (by simp; omega)]
                    rw [el] at c0
                    have hli2 : to_ + j < (upd R 2 (over (R 2) to_ (us.take j)) 2).length := by rw [el]; omega
                    have c1 : w8.cell? ⟨b2 2, to_ + j, none⟩ = some (.int .i64 ((upd R 2 (over (R 2) to_ (us.take j)) 2)[to_ + j])) := by rw [(HE.out.2.1.row 2 (by omega)).cell]; exact iv_get _ _ _
                    have cf := (HE.out.2.1.row 2 (by omega)).frozen (to_ + j)
                    have hp := HE.out.put G1.out G3.out G2.out 2 (to_ + j) (by omega) hli2 us[j]
                    rw [upd_upd, upd_same, over_step _ _ _ HFIT.out j hlj] at hp
                    have HP := hide hp
                    generalize (upd R 2 (over (R 2) to_ (us.take j)) 2)[to_ + j] = y0 at c1
                    clear hp hli2 el
                    obtain ⟨i0, i1, i2, i3, i4, i5, i6⟩ := HE.out.2.2.2.seven
                    (obtain ⟨ba, oa, rfl, hbl, hc⟩ := HR.out.at_ hjn; have ca : w8.cell? ⟨ba, oa + j, none⟩ = some (.int .i64 us[j]) := (HE.out.2.2.1.cell (p := ⟨ba, oa + j, none⟩) hbl).trans (hc j _ (iv_get us j hlj)); have qv : (us[j] != us[j]) = false := by simp); clear hc hbl
                    go_wp2_with fail
                    go_roundw
                    case rel => exact ⟨j + 1, by omega, by go_num, HP.out⟩
                    case measure => simp [intOf]; omega
                  · obtain rfl : j = us.length := by omega
                    have q : ¬ ((us.length : Nat) : Int) < (n : Int) := by have := HKL.out; omega
                    have hp := HC.out
                    rw [List.take_length] at hp
                    have HP := hide hp
                    clear hp HC
                    go_wp2_with fail
                    refine (awake4_any _).mono ?_
                    rintro e w8 ⟨rfl, b8⟩
                    have HE := hide (HP.out.on b8)
                    clear b8
                    go_wp2_with fail
                    refine (all4_any _ _ g b _ _ g2 b2 _ _ HE.out.1 HE.out.2.1 HWN.out).mono ?_
                    rintro e w9 ⟨rfl, b9⟩
                    go_wp2
                    go_ret
                    exact ⟨rfl, below_on HE.out.2.2.1 b9⟩
              · skip
                obtain rfl : n = 0 := by have := may_read HMB.out (by omega); have := HL.out; omega
                obtain rfl : kk = 2 := by simp at hkk; omega
                have HB := hide (fun W => bit_any 22 W)
                rw [show bitF 22 = false from rfl] at HB
                obtain rfl : a = (to_ : Int) := by simpa using hto.symm
                clear hto hkk
                skip
                have hL := (HWR.out 2 (by omega)).1
                have hfit := HFIT.out
                have hkkl : us.length = 1 := (by have := HUS.out; omega)
                have HKL := hide hkkl
                clear hkkl
                have C6' : Hid (Copy w1.heap.size w2.heap.size g b lo2 hi2 g2 b2 w [.int .i64 22, .int .i64 (to_ : Int), .int .i64 c, .slice A 0 k, .int .i64 t, .int .i64 an, .int .i64 o] (upd R 2 (over (R 2) to_ us)) (upd R 2 (over (R 2) to_ (us.take 0))) w6) := hide ⟨E1.out, by rw [List.take_zero, over_nil, upd_self]; exact E2.out, E3.out, E4.out⟩
                go_wp2_with fail
                refine (HB.out _).mono ?_
                rintro e w7 ⟨rfl, rfl⟩
                go_wp2_with fail
                clear i0 i1 i2 i3 i4 i5 i6 zlt
                generalize hV : w6.alloc _ = V6'
                have bV : Below w6.heap.size w6 V6' := by subst hV; exact (Below.refl _ _).alloc (Nat.le_refl _) _
                have C7 := hide (C6'.out.on bV)
                clear hV bV C6' E1 E2 E3 E4
                go_loopw [23] (fun x wr => ∃ j : Nat, j ≤ us.length ∧ x = .int .i64 (j : Int) ∧ Copy w1.heap.size w2.heap.size g b lo2 hi2 g2 b2 w [.int .i64 22, .int .i64 (to_ : Int), .int .i64 c, .slice A 0 k, .int .i64 t, .int .i64 an, .int .i64 o] (upd R 2 (over (R 2) to_ us)) (upd R 2 (over (R 2) to_ (us.take j))) wr) (fun x _ => us.length - (intOf x).toNat)
                case atStart => exact ⟨0, by omega, rfl, C7.out⟩
                case round =>
                  obtain ⟨j, hj, rfl, hC⟩ := hrel
                  have HC := hide hC
                  clear hC C7
                  by_cases hlj : j < us.length
                  · have hjn : j < 1 := by have := HKL.out; omega
                    have q : (j : Int) < (1 : Int) := by omega
                    have HG := hide (fun W h => get_wr w1.heap.size w2.heap.size g b R 2 to_ us j (by omega) HFIT.out hlj HWN.out 3 ((to_ : Int) + (j : Int)) rfl rfl W h)
                    go_wp2_with fail
                    refine (HG.out wr HC.out.1).mono ?_
                    rintro e w8 ⟨rfl, b8⟩
                    have HE := hide (HC.out.on b8)
                    clear b8
                    have c0 := HE.out.2.1.cellk 2 (by omega)
                    have el : (upd R 2 (over (R 2) to_ (us.take j)) 2).length = (R 2).length := by
                      rw [upd_same, over_length _ _ _ (by simp; omega)]
                    rw [el] at c0
                    have hli2 : to_ + j < (upd R 2 (over (R 2) to_ (us.take j)) 2).length := by rw [el]; omega
                    have c1 : w8.cell? ⟨b2 2, to_ + j, none⟩ = some (.int .i64 ((upd R 2 (over (R 2) to_ (us.take j)) 2)[to_ + j])) := by rw [(HE.out.2.1.row 2 (by omega)).cell]; exact iv_get _ _ _
                    have cf := (HE.out.2.1.row 2 (by omega)).frozen (to_ + j)
                    have hp := HE.out.put G1.out G3.out G2.out 2 (to_ + j) (by omega) hli2 us[j]
                    rw [upd_upd, upd_same, over_step _ _ _ HFIT.out j hlj] at hp
                    have HP := hide hp
                    generalize (upd R 2 (over (R 2) to_ (us.take j)) 2)[to_ + j] = y0 at c1
                    clear hp hli2 el
                    obtain ⟨i0, i1, i2, i3, i4, i5, i6⟩ := HE.out.2.2.2.seven
                    skip
                    go_wp2_with fail
                    go_roundw
                    case rel => exact ⟨j + 1, by omega, by go_num, HP.out⟩
                    case measure => simp [intOf]; omega
                  · obtain rfl : j = us.length := by omega
                    have q : ¬ ((us.length : Nat) : Int) < (1 : Int) := by have := HKL.out; omega
                    have hp := HC.out
                    rw [List.take_length] at hp
                    have HP := hide hp
                    clear hp HC
                    go_wp2_with fail
                    refine (awake4_any _).mono ?_
                    rintro e w8 ⟨rfl, b8⟩
                    have HE := hide (HP.out.on b8)
                    clear b8
                    go_wp2_with fail
                    refine (all4_any _ _ g b _ _ g2 b2 _ _ HE.out.1 HE.out.2.1 HWN.out).mono ?_
                    rintro e w9 ⟨rfl, b9⟩
                    go_wp2
                    go_ret
                    exact ⟨rfl, below_on HE.out.2.2.1 b9⟩
              · skip
                have qm : ¬ ((n : Int) < 1) := by have := may_one HMB.out (by omega) (by omega); have := HL.out; omega
                obtain rfl : kk = 2 := by simp at hkk; omega
                have HB := hide (fun W => bit_any 23 W)
                rw [show bitF 23 = false from rfl] at HB
                obtain rfl : t = (to_ : Int) := by simpa using hto.symm
                clear hto hkk
                (have euv := HUV.out (by omega); subst euv; clear HUV)
                have hL := (HWR.out 2 (by omega)).1
                have hfit := HFIT.out
                have hkkl : us.length = n := (by have := HUS.out; omega)
                have HKL := hide hkkl
                clear hkkl
                have C6' : Hid (Copy w1.heap.size w2.heap.size g b lo2 hi2 g2 b2 w [.int .i64 23, .int .i64 a, .int .i64 c, .slice A n k, .int .i64 (to_ : Int), .int .i64 an, .int .i64 o] (upd R 2 (over (R 2) to_ us)) (upd R 2 (over (R 2) to_ (us.take 0))) w6) := hide ⟨E1.out, by rw [List.take_zero, over_nil, upd_self]; exact E2.out, E3.out, E4.out⟩
                go_wp2_with fail
                refine (HB.out _).mono ?_
                rintro e w7 ⟨rfl, rfl⟩
                go_wp2_with fail
                clear i0 i1 i2 i3 i4 i5 i6 zlt
                generalize hV : w6.alloc _ = V6'
                have bV : Below w6.heap.size w6 V6' := by subst hV; exact (Below.refl _ _).alloc (Nat.le_refl _) _
                have C7 := hide (C6'.out.on bV)
                clear hV bV C6' E1 E2 E3 E4
                go_loopw [23] (fun x wr => ∃ j : Nat, j ≤ us.length ∧ x = .int .i64 (j : Int) ∧ Copy w1.heap.size w2.heap.size g b lo2 hi2 g2 b2 w [.int .i64 23, .int .i64 a, .int .i64 c, .slice A n k, .int .i64 (to_ : Int), .int .i64 an, .int .i64 o] (upd R 2 (over (R 2) to_ us)) (upd R 2 (over (R 2) to_ (us.take j))) wr) (fun x _ => us.length - (intOf x).toNat)
                case atStart => exact ⟨0, by omega, rfl, C7.out⟩
                case round =>
                  obtain ⟨j, hj, rfl, hC⟩ := hrel
                  have HC := hide hC
                  clear hC C7
                  by_cases hlj : j < us.length
                  · have hjn : j < n := by have := HKL.out; omega
                    have q : (j : Int) < (n : Int) := by omega
                    have HG := hide (fun W h => get_wr w1.heap.size w2.heap.size g b R 2 to_ us j (by omega) HFIT.out hlj HWN.out 3 ((to_ : Int) + (j : Int)) rfl rfl W h)
                    go_wp2_with fail
                    refine (HG.out wr HC.out.1).mono ?_
                    rintro e w8 ⟨rfl, b8⟩
                    have HE := hide (HC.out.on b8)
                    clear b8
                    have c0 := HE.out.2.1.cellk 2 (by omega)
                    have el : (upd R 2 (over (R 2) to_ (us.take j)) 2).length = (R 2).length := by
                      rw [upd_same, over_length _ _ _ (by simp; omega)]
                    rw [el] at c0
                    have hli2 : to_ + j < (upd R 2 (over (R 2) to_ (us.take j)) 2).length := by rw [el]; omega
                    have c1 : w8.cell? ⟨b2 2, to_ + j, none⟩ = some (.int .i64 ((upd R 2 (over (R 2) to_ (us.take j)) 2)[to_ + j])) := by rw [(HE.out.2.1.row 2 (by omega)).cell]; exact iv_get _ _ _
                    have cf := (HE.out.2.1.row 2 (by omega)).frozen (to_ + j)
                    have hp := HE.out.put G1.out G3.out G2.out 2 (to_ + j) (by omega) hli2 us[j]
                    rw [upd_upd, upd_same, over_step _ _ _ HFIT.out j hlj] at hp
                    have HP := hide hp
                    generalize (upd R 2 (over (R 2) to_ (us.take j)) 2)[to_ + j] = y0 at c1
                    clear hp hli2 el
                    obtain ⟨i0, i1, i2, i3, i4, i5, i6⟩ := HE.out.2.2.2.seven
                    (obtain ⟨ba, oa, rfl, hbl, hc⟩ := HR.out.at_ hjn; have ca : w8.cell? ⟨ba, oa + j, none⟩ = some (.int .i64 us[j]) := (HE.out.2.2.1.cell (p := ⟨ba, oa + j, none⟩) hbl).trans (hc j _ (iv_get us j hlj)); have qv : (us[j] != us[j]) = false := by simp); clear hc hbl
                    go_wp2_with fail
                    go_roundw
                    case rel => exact ⟨j + 1, by omega, by go_num, HP.out⟩
                    case measure => simp [intOf]; omega
                  · obtain rfl : j = us.length := by omega
                    have q : ¬ ((us.length : Nat) : Int) < (n : Int) := by have := HKL.out; omega
                    have hp := HC.out
                    rw [List.take_length] at hp
                    have HP := hide hp
                    clear hp HC
                    go_wp2_with fail
                    refine (awake4_any _).mono ?_
                    rintro e w8 ⟨rfl, b8⟩
                    have HE := hide (HP.out.on b8)
                    clear b8
                    go_wp2_with fail
                    refine (all4_any _ _ g b _ _ g2 b2 _ _ HE.out.1 HE.out.2.1 HWN.out).mono ?_
                    rintro e w9 ⟨rfl, b9⟩
                    go_wp2
                    go_ret
                    exact ⟨rfl, below_on HE.out.2.2.1 b9⟩

end Go.Proofs.Ytohiblldhdglgaa
