/-
  What is proved here: what the program's reader of packets makes of the fields of a Publish. Condition: at most 65535 bytes.
-/
import Derived.Test.YtjaaeiemgojnbaaPr3
namespace Go.Proofs.Ytjaaeiemgojnbaa
set_option linter.unusedVariables false
set_option linter.unusedSimpArgs false
open Go.RowKit

theorem and_digN (f W : Nat) (hf : f < 256) (hW : W = 1 ∨ W = 2 ∨ W = 4 ∨ W = 8 ∨ W = 32 ∨ W = 64 ∨ W = 128) : ((f &&& W : Nat) != 0) = digB f W := by
  have h : ∀ W : Fin 129, (W.val = 1 ∨ W.val = 2 ∨ W.val = 4 ∨ W.val = 8 ∨ W.val = 32 ∨ W.val = 64 ∨ W.val = 128) → ∀ f : Fin 256, ((f.val &&& W.val : Nat) != 0) = digB f.val W.val := by decide +kernel
  exact h ⟨W, by omega⟩ hW ⟨f, hf⟩
theorem and_dig (f W : Nat) (hf : f < 256) (hW : W = 1 ∨ W = 2 ∨ W = 4 ∨ W = 8 ∨ W = 32 ∨ W = 64 ∨ W = 128) : (bits .and .i64 (f : Int) (W : Int) != 0) = digB f W := by
  rw [i64_and_nat f W (by omega) (by omega), ← and_digN f W hf hW]
  by_cases h : (f &&& W : Nat) = 0
  · rw [h]; rfl
  · have h2 : ¬ ((f &&& W : Nat) : Int) = 0 := by omega
    rw [bne_iff_ne.2 h, bne_iff_ne.2 h2]

theorem RrS.set {v : Bs} {w : World} {xs : List UInt8} {A : Option Addr} {n k g gp : Nat} {ys : List UInt8} (h : RrS v xs A n k g ys w) (hne : ¬ gp = g) (hvp : v.S gp) (i : Nat) (u : Value) : RrS v xs A n k g ys (w.setCell ⟨gp, i, none⟩ u) := h.other (But.setCell w u rfl) hne hvp

set_option maxRecDepth 100000 in
set_option maxHeartbeats 1000000 in
theorem rrPublish_any (v : Bs) (xs : List UInt8) (A : Option Addr) (n k g gp low : Nat) (ys : List UInt8) (w : World) (hl : low < 16) (hb : RrB v xs A n k) (h : RrS v xs A n k g ys w) (hp : PkZ w gp (zeroP 3)) (hne : ¬ gp = g) (hvp : v.S gp) : Calls Try.prog 98 #[.pointer (some ⟨g, 0, none⟩), .pointer (some ⟨gp, 0, none⟩), .int .i64 (low : Int)] w (FPost v xs A n k g gp (pubQ low ys)) := by
  have HP := hide hp
  have e8 : (bits .and .i64 (low : Int) 8 != 0) = digB low 8 := and_dig low 8 (by omega) (by omega)
  have e1 : (bits .and .i64 (low : Int) 1 != 0) = digB low 1 := and_dig low 1 (by omega) (by omega)
  obtain ⟨q, hq⟩ : ∃ q, low / 2 % 4 = q := ⟨_, rfl⟩
  have e2 : (low : Int) / 2 % 4 = (q : Int) := by omega
  have HS := hide h
  obtain ⟨O, hO⟩ : ∃ O, pubQ low ys = O := ⟨_, rfl⟩
  rw [hO]
  unfold pubQ at hO
  rw [hq] at hO
  clear h hp hq
  generalize digB low 8 = D at *
  generalize digB low 1 = R at *
  have HO := hide hO
  clear hO
  go_enter Try.func98, Try.ntmps98
  have c1 := (Blk.p18 HP.out).2.1
  have c5 := (Blk.p18 HP.out).2.2.2.2.2.1
  have c6 := (Blk.p18 HP.out).2.2.2.2.2.2.1
  have f1 := HP.out.frozen 1
  have f5 := HP.out.frozen 5
  have f6 := HP.out.frozen 6
  go_wp2_with fail
  obtain ⟨U, hU⟩ : ∃ U, (((w.setCell ⟨gp, 1, none⟩ (.bool D)).setCell ⟨gp, 5, none⟩ (.int .i64 (q : Int))).setCell ⟨gp, 6, none⟩ (.bool R)) = U := ⟨_, rfl⟩
  rw [hU]
  have HP := hide (show PkZ U gp { zeroP 3 with dup := D, qos := (q : Int), retain := R } from by rw [← hU]; exact Blk.set (Blk.set (Blk.set HP.out 1 _) 5 _) 6 _)
  have HS := hide (show RrS v xs A n k g ys U from by rw [← hU]; exact ((HS.out.set hne hvp 1 _).set hne hvp 5 _).set hne hvp 6 _)
  clear hU c1 c5 c6 f1 f5 f6 e8 e1 e2
  have P1 := rrText_any v xs A n k g ys U hb HS.out
  cases hq1 : qT ys with
  | none =>
    have h0 : O = none := by rw [← HO.out, hq1]; rfl
    refine (RrPost.no P1 hq1).mono ?_
    rintro e w1 ⟨rfl, hv1⟩
    go_wp2_with fail
    all_goals first | exact ⟨rfl, rfl, hv1⟩ | exact ⟨rfl, by rw [h0]; exact ⟨rfl, hv1⟩⟩
  | some z =>
    obtain ⟨tp, y1⟩ := z
    refine (RrPost.ok P1 hq1).mono ?_
    rintro e w1 ⟨rfl, s1, b1⟩
    have HP := hide (HP.out.but b1 hne)
    have HS := hide s1
    have HQ1 := hide hq1
    clear s1 b1 P1 hq1
    have c3 := (Blk.p18 HP.out).2.2.2.1
    have c5 := (Blk.p18 HP.out).2.2.2.2.2.1
    have f3 := HP.out.frozen 3
    by_cases hq0 : 0 < q
    · have q0 : (q : Int) > 0 := by omega
      go_wp2_with fail
      obtain ⟨U2, hU⟩ : ∃ U2, (w1.setCell ⟨gp, 3, none⟩ (.string (str tp))) = U2 := ⟨_, rfl⟩
      rw [hU]
      have HP := hide (show PkZ U2 gp { zeroP 3 with dup := D, qos := (q : Int), retain := R, topic := tp } from by rw [← hU]; exact Blk.set HP.out 3 _)
      have HS := hide (show RrS v xs A n k g y1 U2 from by rw [← hU]; exact HS.out.set hne hvp 3 _)
      clear hU c3 c5 f3
      have P1 := rrWord_any v xs A n k g y1 U2 hb HS.out
      cases hq1 : qW y1 with
      | none =>
        have h0 : O = none := by rw [← HO.out, HQ1.out]; simp only [Option.bind_some, if_pos hq0]; rw [hq1]; rfl
        refine (RrPost.no P1 hq1).mono ?_
        rintro e w1 ⟨rfl, hv1⟩
        go_wp2_with fail
        all_goals first | exact ⟨rfl, rfl, hv1⟩ | exact ⟨rfl, by rw [h0]; exact ⟨rfl, hv1⟩⟩
      | some z =>
        obtain ⟨d, y2⟩ := z
        refine (RrPost.ok P1 hq1).mono ?_
        rintro e w1 ⟨rfl, s1, b1⟩
        have HP := hide (HP.out.but b1 hne)
        have HS := hide s1
        have h0 : O = some ({ zeroP 3 with dup := D, qos := (q : Int), retain := R, topic := tp, id := (d : Int), payload := y2 }, []) := by rw [← HO.out, HQ1.out]; simp only [Option.bind_some, if_pos hq0]; rw [hq1]; rfl
        clear s1 b1 P1 hq1
        have c2 := (Blk.p18 HP.out).2.2.1
        have f2 := HP.out.frozen 2
        go_wp2_with fail
        obtain ⟨U3, hU⟩ : ∃ U3, (w1.setCell ⟨gp, 2, none⟩ (.int .i64 (d : Int))) = U3 := ⟨_, rfl⟩
        rw [hU]
        have HP := hide (show PkZ U3 gp { zeroP 3 with dup := D, qos := (q : Int), retain := R, topic := tp, id := (d : Int) } from by rw [← hU]; exact Blk.set HP.out 2 _)
        have HS := hide (show RrS v xs A n k g y2 U3 from by rw [← hU]; exact HS.out.set hne hvp 2 _)
        clear hU c2 f2
        refine (rrRest_any v xs A n k g y2 U3 hb HS.out).mono ?_
        rintro e w1 ⟨rfl, s1, b1⟩
        have HP := hide (HP.out.but b1 hne)
        have c4 := (Blk.p18 HP.out).2.2.2.2.1
        have f4 := HP.out.frozen 4
        go_wp2_with fail
        go_end0
        rw [h0]
        exact ⟨rfl, s1.set hne hvp 4 _, none, 0, 0, none, 0, 0, Blk.set HP.out 4 _, NewAt.nil _, NewAt.nil _, rfl, Nat.le_refl _, Rd.nil _ _, rfl, Nat.le_refl _, Rd.nil _ _⟩
    · obtain rfl : q = 0 := by omega
      go_wp2_with fail
      obtain ⟨U2, hU⟩ : ∃ U2, (w1.setCell ⟨gp, 3, none⟩ (.string (str tp))) = U2 := ⟨_, rfl⟩
      rw [hU]
      have HP := hide (show PkZ U2 gp { zeroP 3 with dup := D, qos := ((0 : Nat) : Int), retain := R, topic := tp } from by rw [← hU]; exact Blk.set HP.out 3 _)
      have HS := hide (show RrS v xs A n k g y1 U2 from by rw [← hU]; exact HS.out.set hne hvp 3 _)
      clear hU c3 c5 f3
      have h0 : O = some ({ zeroP 3 with dup := D, qos := ((0 : Nat) : Int), retain := R, topic := tp, id := ((0 : Nat) : Int), payload := y1 }, []) := by rw [← HO.out, HQ1.out]; simp only [Option.bind_some, if_neg (show ¬ 0 < 0 by omega)]
      refine (rrRest_any v xs A n k g y1 U2 hb HS.out).mono ?_
      rintro e w1 ⟨rfl, s1, b1⟩
      have HP := hide (HP.out.but b1 hne)
      have c4 := (Blk.p18 HP.out).2.2.2.2.1
      have f4 := HP.out.frozen 4
      go_wp2_with fail
      go_end0
      rw [h0]
      exact ⟨rfl, s1.set hne hvp 4 _, none, 0, 0, none, 0, 0, Blk.set HP.out 4 _, NewAt.nil _, NewAt.nil _, rfl, Nat.le_refl _, Rd.nil _ _, rfl, Nat.le_refl _, Rd.nil _ _⟩

end Go.Proofs.Ytjaaeiemgojnbaa
