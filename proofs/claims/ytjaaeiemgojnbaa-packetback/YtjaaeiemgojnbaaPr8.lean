/-
  What is proved here: what the program's reader of packets makes of the fields of any type. Condition: at most 65535 bytes.
-/
import Derived.Test.YtjaaeiemgojnbaaPr5
import Derived.Test.YtjaaeiemgojnbaaPr6
namespace Go.Proofs.Ytjaaeiemgojnbaa
set_option linter.unusedVariables false
set_option linter.unusedSimpArgs false
open Go.RowKit

set_option maxRecDepth 100000 in
set_option maxHeartbeats 4000000 in
theorem rrFields_any (t low : Nat) (v : Bs) (xs : List UInt8) (A : Option Addr) (n k g gp : Nat) (ys : List UInt8) (w : World) (hl : low < 16) (hb : RrB v xs A n k) (h : RrS v xs A n k g ys w) (hp : PkZ w gp (zeroP t)) (hne : ¬ gp = g) (hvp : v.S gp) : Calls Try.prog 87 #[.pointer (some ⟨g, 0, none⟩), .pointer (some ⟨gp, 0, none⟩), .int .i64 (low : Int)] w (FPost v xs A n k g gp (fieldsQ t low ys)) := by
  have HP := hide hp
  have HS := hide h
  obtain ⟨O, hO⟩ : ∃ O, fieldsQ t low ys = O := ⟨_, rfl⟩
  rw [hO]
  have HO := hide hO
  have c0 : w.cell? ⟨gp, 0, none⟩ = some (.int .i64 (t : Int)) := (Blk.p18 hp).1
  have f2 := HP.out.frozen 2
  clear h hp hO
  by_cases c1 : t = 1
  · subst c1
    have hO : conQ ys = O := by rw [← HO.out]; rfl
    go_enter Try.func87, Try.ntmps87
    go_wp2_with fail
    refine (rrConnect_any v xs A n k g gp ys w hb HS.out HP.out hne hvp).mono ?_
    rw [hO]
    clear HO hO
    intro e w1 hF
    cases O with
    | none =>
      obtain ⟨rfl, hv1⟩ := hF
      go_wp2_with fail
      all_goals exact ⟨rfl, rfl, hv1⟩
    | some z =>
      obtain ⟨rfl, hF⟩ := hF
      have HF := hide hF
      clear hF
      go_wp2_with fail
      go_end0
      exact ⟨rfl, HF.out⟩
  by_cases c2 : t = 2
  · subst c2
    have hO : welQ ys = O := by rw [← HO.out]; rfl
    go_enter Try.func87, Try.ntmps87
    go_wp2_with fail
    refine (rrWelcome_any v xs A n k g gp ys w hb HS.out HP.out hne hvp).mono ?_
    rw [hO]
    clear HO hO
    intro e w1 hF
    cases O with
    | none =>
      obtain ⟨rfl, hv1⟩ := hF
      go_wp2_with fail
      all_goals exact ⟨rfl, rfl, hv1⟩
    | some z =>
      obtain ⟨rfl, hF⟩ := hF
      have HF := hide hF
      clear hF
      go_wp2_with fail
      go_end0
      exact ⟨rfl, HF.out⟩
  by_cases c3 : t = 3
  · subst c3
    have hO : pubQ low ys = O := by rw [← HO.out]; rfl
    go_enter Try.func87, Try.ntmps87
    go_wp2_with fail
    refine (rrPublish_any v xs A n k g gp low ys w hl hb HS.out HP.out hne hvp).mono ?_
    rw [hO]
    clear HO hO
    intro e w1 hF
    cases O with
    | none =>
      obtain ⟨rfl, hv1⟩ := hF
      go_wp2_with fail
      all_goals exact ⟨rfl, rfl, hv1⟩
    | some z =>
      obtain ⟨rfl, hF⟩ := hF
      have HF := hide hF
      clear hF
      go_wp2_with fail
      go_end0
      exact ⟨rfl, HF.out⟩
  by_cases c4 : t = 4 ∨ t = 5 ∨ t = 6 ∨ t = 7 ∨ t = 11
  · have hO : ackQ t ys = O := by rw [← HO.out]; unfold fieldsQ; rw [if_neg c1, if_neg c2, if_neg c3, if_pos c4]
    unfold ackQ at hO
    have HO := hide hO
    have P1 := rrWord_any v xs A n k g ys w hb HS.out
    clear hO
    cases hq1 : qW ys with
    | none =>
      have h0 : O = none := by rw [← HO.out, hq1]; rfl
      have P1 := hide (RrPost.no P1 hq1)
      clear c1 c2 c3 hq1
      rw [h0]
      rcases c4 with rfl | rfl | rfl | rfl | rfl
      all_goals
        go_enter Try.func87, Try.ntmps87
        go_wp2_with fail
        refine P1.out.mono ?_
        rintro e w1 ⟨rfl, hv1⟩
        go_wp2_with fail
        all_goals first | exact ⟨rfl, rfl, hv1⟩ | exact ⟨rfl, by rw [h0]; exact ⟨rfl, hv1⟩⟩
    | some z =>
      obtain ⟨d, y2⟩ := z
      have h0 : O = some ({ zeroP t with id := (d : Int) }, y2) := by rw [← HO.out, hq1]; rfl
      have P1 := hide (RrPost.ok P1 hq1)
      have H0 := hide h0
      clear c1 c2 c3 hq1 h0
      rcases c4 with rfl | rfl | rfl | rfl | rfl
      all_goals
        go_enter Try.func87, Try.ntmps87
        go_wp2_with fail
        refine P1.out.mono ?_
        rintro e w1 ⟨rfl, s1, b1⟩
        have HP := hide (HP.out.but b1 hne)
        have c2 := (Blk.p18 HP.out).2.2.1
        have f2 := HP.out.frozen 2
        go_wp2_with fail
        go_end0
        rw [H0.out]
        exact ⟨rfl, s1.set hne hvp 2 _, none, 0, 0, none, 0, 0, Blk.set HP.out 2 _, NewAt.nil _, NewAt.nil _, rfl, Nat.le_refl _, Rd.nil _ _, rfl, Nat.le_refl _, Rd.nil _ _⟩
  by_cases c8 : t = 8
  · subst c8
    have hO : namQ 8 true ys = O := by rw [← HO.out]; rfl
    go_enter Try.func87, Try.ntmps87
    go_wp2_with fail
    refine (rrNames_any 8 true v xs A n k g gp ys w hb HS.out HP.out hne hvp).mono ?_
    rw [hO]
    clear HO hO
    intro e w1 hF
    cases O with
    | none =>
      obtain ⟨rfl, hv1⟩ := hF
      go_wp2_with fail
      all_goals exact ⟨rfl, rfl, hv1⟩
    | some z =>
      obtain ⟨rfl, hF⟩ := hF
      have HF := hide hF
      clear hF
      go_wp2_with fail
      go_end0
      exact ⟨rfl, HF.out⟩
  by_cases c9 : t = 9
  · subst c9
    have hO : codQ ys = O := by rw [← HO.out]; rfl
    go_enter Try.func87, Try.ntmps87
    go_wp2_with fail
    refine (rrCodes_any v xs A n k g gp ys w hb HS.out HP.out hne hvp).mono ?_
    rw [hO]
    clear HO hO
    intro e w1 hF
    cases O with
    | none =>
      obtain ⟨rfl, hv1⟩ := hF
      go_wp2_with fail
      all_goals exact ⟨rfl, rfl, hv1⟩
    | some z =>
      obtain ⟨rfl, hF⟩ := hF
      have HF := hide hF
      clear hF
      go_wp2_with fail
      go_end0
      exact ⟨rfl, HF.out⟩
  by_cases c10 : t = 10
  · subst c10
    have hO : namQ 10 false ys = O := by rw [← HO.out]; rfl
    go_enter Try.func87, Try.ntmps87
    go_wp2_with fail
    refine (rrNames_any 10 false v xs A n k g gp ys w hb HS.out HP.out hne hvp).mono ?_
    rw [hO]
    clear HO hO
    intro e w1 hF
    cases O with
    | none =>
      obtain ⟨rfl, hv1⟩ := hF
      go_wp2_with fail
      all_goals exact ⟨rfl, rfl, hv1⟩
    | some z =>
      obtain ⟨rfl, hF⟩ := hF
      have HF := hide hF
      clear hF
      go_wp2_with fail
      go_end0
      exact ⟨rfl, HF.out⟩
  have hO : some (zeroP t, ys) = O := by rw [← HO.out]; unfold fieldsQ; rw [if_neg c1, if_neg c2, if_neg c3, if_neg c4, if_neg c8, if_neg c9, if_neg c10]
  have H0 := hide hO
  have q1 : ((t : Int) == 1) = false := by simp; omega
  have q2 : ((t : Int) == 2) = false := by simp; omega
  have q3 : ((t : Int) == 3) = false := by simp; omega
  have q4 : ((t : Int) == 4) = false := by simp; omega
  have q5 : ((t : Int) == 5) = false := by simp; omega
  have q6 : ((t : Int) == 6) = false := by simp; omega
  have q7 : ((t : Int) == 7) = false := by simp; omega
  have q11 : ((t : Int) == 11) = false := by simp; omega
  have q8 : ((t : Int) == 8) = false := by simp; omega
  have q9 : ((t : Int) == 9) = false := by simp; omega
  have q10 : ((t : Int) == 10) = false := by simp; omega
  clear hO c1 c2 c3 c4 c8 c9 c10
  go_enter Try.func87, Try.ntmps87
  go_wp2_with fail
  go_end0
  rw [← H0.out]
  exact ⟨rfl, HS.out, none, 0, 0, none, 0, 0, HP.out, NewAt.nil _, NewAt.nil _, rfl, Nat.le_refl _, Rd.nil _ _, rfl, Nat.le_refl _, Rd.nil _ _⟩

end Go.Proofs.Ytjaaeiemgojnbaa
