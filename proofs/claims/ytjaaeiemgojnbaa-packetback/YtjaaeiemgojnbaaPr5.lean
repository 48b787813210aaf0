/-
  What is proved here: what the program's reader of packets makes of the fields of a Connect. Condition: at most 65535 bytes.
-/
import Derived.Test.YtjaaeiemgojnbaaPr4
import Derived.Test.YtjaaeiemgojnbaaPq4
import Derived.Test.YtjaaeiemgojnbaaPkLd
namespace Go.Proofs.Ytjaaeiemgojnbaa
set_option linter.unusedVariables false
set_option linter.unusedSimpArgs false
open Go.RowKit

theorem digFit (f : Nat) (hf : f < 256) : ((f : Int) / 8 % 4) = ((f / 8 % 4 : Nat) : Int) := by omega
/-- A Connect whose byte is f. -/
def conZ (D2 D4 D32 D64 D128 : Bool) (q : Nat) : Pk := ⟨1, false, 0, [], [], (q : Int), D32, [], D2, 0, D4, D128, D64, [], [], false, [], []⟩
/-- What is read behind Alive. -/
def conE (Z : Pk) (D4 D64 D128 : Bool) (ys : List UInt8) : Option (Pk × List UInt8) :=
  (qT ys).bind fun cl => (oT D4 cl.2).bind fun tp => (oT D4 tp.2).bind fun pl => (oT D128 pl.2).bind fun us => (oT D64 us.2).bind fun ps =>
    some ({ Z with topic := tp.1, payload := pl.1, client := cl.1, user := us.1, pass := ps.1 }, ps.2)

theorem oT_true (ys : List UInt8) : oT true ys = qT ys := rfl
theorem oT_false (ys : List UInt8) : oT false ys = some ([], ys) := rfl

set_option maxRecDepth 100000 in
set_option maxHeartbeats 4000000 in
theorem rrConnect_any (v : Bs) (xs : List UInt8) (A : Option Addr) (n k g gp : Nat) (ys : List UInt8) (w : World) (hb : RrB v xs A n k) (h : RrS v xs A n k g ys w) (hp : PkZ w gp (zeroP 1)) (hne : ¬ gp = g) (hvp : v.S gp) : Calls Try.prog 96 #[.pointer (some ⟨g, 0, none⟩), .pointer (some ⟨gp, 0, none⟩)] w (FPost v xs A n k g gp (conQ ys)) := by
  have HP := hide hp
  obtain ⟨O, hO⟩ : ∃ O, conQ ys = O := ⟨_, rfl⟩
  rw [hO]
  unfold conQ at hO
  have HO := hide hO
  have P1 := rrText_any v xs A n k g ys w hb h
  clear h hp hO
  go_enter Try.func96, Try.ntmps96
  go_wp2_with fail
  cases hq1 : qT ys with
  | none =>
    have h0 : O = none := by rw [← HO.out, hq1]; rfl
    refine (RrPost.no P1 hq1).mono ?_
    rintro e w1 ⟨rfl, hv1⟩
    go_wp2_with fail
    all_goals first | exact ⟨rfl, rfl, hv1⟩ | exact ⟨rfl, by rw [h0]; exact ⟨rfl, hv1⟩⟩
  | some z =>
  obtain ⟨s, y1⟩ := z
  rw [hq1] at HO
  simp only [Option.bind_some] at HO
  refine (RrPost.ok P1 hq1).mono ?_
  by_cases hs : s = [77, 81, 84, 84]
  case neg =>
    have h0 : O = none := by rw [← HO.out, if_neg hs]
    have q1 : (s == [77, 81, 84, 84]) = false := by simpa using hs
    rintro e w1 ⟨rfl, s1, b1⟩
    have HP := hide (HP.out.but b1 hne)
    have HS := hide s1
    have hv1 := s1.low
    clear s1 b1
    go_wp2_with fail
    refine (must_no _ _).mono ?_
    rintro e w2 ⟨rfl, rfl⟩
    go_wp2_with fail
    all_goals first | exact ⟨rfl, rfl, hv1⟩ | exact ⟨rfl, by rw [h0]; exact ⟨rfl, hv1⟩⟩
  case pos =>
  subst hs
  rw [if_pos rfl] at HO
  clear P1 hq1
  rintro e w1 ⟨rfl, s1, b1⟩
  have HP := hide (HP.out.but b1 hne)
  have HS := hide s1
  clear s1 b1
  go_wp2_with fail
  refine (must_ok _ _).mono ?_
  rintro e w2 ⟨rfl, rfl⟩
  go_wp2_with fail
  have P1 := rrOctet_any v xs A n k g y1 _ hb HS.out
  cases hq1 : qB y1 with
  | none =>
    have h0 : O = none := by rw [← HO.out, hq1]; rfl
    refine (RrPost.no P1 hq1).mono ?_
    rintro e w1 ⟨rfl, hv1⟩
    go_wp2_with fail
    all_goals first | exact ⟨rfl, rfl, hv1⟩ | exact ⟨rfl, by rw [h0]; exact ⟨rfl, hv1⟩⟩
  | some z =>
  obtain ⟨l, y2⟩ := z
  rw [hq1] at HO
  simp only [Option.bind_some] at HO
  refine (RrPost.ok P1 hq1).mono ?_
  by_cases hl : l = 4
  case neg =>
    have h0 : O = none := by rw [← HO.out, if_neg hl]
    have q1 : ((l : Int) == 4) = false := by simp; omega
    rintro e w1 ⟨rfl, s1, b1⟩
    have HP := hide (HP.out.but b1 hne)
    have HS := hide s1
    have hv1 := s1.low
    clear s1 b1
    go_wp2_with fail
    refine (must_no _ _).mono ?_
    rintro e w2 ⟨rfl, rfl⟩
    go_wp2_with fail
    all_goals first | exact ⟨rfl, rfl, hv1⟩ | exact ⟨rfl, by rw [h0]; exact ⟨rfl, hv1⟩⟩
  case pos =>
  subst hl
  rw [if_pos rfl] at HO
  clear P1 hq1
  rintro e w1 ⟨rfl, s1, b1⟩
  have HP := hide (HP.out.but b1 hne)
  have HS := hide s1
  clear s1 b1
  go_wp2_with fail
  refine (must_ok _ _).mono ?_
  rintro e w2 ⟨rfl, rfl⟩
  go_wp2_with fail
  have P1 := rrOctet_any v xs A n k g y2 _ hb HS.out
  cases hq1 : qB y2 with
  | none =>
    have h0 : O = none := by rw [← HO.out, hq1]; rfl
    refine (RrPost.no P1 hq1).mono ?_
    rintro e w1 ⟨rfl, hv1⟩
    go_wp2_with fail
    all_goals first | exact ⟨rfl, rfl, hv1⟩ | exact ⟨rfl, by rw [h0]; exact ⟨rfl, hv1⟩⟩
  | some z =>
  obtain ⟨f, y3⟩ := z
  have hf := (qB_some hq1).2
  simp only at hf
  rw [hq1] at HO
  simp only [Option.bind_some] at HO
  refine (RrPost.ok P1 hq1).mono ?_
  rintro e w1 ⟨rfl, s1, b1⟩
  have HP := hide (HP.out.but b1 hne)
  have HS := hide s1
  clear s1 b1 P1 hq1
  have e2 : (bits .and .i64 (f : Int) 2 != 0) = digB f 2 := and_dig f 2 hf (by omega)
  have e4 : (bits .and .i64 (f : Int) 4 != 0) = digB f 4 := and_dig f 4 hf (by omega)
  have e32 : (bits .and .i64 (f : Int) 32 != 0) = digB f 32 := and_dig f 32 hf (by omega)
  have e64 : (bits .and .i64 (f : Int) 64 != 0) = digB f 64 := and_dig f 64 hf (by omega)
  have e128 : (bits .and .i64 (f : Int) 128 != 0) = digB f 128 := and_dig f 128 hf (by omega)
  have eq := digFit f hf
  have hZ : conP f = conZ (digB f 2) (digB f 4) (digB f 32) (digB f 64) (digB f 128) (f / 8 % 4) := rfl
  rw [hZ] at HO
  have hq3 : f / 8 % 4 ≤ 3 := by omega
  clear hZ
  generalize digB f 2 = D2 at *
  generalize digB f 4 = D4 at *
  generalize digB f 32 = D32 at *
  generalize digB f 64 = D64 at *
  generalize digB f 128 = D128 at *
  generalize f / 8 % 4 = q at *
  obtain ⟨-, -, -, -, -, c5, c6, -, c8, -, c10, c11, c12, -, -, -, -, -⟩ := Blk.p18 HP.out
  have f5 := HP.out.frozen 5
  have f6 := HP.out.frozen 6
  have f8 := HP.out.frozen 8
  have f10 := HP.out.frozen 10
  have f11 := HP.out.frozen 11
  have f12 := HP.out.frozen 12
  go_upto_region 9 with fail
  obtain ⟨U, hU⟩ : ∃ U, ((((((w1.setCell ⟨gp, 8, none⟩ (.bool D2)).setCell ⟨gp, 10, none⟩ (.bool D4)).setCell ⟨gp, 5, none⟩ (.int .i64 (q : Int))).setCell ⟨gp, 6, none⟩ (.bool D32)).setCell ⟨gp, 12, none⟩ (.bool D64)).setCell ⟨gp, 11, none⟩ (.bool D128)) = U := ⟨_, rfl⟩
  rw [hU]
  have HP := hide (show PkZ U gp (conZ D2 D4 D32 D64 D128 q) from by rw [← hU]; exact Blk.set (Blk.set (Blk.set (Blk.set (Blk.set (Blk.set HP.out 8 _) 10 _) 5 _) 6 _) 12 _) 11 _)
  have HS := hide (show RrS v xs A n k g y3 U from by rw [← hU]; exact (((((HS.out.set hne hvp 8 _).set hne hvp 10 _).set hne hvp 5 _).set hne hvp 6 _).set hne hvp 12 _).set hne hvp 11 _)
  clear hU c5 c6 c8 c10 c11 c12 f5 f6 f8 f10 f11 f12 e2 e4 e32 e64 e128 eq
  refine wp_region_lit ?_
  refine wpList_mv rfl (.tmp 0) rfl ?_
  refine wpList_mv rfl (.tmp 1) rfl ?_
  refine wpList_nc rfl (.tmp 56) rfl ⟨gp, 0, none⟩ rfl ?_
  refine wpList_loadP rfl 27 (.tmp 57) rfl gp 27 (conZ D2 D4 D32 D64 D128 q) none 0 0 none 0 0 rfl HP.out Try.underlying27 rfl (by kernel_rfl) ?_
  have P1 := marks_any (conZ D2 D4 D32 D64 D128 q) none 0 0 none 0 0 U (by show (0 : Int) ≤ (q : Int); omega) (by show (q : Int) ≤ 3; omega)
  obtain ⟨N, hN⟩ : ∃ N, conFlags (conZ D2 D4 D32 D64 D128 q) = N := ⟨_, rfl⟩
  rw [hN] at P1 HO
  simp only [pkA, conZ] at P1 ⊢
  clear hN
  go_wp2_with fail
  refine P1.mono ?_
  rintro e w1 ⟨rfl, b1⟩
  have HP := hide (show PkZ w1 gp (conZ D2 D4 D32 D64 D128 q) from Blk.keep HP.out b1)
  have HS := hide (HS.out.keep b1)
  clear b1 P1
  by_cases hm : N = f
  case neg =>
    have h0 : O = none := by rw [← HO.out, if_neg hm]
    have q1 : ((N : Int) == (f : Int)) = false := by simp; omega
    have hv1 := HS.out.low
    go_wp2_with fail
    refine (must_no _ _).mono ?_
    rintro e w2 ⟨rfl, rfl⟩
    go_wp2_with fail
    all_goals first | exact ⟨rfl, rfl, hv1⟩ | exact ⟨rfl, by rw [h0]; exact ⟨rfl, hv1⟩⟩
  case pos =>
  subst hm
  rw [if_pos rfl] at HO
  go_wp2_with fail
  refine (must_ok _ _).mono ?_
  rintro e w2 ⟨rfl, rfl⟩
  go_wp2_with fail
  have P1 := rrWord_any v xs A n k g y3 _ hb HS.out
  cases hq1 : qW y3 with
  | none =>
    have h0 : O = none := by rw [← HO.out, hq1]; rfl
    refine (RrPost.no P1 hq1).mono ?_
    rintro e w1 ⟨rfl, hv1⟩
    go_wp2_with fail
    all_goals first | exact ⟨rfl, rfl, hv1⟩ | exact ⟨rfl, by rw [h0]; exact ⟨rfl, hv1⟩⟩
  | some z =>
  obtain ⟨al, y4⟩ := z
  rw [hq1] at HO
  simp only [Option.bind_some] at HO
  refine (RrPost.ok P1 hq1).mono ?_
  rintro e w1 ⟨rfl, s1, b1⟩
  have HP := hide (HP.out.but b1 hne)
  have HS := hide s1
  clear s1 b1 P1 hq1
  have ci := (Blk.p18 HP.out).2.2.2.2.2.2.2.2.2.1
  have fi := HP.out.frozen 9
  go_wp2_with fail
  obtain ⟨U2, hU⟩ : ∃ U2, (w1.setCell ⟨gp, 9, none⟩ (.int .i64 (al : Int))) = U2 := ⟨_, rfl⟩
  rw [hU]
  have HP := hide (show PkZ U2 gp ⟨1, false, 0, [], [], (q : Int), D32, [], D2, (al : Int), D4, D128, D64, [], [], false, [], []⟩ from by rw [← hU]; exact Blk.set HP.out 9 _)
  have HS := hide (show RrS v xs A n k g y4 U2 from by rw [← hU]; exact HS.out.set hne hvp 9 _)
  clear hU ci fi
  replace HO := hide (show conE ⟨1, false, 0, [], [], (q : Int), D32, [], D2, (al : Int), D4, D128, D64, [], [], false, [], []⟩ D4 D64 D128 y4 = O from HO.out)
  unfold conE at HO
  have P1 := rrText_any v xs A n k g y4 _ hb HS.out
  cases hq1 : qT y4 with
  | none =>
    have h0 : O = none := by rw [← HO.out, hq1]; rfl
    refine (RrPost.no P1 hq1).mono ?_
    rintro e w1 ⟨rfl, hv1⟩
    go_wp2_with fail
    all_goals first | exact ⟨rfl, rfl, hv1⟩ | exact ⟨rfl, by rw [h0]; exact ⟨rfl, hv1⟩⟩
  | some z =>
  obtain ⟨cl, y5⟩ := z
  rw [hq1] at HO
  simp only [Option.bind_some] at HO
  refine (RrPost.ok P1 hq1).mono ?_
  rintro e w1 ⟨rfl, s1, b1⟩
  have HP := hide (HP.out.but b1 hne)
  have HS := hide s1
  clear s1 b1 P1 hq1
  have c7 := (Blk.p18 HP.out).2.2.2.2.2.2.2.1
  have c10 := (Blk.p18 HP.out).2.2.2.2.2.2.2.2.2.2.1
  have c11 := (Blk.p18 HP.out).2.2.2.2.2.2.2.2.2.2.2.1
  have c12 := (Blk.p18 HP.out).2.2.2.2.2.2.2.2.2.2.2.2.1
  have f7 := HP.out.frozen 7
  cases D4 with
  | false =>
    simp only [oT_false, Option.bind_some] at HO
    cases D128 with
    | false =>
      simp only [oT_false, Option.bind_some] at HO
      cases D64 with
      | false =>
        simp only [oT_false, Option.bind_some] at HO
        go_wp2_with fail
        go_end0
        rw [← HO.out]
        exact ⟨rfl, HS.out.set hne hvp 7 _, none, 0, 0, none, 0, 0, Blk.set HP.out 7 _, NewAt.nil _, NewAt.nil _, rfl, Nat.le_refl _, Rd.nil _ _, rfl, Nat.le_refl _, Rd.nil _ _⟩
      | true =>
        go_wp2_with fail
        obtain ⟨V1, hU⟩ : ∃ V1, (w1.setCell ⟨gp, 7, none⟩ (.string (str cl))) = V1 := ⟨_, rfl⟩
        rw [hU]
        have HP := hide (show PkZ V1 gp ⟨1, false, 0, [], [], (q : Int), D32, cl, D2, (al : Int), false, false, true, [], [], false, [], []⟩ from by rw [← hU]; exact Blk.set HP.out 7 _)
        have HS := hide (show RrS v xs A n k g y5 V1 from by rw [← hU]; exact HS.out.set hne hvp 7 _)
        clear hU f7 c7
        have P1 := rrText_any v xs A n k g y5 _ hb HS.out
        try simp only [oT_true] at HO
        cases hq1 : qT y5 with
        | none =>
          have h0 : O = none := by rw [← HO.out, hq1]; rfl
          refine (RrPost.no P1 hq1).mono ?_
          rintro e w1 ⟨rfl, hv1⟩
          go_wp2_with fail
          all_goals first | exact ⟨rfl, rfl, hv1⟩ | exact ⟨rfl, by rw [h0]; exact ⟨rfl, hv1⟩⟩
        | some z =>
        obtain ⟨ps, y5d⟩ := z
        rw [hq1] at HO
        simp only [Option.bind_some] at HO
        refine (RrPost.ok P1 hq1).mono ?_
        rintro e w1 ⟨rfl, s1, b1⟩
        have HP := hide (HP.out.but b1 hne)
        have HS := hide s1
        clear s1 b1 P1 hq1
        have c14 := (Blk.p18 HP.out).2.2.2.2.2.2.2.2.2.2.2.2.2.2.1
        have f14 := HP.out.frozen 14
        go_wp2_with fail
        go_end0
        rw [← HO.out]
        exact ⟨rfl, HS.out.set hne hvp 14 _, none, 0, 0, none, 0, 0, Blk.set HP.out 14 _, NewAt.nil _, NewAt.nil _, rfl, Nat.le_refl _, Rd.nil _ _, rfl, Nat.le_refl _, Rd.nil _ _⟩
    | true =>
      go_wp2_with fail
      obtain ⟨V2, hU⟩ : ∃ V2, (w1.setCell ⟨gp, 7, none⟩ (.string (str cl))) = V2 := ⟨_, rfl⟩
      rw [hU]
      have HP := hide (show PkZ V2 gp ⟨1, false, 0, [], [], (q : Int), D32, cl, D2, (al : Int), false, true, D64, [], [], false, [], []⟩ from by rw [← hU]; exact Blk.set HP.out 7 _)
      have HS := hide (show RrS v xs A n k g y5 V2 from by rw [← hU]; exact HS.out.set hne hvp 7 _)
      clear hU f7 c7
      have P1 := rrText_any v xs A n k g y5 _ hb HS.out
      try simp only [oT_true] at HO
      cases hq1 : qT y5 with
      | none =>
        have h0 : O = none := by rw [← HO.out, hq1]; rfl
        refine (RrPost.no P1 hq1).mono ?_
        rintro e w1 ⟨rfl, hv1⟩
        go_wp2_with fail
        all_goals first | exact ⟨rfl, rfl, hv1⟩ | exact ⟨rfl, by rw [h0]; exact ⟨rfl, hv1⟩⟩
      | some z =>
      obtain ⟨us, y5c⟩ := z
      rw [hq1] at HO
      simp only [Option.bind_some] at HO
      refine (RrPost.ok P1 hq1).mono ?_
      rintro e w1 ⟨rfl, s1, b1⟩
      have HP := hide (HP.out.but b1 hne)
      have HS := hide s1
      clear s1 b1 P1 hq1
      have c12 := (Blk.p18 HP.out).2.2.2.2.2.2.2.2.2.2.2.2.1
      have c13 := (Blk.p18 HP.out).2.2.2.2.2.2.2.2.2.2.2.2.2.1
      have f13 := HP.out.frozen 13
      cases D64 with
      | false =>
        simp only [oT_false, Option.bind_some] at HO
        go_wp2_with fail
        go_end0
        rw [← HO.out]
        exact ⟨rfl, HS.out.set hne hvp 13 _, none, 0, 0, none, 0, 0, Blk.set HP.out 13 _, NewAt.nil _, NewAt.nil _, rfl, Nat.le_refl _, Rd.nil _ _, rfl, Nat.le_refl _, Rd.nil _ _⟩
      | true =>
        go_wp2_with fail
        obtain ⟨V3, hU⟩ : ∃ V3, (w1.setCell ⟨gp, 13, none⟩ (.string (str us))) = V3 := ⟨_, rfl⟩
        rw [hU]
        have HP := hide (show PkZ V3 gp ⟨1, false, 0, [], [], (q : Int), D32, cl, D2, (al : Int), false, true, true, us, [], false, [], []⟩ from by rw [← hU]; exact Blk.set HP.out 13 _)
        have HS := hide (show RrS v xs A n k g y5c V3 from by rw [← hU]; exact HS.out.set hne hvp 13 _)
        clear hU f13 c13
        have P1 := rrText_any v xs A n k g y5c _ hb HS.out
        try simp only [oT_true] at HO
        cases hq1 : qT y5c with
        | none =>
          have h0 : O = none := by rw [← HO.out, hq1]; rfl
          refine (RrPost.no P1 hq1).mono ?_
          rintro e w1 ⟨rfl, hv1⟩
          go_wp2_with fail
          all_goals first | exact ⟨rfl, rfl, hv1⟩ | exact ⟨rfl, by rw [h0]; exact ⟨rfl, hv1⟩⟩
        | some z =>
        obtain ⟨ps, y5cd⟩ := z
        rw [hq1] at HO
        simp only [Option.bind_some] at HO
        refine (RrPost.ok P1 hq1).mono ?_
        rintro e w1 ⟨rfl, s1, b1⟩
        have HP := hide (HP.out.but b1 hne)
        have HS := hide s1
        clear s1 b1 P1 hq1
        have c14 := (Blk.p18 HP.out).2.2.2.2.2.2.2.2.2.2.2.2.2.2.1
        have f14 := HP.out.frozen 14
        go_wp2_with fail
        go_end0
        rw [← HO.out]
        exact ⟨rfl, HS.out.set hne hvp 14 _, none, 0, 0, none, 0, 0, Blk.set HP.out 14 _, NewAt.nil _, NewAt.nil _, rfl, Nat.le_refl _, Rd.nil _ _, rfl, Nat.le_refl _, Rd.nil _ _⟩
  | true =>
    go_wp2_with fail
    obtain ⟨V4, hU⟩ : ∃ V4, (w1.setCell ⟨gp, 7, none⟩ (.string (str cl))) = V4 := ⟨_, rfl⟩
    rw [hU]
    have HP := hide (show PkZ V4 gp ⟨1, false, 0, [], [], (q : Int), D32, cl, D2, (al : Int), true, D128, D64, [], [], false, [], []⟩ from by rw [← hU]; exact Blk.set HP.out 7 _)
    have HS := hide (show RrS v xs A n k g y5 V4 from by rw [← hU]; exact HS.out.set hne hvp 7 _)
    clear hU f7 c7
    have P1 := rrText_any v xs A n k g y5 _ hb HS.out
    try simp only [oT_true] at HO
    cases hq1 : qT y5 with
    | none =>
      have h0 : O = none := by rw [← HO.out, hq1]; rfl
      refine (RrPost.no P1 hq1).mono ?_
      rintro e w1 ⟨rfl, hv1⟩
      go_wp2_with fail
      all_goals first | exact ⟨rfl, rfl, hv1⟩ | exact ⟨rfl, by rw [h0]; exact ⟨rfl, hv1⟩⟩
    | some z =>
    obtain ⟨tp, y5a⟩ := z
    rw [hq1] at HO
    simp only [Option.bind_some] at HO
    refine (RrPost.ok P1 hq1).mono ?_
    rintro e w1 ⟨rfl, s1, b1⟩
    have HP := hide (HP.out.but b1 hne)
    have HS := hide s1
    clear s1 b1 P1 hq1
    have c3 := (Blk.p18 HP.out).2.2.2.1
    have f3 := HP.out.frozen 3
    go_wp2_with fail
    obtain ⟨V5, hU⟩ : ∃ V5, (w1.setCell ⟨gp, 3, none⟩ (.string (str tp))) = V5 := ⟨_, rfl⟩
    rw [hU]
    have HP := hide (show PkZ V5 gp ⟨1, false, 0, tp, [], (q : Int), D32, cl, D2, (al : Int), true, D128, D64, [], [], false, [], []⟩ from by rw [← hU]; exact Blk.set HP.out 3 _)
    have HS := hide (show RrS v xs A n k g y5a V5 from by rw [← hU]; exact HS.out.set hne hvp 3 _)
    clear hU f3 c3
    have P1 := rrText_any v xs A n k g y5a _ hb HS.out
    try simp only [oT_true] at HO
    cases hq1 : qT y5a with
    | none =>
      have h0 : O = none := by rw [← HO.out, hq1]; rfl
      refine (RrPost.no P1 hq1).mono ?_
      rintro e w1 ⟨rfl, hv1⟩
      go_wp2_with fail
      all_goals first | exact ⟨rfl, rfl, hv1⟩ | exact ⟨rfl, by rw [h0]; exact ⟨rfl, hv1⟩⟩
    | some z =>
    obtain ⟨pl, y5b⟩ := z
    rw [hq1] at HO
    simp only [Option.bind_some] at HO
    refine (RrPost.ok P1 hq1).mono ?_
    rintro e w1 ⟨rfl, s1, b1⟩
    have HP := hide (HP.out.but b1 hne)
    have HS := hide s1
    clear s1 b1 P1 hq1
    have c4 := (Blk.p18 HP.out).2.2.2.2.1
    have c11 := (Blk.p18 HP.out).2.2.2.2.2.2.2.2.2.2.2.1
    have c12 := (Blk.p18 HP.out).2.2.2.2.2.2.2.2.2.2.2.2.1
    have f4 := HP.out.frozen 4
    cases D128 with
    | false =>
      simp only [oT_false, Option.bind_some] at HO
      cases D64 with
      | false =>
        simp only [oT_false, Option.bind_some] at HO
        go_wp2_with fail
        go_end0
        rw [← HO.out]
        exact ⟨rfl, HS.out.set hne hvp 4 _, none, 0, 0, none, 0, 0, Blk.set HP.out 4 _, NewAt.nil _, NewAt.nil _, rfl, Nat.le_refl _, Rd.nil _ _, rfl, Nat.le_refl _, Rd.nil _ _⟩
      | true =>
        go_wp2_with fail
        obtain ⟨V6, hU⟩ : ∃ V6, (w1.setCell ⟨gp, 4, none⟩ (.string (str pl))) = V6 := ⟨_, rfl⟩
        rw [hU]
        have HP := hide (show PkZ V6 gp ⟨1, false, 0, tp, pl, (q : Int), D32, cl, D2, (al : Int), true, false, true, [], [], false, [], []⟩ from by rw [← hU]; exact Blk.set HP.out 4 _)
        have HS := hide (show RrS v xs A n k g y5b V6 from by rw [← hU]; exact HS.out.set hne hvp 4 _)
        clear hU f4 c4
        have P1 := rrText_any v xs A n k g y5b _ hb HS.out
        try simp only [oT_true] at HO
        cases hq1 : qT y5b with
        | none =>
          have h0 : O = none := by rw [← HO.out, hq1]; rfl
          refine (RrPost.no P1 hq1).mono ?_
          rintro e w1 ⟨rfl, hv1⟩
          go_wp2_with fail
          all_goals first | exact ⟨rfl, rfl, hv1⟩ | exact ⟨rfl, by rw [h0]; exact ⟨rfl, hv1⟩⟩
        | some z =>
        obtain ⟨ps, y5bd⟩ := z
        rw [hq1] at HO
        simp only [Option.bind_some] at HO
        refine (RrPost.ok P1 hq1).mono ?_
        rintro e w1 ⟨rfl, s1, b1⟩
        have HP := hide (HP.out.but b1 hne)
        have HS := hide s1
        clear s1 b1 P1 hq1
        have c14 := (Blk.p18 HP.out).2.2.2.2.2.2.2.2.2.2.2.2.2.2.1
        have f14 := HP.out.frozen 14
        go_wp2_with fail
        go_end0
        rw [← HO.out]
        exact ⟨rfl, HS.out.set hne hvp 14 _, none, 0, 0, none, 0, 0, Blk.set HP.out 14 _, NewAt.nil _, NewAt.nil _, rfl, Nat.le_refl _, Rd.nil _ _, rfl, Nat.le_refl _, Rd.nil _ _⟩
    | true =>
      go_wp2_with fail
      obtain ⟨V7, hU⟩ : ∃ V7, (w1.setCell ⟨gp, 4, none⟩ (.string (str pl))) = V7 := ⟨_, rfl⟩
      rw [hU]
      have HP := hide (show PkZ V7 gp ⟨1, false, 0, tp, pl, (q : Int), D32, cl, D2, (al : Int), true, true, D64, [], [], false, [], []⟩ from by rw [← hU]; exact Blk.set HP.out 4 _)
      have HS := hide (show RrS v xs A n k g y5b V7 from by rw [← hU]; exact HS.out.set hne hvp 4 _)
      clear hU f4 c4
      have P1 := rrText_any v xs A n k g y5b _ hb HS.out
      try simp only [oT_true] at HO
      cases hq1 : qT y5b with
      | none =>
        have h0 : O = none := by rw [← HO.out, hq1]; rfl
        refine (RrPost.no P1 hq1).mono ?_
        rintro e w1 ⟨rfl, hv1⟩
        go_wp2_with fail
        all_goals first | exact ⟨rfl, rfl, hv1⟩ | exact ⟨rfl, by rw [h0]; exact ⟨rfl, hv1⟩⟩
      | some z =>
      obtain ⟨us, y5bc⟩ := z
      rw [hq1] at HO
      simp only [Option.bind_some] at HO
      refine (RrPost.ok P1 hq1).mono ?_
      rintro e w1 ⟨rfl, s1, b1⟩
      have HP := hide (HP.out.but b1 hne)
      have HS := hide s1
      clear s1 b1 P1 hq1
      have c12 := (Blk.p18 HP.out).2.2.2.2.2.2.2.2.2.2.2.2.1
      have c13 := (Blk.p18 HP.out).2.2.2.2.2.2.2.2.2.2.2.2.2.1
      have f13 := HP.out.frozen 13
      cases D64 with
      | false =>
        simp only [oT_false, Option.bind_some] at HO
        go_wp2_with fail
        go_end0
        rw [← HO.out]
        exact ⟨rfl, HS.out.set hne hvp 13 _, none, 0, 0, none, 0, 0, Blk.set HP.out 13 _, NewAt.nil _, NewAt.nil _, rfl, Nat.le_refl _, Rd.nil _ _, rfl, Nat.le_refl _, Rd.nil _ _⟩
      | true =>
        go_wp2_with fail
        obtain ⟨V8, hU⟩ : ∃ V8, (w1.setCell ⟨gp, 13, none⟩ (.string (str us))) = V8 := ⟨_, rfl⟩
        rw [hU]
        have HP := hide (show PkZ V8 gp ⟨1, false, 0, tp, pl, (q : Int), D32, cl, D2, (al : Int), true, true, true, us, [], false, [], []⟩ from by rw [← hU]; exact Blk.set HP.out 13 _)
        have HS := hide (show RrS v xs A n k g y5bc V8 from by rw [← hU]; exact HS.out.set hne hvp 13 _)
        clear hU f13 c13
        have P1 := rrText_any v xs A n k g y5bc _ hb HS.out
        try simp only [oT_true] at HO
        cases hq1 : qT y5bc with
        | none =>
          have h0 : O = none := by rw [← HO.out, hq1]; rfl
          refine (RrPost.no P1 hq1).mono ?_
          rintro e w1 ⟨rfl, hv1⟩
          go_wp2_with fail
          all_goals first | exact ⟨rfl, rfl, hv1⟩ | exact ⟨rfl, by rw [h0]; exact ⟨rfl, hv1⟩⟩
        | some z =>
        obtain ⟨ps, y5bcd⟩ := z
        rw [hq1] at HO
        simp only [Option.bind_some] at HO
        refine (RrPost.ok P1 hq1).mono ?_
        rintro e w1 ⟨rfl, s1, b1⟩
        have HP := hide (HP.out.but b1 hne)
        have HS := hide s1
        clear s1 b1 P1 hq1
        have c14 := (Blk.p18 HP.out).2.2.2.2.2.2.2.2.2.2.2.2.2.2.1
        have f14 := HP.out.frozen 14
        go_wp2_with fail
        go_end0
        rw [← HO.out]
        exact ⟨rfl, HS.out.set hne hvp 14 _, none, 0, 0, none, 0, 0, Blk.set HP.out 14 _, NewAt.nil _, NewAt.nil _, rfl, Nat.le_refl _, Rd.nil _ _, rfl, Nat.le_refl _, Rd.nil _ _⟩

end Go.Proofs.Ytjaaeiemgojnbaa
