/-
  What is proved here: what mbap's Frame, size and adu return. Condition: lengths up to some hundred thousand.
-/
import Derived.Test.YtjldfefebnpdgaaMb1
namespace Go.Proofs.Ytjldfefebnpdgaa
set_option linter.unusedVariables false
set_option linter.unusedSimpArgs false
open Go.RowKit

/-- The words at the beginning of a frame. -/
def hdL (t : Nat) (m : Nat) (k : Nat) : List UInt8 := (word t ++ (word 0 ++ word m)).take (2 * k)
theorem hdL_succ (t m k : Nat) (hk : k < 3) : hdL t m (k + 1) = hdL t m k ++ word (if k = 0 then t else if k = 1 then 0 else m) := by
  match k, hk with
  | 0, _ => rfl
  | 1, _ => rfl
  | 2, _ => rfl
theorem hdL_length (t m k : Nat) (hk : k ≤ 3) : (hdL t m k).length = 2 * k := by
  have : (word t ++ (word 0 ++ word m)).length = 6 := rfl
  rw [hdL, List.length_take, this]
  omega
def ckL (t m k : Nat) : Nat := if k = 0 then t else if k = 1 then 0 else m
theorem ck_get (t m k : Nat) (hk : k < 3) : [Value.int .i64 (t : Int), .int .i64 0, .int .i64 (m : Int)][k]? = some (.int .i64 ((ckL t m k : Nat) : Int)) := by
  match k, hk with
  | 0, _ => rfl
  | 1, _ => rfl
  | 2, _ => rfl

/-- Frame, of one that may be. -/
theorem mframe_ok (t u : Nat) (A : Option Addr) (n k : Nat) (xs : List UInt8) (hx : xs.length = n) (ht : t ≤ 65535) (hu : u ≤ 255) (hn1 : 1 ≤ n) (hn2 : n ≤ 253) (w : World) (hr : Rd w A n (bv xs)) :
    Calls Try.prog 9 #[.agg #[.int .i64 (t : Int), .int .i64 (u : Int), .slice A n k]] w fun e w' => ∃ C c, e = .returned (.tuple #[.slice C (n + 7) c, .int .i64 0]) ∧ w'.ownsRow w.heap.size 5 1 (.slice C (n + 7) c) (n + 7) (bv (aduL ⟨t, u, xs⟩)) ∧ Below w.heap.size w w' := by
  have HM := hide (fun W => mmay_any (t : Int) (u : Int) A n k xs hx W)
  have hb : aduOk ⟨t, u, xs⟩ = true := by
    unfold aduOk
    rw [decide_eq_true_iff]
    simp only [hx]
    omega
  rw [hb] at HM
  have HR := hide hr
  have HX := hide hx
  clear hb hr hx
  go_enter Try.func9, Try.ntmps9
  go_wp2_with fail
  refine (HM.out _).mono ?_
  rintro e w1 ⟨rfl, b1⟩
  have b2 : Below w.heap.size w w1 := ((Below.refl _ _).alloc (Nat.le_refl _) _).trans (b1.mono (by simp))
  have k1 := (Blk.new w 24 [.int .i64 (t : Int), .int .i64 (u : Int), .slice A n k]).keep b1
  obtain ⟨c0, c1, c2⟩ := k1.three
  have K1 := hide k1
  have B2 := hide b2
  have hlt : w.heap.size < w1.heap.size := k1.lt
  clear b1 b2 k1
  have q1 : IntKind.i64.wrap (1 + (n : Int)) = 1 + (n : Int) := by rw [IntKind.wrap_i64]; omega
  go_wp2_with fail
  obtain ⟨W, hW⟩ : ∃ W, W = w1.alloc (.cells #[.int .i64 (t : Int), .int .i64 0, .int .i64 (1 + (n : Int))] 3) := ⟨_, rfl⟩
  have hk2 : Blk W w1.heap.size 3 [.int .i64 (t : Int), .int .i64 0, .int .i64 (1 + (n : Int))] := by subst hW; exact Blk.new _ _ _
  have hb2 : Below w1.heap.size w1 W := by subst hW; exact (Below.refl _ _).alloc (Nat.le_refl _) _
  have K2 := hide hk2
  have BW := hide hb2
  rw [← hW]
  clear hW hk2 hb2
  go_loopw [4, 18] (fun v i wr => ∃ (j : Nat) (C : Option Addr) (kk : Nat), j ≤ 3 ∧ i = .int .i64 (j : Int) ∧ v = .slice C (2 * j) kk ∧ Rd wr C (2 * j) (bv (hdL t (n + 1) j)) ∧ (0 < j → wr.ownsRow W.heap.size 5 1 (.slice C (2 * j) kk) (2 * j) (bv (hdL t (n + 1) j))) ∧ Below W.heap.size W wr) (fun _ i _ => 3 - (intOf i).toNat)
  case atStart => exact ⟨0, none, 0, by omega, rfl, rfl, Rd.nil _ _, fun h0 => absurd h0 (Nat.lt_irrefl 0), Below.refl _ _⟩
  case round =>
    obtain ⟨j, C, kk, hj, rfl, rfl, hrd, hown, hbel⟩ := hrel
    by_cases hlt : j < 3
    · have cA : wr.cell? ⟨w1.heap.size, j, none⟩ = some (.int .i64 ((ckL t (n + 1) j : Nat) : Int)) := by
        rw [(K2.out.keep hbel).cell, ← ck_get t (n + 1) j hlt, show ((n + 1 : Nat) : Int) = 1 + (n : Int) by omega]
      have hz : ckL t (n + 1) j ≤ 65535 := by unfold ckL; split; · exact ht
                                              split; · omega
                                              omega
      have Hs : Hid (hdL t (n + 1) (j + 1) = hdL t (n + 1) j ++ word (ckL t (n + 1) j)) := hdL_succ t (n + 1) j hlt
      have q : (j : Int) < 3 := by omega
      generalize ckL t (n + 1) j = z at *
      have HP := hide (fun N hN => putI C (2 * j) kk (z : Int) z N rfl hN (hdL t (n + 1) j) wr hrd (by omega) hz)
      have Hbel := hide hbel
      have Hlen := hide (hdL_length t (n + 1) (j + 1) (by omega))
      clear hown hrd hbel
      go_wp2_with fail
      refine (HP.out (2 * (j + 1)) (by omega)).mono ?_
      rintro e w2 ⟨rfl, k2, b2⟩
      rw [← show hdL t (n + 1) (j + 1) = hdL t (n + 1) j ++ word z from Hs.out] at k2
      have o2 := k2.own (Hbel.out.size) (2 * (j + 1)) (by rw [bv_length]; exact Hlen.out) (by unfold maxLen; omega)
      have Ho := hide o2
      have Hr := hide (own_rd o2)
      have Hb2 := hide (below_on Hbel.out b2)
      clear o2 b2 k2
      go_wp2
      exact ⟨⟨j + 1, _, _, by omega, by go_num, rfl, Hr.out, fun _ => Ho.out, Hb2.out⟩, by simp [intOf]; omega⟩
    · obtain rfl : j = 3 := by omega
      have Ho := hide (hown (by omega))
      have Hbel := hide hbel
      have kA := K1.out.keep (below_on BW.out hbel)
      obtain ⟨d0, d1, d2⟩ := kA.three
      have hltr := kA.lt
      have KA := hide kA
      have qm : (u : Int) % 256 = u := by omega
      clear hown hrd hbel kA
      go_wp2_with (first
        | (at_builtin; refine wpList_app rfl (.tmp 29) (.tmp 33) 22 rfl 5 _ _ Try.underlying22 u8_info rfl W.heap.size C (2 * 3) kk (bv (hdL t (n + 1) 3)) rfl (own_keep Ho.out ((Below.refl _ _).alloc (Nat.le_refl _) _)) _ 1 1 [.int .u8 (u : Int)] rfl (rd_one _ _ _) (by intro v hv; simp at hv; subst hv; rfl) (by unfold maxLen; omega) (by omega) (Nat.le_trans Hbel.out.size (by simp)) ?_; intro A2 c2' w2 o2 g2 b2; (have b3 : Below W.heap.size W w2 := (Hbel.out.alloc Hbel.out.size _).trans b2); (have e3 := (K1.out.keep BW.out).keep b3); obtain ⟨e0, e1, e2⟩ := e3.three; have O2 := hide o2; have B3 := hide b3; clear o2 g2 b2 b3 e3)
        | (at_builtin; refine wpList_app rfl (.tmp 35) (.tmp 37) 22 rfl 5 _ _ Try.underlying22 u8_info rfl W.heap.size A2 7 c2' (bv (hdL t (n + 1) 3) ++ [.int .u8 (u : Int)]) rfl O2.out A n k (bv xs) rfl (HR.out.keep (below_on B2.out (below_on BW.out B3.out))) (bv_one _) (by unfold maxLen; omega) (by omega) B3.out.size ?_; intro A4 c4 w4 o4 g4 b4; have O4 := hide o4; have B4 := hide (below_on B2.out (below_on BW.out (B3.out.trans b4))); clear o4 g4 b4))
      go_ret2
      refine ⟨A4, c4, by rw [Nat.add_comm n 7]; rfl, ?_, B4.out⟩
      have he : bv (hdL t (n + 1) 3) ++ [.int .u8 (u : Int)] ++ bv xs = bv (aduL ⟨t, u, xs⟩) := by
        rw [show aduL ⟨t, u, xs⟩ = (hdL t (n + 1) 3 ++ [UInt8.ofNat u]) ++ xs by rw [← HX.out]; rfl, bv_append, bv_append]
        congr 2
        show [Value.int .u8 (u : Int)] = [Value.int .u8 ((UInt8.ofNat u).toNat : Int)]
        rw [u8n u (by omega)]
      have o5 := O4.out
      rw [he, Nat.add_comm 7 n] at o5
      exact own_base o5 (fun b o e => Nat.le_trans (below_on B2.out BW.out).size (own_newAt o5 b o e))

/-- size. -/
def szE (xs : List UInt8) : Int := match mbNx xs with | .wait => 7 | .bad => 50 | .cut _ _ => 0
def szN (xs : List UInt8) : Int := match mbNx xs with | .wait => 0 | .bad => 0 | .cut _ n => n
theorem get_byteAt (xs : List UInt8) (i : Nat) (h : i < xs.length) : ∃ x, xs[i]? = some x ∧ x.toNat = byteAt xs i := by
  refine ⟨xs[i], List.getElem?_eq_getElem h, ?_⟩
  unfold byteAt
  rw [List.getElem?_eq_getElem h]
  rfl
theorem msize_any (A : Option Addr) (n k : Nat) (xs : List UInt8) (w : World) (hr : Rd w A n (bv xs)) (hn : n ≤ 1000000) :
    Calls Try.prog 29 #[.slice A n k] w fun e w' => e = .returned (.tuple #[.int .i64 (szN xs), .int .i64 (szE xs)]) ∧ ∃ q, w' = w.drewN q := by
  have hx : xs.length = n := by rw [← bv_length]; exact hr.1
  by_cases h6 : n < 6
  · have hnx := mbNx_few xs (by omega)
    have H1 : Hid (szN xs = 0 ∧ szE xs = 7) := by constructor <;> simp only [szN, szE, hnx]
    have HA := hide (at_more A n k 4 w (by omega) (by omega) (by unfold maxLen; omega))
    clear hr hx hnx
    go_enter Try.func29, Try.ntmps29
    go_wp2_with fail
    refine HA.out.mono ?_
    rintro e w1 ⟨rfl, rfl⟩
    go_wp2
    go_ret2
    obtain ⟨e1, e2⟩ := H1.out
    exact ⟨by rw [e1, e2]; rfl, 0, rfl⟩
  obtain ⟨x2, g2, b2⟩ := get_byteAt xs 2 (by omega)
  obtain ⟨x3, g3, b3⟩ := get_byteAt xs 3 (by omega)
  obtain ⟨x4, g4, b4⟩ := get_byteAt xs 4 (by omega)
  obtain ⟨x5, g5, b5⟩ := get_byteAt xs 5 (by omega)
  have HA4 := hide (fun (W : World) (h : Rd W A n (bv xs)) => atI A n k 4 4 rfl xs W h (by omega) (by unfold maxLen; omega) x4 x5 g4 g5 (wordN xs 4 : Nat) (by show ((256 * byteAt xs 4 + byteAt xs 5 : Nat) : Int) = _; rw [← b4, ← b5]; omega))
  have HA2 := hide (fun (W : World) (h : Rd W A n (bv xs)) => atI A n k 2 2 rfl xs W h (by omega) (by unfold maxLen; omega) x2 x3 g2 g3 (wordN xs 2 : Nat) (by show ((256 * byteAt xs 2 + byteAt xs 3 : Nat) : Int) = _; rw [← b2, ← b3]; omega))
  have l4 : wordN xs 4 ≤ 65535 := by show 256 * byteAt xs 4 + byteAt xs 5 ≤ _; have := byteAt_lt xs 4; have := byteAt_lt xs 5; omega
  have l2 : wordN xs 2 ≤ 65535 := by show 256 * byteAt xs 2 + byteAt xs 3 ≤ _; have := byteAt_lt xs 2; have := byteAt_lt xs 3; omega
  clear g2 g3 g4 g5 b2 b3 b4 b5
  have HR := hide hr
  by_cases hb : wordN xs 2 ≠ 0 ∨ wordN xs 4 < 2 ∨ 254 < wordN xs 4
  · have hnx := mbNx_bad xs (by omega) hb
    have H1 : Hid (szN xs = 0 ∧ szE xs = 50) := by constructor <;> simp only [szN, szE, hnx]
    clear hr hx hnx
    generalize wordN xs 2 = m2 at *
    generalize wordN xs 4 = m4 at *
    by_cases p1 : m2 = 0
    · subst p1
      by_cases p2 : m4 < 2
      · have q2 : (m4 : Int) < 2 := by omega
        go_enter Try.func29, Try.ntmps29
        go_wp2_with fail
        refine (HA4.out _ HR.out).mono ?_
        rintro e w1 ⟨rfl, nq, rfl⟩
        go_wp2_with fail
        refine (HA2.out (w.drewN nq) (HR.out.drewN nq)).mono ?_
        rintro e w2 ⟨rfl, nq2, rfl⟩
        go_wp2
        go_ret2
        obtain ⟨e1, e2⟩ := H1.out
        exact ⟨by rw [e1, e2]; rfl, nq + nq2, by simp⟩
      · have q2 : ¬ (m4 : Int) < 2 := by omega
        have q3 : (254 : Int) < (m4 : Int) := by omega
        go_enter Try.func29, Try.ntmps29
        go_wp2_with fail
        refine (HA4.out _ HR.out).mono ?_
        rintro e w1 ⟨rfl, nq, rfl⟩
        go_wp2_with fail
        refine (HA2.out (w.drewN nq) (HR.out.drewN nq)).mono ?_
        rintro e w2 ⟨rfl, nq2, rfl⟩
        go_wp2
        go_ret2
        obtain ⟨e1, e2⟩ := H1.out
        exact ⟨by rw [e1, e2]; rfl, nq + nq2, by simp⟩
    · have q1 : ((m2 : Int) != 0) = true := by rw [bne_iff_ne]; omega
      go_enter Try.func29, Try.ntmps29
      go_wp2_with fail
      refine (HA4.out _ HR.out).mono ?_
      rintro e w1 ⟨rfl, nq, rfl⟩
      go_wp2_with fail
      refine (HA2.out (w.drewN nq) (HR.out.drewN nq)).mono ?_
      rintro e w2 ⟨rfl, nq2, rfl⟩
      go_wp2
      go_ret2
      obtain ⟨e1, e2⟩ := H1.out
      exact ⟨by rw [e1, e2]; rfl, nq + nq2, by simp⟩
  · have e2 : wordN xs 2 = 0 := by omega
    have q2 : ¬ (wordN xs 4 : Int) < 2 := by omega
    have q3 : ¬ (254 : Int) < (wordN xs 4 : Int) := by omega
    rw [e2] at HA2
    by_cases h3 : n < 6 + wordN xs 4
    · have hnx := mbNx_wait xs (by omega) hb (by omega)
      have H1 : Hid (szN xs = 0 ∧ szE xs = 7) := by constructor <;> simp only [szN, szE, hnx]
      clear hr hx hnx hb e2
      generalize wordN xs 4 = m4 at *
      have q4 : (n : Int) < 6 + (m4 : Int) := by omega
      go_enter Try.func29, Try.ntmps29
      go_wp2_with fail
      refine (HA4.out _ HR.out).mono ?_
      rintro e w1 ⟨rfl, nq, rfl⟩
      go_wp2_with fail
      refine (HA2.out (w.drewN nq) (HR.out.drewN nq)).mono ?_
      rintro e w2 ⟨rfl, nq2, rfl⟩
      go_wp2
      go_ret2
      obtain ⟨e1, e2⟩ := H1.out
      exact ⟨by rw [e1, e2]; rfl, nq + nq2, by simp⟩
    · have hnx := mbNx_cut xs (by omega) hb (by omega)
      have H1 : Hid (szN xs = 6 + (wordN xs 4 : Nat) ∧ szE xs = 0) := by constructor <;> simp only [szN, szE, hnx]; omega
      clear hr hx hnx hb e2
      generalize wordN xs 4 = m4 at *
      have q4 : ¬ (n : Int) < 6 + (m4 : Int) := by omega
      go_enter Try.func29, Try.ntmps29
      go_wp2_with fail
      refine (HA4.out _ HR.out).mono ?_
      rintro e w1 ⟨rfl, nq, rfl⟩
      go_wp2_with fail
      refine (HA2.out (w.drewN nq) (HR.out.drewN nq)).mono ?_
      rintro e w2 ⟨rfl, nq2, rfl⟩
      go_wp2
      go_ret2
      obtain ⟨e1, e2⟩ := H1.out
      exact ⟨by rw [e1, e2]; rfl, nq + nq2, by simp⟩

end Go.Proofs.Ytjldfefebnpdgaa
