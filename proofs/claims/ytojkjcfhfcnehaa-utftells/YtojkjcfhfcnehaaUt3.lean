/-
  What is proved here: what Is, Points and Text of package utf return, for every text and every list of at most 2^40 ints. Condition: so long lists.
-/
import Derived.Test.YtojkjcfhfcnehaaUt2
namespace Go.Proofs.Ytojkjcfhfcnehaa
set_option linter.unusedVariables false
set_option linter.unusedSimpArgs false
open Go.RowKit

theorem utIs_any (s : ByteArray) (w : World) : Calls Try.prog 9 #[.string s] w fun e w' => e = .returned (.bool (ptsU s.data.toList).isSome) ∧ Below w.heap.size w w' := by
  obtain ⟨xs, rfl⟩ : ∃ xs, s = str xs := ⟨_, (str_of s).symm⟩
  rw [str_data]
  go_enter Try.func9, Try.ntmps9
  go_wp2_with (go_at_call 14; refine (walkI_any xs _ rfl w.heap.size 0 w trivial (Nat.le_refl _)).mono ?_; rintro e w1 ⟨r, rfl, hr, b1⟩)
  go_ret
  refine ⟨?_, b1⟩
  rcases hr with ⟨rfl, h⟩ | ⟨ps, rfl, h, _⟩
  · rw [h]; rfl
  · rw [h]; rfl

/-- Points: what comes out. -/
def RetPts (xs : List UInt8) (w : World) (e : Ending) (w' : World) : Prop :=
  (ptsU xs = none ∧ e = .returned (.tuple #[.slice none 0 0, .int .i64 90]) ∧ Below w.heap.size w w') ∨
  ∃ ps A c, ptsU xs = some ps ∧ e = .returned (.tuple #[.slice A ps.length c, .int .i64 0]) ∧ ps.length ≤ c ∧ Rd w' A ps.length (iv (nts ps)) ∧ Below w.heap.size w w'

theorem utPoints_any (s : ByteArray) (w : World) : Calls Try.prog 7 #[.string s] w (RetPts s.data.toList w) := by
  obtain ⟨xs, rfl⟩ : ∃ xs, s = str xs := ⟨_, (str_of s).symm⟩
  rw [str_data]
  go_enter Try.func7, Try.ntmps7
  go_wp2_with fail
  have hJ : JP w.heap.size w.heap.size [] (w.alloc (.cells #[.slice none 0 0] 22)) := ⟨none, 0, Boxed.new w 22 (.slice none 0 0), World.ownsRow_nil _ _ _ _⟩
  refine (walkP_any xs _ rfl w.heap.size w.heap.size (Nat.le_refl _) _ hJ (by simp)).mono ?_
  rintro e w1 ⟨r, rfl, hr, b1⟩
  have B1 := hide (((Below.refl w.heap.size w).alloc (Nat.le_refl _) (.cells #[.slice none 0 0] 22)).trans b1)
  clear b1 hJ
  rcases hr with ⟨rfl, h⟩ | ⟨ps, rfl, h, A, c, hb, hrow⟩
  · have H := hide h
    clear h
    go_wp2_with fail
    go_ret2
    exact .inl ⟨H.out, rfl, B1.out⟩
  · have H := hide h
    have hc := hb.cell
    obtain ⟨n, hn⟩ : ∃ n, ps.length = n := ⟨_, rfl⟩
    have Hrow := hide hrow
    rw [hn] at hc
    clear h hrow hb
    go_wp2_with fail
    go_ret2
    exact .inr ⟨ps, A, c, H.out, by rw [hn]; rfl, own_cap Hrow.out, own_rd Hrow.out, B1.out⟩

/-- Text: what the points make. -/
def txtG (b : List UInt8) : List Int → Option (List UInt8)
  | [] => some b
  | p :: ps => if isPt p = true ∧ (b ++ enc p.toNat).length ≤ 65535 then txtG (b ++ enc p.toNat) ps else none
def txtU (ps : List Int) : Option (List UInt8) := txtG [] ps

/-- Text: what comes out. -/
def RetTxt (ps : List Int) (w : World) (e : Ending) (w' : World) : Prop :=
  ((txtU ps = none ∧ e = .returned (.tuple #[.string (str []), .int .i64 1])) ∨ ∃ xs, txtU ps = some xs ∧ e = .returned (.tuple #[.string (str xs), .int .i64 0])) ∧ Below w.heap.size w w'

set_option maxRecDepth 100000 in
set_option maxHeartbeats 2000000 in
theorem utText_any (A : Option Addr) (l c : Nat) (ps : List Int) (w : World) (h : Rd w A l (iv ps)) (hl : l ≤ maxLen) : Calls Try.prog 12 #[.slice A l c] w (RetTxt ps w) := by
  have hps : ps.length = l := by rw [← iv_length]; exact h.1
  unfold maxLen at hl
  have Hps := hide hps
  have Hh := hide h
  have hnil : w.ownsRow w.heap.size 5 1 (.slice none 0 0) 0 [] := World.ownsRow_nil _ _ _ _
  clear hps h
  go_enter Try.func12, Try.ntmps12
  go_wp2_with fail
  go_loopw [4, 9] (fun b i wr => ∃ (I k : Nat) (C : Option Addr) (d : Nat) (xs : List UInt8), b = .slice C k d ∧ i = .int .i64 (I : Int) ∧ I ≤ l ∧ k ≤ 65535 ∧ xs.length = k ∧ wr.ownsRow w.heap.size 5 1 (.slice C k d) k (bv xs) ∧
    txtU ps = txtG xs (ps.drop I) ∧ Below w.heap.size w wr) (fun _ i _ => l - (intOf i).toNat)
  case atStart => exact ⟨0, 0, none, 0, [], rfl, rfl, by omega, by omega, rfl, hnil, rfl, Below.refl _ _⟩
  case round =>
    obtain ⟨I, k, C, d, xs, rfl, rfl, hI, hk, hxk, hown, htx, hB⟩ := hrel
    have HB := hide hB
    have Hx := hide hxk
    have Hown := hide hown
    have hsz := hB.size
    clear hB hxk hown hnil
    by_cases hlt : I < l
    · have q1 : (I : Int) < (l : Int) := by omega
      have hlt' : I < ps.length := by rw [Hps.out]; exact hlt
      obtain ⟨b, o, rfl, hbl, hc⟩ := Hh.out.at_ hlt
      have c0 : wr.cell? ⟨b, o + I, none⟩ = some (.int .i64 ps[I]) := (HB.out.cell (p := ⟨b, o + I, none⟩) hbl).trans (hc I _ (iv_get ps I hlt'))
      rw [List.drop_eq_getElem_cons hlt', txtG] at htx
      generalize ps[I] = p at *
      clear hc hlt' hbl
      cases hp : isPt p with
      | false =>
        have Htx := hide (show txtU ps = none by rw [htx, if_neg (by rw [hp]; simp)])
        clear htx
        go_wp2_with (go_at_call 19; refine (isPoint_any _ _).mono ?_; rintro e w' ⟨rfl, rfl⟩; rw [hp])
        go_ret2
        exact ⟨.inl ⟨Htx.out, rfl⟩, HB.out⟩
      | true =>
        obtain ⟨q, rfl, hq1, hq2⟩ := isPt_nat hp
        obtain ⟨Z, hZ⟩ : ∃ Z, szP q = Z := ⟨_, rfl⟩
        have hZ4 := szP_le q
        have hlen : (xs ++ enc q).length = k + Z := by rw [List.length_append, enc_length, Hx.out, hZ]
        have P0 := put_any w.heap.size C k d xs q hp wr Hown.out (by omega) hsz
        rw [hZ] at P0 hZ4
        rw [Int.toNat_natCast, hlen] at htx
        by_cases hbig : k + Z ≤ 65535
        · have q2 : ¬ (65535 : Int) < (k : Int) + (Z : Int) := by omega
          rw [if_pos ⟨hp, hbig⟩] at htx
          have Htx := hide htx
          have Hlen := hide hlen
          clear htx hlen hZ
          go_wp2_with (first
            | (go_at_call 19; refine (isPoint_any _ _).mono ?_; rintro e w' ⟨rfl, rfl⟩; rw [hp])
            | (go_at_call 20; refine P0.mono ?_; rintro e w2 ⟨C2, d2, rfl, o2, b2⟩))
          exact ⟨⟨I + 1, k + Z, C2, d2, xs ++ enc q, rfl, by go_num, by omega, hbig, Hlen.out, o2, Htx.out, HB.out.trans b2⟩, by simp [intOf]; omega⟩
        · have q2 : (65535 : Int) < (k : Int) + (Z : Int) := by omega
          have Htx := hide (show txtU ps = none by rw [htx, if_neg (fun h => hbig h.2)])
          clear htx hlen hZ
          go_wp2_with (first
            | (go_at_call 19; refine (isPoint_any _ _).mono ?_; rintro e w' ⟨rfl, rfl⟩; rw [hp])
            | (go_at_call 20; refine P0.mono ?_; rintro e w2 ⟨C2, d2, rfl, o2, b2⟩))
          go_ret2
          exact ⟨.inl ⟨Htx.out, rfl⟩, HB.out.trans b2⟩
    · obtain rfl : I = l := by omega
      have q1 : ¬ (I : Int) < (I : Int) := by omega
      rw [List.drop_eq_nil_of_le (by rw [Hps.out]; exact Nat.le_refl _), txtG] at htx
      have Htx := hide htx
      have S0 := rdStr (own_rd Hown.out) d
      clear htx
      go_wp2_with fail
      go_ret2
      exact ⟨.inr ⟨xs, Htx.out, rfl⟩, HB.out⟩

/-! ### What Text tells, in other words -/
def encsI (ps : List Int) : List UInt8 := encs (ps.map Int.toNat)
theorem txtG_small (ps : List Int) (b : List UInt8) (h : b.length + 4 * ps.length ≤ 65535) : txtG b ps = if ps.all isPt = true then some (b ++ encsI ps) else none := by
  induction ps generalizing b with
  | nil => simp [txtG, encsI, encs]
  | cons p ps ih =>
    have h4 := (szP_le p.toNat).2
    rw [List.length_cons] at h
    rw [txtG]
    cases hp : isPt p with
    | false => rw [if_neg (by simp), if_neg (by simp [hp])]
    | true =>
      rw [if_pos ⟨rfl, by rw [List.length_append, enc_length]; omega⟩, ih _ (by rw [List.length_append, enc_length]; omega)]
      simp [hp, encsI, encs]
theorem txtU_small (ps : List Int) (h : 4 * ps.length ≤ 65535) : txtU ps = if ps.all isPt = true then some (encsI ps) else none := by
  unfold txtU
  rw [txtG_small ps [] (by simpa using h)]
  rfl
theorem ptsU_small (xs : List UInt8) (h : xs.length ≤ 65535) : ptsU xs = ptsL xs := by unfold ptsU; rw [if_pos h]
theorem nts_of (ps : List Int) (h : ps.all isPt = true) : nts (ps.map Int.toNat) = ps ∧ allPt (ps.map Int.toNat) := by
  induction ps with
  | nil => exact ⟨rfl, by simp [allPt]⟩
  | cons p ps ih =>
    simp only [List.all_cons, Bool.and_eq_true] at h
    obtain ⟨k1, k2⟩ := ih h.2
    obtain ⟨q, rfl, _, _⟩ := isPt_nat h.1
    refine ⟨by simp only [nts, List.map_cons] at k1 ⊢; rw [k1]; rfl, fun r hr => ?_⟩
    simp only [List.map_cons, List.mem_cons, Int.toNat_natCast] at hr
    rcases hr with rfl | hr
    · exact h.1
    · exact k2 r hr
theorem all_nts (ps : List Nat) (h : allPt ps) : (nts ps).all isPt = true ∧ (nts ps).map Int.toNat = ps := by
  induction ps with
  | nil => exact ⟨rfl, rfl⟩
  | cons p ps ih =>
    obtain ⟨k1, k2⟩ := ih fun q hq => h q (by simp [hq])
    have hp := h p (by simp)
    refine ⟨?_, ?_⟩
    · simp only [nts, List.map_cons, List.all_cons, Bool.and_eq_true] at k1 ⊢
      exact ⟨hp, k1⟩
    · simp only [nts, List.map_cons] at k2 ⊢
      rw [k2]
      rfl
theorem encsI_len (ps : List Int) : (encsI ps).length ≤ 4 * ps.length := by
  have := encs_len_ge (ps.map Int.toNat)
  simpa [encsI] using this
/-- The text of points, if they are points, is told as these. -/
theorem pts_of_txt (ps : List Int) (h : ps.all isPt = true) : ∃ qs, ptsL (encsI ps) = some qs ∧ nts qs = ps ∧ qs.length = ps.length := by
  obtain ⟨k1, k2⟩ := nts_of ps h
  exact ⟨_, ptsL_of k2, k1, by simp⟩
/-- The points of a text have it as their text. -/
theorem txt_of_pts {xs : List UInt8} {ps : List Nat} (h : ptsL xs = some ps) : (nts ps).all isPt = true ∧ encsI (nts ps) = xs := by
  obtain ⟨k1, k2⟩ := (ptsL_iff _ _).1 h
  obtain ⟨j1, j2⟩ := all_nts ps k1
  exact ⟨j1, by unfold encsI; rw [j2, k2]⟩

end Go.Proofs.Ytojkjcfhfcnehaa
