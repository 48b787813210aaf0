/-
  What is proved here: what ContainsAny of Go's package strings returns for the signs + and #: whether one of them stands in a text, for every text shorter than 2^31 bytes, whatever its bytes are. Condition: so short a text.
-/
import Derived.Test.YtfjafpbmgbnllaaGreatTp1
import Derived.Deep.DeepCutAuto
import Derived.Lib.OthersKept
namespace Go.Proofs.YtfjafpbmgbnllaaGreat
set_option linter.unusedVariables false
set_option linter.unusedSimpArgs false
open Go.RowKit

/-- One step of a range over a text: a byte below 128, or what is none. -/
theorem dec_step (xs : List UInt8) (i : Nat) (hi : i < xs.length) :
    ((xs[i].toNat < 128 ∧ Utf8.decode (str xs) i = (xs[i].toNat, 1)) ∨
     (128 ≤ xs[i].toNat ∧ ∃ r k, Utf8.decode (str xs) i = (r, k) ∧ 128 ≤ r ∧ r ≤ 1114111 ∧ Utf8.valid (r : Int) = true ∧ 1 ≤ k ∧ i + k ≤ xs.length ∧ ∀ j (h : j < xs.length), i ≤ j → j < i + k → 128 ≤ xs[j].toNat)) := by
  have hg : ∀ j (h : j < xs.length), (str xs).get! j = xs[j] := by
    intro j h
    have : (str xs).get! j = (str xs).data[j]! := rfl
    rw [this]
    simp [str, h]
  have hsz : (str xs).size = xs.length := by rw [Lib.size_eq, str_list]
  rw [Lib.decode_at, hsz, hg i hi]
  obtain ⟨c0, hc0⟩ : ∃ c0, xs[i].toNat = c0 := ⟨_, rfl⟩
  have l0 : c0 < 256 := by rw [← hc0]; exact xs[i].toNat_lt
  rw [hc0]
  by_cases h0 : c0 < 128
  · refine .inl ⟨h0, ?_⟩
    unfold Lib.decodeN
    rw [if_pos h0]
  refine .inr ⟨by omega, ?_⟩
  have hb : ∀ d, ∃ c, ((str xs).get! (i + d)).toNat = c ∧ c < 256 ∧ ∀ (h : i + d < xs.length), xs[i + d].toNat = c := fun d => ⟨_, rfl, ((str xs).get! (i + d)).toNat_lt, fun h => by rw [hg _ h]⟩
  obtain ⟨c1, e1, l1, g1⟩ := hb 1
  obtain ⟨c2, e2, l2, g2⟩ := hb 2
  obtain ⟨c3, e3, l3, g3⟩ := hb 3
  rw [e1, e2, e3]
  obtain ⟨n, hn⟩ : ∃ n, xs.length = n := ⟨_, rfl⟩
  have one : ∀ (k : Nat), k = 1 → i + k ≤ xs.length ∧ ∀ j (h : j < xs.length), i ≤ j → j < i + k → 128 ≤ xs[j].toNat := by
    rintro k rfl
    refine ⟨by omega, fun j h h1 h2 => ?_⟩
    obtain rfl : j = i := by omega
    omega
  have v : ∀ r : Nat, (r < 55296 ∨ 57344 ≤ r ∧ r ≤ 1114111) → Utf8.valid (r : Int) = true := by
    intro r h
    unfold Utf8.valid
    simp only [Bool.or_eq_true, Bool.and_eq_true, decide_eq_true_eq]
    omega
  have all : ∀ (k : Nat), i + k ≤ n → (k = 2 ∨ k = 3 ∨ k = 4) → 128 ≤ c1 → (2 < k → 128 ≤ c2) → (3 < k → 128 ≤ c3) → i + k ≤ xs.length ∧ ∀ j (h : j < xs.length), i ≤ j → j < i + k → 128 ≤ xs[j].toNat := by
    intro k h1 h2 h3 h4 h5
    refine ⟨by omega, fun j h hj1 hj2 => ?_⟩
    obtain rfl | rfl | rfl | rfl : j = i ∨ j = i + 1 ∨ j = i + 2 ∨ j = i + 3 := by omega
    · omega
    · rw [g1 h]; exact h3
    · rw [g2 h]; exact h4 (by omega)
    · rw [g3 h]; exact h5 (by omega)
  unfold Lib.decodeN
  rw [if_neg h0]
  split
  · rename_i hc
    split
    · exact ⟨_, _, rfl, by omega, by omega, v _ (by omega), by omega, all 2 (by omega) (by omega) (by omega) (by omega) (by omega)⟩
    · exact ⟨_, _, rfl, by omega, by omega, v _ (by omega), by omega, one _ rfl⟩
  · split
    · rename_i hc
      split
      · exact ⟨_, _, rfl, by omega, by omega, v _ (by omega), by omega, all 3 (by omega) (by omega) (by omega) (by omega) (by omega)⟩
      · exact ⟨_, _, rfl, by omega, by omega, v _ (by omega), by omega, one _ rfl⟩
    · split
      · rename_i hc
        split
        · exact ⟨_, _, rfl, by omega, by omega, v _ (by omega), by omega, all 4 (by omega) (by omega) (by omega) (by omega) (by omega)⟩
        · exact ⟨_, _, rfl, by omega, by omega, v _ (by omega), by omega, one _ rfl⟩
      · exact ⟨_, _, rfl, by omega, by omega, v _ (by omega), by omega, one _ rfl⟩

/-- The bytes of a rune that is none below 128: at least two, the second and the last from 128 on. -/
theorem enc_high (r : Nat) (h : 128 ≤ r) (hv : Utf8.valid (r : Int) = true) : ∃ (m : Nat) (ys : List UInt8), Utf8.encode (r : Int) = str ys ∧ ys.length = m + 1 ∧ 1 ≤ m ∧ m ≤ 3 ∧ ∀ j (hj : j < ys.length), 128 ≤ ys[j].toNat := by
  have hr : r ≤ 1114111 := by
    unfold Utf8.valid at hv
    simp only [Bool.or_eq_true, Bool.and_eq_true, decide_eq_true_eq] at hv
    omega
  unfold Utf8.encode
  rw [if_pos hv]
  simp only [Int.toNat_natCast]
  rw [if_neg (by omega)]
  have u : ∀ n, 128 ≤ n → n < 256 → 128 ≤ (UInt8.ofNat n).toNat := fun n h1 h2 => by rw [u8n h2]; exact h1
  split
  · refine ⟨1, [_, _], rfl, rfl, by omega, by omega, ?_⟩
    intro j hj
    match j, hj with
    | 0, _ => exact u _ (by omega) (by omega)
    | 1, _ => exact u _ (by omega) (by omega)
  · split
    · refine ⟨2, [_, _, _], rfl, rfl, by omega, by omega, ?_⟩
      intro j hj
      match j, hj with
      | 0, _ => exact u _ (by omega) (by omega)
      | 1, _ => exact u _ (by omega) (by omega)
      | 2, _ => exact u _ (by omega) (by omega)
    · refine ⟨3, [_, _, _, _], rfl, rfl, by omega, by omega, ?_⟩
      intro j hj
      match j, hj with
      | 0, _ => exact u _ (by omega) (by omega)
      | 1, _ => exact u _ (by omega) (by omega)
      | 2, _ => exact u _ (by omega) (by omega)
      | 3, _ => exact u _ (by omega) (by omega)

theorem validRune_any (r : Nat) (hv : Utf8.valid (r : Int) = true) (w : World) :
    Calls Tryz.prog 107 #[.int .i32 (r : Int)] w fun e w' => e = .returned (.bool true) ∧ w' = w := by
  unfold Utf8.valid at hv
  simp only [Bool.or_eq_true, Bool.and_eq_true, decide_eq_true_eq] at hv
  by_cases h : (r : Int) < 55296
  · go_enter Tryz.func107, Tryz.ntmps107
    clear hv
    go_wp2
    go_ret
    exact ⟨rfl, rfl⟩
  · have h1 : (57343 : Int) < (r : Int) := by omega
    have h2 : (r : Int) ≤ 1114111 := by omega
    clear hv
    go_enter Tryz.func107, Tryz.ntmps107
    go_wp2
    go_ret
    exact ⟨rfl, rfl⟩

set_option maxRecDepth 100000 in
/-- IndexRune of + or # by a rune below 128. -/
theorem indexRune_low (r : Int) (h0 : 0 ≤ r) (h1 : r < 128) (w : World) :
    Calls Tryz.prog 94 #[.string ⟨#[43, 35]⟩, .int .i32 r] w fun e w' => e = .returned (.int .i64 (Lib.indexByte [43, 35] r.toNat.toUInt8)) ∧ w' = w := by
  have H := hide fun W => sIndexByte_any [43, 35] r W
  have hw : IntKind.u8.wrap r = r := by rw [IntKind.wrap_u8]; omega
  go_enter Tryz.func94, Tryz.ntmps94
  go_wp2_with (go_at_call 106; refine (H.out _).mono ?_; rintro e w' ⟨rfl, rfl⟩)
  go_ret
  exact ⟨rfl, rfl⟩

set_option maxRecDepth 100000 in
set_option maxHeartbeats 2000000 in
theorem indexRune_bad (w : World) :
    Calls Tryz.prog 94 #[.string ⟨#[43, 35]⟩, .int .i32 65533] w fun e w' => e = .returned (.int .i64 (-1)) ∧ Below w.heap.size w w' := by
  have hx := fun ty => run_next_ascii (P := Tryz.prog) w ⟨#[43, 35]⟩ 0 ty (by decide) (by decide)
  have hy := fun ty => run_next_ascii (P := Tryz.prog) w ⟨#[43, 35]⟩ 1 ty (by decide) (by decide)
  have hz := fun ty => run_next_end (P := Tryz.prog) w ⟨#[43, 35]⟩ 2 ty (by decide)
  go_enter Tryz.func94, Tryz.ntmps94
  go_wp2
  go_loopg [5, 6] 2 (fun g _ _ wx => ∃ i : Nat, i + g = 2 ∧ wx = w.iter ⟨#[43, 35]⟩ i)
  case atStart => exact ⟨0, by omega, rfl⟩
  case round =>
    obtain ⟨i, hig, rfl⟩ := hrel
    cases gk with
    | zero =>
      obtain rfl : i = 2 := by omega
      go_wp2
      go_ret
      exact ⟨rfl, (Below.refl _ _).alloc (Nat.le_refl _) _⟩
    | succ g =>
      obtain rfl | rfl : i = 0 ∨ i = 1 := by omega
      · go_wp2
        go_roundg g
        case measure => omega
        case rel => exact ⟨1, by omega, rfl⟩
      · go_wp2
        go_roundg g
        case measure => omega
        case rel => exact ⟨2, by omega, rfl⟩

set_option maxRecDepth 100000 in
set_option maxHeartbeats 2000000 in
theorem indexRune_high (r : Nat) (h : 128 ≤ r) (hv : Utf8.valid (r : Int) = true) (hr : r ≠ 65533) (w : World) :
    Calls Tryz.prog 94 #[.string ⟨#[43, 35]⟩, .int .i32 (r : Int)] w fun e w' => e = .returned (.int .i64 (-1)) ∧ Below w.heap.size w w' := by
  have HV := hide fun W => validRune_any r hv W
  obtain ⟨m, ys, he, hl, h1, h3, hy⟩ := enc_high r h hv
  have hcv := fun W => show (convert 21 9 (.int .i32 (r : Int))).run Tryz.prog W = .ok (.string (Utf8.encode r)) W by simp [convert, go_sem, Tryz.underlying21, Tryz.underlying9, Conv.intToString]
  rw [he] at hcv
  have q1 : ¬ ((r : Int) < 128) := by omega
  have q2 : ((r : Int) == 65533) = false := beq_eq_false_iff_ne.2 (by omega)
  have q3 : (0 : Int) ≤ (r : Int) := by omega
  have hsz : (str ys).size = m + 1 := by rw [Lib.size_eq, str_list, hl]
  have hlast : m < ys.length := by omega
  have hhi := hy m hlast
  obtain ⟨y, hyy⟩ : ∃ y, ys[m]'hlast = y := ⟨_, rfl⟩
  rw [hyy] at hhi
  have hget : ∀ h, (str ys)[m]'h = y := fun h => (str_get ys m hlast h).trans hyy
  obtain ⟨rs, hrs⟩ : ∃ rs, str ys = rs := ⟨_, rfl⟩
  rw [hrs] at hcv hsz
  have hget2 : ∀ h : m < rs.size, rs[m]'h = y := by subst hrs; exact hget
  have hne : ((35 : Int) != (y.toNat : Int)) = true := by
    rw [bne_iff_ne]; omega
  have hsb : (⟨#[43, 35]⟩ : ByteArray).extract 2 2 = str [] := rfl
  have HB := hide fun W => sIndexByte_any [] (y.toNat : Int) W
  rw [show str [] = ByteArray.empty from rfl, show ∀ c, Lib.indexByte [] c = -1 from fun _ => rfl] at HB
  have hg35 : ∀ h, (((⟨#[43, 35]⟩ : ByteArray)[1]'h).toNat : Int) = 35 := fun _ => rfl
  have hw2 : IntKind.i64.wrap 2 = 2 := rfl
  have hs2 : (⟨#[43, 35]⟩ : ByteArray).size = 2 := rfl
  clear hv he hl hy hyy hrs hget hhi hlast
  go_enter Tryz.func94, Tryz.ntmps94
  go_wp2_with (go_at_call 107; refine (HV.out _).mono ?_; rintro e w' ⟨rfl, rfl⟩)
  go_step3
  go_wp2
  go_loopw [9, 10, 11, 12] (fun s9 _ _ _ wx => s9 = .int .i64 (m : Int) ∧ wx = w') (fun _ _ _ _ _ => 0)
  case atStart => exact ⟨rfl, rfl⟩
  case round =>
    obtain ⟨rfl, rfl⟩ := hrel
    by_cases hm : m = 1
    · subst hm
      have hget3 := hget2 (by omega)
      go_wp2
      go_step3
      go_upto_region 6 with fail
      go_quiet (fail)
      go_upto_region 7 with fail
      go_quiet ((go_at_call 106; exact (HB.out _).mono fun _ _ h => ⟨h.1, _, h.2⟩))
      go_wp2
      repeat (first | rw [Exit.noGoto_ret] | dsimp (config := { zetaDelta := true }) only [Exit.inBlock, Exit.then])
      go_ret
      exact ⟨rfl, below_drewN (Below.refl _ _) _⟩
    · have q4 : ¬ ((m : Int) < 2) := by omega
      go_wp2
      go_ret
      exact ⟨rfl, Below.refl _ _⟩

/-- IndexRune of + or # by what is none below 128. -/
theorem indexRune_hi (r : Nat) (h : 128 ≤ r) (hv : Utf8.valid (r : Int) = true) (w : World) :
    Calls Tryz.prog 94 #[.string ⟨#[43, 35]⟩, .int .i32 (r : Int)] w fun e w' => e = .returned (.int .i64 (-1)) ∧ Below w.heap.size w w' := by
  by_cases e : r = 65533
  · subst e; exact indexRune_bad w
  · exact indexRune_high r h hv e w

end Go.Proofs.YtfjafpbmgbnllaaGreat
