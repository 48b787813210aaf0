/-
  What is proved here: what the document's own functions of layer 9 return (Bytes, first, Points, Text). Conditions: points; texts of at most 70000 bytes; lists of at most 1000 ints.
-/
import Derived.Test.YtfjafpbmgbnllaaGreatUt3
namespace Go.Proofs.YtfjafpbmgbnllaaGreat
set_option linter.unusedVariables false
set_option linter.unusedSimpArgs false
open Go.RowKit

set_option maxRecDepth 100000 in
set_option maxHeartbeats 1000000 in
theorem rBytes_any (n : Nat) (h : n ≤ 1114111) (w : World) : Calls Tryz.prog 67 #[.int .i64 (n : Int)] w fun e w' => e = .returned (.string (str (enc n))) ∧ Below w.heap.size w w' := by
  unfold enc
  by_cases h1 : n < 128
  · rw [if_pos h1]
    have q1 : (n : Int) < 128 := by omega
    have hr : Rd (w.alloc (.cells #[.int .u8 (n : Int)] 5)) (some ⟨w.heap.size, 0, none⟩) 1 (bv [UInt8.ofNat n]) := by
      rw [bv_cons, u8cell (by omega)]
      exact (Blk.new w 5 [.int .u8 (n : Int)]).rd
    generalize [UInt8.ofNat n] = L at *
    have hs := rdStr hr 1
    clear hr
    go_enter Tryz.func67, Tryz.ntmps67
    go_wp2_with fail
    go_ret
    exact ⟨rfl, (Below.refl _ _).alloc (Nat.le_refl _) _⟩
  rw [if_neg h1]
  have q1 : ¬ (n : Int) < 128 := by omega
  by_cases h2 : n < 2048
  · rw [if_pos h2]
    have q2 : (n : Int) < 2048 := by omega
    have hr : Rd (w.alloc (.cells #[.int .u8 (192 + (n : Int) / 64), .int .u8 (128 + (n : Int) % 64)] 5)) (some ⟨w.heap.size, 0, none⟩) 2 (bv [UInt8.ofNat (192 + n / 64), UInt8.ofNat (128 + n % 64)]) := by
      rw [bv_cons, u8cell (by omega), bv_cons, u8cell (by omega)]
      exact (Blk.new w 5 [.int .u8 (192 + (n : Int) / 64), .int .u8 (128 + (n : Int) % 64)]).rd
    generalize [UInt8.ofNat (192 + n / 64), UInt8.ofNat (128 + n % 64)] = L at *
    have hs := rdStr hr 2
    clear hr
    go_enter Tryz.func67, Tryz.ntmps67
    go_wp2_with fail
    go_ret
    exact ⟨rfl, (Below.refl _ _).alloc (Nat.le_refl _) _⟩
  rw [if_neg h2]
  have q2 : ¬ (n : Int) < 2048 := by omega
  by_cases h3 : n < 65536
  · rw [if_pos h3]
    have q3 : (n : Int) < 65536 := by omega
    have hr : Rd (w.alloc (.cells #[.int .u8 (224 + (n : Int) / 4096), .int .u8 (128 + (n : Int) / 64 % 64), .int .u8 (128 + (n : Int) % 64)] 5)) (some ⟨w.heap.size, 0, none⟩) 3 (bv [UInt8.ofNat (224 + n / 4096), UInt8.ofNat (128 + n / 64 % 64), UInt8.ofNat (128 + n % 64)]) := by
      rw [bv_cons, u8cell (by omega), bv_cons, u8cell (by omega), bv_cons, u8cell (by omega)]
      exact (Blk.new w 5 [.int .u8 (224 + (n : Int) / 4096), .int .u8 (128 + (n : Int) / 64 % 64), .int .u8 (128 + (n : Int) % 64)]).rd
    generalize [UInt8.ofNat (224 + n / 4096), UInt8.ofNat (128 + n / 64 % 64), UInt8.ofNat (128 + n % 64)] = L at *
    have hs := rdStr hr 3
    clear hr
    go_enter Tryz.func67, Tryz.ntmps67
    go_wp2_with fail
    go_ret
    exact ⟨rfl, (Below.refl _ _).alloc (Nat.le_refl _) _⟩
  rw [if_neg h3]
  have q3 : ¬ (n : Int) < 65536 := by omega
  have hr : Rd (w.alloc (.cells #[.int .u8 (240 + (n : Int) / 262144), .int .u8 (128 + (n : Int) / 4096 % 64), .int .u8 (128 + (n : Int) / 64 % 64), .int .u8 (128 + (n : Int) % 64)] 5)) (some ⟨w.heap.size, 0, none⟩) 4 (bv [UInt8.ofNat (240 + n / 262144), UInt8.ofNat (128 + n / 4096 % 64), UInt8.ofNat (128 + n / 64 % 64), UInt8.ofNat (128 + n % 64)]) := by
    rw [bv_cons, u8cell (by omega), bv_cons, u8cell (by omega), bv_cons, u8cell (by omega), bv_cons, u8cell (by omega)]
    exact (Blk.new w 5 [.int .u8 (240 + (n : Int) / 262144), .int .u8 (128 + (n : Int) / 4096 % 64), .int .u8 (128 + (n : Int) / 64 % 64), .int .u8 (128 + (n : Int) % 64)]).rd
  generalize [UInt8.ofNat (240 + n / 262144), UInt8.ofNat (128 + n / 4096 % 64), UInt8.ofNat (128 + n / 64 % 64), UInt8.ofNat (128 + n % 64)] = L at *
  have hs := rdStr hr 4
  clear hr
  go_enter Tryz.func67, Tryz.ntmps67
  go_wp2_with fail
  go_ret
  exact ⟨rfl, (Below.refl _ _).alloc (Nat.le_refl _) _⟩

/-! ### Texts by their bytes -/
theorem str_get (xs : List UInt8) (i : Nat) (hi : i < xs.length) : ∀ h, (str xs)[i]'h = xs[i] := by
  intro h
  have e : (str xs)[i]'h = (str xs).data[i]'h := rfl
  rw [e]
  simp [str]
  rfl
theorem str_take (xs : List UInt8) (k : Nat) : (str xs).extract 0 k = str (xs.take k) := by
  apply ByteArray.ext
  simp [str]
theorem str_drop (xs : List UInt8) (k n : Nat) (hn : xs.length = n) : (str xs).extract k n = str (xs.drop k) := by
  apply ByteArray.ext
  simp [str]
  rw [List.take_of_length_le (by simp; omega)]
theorem str_join (xs ys : List UInt8) : str xs ++ str ys = str (xs ++ ys) := by
  apply ByteArray.ext
  simp [str]

/-! ### What 'first' reckons -/
theorem valI_step (xs : List UInt8) (i : Nat) (h1 : 1 ≤ i) (hi : i < xs.length) (z : Int) : valI z xs (i + 1) = stepK (valI z xs i) xs[i] := by
  unfold valI
  cases xs with
  | nil => simp at hi
  | cons x t =>
    obtain ⟨j, rfl⟩ : ∃ j, i = j + 1 := ⟨i - 1, by omega⟩
    simp only [Nat.add_sub_cancel, List.getElem_cons_succ]
    have hj : j < t.length := by simpa using hi
    rw [List.tail_cons, ← List.take_append_getElem hj, List.foldl_append]
    rfl
theorem fold_le (l : List UInt8) : ∀ (z : Int) (b : Nat), -(b : Int) ≤ z → z ≤ b → 128 ≤ b → -((65 ^ l.length * b : Nat) : Int) ≤ l.foldl stepK z ∧ l.foldl stepK z ≤ ((65 ^ l.length * b : Nat) : Int) := by
  induction l with
  | nil => intro z b h1 h2 _; simp; exact ⟨h1, h2⟩
  | cons x t ih =>
    intro z b h1 h2 h3
    have hx := x.toNat_lt
    have := ih (stepK z x) (65 * b) (by unfold stepK; omega) (by unfold stepK; omega) (by omega)
    rw [List.foldl_cons, List.length_cons, Nat.pow_succ, Nat.mul_assoc]
    exact this
theorem valI_le (xs : List UInt8) (i : Nat) (h4 : i ≤ 4) (z : Int) (h1 : -256 ≤ z) (h2 : z ≤ 256) : -100000000 ≤ valI z xs i ∧ valI z xs i ≤ 100000000 := by
  have := fold_le (xs.tail.take (i - 1)) z 256 h1 h2 (by omega)
  have hl : (xs.tail.take (i - 1)).length ≤ 3 := by rw [List.length_take]; omega
  have hp : 65 ^ (xs.tail.take (i - 1)).length ≤ 65 ^ 3 := Nat.pow_le_pow_right (by omega) hl
  unfold valI
  generalize 65 ^ (xs.tail.take (i - 1)).length = q at *
  have e : (65 : Nat) ^ 3 = 274625 := by decide
  omega

theorem offK_le (k : Nat) : 0 ≤ offK k ∧ offK k ≤ 240 := by
  unfold offK
  repeat' split
  all_goals omega

set_option maxRecDepth 100000 in
set_option maxHeartbeats 4000000 in
theorem rFirst_any (xs : List UInt8) (n : Nat) (hx : xs.length = n) (h0 : 0 < n) (hn : n ≤ 100000) (w : World) : Calls Tryz.prog 66 #[.string (str xs)] w fun e w' => ∃ k : Nat, e = .returned (.int .i64 (k : Int)) ∧
    ((k = 0 ∧ ∀ p : Nat, isPt (p : Int) = true → ¬ enc p <+: xs) ∨ (isPt (k : Int) = true ∧ enc k <+: xs)) ∧ Below w.heap.size w w' := by
  have Hx := hide hx
  obtain ⟨x, t, rfl⟩ : ∃ x t, xs = x :: t := by
    cases xs with
    | nil => simp at hx; omega
    | cons x t => exact ⟨x, t, rfl⟩
  have e0 : ∀ h, (str (x :: t))[0]'h = x := fun h => str_get (x :: t) 0 (by simp) h
  have HV := hide (fun (K : Nat) => show valK K (x :: t) = valI ((x.toNat : Int) - offK K) (x :: t) K from rfl)
  have hX := x.toNat_lt
  obtain ⟨X, hXe⟩ : ∃ X, x.toNat = X := ⟨_, rfl⟩
  rw [hXe] at hX
  generalize hxs : x :: t = xs at *
  have Hxs := hide hxs
  clear hxs
  go_enter Tryz.func66, Tryz.ntmps66
  go_wp2_with fail
  go_loopw [3] (fun s wr => ∃ (K : Nat) (z : Int), s = .int .i64 z ∧ z = (K : Int) ∧ 1 ≤ K ∧ K ≤ 5 ∧ (∀ p : Nat, isPt (p : Int) = true → enc p <+: xs → K ≤ szP p) ∧ Below w.heap.size w wr) (fun s _ => 5 - (intOf s).toNat)
  case atStart => exact ⟨1, 1, rfl, rfl, by omega, by omega, fun p _ _ => (szP_le p).1, Below.refl _ _⟩
  case round =>
    obtain ⟨K, z, rfl, hz, hK1, hK5, hall, hB⟩ := hrel
    have HB := hide hB
    have Hall := hide hall
    have Hz := hide hz
    clear hB hall
    by_cases hK : K ≤ 4
    · by_cases hKn : K ≤ n
      · have hK' : z ≤ 4 := by omega
        have hKn' : z ≤ (n : Int) := by omega
        have ho0 := offK_le K
        have ho : -256 ≤ ((X : Int) - offK K) ∧ ((X : Int) - offK K) ≤ 256 := by omega
        obtain hKe | hKe | hKe | hKe : K = 1 ∨ K = 2 ∨ K = 3 ∨ K = 4 := by omega
        · obtain rfl : z = 1 := by omega
          have Hval := hide (show valK 1 xs = valI ((X : Int)) xs 1 by rw [HV.out, show (x.toNat : Int) - offK 1 = (X : Int) from by rw [hXe]; simp [offK]])
          have HKe := hide hKe
          clear hz hKe
          go_wp2_with fail
          obtain ⟨w3, hw3⟩ : ∃ w3, w3 = wr := ⟨_, rfl⟩
          subst hw3
          go_loopw [4, 5] (fun v i wr2 => ∃ (I : Nat) (u : Int), v = .int .i64 u ∧ u = valI ((X : Int)) xs I ∧ i = .int .i64 (I : Int) ∧ 1 ≤ I ∧ I ≤ 1 ∧ wr2 = w3) (fun _ i _ => 1 - (intOf i).toNat)
          case atStart => exact ⟨1, _, rfl, by simp [valI], rfl, by omega, by omega, rfl⟩
          case round =>
            obtain ⟨I, u, rfl, hu, rfl, hI1, hIK, rfl⟩ := hrel
            have hub := valI_le xs I (by omega) ((X : Int)) (by omega) (by omega)
            rw [← hu] at hub
            by_cases hI : I < 1
            · have q1 : (I : Int) < 1 := by omega
              have hIn : (I : Int) < (n : Int) := by omega
              have hI' : I < xs.length := by rw [Hx.out]; omega
              have hst := valI_step xs I hI1 hI' ((X : Int))
              rw [← hu] at hst
              have hxI := xs[I].toNat_lt
              obtain ⟨y, hy⟩ : ∃ y, xs[I] = y := ⟨_, rfl⟩
              have eI : ∀ h, (str xs)[I]'h = y := fun h => (str_get xs I hI' h).trans hy
              rw [hy] at hst hxI
              clear hy
              obtain ⟨Y, hY⟩ : ∃ Y, y.toNat = Y := ⟨_, rfl⟩
              rw [hY] at hxI
              have Hst := hide hst
              have HY := hide hY
              clear hst hu e0
              go_wp2_with fail
              refine ⟨⟨I + 1, _, rfl, by rw [Hst.out, stepK, HY.out], by go_num, by omega, by omega, by first | rfl | trivial⟩, by simp [intOf]; omega⟩
            · have hIe : I = 1 := by omega
              have q1 : ¬ (I : Int) < 1 := by omega
              rw [hIe] at hu
              have Hu := hide (Hval.out.trans hu.symm)
              have hub1 := hub.1
              have hub2 := hub.2
              clear hu hub e0 hIe
              go_wp2_with fail
              cases hp : isPt u with
              | false =>
                have hnx : ∀ p : Nat, isPt (p : Int) = true → enc p <+: xs → 1 + 1 ≤ szP p := fun p h1 h2 => by
                  have k1 := Hall.out p h1 h2
                  have k0 := HKe.out
                  rcases Nat.lt_or_ge 1 (szP p) with h3 | h3
                  · exact h3
                  · have k2 := (valK_enc p xs h1 h2).1
                    rw [show szP p = 1 by omega, Hu.out] at k2
                    rw [k2, h1] at hp
                    cases hp
                have Hnx := hide hnx
                clear hnx
                refine wp_region_held_drew (S := fun w' => Below wr.heap.size wr w') (by kernel_rfl) ?_ (fun hHeld => ?_)
                · exact (Below.refl _ _).drew
                refine wpAnyH_take (i := 0) (oi := { dst := some 44, op := _, type := _, pos := _, after := _, guard := _ }) (v := ?v1x1) rfl (by kernel_rfl) (by kernel_rfl) (by kernel_rfl) (fun _ _ _ h => h) (Or.inl ⟨by rfl, ?hy1x1⟩) hHeld ?rest1x1
                case hy1x1 => (intro w hSw; go_simp <;> with_reducible rfl)
                try simp only [Act.put, List.setIfInBounds_toArray, List.set_cons_zero, List.set_cons_succ]
                refine wpAnyH_ready (rs := [1]) (by kernel_rfl) (by simp) (AllReadyH.cons (o := { dst := some 45, op := _, type := _, pos := _, after := _, guard := _ }) rfl (fun K hK => ?_) AllReadyH.nil)
                go_simp
                refine (rPoint_any _ _).mono ?_
                rintro e w4 ⟨rfl, rfl⟩
                rw [hp]
                go_wp2_with fail
                refine hK.out _ _ ?_ (fun hHeld => ?_)
                · exact hHeld
                clear hK K
                try simp only [Act.put, List.setIfInBounds_toArray, List.set_cons_zero, List.set_cons_succ]
                refine wpAnyH_take (i := 2) (oi := { dst := some 46, op := _, type := _, pos := _, after := _, guard := _ }) (v := ?v1x3) rfl (by kernel_rfl) (by kernel_rfl) (by kernel_rfl) (fun _ _ _ h => h) (Or.inl ⟨by rfl, ?hy1x3⟩) hHeld ?rest1x3
                case hy1x3 => (intro w hSw; go_simp <;> with_reducible rfl)
                try simp only [Act.put, List.setIfInBounds_toArray, List.set_cons_zero, List.set_cons_succ]
                refine wpAnyH_take (i := 3) (oi := { dst := some 47, op := _, type := _, pos := _, after := _, guard := _ }) (v := undef) rfl (by kernel_rfl) (by kernel_rfl) (by kernel_rfl) (fun _ _ _ h => h) (Or.inr ⟨by rfl, rfl⟩) hHeld ?_
                try simp only [Act.put, List.setIfInBounds_toArray, List.set_cons_zero, List.set_cons_succ]
                refine wpAnyH_take (i := 4) (oi := { dst := some 48, op := _, type := _, pos := _, after := _, guard := _ }) (v := undef) rfl (by kernel_rfl) (by kernel_rfl) (by kernel_rfl) (fun _ _ _ h => h) (Or.inr ⟨by rfl, rfl⟩) hHeld ?_
                try simp only [Act.put, List.setIfInBounds_toArray, List.set_cons_zero, List.set_cons_succ]
                refine wpAnyH_take (i := 5) (oi := { dst := some 49, op := _, type := _, pos := _, after := _, guard := _ }) (v := undef) rfl (by kernel_rfl) (by kernel_rfl) (by kernel_rfl) (fun _ _ _ h => h) (Or.inr ⟨by rfl, rfl⟩) hHeld ?_
                try simp only [Act.put, List.setIfInBounds_toArray, List.set_cons_zero, List.set_cons_succ]
                refine wpAnyH_take (i := 6) (oi := { dst := some 50, op := _, type := _, pos := _, after := _, guard := _ }) (v := undef) rfl (by kernel_rfl) (by kernel_rfl) (by kernel_rfl) (fun _ _ _ h => h) (Or.inr ⟨by rfl, rfl⟩) hHeld ?_
                try simp only [Act.put, List.setIfInBounds_toArray, List.set_cons_zero, List.set_cons_succ]
                refine wpAnyH_take (i := 7) (oi := { dst := some 51, op := _, type := _, pos := _, after := _, guard := _ }) (v := undef) rfl (by kernel_rfl) (by kernel_rfl) (by kernel_rfl) (fun _ _ _ h => h) (Or.inr ⟨by rfl, rfl⟩) hHeld ?_
                try simp only [Act.put, List.setIfInBounds_toArray, List.set_cons_zero, List.set_cons_succ]
                refine wpAnyH_take (i := 8) (oi := { dst := some 52, op := _, type := _, pos := _, after := _, guard := _ }) (v := undef) rfl (by kernel_rfl) (by kernel_rfl) (by kernel_rfl) (fun _ _ _ h => h) (Or.inr ⟨by rfl, rfl⟩) hHeld ?_
                try simp only [Act.put, List.setIfInBounds_toArray, List.set_cons_zero, List.set_cons_succ]
                refine wpAnyH_take (i := 9) (oi := { dst := some 53, op := _, type := _, pos := _, after := _, guard := _ }) (v := ?v1x10) rfl (by kernel_rfl) (by kernel_rfl) (by kernel_rfl) (fun _ _ _ h => h) (Or.inl ⟨by rfl, ?hy1x10⟩) hHeld ?rest1x10
                case hy1x10 => (intro w hSw; go_simp <;> with_reducible rfl)
                try simp only [Act.put, List.setIfInBounds_toArray, List.set_cons_zero, List.set_cons_succ]
                refine wpAnyH_done (by kernel_rfl) ?_ _
                go_wp2_with fail
                exact ⟨⟨1 + 1, _, rfl, by rfl, by omega, by omega, Hnx.out, HB.out.drew⟩, by simp [intOf]⟩
              | true =>
                obtain ⟨q, rfl, hq1, hq2⟩ := isPt_nat hp
                have hsl := str_take xs 1
                by_cases heq : enc q = xs.take 1
                · have qs : (enc q == xs.take 1) = true := by rw [heq]; simp
                  have Hres := hide (show enc q <+: xs by rw [heq]; exact List.take_prefix _ _)
                  have Hq := hide hp
                  clear heq
                  generalize xs.take 1 = tk at *
                  refine wp_region_held_drew (S := fun w' => Below wr.heap.size wr w') (by kernel_rfl) ?_ (fun hHeld => ?_)
                  · exact (Below.refl _ _).drew
                  refine wpAnyH_take (i := 0) (oi := { dst := some 44, op := _, type := _, pos := _, after := _, guard := _ }) (v := ?v2x1) rfl (by kernel_rfl) (by kernel_rfl) (by kernel_rfl) (fun _ _ _ h => h) (Or.inl ⟨by rfl, ?hy2x1⟩) hHeld ?rest2x1
                  case hy2x1 => (intro w hSw; go_simp <;> with_reducible rfl)
                  try simp only [Act.put, List.setIfInBounds_toArray, List.set_cons_zero, List.set_cons_succ]
                  refine wpAnyH_ready (rs := [1]) (by kernel_rfl) (by simp) (AllReadyH.cons (o := { dst := some 45, op := _, type := _, pos := _, after := _, guard := _ }) rfl (fun K hK => ?_) AllReadyH.nil)
                  go_simp
                  refine (rPoint_any _ _).mono ?_
                  rintro e w4 ⟨rfl, rfl⟩
                  rw [hp]
                  go_wp2_with fail
                  refine hK.out _ _ ?_ (fun hHeld => ?_)
                  · exact hHeld
                  clear hK K
                  try simp only [Act.put, List.setIfInBounds_toArray, List.set_cons_zero, List.set_cons_succ]
                  refine wpAnyH_take (i := 2) (oi := { dst := some 46, op := _, type := _, pos := _, after := _, guard := _ }) (v := ?v2x3) rfl (by kernel_rfl) (by kernel_rfl) (by kernel_rfl) (fun _ _ _ h => h) (Or.inl ⟨by rfl, ?hy2x3⟩) hHeld ?rest2x3
                  case hy2x3 => (intro w hSw; go_simp <;> with_reducible rfl)
                  try simp only [Act.put, List.setIfInBounds_toArray, List.set_cons_zero, List.set_cons_succ]
                  refine wpAnyH_take (i := 3) (oi := { dst := some 47, op := _, type := _, pos := _, after := _, guard := _ }) (v := ?v2x4) rfl (by kernel_rfl) (by kernel_rfl) (by kernel_rfl) (fun _ _ _ h => h) (Or.inl ⟨by rfl, ?hy2x4⟩) hHeld ?rest2x4
                  case hy2x4 => (intro w hSw; go_simp <;> with_reducible rfl)
                  try simp only [Act.put, List.setIfInBounds_toArray, List.set_cons_zero, List.set_cons_succ]
                  refine wpAnyH_take (i := 5) (oi := { dst := some 49, op := _, type := _, pos := _, after := _, guard := _ }) (v := ?v2x5) rfl (by kernel_rfl) (by kernel_rfl) (by kernel_rfl) (fun _ _ _ h => h) (Or.inl ⟨by rfl, ?hy2x5⟩) hHeld ?rest2x5
                  case hy2x5 => (intro w hSw; go_simp <;> with_reducible rfl)
                  try simp only [Act.put, List.setIfInBounds_toArray, List.set_cons_zero, List.set_cons_succ]
                  refine wpAnyH_take (i := 6) (oi := { dst := some 50, op := _, type := _, pos := _, after := _, guard := _ }) (v := ?v2x6) rfl (by kernel_rfl) (by kernel_rfl) (by kernel_rfl) (fun _ _ _ h => h) (Or.inl ⟨by rfl, ?hy2x6⟩) hHeld ?rest2x6
                  case hy2x6 => (intro w hSw; go_simp <;> with_reducible rfl)
                  try simp only [Act.put, List.setIfInBounds_toArray, List.set_cons_zero, List.set_cons_succ]
                  refine wpAnyH_take (i := 7) (oi := { dst := some 51, op := _, type := _, pos := _, after := _, guard := _ }) (v := ?v2x7) rfl (by kernel_rfl) (by kernel_rfl) (by kernel_rfl) (fun _ _ _ h => h) (Or.inl ⟨by rfl, ?hy2x7⟩) hHeld ?rest2x7
                  case hy2x7 => (intro w hSw; go_simp <;> with_reducible rfl)
                  try simp only [Act.put, List.setIfInBounds_toArray, List.set_cons_zero, List.set_cons_succ]
                  refine wpAnyH_ready (rs := [4]) (by kernel_rfl) (by simp) (AllReadyH.cons (o := { dst := some 48, op := _, type := _, pos := _, after := _, guard := _ }) rfl (fun K hK => ?_) AllReadyH.nil)
                  go_simp
                  refine (rBytes_any q (by omega) _).mono ?_
                  rintro e w5 ⟨rfl, b5⟩
                  have s5 := below_on hHeld b5
                  go_wp2_with fail
                  refine hK.out _ _ ?_ (fun hHeld => ?_)
                  · exact s5
                  clear hK K
                  try simp only [Act.put, List.setIfInBounds_toArray, List.set_cons_zero, List.set_cons_succ]
                  refine wpAnyH_take (i := 8) (oi := { dst := some 52, op := _, type := _, pos := _, after := _, guard := _ }) (v := ?v2x9) rfl (by kernel_rfl) (by kernel_rfl) (by kernel_rfl) (fun _ _ _ h => h) (Or.inl ⟨by rfl, ?hy2x9⟩) hHeld ?rest2x9
                  case hy2x9 => (intro w hSw; go_simp <;> with_reducible rfl)
                  try simp only [Act.put, List.setIfInBounds_toArray, List.set_cons_zero, List.set_cons_succ]
                  refine wpAnyH_take (i := 9) (oi := { dst := some 53, op := _, type := _, pos := _, after := _, guard := _ }) (v := ?v2x10) rfl (by kernel_rfl) (by kernel_rfl) (by kernel_rfl) (fun _ _ _ h => h) (Or.inl ⟨by rfl, ?hy2x10⟩) hHeld ?rest2x10
                  case hy2x10 => (intro w hSw; go_simp <;> with_reducible rfl)
                  try simp only [Act.put, List.setIfInBounds_toArray, List.set_cons_zero, List.set_cons_succ]
                  refine wpAnyH_done (by kernel_rfl) ?_ _
                  go_wp2_with fail
                  go_ret
                  exact ⟨q, rfl, .inr ⟨Hq.out, Hres.out⟩, HB.out.trans (s5.mono HB.out.size)⟩
                · have qs : (enc q == xs.take 1) = false := by simpa using heq
                  have hnx : ∀ p : Nat, isPt (p : Int) = true → enc p <+: xs → 1 + 1 ≤ szP p := fun p h1 h2 => by
                    have k1 := Hall.out p h1 h2
                    have k0 := HKe.out
                    rcases Nat.lt_or_ge 1 (szP p) with h3 | h3
                    · exact h3
                    · have k3 := valK_enc p xs h1 h2
                      rw [show szP p = 1 by omega, Hu.out] at k3
                      obtain rfl : q = p := by omega
                      exact absurd k3.2.symm heq
                  have Hnx := hide hnx
                  clear hnx heq
                  generalize xs.take 1 = tk at *
                  refine wp_region_held_drew (S := fun w' => Below wr.heap.size wr w') (by kernel_rfl) ?_ (fun hHeld => ?_)
                  · exact (Below.refl _ _).drew
                  refine wpAnyH_take (i := 0) (oi := { dst := some 44, op := _, type := _, pos := _, after := _, guard := _ }) (v := ?v3x1) rfl (by kernel_rfl) (by kernel_rfl) (by kernel_rfl) (fun _ _ _ h => h) (Or.inl ⟨by rfl, ?hy3x1⟩) hHeld ?rest3x1
                  case hy3x1 => (intro w hSw; go_simp <;> with_reducible rfl)
                  try simp only [Act.put, List.setIfInBounds_toArray, List.set_cons_zero, List.set_cons_succ]
                  refine wpAnyH_ready (rs := [1]) (by kernel_rfl) (by simp) (AllReadyH.cons (o := { dst := some 45, op := _, type := _, pos := _, after := _, guard := _ }) rfl (fun K hK => ?_) AllReadyH.nil)
                  go_simp
                  refine (rPoint_any _ _).mono ?_
                  rintro e w4 ⟨rfl, rfl⟩
                  rw [hp]
                  go_wp2_with fail
                  refine hK.out _ _ ?_ (fun hHeld => ?_)
                  · exact hHeld
                  clear hK K
                  try simp only [Act.put, List.setIfInBounds_toArray, List.set_cons_zero, List.set_cons_succ]
                  refine wpAnyH_take (i := 2) (oi := { dst := some 46, op := _, type := _, pos := _, after := _, guard := _ }) (v := ?v3x3) rfl (by kernel_rfl) (by kernel_rfl) (by kernel_rfl) (fun _ _ _ h => h) (Or.inl ⟨by rfl, ?hy3x3⟩) hHeld ?rest3x3
                  case hy3x3 => (intro w hSw; go_simp <;> with_reducible rfl)
                  try simp only [Act.put, List.setIfInBounds_toArray, List.set_cons_zero, List.set_cons_succ]
                  refine wpAnyH_take (i := 3) (oi := { dst := some 47, op := _, type := _, pos := _, after := _, guard := _ }) (v := ?v3x4) rfl (by kernel_rfl) (by kernel_rfl) (by kernel_rfl) (fun _ _ _ h => h) (Or.inl ⟨by rfl, ?hy3x4⟩) hHeld ?rest3x4
                  case hy3x4 => (intro w hSw; go_simp <;> with_reducible rfl)
                  try simp only [Act.put, List.setIfInBounds_toArray, List.set_cons_zero, List.set_cons_succ]
                  refine wpAnyH_take (i := 5) (oi := { dst := some 49, op := _, type := _, pos := _, after := _, guard := _ }) (v := ?v3x5) rfl (by kernel_rfl) (by kernel_rfl) (by kernel_rfl) (fun _ _ _ h => h) (Or.inl ⟨by rfl, ?hy3x5⟩) hHeld ?rest3x5
                  case hy3x5 => (intro w hSw; go_simp <;> with_reducible rfl)
                  try simp only [Act.put, List.setIfInBounds_toArray, List.set_cons_zero, List.set_cons_succ]
                  refine wpAnyH_take (i := 6) (oi := { dst := some 50, op := _, type := _, pos := _, after := _, guard := _ }) (v := ?v3x6) rfl (by kernel_rfl) (by kernel_rfl) (by kernel_rfl) (fun _ _ _ h => h) (Or.inl ⟨by rfl, ?hy3x6⟩) hHeld ?rest3x6
                  case hy3x6 => (intro w hSw; go_simp <;> with_reducible rfl)
                  try simp only [Act.put, List.setIfInBounds_toArray, List.set_cons_zero, List.set_cons_succ]
                  refine wpAnyH_take (i := 7) (oi := { dst := some 51, op := _, type := _, pos := _, after := _, guard := _ }) (v := ?v3x7) rfl (by kernel_rfl) (by kernel_rfl) (by kernel_rfl) (fun _ _ _ h => h) (Or.inl ⟨by rfl, ?hy3x7⟩) hHeld ?rest3x7
                  case hy3x7 => (intro w hSw; go_simp <;> with_reducible rfl)
                  try simp only [Act.put, List.setIfInBounds_toArray, List.set_cons_zero, List.set_cons_succ]
                  refine wpAnyH_ready (rs := [4]) (by kernel_rfl) (by simp) (AllReadyH.cons (o := { dst := some 48, op := _, type := _, pos := _, after := _, guard := _ }) rfl (fun K hK => ?_) AllReadyH.nil)
                  go_simp
                  refine (rBytes_any q (by omega) _).mono ?_
                  rintro e w5 ⟨rfl, b5⟩
                  have s5 := below_on hHeld b5
                  go_wp2_with fail
                  refine hK.out _ _ ?_ (fun hHeld => ?_)
                  · exact s5
                  clear hK K
                  try simp only [Act.put, List.setIfInBounds_toArray, List.set_cons_zero, List.set_cons_succ]
                  refine wpAnyH_take (i := 8) (oi := { dst := some 52, op := _, type := _, pos := _, after := _, guard := _ }) (v := ?v3x9) rfl (by kernel_rfl) (by kernel_rfl) (by kernel_rfl) (fun _ _ _ h => h) (Or.inl ⟨by rfl, ?hy3x9⟩) hHeld ?rest3x9
                  case hy3x9 => (intro w hSw; go_simp <;> with_reducible rfl)
                  try simp only [Act.put, List.setIfInBounds_toArray, List.set_cons_zero, List.set_cons_succ]
                  refine wpAnyH_take (i := 9) (oi := { dst := some 53, op := _, type := _, pos := _, after := _, guard := _ }) (v := ?v3x10) rfl (by kernel_rfl) (by kernel_rfl) (by kernel_rfl) (fun _ _ _ h => h) (Or.inl ⟨by rfl, ?hy3x10⟩) hHeld ?rest3x10
                  case hy3x10 => (intro w hSw; go_simp <;> with_reducible rfl)
                  try simp only [Act.put, List.setIfInBounds_toArray, List.set_cons_zero, List.set_cons_succ]
                  refine wpAnyH_done (by kernel_rfl) ?_ _
                  go_wp2_with fail
                  exact ⟨⟨1 + 1, _, rfl, by rfl, by omega, by omega, Hnx.out, HB.out.trans (s5.mono HB.out.size)⟩, by simp [intOf]⟩
        · obtain rfl : z = 2 := by omega
          have Hval := hide (show valK 2 xs = valI ((X : Int) - 192) xs 2 by rw [HV.out, show (x.toNat : Int) - offK 2 = (X : Int) - 192 from by rw [hXe]; simp [offK]])
          have HKe := hide hKe
          clear hz hKe
          go_wp2_with fail
          obtain ⟨w3, hw3⟩ : ∃ w3, w3 = wr := ⟨_, rfl⟩
          subst hw3
          go_loopw [4, 5] (fun v i wr2 => ∃ (I : Nat) (u : Int), v = .int .i64 u ∧ u = valI ((X : Int) - 192) xs I ∧ i = .int .i64 (I : Int) ∧ 1 ≤ I ∧ I ≤ 2 ∧ wr2 = w3) (fun _ i _ => 2 - (intOf i).toNat)
          case atStart => exact ⟨1, _, rfl, by simp [valI], rfl, by omega, by omega, rfl⟩
          case round =>
            obtain ⟨I, u, rfl, hu, rfl, hI1, hIK, rfl⟩ := hrel
            have hub := valI_le xs I (by omega) ((X : Int) - 192) (by omega) (by omega)
            rw [← hu] at hub
            by_cases hI : I < 2
            · have q1 : (I : Int) < 2 := by omega
              have hIn : (I : Int) < (n : Int) := by omega
              have hI' : I < xs.length := by rw [Hx.out]; omega
              have hst := valI_step xs I hI1 hI' ((X : Int) - 192)
              rw [← hu] at hst
              have hxI := xs[I].toNat_lt
              obtain ⟨y, hy⟩ : ∃ y, xs[I] = y := ⟨_, rfl⟩
              have eI : ∀ h, (str xs)[I]'h = y := fun h => (str_get xs I hI' h).trans hy
              rw [hy] at hst hxI
              clear hy
              obtain ⟨Y, hY⟩ : ∃ Y, y.toNat = Y := ⟨_, rfl⟩
              rw [hY] at hxI
              have Hst := hide hst
              have HY := hide hY
              clear hst hu e0
              go_wp2_with fail
              refine ⟨⟨I + 1, _, rfl, by rw [Hst.out, stepK, HY.out], by go_num, by omega, by omega, by first | rfl | trivial⟩, by simp [intOf]; omega⟩
            · have hIe : I = 2 := by omega
              have q1 : ¬ (I : Int) < 2 := by omega
              rw [hIe] at hu
              have Hu := hide (Hval.out.trans hu.symm)
              have hub1 := hub.1
              have hub2 := hub.2
              clear hu hub e0 hIe
              go_wp2_with fail
              cases hp : isPt u with
              | false =>
                have hnx : ∀ p : Nat, isPt (p : Int) = true → enc p <+: xs → 2 + 1 ≤ szP p := fun p h1 h2 => by
                  have k1 := Hall.out p h1 h2
                  have k0 := HKe.out
                  rcases Nat.lt_or_ge 2 (szP p) with h3 | h3
                  · exact h3
                  · have k2 := (valK_enc p xs h1 h2).1
                    rw [show szP p = 2 by omega, Hu.out] at k2
                    rw [k2, h1] at hp
                    cases hp
                have Hnx := hide hnx
                clear hnx
                refine wp_region_held_drew (S := fun w' => Below wr.heap.size wr w') (by kernel_rfl) ?_ (fun hHeld => ?_)
                · exact (Below.refl _ _).drew
                refine wpAnyH_take (i := 0) (oi := { dst := some 44, op := _, type := _, pos := _, after := _, guard := _ }) (v := ?v4x1) rfl (by kernel_rfl) (by kernel_rfl) (by kernel_rfl) (fun _ _ _ h => h) (Or.inl ⟨by rfl, ?hy4x1⟩) hHeld ?rest4x1
                case hy4x1 => (intro w hSw; go_simp <;> with_reducible rfl)
                try simp only [Act.put, List.setIfInBounds_toArray, List.set_cons_zero, List.set_cons_succ]
                refine wpAnyH_ready (rs := [1]) (by kernel_rfl) (by simp) (AllReadyH.cons (o := { dst := some 45, op := _, type := _, pos := _, after := _, guard := _ }) rfl (fun K hK => ?_) AllReadyH.nil)
                go_simp
                refine (rPoint_any _ _).mono ?_
                rintro e w4 ⟨rfl, rfl⟩
                rw [hp]
                go_wp2_with fail
                refine hK.out _ _ ?_ (fun hHeld => ?_)
                · exact hHeld
                clear hK K
                try simp only [Act.put, List.setIfInBounds_toArray, List.set_cons_zero, List.set_cons_succ]
                refine wpAnyH_take (i := 2) (oi := { dst := some 46, op := _, type := _, pos := _, after := _, guard := _ }) (v := ?v4x3) rfl (by kernel_rfl) (by kernel_rfl) (by kernel_rfl) (fun _ _ _ h => h) (Or.inl ⟨by rfl, ?hy4x3⟩) hHeld ?rest4x3
                case hy4x3 => (intro w hSw; go_simp <;> with_reducible rfl)
                try simp only [Act.put, List.setIfInBounds_toArray, List.set_cons_zero, List.set_cons_succ]
                refine wpAnyH_take (i := 3) (oi := { dst := some 47, op := _, type := _, pos := _, after := _, guard := _ }) (v := undef) rfl (by kernel_rfl) (by kernel_rfl) (by kernel_rfl) (fun _ _ _ h => h) (Or.inr ⟨by rfl, rfl⟩) hHeld ?_
                try simp only [Act.put, List.setIfInBounds_toArray, List.set_cons_zero, List.set_cons_succ]
                refine wpAnyH_take (i := 4) (oi := { dst := some 48, op := _, type := _, pos := _, after := _, guard := _ }) (v := undef) rfl (by kernel_rfl) (by kernel_rfl) (by kernel_rfl) (fun _ _ _ h => h) (Or.inr ⟨by rfl, rfl⟩) hHeld ?_
                try simp only [Act.put, List.setIfInBounds_toArray, List.set_cons_zero, List.set_cons_succ]
                refine wpAnyH_take (i := 5) (oi := { dst := some 49, op := _, type := _, pos := _, after := _, guard := _ }) (v := undef) rfl (by kernel_rfl) (by kernel_rfl) (by kernel_rfl) (fun _ _ _ h => h) (Or.inr ⟨by rfl, rfl⟩) hHeld ?_
                try simp only [Act.put, List.setIfInBounds_toArray, List.set_cons_zero, List.set_cons_succ]
                refine wpAnyH_take (i := 6) (oi := { dst := some 50, op := _, type := _, pos := _, after := _, guard := _ }) (v := undef) rfl (by kernel_rfl) (by kernel_rfl) (by kernel_rfl) (fun _ _ _ h => h) (Or.inr ⟨by rfl, rfl⟩) hHeld ?_
                try simp only [Act.put, List.setIfInBounds_toArray, List.set_cons_zero, List.set_cons_succ]
                refine wpAnyH_take (i := 7) (oi := { dst := some 51, op := _, type := _, pos := _, after := _, guard := _ }) (v := undef) rfl (by kernel_rfl) (by kernel_rfl) (by kernel_rfl) (fun _ _ _ h => h) (Or.inr ⟨by rfl, rfl⟩) hHeld ?_
                try simp only [Act.put, List.setIfInBounds_toArray, List.set_cons_zero, List.set_cons_succ]
                refine wpAnyH_take (i := 8) (oi := { dst := some 52, op := _, type := _, pos := _, after := _, guard := _ }) (v := undef) rfl (by kernel_rfl) (by kernel_rfl) (by kernel_rfl) (fun _ _ _ h => h) (Or.inr ⟨by rfl, rfl⟩) hHeld ?_
                try simp only [Act.put, List.setIfInBounds_toArray, List.set_cons_zero, List.set_cons_succ]
                refine wpAnyH_take (i := 9) (oi := { dst := some 53, op := _, type := _, pos := _, after := _, guard := _ }) (v := ?v4x10) rfl (by kernel_rfl) (by kernel_rfl) (by kernel_rfl) (fun _ _ _ h => h) (Or.inl ⟨by rfl, ?hy4x10⟩) hHeld ?rest4x10
                case hy4x10 => (intro w hSw; go_simp <;> with_reducible rfl)
                try simp only [Act.put, List.setIfInBounds_toArray, List.set_cons_zero, List.set_cons_succ]
                refine wpAnyH_done (by kernel_rfl) ?_ _
                go_wp2_with fail
                exact ⟨⟨2 + 1, _, rfl, by rfl, by omega, by omega, Hnx.out, HB.out.drew⟩, by simp [intOf]⟩
              | true =>
                obtain ⟨q, rfl, hq1, hq2⟩ := isPt_nat hp
                have hsl := str_take xs 2
                by_cases heq : enc q = xs.take 2
                · have qs : (enc q == xs.take 2) = true := by rw [heq]; simp
                  have Hres := hide (show enc q <+: xs by rw [heq]; exact List.take_prefix _ _)
                  have Hq := hide hp
                  clear heq
                  generalize xs.take 2 = tk at *
                  refine wp_region_held_drew (S := fun w' => Below wr.heap.size wr w') (by kernel_rfl) ?_ (fun hHeld => ?_)
                  · exact (Below.refl _ _).drew
                  refine wpAnyH_take (i := 0) (oi := { dst := some 44, op := _, type := _, pos := _, after := _, guard := _ }) (v := ?v5x1) rfl (by kernel_rfl) (by kernel_rfl) (by kernel_rfl) (fun _ _ _ h => h) (Or.inl ⟨by rfl, ?hy5x1⟩) hHeld ?rest5x1
                  case hy5x1 => (intro w hSw; go_simp <;> with_reducible rfl)
                  try simp only [Act.put, List.setIfInBounds_toArray, List.set_cons_zero, List.set_cons_succ]
                  refine wpAnyH_ready (rs := [1]) (by kernel_rfl) (by simp) (AllReadyH.cons (o := { dst := some 45, op := _, type := _, pos := _, after := _, guard := _ }) rfl (fun K hK => ?_) AllReadyH.nil)
                  go_simp
                  refine (rPoint_any _ _).mono ?_
                  rintro e w4 ⟨rfl, rfl⟩
                  rw [hp]
                  go_wp2_with fail
                  refine hK.out _ _ ?_ (fun hHeld => ?_)
                  · exact hHeld
                  clear hK K
                  try simp only [Act.put, List.setIfInBounds_toArray, List.set_cons_zero, List.set_cons_succ]
                  refine wpAnyH_take (i := 2) (oi := { dst := some 46, op := _, type := _, pos := _, after := _, guard := _ }) (v := ?v5x3) rfl (by kernel_rfl) (by kernel_rfl) (by kernel_rfl) (fun _ _ _ h => h) (Or.inl ⟨by rfl, ?hy5x3⟩) hHeld ?rest5x3
                  case hy5x3 => (intro w hSw; go_simp <;> with_reducible rfl)
                  try simp only [Act.put, List.setIfInBounds_toArray, List.set_cons_zero, List.set_cons_succ]
                  refine wpAnyH_take (i := 3) (oi := { dst := some 47, op := _, type := _, pos := _, after := _, guard := _ }) (v := ?v5x4) rfl (by kernel_rfl) (by kernel_rfl) (by kernel_rfl) (fun _ _ _ h => h) (Or.inl ⟨by rfl, ?hy5x4⟩) hHeld ?rest5x4
                  case hy5x4 => (intro w hSw; go_simp <;> with_reducible rfl)
                  try simp only [Act.put, List.setIfInBounds_toArray, List.set_cons_zero, List.set_cons_succ]
                  refine wpAnyH_take (i := 5) (oi := { dst := some 49, op := _, type := _, pos := _, after := _, guard := _ }) (v := ?v5x5) rfl (by kernel_rfl) (by kernel_rfl) (by kernel_rfl) (fun _ _ _ h => h) (Or.inl ⟨by rfl, ?hy5x5⟩) hHeld ?rest5x5
                  case hy5x5 => (intro w hSw; go_simp <;> with_reducible rfl)
                  try simp only [Act.put, List.setIfInBounds_toArray, List.set_cons_zero, List.set_cons_succ]
                  refine wpAnyH_take (i := 6) (oi := { dst := some 50, op := _, type := _, pos := _, after := _, guard := _ }) (v := ?v5x6) rfl (by kernel_rfl) (by kernel_rfl) (by kernel_rfl) (fun _ _ _ h => h) (Or.inl ⟨by rfl, ?hy5x6⟩) hHeld ?rest5x6
                  case hy5x6 => (intro w hSw; go_simp <;> with_reducible rfl)
                  try simp only [Act.put, List.setIfInBounds_toArray, List.set_cons_zero, List.set_cons_succ]
                  refine wpAnyH_take (i := 7) (oi := { dst := some 51, op := _, type := _, pos := _, after := _, guard := _ }) (v := ?v5x7) rfl (by kernel_rfl) (by kernel_rfl) (by kernel_rfl) (fun _ _ _ h => h) (Or.inl ⟨by rfl, ?hy5x7⟩) hHeld ?rest5x7
                  case hy5x7 => (intro w hSw; go_simp <;> with_reducible rfl)
                  try simp only [Act.put, List.setIfInBounds_toArray, List.set_cons_zero, List.set_cons_succ]
                  refine wpAnyH_ready (rs := [4]) (by kernel_rfl) (by simp) (AllReadyH.cons (o := { dst := some 48, op := _, type := _, pos := _, after := _, guard := _ }) rfl (fun K hK => ?_) AllReadyH.nil)
                  go_simp
                  refine (rBytes_any q (by omega) _).mono ?_
                  rintro e w5 ⟨rfl, b5⟩
                  have s5 := below_on hHeld b5
                  go_wp2_with fail
                  refine hK.out _ _ ?_ (fun hHeld => ?_)
                  · exact s5
                  clear hK K
                  try simp only [Act.put, List.setIfInBounds_toArray, List.set_cons_zero, List.set_cons_succ]
                  refine wpAnyH_take (i := 8) (oi := { dst := some 52, op := _, type := _, pos := _, after := _, guard := _ }) (v := ?v5x9) rfl (by kernel_rfl) (by kernel_rfl) (by kernel_rfl) (fun _ _ _ h => h) (Or.inl ⟨by rfl, ?hy5x9⟩) hHeld ?rest5x9
                  case hy5x9 => (intro w hSw; go_simp <;> with_reducible rfl)
                  try simp only [Act.put, List.setIfInBounds_toArray, List.set_cons_zero, List.set_cons_succ]
                  refine wpAnyH_take (i := 9) (oi := { dst := some 53, op := _, type := _, pos := _, after := _, guard := _ }) (v := ?v5x10) rfl (by kernel_rfl) (by kernel_rfl) (by kernel_rfl) (fun _ _ _ h => h) (Or.inl ⟨by rfl, ?hy5x10⟩) hHeld ?rest5x10
                  case hy5x10 => (intro w hSw; go_simp <;> with_reducible rfl)
                  try simp only [Act.put, List.setIfInBounds_toArray, List.set_cons_zero, List.set_cons_succ]
                  refine wpAnyH_done (by kernel_rfl) ?_ _
                  go_wp2_with fail
                  go_ret
                  exact ⟨q, rfl, .inr ⟨Hq.out, Hres.out⟩, HB.out.trans (s5.mono HB.out.size)⟩
                · have qs : (enc q == xs.take 2) = false := by simpa using heq
                  have hnx : ∀ p : Nat, isPt (p : Int) = true → enc p <+: xs → 2 + 1 ≤ szP p := fun p h1 h2 => by
                    have k1 := Hall.out p h1 h2
                    have k0 := HKe.out
                    rcases Nat.lt_or_ge 2 (szP p) with h3 | h3
                    · exact h3
                    · have k3 := valK_enc p xs h1 h2
                      rw [show szP p = 2 by omega, Hu.out] at k3
                      obtain rfl : q = p := by omega
                      exact absurd k3.2.symm heq
                  have Hnx := hide hnx
                  clear hnx heq
                  generalize xs.take 2 = tk at *
                  refine wp_region_held_drew (S := fun w' => Below wr.heap.size wr w') (by kernel_rfl) ?_ (fun hHeld => ?_)
                  · exact (Below.refl _ _).drew
                  refine wpAnyH_take (i := 0) (oi := { dst := some 44, op := _, type := _, pos := _, after := _, guard := _ }) (v := ?v6x1) rfl (by kernel_rfl) (by kernel_rfl) (by kernel_rfl) (fun _ _ _ h => h) (Or.inl ⟨by rfl, ?hy6x1⟩) hHeld ?rest6x1
                  case hy6x1 => (intro w hSw; go_simp <;> with_reducible rfl)
                  try simp only [Act.put, List.setIfInBounds_toArray, List.set_cons_zero, List.set_cons_succ]
                  refine wpAnyH_ready (rs := [1]) (by kernel_rfl) (by simp) (AllReadyH.cons (o := { dst := some 45, op := _, type := _, pos := _, after := _, guard := _ }) rfl (fun K hK => ?_) AllReadyH.nil)
                  go_simp
                  refine (rPoint_any _ _).mono ?_
                  rintro e w4 ⟨rfl, rfl⟩
                  rw [hp]
                  go_wp2_with fail
                  refine hK.out _ _ ?_ (fun hHeld => ?_)
                  · exact hHeld
                  clear hK K
                  try simp only [Act.put, List.setIfInBounds_toArray, List.set_cons_zero, List.set_cons_succ]
                  refine wpAnyH_take (i := 2) (oi := { dst := some 46, op := _, type := _, pos := _, after := _, guard := _ }) (v := ?v6x3) rfl (by kernel_rfl) (by kernel_rfl) (by kernel_rfl) (fun _ _ _ h => h) (Or.inl ⟨by rfl, ?hy6x3⟩) hHeld ?rest6x3
                  case hy6x3 => (intro w hSw; go_simp <;> with_reducible rfl)
                  try simp only [Act.put, List.setIfInBounds_toArray, List.set_cons_zero, List.set_cons_succ]
                  refine wpAnyH_take (i := 3) (oi := { dst := some 47, op := _, type := _, pos := _, after := _, guard := _ }) (v := ?v6x4) rfl (by kernel_rfl) (by kernel_rfl) (by kernel_rfl) (fun _ _ _ h => h) (Or.inl ⟨by rfl, ?hy6x4⟩) hHeld ?rest6x4
                  case hy6x4 => (intro w hSw; go_simp <;> with_reducible rfl)
                  try simp only [Act.put, List.setIfInBounds_toArray, List.set_cons_zero, List.set_cons_succ]
                  refine wpAnyH_take (i := 5) (oi := { dst := some 49, op := _, type := _, pos := _, after := _, guard := _ }) (v := ?v6x5) rfl (by kernel_rfl) (by kernel_rfl) (by kernel_rfl) (fun _ _ _ h => h) (Or.inl ⟨by rfl, ?hy6x5⟩) hHeld ?rest6x5
                  case hy6x5 => (intro w hSw; go_simp <;> with_reducible rfl)
                  try simp only [Act.put, List.setIfInBounds_toArray, List.set_cons_zero, List.set_cons_succ]
                  refine wpAnyH_take (i := 6) (oi := { dst := some 50, op := _, type := _, pos := _, after := _, guard := _ }) (v := ?v6x6) rfl (by kernel_rfl) (by kernel_rfl) (by kernel_rfl) (fun _ _ _ h => h) (Or.inl ⟨by rfl, ?hy6x6⟩) hHeld ?rest6x6
                  case hy6x6 => (intro w hSw; go_simp <;> with_reducible rfl)
                  try simp only [Act.put, List.setIfInBounds_toArray, List.set_cons_zero, List.set_cons_succ]
                  refine wpAnyH_take (i := 7) (oi := { dst := some 51, op := _, type := _, pos := _, after := _, guard := _ }) (v := ?v6x7) rfl (by kernel_rfl) (by kernel_rfl) (by kernel_rfl) (fun _ _ _ h => h) (Or.inl ⟨by rfl, ?hy6x7⟩) hHeld ?rest6x7
                  case hy6x7 => (intro w hSw; go_simp <;> with_reducible rfl)
                  try simp only [Act.put, List.setIfInBounds_toArray, List.set_cons_zero, List.set_cons_succ]
                  refine wpAnyH_ready (rs := [4]) (by kernel_rfl) (by simp) (AllReadyH.cons (o := { dst := some 48, op := _, type := _, pos := _, after := _, guard := _ }) rfl (fun K hK => ?_) AllReadyH.nil)
                  go_simp
                  refine (rBytes_any q (by omega) _).mono ?_
                  rintro e w5 ⟨rfl, b5⟩
                  have s5 := below_on hHeld b5
                  go_wp2_with fail
                  refine hK.out _ _ ?_ (fun hHeld => ?_)
                  · exact s5
                  clear hK K
                  try simp only [Act.put, List.setIfInBounds_toArray, List.set_cons_zero, List.set_cons_succ]
                  refine wpAnyH_take (i := 8) (oi := { dst := some 52, op := _, type := _, pos := _, after := _, guard := _ }) (v := ?v6x9) rfl (by kernel_rfl) (by kernel_rfl) (by kernel_rfl) (fun _ _ _ h => h) (Or.inl ⟨by rfl, ?hy6x9⟩) hHeld ?rest6x9
                  case hy6x9 => (intro w hSw; go_simp <;> with_reducible rfl)
                  try simp only [Act.put, List.setIfInBounds_toArray, List.set_cons_zero, List.set_cons_succ]
                  refine wpAnyH_take (i := 9) (oi := { dst := some 53, op := _, type := _, pos := _, after := _, guard := _ }) (v := ?v6x10) rfl (by kernel_rfl) (by kernel_rfl) (by kernel_rfl) (fun _ _ _ h => h) (Or.inl ⟨by rfl, ?hy6x10⟩) hHeld ?rest6x10
                  case hy6x10 => (intro w hSw; go_simp <;> with_reducible rfl)
                  try simp only [Act.put, List.setIfInBounds_toArray, List.set_cons_zero, List.set_cons_succ]
                  refine wpAnyH_done (by kernel_rfl) ?_ _
                  go_wp2_with fail
                  exact ⟨⟨2 + 1, _, rfl, by rfl, by omega, by omega, Hnx.out, HB.out.trans (s5.mono HB.out.size)⟩, by simp [intOf]⟩
        · obtain rfl : z = 3 := by omega
          have Hval := hide (show valK 3 xs = valI ((X : Int) - 224) xs 3 by rw [HV.out, show (x.toNat : Int) - offK 3 = (X : Int) - 224 from by rw [hXe]; simp [offK]])
          have HKe := hide hKe
          clear hz hKe
          go_wp2_with fail
          obtain ⟨w3, hw3⟩ : ∃ w3, w3 = wr := ⟨_, rfl⟩
          subst hw3
          go_loopw [4, 5] (fun v i wr2 => ∃ (I : Nat) (u : Int), v = .int .i64 u ∧ u = valI ((X : Int) - 224) xs I ∧ i = .int .i64 (I : Int) ∧ 1 ≤ I ∧ I ≤ 3 ∧ wr2 = w3) (fun _ i _ => 3 - (intOf i).toNat)
          case atStart => exact ⟨1, _, rfl, by simp [valI], rfl, by omega, by omega, rfl⟩
          case round =>
            obtain ⟨I, u, rfl, hu, rfl, hI1, hIK, rfl⟩ := hrel
            have hub := valI_le xs I (by omega) ((X : Int) - 224) (by omega) (by omega)
            rw [← hu] at hub
            by_cases hI : I < 3
            · have q1 : (I : Int) < 3 := by omega
              have hIn : (I : Int) < (n : Int) := by omega
              have hI' : I < xs.length := by rw [Hx.out]; omega
              have hst := valI_step xs I hI1 hI' ((X : Int) - 224)
              rw [← hu] at hst
              have hxI := xs[I].toNat_lt
              obtain ⟨y, hy⟩ : ∃ y, xs[I] = y := ⟨_, rfl⟩
              have eI : ∀ h, (str xs)[I]'h = y := fun h => (str_get xs I hI' h).trans hy
              rw [hy] at hst hxI
              clear hy
              obtain ⟨Y, hY⟩ : ∃ Y, y.toNat = Y := ⟨_, rfl⟩
              rw [hY] at hxI
              have Hst := hide hst
              have HY := hide hY
              clear hst hu e0
              go_wp2_with fail
              refine ⟨⟨I + 1, _, rfl, by rw [Hst.out, stepK, HY.out], by go_num, by omega, by omega, by first | rfl | trivial⟩, by simp [intOf]; omega⟩
            · have hIe : I = 3 := by omega
              have q1 : ¬ (I : Int) < 3 := by omega
              rw [hIe] at hu
              have Hu := hide (Hval.out.trans hu.symm)
              have hub1 := hub.1
              have hub2 := hub.2
              clear hu hub e0 hIe
              go_wp2_with fail
              cases hp : isPt u with
              | false =>
                have hnx : ∀ p : Nat, isPt (p : Int) = true → enc p <+: xs → 3 + 1 ≤ szP p := fun p h1 h2 => by
                  have k1 := Hall.out p h1 h2
                  have k0 := HKe.out
                  rcases Nat.lt_or_ge 3 (szP p) with h3 | h3
                  · exact h3
                  · have k2 := (valK_enc p xs h1 h2).1
                    rw [show szP p = 3 by omega, Hu.out] at k2
                    rw [k2, h1] at hp
                    cases hp
                have Hnx := hide hnx
                clear hnx
                refine wp_region_held_drew (S := fun w' => Below wr.heap.size wr w') (by kernel_rfl) ?_ (fun hHeld => ?_)
                · exact (Below.refl _ _).drew
                refine wpAnyH_take (i := 0) (oi := { dst := some 44, op := _, type := _, pos := _, after := _, guard := _ }) (v := ?v7x1) rfl (by kernel_rfl) (by kernel_rfl) (by kernel_rfl) (fun _ _ _ h => h) (Or.inl ⟨by rfl, ?hy7x1⟩) hHeld ?rest7x1
                case hy7x1 => (intro w hSw; go_simp <;> with_reducible rfl)
                try simp only [Act.put, List.setIfInBounds_toArray, List.set_cons_zero, List.set_cons_succ]
                refine wpAnyH_ready (rs := [1]) (by kernel_rfl) (by simp) (AllReadyH.cons (o := { dst := some 45, op := _, type := _, pos := _, after := _, guard := _ }) rfl (fun K hK => ?_) AllReadyH.nil)
                go_simp
                refine (rPoint_any _ _).mono ?_
                rintro e w4 ⟨rfl, rfl⟩
                rw [hp]
                go_wp2_with fail
                refine hK.out _ _ ?_ (fun hHeld => ?_)
                · exact hHeld
                clear hK K
                try simp only [Act.put, List.setIfInBounds_toArray, List.set_cons_zero, List.set_cons_succ]
                refine wpAnyH_take (i := 2) (oi := { dst := some 46, op := _, type := _, pos := _, after := _, guard := _ }) (v := ?v7x3) rfl (by kernel_rfl) (by kernel_rfl) (by kernel_rfl) (fun _ _ _ h => h) (Or.inl ⟨by rfl, ?hy7x3⟩) hHeld ?rest7x3
                case hy7x3 => (intro w hSw; go_simp <;> with_reducible rfl)
                try simp only [Act.put, List.setIfInBounds_toArray, List.set_cons_zero, List.set_cons_succ]
                refine wpAnyH_take (i := 3) (oi := { dst := some 47, op := _, type := _, pos := _, after := _, guard := _ }) (v := undef) rfl (by kernel_rfl) (by kernel_rfl) (by kernel_rfl) (fun _ _ _ h => h) (Or.inr ⟨by rfl, rfl⟩) hHeld ?_
                try simp only [Act.put, List.setIfInBounds_toArray, List.set_cons_zero, List.set_cons_succ]
                refine wpAnyH_take (i := 4) (oi := { dst := some 48, op := _, type := _, pos := _, after := _, guard := _ }) (v := undef) rfl (by kernel_rfl) (by kernel_rfl) (by kernel_rfl) (fun _ _ _ h => h) (Or.inr ⟨by rfl, rfl⟩) hHeld ?_
                try simp only [Act.put, List.setIfInBounds_toArray, List.set_cons_zero, List.set_cons_succ]
                refine wpAnyH_take (i := 5) (oi := { dst := some 49, op := _, type := _, pos := _, after := _, guard := _ }) (v := undef) rfl (by kernel_rfl) (by kernel_rfl) (by kernel_rfl) (fun _ _ _ h => h) (Or.inr ⟨by rfl, rfl⟩) hHeld ?_
                try simp only [Act.put, List.setIfInBounds_toArray, List.set_cons_zero, List.set_cons_succ]
                refine wpAnyH_take (i := 6) (oi := { dst := some 50, op := _, type := _, pos := _, after := _, guard := _ }) (v := undef) rfl (by kernel_rfl) (by kernel_rfl) (by kernel_rfl) (fun _ _ _ h => h) (Or.inr ⟨by rfl, rfl⟩) hHeld ?_
                try simp only [Act.put, List.setIfInBounds_toArray, List.set_cons_zero, List.set_cons_succ]
                refine wpAnyH_take (i := 7) (oi := { dst := some 51, op := _, type := _, pos := _, after := _, guard := _ }) (v := undef) rfl (by kernel_rfl) (by kernel_rfl) (by kernel_rfl) (fun _ _ _ h => h) (Or.inr ⟨by rfl, rfl⟩) hHeld ?_
                try simp only [Act.put, List.setIfInBounds_toArray, List.set_cons_zero, List.set_cons_succ]
                refine wpAnyH_take (i := 8) (oi := { dst := some 52, op := _, type := _, pos := _, after := _, guard := _ }) (v := undef) rfl (by kernel_rfl) (by kernel_rfl) (by kernel_rfl) (fun _ _ _ h => h) (Or.inr ⟨by rfl, rfl⟩) hHeld ?_
                try simp only [Act.put, List.setIfInBounds_toArray, List.set_cons_zero, List.set_cons_succ]
                refine wpAnyH_take (i := 9) (oi := { dst := some 53, op := _, type := _, pos := _, after := _, guard := _ }) (v := ?v7x10) rfl (by kernel_rfl) (by kernel_rfl) (by kernel_rfl) (fun _ _ _ h => h) (Or.inl ⟨by rfl, ?hy7x10⟩) hHeld ?rest7x10
                case hy7x10 => (intro w hSw; go_simp <;> with_reducible rfl)
                try simp only [Act.put, List.setIfInBounds_toArray, List.set_cons_zero, List.set_cons_succ]
                refine wpAnyH_done (by kernel_rfl) ?_ _
                go_wp2_with fail
                exact ⟨⟨3 + 1, _, rfl, by rfl, by omega, by omega, Hnx.out, HB.out.drew⟩, by simp [intOf]⟩
              | true =>
                obtain ⟨q, rfl, hq1, hq2⟩ := isPt_nat hp
                have hsl := str_take xs 3
                by_cases heq : enc q = xs.take 3
                · have qs : (enc q == xs.take 3) = true := by rw [heq]; simp
                  have Hres := hide (show enc q <+: xs by rw [heq]; exact List.take_prefix _ _)
                  have Hq := hide hp
                  clear heq
                  generalize xs.take 3 = tk at *
                  refine wp_region_held_drew (S := fun w' => Below wr.heap.size wr w') (by kernel_rfl) ?_ (fun hHeld => ?_)
                  · exact (Below.refl _ _).drew
                  refine wpAnyH_take (i := 0) (oi := { dst := some 44, op := _, type := _, pos := _, after := _, guard := _ }) (v := ?v8x1) rfl (by kernel_rfl) (by kernel_rfl) (by kernel_rfl) (fun _ _ _ h => h) (Or.inl ⟨by rfl, ?hy8x1⟩) hHeld ?rest8x1
                  case hy8x1 => (intro w hSw; go_simp <;> with_reducible rfl)
                  try simp only [Act.put, List.setIfInBounds_toArray, List.set_cons_zero, List.set_cons_succ]
                  refine wpAnyH_ready (rs := [1]) (by kernel_rfl) (by simp) (AllReadyH.cons (o := { dst := some 45, op := _, type := _, pos := _, after := _, guard := _ }) rfl (fun K hK => ?_) AllReadyH.nil)
                  go_simp
                  refine (rPoint_any _ _).mono ?_
                  rintro e w4 ⟨rfl, rfl⟩
                  rw [hp]
                  go_wp2_with fail
                  refine hK.out _ _ ?_ (fun hHeld => ?_)
                  · exact hHeld
                  clear hK K
                  try simp only [Act.put, List.setIfInBounds_toArray, List.set_cons_zero, List.set_cons_succ]
                  refine wpAnyH_take (i := 2) (oi := { dst := some 46, op := _, type := _, pos := _, after := _, guard := _ }) (v := ?v8x3) rfl (by kernel_rfl) (by kernel_rfl) (by kernel_rfl) (fun _ _ _ h => h) (Or.inl ⟨by rfl, ?hy8x3⟩) hHeld ?rest8x3
                  case hy8x3 => (intro w hSw; go_simp <;> with_reducible rfl)
                  try simp only [Act.put, List.setIfInBounds_toArray, List.set_cons_zero, List.set_cons_succ]
                  refine wpAnyH_take (i := 3) (oi := { dst := some 47, op := _, type := _, pos := _, after := _, guard := _ }) (v := ?v8x4) rfl (by kernel_rfl) (by kernel_rfl) (by kernel_rfl) (fun _ _ _ h => h) (Or.inl ⟨by rfl, ?hy8x4⟩) hHeld ?rest8x4
                  case hy8x4 => (intro w hSw; go_simp <;> with_reducible rfl)
                  try simp only [Act.put, List.setIfInBounds_toArray, List.set_cons_zero, List.set_cons_succ]
                  refine wpAnyH_take (i := 5) (oi := { dst := some 49, op := _, type := _, pos := _, after := _, guard := _ }) (v := ?v8x5) rfl (by kernel_rfl) (by kernel_rfl) (by kernel_rfl) (fun _ _ _ h => h) (Or.inl ⟨by rfl, ?hy8x5⟩) hHeld ?rest8x5
                  case hy8x5 => (intro w hSw; go_simp <;> with_reducible rfl)
                  try simp only [Act.put, List.setIfInBounds_toArray, List.set_cons_zero, List.set_cons_succ]
                  refine wpAnyH_take (i := 6) (oi := { dst := some 50, op := _, type := _, pos := _, after := _, guard := _ }) (v := ?v8x6) rfl (by kernel_rfl) (by kernel_rfl) (by kernel_rfl) (fun _ _ _ h => h) (Or.inl ⟨by rfl, ?hy8x6⟩) hHeld ?rest8x6
                  case hy8x6 => (intro w hSw; go_simp <;> with_reducible rfl)
                  try simp only [Act.put, List.setIfInBounds_toArray, List.set_cons_zero, List.set_cons_succ]
                  refine wpAnyH_take (i := 7) (oi := { dst := some 51, op := _, type := _, pos := _, after := _, guard := _ }) (v := ?v8x7) rfl (by kernel_rfl) (by kernel_rfl) (by kernel_rfl) (fun _ _ _ h => h) (Or.inl ⟨by rfl, ?hy8x7⟩) hHeld ?rest8x7
                  case hy8x7 => (intro w hSw; go_simp <;> with_reducible rfl)
                  try simp only [Act.put, List.setIfInBounds_toArray, List.set_cons_zero, List.set_cons_succ]
                  refine wpAnyH_ready (rs := [4]) (by kernel_rfl) (by simp) (AllReadyH.cons (o := { dst := some 48, op := _, type := _, pos := _, after := _, guard := _ }) rfl (fun K hK => ?_) AllReadyH.nil)
                  go_simp
                  refine (rBytes_any q (by omega) _).mono ?_
                  rintro e w5 ⟨rfl, b5⟩
                  have s5 := below_on hHeld b5
                  go_wp2_with fail
                  refine hK.out _ _ ?_ (fun hHeld => ?_)
                  · exact s5
                  clear hK K
                  try simp only [Act.put, List.setIfInBounds_toArray, List.set_cons_zero, List.set_cons_succ]
                  refine wpAnyH_take (i := 8) (oi := { dst := some 52, op := _, type := _, pos := _, after := _, guard := _ }) (v := ?v8x9) rfl (by kernel_rfl) (by kernel_rfl) (by kernel_rfl) (fun _ _ _ h => h) (Or.inl ⟨by rfl, ?hy8x9⟩) hHeld ?rest8x9
                  case hy8x9 => (intro w hSw; go_simp <;> with_reducible rfl)
                  try simp only [Act.put, List.setIfInBounds_toArray, List.set_cons_zero, List.set_cons_succ]
                  refine wpAnyH_take (i := 9) (oi := { dst := some 53, op := _, type := _, pos := _, after := _, guard := _ }) (v := ?v8x10) rfl (by kernel_rfl) (by kernel_rfl) (by kernel_rfl) (fun _ _ _ h => h) (Or.inl ⟨by rfl, ?hy8x10⟩) hHeld ?rest8x10
                  case hy8x10 => (intro w hSw; go_simp <;> with_reducible rfl)
                  try simp only [Act.put, List.setIfInBounds_toArray, List.set_cons_zero, List.set_cons_succ]
                  refine wpAnyH_done (by kernel_rfl) ?_ _
                  go_wp2_with fail
                  go_ret
                  exact ⟨q, rfl, .inr ⟨Hq.out, Hres.out⟩, HB.out.trans (s5.mono HB.out.size)⟩
                · have qs : (enc q == xs.take 3) = false := by simpa using heq
                  have hnx : ∀ p : Nat, isPt (p : Int) = true → enc p <+: xs → 3 + 1 ≤ szP p := fun p h1 h2 => by
                    have k1 := Hall.out p h1 h2
                    have k0 := HKe.out
                    rcases Nat.lt_or_ge 3 (szP p) with h3 | h3
                    · exact h3
                    · have k3 := valK_enc p xs h1 h2
                      rw [show szP p = 3 by omega, Hu.out] at k3
                      obtain rfl : q = p := by omega
                      exact absurd k3.2.symm heq
                  have Hnx := hide hnx
                  clear hnx heq
                  generalize xs.take 3 = tk at *
                  refine wp_region_held_drew (S := fun w' => Below wr.heap.size wr w') (by kernel_rfl) ?_ (fun hHeld => ?_)
                  · exact (Below.refl _ _).drew
                  refine wpAnyH_take (i := 0) (oi := { dst := some 44, op := _, type := _, pos := _, after := _, guard := _ }) (v := ?v9x1) rfl (by kernel_rfl) (by kernel_rfl) (by kernel_rfl) (fun _ _ _ h => h) (Or.inl ⟨by rfl, ?hy9x1⟩) hHeld ?rest9x1
                  case hy9x1 => (intro w hSw; go_simp <;> with_reducible rfl)
                  try simp only [Act.put, List.setIfInBounds_toArray, List.set_cons_zero, List.set_cons_succ]
                  refine wpAnyH_ready (rs := [1]) (by kernel_rfl) (by simp) (AllReadyH.cons (o := { dst := some 45, op := _, type := _, pos := _, after := _, guard := _ }) rfl (fun K hK => ?_) AllReadyH.nil)
                  go_simp
                  refine (rPoint_any _ _).mono ?_
                  rintro e w4 ⟨rfl, rfl⟩
                  rw [hp]
                  go_wp2_with fail
                  refine hK.out _ _ ?_ (fun hHeld => ?_)
                  · exact hHeld
                  clear hK K
                  try simp only [Act.put, List.setIfInBounds_toArray, List.set_cons_zero, List.set_cons_succ]
                  refine wpAnyH_take (i := 2) (oi := { dst := some 46, op := _, type := _, pos := _, after := _, guard := _ }) (v := ?v9x3) rfl (by kernel_rfl) (by kernel_rfl) (by kernel_rfl) (fun _ _ _ h => h) (Or.inl ⟨by rfl, ?hy9x3⟩) hHeld ?rest9x3
                  case hy9x3 => (intro w hSw; go_simp <;> with_reducible rfl)
                  try simp only [Act.put, List.setIfInBounds_toArray, List.set_cons_zero, List.set_cons_succ]
                  refine wpAnyH_take (i := 3) (oi := { dst := some 47, op := _, type := _, pos := _, after := _, guard := _ }) (v := ?v9x4) rfl (by kernel_rfl) (by kernel_rfl) (by kernel_rfl) (fun _ _ _ h => h) (Or.inl ⟨by rfl, ?hy9x4⟩) hHeld ?rest9x4
                  case hy9x4 => (intro w hSw; go_simp <;> with_reducible rfl)
                  try simp only [Act.put, List.setIfInBounds_toArray, List.set_cons_zero, List.set_cons_succ]
                  refine wpAnyH_take (i := 5) (oi := { dst := some 49, op := _, type := _, pos := _, after := _, guard := _ }) (v := ?v9x5) rfl (by kernel_rfl) (by kernel_rfl) (by kernel_rfl) (fun _ _ _ h => h) (Or.inl ⟨by rfl, ?hy9x5⟩) hHeld ?rest9x5
                  case hy9x5 => (intro w hSw; go_simp <;> with_reducible rfl)
                  try simp only [Act.put, List.setIfInBounds_toArray, List.set_cons_zero, List.set_cons_succ]
                  refine wpAnyH_take (i := 6) (oi := { dst := some 50, op := _, type := _, pos := _, after := _, guard := _ }) (v := ?v9x6) rfl (by kernel_rfl) (by kernel_rfl) (by kernel_rfl) (fun _ _ _ h => h) (Or.inl ⟨by rfl, ?hy9x6⟩) hHeld ?rest9x6
                  case hy9x6 => (intro w hSw; go_simp <;> with_reducible rfl)
                  try simp only [Act.put, List.setIfInBounds_toArray, List.set_cons_zero, List.set_cons_succ]
                  refine wpAnyH_take (i := 7) (oi := { dst := some 51, op := _, type := _, pos := _, after := _, guard := _ }) (v := ?v9x7) rfl (by kernel_rfl) (by kernel_rfl) (by kernel_rfl) (fun _ _ _ h => h) (Or.inl ⟨by rfl, ?hy9x7⟩) hHeld ?rest9x7
                  case hy9x7 => (intro w hSw; go_simp <;> with_reducible rfl)
                  try simp only [Act.put, List.setIfInBounds_toArray, List.set_cons_zero, List.set_cons_succ]
                  refine wpAnyH_ready (rs := [4]) (by kernel_rfl) (by simp) (AllReadyH.cons (o := { dst := some 48, op := _, type := _, pos := _, after := _, guard := _ }) rfl (fun K hK => ?_) AllReadyH.nil)
                  go_simp
                  refine (rBytes_any q (by omega) _).mono ?_
                  rintro e w5 ⟨rfl, b5⟩
                  have s5 := below_on hHeld b5
                  go_wp2_with fail
                  refine hK.out _ _ ?_ (fun hHeld => ?_)
                  · exact s5
                  clear hK K
                  try simp only [Act.put, List.setIfInBounds_toArray, List.set_cons_zero, List.set_cons_succ]
                  refine wpAnyH_take (i := 8) (oi := { dst := some 52, op := _, type := _, pos := _, after := _, guard := _ }) (v := ?v9x9) rfl (by kernel_rfl) (by kernel_rfl) (by kernel_rfl) (fun _ _ _ h => h) (Or.inl ⟨by rfl, ?hy9x9⟩) hHeld ?rest9x9
                  case hy9x9 => (intro w hSw; go_simp <;> with_reducible rfl)
                  try simp only [Act.put, List.setIfInBounds_toArray, List.set_cons_zero, List.set_cons_succ]
                  refine wpAnyH_take (i := 9) (oi := { dst := some 53, op := _, type := _, pos := _, after := _, guard := _ }) (v := ?v9x10) rfl (by kernel_rfl) (by kernel_rfl) (by kernel_rfl) (fun _ _ _ h => h) (Or.inl ⟨by rfl, ?hy9x10⟩) hHeld ?rest9x10
                  case hy9x10 => (intro w hSw; go_simp <;> with_reducible rfl)
                  try simp only [Act.put, List.setIfInBounds_toArray, List.set_cons_zero, List.set_cons_succ]
                  refine wpAnyH_done (by kernel_rfl) ?_ _
                  go_wp2_with fail
                  exact ⟨⟨3 + 1, _, rfl, by rfl, by omega, by omega, Hnx.out, HB.out.trans (s5.mono HB.out.size)⟩, by simp [intOf]⟩
        · obtain rfl : z = 4 := by omega
          have Hval := hide (show valK 4 xs = valI ((X : Int) - 240) xs 4 by rw [HV.out, show (x.toNat : Int) - offK 4 = (X : Int) - 240 from by rw [hXe]; simp [offK]])
          have HKe := hide hKe
          clear hz hKe
          go_wp2_with fail
          obtain ⟨w3, hw3⟩ : ∃ w3, w3 = wr := ⟨_, rfl⟩
          subst hw3
          go_loopw [4, 5] (fun v i wr2 => ∃ (I : Nat) (u : Int), v = .int .i64 u ∧ u = valI ((X : Int) - 240) xs I ∧ i = .int .i64 (I : Int) ∧ 1 ≤ I ∧ I ≤ 4 ∧ wr2 = w3) (fun _ i _ => 4 - (intOf i).toNat)
          case atStart => exact ⟨1, _, rfl, by simp [valI], rfl, by omega, by omega, rfl⟩
          case round =>
            obtain ⟨I, u, rfl, hu, rfl, hI1, hIK, rfl⟩ := hrel
            have hub := valI_le xs I (by omega) ((X : Int) - 240) (by omega) (by omega)
            rw [← hu] at hub
            by_cases hI : I < 4
            · have q1 : (I : Int) < 4 := by omega
              have hIn : (I : Int) < (n : Int) := by omega
              have hI' : I < xs.length := by rw [Hx.out]; omega
              have hst := valI_step xs I hI1 hI' ((X : Int) - 240)
              rw [← hu] at hst
              have hxI := xs[I].toNat_lt
              obtain ⟨y, hy⟩ : ∃ y, xs[I] = y := ⟨_, rfl⟩
              have eI : ∀ h, (str xs)[I]'h = y := fun h => (str_get xs I hI' h).trans hy
              rw [hy] at hst hxI
              clear hy
              obtain ⟨Y, hY⟩ : ∃ Y, y.toNat = Y := ⟨_, rfl⟩
              rw [hY] at hxI
              have Hst := hide hst
              have HY := hide hY
              clear hst hu e0
              go_wp2_with fail
              refine ⟨⟨I + 1, _, rfl, by rw [Hst.out, stepK, HY.out], by go_num, by omega, by omega, by first | rfl | trivial⟩, by simp [intOf]; omega⟩
            · have hIe : I = 4 := by omega
              have q1 : ¬ (I : Int) < 4 := by omega
              rw [hIe] at hu
              have Hu := hide (Hval.out.trans hu.symm)
              have hub1 := hub.1
              have hub2 := hub.2
              clear hu hub e0 hIe
              go_wp2_with fail
              cases hp : isPt u with
              | false =>
                have hnx : ∀ p : Nat, isPt (p : Int) = true → enc p <+: xs → 4 + 1 ≤ szP p := fun p h1 h2 => by
                  have k1 := Hall.out p h1 h2
                  have k0 := HKe.out
                  rcases Nat.lt_or_ge 4 (szP p) with h3 | h3
                  · exact h3
                  · have k2 := (valK_enc p xs h1 h2).1
                    rw [show szP p = 4 by omega, Hu.out] at k2
                    rw [k2, h1] at hp
                    cases hp
                have Hnx := hide hnx
                clear hnx
                refine wp_region_held_drew (S := fun w' => Below wr.heap.size wr w') (by kernel_rfl) ?_ (fun hHeld => ?_)
                · exact (Below.refl _ _).drew
                refine wpAnyH_take (i := 0) (oi := { dst := some 44, op := _, type := _, pos := _, after := _, guard := _ }) (v := ?v10x1) rfl (by kernel_rfl) (by kernel_rfl) (by kernel_rfl) (fun _ _ _ h => h) (Or.inl ⟨by rfl, ?hy10x1⟩) hHeld ?rest10x1
                case hy10x1 => (intro w hSw; go_simp <;> with_reducible rfl)
                try simp only [Act.put, List.setIfInBounds_toArray, List.set_cons_zero, List.set_cons_succ]
                refine wpAnyH_ready (rs := [1]) (by kernel_rfl) (by simp) (AllReadyH.cons (o := { dst := some 45, op := _, type := _, pos := _, after := _, guard := _ }) rfl (fun K hK => ?_) AllReadyH.nil)
                go_simp
                refine (rPoint_any _ _).mono ?_
                rintro e w4 ⟨rfl, rfl⟩
                rw [hp]
                go_wp2_with fail
                refine hK.out _ _ ?_ (fun hHeld => ?_)
                · exact hHeld
                clear hK K
                try simp only [Act.put, List.setIfInBounds_toArray, List.set_cons_zero, List.set_cons_succ]
                refine wpAnyH_take (i := 2) (oi := { dst := some 46, op := _, type := _, pos := _, after := _, guard := _ }) (v := ?v10x3) rfl (by kernel_rfl) (by kernel_rfl) (by kernel_rfl) (fun _ _ _ h => h) (Or.inl ⟨by rfl, ?hy10x3⟩) hHeld ?rest10x3
                case hy10x3 => (intro w hSw; go_simp <;> with_reducible rfl)
                try simp only [Act.put, List.setIfInBounds_toArray, List.set_cons_zero, List.set_cons_succ]
                refine wpAnyH_take (i := 3) (oi := { dst := some 47, op := _, type := _, pos := _, after := _, guard := _ }) (v := undef) rfl (by kernel_rfl) (by kernel_rfl) (by kernel_rfl) (fun _ _ _ h => h) (Or.inr ⟨by rfl, rfl⟩) hHeld ?_
                try simp only [Act.put, List.setIfInBounds_toArray, List.set_cons_zero, List.set_cons_succ]
                refine wpAnyH_take (i := 4) (oi := { dst := some 48, op := _, type := _, pos := _, after := _, guard := _ }) (v := undef) rfl (by kernel_rfl) (by kernel_rfl) (by kernel_rfl) (fun _ _ _ h => h) (Or.inr ⟨by rfl, rfl⟩) hHeld ?_
                try simp only [Act.put, List.setIfInBounds_toArray, List.set_cons_zero, List.set_cons_succ]
                refine wpAnyH_take (i := 5) (oi := { dst := some 49, op := _, type := _, pos := _, after := _, guard := _ }) (v := undef) rfl (by kernel_rfl) (by kernel_rfl) (by kernel_rfl) (fun _ _ _ h => h) (Or.inr ⟨by rfl, rfl⟩) hHeld ?_
                try simp only [Act.put, List.setIfInBounds_toArray, List.set_cons_zero, List.set_cons_succ]
                refine wpAnyH_take (i := 6) (oi := { dst := some 50, op := _, type := _, pos := _, after := _, guard := _ }) (v := undef) rfl (by kernel_rfl) (by kernel_rfl) (by kernel_rfl) (fun _ _ _ h => h) (Or.inr ⟨by rfl, rfl⟩) hHeld ?_
                try simp only [Act.put, List.setIfInBounds_toArray, List.set_cons_zero, List.set_cons_succ]
                refine wpAnyH_take (i := 7) (oi := { dst := some 51, op := _, type := _, pos := _, after := _, guard := _ }) (v := undef) rfl (by kernel_rfl) (by kernel_rfl) (by kernel_rfl) (fun _ _ _ h => h) (Or.inr ⟨by rfl, rfl⟩) hHeld ?_
                try simp only [Act.put, List.setIfInBounds_toArray, List.set_cons_zero, List.set_cons_succ]
                refine wpAnyH_take (i := 8) (oi := { dst := some 52, op := _, type := _, pos := _, after := _, guard := _ }) (v := undef) rfl (by kernel_rfl) (by kernel_rfl) (by kernel_rfl) (fun _ _ _ h => h) (Or.inr ⟨by rfl, rfl⟩) hHeld ?_
                try simp only [Act.put, List.setIfInBounds_toArray, List.set_cons_zero, List.set_cons_succ]
                refine wpAnyH_take (i := 9) (oi := { dst := some 53, op := _, type := _, pos := _, after := _, guard := _ }) (v := ?v10x10) rfl (by kernel_rfl) (by kernel_rfl) (by kernel_rfl) (fun _ _ _ h => h) (Or.inl ⟨by rfl, ?hy10x10⟩) hHeld ?rest10x10
                case hy10x10 => (intro w hSw; go_simp <;> with_reducible rfl)
                try simp only [Act.put, List.setIfInBounds_toArray, List.set_cons_zero, List.set_cons_succ]
                refine wpAnyH_done (by kernel_rfl) ?_ _
                go_wp2_with fail
                exact ⟨⟨4 + 1, _, rfl, by rfl, by omega, by omega, Hnx.out, HB.out.drew⟩, by simp [intOf]⟩
              | true =>
                obtain ⟨q, rfl, hq1, hq2⟩ := isPt_nat hp
                have hsl := str_take xs 4
                by_cases heq : enc q = xs.take 4
                · have qs : (enc q == xs.take 4) = true := by rw [heq]; simp
                  have Hres := hide (show enc q <+: xs by rw [heq]; exact List.take_prefix _ _)
                  have Hq := hide hp
                  clear heq
                  generalize xs.take 4 = tk at *
                  refine wp_region_held_drew (S := fun w' => Below wr.heap.size wr w') (by kernel_rfl) ?_ (fun hHeld => ?_)
                  · exact (Below.refl _ _).drew
                  refine wpAnyH_take (i := 0) (oi := { dst := some 44, op := _, type := _, pos := _, after := _, guard := _ }) (v := ?v11x1) rfl (by kernel_rfl) (by kernel_rfl) (by kernel_rfl) (fun _ _ _ h => h) (Or.inl ⟨by rfl, ?hy11x1⟩) hHeld ?rest11x1
                  case hy11x1 => (intro w hSw; go_simp <;> with_reducible rfl)
                  try simp only [Act.put, List.setIfInBounds_toArray, List.set_cons_zero, List.set_cons_succ]
                  refine wpAnyH_ready (rs := [1]) (by kernel_rfl) (by simp) (AllReadyH.cons (o := { dst := some 45, op := _, type := _, pos := _, after := _, guard := _ }) rfl (fun K hK => ?_) AllReadyH.nil)
                  go_simp
                  refine (rPoint_any _ _).mono ?_
                  rintro e w4 ⟨rfl, rfl⟩
                  rw [hp]
                  go_wp2_with fail
                  refine hK.out _ _ ?_ (fun hHeld => ?_)
                  · exact hHeld
                  clear hK K
                  try simp only [Act.put, List.setIfInBounds_toArray, List.set_cons_zero, List.set_cons_succ]
                  refine wpAnyH_take (i := 2) (oi := { dst := some 46, op := _, type := _, pos := _, after := _, guard := _ }) (v := ?v11x3) rfl (by kernel_rfl) (by kernel_rfl) (by kernel_rfl) (fun _ _ _ h => h) (Or.inl ⟨by rfl, ?hy11x3⟩) hHeld ?rest11x3
                  case hy11x3 => (intro w hSw; go_simp <;> with_reducible rfl)
                  try simp only [Act.put, List.setIfInBounds_toArray, List.set_cons_zero, List.set_cons_succ]
                  refine wpAnyH_take (i := 3) (oi := { dst := some 47, op := _, type := _, pos := _, after := _, guard := _ }) (v := ?v11x4) rfl (by kernel_rfl) (by kernel_rfl) (by kernel_rfl) (fun _ _ _ h => h) (Or.inl ⟨by rfl, ?hy11x4⟩) hHeld ?rest11x4
                  case hy11x4 => (intro w hSw; go_simp <;> with_reducible rfl)
                  try simp only [Act.put, List.setIfInBounds_toArray, List.set_cons_zero, List.set_cons_succ]
                  refine wpAnyH_take (i := 5) (oi := { dst := some 49, op := _, type := _, pos := _, after := _, guard := _ }) (v := ?v11x5) rfl (by kernel_rfl) (by kernel_rfl) (by kernel_rfl) (fun _ _ _ h => h) (Or.inl ⟨by rfl, ?hy11x5⟩) hHeld ?rest11x5
                  case hy11x5 => (intro w hSw; go_simp <;> with_reducible rfl)
                  try simp only [Act.put, List.setIfInBounds_toArray, List.set_cons_zero, List.set_cons_succ]
                  refine wpAnyH_take (i := 6) (oi := { dst := some 50, op := _, type := _, pos := _, after := _, guard := _ }) (v := ?v11x6) rfl (by kernel_rfl) (by kernel_rfl) (by kernel_rfl) (fun _ _ _ h => h) (Or.inl ⟨by rfl, ?hy11x6⟩) hHeld ?rest11x6
                  case hy11x6 => (intro w hSw; go_simp <;> with_reducible rfl)
                  try simp only [Act.put, List.setIfInBounds_toArray, List.set_cons_zero, List.set_cons_succ]
                  refine wpAnyH_take (i := 7) (oi := { dst := some 51, op := _, type := _, pos := _, after := _, guard := _ }) (v := ?v11x7) rfl (by kernel_rfl) (by kernel_rfl) (by kernel_rfl) (fun _ _ _ h => h) (Or.inl ⟨by rfl, ?hy11x7⟩) hHeld ?rest11x7
                  case hy11x7 => (intro w hSw; go_simp <;> with_reducible rfl)
                  try simp only [Act.put, List.setIfInBounds_toArray, List.set_cons_zero, List.set_cons_succ]
                  refine wpAnyH_ready (rs := [4]) (by kernel_rfl) (by simp) (AllReadyH.cons (o := { dst := some 48, op := _, type := _, pos := _, after := _, guard := _ }) rfl (fun K hK => ?_) AllReadyH.nil)
                  go_simp
                  refine (rBytes_any q (by omega) _).mono ?_
                  rintro e w5 ⟨rfl, b5⟩
                  have s5 := below_on hHeld b5
                  go_wp2_with fail
                  refine hK.out _ _ ?_ (fun hHeld => ?_)
                  · exact s5
                  clear hK K
                  try simp only [Act.put, List.setIfInBounds_toArray, List.set_cons_zero, List.set_cons_succ]
                  refine wpAnyH_take (i := 8) (oi := { dst := some 52, op := _, type := _, pos := _, after := _, guard := _ }) (v := ?v11x9) rfl (by kernel_rfl) (by kernel_rfl) (by kernel_rfl) (fun _ _ _ h => h) (Or.inl ⟨by rfl, ?hy11x9⟩) hHeld ?rest11x9
                  case hy11x9 => (intro w hSw; go_simp <;> with_reducible rfl)
                  try simp only [Act.put, List.setIfInBounds_toArray, List.set_cons_zero, List.set_cons_succ]
                  refine wpAnyH_take (i := 9) (oi := { dst := some 53, op := _, type := _, pos := _, after := _, guard := _ }) (v := ?v11x10) rfl (by kernel_rfl) (by kernel_rfl) (by kernel_rfl) (fun _ _ _ h => h) (Or.inl ⟨by rfl, ?hy11x10⟩) hHeld ?rest11x10
                  case hy11x10 => (intro w hSw; go_simp <;> with_reducible rfl)
                  try simp only [Act.put, List.setIfInBounds_toArray, List.set_cons_zero, List.set_cons_succ]
                  refine wpAnyH_done (by kernel_rfl) ?_ _
                  go_wp2_with fail
                  go_ret
                  exact ⟨q, rfl, .inr ⟨Hq.out, Hres.out⟩, HB.out.trans (s5.mono HB.out.size)⟩
                · have qs : (enc q == xs.take 4) = false := by simpa using heq
                  have hnx : ∀ p : Nat, isPt (p : Int) = true → enc p <+: xs → 4 + 1 ≤ szP p := fun p h1 h2 => by
                    have k1 := Hall.out p h1 h2
                    have k0 := HKe.out
                    rcases Nat.lt_or_ge 4 (szP p) with h3 | h3
                    · exact h3
                    · have k3 := valK_enc p xs h1 h2
                      rw [show szP p = 4 by omega, Hu.out] at k3
                      obtain rfl : q = p := by omega
                      exact absurd k3.2.symm heq
                  have Hnx := hide hnx
                  clear hnx heq
                  generalize xs.take 4 = tk at *
                  refine wp_region_held_drew (S := fun w' => Below wr.heap.size wr w') (by kernel_rfl) ?_ (fun hHeld => ?_)
                  · exact (Below.refl _ _).drew
                  refine wpAnyH_take (i := 0) (oi := { dst := some 44, op := _, type := _, pos := _, after := _, guard := _ }) (v := ?v12x1) rfl (by kernel_rfl) (by kernel_rfl) (by kernel_rfl) (fun _ _ _ h => h) (Or.inl ⟨by rfl, ?hy12x1⟩) hHeld ?rest12x1
                  case hy12x1 => (intro w hSw; go_simp <;> with_reducible rfl)
                  try simp only [Act.put, List.setIfInBounds_toArray, List.set_cons_zero, List.set_cons_succ]
                  refine wpAnyH_ready (rs := [1]) (by kernel_rfl) (by simp) (AllReadyH.cons (o := { dst := some 45, op := _, type := _, pos := _, after := _, guard := _ }) rfl (fun K hK => ?_) AllReadyH.nil)
                  go_simp
                  refine (rPoint_any _ _).mono ?_
                  rintro e w4 ⟨rfl, rfl⟩
                  rw [hp]
                  go_wp2_with fail
                  refine hK.out _ _ ?_ (fun hHeld => ?_)
                  · exact hHeld
                  clear hK K
                  try simp only [Act.put, List.setIfInBounds_toArray, List.set_cons_zero, List.set_cons_succ]
                  refine wpAnyH_take (i := 2) (oi := { dst := some 46, op := _, type := _, pos := _, after := _, guard := _ }) (v := ?v12x3) rfl (by kernel_rfl) (by kernel_rfl) (by kernel_rfl) (fun _ _ _ h => h) (Or.inl ⟨by rfl, ?hy12x3⟩) hHeld ?rest12x3
                  case hy12x3 => (intro w hSw; go_simp <;> with_reducible rfl)
                  try simp only [Act.put, List.setIfInBounds_toArray, List.set_cons_zero, List.set_cons_succ]
                  refine wpAnyH_take (i := 3) (oi := { dst := some 47, op := _, type := _, pos := _, after := _, guard := _ }) (v := ?v12x4) rfl (by kernel_rfl) (by kernel_rfl) (by kernel_rfl) (fun _ _ _ h => h) (Or.inl ⟨by rfl, ?hy12x4⟩) hHeld ?rest12x4
                  case hy12x4 => (intro w hSw; go_simp <;> with_reducible rfl)
                  try simp only [Act.put, List.setIfInBounds_toArray, List.set_cons_zero, List.set_cons_succ]
                  refine wpAnyH_take (i := 5) (oi := { dst := some 49, op := _, type := _, pos := _, after := _, guard := _ }) (v := ?v12x5) rfl (by kernel_rfl) (by kernel_rfl) (by kernel_rfl) (fun _ _ _ h => h) (Or.inl ⟨by rfl, ?hy12x5⟩) hHeld ?rest12x5
                  case hy12x5 => (intro w hSw; go_simp <;> with_reducible rfl)
                  try simp only [Act.put, List.setIfInBounds_toArray, List.set_cons_zero, List.set_cons_succ]
                  refine wpAnyH_take (i := 6) (oi := { dst := some 50, op := _, type := _, pos := _, after := _, guard := _ }) (v := ?v12x6) rfl (by kernel_rfl) (by kernel_rfl) (by kernel_rfl) (fun _ _ _ h => h) (Or.inl ⟨by rfl, ?hy12x6⟩) hHeld ?rest12x6
                  case hy12x6 => (intro w hSw; go_simp <;> with_reducible rfl)
                  try simp only [Act.put, List.setIfInBounds_toArray, List.set_cons_zero, List.set_cons_succ]
                  refine wpAnyH_take (i := 7) (oi := { dst := some 51, op := _, type := _, pos := _, after := _, guard := _ }) (v := ?v12x7) rfl (by kernel_rfl) (by kernel_rfl) (by kernel_rfl) (fun _ _ _ h => h) (Or.inl ⟨by rfl, ?hy12x7⟩) hHeld ?rest12x7
                  case hy12x7 => (intro w hSw; go_simp <;> with_reducible rfl)
                  try simp only [Act.put, List.setIfInBounds_toArray, List.set_cons_zero, List.set_cons_succ]
                  refine wpAnyH_ready (rs := [4]) (by kernel_rfl) (by simp) (AllReadyH.cons (o := { dst := some 48, op := _, type := _, pos := _, after := _, guard := _ }) rfl (fun K hK => ?_) AllReadyH.nil)
                  go_simp
                  refine (rBytes_any q (by omega) _).mono ?_
                  rintro e w5 ⟨rfl, b5⟩
                  have s5 := below_on hHeld b5
                  go_wp2_with fail
                  refine hK.out _ _ ?_ (fun hHeld => ?_)
                  · exact s5
                  clear hK K
                  try simp only [Act.put, List.setIfInBounds_toArray, List.set_cons_zero, List.set_cons_succ]
                  refine wpAnyH_take (i := 8) (oi := { dst := some 52, op := _, type := _, pos := _, after := _, guard := _ }) (v := ?v12x9) rfl (by kernel_rfl) (by kernel_rfl) (by kernel_rfl) (fun _ _ _ h => h) (Or.inl ⟨by rfl, ?hy12x9⟩) hHeld ?rest12x9
                  case hy12x9 => (intro w hSw; go_simp <;> with_reducible rfl)
                  try simp only [Act.put, List.setIfInBounds_toArray, List.set_cons_zero, List.set_cons_succ]
                  refine wpAnyH_take (i := 9) (oi := { dst := some 53, op := _, type := _, pos := _, after := _, guard := _ }) (v := ?v12x10) rfl (by kernel_rfl) (by kernel_rfl) (by kernel_rfl) (fun _ _ _ h => h) (Or.inl ⟨by rfl, ?hy12x10⟩) hHeld ?rest12x10
                  case hy12x10 => (intro w hSw; go_simp <;> with_reducible rfl)
                  try simp only [Act.put, List.setIfInBounds_toArray, List.set_cons_zero, List.set_cons_succ]
                  refine wpAnyH_done (by kernel_rfl) ?_ _
                  go_wp2_with fail
                  exact ⟨⟨4 + 1, _, rfl, by rfl, by omega, by omega, Hnx.out, HB.out.trans (s5.mono HB.out.size)⟩, by simp [intOf]⟩
      · have hK' : z ≤ 4 := by omega
        have hKn' : ¬ z ≤ (xs.length : Int) := by rw [hx]; omega
        go_wp2_with fail
        go_ret
        refine ⟨0, rfl, .inl ⟨rfl, fun p hp hpx => ?_⟩, HB.out⟩
        have k1 := Hall.out p hp hpx
        have k2 := hpx.length_le
        rw [enc_length, Hx.out] at k2
        omega
    · have hK' : ¬ z ≤ 4 := by omega
      go_wp2_with fail
      go_ret
      refine ⟨0, rfl, .inl ⟨rfl, fun p hp hpx => ?_⟩, HB.out⟩
      have k1 := Hall.out p hp hpx
      have k2 := (szP_le p).2
      omega

end Go.Proofs.YtfjafpbmgbnllaaGreat
