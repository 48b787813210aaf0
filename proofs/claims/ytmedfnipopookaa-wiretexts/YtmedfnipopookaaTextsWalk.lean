/-
  What is proved here: the law WireTexts returns true for every slice of bytes, every string and every int, and writes nothing that was there. No condition.
-/
import Derived.Test.YtmedfnipopookaaAwake1
import Derived.Test.YtmedfnipopookaaRef1
namespace Go.Proofs.Ytmedfnipopookaa
set_option linter.unusedVariables false
set_option linter.unusedSimpArgs false
open Go.RowKit

theorem word_val (n : Nat) (h : n ≤ 65535) : 256 * (UInt8.ofNat (n / 256)).toNat + (UInt8.ofNat (n % 256)).toNat = n := by
  simp only [UInt8.toNat_ofNat']
  omega
theorem text_at (xs ys zs : List UInt8) (l n : Nat) (hl : xs.length = l) (hn : ys.length = n) :
    (xs ++ (word n ++ (ys ++ zs)))[l]? = some (UInt8.ofNat (n / 256)) ∧ (xs ++ (word n ++ (ys ++ zs)))[l + 1]? = some (UInt8.ofNat (n % 256)) ∧ ((xs ++ (word n ++ (ys ++ zs))).drop (l + 2)).take n = ys ∧ (xs ++ (word n ++ (ys ++ zs))).drop (l + 2 + n) = zs := by
  subst hl hn
  refine ⟨by simp [word], by simp [word], ?_, ?_⟩
  · rw [List.drop_append, List.drop_eq_nil_of_le (by omega), show xs.length + 2 - xs.length = 2 from by omega]
    simp [word]
  · rw [List.drop_append, List.drop_eq_nil_of_le (by omega), show xs.length + 2 + ys.length - xs.length = ys.length + 2 from by omega]
    simp [word]
theorem text_at' (xs ys : List UInt8) (l n : Nat) (hl : xs.length = l) (hn : ys.length = n) :
    (xs ++ (word n ++ ys))[l]? = some (UInt8.ofNat (n / 256)) ∧ (xs ++ (word n ++ ys))[l + 1]? = some (UInt8.ofNat (n % 256)) ∧ ((xs ++ (word n ++ ys)).drop (l + 2)).take n = ys := by
  have := text_at xs ys [] l n hl hn
  rw [List.append_nil] at this
  exact ⟨this.1, this.2.1, this.2.2.1⟩

set_option maxHeartbeats 2000000 in
set_option maxRecDepth 100000 in
theorem texts_walk (A : Option Addr) (l c : Nat) (xs : List UInt8) (s : ByteArray) (n : Int) (w : World) (h : Rd w A l (bv xs)) (hx : xs.length = l) (hsm0 : s.size ≤ maxLen) :
    Calls Try.prog 5 #[.slice A l c, .string s, .int .i64 n] w fun e w' => e = .returned (.bool true) ∧ Below w.heap.size w w' := by
  unfold maxLen at hsm0
  obtain ⟨sz, hsz⟩ : ∃ sz, s.size = sz := ⟨_, rfl⟩
  by_cases hs : l ≤ 2000
  · have hsm : decide (l ≤ 2000) = true := by simpa using hs
    by_cases h7 : 70000 < sz
    · have q : (70000 : Int) < (sz : Int) := by omega
      clear hx h
      go_enter Try.func5, Try.ntmps5
      go_wp2_with (first
        | (go_at_call 9; refine (small_any A l c w).mono ?_; rintro e w' ⟨rfl, rfl⟩; rw [hsm]))
      go_ret
      exact ⟨rfl, Below.refl _ _⟩
    · have q : ¬ (70000 : Int) < (sz : Int) := by omega
      by_cases h6 : 65535 < sz
      · have q6 : (65535 : Int) < (sz : Int) := by omega
        have P1 := fun W => hide (putText_no A l c s W (by omega))
        clear hx h
        go_enter Try.func5, Try.ntmps5
        go_wp2_with (first
          | (go_at_call 9; refine (small_any A l c w).mono ?_; rintro e w' ⟨rfl, rfl⟩; rw [hsm])
          | (go_at_call 18; refine (P1 _).out.mono ?_; rintro e w' ⟨rfl, rfl⟩)
          | (go_at_call 12; refine (awake_any _).mono ?_; rintro e w2 ⟨rfl, b2⟩))
        go_ret
        exact ⟨rfl, b2⟩
      · have q6 : ¬ (65535 : Int) < (sz : Int) := by omega
        have hyl : s.data.toList.length = sz := by rw [Array.length_toList]; exact hsz
        have P1 := hide (putTextI A l c sz (l + 2 + sz) rfl xs s w h (by omega) hsz (by omega))
        obtain ⟨t1, t2, t3⟩ := text_at' xs s.data.toList l sz hx hyl
        have wv := word_val sz (by omega)
        have Hsz := hide hsz
        have Hyl := hide hyl
        have Hx := hide hx
        have T1 := fun W hW => hide (textAtI (some ⟨w.heap.size, 0, none⟩) (l + 2 + sz) (l + 2 + sz) (l : Int) l sz rfl (xs ++ (word sz ++ s.data.toList)) W hW (Nat.le_refl _) (Nat.le_refl _) (by omega) _ _ t1 t2 wv s (by rw [t3, str_of]) ((l : Int) + 2 + sz) (by omega))
        have Ht := hide (text_at xs s.data.toList)
        have Hwv := hide wv
        clear t1 t2 t3 wv hyl hx
        go_enter Try.func5, Try.ntmps5
        go_wp2_with (first
          | (go_at_call 9; refine (small_any A l c w).mono ?_; rintro e w' ⟨rfl, rfl⟩; rw [hsm])
          | (go_at_call 18; refine P1.out.mono ?_; rintro e w1 ⟨rfl, k1, b1⟩))
        have hlen : (bv (xs ++ (word sz ++ s.data.toList))).length = l + 2 + sz := by rw [bv_length, List.length_append, List.length_append, Hx.out, Hyl.out]; simp [word]; omega
        have Hlen := hide hlen
        clear hlen
        have hcv : ∀ w', Below w1.heap.size w1 w' → ∀ d, (convert 22 9 (.slice (some ⟨w.heap.size, 0, none⟩) (l + 2 + sz) d)).run Try.prog w' = .ok (.string (str (xs ++ (word sz ++ s.data.toList)))) w' := fun w' hb d =>
          (k1.reads hb (l + 2 + sz) Hlen.out).toStr 22 5 9 Try.underlying22 Try.underlying5 Try.underlying9 d
        have Hk1 := hide k1
        have Hb1 := hide b1
        clear k1 b1
        refine wp_region_held_drew (S := fun w' => Below w1.heap.size w1 w') (by kernel_rfl) ?_ (fun hHeld => ?_)
        · exact (Below.refl _ _).drew
        refine wpAnyH_take (i := 0) (oi := { dst := some 46, op := _, type := _, pos := _, after := _, guard := _ }) (v := ?v1x0) rfl (by kernel_rfl) (by kernel_rfl) (by kernel_rfl) (fun _ _ _ h => h) (Or.inl ⟨by rfl, ?hy1x0⟩) hHeld ?rest1x0
        case hy1x0 => (intro w hSw; go_simp <;> with_reducible rfl)
        try simp only [Act.put, List.setIfInBounds_toArray, List.set_cons_zero, List.set_cons_succ]
        refine wpAnyH_take (i := 1) (oi := { dst := some 47, op := _, type := _, pos := _, after := _, guard := _ }) (v := ?v1x1) rfl (by kernel_rfl) (by kernel_rfl) (by kernel_rfl) (fun _ _ _ h => h) (Or.inl ⟨by rfl, ?hy1x1⟩) hHeld ?rest1x1
        case hy1x1 => (intro w hSw; go_simp <;> with_reducible rfl)
        try simp only [Act.put, List.setIfInBounds_toArray, List.set_cons_zero, List.set_cons_succ]
        refine wpAnyH_take (i := 2) (oi := { dst := some 48, op := _, type := _, pos := _, after := _, guard := _ }) (v := ?v1x2) rfl (by kernel_rfl) (by kernel_rfl) (by kernel_rfl) (fun _ _ _ h => h) (Or.inl ⟨by rfl, ?hy1x2⟩) hHeld ?rest1x2
        case hy1x2 => (intro w hSw; go_simp <;> with_reducible rfl)
        try simp only [Act.put, List.setIfInBounds_toArray, List.set_cons_zero, List.set_cons_succ]
        refine wpAnyH_take (i := 3) (oi := { dst := some 49, op := _, type := _, pos := _, after := _, guard := _ }) (v := ?v1x3) rfl (by kernel_rfl) (by kernel_rfl) (by kernel_rfl) (fun _ _ _ h => h) (Or.inl ⟨by rfl, ?hy1x3⟩) hHeld ?rest1x3
        case hy1x3 => (intro w hSw; go_simp <;> with_reducible rfl)
        try simp only [Act.put, List.setIfInBounds_toArray, List.set_cons_zero, List.set_cons_succ]
        refine wpAnyH_take (i := 4) (oi := { dst := some 50, op := _, type := _, pos := _, after := _, guard := _ }) (v := ?v1x4) rfl (by kernel_rfl) (by kernel_rfl) (by kernel_rfl) (fun _ _ _ h => h) (Or.inl ⟨by rfl, ?hy1x4⟩) hHeld ?rest1x4
        case hy1x4 => (intro w hSw; go_simp <;> with_reducible rfl)
        try simp only [Act.put, List.setIfInBounds_toArray, List.set_cons_zero, List.set_cons_succ]
        refine wpAnyH_take (i := 5) (oi := { dst := some 51, op := _, type := _, pos := _, after := _, guard := _ }) (v := ?v1x5) rfl (by kernel_rfl) (by kernel_rfl) (by kernel_rfl) (fun _ _ _ h => h) (Or.inl ⟨by rfl, ?hy1x5⟩) hHeld ?rest1x5
        case hy1x5 => (intro w hSw; go_simp <;> with_reducible rfl)
        try simp only [Act.put, List.setIfInBounds_toArray, List.set_cons_zero, List.set_cons_succ]
        refine wpAnyH_take (i := 6) (oi := { dst := some 52, op := _, type := _, pos := _, after := _, guard := _ }) (v := ?v1x6) rfl (by kernel_rfl) (by kernel_rfl) (by kernel_rfl) (fun _ _ _ h => h) (Or.inl ⟨by rfl, ?hy1x6⟩) hHeld ?rest1x6
        case hy1x6 => (intro w hSw; go_simp <;> with_reducible rfl)
        try simp only [Act.put, List.setIfInBounds_toArray, List.set_cons_zero, List.set_cons_succ]
        refine wpAnyH_ready (rs := [7]) (by kernel_rfl) (by simp) (AllReadyH.cons (o := { dst := some 53, op := _, type := _, pos := _, after := _, guard := _ }) rfl (fun K hK => ?_) AllReadyH.nil)
        go_simp
        refine (text_any s sz Hsz.out (by omega) _).mono ?_
        rintro e w2 ⟨C, k, rfl, hk, r2, b2⟩
        have s2 := below_on hHeld b2
        go_wp2_with fail
        refine hK.out _ _ ?_ (fun hHeld => ?_)
        · exact below_on hHeld b2
        clear hK K
        try simp only [Act.put, List.setIfInBounds_toArray, List.set_cons_zero, List.set_cons_succ]
        refine wpAnyH_ready (rs := [8]) (by kernel_rfl) (by simp) (AllReadyH.cons (o := { dst := some 54, op := _, type := _, pos := _, after := _, guard := _ }) rfl (fun K hK => ?_) AllReadyH.nil)
        go_simp
        refine (both_any A _ l (2 + sz) c k xs (word sz ++ s.data.toList) _ ((h.keep Hb1.out).keep s2) r2 (by omega) (by omega)).mono ?_
        rintro e w3 ⟨D, d, rfl, hd, r3, b3⟩
        have s3 := below_on s2 b3
        have hcC : ∀ w', Below w3.heap.size w3 w' → ∀ k, (convert 22 9 (.slice D (l + (2 + sz)) k)).run Try.prog w' = .ok (.string (str (xs ++ (word sz ++ s.data.toList)))) w' := fun w' hb k => (r3.keep hb).toStr 22 5 9 Try.underlying22 Try.underlying5 Try.underlying9 k
        go_wp2_with fail
        refine hK.out _ _ ?_ (fun hHeld => ?_)
        · exact below_on hHeld b3
        clear hK K
        try simp only [Act.put, List.setIfInBounds_toArray, List.set_cons_zero, List.set_cons_succ]
        refine wpAnyH_strong (S' := fun w' => Below w3.heap.size w3 w') (by intro w' h; exact below_on hHeld h) ?_
        replace hHeld : (fun w' => Below w3.heap.size w3 w') _ := Below.refl _ _
        refine wpAnyH_take (i := 9) (oi := { dst := some 55, op := _, type := _, pos := _, after := _, guard := _ }) (v := ?v1x9) rfl (by kernel_rfl) (by kernel_rfl) (by kernel_rfl) (fun _ _ _ h => h) (Or.inl ⟨by rfl, ?hy1x9⟩) hHeld ?rest1x9
        case hy1x9 => (intro w hSw; go_simp <;> with_reducible rfl)
        try simp only [Act.put, List.setIfInBounds_toArray, List.set_cons_zero, List.set_cons_succ]
        refine wpAnyH_take (i := 10) (oi := { dst := some 56, op := _, type := _, pos := _, after := _, guard := _ }) (v := ?v1x10) rfl (by kernel_rfl) (by kernel_rfl) (by kernel_rfl) (fun _ _ _ h => h) (Or.inl ⟨by rfl, ?hy1x10⟩) hHeld ?rest1x10
        case hy1x10 => (intro w hSw; go_simp <;> with_reducible rfl)
        try simp only [Act.put, List.setIfInBounds_toArray, List.set_cons_zero, List.set_cons_succ]
        refine wpAnyH_take (i := 11) (oi := { dst := some 57, op := _, type := _, pos := _, after := _, guard := _ }) (v := ?v1x11) rfl (by kernel_rfl) (by kernel_rfl) (by kernel_rfl) (fun _ _ _ h => h) (Or.inl ⟨by rfl, ?hy1x11⟩) hHeld ?rest1x11
        case hy1x11 => (intro w hSw; go_simp <;> with_reducible rfl)
        try simp only [Act.put, List.setIfInBounds_toArray, List.set_cons_zero, List.set_cons_succ]
        refine wpAnyH_done (by kernel_rfl) ?_ _
        have r1 : Rd w3 (some ⟨w.heap.size, 0, none⟩) (l + 2 + sz) (bv (xs ++ (word sz ++ s.data.toList))) := Hk1.out.reads s3 _ Hlen.out
        have Hs3 := hide (below_on Hb1.out s3)
        clear hcv hcC s2 s3 b2 b3 r2 r3 hk hd
        by_cases hn : n < 0 ∨ 65535 < n
        · have Hr1 := hide r1
          clear r1
          go_wp2_with (first
            | (go_at_call 10; refine (put_no _ _ _ n w3 hn).mono ?_; rintro e w' ⟨rfl, rfl⟩)
            | (go_at_call 16; refine (T1 _ Hr1.out).out.mono ?_; rintro e w' ⟨rfl, n1, rfl⟩)
            | (go_at_call 12; refine (awake_any _).mono ?_; rintro e w4 ⟨rfl, b4⟩; have s4 := below_unN b4; clear b4)
            | (go_at_call 11; refine (is_no n hn _).mono ?_; rintro e w' ⟨rfl, rfl⟩))
          go_ret
          exact ⟨rfl, below_on Hs3.out s4⟩
        · obtain ⟨m, rfl⟩ : ∃ m : Nat, n = (m : Int) := ⟨n.toNat, by omega⟩
          have hm : m ≤ 65535 := by omega
          have hfull : xs ++ (word sz ++ s.data.toList) ++ word m = xs ++ (word sz ++ (s.data.toList ++ word m)) := by simp
          have Hfull := hide hfull
          have Hr1 := hide r1
          clear r1 hn hfull
          go_wp2_with fail
          refine (putI (some ⟨w.heap.size, 0, none⟩) (l + 2 + sz) (l + 2 + sz) (m : Int) m (l + 2 + sz + 2) rfl rfl (xs ++ (word sz ++ s.data.toList)) w3 Hr1.out (by omega) hm).mono ?_
          rintro e w4 ⟨rfl, k4, b4⟩
          rw [Hfull.out] at k4
          have hlen2 : (bv (xs ++ (word sz ++ (s.data.toList ++ word m)))).length = l + 2 + sz + 2 := by rw [bv_length, List.length_append, List.length_append, List.length_append, Hx.out, Hyl.out]; simp [word]; omega
          have r4 : Rd w4 (some ⟨w3.heap.size, 0, none⟩) (l + 2 + sz + 2) (bv (xs ++ (word sz ++ (s.data.toList ++ word m)))) := k4.reads (Below.refl _ _) _ hlen2
          have r1' := Hr1.out.keep b4
          obtain ⟨u1, u2, u3, u4⟩ := Ht.out (word m) l sz Hx.out Hyl.out
          have v1 : (xs ++ (word sz ++ (s.data.toList ++ word m)))[l + 2 + sz]? = some (UInt8.ofNat (m / 256)) := by
            have := congrArg (fun l => l[0]?) u4
            simpa [List.getElem?_drop, word] using this
          have v2 : (xs ++ (word sz ++ (s.data.toList ++ word m)))[l + 2 + sz + 1]? = some (UInt8.ofNat (m % 256)) := by
            have := congrArg (fun l => l[1]?) u4
            simpa [List.getElem?_drop, word] using this
          have T2 := fun W hW => hide (textAtI (some ⟨w3.heap.size, 0, none⟩) (l + 2 + sz + 2) (l + 2 + sz + 2) (l : Int) l sz rfl (xs ++ (word sz ++ (s.data.toList ++ word m))) W hW (Nat.le_refl _) (by omega) (by omega) _ _ u1 u2 Hwv.out s (by rw [u3, str_of]) ((l : Int) + 2 + sz) (by omega))
          have T3 := fun W hW => hide (atI (some ⟨w3.heap.size, 0, none⟩) (l + 2 + sz + 2) (l + 2 + sz + 2) ((l : Int) + 2 + sz) (l + 2 + sz) (by omega) (xs ++ (word sz ++ (s.data.toList ++ word m))) W hW (Nat.le_refl _) (by unfold maxLen; omega) _ _ v1 v2 (m : Int) (by have := word_val m hm; omega))
          have Hr4 := hide r4
          have Hr1' := hide r1'
          have Hs4 := hide (below_on Hs3.out b4)
          clear u1 u2 u3 u4 v1 v2 hlen2 r4 r1' k4 b4
          go_wp2_with fail
          refine (T1 _ Hr1'.out).out.mono ?_
          rintro e w' ⟨rfl, n1, rfl⟩
          go_wp2_with fail
          refine (T2 _ (Hr4.out.drewN _)).out.mono ?_
          rintro e w' ⟨rfl, n2, rfl⟩
          go_wp2_with fail
          refine (T3 _ (Hr4.out.drewN _)).out.mono ?_
          rintro e w' ⟨rfl, n3, rfl⟩
          go_wp2_with (go_at_call 12; refine (awake_any _).mono ?_; rintro e w5 ⟨rfl, b5⟩; have s5 := below_unN b5; clear b5)
          go_ret
          exact ⟨rfl, below_on Hs4.out s5⟩
  · have hsm : decide (l ≤ 2000) = false := by simpa using hs
    go_enter Try.func5, Try.ntmps5
    go_wp2_with (go_at_call 9; refine (small_any A l c w).mono ?_; rintro e w' ⟨rfl, rfl⟩; rw [hsm])
    go_ret
    exact ⟨rfl, Below.refl _ _⟩

end Go.Proofs.Ytmedfnipopookaa
