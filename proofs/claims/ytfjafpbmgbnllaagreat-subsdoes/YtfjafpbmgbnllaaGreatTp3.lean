/-
  What is proved here: what ContainsAny of Go's package strings returns for the signs + and #: whether one of them stands in a text, for every text shorter than 2^40 bytes, whatever its bytes are. Condition: so short a text.
-/
import Derived.Test.YtfjafpbmgbnllaaGreatTp2
namespace Go.Proofs.YtfjafpbmgbnllaaGreat
set_option linter.unusedVariables false
set_option linter.unusedSimpArgs false
open Go.RowKit

theorem useSet_any (n : Int) (w : World) : Calls Tryz.prog 95 #[.int .i64 n] w fun e w' => e = .returned (.bool (decide (8 < n))) ∧ w' = w := by
  go_enter Tryz.func95, Tryz.ntmps95
  go_wp2
  go_ret
  exact ⟨rfl, rfl⟩

theorem wp_load_run {P : Program} {o : Oper} {a : Act} {W : World} {K : Act → World → Prop} {Q : Exit → Act → World → Prop} (ty : TypeId) (x : Operand) (ho : o.op = .load ty x) (v u : Value) (hx : a.eval x = v)
    (hr : (Instr.loadAt ty v).run P W = .ok u W) (h : K (a.put o.dst u) W) : o.wp P a W K Q := by
  unfold Oper.wp execOp
  simp only [ho, hx, Sem.run_bind, Sem.run_pure, hr, Result.andThen_ok]
  exact h
theorem wp_store_run {P : Program} {o : Oper} {a : Act} {W W' : World} {K : Act → World → Prop} {Q : Exit → Act → World → Prop} (ty : TypeId) (x y : Operand) (ho : o.op = .store ty x y) (v u : Value) (hx : a.eval x = v) (hy : a.eval y = u)
    (hr : (Instr.storeAt ty v u).run P W = .ok () W') (h : K (a.put o.dst undef) W') : o.wp P a W K Q := by
  unfold Oper.wp execOp
  simp only [ho, hx, hy, Sem.run_bind, Sem.run_pure, hr, Result.andThen_ok]
  exact h

theorem contains_any (b : Nat) (x : UInt8) (v : Bool) (w : World) (hc : w.cell? ⟨b, x.toNat, none⟩ = some (.bool v)) :
    Calls Tryz.prog 97 #[.pointer (some ⟨b, 0, none⟩), .int .u8 x.toNat] w fun e w' => e = .returned (.bool v) ∧ w' = w := by
  have hx256 : (x.toNat : Int) < 256 := by have := UInt8.toNat_lt x; omega
  go_enter Tryz.func97, Tryz.ntmps97
  go_wp2
  go_ret
  exact ⟨rfl, rfl⟩

/-- Is none of the first i bytes + or #? -/
def noW (xs : List UInt8) (i : Nat) : Prop := wildL (xs.take i) = false
theorem noW_zero (xs : List UInt8) : noW xs 0 := rfl
theorem noW_step {xs : List UInt8} {i : Nat} (h : noW xs i) (hi : i < xs.length) (hc : ([43, 35] : List UInt8).contains xs[i] = false) : noW xs (i + 1) := by
  unfold noW at *
  rw [List.take_succ_eq_append_getElem hi, wildL_append, h, wildL_cons]
  simp only [List.contains_cons, List.contains_nil, Bool.or_false, Bool.or_eq_false_iff] at hc
  rw [hc.1, hc.2]
  rfl
theorem noW_more {xs : List UInt8} {i k : Nat} (h : noW xs i) (hk : i + k ≤ xs.length) (hb : ∀ j (h : j < xs.length), i ≤ j → j < i + k → 128 ≤ xs[j].toNat) : noW xs (i + k) := by
  induction k with
  | zero => exact h
  | succ k ih =>
    have h1 := ih (by omega) (fun j hj h1 h2 => hb j hj h1 (by omega))
    have hlt : i + k < xs.length := by omega
    have h3 := noW_step h1 hlt
    rw [Nat.add_assoc] at h3
    refine h3 ?_
    have h2 := hb (i + k) hlt (by omega) (by omega)
    generalize xs[i + k]'hlt = c at h2
    simp only [List.contains_cons, List.contains_nil, Bool.or_false, Bool.or_eq_false_iff, beq_eq_false_iff_ne]
    exact ⟨by rintro rfl; revert h2; decide, by rintro rfl; revert h2; decide⟩
theorem noW_hit {xs : List UInt8} {i : Nat} (hi : i < xs.length) (hc : ([43, 35] : List UInt8).contains xs[i] = true) : wildL xs = true := by
  have : wildL (xs.take i ++ xs[i] :: xs.drop (i + 1)) = true := by
    rw [wildL_append, wildL_cons]
    simp only [List.contains_cons, List.contains_nil, Bool.or_false] at hc
    rw [hc]
    simp
  simpa using this

set_option maxHeartbeats 8000000 in
set_option maxRecDepth 1000000 in
theorem indexAny_short (xs : List UInt8) (h8 : xs.length ≤ 8) (w : World) :
    Calls Tryz.prog 73 #[.string (str xs), .string ⟨#[43, 35]⟩] w fun e w' => (∃ i : Int, e = .returned (.int .i64 i) ∧ decide (0 ≤ i) = wildL xs) ∧ Below w.heap.size w w' := by
  obtain ⟨n, hn⟩ : ∃ n, xs.length = n := ⟨_, rfl⟩
  have hsz : (str xs).size = n := by rw [Lib.size_eq, str_list, hn]
  have h8z : decide ((8 : Int) < (n : Int)) = false := decide_eq_false (by omega)
  obtain ⟨s, hs⟩ : ∃ s, str xs = s := ⟨_, rfl⟩
  have HD := hide fun i (hi : i < xs.length) => dec_step xs i hi
  rw [hs] at hsz HD ⊢
  have hk0 := World.iter_heap w s 0
  go_enter Tryz.func73, Tryz.ntmps73
  go_wp2_with (go_at_call 95; refine (useSet_any _ _).mono ?_; rintro e w' ⟨rfl, rfl⟩; rw [h8z])
  go_loopg [9, 10] n (fun g _ _ wx => ∃ i : Nat, i ≤ n ∧ n ≤ i + g ∧ wx.heap[w'.heap.size]? = some (.stringIter s i) ∧ noW xs i ∧ Below w'.heap.size w' wx)
  case atStart => exact ⟨0, by omega, by omega, hk0, noW_zero _, (Below.refl _ _).alloc (Nat.le_refl _) _⟩
  case round =>
    obtain ⟨i, hi1, hi2, hk, hno, hB⟩ := hrel
    have HB := hide hB
    have HN := hide hno
    have HK := hide hk
    have hkl := (Array.getElem?_eq_some_iff.1 hk).1
    clear hB hno hk0
    by_cases hi : i = n
    · subst hi
      have hnx := fun ty => Lib.run_next_end_at (P := Tryz.prog) wr w'.heap.size s i ty hk (by omega)
      clear hk
      go_wp2
      go_ret
      refine ⟨⟨-1, rfl, ?_⟩, HB.out⟩
      have := HN.out
      unfold noW at this
      rw [List.take_of_length_le (by omega)] at this
      rw [this]
      rfl
    · cases gk with
      | zero => exfalso; omega
      | succ g =>
        have hlt : i < xs.length := by omega
        have hnx := fun ty => Lib.run_next_any_at (P := Tryz.prog) wr w'.heap.size s i ty hk (by omega)
        clear hk
        rcases HD.out i hlt with ⟨hc, hd⟩ | ⟨hc, r, k, hd, hr, hr2, hv, hk1, hk2, hk3⟩
        · obtain ⟨x, hx⟩ : ∃ x, xs[i]'hlt = x := ⟨_, rfl⟩
          rw [hd] at hnx
          rw [hx] at hnx hc
          have hcon := Lib.contains_iff_indexByte [43, 35] x
          have hback : ((x.toNat : Int)).toNat.toUInt8 = x := by simp
          have HR := hide fun W => indexRune_low (x.toNat : Int) (by omega) (by omega) W
          rw [hback] at HR
          have HX := hide hx
          obtain ⟨V, hV⟩ : ∃ V, wr.iterAt w'.heap.size s (i + 1) = V := ⟨_, rfl⟩
          have hVk := Lib.iterAt_heap wr w'.heap.size s i (i + 1) HK.out
          have hVB := Lib.below_iterAt HB.out (Nat.le_refl _) s (i + 1)
          simp only [hV] at hnx
          rw [hV] at hVk hVB
          have HVk := hide hVk
          have HVB := hide hVB
          clear hd hx hback hc hVk hVB hV HK HB
          obtain ⟨z, hz⟩ : ∃ z, Lib.indexByte [43, 35] x = z := ⟨_, rfl⟩
          rw [hz] at HR hcon
          cases hin : ([43, 35] : List UInt8).contains x
          · rw [hin] at hcon
            have hlt0 : ¬ ((0 : Int) ≤ z) := of_decide_eq_false hcon.symm
            have HI := hide hin
            clear hcon hin hz
            go_wp2_with (go_at_call 94; refine (HR.out _).mono ?_; rintro e w2 ⟨rfl, rfl⟩)
            go_roundg g
            case measure => omega
            case rel => exact ⟨i + 1, by omega, by omega, HVk.out, noW_step HN.out hlt (by rw [HX.out]; exact HI.out), HVB.out⟩
          · rw [hin] at hcon
            have hlt0 : (0 : Int) ≤ z := of_decide_eq_true hcon.symm
            have HI := hide hin
            clear hcon hin hz
            go_wp2_with (go_at_call 94; refine (HR.out _).mono ?_; rintro e w2 ⟨rfl, rfl⟩)
            go_ret
            exact ⟨⟨_, rfl, by rw [noW_hit hlt (by rw [HX.out]; exact HI.out)]; simp⟩, HVB.out⟩
        · rw [hd] at hnx
          have HR := hide fun W => indexRune_hi r hr hv W
          obtain ⟨V, hV⟩ : ∃ V, wr.iterAt w'.heap.size s (i + k) = V := ⟨_, rfl⟩
          have hVk := Lib.iterAt_heap wr w'.heap.size s i (i + k) HK.out
          have hVB := Lib.below_iterAt HB.out (Nat.le_refl _) s (i + k)
          simp only [hV] at hnx
          rw [hV] at hVk hVB
          have HVk := hide hVk
          have HVB := hide hVB
          have hVs : w'.heap.size < V.heap.size := (Array.getElem?_eq_some_iff.1 hVk).1
          have HNN := hide (noW_more HN.out hk2 hk3)
          clear hd hc hVk hVB hV HK HB hv hk3 hr hr2
          go_wp2_with (go_at_call 94; refine (HR.out _).mono ?_; rintro e w2 ⟨rfl, b2⟩)
          go_roundg g
          case measure => omega
          case rel => exact ⟨i + k, by omega, by omega, (b2.block _ hVs).trans HVk.out, HNN.out, HVB.out.trans (b2.mono (by omega))⟩

end Go.Proofs.YtfjafpbmgbnllaaGreat
