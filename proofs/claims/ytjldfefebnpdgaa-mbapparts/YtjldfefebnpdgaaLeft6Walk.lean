/-
  What is proved here: the law MbapLeft returns true for every slice of bytes, and writes nothing that was there. No condition.
-/
import Derived.Test.YtjldfefebnpdgaaMb6
import Derived.Test.YtjldfefebnpdgaaRef6
namespace Go.Proofs.Ytjldfefebnpdgaa
set_option linter.unusedVariables false
set_option linter.unusedSimpArgs false
open Go.RowKit

def bytesL (es : List AduE) : List UInt8 := es.flatMap aduL
theorem cut_all : ∀ (k : Nat) (xs : List UInt8), xs.length ≤ k → (∀ a ∈ (cutAll mbNx xs).1, aduOk a = true) ∧ bytesL (cutAll mbNx xs).1 ++ (cutAll mbNx xs).2.1 = xs := by
  intro k
  induction k using Nat.strongRecOn with
  | ind k ih =>
    intro x hk
    match hn : mbNx x with
    | .wait => rw [cutAll_wait x mbCuts hn]; exact ⟨by simp, rfl⟩
    | .bad => rw [cutAll_bad x mbCuts hn]; exact ⟨by simp, rfl⟩
    | .cut a n =>
      have hp := mbCuts.pos _ _ _ hn
      obtain ⟨h1, h2, h3⟩ := mbNx_back _ _ _ hn
      rw [cutAll_cut x mbCuts a n hn]
      have hl : (x.drop n).length < k := by rw [List.length_drop]; omega
      obtain ⟨i1, i2⟩ := ih (x.drop n).length hl (x.drop n) (Nat.le_refl _)
      refine ⟨?_, ?_⟩
      · intro b hb
        simp only [List.mem_cons] at hb
        rcases hb with rfl | hb
        · exact h1
        · exact i1 b hb
      · show (aduL a ++ bytesL (cutAll mbNx (x.drop n)).1) ++ (cutAll mbNx (x.drop n)).2.1 = x
        rw [List.append_assoc, i2, h2, List.take_append_drop]
theorem toL_ok (xs : List UInt8) : ∀ a ∈ toL xs, aduOk a = true := (cut_all _ xs (Nat.le_refl _)).1
theorem toL_all (xs : List UInt8) (h : brB xs = false) : bytesL (toL xs) ++ lfL xs = xs := by
  unfold lfL
  rw [h]
  exact (cut_all _ xs (Nat.le_refl _)).2
theorem bytesL_few : ∀ es : List AduE, es.length ≤ (bytesL es).length
  | [] => Nat.le_refl _
  | a :: es => by
    show es.length + 1 ≤ (aduL a ++ bytesL es).length
    rw [List.length_append, aduL_length]
    have := bytesL_few es
    omega
theorem bytesL_app (a b : List AduE) : bytesL (a ++ b) = bytesL a ++ bytesL b := List.flatMap_append
/-- A frame among all bytes. -/
theorem left_step (xs : List UInt8) (es : List AduE) (L : List UInt8) (h : bytesL es ++ L = xs) (i : Nat) (a : AduE) (hi : es[i]? = some a) :
    (xs.drop (bytesL (es.take i)).length).take (aduL a).length = aduL a ∧ (bytesL (es.take i)).length + (aduL a).length ≤ xs.length ∧ (bytesL (es.take (i + 1))).length = (bytesL (es.take i)).length + (aduL a).length := by
  have hlt : i < es.length := (List.getElem?_eq_some_iff.1 hi).1
  have hge : es[i] = a := (List.getElem?_eq_some_iff.1 hi).2
  have e1 : es = es.take i ++ (a :: es.drop (i + 1)) := by
    rw [← hge, ← List.drop_eq_getElem_cons hlt, List.take_append_drop]
  have e2 : xs = bytesL (es.take i) ++ (aduL a ++ (bytesL (es.drop (i + 1)) ++ L)) := by
    rw [← h]
    conv => lhs; rw [e1]
    rw [bytesL_app, List.append_assoc]
    show _ ++ ((aduL a ++ bytesL (es.drop (i + 1))) ++ L) = _
    rw [List.append_assoc]
  refine ⟨?_, ?_, ?_⟩
  · conv => lhs; rw [e2]
    rw [List.drop_left, List.take_left]
  · have := congrArg List.length e2
    simp only [List.length_append] at this
    omega
  · rw [List.take_succ_eq_append_getElem hlt, bytesL_app, List.length_append, hge]
    show _ + (aduL a ++ []).length = _
    rw [List.append_nil]

set_option maxHeartbeats 2000000 in
set_option maxRecDepth 100000 in
theorem left6_walk (A : Option Addr) (n k : Nat) (xs : List UInt8) (w : World) (hA : Rd w A n (bv xs)) (hk : n ≤ k) :
    Calls Try.prog 8 #[.slice A n k] w fun e w' => e = .returned (.bool true) ∧ Below w.heap.size w w' := by
  have HA := hide hA
  have HX : Hid (xs.length = n) := by show _ = _; rw [← bv_length]; exact hA.1
  clear hA
  by_cases h1 : 3000 < n
  · have q : (3000 : Int) < (n : Int) := by omega
    go_enter Try.func8, Try.ntmps8
    go_wp2
    go_ret
    exact ⟨rfl, Below.refl _ _⟩
  have q1 : ¬ (3000 : Int) < (n : Int) := by omega
  go_enter Try.func8, Try.ntmps8
  go_wp2_with fail
  refine (mnew_any w).mono ?_
  rintro e w1 ⟨g, rfl, hg, s1, b1⟩
  have S1 := hide s1
  have B1 := hide b1
  clear s1 b1
  go_wp2_with fail
  refine (mfeed_any g none 0 [] false A n k xs w1 S1.out (HA.out.keep B1.out) (by simp; omega)).mono ?_
  rintro e w2 ⟨O, ok, rs, A2, k2, rfl, t2, r2, _, s2, _, b2⟩
  have b3 : Below w.heap.size w w2 := But.below B1.out b2 (fun i e => by omega) B1.out.size
  have B2 := hide b3
  have R2 := hide r2
  have S2 := hide s2
  have RA := hide (HA.out.keep b3)
  clear s2 b2 b3 r2 HA B1 S1
  have e1 : fdE [] false xs = brE xs := rfl
  have e2 : fdL [] false xs = lfL xs := rfl
  have e3 : fdT [] false xs = toL xs := rfl
  rw [e1]
  rw [e2] at S2
  rw [e3] at t2
  clear e1 e2 e3
  cases hb : brB xs with
  | true =>
    have e1 : brE xs = 50 := by unfold brE; rw [hb]; rfl
    have e2 : lfL xs = [] := by unfold lfL; rw [hb]; rfl
    rw [e1]
    rw [e2] at S2
    clear t2 e1 e2 hb
    go_wp2_with (first
      | (go_at_call 11; refine (awake6_any _).mono ?_; rintro e w4 ⟨rfl, b4⟩)
      | (go_at_call 16; refine (mleft_any g A2 k2 [] _ w4 (S2.out.keep b4)).mono ?_; rintro e w5 ⟨rfl, rfl⟩))
    go_ret
    exact ⟨rfl, below_on B2.out b4⟩
  | false =>
    have e1 : brE xs = 0 := by unfold brE; rw [hb]; rfl
    have hall := toL_all xs hb
    have hok := toL_ok xs
    rw [e1]
    rw [← t2] at hall hok
    have HAll := hide hall
    have HOk := hide hok
    have hlenL : (bytesL (rs.map AduM.e)).length + (lfL xs).length = n := by rw [← HX.out, ← List.length_append, hall]
    have hrl : rs.length ≤ 3000 := by
      have := bytesL_few (rs.map AduM.e)
      rw [List.length_map] at this
      omega
    clear t2 e1 hb hall hok
    generalize lfL xs = L at *
    generalize fdB [] false xs = bb at *
    go_wp2_with fail
    go_loopw [6, 7] (fun nv iv_ wr => ∃ i : Nat, i ≤ rs.length ∧ iv_ = .int .i64 (i : Int) ∧ nv = .int .i64 ((bytesL ((rs.map AduM.e).take i)).length : Nat) ∧ Below w2.heap.size w2 wr) (fun _ iv_ _ => rs.length - (intOf iv_).toNat)
    case atStart => exact ⟨0, by omega, rfl, rfl, Below.refl _ _⟩
    case round =>
      obtain ⟨i, hi, rfl, rfl, hbel⟩ := hrel
      have Hb := hide hbel
      by_cases hlt : i < rs.length
      · obtain ⟨b, o, r, rfl, hbl, hr, c0, c1, c2, hir⟩ := (R2.out.keep hbel).at_ hlt
        have hre : (rs.map AduM.e)[i]? = some r.e := by rw [List.getElem?_map, hr]; rfl
        have hok := HOk.out r.e (by rw [List.mem_map]; exact ⟨r, List.mem_of_getElem? hr, rfl⟩)
        obtain ⟨f1, f2, f3⟩ := left_step xs _ L HAll.out i r.e hre
        have hal : (aduL r.e).length = r.pdu.length + 7 := aduL_length r.e
        obtain ⟨h1', h2', h3', h4', h5', h6'⟩ := aduOk_yes hok
        obtain ⟨rt, ru, rA, rk, rp⟩ := r
        simp only [AduM.e, AduM.is] at *
        obtain ⟨tn, rfl⟩ := Int.eq_ofNat_of_zero_le h1'
        obtain ⟨un, rfl⟩ := Int.eq_ofNat_of_zero_le h3'
        have HF := hide (fun (W : World) (h : Rd W rA rp.length (bv rp)) => mframe_ok tn un rA rp.length rk rp rfl (by omega) (by omega) h5' h6' W h)
        have HM := hide (fun (W : World) => rmay_any tn un rA rp.length rk rp rfl W)
        rw [hok] at HM
        obtain ⟨N7, hN7⟩ : ∃ N7, rp.length + 7 = N7 := ⟨_, rfl⟩
        obtain ⟨AL, hAL⟩ : ∃ AL, aduL ⟨tn, un, rp⟩ = AL := ⟨_, rfl⟩
        obtain ⟨P, hP⟩ : ∃ P, (bytesL ((rs.map AduM.e).take i)).length = P := ⟨_, rfl⟩
        rw [hN7, hAL] at HF
        (try simp only [AduM.e] at hP f1 f2 f3)
        rw [hAL] at hal f1 f2 f3
        rw [hP] at f1 f2 f3 ⊢
        rw [hal, hN7] at f1 f2 f3
        have hx := HX.out
        have F3 := hide f3
        have hir' : Rd wr rA rp.length (bv rp) := hir
        have HI := hide hir'
        have rB := ((RA.out.keep hbel).cut P N7 k (by omega) hk)
        rw [bv_cut, f1] at rB
        have RB := hide rB
        have hsl : ∀ W, (Instr.slice 22 (.slice A n k) (some (.int .i64 (P : Int))) (some (.int .i64 ((P : Int) + (N7 : Int)))) none).run Try.prog W = .ok (.slice (cutA A P k) N7 (k - P)) W := by
          intro W
          have := run_sl (P := Try.prog) 22 5 Try.underlying22 u8_size A n k (P : Int) ((P : Int) + (N7 : Int)) P (P + N7) rfl (by omega) (by omega) (by omega) W
          rwa [Nat.add_sub_cancel_left] at this
        have q2 : (i : Int) < (rs.length : Int) := by omega
        have q3 : ¬ (n : Int) < (P : Int) + (N7 : Int) := by omega
        have q3d : decide ((n : Int) < (P : Int) + (N7 : Int)) = false := decide_eq_false q3
        have q4 : IntKind.i64.wrap ((P : Int) + (N7 : Int)) = (P : Int) + (N7 : Int) := by rw [IntKind.wrap_i64]; omega
        have C0 := hide c0
        have C1 := hide c1
        have C2 := hide c2
        have hlr := hlt
        clear hbel hr hre hok hN7 hAL hal f1 f2 f3 hir hir' rB h1' h2' h3' h4' h5' h6' hP hlenL hx
        go_wp2_with fail
        refine (HF.out wr HI.out).mono ?_
        rintro e w3 ⟨F, fk, rfl, o3, b3⟩
        have dF := strOn (own_rd o3)
        have dB := strOn (RB.out.keep b3)
        have B3 := hide b3
        have g0 : ∀ w', Below w3.heap.size w3 w' → w'.cell? ⟨b, o + i * 3, none⟩ = some (.int .i64 (tn : Int)) := fun w' h => ((below_on B3.out h).cell (p := ⟨b, o + i * 3, none⟩) hbl).trans C0.out
        have g1 : ∀ w', Below w3.heap.size w3 w' → w'.cell? ⟨b, o + i * 3 + 1, none⟩ = some (.int .i64 (un : Int)) := fun w' h => ((below_on B3.out h).cell (p := ⟨b, o + i * 3 + 1, none⟩) hbl).trans C1.out
        have g2 : ∀ w', Below w3.heap.size w3 w' → w'.cell? ⟨b, o + i * 3 + 2, none⟩ = some (.slice rA rp.length rk) := fun w' h => ((below_on B3.out h).cell (p := ⟨b, o + i * 3 + 2, none⟩) hbl).trans C2.out
        clear o3 b3
        go_wp2_with fail
        refine wp_region_held_drew (S := fun w' => Below w3.heap.size w3 w') (by kernel_rfl) ?_ (fun hHeld => ?_)
        · exact (Below.refl _ _).drew
        refine wpAnyH_take (i := 0) (oi := { dst := some 48, op := _, type := _, pos := _, after := _, guard := _ }) (v := ?v1x1) rfl (by kernel_rfl) (by kernel_rfl) (by kernel_rfl) (fun _ _ _ h => h) (Or.inl ⟨by rfl, ?hy1x1⟩) hHeld ?rest1x1
        case hy1x1 => (intro w hSw; go_simp <;> with_reducible rfl)
        try simp only [Act.put, List.setIfInBounds_toArray, List.set_cons_zero, List.set_cons_succ]
        refine wpAnyH_take (i := 1) (oi := { dst := some 49, op := _, type := _, pos := _, after := _, guard := _ }) (v := ?v1x2) rfl (by kernel_rfl) (by kernel_rfl) (by kernel_rfl) (fun _ _ _ h => h) (Or.inl ⟨by rfl, ?hy1x2⟩) hHeld ?rest1x2
        case hy1x2 => (intro w hSw; go_simp <;> with_reducible rfl)
        try simp only [Act.put, List.setIfInBounds_toArray, List.set_cons_zero, List.set_cons_succ]
        refine wpAnyH_take (i := 2) (oi := { dst := some 50, op := _, type := _, pos := _, after := _, guard := _ }) (v := ?v1x3) rfl (by kernel_rfl) (by kernel_rfl) (by kernel_rfl) (fun _ _ _ h => h) (Or.inl ⟨by rfl, ?hy1x3⟩) hHeld ?rest1x3
        case hy1x3 => (intro w hSw; go_simp <;> with_reducible rfl)
        try simp only [Act.put, List.setIfInBounds_toArray, List.set_cons_zero, List.set_cons_succ]
        refine wpAnyH_take (i := 3) (oi := { dst := some 51, op := _, type := _, pos := _, after := _, guard := _ }) (v := ?v1x4) rfl (by kernel_rfl) (by kernel_rfl) (by kernel_rfl) (fun _ _ _ h => h) (Or.inl ⟨by rfl, ?hy1x4⟩) hHeld ?rest1x4
        case hy1x4 => (intro w hSw; go_simp <;> with_reducible rfl)
        try simp only [Act.put, List.setIfInBounds_toArray, List.set_cons_zero, List.set_cons_succ]
        refine wpAnyH_take (i := 4) (oi := { dst := some 52, op := _, type := _, pos := _, after := _, guard := _ }) (v := ?v1x5) rfl (by kernel_rfl) (by kernel_rfl) (by kernel_rfl) (fun _ _ _ h => h) (Or.inl ⟨by rfl, ?hy1x5⟩) hHeld ?rest1x5
        case hy1x5 => (intro w hSw; go_simp <;> with_reducible rfl)
        try simp only [Act.put, List.setIfInBounds_toArray, List.set_cons_zero, List.set_cons_succ]
        refine wpAnyH_take (i := 5) (oi := { dst := some 53, op := _, type := _, pos := _, after := _, guard := _ }) (v := ?v1x6) rfl (by kernel_rfl) (by kernel_rfl) (by kernel_rfl) (fun _ _ _ h => h) (Or.inl ⟨by rfl, ?hy1x6⟩) hHeld ?rest1x6
        case hy1x6 => (intro w hSw; go_simp <;> with_reducible rfl)
        try simp only [Act.put, List.setIfInBounds_toArray, List.set_cons_zero, List.set_cons_succ]
        refine wpAnyH_take (i := 6) (oi := { dst := some 54, op := _, type := _, pos := _, after := _, guard := _ }) (v := ?v1x7) rfl (by kernel_rfl) (by kernel_rfl) (by kernel_rfl) (fun _ _ _ h => h) (Or.inl ⟨by rfl, ?hy1x7⟩) hHeld ?rest1x7
        case hy1x7 => (intro w hSw; go_simp <;> with_reducible rfl)
        try simp only [Act.put, List.setIfInBounds_toArray, List.set_cons_zero, List.set_cons_succ]
        refine wpAnyH_ready (rs := [7]) (by kernel_rfl) (by simp) (AllReadyH.cons (o := { dst := some 55, op := _, type := _, pos := _, after := _, guard := _ }) rfl (fun K hK => ?_) AllReadyH.nil)
        go_simp
        refine (HM.out _).mono ?_
        rintro e w6 ⟨rfl, b6⟩
        have s6 := below_on hHeld b6
        go_wp2_with fail
        refine hK.out _ _ ?_ (fun hHeld => ?_)
        · exact s6
        clear hK K
        try simp only [Act.put, List.setIfInBounds_toArray, List.set_cons_zero, List.set_cons_succ]
        refine wpAnyH_take (i := 8) (oi := { dst := some 56, op := _, type := _, pos := _, after := _, guard := _ }) (v := ?v1x9) rfl (by kernel_rfl) (by kernel_rfl) (by kernel_rfl) (fun _ _ _ h => h) (Or.inl ⟨by rfl, ?hy1x9⟩) hHeld ?rest1x9
        case hy1x9 => (intro w hSw; go_simp <;> with_reducible rfl)
        try simp only [Act.put, List.setIfInBounds_toArray, List.set_cons_zero, List.set_cons_succ]
        refine wpAnyH_take (i := 9) (oi := { dst := some 57, op := _, type := _, pos := _, after := _, guard := _ }) (v := ?v1x10) rfl (by kernel_rfl) (by kernel_rfl) (by kernel_rfl) (fun _ _ _ h => h) (Or.inl ⟨by rfl, ?hy1x10⟩) hHeld ?rest1x10
        case hy1x10 => (intro w hSw; go_simp <;> with_reducible rfl)
        try simp only [Act.put, List.setIfInBounds_toArray, List.set_cons_zero, List.set_cons_succ]
        refine wpAnyH_take (i := 10) (oi := { dst := some 58, op := _, type := _, pos := _, after := _, guard := _ }) (v := ?v1x11) rfl (by kernel_rfl) (by kernel_rfl) (by kernel_rfl) (fun _ _ _ h => h) (Or.inl ⟨by rfl, ?hy1x11⟩) hHeld ?rest1x11
        case hy1x11 => (intro w hSw; go_simp <;> with_reducible rfl)
        try simp only [Act.put, List.setIfInBounds_toArray, List.set_cons_zero, List.set_cons_succ]
        refine wpAnyH_take (i := 11) (oi := { dst := some 59, op := _, type := _, pos := _, after := _, guard := _ }) (v := ?v1x12) rfl (by kernel_rfl) (by kernel_rfl) (by kernel_rfl) (fun _ _ _ h => h) (Or.inl ⟨by rfl, ?hy1x12⟩) hHeld ?rest1x12
        case hy1x12 => (intro w hSw; go_simp <;> with_reducible rfl)
        try simp only [Act.put, List.setIfInBounds_toArray, List.set_cons_zero, List.set_cons_succ]
        refine wpAnyH_take (i := 12) (oi := { dst := some 60, op := _, type := _, pos := _, after := _, guard := _ }) (v := ?v1x13) rfl (by kernel_rfl) (by kernel_rfl) (by kernel_rfl) (fun _ _ _ h => h) (Or.inl ⟨by rfl, ?hy1x13⟩) hHeld ?rest1x13
        case hy1x13 => (intro w hSw; go_simp <;> with_reducible rfl)
        try simp only [Act.put, List.setIfInBounds_toArray, List.set_cons_zero, List.set_cons_succ]
        refine wpAnyH_take (i := 13) (oi := { dst := some 61, op := _, type := _, pos := _, after := _, guard := _ }) (v := ?v1x14) rfl (by kernel_rfl) (by kernel_rfl) (by kernel_rfl) (fun _ _ _ h => h) (Or.inl ⟨by rfl, ?hy1x14⟩) hHeld ?rest1x14
        case hy1x14 => (intro w hSw; go_simp <;> with_reducible rfl)
        try simp only [Act.put, List.setIfInBounds_toArray, List.set_cons_zero, List.set_cons_succ]
        refine wpAnyH_take (i := 14) (oi := { dst := some 62, op := _, type := _, pos := _, after := _, guard := _ }) (v := ?v1x15) rfl (by kernel_rfl) (by kernel_rfl) (by kernel_rfl) (fun _ _ _ h => h) (Or.inl ⟨by rfl, ?hy1x15⟩) hHeld ?rest1x15
        case hy1x15 => (intro w hSw; go_simp <;> with_reducible rfl)
        try simp only [Act.put, List.setIfInBounds_toArray, List.set_cons_zero, List.set_cons_succ]
        refine wpAnyH_take (i := 15) (oi := { dst := some 63, op := _, type := _, pos := _, after := _, guard := _ }) (v := ?v1x16) rfl (by kernel_rfl) (by kernel_rfl) (by kernel_rfl) (fun _ _ _ h => h) (Or.inl ⟨by rfl, ?hy1x16⟩) hHeld ?rest1x16
        case hy1x16 => (intro w hSw; go_simp <;> with_reducible rfl)
        try simp only [Act.put, List.setIfInBounds_toArray, List.set_cons_zero, List.set_cons_succ]
        refine wpAnyH_take (i := 16) (oi := { dst := some 64, op := _, type := _, pos := _, after := _, guard := _ }) (v := ?v1x17) rfl (by kernel_rfl) (by kernel_rfl) (by kernel_rfl) (fun _ _ _ h => h) (Or.inl ⟨by rfl, ?hy1x17⟩) hHeld ?rest1x17
        case hy1x17 => (intro w hSw; go_simp <;> with_reducible rfl)
        try simp only [Act.put, List.setIfInBounds_toArray, List.set_cons_zero, List.set_cons_succ]
        refine wpAnyH_take (i := 17) (oi := { dst := some 65, op := _, type := _, pos := _, after := _, guard := _ }) (v := ?v1x18) rfl (by kernel_rfl) (by kernel_rfl) (by kernel_rfl) (fun _ _ _ h => h) (Or.inl ⟨by rfl, ?hy1x18⟩) hHeld ?rest1x18
        case hy1x18 => (intro w hSw; go_simp <;> with_reducible rfl)
        try simp only [Act.put, List.setIfInBounds_toArray, List.set_cons_zero, List.set_cons_succ]
        refine wpAnyH_take (i := 18) (oi := { dst := some 66, op := _, type := _, pos := _, after := _, guard := _ }) (v := ?v1x19) rfl (by kernel_rfl) (by kernel_rfl) (by kernel_rfl) (fun _ _ _ h => h) (Or.inl ⟨by rfl, ?hy1x19⟩) hHeld ?rest1x19
        case hy1x19 => (intro w hSw; go_simp <;> with_reducible rfl)
        try simp only [Act.put, List.setIfInBounds_toArray, List.set_cons_zero, List.set_cons_succ]
        refine wpAnyH_take (i := 19) (oi := { dst := some 67, op := _, type := _, pos := _, after := _, guard := _ }) (v := ?v1x20) rfl (by kernel_rfl) (by kernel_rfl) (by kernel_rfl) (fun _ _ _ h => h) (Or.inl ⟨by rfl, ?hy1x20⟩) hHeld ?rest1x20
        case hy1x20 => (intro w hSw; go_simp <;> with_reducible rfl)
        try simp only [Act.put, List.setIfInBounds_toArray, List.set_cons_zero, List.set_cons_succ]
        refine wpAnyH_take (i := 20) (oi := { dst := some 68, op := _, type := _, pos := _, after := _, guard := _ }) (v := ?v1x21) rfl (by kernel_rfl) (by kernel_rfl) (by kernel_rfl) (fun _ _ _ h => h) (Or.inl ⟨by rfl, ?hy1x21⟩) hHeld ?rest1x21
        case hy1x21 => (intro w hSw; go_simp <;> with_reducible rfl)
        try simp only [Act.put, List.setIfInBounds_toArray, List.set_cons_zero, List.set_cons_succ]
        refine wpAnyH_take (i := 21) (oi := { dst := some 69, op := _, type := _, pos := _, after := _, guard := _ }) (v := ?v1x22) rfl (by kernel_rfl) (by kernel_rfl) (by kernel_rfl) (fun _ _ _ h => h) (Or.inl ⟨by rfl, ?hy1x22⟩) hHeld ?rest1x22
        case hy1x22 => (intro w hSw; go_simp <;> with_reducible rfl)
        try simp only [Act.put, List.setIfInBounds_toArray, List.set_cons_zero, List.set_cons_succ]
        refine wpAnyH_take (i := 22) (oi := { dst := some 70, op := _, type := _, pos := _, after := _, guard := _ }) (v := ?v1x23) rfl (by kernel_rfl) (by kernel_rfl) (by kernel_rfl) (fun _ _ _ h => h) (Or.inl ⟨by rfl, ?hy1x23⟩) hHeld ?rest1x23
        case hy1x23 => (intro w hSw; go_simp <;> with_reducible rfl)
        try simp only [Act.put, List.setIfInBounds_toArray, List.set_cons_zero, List.set_cons_succ]
        refine wpAnyH_take (i := 23) (oi := { dst := some 71, op := _, type := _, pos := _, after := _, guard := _ }) (v := ?v1x24) rfl (by kernel_rfl) (by kernel_rfl) (by kernel_rfl) (fun _ _ _ h => h) (Or.inl ⟨by rfl, ?hy1x24⟩) hHeld ?rest1x24
        case hy1x24 => (intro w hSw; go_simp <;> with_reducible rfl)
        try simp only [Act.put, List.setIfInBounds_toArray, List.set_cons_zero, List.set_cons_succ]
        refine wpAnyH_take (i := 24) (oi := { dst := some 72, op := _, type := _, pos := _, after := _, guard := _ }) (v := ?v1x25) rfl (by kernel_rfl) (by kernel_rfl) (by kernel_rfl) (fun _ _ _ h => h) (Or.inl ⟨by rfl, ?hy1x25⟩) hHeld ?rest1x25
        case hy1x25 => (intro w hSw; go_simp <;> with_reducible rfl)
        try simp only [Act.put, List.setIfInBounds_toArray, List.set_cons_zero, List.set_cons_succ]
        refine wpAnyH_take (i := 25) (oi := { dst := some 73, op := _, type := _, pos := _, after := _, guard := _ }) (v := ?v1x26) rfl (by kernel_rfl) (by kernel_rfl) (by kernel_rfl) (fun _ _ _ h => h) (Or.inl ⟨by rfl, ?hy1x26⟩) hHeld ?rest1x26
        case hy1x26 => (intro w hSw; go_simp <;> with_reducible rfl)
        try simp only [Act.put, List.setIfInBounds_toArray, List.set_cons_zero, List.set_cons_succ]
        refine wpAnyH_take (i := 26) (oi := { dst := some 74, op := _, type := _, pos := _, after := _, guard := _ }) (v := ?v1x27) rfl (by kernel_rfl) (by kernel_rfl) (by kernel_rfl) (fun _ _ _ h => h) (Or.inl ⟨by rfl, ?hy1x27⟩) hHeld ?rest1x27
        case hy1x27 => (intro w hSw; go_simp <;> with_reducible rfl)
        try simp only [Act.put, List.setIfInBounds_toArray, List.set_cons_zero, List.set_cons_succ]
        refine wpAnyH_take (i := 27) (oi := { dst := some 75, op := _, type := _, pos := _, after := _, guard := _ }) (v := ?v1x28) rfl (by kernel_rfl) (by kernel_rfl) (by kernel_rfl) (fun _ _ _ h => h) (Or.inl ⟨by rfl, ?hy1x28⟩) hHeld ?rest1x28
        case hy1x28 => (intro w hSw; go_simp <;> with_reducible rfl)
        try simp only [Act.put, List.setIfInBounds_toArray, List.set_cons_zero, List.set_cons_succ]
        refine wpAnyH_take (i := 28) (oi := { dst := some 76, op := _, type := _, pos := _, after := _, guard := _ }) (v := ?v1x29) rfl (by kernel_rfl) (by kernel_rfl) (by kernel_rfl) (fun _ _ _ h => h) (Or.inl ⟨by rfl, ?hy1x29⟩) hHeld ?rest1x29
        case hy1x29 => (intro w hSw; go_simp <;> with_reducible rfl)
        try simp only [Act.put, List.setIfInBounds_toArray, List.set_cons_zero, List.set_cons_succ]
        refine wpAnyH_take (i := 29) (oi := { dst := some 77, op := _, type := _, pos := _, after := _, guard := _ }) (v := ?v1x30) rfl (by kernel_rfl) (by kernel_rfl) (by kernel_rfl) (fun _ _ _ h => h) (Or.inl ⟨by rfl, ?hy1x30⟩) hHeld ?rest1x30
        case hy1x30 => (intro w hSw; go_simp <;> with_reducible rfl)
        try simp only [Act.put, List.setIfInBounds_toArray, List.set_cons_zero, List.set_cons_succ]
        refine wpAnyH_take (i := 30) (oi := { dst := some 78, op := _, type := _, pos := _, after := _, guard := _ }) (v := ?v1x31) rfl (by kernel_rfl) (by kernel_rfl) (by kernel_rfl) (fun _ _ _ h => h) (Or.inl ⟨by rfl, ?hy1x31⟩) hHeld ?rest1x31
        case hy1x31 => (intro w hSw; go_simp <;> with_reducible rfl)
        try simp only [Act.put, List.setIfInBounds_toArray, List.set_cons_zero, List.set_cons_succ]
        refine wpAnyH_take (i := 31) (oi := { dst := some 79, op := _, type := _, pos := _, after := _, guard := _ }) (v := ?v1x32) rfl (by kernel_rfl) (by kernel_rfl) (by kernel_rfl) (fun _ _ _ h => h) (Or.inl ⟨by rfl, ?hy1x32⟩) hHeld ?rest1x32
        case hy1x32 => (intro w hSw; go_simp <;> with_reducible rfl)
        try simp only [Act.put, List.setIfInBounds_toArray, List.set_cons_zero, List.set_cons_succ]
        refine wpAnyH_done (by kernel_rfl) ?_ _
        go_wp2_with fail
        exact ⟨⟨i + 1, by omega, by go_num, by rw [F3.out]; go_num, below_on Hb.out (below_on B3.out s6)⟩, by simp [intOf]; omega⟩
      · obtain rfl : i = rs.length := by omega
        have hz : (bytesL ((rs.map AduM.e).take rs.length)).length + L.length = n := by rw [List.take_of_length_le (by simp)]; exact hlenL
        generalize (bytesL ((rs.map AduM.e).take rs.length)).length = P at *
        have q2 : ¬ (rs.length : Int) < (rs.length : Int) := by omega
        have q3 : IntKind.i64.wrap ((P : Int) + (L.length : Int)) = (n : Int) := by rw [IntKind.wrap_i64]; omega
        clear hbel hlenL hz
        go_wp2_with (first
          | (go_at_call 11; refine (awake6_any _).mono ?_; rintro e w4 ⟨rfl, b4⟩; have B4 := hide (below_on Hb.out b4); clear b4)
          | (go_at_call 16; refine (mleft_any g A2 k2 L _ w4 (S2.out.keep B4.out)).mono ?_; rintro e w5 ⟨rfl, rfl⟩))
        go_ret
        exact ⟨rfl, below_on B2.out B4.out⟩

end Go.Proofs.Ytjldfefebnpdgaa
