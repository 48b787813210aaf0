/-
  What is proved here: what slave's write does. Conditions: words; spans that are there.
-/
import Derived.Test.YtohiblldhdglgaaSlave3
namespace Go.Proofs.Ytohiblldhdglgaa
set_option linter.unusedVariables false
set_option linter.unusedSimpArgs false
open Go.RowKit


theorem sWrite_copy (lo hi g : Nat) (b : Nat → Nat) (R : Nat → List Int) (k : Nat) (hk : k < 4) (kind addr count : Int) (at_ cnt : Nat) (f a c t an o : Int) (A : Option Addr) (n nk : Nat) (vs : List Int) (w : World) (h : SlA 58 lo hi w g b R) (hv : Rd w A n (iv vs))
    (hkind : kind = (k : Int) + 1) (ha : addr = (at_ : Int)) (hc : count = (cnt : Int)) (hcn : cnt = n) (hR : (R k).length ≤ 65536) (hf : at_ + n ≤ (R k).length) (hne : (f == 22) = false) :
    Calls Try.prog 27 #[.pointer (some ⟨g, 0, none⟩), .agg #[.int .i64 kind, .int .i64 addr, .int .i64 count], .agg #[.int .i64 f, .int .i64 a, .int .i64 c, .slice A n nk, .int .i64 t, .int .i64 an, .int .i64 o]] w fun e w' =>
      e = .returned (.tuple #[]) ∧ SlA 58 lo hi w' g b (upd R k (over (R k) at_ vs)) ∧ Oth lo hi w w' := by
  subst hkind ha hc hcn
  have hl : vs.length = cnt := by rw [← iv_length]; exact hv.1
  have hrow := rowL_kind R k hk
  have HP := hide (fun W (h : SlA 58 lo hi W g b R) => sPiece_any lo hi g b R ((k : Int) + 1) (at_ : Int) (cnt : Int) at_ cnt W h rfl rfl (by rw [hrow]; exact hR) (by rw [hrow]; exact hf))
  rw [hrow, rowA_kind b k hk] at HP
  have H1 := hide h
  have HV := hide hv
  have HL := hide hl
  have HF := hide hf
  clear h hv hrow hl hf
  go_enter Try.func27, Try.ntmps27
  go_wp2_with fail
  generalize hV : (w.alloc (.cells #[.int .i64 ((k : Int) + 1), .int .i64 (at_ : Int), .int .i64 (cnt : Int)] 62)).alloc (.cells #[.int .i64 f, .int .i64 a, .int .i64 c, .slice A cnt nk, .int .i64 t, .int .i64 an, .int .i64 o] 34) = V
  obtain ⟨hB1, hB2, hBel, hsz⟩ := two_boxes w [.int .i64 ((k : Int) + 1), .int .i64 (at_ : Int), .int .i64 (cnt : Int)] [.int .i64 f, .int .i64 a, .int .i64 c, .slice A cnt nk, .int .i64 t, .int .i64 an, .int .i64 o] 62 34 V hV.symm
  clear hV
  refine (HP.out _ (H1.out.keep hBel)).mono ?_
  rintro e w1 ⟨rfl, b2⟩
  have B2 := hide (below_on hBel b2)
  have S2 := hide (H1.out.keep B2.out)
  have K2 := hide (hB2.keep b2)
  clear hB1 hB2 hBel b2 hsz
  obtain ⟨k0, k1, k2, k3, k4, k5, k6⟩ := K2.out.seven
  obtain ⟨W, hrun, kW, oW⟩ := run_cpB (P := Try.prog) 32 32 3 3 Try.underlying32 int_size w1 (b k) at_ (R k).length ((R k).length - at_) A cnt nk (iv vs) _ (S2.out.row k hk) (HV.out.keep B2.out) (iv_one _) HF.out (by rw [iv_length])
  rw [iv_over _ _ _ _ HL.out] at kW
  have KW := hide kW
  have OW := hide oW
  clear kW oW
  go_wp2
  go_end0
  exact ⟨rfl, S2.out.set k hk _ (over_length _ _ _ (by rw [HL.out]; exact HF.out)) OW.out KW.out, Oth.after B2.out (S2.out.wide k hk OW.out)⟩

theorem sWrite_none (lo hi g : Nat) (b : Nat → Nat) (R : Nat → List Int) (f a c t an o : Int) (A : Option Addr) (n nk : Nat) (hn : n = 0) (w : World) (h : SlA 58 lo hi w g b R) (hne : (f == 22) = false) :
    Calls Try.prog 27 #[.pointer (some ⟨g, 0, none⟩), .agg #[.int .i64 0, .int .i64 0, .int .i64 0], .agg #[.int .i64 f, .int .i64 a, .int .i64 c, .slice A n nk, .int .i64 t, .int .i64 an, .int .i64 o]] w fun e w' =>
      e = .returned (.tuple #[]) ∧ Below w.heap.size w w' := by
  subst hn
  have HP := hide (fun W (h : SlA 58 lo hi W g b R) => sPiece_any lo hi g b R 0 0 0 0 0 W h rfl rfl (by rw [rowL_no R 0 (by omega)]; simp) (by omega))
  rw [rowL_no R 0 (by omega), rowA_no b 0 (by omega)] at HP
  have e0 : cutA none 0 ([] : List Int).length = none := by simp [cutA]
  rw [e0] at HP
  have H1 := hide h
  clear h e0
  have n : Nat := 0
  have hrun := fun (w : World) => run_cp0 (P := Try.prog) 32 32 3 3 Try.underlying32 int_size w 0 A nk
  go_enter Try.func27, Try.ntmps27
  go_wp2_with fail
  generalize hV : (w.alloc (.cells #[.int .i64 0, .int .i64 0, .int .i64 0] 62)).alloc (.cells #[.int .i64 f, .int .i64 a, .int .i64 c, .slice A 0 nk, .int .i64 t, .int .i64 an, .int .i64 o] 34) = V
  obtain ⟨hB1, hB2, hBel, hsz⟩ := two_boxes w [.int .i64 0, .int .i64 0, .int .i64 0] [.int .i64 f, .int .i64 a, .int .i64 c, .slice A 0 nk, .int .i64 t, .int .i64 an, .int .i64 o] 62 34 V hV.symm
  clear hV
  refine (HP.out _ (H1.out.keep hBel)).mono ?_
  rintro e w1 ⟨rfl, b2⟩
  have B2 := hide (below_on hBel b2)
  have K2 := hide (hB2.keep b2)
  clear hB1 hB2 hBel b2 hsz
  obtain ⟨k0, k1, k2, k3, k4, k5, k6⟩ := K2.out.seven
  go_wp2
  go_end0
  exact ⟨rfl, B2.out⟩

theorem sWrite_mask (lo hi g : Nat) (b : Nat → Nat) (R : Nat → List Int) (addr : Int) (at_ x an o : Nat) (a c t : Int) (A : Option Addr) (n nk : Nat) (w : World) (h : SlA 58 lo hi w g b R)
    (ha : addr = (at_ : Int)) (hR : (R 2).length ≤ 65536) (hf : at_ + 1 ≤ (R 2).length) (hx : (R 2)[at_]? = some (x : Int)) (hx2 : x ≤ 65535) (han : an ≤ 65535) (ho : o ≤ 65535) :
    Calls Try.prog 27 #[.pointer (some ⟨g, 0, none⟩), .agg #[.int .i64 3, .int .i64 addr, .int .i64 1], .agg #[.int .i64 22, .int .i64 a, .int .i64 c, .slice A n nk, .int .i64 t, .int .i64 an, .int .i64 o]] w fun e w' =>
      e = .returned (.tuple #[]) ∧ SlA 58 lo hi w' g b (upd R 2 (over (R 2) at_ [maskI x an o])) ∧ Oth lo hi w w' := by
  subst ha
  have hrow := rowL_kind R 2 (by omega)
  have HP := hide (fun W (h : SlA 58 lo hi W g b R) => sPiece_any lo hi g b R 3 (at_ : Int) 1 at_ 1 W h rfl rfl (by have := hrow; simp at this; rw [this]; exact hR) (by have := hrow; simp at this; rw [this]; exact hf))
  rw [show rowL R 3 = R 2 from hrow, show rowA b 3 = some ⟨b 2, 0, none⟩ from rowA_kind b 2 (by omega)] at HP
  have e0 : cutA (some (⟨b 2, 0, none⟩ : Addr)) at_ (R 2).length = some ⟨b 2, at_, none⟩ := by
    unfold cutA
    rw [if_neg (by omega), Option.map_some, add_at, Nat.zero_add]
  rw [e0] at HP
  have H1 := hide h
  have HF := hide hf
  have HX := hide hx
  have HM := hide (fun W => masked_any x an o hx2 han ho W)
  clear h hrow hf e0 hx
  generalize maskI x an o = y at *
  go_enter Try.func27, Try.ntmps27
  go_wp2_with fail
  generalize hV : (w.alloc (.cells #[.int .i64 3, .int .i64 (at_ : Int), .int .i64 1] 62)).alloc (.cells #[.int .i64 22, .int .i64 a, .int .i64 c, .slice A n nk, .int .i64 t, .int .i64 an, .int .i64 o] 34) = V
  obtain ⟨hB1, hB2, hBel, hsz⟩ := two_boxes w [.int .i64 3, .int .i64 (at_ : Int), .int .i64 1] [.int .i64 22, .int .i64 a, .int .i64 c, .slice A n nk, .int .i64 t, .int .i64 an, .int .i64 o] 62 34 V hV.symm
  clear hV
  refine (HP.out _ (H1.out.keep hBel)).mono ?_
  rintro e w1 ⟨rfl, b2⟩
  have B2 := hide (below_on hBel b2)
  have S2 := hide (H1.out.keep B2.out)
  have K2 := hide (hB2.keep b2)
  clear hB1 hB2 hBel b2 hsz
  obtain ⟨k0, k1, k2, k3, k4, k5, k6⟩ := K2.out.seven
  have cx : w1.cell? ⟨b 2, at_, none⟩ = some (.int .i64 (x : Int)) := by
    rw [(S2.out.row 2 (by omega)).cell, iv, List.getElem?_map, HX.out]
    rfl
  have cf : w1.frozen? ⟨b 2, at_, none⟩ = false := (S2.out.row 2 (by omega)).frozen at_
  go_wp2_with fail
  refine wp_region_still_tail 10 (by kernel_rfl) (by kernel_rfl) ?_
  simp only [List.take_succ_cons, List.take_zero, List.drop_succ_cons, List.drop_zero]
  repeat still_step
  still_call ((HM.out _).mono (fun e w' h => ⟨h.1, h.2.symm⟩))
  repeat still_step
  refine wpStill_nil ?_
  change wpList _ _ _ _ _ w1.drew
  have b3 : Below w1.heap.size w1 w1.drew := (Below.refl _ _).drew
  have B3 := hide (below_on B2.out b3)
  have S3 := hide (S2.out.keep b3)
  generalize w1.drew = U at *
  clear b3 cx cf k0 k1 k2 k3 k4 k5 k6
  have cx : U.cell? ⟨b 2, at_, none⟩ = some (.int .i64 (x : Int)) := by
    rw [(S3.out.row 2 (by omega)).cell, iv, List.getElem?_map, HX.out]
    rfl
  have cf : U.frozen? ⟨b 2, at_, none⟩ = false := (S3.out.row 2 (by omega)).frozen at_
  go_wp2
  try simp only [Exit.inBlock, Exit.then]
  refine bodyPost_ret (results_none rfl _ _ _) rfl ?_
  have o1 : Oth (b 2) (b 2 + 1) U (U.setCell ⟨b 2, at_, none⟩ (.int .i64 y)) := Oth.setCell U _
  have k9 := (S3.out.row 2 (by omega)).set at_ (.int .i64 y)
  have e9 : (iv (R 2)).set at_ (.int .i64 y) = iv (over (R 2) at_ [y]) := by
    have hlt : at_ < (R 2).length := HF.out
    rw [← iv_over _ _ _ 1 rfl]
    rw [List.set_eq_take_append_cons_drop, if_pos (by rw [iv_length]; exact hlt)]
    simp [iv]
  rw [e9] at k9
  exact ⟨rfl, S3.out.set 2 (by omega) _ (over_length _ _ _ HF.out) o1 k9, Oth.after B3.out (S3.out.wide 2 (by omega) o1)⟩

end Go.Proofs.Ytohiblldhdglgaa
