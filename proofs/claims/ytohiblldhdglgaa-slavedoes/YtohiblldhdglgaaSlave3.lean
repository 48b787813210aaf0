/-
  What is proved here: what slave's read, readBy, writtenBy and write do. Conditions: words; spans that are there.
-/
import Derived.Test.YtohiblldhdglgaaSlave2
import Derived.StillTailTactics
namespace Go.Proofs.Ytohiblldhdglgaa
set_option linter.unusedVariables false
set_option linter.unusedSimpArgs false
open Go.RowKit

/-- copy(x[at_:at_+n], y), x a whole block, y n long. -/
theorem run_cpB {P : Program} (dT sT ty e : TypeId) (hu : P.underlying dT = some (.slice e)) (hs : (P.info? e).map (·.size) = some 1) (w : World) (g at_ N dc : Nat) (A : Option Addr) (n c : Nat) (vs cur : List Value) (h : Blk w g e cur) (hr : Rd w A n vs)
    (h1 : ∀ v ∈ vs, v.oneCell' = true) (hN : at_ + n ≤ N) (hc : N = cur.length) :
    ∃ W, (Builtin.copy_ #[dT, sT] ty #[.slice (cutA (some ⟨g, 0, none⟩) at_ N) n dc, .slice A n c]).run P w = .ok (.int .i64 (n : Int)) W ∧ Blk W g e (cur.take at_ ++ vs ++ cur.drop (at_ + n)) ∧ Oth g (g + 1) w W := by
  obtain ⟨i, hi, hsz⟩ := Option.map_eq_some_iff.1 hs
  have hz : n = 0 → (Builtin.copy_ #[dT, sT] ty #[.slice (cutA (some ⟨g, 0, none⟩) at_ N) n dc, .slice A n c]).run P w = .ok (.int .i64 (n : Int)) w := by
    intro h0
    subst h0
    have hcut : ∃ x, cutA (some (⟨g, 0, none⟩ : Addr)) at_ N = some x := by
      unfold cutA
      split
      · exact ⟨_, rfl⟩
      · exact ⟨_, rfl⟩
    obtain ⟨x, hx⟩ := hcut
    rw [hx]
    rcases A with _ | ad
    · simp [Builtin.copy_, run_underlying hu, sizeOf, typeInfo, hi, Builtin.lenOf, Builtin.firstCells, storeCells, goInt]
    · have := run_loadCells_list (P := P) w ad [] (by simp)
      simp at this
      simp [Builtin.copy_, run_underlying hu, sizeOf, typeInfo, hi, Builtin.lenOf, Builtin.firstCells, storeCells, goInt, this]
  rcases Nat.eq_zero_or_pos n with h0 | h0
  · refine ⟨w, hz h0, ?_, Oth.refl _ _ _⟩
    subst h0
    have : vs = [] := List.eq_nil_of_length_eq_zero hr.1
    subst this
    simpa using h
  · obtain ⟨b, o, rfl, hb, hcell⟩ := hr.2 h0
    have hrun := run_copy_row (P := P) w dT sT ty e g at_ n dc ⟨b, o, none⟩ n c (arr cur) e vs hu hs h (by rw [hr.1]; simp) hr.adds (by rw [hr.1, arr_size]; omega) h1
    rw [hr.1, arr_toList] at hrun
    unfold cutA
    rw [if_neg (by omega), Option.map_some, add_at, Nat.zero_add]
    refine ⟨_, hrun, ?_, Oth.setRow _ _ _⟩
    exact h.setRow _

/-- copy(nil, nothing). -/
theorem run_cp0 {P : Program} (dT sT ty e : TypeId) (hu : P.underlying dT = some (.slice e)) (hs : (P.info? e).map (·.size) = some 1) (w : World) (dc : Nat) (A : Option Addr) (c : Nat) :
    (Builtin.copy_ #[dT, sT] ty #[.slice none 0 dc, .slice A 0 c]).run P w = .ok (.int .i64 0) w := by
  obtain ⟨i, hi, hsz⟩ := Option.map_eq_some_iff.1 hs
  rcases A with _ | ad
  · simp [Builtin.copy_, run_underlying hu, sizeOf, typeInfo, hi, Builtin.lenOf, Builtin.firstCells, goInt]
  · have := run_loadCells_list (P := P) w ad [] (by simp)
    simp at this
    simp [Builtin.copy_, run_underlying hu, sizeOf, typeInfo, hi, Builtin.lenOf, Builtin.firstCells, goInt, this]

theorem iv_over (l : List Int) (at_ : Nat) (vs : List Int) (n : Nat) (hn : vs.length = n) : (iv l).take at_ ++ iv vs ++ (iv l).drop (at_ + n) = iv (over l at_ vs) := by
  subst hn
  simp [iv, over, List.map_take, List.map_drop]

/-- read: what a span has, as new memory. -/
theorem sRead_any (lo hi g : Nat) (b : Nat → Nat) (R : Nat → List Int) (kind addr count : Int) (at_ cnt : Nat) (w : World) (h : SlA 58 lo hi w g b R) (ha : addr = (at_ : Int)) (hc : count = (cnt : Int)) (hR : (rowL R kind).length ≤ 65536) (hf : at_ + cnt ≤ (rowL R kind).length) :
    Calls Try.prog 28 #[.pointer (some ⟨g, 0, none⟩), .agg #[.int .i64 kind, .int .i64 addr, .int .i64 count]] w fun e w' => ∃ C k, e = .returned (.slice C cnt k) ∧ cnt ≤ k ∧ Rd w' C cnt (iv (((rowL R kind).drop at_).take cnt)) ∧ Below w.heap.size w w' ∧ NewA w C := by
  subst ha hc
  have HP := hide (fun W (h : SlA 58 lo hi W g b R) => sPiece_any lo hi g b R kind (at_ : Int) (cnt : Int) at_ cnt W h rfl rfl hR hf)
  have hmk := fun W => run_mk (P := Try.prog) 32 3 (.int .i64 0) 8 Try.underlying32 int_info rfl cnt (by omega) (by omega) W
  have H1 := hide h
  have HRd := hide (fun W (h : SlA 58 lo hi W g b R) => (h.rd kind).cut at_ cnt (rowL R kind).length hf (Nat.le_refl _))
  rw [iv_cut] at HRd
  have hlen : (((rowL R kind).drop at_).take cnt).length = cnt := by simp; omega
  have HL := hide hlen
  clear h hlen
  generalize ((rowL R kind).drop at_).take cnt = X at *
  generalize (rowL R kind).length = L at *
  generalize cutA (rowA b kind) at_ L = A at *
  go_enter Try.func28, Try.ntmps28
  have b0 : Below w.heap.size w (w.alloc (.cells #[.int .i64 kind, .int .i64 (at_ : Int), .int .i64 (cnt : Int)] 62)) := (Below.refl _ _).alloc (Nat.le_refl _) _
  have b1 : Below w.heap.size w ((w.alloc (.cells #[.int .i64 kind, .int .i64 (at_ : Int), .int .i64 (cnt : Int)] 62)).alloc (.cells (arr (List.replicate cnt (.int .i64 0))) 3)) := b0.alloc (by simp) _
  have K1 := hide (Blk.new (w.alloc (.cells #[.int .i64 kind, .int .i64 (at_ : Int), .int .i64 (cnt : Int)] 62)) 3 (List.replicate cnt (.int .i64 0)))
  have B1 := hide b1
  clear b0 b1
  go_wp2_with fail
  generalize hV : (w.alloc _).alloc _ = V at *
  have eV : w.heap.size + 1 < V.heap.size := by subst hV; simp
  simp only [show (w.alloc (.cells #[.int .i64 kind, .int .i64 (at_ : Int), .int .i64 (cnt : Int)] 62)).heap.size = w.heap.size + 1 by simp] at K1
  clear hV
  refine (HP.out _ (H1.out.keep B1.out)).mono ?_
  rintro e w1 ⟨rfl, b2⟩
  have B2 := hide b2
  obtain ⟨W, hrun, kW, oW⟩ := run_cpB (P := Try.prog) 32 32 3 3 Try.underlying32 int_size w1 (w.heap.size + 1) 0 cnt cnt A cnt (L - at_) (iv X) _ (K1.out.keep b2) (HRd.out w1 ((H1.out.keep B1.out).keep b2)) (iv_one _) (by omega) (by simp)
  rw [cutA_zero] at hrun
  have K2 := hide kW
  have O2 := hide oW
  clear kW oW b2
  go_wp2
  go_ret
  have kW := K2.out
  simp only [List.take_zero, List.nil_append, Nat.zero_add, List.drop_replicate, Nat.sub_self, List.replicate_zero, List.append_nil] at kW
  have l1 := (below_on B1.out B2.out)
  refine ⟨some ⟨w.heap.size + 1, 0, none⟩, cnt, rfl, Nat.le_refl _, ?_, below_out l1 O2.out (by omega) l1.size, fun b' o' e' => by injection e' with e'; injection e' with e1 _ _; omega⟩
  have := kW.rd
  rwa [iv_length, HL.out] at this

theorem boxes2 (w : World) (xs ys : List Value) (t s : TypeId) : Blk ((w.alloc (.cells (arr xs) t)).alloc (.cells (arr ys) s)) (w.heap.size + 1) s ys ∧ Below w.heap.size w ((w.alloc (.cells (arr xs) t)).alloc (.cells (arr ys) s)) := by
  have h := Blk.new (w.alloc (.cells (arr xs) t)) s ys
  rw [show (w.alloc (.cells (arr xs) t)).heap.size = w.heap.size + 1 by simp] at h
  exact ⟨h, ((Below.refl _ _).alloc (Nat.le_refl _) _).alloc (by simp) _⟩
theorem readBy_any (f a c t an o : Int) (A : Option Addr) (n k : Nat) (w : World) :
    Calls Try.prog 24 #[.agg #[.int .i64 f, .int .i64 a, .int .i64 c, .slice A n k, .int .i64 t, .int .i64 an, .int .i64 o]] w fun e w' => e = .returned (.agg #[.int .i64 (rdS f a c).1, .int .i64 (rdS f a c).2.1, .int .i64 (rdS f a c).2.2]) ∧ Below w.heap.size w w' := by
  by_cases h1 : f = 1
  · subst h1
    go_enter Try.func24, Try.ntmps24
    go_wp2
    obtain ⟨hB, hL⟩ := boxes2 w [.int .i64 1, .int .i64 a, .int .i64 c, .slice A n k, .int .i64 t, .int .i64 an, .int .i64 o] [.int .i64 1, .int .i64 a, .int .i64 c] 34 62
    exact bodyPost_ret (results_cell rfl rfl hB Try.underlying62 rfl (by kernel_rfl)) rfl ⟨rfl, hL⟩
  by_cases h2 : f = 2
  · subst h2
    go_enter Try.func24, Try.ntmps24
    go_wp2
    obtain ⟨hB, hL⟩ := boxes2 w [.int .i64 2, .int .i64 a, .int .i64 c, .slice A n k, .int .i64 t, .int .i64 an, .int .i64 o] [.int .i64 2, .int .i64 a, .int .i64 c] 34 62
    exact bodyPost_ret (results_cell rfl rfl hB Try.underlying62 rfl (by kernel_rfl)) rfl ⟨rfl, hL⟩
  by_cases h3 : f = 3
  · subst h3
    go_enter Try.func24, Try.ntmps24
    go_wp2
    obtain ⟨hB, hL⟩ := boxes2 w [.int .i64 3, .int .i64 a, .int .i64 c, .slice A n k, .int .i64 t, .int .i64 an, .int .i64 o] [.int .i64 3, .int .i64 a, .int .i64 c] 34 62
    exact bodyPost_ret (results_cell rfl rfl hB Try.underlying62 rfl (by kernel_rfl)) rfl ⟨rfl, hL⟩
  by_cases h4 : f = 4
  · subst h4
    go_enter Try.func24, Try.ntmps24
    go_wp2
    obtain ⟨hB, hL⟩ := boxes2 w [.int .i64 4, .int .i64 a, .int .i64 c, .slice A n k, .int .i64 t, .int .i64 an, .int .i64 o] [.int .i64 4, .int .i64 a, .int .i64 c] 34 62
    exact bodyPost_ret (results_cell rfl rfl hB Try.underlying62 rfl (by kernel_rfl)) rfl ⟨rfl, hL⟩
  by_cases h23 : f = 23
  · subst h23
    go_enter Try.func24, Try.ntmps24
    go_wp2
    obtain ⟨hB, hL⟩ := boxes2 w [.int .i64 23, .int .i64 a, .int .i64 c, .slice A n k, .int .i64 t, .int .i64 an, .int .i64 o] [.int .i64 3, .int .i64 a, .int .i64 c] 34 62
    exact bodyPost_ret (results_cell rfl rfl hB Try.underlying62 rfl (by kernel_rfl)) rfl ⟨rfl, hL⟩
  rw [show rdS f a c = (0, 0, 0) by simp [rdS, *]]
  replace h1 := ne_beq h1; replace h2 := ne_beq h2; replace h3 := ne_beq h3; replace h4 := ne_beq h4; replace h23 := ne_beq h23
  go_enter Try.func24, Try.ntmps24
  go_wp2
  obtain ⟨hB, hL⟩ := boxes2 w [.int .i64 f, .int .i64 a, .int .i64 c, .slice A n k, .int .i64 t, .int .i64 an, .int .i64 o] [.int .i64 0, .int .i64 0, .int .i64 0] 34 62
  exact bodyPost_ret (results_cell rfl rfl hB Try.underlying62 rfl (by kernel_rfl)) rfl ⟨rfl, hL⟩

theorem writtenBy_any (f a c t an o : Int) (A : Option Addr) (n k : Nat) (w : World) :
    Calls Try.prog 25 #[.agg #[.int .i64 f, .int .i64 a, .int .i64 c, .slice A n k, .int .i64 t, .int .i64 an, .int .i64 o]] w fun e w' => e = .returned (.agg #[.int .i64 (wrS f a n t).1, .int .i64 (wrS f a n t).2.1, .int .i64 (wrS f a n t).2.2]) ∧ Below w.heap.size w w' := by
  by_cases h1 : f = 5
  · subst h1
    go_enter Try.func25, Try.ntmps25
    go_wp2
    obtain ⟨hB, hL⟩ := boxes2 w [.int .i64 5, .int .i64 a, .int .i64 c, .slice A n k, .int .i64 t, .int .i64 an, .int .i64 o] [.int .i64 1, .int .i64 a, .int .i64 n] 34 62
    exact bodyPost_ret (results_cell rfl rfl hB Try.underlying62 rfl (by kernel_rfl)) rfl ⟨rfl, hL⟩
  by_cases h2 : f = 15
  · subst h2
    go_enter Try.func25, Try.ntmps25
    go_wp2
    obtain ⟨hB, hL⟩ := boxes2 w [.int .i64 15, .int .i64 a, .int .i64 c, .slice A n k, .int .i64 t, .int .i64 an, .int .i64 o] [.int .i64 1, .int .i64 a, .int .i64 n] 34 62
    exact bodyPost_ret (results_cell rfl rfl hB Try.underlying62 rfl (by kernel_rfl)) rfl ⟨rfl, hL⟩
  by_cases h3 : f = 6
  · subst h3
    go_enter Try.func25, Try.ntmps25
    go_wp2
    obtain ⟨hB, hL⟩ := boxes2 w [.int .i64 6, .int .i64 a, .int .i64 c, .slice A n k, .int .i64 t, .int .i64 an, .int .i64 o] [.int .i64 3, .int .i64 a, .int .i64 n] 34 62
    exact bodyPost_ret (results_cell rfl rfl hB Try.underlying62 rfl (by kernel_rfl)) rfl ⟨rfl, hL⟩
  by_cases h4 : f = 16
  · subst h4
    go_enter Try.func25, Try.ntmps25
    go_wp2
    obtain ⟨hB, hL⟩ := boxes2 w [.int .i64 16, .int .i64 a, .int .i64 c, .slice A n k, .int .i64 t, .int .i64 an, .int .i64 o] [.int .i64 3, .int .i64 a, .int .i64 n] 34 62
    exact bodyPost_ret (results_cell rfl rfl hB Try.underlying62 rfl (by kernel_rfl)) rfl ⟨rfl, hL⟩
  by_cases h22 : f = 22
  · subst h22
    go_enter Try.func25, Try.ntmps25
    go_wp2
    obtain ⟨hB, hL⟩ := boxes2 w [.int .i64 22, .int .i64 a, .int .i64 c, .slice A n k, .int .i64 t, .int .i64 an, .int .i64 o] [.int .i64 3, .int .i64 a, .int .i64 1] 34 62
    exact bodyPost_ret (results_cell rfl rfl hB Try.underlying62 rfl (by kernel_rfl)) rfl ⟨rfl, hL⟩
  by_cases h23 : f = 23
  · subst h23
    go_enter Try.func25, Try.ntmps25
    go_wp2
    obtain ⟨hB, hL⟩ := boxes2 w [.int .i64 23, .int .i64 a, .int .i64 c, .slice A n k, .int .i64 t, .int .i64 an, .int .i64 o] [.int .i64 3, .int .i64 t, .int .i64 n] 34 62
    exact bodyPost_ret (results_cell rfl rfl hB Try.underlying62 rfl (by kernel_rfl)) rfl ⟨rfl, hL⟩
  rw [show wrS f a n t = (0, 0, 0) by simp [wrS, *]]
  replace h1 := ne_beq h1; replace h2 := ne_beq h2; replace h3 := ne_beq h3; replace h4 := ne_beq h4; replace h23 := ne_beq h23; replace h22 := ne_beq h22
  go_enter Try.func25, Try.ntmps25
  go_wp2
  obtain ⟨hB, hL⟩ := boxes2 w [.int .i64 f, .int .i64 a, .int .i64 c, .slice A n k, .int .i64 t, .int .i64 an, .int .i64 o] [.int .i64 0, .int .i64 0, .int .i64 0] 34 62
  exact bodyPost_ret (results_cell rfl rfl hB Try.underlying62 rfl (by kernel_rfl)) rfl ⟨rfl, hL⟩

end Go.Proofs.Ytohiblldhdglgaa
