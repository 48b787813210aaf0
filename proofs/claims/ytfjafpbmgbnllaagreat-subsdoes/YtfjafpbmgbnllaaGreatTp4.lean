/-
  What is proved here: makeASCIISet of Go's package strings for the signs + and #. No condition.
-/
import Derived.Test.YtfjafpbmgbnllaaGreatTp3
namespace Go.Proofs.YtfjafpbmgbnllaaGreat
set_option linter.unusedVariables false
set_option linter.unusedSimpArgs false
open Go.RowKit

/-- The set of + and #. -/
def setC : Array Value := Lib.setCells [43, 35]
theorem zero_set : Tryz.zeroCells133 = Lib.setCells [] := by kernel_rfl
theorem info_set : (Tryz.prog.info? 133).map (·.size) = some 256 := by kernel_rfl

set_option maxHeartbeats 4000000 in
set_option maxRecDepth 1000000 in
theorem makeSet_any (w : World) : Calls Tryz.prog 96 #[.string ⟨#[43, 35]⟩] w fun e w' => e = .returned (.tuple #[.agg setC, .bool true]) ∧ w' = w.alloc (.cells setC 133) := by
  have hsz : setC.size = 256 := Lib.setCells_size _
  have hld := run_loadVar_new (P := Tryz.prog) w 133 setC 256 4 Tryz.underlying133 (by rw [hsz]; exact info_set)
  have HL := hide (run_loadAt_new (P := Tryz.prog) w 133 setC 256 4 Tryz.underlying133 (by rw [hsz]; exact info_set))
  have HS := hide (run_storeCells_new (P := Tryz.prog) w 133 setC setC (by rw [hsz]; exact info_set) rfl (Lib.setCells_one _))
  have HD := hide hld
  clear hld hsz
  go_enter Tryz.func96, Tryz.ntmps96
  go_wp2
  rw [zero_set]
  go_loopg [4] 2 (fun g s4 wx => ∃ i : Nat, i + g = 2 ∧ s4 = .int .i64 i ∧ wx = w.alloc (.cells (Lib.setCells ([43, 35].take i)) 133))
  case atStart => exact ⟨0, by omega, rfl, rfl⟩
  case round =>
    obtain ⟨i, hig, rfl, rfl⟩ := hrel
    cases gk with
    | zero =>
      obtain rfl : i = 2 := by omega
      rw [show Lib.setCells ([43, 35].take 2) = setC from rfl]
      go_wp2
      refine wp_load_run 133 (.tmp 2) rfl _ _ rfl HL.out ?_
      go_wp2
      rw [HS.out]
      simp only [Result.andThen]
      rw [Oper.upon_skip]
      go_wp2
      (try simp only [Exit.inBlock, Exit.then])
      refine bodyPost_ret (v := .tuple #[.agg setC, .bool true]) ?_ rfl ⟨rfl, rfl⟩
      rw [results_cell_tmp rfl]
      have := HD.out
      simp [asAddr, Result.andThen, this]
    | succ g =>
      obtain rfl | rfl : i = 0 ∨ i = 1 := by omega
      · go_wp2
        go_roundg g
        case measure => omega
        case rel => exact ⟨1, by omega, rfl, rfl⟩
      · go_wp2
        go_roundg g
        case measure => omega
        case rel => exact ⟨2, by omega, rfl, rfl⟩



set_option maxHeartbeats 8000000 in
set_option maxRecDepth 1000000 in
theorem indexAny_long (xs : List UInt8) (h8 : 8 < xs.length) (hs : xs.length ≤ 1000000000000) (w : World) :
    Calls Tryz.prog 73 #[.string (str xs), .string ⟨#[43, 35]⟩] w fun e w' => (∃ i : Int, e = .returned (.int .i64 i) ∧ decide (0 ≤ i) = wildL xs) ∧ Below w.heap.size w w' := by
  obtain ⟨n, hn⟩ : ∃ n, xs.length = n := ⟨_, rfl⟩
  have hsz : (str xs).size = n := by rw [Lib.size_eq, str_list, hn]
  have h8z : decide ((8 : Int) < (n : Int)) = true := decide_eq_true (by omega)
  have hget : ∀ i (hi : i < xs.length) h, (str xs)[i]'h = xs[i] := fun i hi h => str_get xs i hi h
  obtain ⟨s, hs'⟩ : ∃ s, str xs = s := ⟨_, rfl⟩
  rw [hs'] at hsz ⊢
  have HG := hide (show ∀ i (hi : i < xs.length) (h : i < s.size), s[i]'h = xs[i] by subst hs'; exact hget)
  have hc256 : setC.size = 256 := Lib.setCells_size _
  have HS := hide (show (storeCells ⟨w.heap.size + 1, 0, none⟩ setC.toList 0).run Tryz.prog ((w.alloc (.cells setC 133)).alloc (.cells (Lib.setCells []) 133)) = .ok () ((w.alloc (.cells setC 133)).alloc (.cells setC 133)) by
    have := run_storeCells_new (P := Tryz.prog) (w.alloc (.cells setC 133)) 133 (Lib.setCells []) setC (by rw [hc256]; exact info_set) (by rw [hc256]; exact Lib.setCells_size _) (Lib.setCells_one _)
    simpa using this)
  have hcellAt : ∀ x : UInt8, ((w.alloc (.cells setC 133)).alloc (.cells setC 133)).cell? ⟨w.heap.size + 1, x.toNat, none⟩ = some (.bool (([43, 35] : List UInt8).contains x)) := fun x => by
    rw [World.cell?_alloc_at _ _ _ _ (by simp)]
    exact Lib.setCells_at [43, 35] x
  have HC := hide hcellAt
  have HB := hide (show Below w.heap.size w ((w.alloc (.cells setC 133)).alloc (.cells setC 133)) from ((Below.refl _ w).alloc (Nat.le_refl _) _).alloc (by simp) _)
  clear hcellAt hs' hc256 hget
  go_enter Tryz.func73, Tryz.ntmps73
  go_wp2_with (first
    | (go_at_call 95; refine (useSet_any _ _).mono ?_; rintro e w' ⟨rfl, rfl⟩; rw [h8z])
    | (go_at_call 96; refine (makeSet_any _).mono ?_; rintro e w' ⟨rfl, rfl⟩))
  rw [zero_set, HS.out]
  simp only [Result.andThen]
  rw [Oper.upon_skip]
  obtain ⟨V, hV⟩ : ∃ V, (w'.alloc (.cells setC 133)).alloc (.cells setC 133) = V := ⟨_, rfl⟩
  rw [hV] at HC HB ⊢
  clear hV HS
  obtain ⟨B, hB⟩ : ∃ B, w'.heap.size + 1 = B := ⟨_, rfl⟩
  rw [hB] at HC ⊢
  clear hB
  go_wp2
  go_loopg [8] n (fun g s8 wx => ∃ i : Nat, i + g = n ∧ s8 = .int .i64 i ∧ wx = V ∧ noW xs i)
  case atStart => exact ⟨0, by omega, rfl, rfl, noW_zero _⟩
  case round =>
    obtain ⟨i, hig, rfl, rfl, hno⟩ := hrel
    have HN := hide hno
    clear hno
    cases gk with
    | zero =>
      obtain rfl : i = n := by omega
      have hiz : ¬ ((i : Int) < (i : Int)) := by omega
      go_wp2
      go_ret
      refine ⟨⟨-1, rfl, ?_⟩, HB.out⟩
      have := HN.out
      unfold noW at this
      rw [List.take_of_length_le (by omega)] at this
      rw [this]
      rfl
    | succ g =>
      have hi : i < n := by omega
      have hiz : (i : Int) < (n : Int) := by omega
      have hlt : i < xs.length := by omega
      obtain ⟨x, hx⟩ : ∃ x, xs[i]'hlt = x := ⟨_, rfl⟩
      have hg := HG.out i hlt
      rw [hx] at hg
      have hcx := HC.out x
      have HX := hide hx
      clear hx
      cases hin : ([43, 35] : List UInt8).contains x <;> rw [hin] at hcx
      · have HI := hide hin
        clear hin
        go_wp2_with (go_at_call 97; refine (contains_any _ x _ _ hcx).mono ?_; rintro e w2 ⟨rfl, rfl⟩)
        go_roundg g
        case measure => omega
        case rel => exact ⟨i + 1, by omega, by first | rfl | simp, rfl, noW_step HN.out hlt (by rw [HX.out]; exact HI.out)⟩
      · have HI := hide hin
        clear hin
        go_wp2_with (go_at_call 97; refine (contains_any _ x _ _ hcx).mono ?_; rintro e w2 ⟨rfl, rfl⟩)
        go_ret
        exact ⟨⟨_, rfl, by rw [noW_hit hlt (by rw [HX.out]; exact HI.out)]; simp⟩, HB.out⟩

theorem sContains_any (xs : List UInt8) (hs : xs.length ≤ 1000000000000) (w : World) :
    Calls Tryz.prog 53 #[.string (str xs), .string ⟨#[43, 35]⟩] w fun e w' => e = .returned (.bool (wildL xs)) ∧ Below w.heap.size w w' := by
  have H : ∀ W, Calls Tryz.prog 73 #[.string (str xs), .string ⟨#[43, 35]⟩] W fun e w' => (∃ i : Int, e = .returned (.int .i64 i) ∧ decide (0 ≤ i) = wildL xs) ∧ Below W.heap.size W w' := by
    intro W
    by_cases h : xs.length ≤ 8
    · exact indexAny_short xs h W
    · exact indexAny_long xs (by omega) hs W
  have HH := hide H
  clear H
  go_enter Tryz.func53, Tryz.ntmps53
  go_wp2_with (go_at_call 73; refine (HH.out _).mono ?_; rintro e w' ⟨⟨i, rfl, hi⟩, b1⟩)
  go_ret
  exact ⟨by rw [← hi]; rfl, b1⟩
theorem hasWild_any (xs : List UInt8) (hs : xs.length ≤ 1000000000000) (w : World) :
    Calls Tryz.prog 40 #[.string (str xs)] w fun e w' => e = .returned (.bool (wildL xs)) ∧ Below w.heap.size w w' := by
  have HH := hide fun W => sContains_any xs hs W
  go_enter Tryz.func40, Tryz.ntmps40
  go_wp2_with (go_at_call 53; refine (HH.out _).mono ?_; rintro e w' ⟨rfl, b1⟩)
  go_ret
  exact ⟨rfl, b1⟩

end Go.Proofs.YtfjafpbmgbnllaaGreat
