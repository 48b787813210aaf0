/-
  What is proved here: what Filter, takes and Matches of package topic return, for every two texts of at most 10^11 bytes. Condition: so short texts.
-/
import Derived.Test.YtfjafpbmgbnllaaGreatTp5
namespace Go.Proofs.YtfjafpbmgbnllaaGreat
set_option linter.unusedVariables false
set_option linter.unusedSimpArgs false
open Go.RowKit Go.Shelf
attribute [local go_sem] Oper.semAt_some

theorem results_cell1 {P : Program} {fn : Func} {a : Tmp} {t : TypeId} (h : fn.results = #[.cell a t]) {tmps : Array Value} {w : World} {p : Addr} {x : Value}
    (ha : tmps.getD a undef = .pointer (some p)) (ht : ∀ W, (isAgg t).run P W = .ok false W) (hx : w.cell? p = some x) : (results fn tmps).run P w = .ok x w := by
  rw [Array.getD_eq_getD_getElem?] at ha
  simp [results, h, ha, asAddr, loadVar, ht, go_sem, hx]
theorem aggT_err : ∀ W, (isAgg 34).run Tryz.prog W = .ok false W := by intro W; simp [isAgg, go_sem, Tryz.underlying34]
theorem aggT_bool : ∀ W, (isAgg 4).run Tryz.prog W = .ok false W := by intro W; simp [isAgg, go_sem, Tryz.underlying4]
theorem keepsFrom_below {B : Nat} {W W' : World} (b : Below W.heap.size W W') : KeepsFrom B W W' := ⟨b.size, fun k _ _ hk _ => (b.block k (Array.getElem?_eq_some_iff.1 hk).1).trans hk⟩

theorem boxed_oth {A B : World} {row : Option Nat} {b : Nat} {t : TypeId} {v : Value} (h : Boxed A b t v) (hg : A.grownBy B row) (hr : ∀ r, row = some r → ∃ o : Obj, A.heap[r]? = some o ∧ o.isCells = false) : Boxed B b t v :=
  h.kept hg (fun e' => by obtain ⟨o, ho, hc⟩ := hr _ e'.symm; rw [show A.heap[b]? = _ from h] at ho; cases ho; cases hc)
theorem boxed_below {A B : World} {b : Nat} {t : TypeId} {v : Value} (h : Boxed A b t v) (k : Below A.heap.size A B) : Boxed B b t v :=
  boxed_oth h (below_grown k) (fun r e => by cases e)

set_option maxRecDepth 100000 in
set_option maxHeartbeats 4000000 in
theorem filter_in (xs : List UInt8) (hs : xs.length ≤ 100000000000) (w : World) :
    CallsIn Fence.wide 3 Tryz.prog 20 #[.string (str xs)] w fun e w' => e = .returned (.int .i64 (errN (filterL xs) 121)) ∧ Below w.heap.size w w' := by
  have H1 := hide fun W => isText_any xs W
  obtain ⟨B0, hB0⟩ : ∃ B, w.heap.size = B := ⟨_, rfl⟩
  have bE := Boxed.new w 34 (.int .i64 0)
  have bW : Below B0 w (w.alloc (.cells #[.int .i64 0] 34)) := (Below.refl _ w).alloc (by omega) _
  have bz : (w.alloc (.cells #[.int .i64 0] 34)).heap.size = B0 + 1 := by simp [hB0]
  rw [hB0] at bE
  unfold filterL
  refine callsIn_of_wp_marks Tryz.func20 rfl trivial ?_ rfl
  simp only [Tryz.ntmps20, List.size_toArray, List.length_cons, List.length_nil, Nat.reduceAdd, Nat.reduceSub, Array.replicate_succ, Array.replicate_zero, List.push_toArray, List.append_toArray, List.nil_append, List.cons_append]
  rw [hB0]
  cases ht : textL xs with
  | false =>
    rw [ht] at H1
    clear ht
    gi_wp2_with (refine ⟨trivial, ?_⟩; gi_at_call 36; refine (callsIn_wide.2 (H1.out _)).mono ?_; rintro e w1 ⟨rfl, b1⟩; have c1 := (boxed_below bE b1).cell; have f1 := (boxed_below bE b1).frozen; have n1 := (boxed_below bE b1).set (.int .i64 121); have l1 := bW.trans (b1.mono (by omega)); clear b1)
    refine ⟨_, results_cell1 rfl rfl aggT_err n1.cell, rfl, ?_⟩
    exact l1.setCell (p := ⟨B0, 0, none⟩) (Nat.le_refl _) _
  | true =>
    rw [ht] at H1
    clear ht
    gi_wp2_with (first
      | (refine ⟨trivial, ?_⟩; gi_at_call 36; refine (callsIn_wide.2 (H1.out _)).mono ?_; rintro e w1 ⟨rfl, b1⟩; have bX := boxed_below bE b1; have l1 := bW.trans (b1.mono (by omega)); have z1 := b1.size; rw [bz] at z1; clear b1 bE bW)
      | (refine ⟨trivial, ?_⟩; gi_at_call 37; refine (levels_in _ _ _).mono ?_; rintro e w2 ⟨rfl, rfl⟩))
    have bS := Boxed.new w1 9 (.string (str xs))
    have bY := bX.alloc (.cells #[.string (str xs)] 9)
    have l2 := l1.alloc (by omega) (.cells #[.string (str xs)] 9)
    have z2 : (w1.alloc (.cells #[.string (str xs)] 9)).heap.size = w1.heap.size + 1 := by simp
    obtain ⟨Bs, hBs⟩ : ∃ B, w1.heap.size = B := ⟨_, rfl⟩
    rw [hBs] at bS z2 z1 ⊢
    obtain ⟨V, hV⟩ : ∃ V, w1.alloc (.cells #[.string (str xs)] 9) = V := ⟨_, rfl⟩
    rw [hV] at bS bY l2 z2 ⊢
    clear hV bX l1 hBs
    refine wpIn_rangeFunc_ownG rfl (by omega) (gf := 51) (lb := #[.pointer (some ⟨Bs, 0, none⟩)]) rfl trivial (enters_of Tryz.func51 (by kernel_rfl) rfl)
      (levels_stops 2 (by omega) Bs B0 xs (by omega) V (by omega) bS.cell) belowK_t (belowK_b (by omega)) (Below.refl _ _) (fun _ => rfl)
      (fun pre W => Boxed W B0 34 (.int .i64 0) ∧ (∀ x ∈ pre, mayS (clip x.1) x.2 = true) ∧ Below B0 w W)
      (fun cd pre W => (cd = .ret ∧ Boxed W B0 34 (.int .i64 121) ∧ ∃ x ∈ pre, mayS (clip x.1) x.2 = false) ∧ Below B0 w W)
      (OwnFrom.and (Own.from (fun s A B row hs hg hr => boxed_oth hs hg hr) _) (OwnFrom.and (fun _ _ _ _ h _ _ => h) (ownFrom_below (by omega) (by omega))))
      (fun cd => OwnFrom.and (Own.from (fun s A B row hs hg hr => ⟨hs.1, boxed_oth hs.2.1 hg hr, hs.2.2⟩) _) (ownFrom_below (by omega) (by omega)))
      ⟨bY, by simp, l2⟩
      (fun x => { tmps := #[.string (str xs), undef, .pointer (some ⟨B0, 0, none⟩), .string (str (clip x.1)), .bool x.2, .string (str xs), .bool true, .bool false, .string (str xs), .func (.func 51) #[] #[.pointer (some ⟨Bs, 0, none⟩)], .string (str (clip x.1)), .bool x.2, undef, undef, undef, undef], defers := [] }) ?assign ?body ?done ?stop
    case assign =>
      intro l x W K hK
      gi_wp2
      exact hK
    case body =>
      rintro l pre x W ⟨hbx, hpre, hB⟩ hlt
      have HM := hide fun U => mayStand_any (clip x.1) x.2 (clip_len _) U
      have Hpre := hide hpre
      have HB := hide hB
      have Hb := hide hbx
      have hsz : B0 < W.heap.size := hbx.lt
      clear hpre hB hlt
      cases hm : mayS (clip x.1) x.2 with
      | true =>
        rw [hm] at HM
        have Hm := hide hm
        clear hm
        gi_wp2_with (refine ⟨trivial, ?_⟩; gi_at_call 38; refine (CallsIn.inRound l (callsIn_wide.2 (HM.out _))).mono ?_; rintro e w3 ⟨rfl, b3⟩)
        refine ⟨keepsFrom_below b3, b3.mono (by omega), boxed_below Hb.out b3, ?_, HB.out.trans (b3.mono (by omega))⟩
        intro y hy
        rcases List.mem_append.1 hy with h | h
        · exact Hpre.out y h
        · rcases List.mem_singleton.1 h with rfl
          exact Hm.out
      | false =>
        rw [hm] at HM
        have Hm := hide hm
        clear hm hbx
        gi_wp2_with (refine ⟨trivial, ?_⟩; gi_at_call 38; refine (CallsIn.inRound l (callsIn_wide.2 (HM.out _))).mono ?_; rintro e w3 ⟨rfl, b3⟩; have hb3 := boxed_below Hb.out b3; have hc3 := hb3.cell; have hf3 := hb3.frozen)
        refine ⟨(keepsFrom_below b3).trans ((KeepsOthers.setCell _ _ _).from _), ⟨rfl, hb3.set _, x, by simp, Hm.out⟩, ?_⟩
        exact (HB.out.trans (b3.mono (by omega))).setCell (p := ⟨B0, 0, none⟩) (Nat.le_refl _) _
    case done =>
      rintro D ys W hD rfl ⟨hbx, hall, hB⟩ hK
      have hc := hbx.cell
      have hf := hbx.frozen
      have Hall := hide hall
      have HB := hide hB
      clear hall hB
      gi_wp2
      have hK' := (KeepsOthers.setCell W ⟨B0, 0, none⟩ (.int .i64 0)).same D _ hK rfl
      refine ⟨by simp, .inl ⟨_, _, rfl, run_takeDeferred hK', ?_⟩⟩
      have G2 := boxed_oth (hbx.set (.int .i64 0)) (grownBy_putObj' _ D (.deferred none)) (fun r e => by cases e; exact ⟨_, hK', rfl⟩)
      refine ⟨_, results_cell1 rfl rfl aggT_err G2.cell, ?_, (HB.out.setCell (p := ⟨B0, 0, none⟩) (Nat.le_refl _) _).trans (belowK_b (w := V) (by omega) _ D _ _ hD hK' rfl rfl)⟩
      have : filtL (lvls xs) = true := by
        unfold filtL
        rw [List.all_eq_true]
        intro p hp
        have h1 := Hall.out p hp
        rwa [clip_id (by have := lvls_len xs _ (lasts_mem _ _ hp); omega)] at h1
      rw [this]; rfl
    case stop =>
      rintro D cd pre W hD hpr ⟨⟨rfl, hbx, x, hx, hm⟩, hB⟩ hK
      have Hx := hide hx
      have Hm := hide hm
      clear hx hm
      gi_wp2
      refine ⟨by simp, .inl ⟨_, _, rfl, run_takeDeferred hK, ?_⟩⟩
      have G2 := boxed_oth hbx (grownBy_putObj' _ D (.deferred none)) (fun r e => by cases e; exact ⟨_, hK, rfl⟩)
      refine ⟨_, results_cell1 rfl rfl aggT_err G2.cell, ?_, hB.trans (belowK_b (w := V) (by omega) _ D _ _ hD hK rfl rfl)⟩
      have : filtL (lvls xs) = false := by
        unfold filtL
        rw [List.all_eq_false]
        have hp := hpr.subset Hx.out
        refine ⟨x, hp, ?_⟩
        have h1 := Hm.out
        rw [clip_id (by have := lvls_len xs _ (lasts_mem _ _ hp); omega)] at h1
        simp [h1]
      rw [this]; rfl

theorem filter_any (xs : List UInt8) (hs : xs.length ≤ 100000000000) (w : World) :
    Calls Tryz.prog 20 #[.string (str xs)] w fun e w' => e = .returned (.int .i64 (errN (filterL xs) 121)) ∧ Below w.heap.size w w' := callsIn_wide.1 (filter_in xs hs w)

end Go.Proofs.YtfjafpbmgbnllaaGreat
