/-
  What is proved here: cmp.Compare at texts and ints; what the sort of Find returns: the same, by rising texts. Condition: at most a million rows.
-/
import Derived.Test.YtfjafpbmgbnllaaGreatLay13
import Derived.Test.YtfjafpbmgbnllaaGreatSp2
import Derived.Test.YtfjafpbmgbnllaaGreatSr1
import Derived.Test.YtfjafpbmgbnllaaGreatSr2
import Derived.Laws.Cover1
import Derived.Sort.OwnSorted
namespace Go.Proofs.YtfjafpbmgbnllaaGreat
set_option linter.unusedVariables false
set_option linter.unusedSimpArgs false
open Go.RowKit Go.Maps Go.Shelf Go.Lib Go.Sort

/-- cmp.Compare. -/
def cmpB (x y : List UInt8) : Int := if Op.bytesLess x y = true then -1 else if Op.bytesLess y x = true then 1 else 0
def cmpI (x y : Int) : Int := if x < y then -1 else if y < x then 1 else 0
theorem cmpB_lt (x y : List UInt8) : decide (cmpB x y < 0) = Op.bytesLess x y := by
  unfold cmpB
  cases h1 : Op.bytesLess x y <;> cases h2 : Op.bytesLess y x <;> simp
theorem cmpI_lt (x y : Int) : decide (cmpI x y < 0) = decide (x < y) := by
  unfold cmpI
  by_cases h1 : x < y
  · simp [h1]
  · by_cases h2 : y < x <;> simp [h1, h2]
theorem nanS_any (x : List UInt8) (w : World) : Calls Tryz.prog 44 #[.string (str x)] w fun e w' => e = .returned (.bool false) ∧ w' = w := by
  have q : (x != x) = false := by simp
  go_enter Tryz.func44, Tryz.ntmps44
  go_wp2
  go_ret
  exact ⟨by simp, rfl⟩
theorem nanI_any (x : Int) (w : World) : Calls Tryz.prog 49 #[.int .i64 x] w fun e w' => e = .returned (.bool false) ∧ w' = w := by
  have q : (x != x) = false := by simp
  go_enter Tryz.func49, Tryz.ntmps49
  go_wp2
  go_ret
  exact ⟨by simp, rfl⟩
set_option maxRecDepth 100000 in
theorem cmpS_any (x y : List UInt8) (w : World) : Calls Tryz.prog 28 #[.string (str x), .string (str y)] w fun e w' => e = .returned (.int .i64 (cmpB x y)) ∧ w' = w := by
  have N1 := nanS_any x w
  have N2 := nanS_any y w
  unfold cmpB
  cases h1 : Op.bytesLess x y with
  | true =>
    rw [if_pos rfl]
    go_enter Tryz.func28, Tryz.ntmps28
    go_wp2_with (go_at_call 44; first | (refine N1.mono ?_; rintro e w' ⟨rfl, rfl⟩) | (refine N2.mono ?_; rintro e w' ⟨rfl, rfl⟩))
    go_ret
    exact ⟨rfl, rfl⟩
  | false =>
    cases h2 : (x == y) with
    | true =>
      have e : x = y := by simpa using h2
      subst e
      rw [if_neg (by simp), h1, if_neg (by simp)]
      go_enter Tryz.func28, Tryz.ntmps28
      go_wp2_with (go_at_call 44; refine N1.mono ?_; rintro e w' ⟨rfl, rfl⟩)
      go_ret
      exact ⟨rfl, rfl⟩
    | false =>
      have e : Op.bytesLess y x = true := by
        cases h3 : Op.bytesLess y x with
        | true => rfl
        | false => rw [bl_tri h1 h3] at h2; simp at h2
      rw [if_neg (by simp), e, if_pos rfl]
      go_enter Tryz.func28, Tryz.ntmps28
      go_wp2_with (go_at_call 44; first | (refine N1.mono ?_; rintro e w' ⟨rfl, rfl⟩) | (refine N2.mono ?_; rintro e w' ⟨rfl, rfl⟩))
      go_ret
      exact ⟨rfl, rfl⟩
set_option maxRecDepth 100000 in
theorem cmpN_any (x y : Int) (w : World) : Calls Tryz.prog 35 #[.int .i64 x, .int .i64 y] w fun e w' => e = .returned (.int .i64 (cmpI x y)) ∧ w' = w := by
  have N1 := nanI_any x w
  have N2 := nanI_any y w
  unfold cmpI
  by_cases h1 : x < y
  · rw [if_pos h1]
    go_enter Tryz.func35, Tryz.ntmps35
    go_wp2_with (go_at_call 49; first | (refine N1.mono ?_; rintro e w' ⟨rfl, rfl⟩) | (refine N2.mono ?_; rintro e w' ⟨rfl, rfl⟩))
    go_ret
    exact ⟨rfl, rfl⟩
  · rw [if_neg h1]
    by_cases h2 : y < x
    · rw [if_pos h2]
      go_enter Tryz.func35, Tryz.ntmps35
      go_wp2_with (go_at_call 49; first | (refine N1.mono ?_; rintro e w' ⟨rfl, rfl⟩) | (refine N2.mono ?_; rintro e w' ⟨rfl, rfl⟩))
      go_ret
      exact ⟨rfl, rfl⟩
    · rw [if_neg h2]
      go_enter Tryz.func35, Tryz.ntmps35
      go_wp2_with (go_at_call 49; first | (refine N1.mono ?_; rintro e w' ⟨rfl, rfl⟩) | (refine N2.mono ?_; rintro e w' ⟨rfl, rfl⟩))
      go_ret
      exact ⟨rfl, rfl⟩

/-- The closure of Find. -/
theorem find1_any (x y : List UInt8 × Int) (W : World) : Calls Tryz.prog 27 #[.agg (twOne x).toArray, .agg (twOne y).toArray] W fun e w' => e = .returned (.int .i64 (cmpB x.1 y.1)) ∧ ∃ q os', w' = grow (W.drewN q) os' := by
  have hcon := fun W' => cmpS_any x.1 y.1 W'
  obtain ⟨x, p⟩ := x
  obtain ⟨y, q⟩ := y
  simp only [twOne] at hcon ⊢
  generalize cmpB x y = r at hcon ⊢
  go_enter Tryz.func27, Tryz.ntmps27
  go_wp2_with (go_at_call 28; refine (hcon _).mono ?_; rintro e w' ⟨rfl, rfl⟩)
  go_ret
  exact ⟨rfl, 0, _, by rw [alloc_eq_grow, alloc_eq_grow, grow_grow]; rfl⟩
def cfW (x y : List UInt8 × Int) : Int := cmpB x.1 y.1
theorem cfW_lt (x y : List UInt8 × Int) : ltOf cfW x y = Op.bytesLess x.1 y.1 := cmpB_lt x.1 y.1
theorem swoW : SWO (ltOf cfW) where
  irrefl x := by rw [cfW_lt]; exact bl_irrefl _
  trans x y z h1 h2 := by rw [cfW_lt] at *; exact bl_trans h1 h2
  ntrans x y z h1 h2 := by
    rw [cfW_lt] at *
    cases h3 : Op.bytesLess x.1 z.1 with
    | false => rfl
    | true =>
      cases h4 : Op.bytesLess y.1 x.1 with
      | true => rw [bl_trans h4 h3] at h2; cases h2
      | false => rw [bl_tri h1 h4, h2] at h3; cases h3
theorem flat_tw (l : List (List UInt8 × Int)) (j : Nat) (h : j < l.length * 2) : (twVs l)[j]? = some (flatK twOne 2 l.toArray)[j]! := by
  rw [get_flatK _ _ _ _ (by simpa using h)]
  have hi : j / 2 < l.length := by omega
  have hr : j % 2 < 2 := by omega
  have e : j = j / 2 * 2 + j % 2 := by omega
  have h1 := twVs_get l (j / 2) (j % 2) hi hr
  rw [← e] at h1
  rw [h1]
  have h2 : l.toArray[j / 2]! = l[j / 2] := by simp [hi]
  rw [h2]
  generalize l[j / 2] = s
  rcases (by omega : j % 2 = 0 ∨ j % 2 = 1) with h3 | h3 <;> rw [h3] <;> rfl
theorem sortWorldK_but {α : Type} [Inhabited α] (enc : α → List Value) (k : Nat) (w : World) (blk off n : Nat) (d : Array α) (os : Array Obj) : But (fun i => i = blk) w (sortWorldK enc k w blk off n d os) := by
  refine ⟨rfl, rfl, rfl, size_sortWorldK_c enc k w blk off n d os, fun i hi hne => ?_⟩
  unfold sortWorldK
  rw [heap_grow_old _ _ (by simpa [putRowK] using hi)]
  have : blk ≠ i := fun e => hne e.symm
  simp [putRowK, putRow, mapBlock, Sort.ahead, Array.getElem?_modify, this]
/-- What the sort leaves. -/
def RetSrt (base : Nat) (O : Option Addr) (m : Nat) (l : List (List UInt8 × Int)) (w w' : World) : Prop :=
  ∃ l', l'.Perm l ∧ l'.Pairwise (fun a b => Op.bytesLess b.1 a.1 = false) ∧ Rd w' O (m * 2) (twVs l') ∧ Below base w w'
theorem perm_arr {α : Type} [Inhabited α] {d d' : Array α} (h : PermIn 0 d.size d d') : d'.toList.Perm d.toList := by
  obtain ⟨hsz, _, hp⟩ := h
  have e1 : d'.extract 0 d.size = d' := by rw [← hsz]; exact Array.extract_size
  rw [e1, Array.extract_size] at hp
  exact hp
theorem sorted_arr {α : Type} [Inhabited α] {lt : α → α → Bool} {d : Array α} {n : Nat} (hn : d.size = n) (h : SortedIn lt 0 n d) : d.toList.Pairwise fun a b => lt b a = false := by
  rw [List.pairwise_iff_getElem]
  intro i j hi hj hij
  have := h i j (Nat.zero_le _) hij (by rw [← hn]; simpa using hj)
  have hi' : i < d.size := by simpa using hi
  have hj' : j < d.size := by simpa using hj
  rw [getElem!_pos d i hi', getElem!_pos d j hj'] at this
  simpa using this
theorem sortW_any (base : Nat) (O : Option Addr) (m ko : Nat) (l : List (List UInt8 × Int)) (w : World) (h : w.ownsRow base 69 2 (.slice O m ko) m (twVs l)) (hl : l.length = m) (hm : m ≤ 1000000) (hb : base ≤ w.heap.size) :
    Calls Tryz.prog 26 #[.slice O m ko, .func (.func 27) #[] #[]] w fun e w' => e = .returned (.tuple #[]) ∧ RetSrt base O m l w w' := by
  have hrd := ownS_rd h
  have hnew : ∀ b o, O = some ⟨b, o, none⟩ → base ≤ b := fun b o e => ownS_new h b o e
  rcases h.2 with ⟨hv, h0⟩ | ⟨g, cap, cur, hv, hg, hh, hc, hmx, hs, ht⟩
  · injection hv with hA h1 h2
    subst hA h1 h2
    obtain rfl : l = [] := List.length_eq_zero_iff.1 (by omega)
    have hcon := AnyF.slices_SortFunc_none { sortWant with } none 0 (.func (.func 27) #[] #[]) w
    exact hcon.mono fun e w' ⟨he, hw⟩ => ⟨he, [], List.Perm.refl _, List.Pairwise.nil, by subst hw; exact Rd.nil _ _, by subst hw; exact Below.refl _ _⟩
  · injection hv with hA _ h2
    subst hA h2
    have hgl : g < w.heap.size := (Array.getElem?_eq_some_iff.1 hh).1
    have hH : HoldsK twOne 2 w g 0 l.toArray := by
      intro j hj
      have hj' : j < l.length * 2 := by simpa using hj
      have h1 := flat_tw l j hj'
      refine ⟨?_, by simp [World.frozen?, hh]⟩
      rw [← ht] at h1
      rw [List.getElem?_take_of_lt (by rw [← hl]; exact hj')] at h1
      simp only [World.cell?, hh, Nat.zero_add]
      simp only [Option.isSome_none, Bool.false_eq_true, if_false]
      rw [← Array.getElem?_toList]
      exact h1
    have eg : ∀ args w, (callFunc 27 args).run Tryz.prog w = .ok (.enter 27 args) w := enters_of Tryz.func27 (by kernel_rfl) rfl
    have hcmp : CmpLays Tryz.prog 27 #[] twOne 2 cfW g 0 l.toArray.size w := fun _ _ _ _ x y => find1_any x y _
    have hsz : l.toArray.size = m := by simpa using hl
    have hcon := AnyQ.slices_SortFunc sortWant 2 Tryz.isAgg69 Tryz.sizeOf69 twOne (fun _ => rfl) (fun x v hv => by simp [twOne] at hv; rcases hv with rfl | rfl <;> rfl) cfW swoW 27 #[] g 0 ko l.toArray w eg hcmp hH hgl (by rw [hsz]; omega)
    rw [hsz] at hcon
    refine Calls.mono hcon ?_
    rintro e w' ⟨he, d', n, os, hp, hso, rfl⟩
    rw [← hsz] at hp
    have hd := hp.1
    have hK := holdsK_sortWorldK_c twOne 2 w g 0 l.toArray d' n os hH hgl hd
    have hlen2 : (twVs d'.toList).length = m * 2 := by rw [twVs_len, Array.length_toList, hd, hsz]
    refine ⟨he, d'.toList, by simpa using perm_arr hp, ?_, ⟨hlen2, fun _ => ⟨g, 0, rfl, Nat.lt_of_lt_of_le hgl (size_sortWorldK_c _ _ _ _ _ _ _ _), fun i v hv => ?_⟩⟩, ?_⟩
    · have := sorted_arr (by rw [hd, hsz]) hso
      exact this.imp fun {a b} h => by rw [cfW_lt] at h; exact h
    · have hi : i < d'.toList.length * 2 := by
        have := (List.getElem?_eq_some_iff.1 hv).1
        rwa [twVs_len] at this
      have h1 := flat_tw d'.toList i hi
      rw [hv] at h1
      have h2 := (hK i (by simpa using hi)).1
      rw [h2]
      simpa using h1.symm
    · exact But.below (Below.refl base w) (sortWorldK_but twOne 2 w g 0 n d' os) (fun i e => by have e' : i = g := e; omega) hb
end Go.Proofs.YtfjafpbmgbnllaaGreat
