/-
  What is proved here: what takes and Matches of package topic return, for every two texts of at most 10^11 bytes. Condition: so short texts.
-/
import Derived.Test.YtfjafpbmgbnllaaGreatTp6
namespace Go.Proofs.YtfjafpbmgbnllaaGreat
set_option linter.unusedVariables false
set_option linter.unusedSimpArgs false
open Go.RowKit Go.Shelf
attribute [local go_sem] Oper.semAt_some

/-- What is left of a name's levels. -/
def nsOf (left : List UInt8) (more : Bool) : List (List UInt8) := if more then lvls left else []
/-- takes' variables: what it answers, what is left of the name, whether there is more. -/
def TkB (W : World) (B0 B1 B2 : Nat) (r : Bool) (left : List UInt8) (more : Bool) : Prop :=
  Boxed W B0 4 (.bool r) ∧ Boxed W B1 9 (.string (str left)) ∧ Boxed W B2 4 (.bool more)
theorem TkB.oth {A B : World} {row : Option Nat} {B0 B1 B2 : Nat} {r : Bool} {left : List UInt8} {more : Bool} (h : TkB A B0 B1 B2 r left more) (hg : A.grownBy B row) (hr : ∀ r, row = some r → ∃ o : Obj, A.heap[r]? = some o ∧ o.isCells = false) : TkB B B0 B1 B2 r left more :=
  ⟨boxed_oth h.1 hg hr, boxed_oth h.2.1 hg hr, boxed_oth h.2.2 hg hr⟩
theorem TkB.below {A B : World} {B0 B1 B2 : Nat} {r : Bool} {left : List UInt8} {more : Bool} (h : TkB A B0 B1 B2 r left more) (k : Below A.heap.size A B) : TkB B B0 B1 B2 r left more :=
  h.oth (below_grown k) (fun r e => by cases e)
theorem TkB.st0 {W : World} {B0 B1 B2 : Nat} {r : Bool} {left : List UInt8} {more : Bool} (h : TkB W B0 B1 B2 r left more) (d1 : B1 ≠ B0) (d2 : B2 ≠ B0) (v : Bool) : TkB (W.setCell ⟨B0, 0, none⟩ (.bool v)) B0 B1 B2 v left more :=
  ⟨h.1.set _, h.2.1.other d1 _, h.2.2.other d2 _⟩
theorem TkB.st12 {W : World} {B0 B1 B2 : Nat} {r : Bool} {left : List UInt8} {more : Bool} (h : TkB W B0 B1 B2 r left more) (d1 : B0 ≠ B1) (d2 : B0 ≠ B2) (d3 : B1 ≠ B2) (l : List UInt8) (m : Bool) :
    TkB ((W.setCell ⟨B1, 0, none⟩ (.string (str l))).setCell ⟨B2, 0, none⟩ (.bool m)) B0 B1 B2 r l m :=
  ⟨(h.1.other d1 _).other d2 _, (h.2.1.set _).other d3 _, (h.2.2.other d3.symm _).set _⟩

/-- What was handed on of a filter's levels. -/
def lvP (pre : List (List UInt8 × Bool)) : List (List UInt8) := pre.map fun x => clip x.1
theorem lvP_snoc (pre : List (List UInt8 × Bool)) (x : List UInt8 × Bool) (rest : List (List UInt8)) : lvP (pre ++ [x]) ++ rest = lvP pre ++ (clip x.1 :: rest) := by simp [lvP]
theorem lasts_fst : ∀ ls : List (List UInt8), (lasts ls).map (·.1) = ls
  | [] => rfl
  | [l] => rfl
  | l :: m :: ls => by rw [lasts, List.map_cons, lasts_fst (m :: ls)]
theorem lvP_all (xs : List UInt8) (hs : xs.length ≤ 1000000000000) : lvP (lasts (lvls xs)) = lvls xs := by
  unfold lvP
  rw [show (lasts (lvls xs)).map (fun x => clip x.1) = (lasts (lvls xs)).map (·.1) from ?_, lasts_fst]
  refine List.map_congr_left fun p hp => ?_
  exact clip_id (by have := lvls_len xs _ (lasts_mem _ _ hp); omega)
theorem lvP_pre (xs : List UInt8) (hs : xs.length ≤ 1000000000000) {pre : List (List UInt8 × Bool)} (h : pre <+: lasts (lvls xs)) : ∃ rest, lvls xs = lvP pre ++ rest := by
  obtain ⟨t, ht⟩ := h
  refine ⟨lvP t, ?_⟩
  rw [← lvP_all xs hs, ← ht]
  simp [lvP]

set_option maxRecDepth 100000 in
set_option maxHeartbeats 4000000 in
theorem takes_in (xs ns : List UInt8) (hs : xs.length ≤ 100000000000) (hn : ns.length ≤ 100000000000) (w : World) :
    CallsIn Fence.wide 3 Tryz.prog 55 #[.string (str xs), .string (str ns)] w fun e w' => e = .returned (.bool (takesL (lvls xs) (lvls ns))) ∧ Below w.heap.size w w' := by
  refine callsIn_of_wp_marks Tryz.func55 rfl trivial ?_ rfl
  simp only [Tryz.ntmps55, List.size_toArray, List.length_cons, List.length_nil, Nat.reduceAdd, Nat.reduceSub, Array.replicate_succ, Array.replicate_zero, List.push_toArray, List.append_toArray, List.nil_append, List.cons_append]
  gi_wp2_with (refine ⟨trivial, ?_⟩; gi_at_call 37; refine (levels_in _ _ _).mono ?_; rintro e w2 ⟨rfl, rfl⟩)
  have c0 := Boxed.new w 4 (.bool false)
  have c1 := Boxed.new (w.alloc (.cells #[.bool false] 4)) 9 (.string (str ns))
  have c2 := Boxed.new ((w.alloc (.cells #[.bool false] 4)).alloc (.cells #[.string (str ns)] 9)) 4 (.bool true)
  have c3 := Boxed.new (((w.alloc (.cells #[.bool false] 4)).alloc (.cells #[.string (str ns)] 9)).alloc (.cells #[.bool true] 4)) 9 (.string (str xs))
  have hb : Below w.heap.size w ((((w.alloc (.cells #[.bool false] 4)).alloc (.cells #[.string (str ns)] 9)).alloc (.cells #[.bool true] 4)).alloc (.cells #[.string (str xs)] 9)) :=
    ((((Below.refl _ w).alloc (Nat.le_refl _) _).alloc (by simp) _).alloc (by simp; omega) _).alloc (by simp; omega) _
  replace c0 := ((c0.alloc (.cells #[.string (str ns)] 9)).alloc (.cells #[.bool true] 4)).alloc (.cells #[.string (str xs)] 9)
  replace c1 := (c1.alloc (.cells #[.bool true] 4)).alloc (.cells #[.string (str xs)] 9)
  replace c2 := c2.alloc (.cells #[.string (str xs)] 9)
  have hz : ((((w.alloc (.cells #[.bool false] 4)).alloc (.cells #[.string (str ns)] 9)).alloc (.cells #[.bool true] 4)).alloc (.cells #[.string (str xs)] 9)).heap.size = w.heap.size + 4 := by simp
  simp only [World.size_alloc] at c1 c2 c3
  obtain ⟨B0, e0⟩ : ∃ x, w.heap.size = x := ⟨_, rfl⟩
  rw [e0] at c0 c1 c2 c3 hb hz ⊢
  obtain ⟨B1, e1⟩ : ∃ x, B0 + 1 = x := ⟨_, rfl⟩
  rw [e1] at c1 c2 c3 ⊢
  obtain ⟨B2, e2⟩ : ∃ x, B1 + 1 = x := ⟨_, rfl⟩
  rw [e2] at c2 c3 ⊢
  obtain ⟨Bs, e3⟩ : ∃ x, B2 + 1 = x := ⟨_, rfl⟩
  rw [e3] at c3 ⊢
  obtain ⟨V, hV⟩ : ∃ V, (((w.alloc (.cells #[.bool false] 4)).alloc (.cells #[.string (str ns)] 9)).alloc (.cells #[.bool true] 4)).alloc (.cells #[.string (str xs)] 9) = V := ⟨_, rfl⟩
  rw [hV] at c0 c1 c2 c3 hb hz ⊢
  clear hV
  have n01 : B0 ≠ B1 := by omega
  have n02 : B0 ≠ B2 := by omega
  have n12 : B1 ≠ B2 := by omega
  have n10 : B1 ≠ B0 := by omega
  have n20 : B2 ≠ B0 := by omega
  have n21 : B2 ≠ B1 := by omega
  have l1 : B0 ≤ B1 := by omega
  have l2 : B0 ≤ B2 := by omega
  refine wpIn_rangeFunc_ownG rfl (by omega) (gf := 51) (lb := #[.pointer (some ⟨Bs, 0, none⟩)]) rfl trivial (enters_of Tryz.func51 (by kernel_rfl) rfl)
    (levels_stops 2 (by omega) Bs B0 xs (by omega) V (by omega) c3.cell) belowK_t (belowK_b (by omega)) (Below.refl _ _) (fun _ => rfl)
    (fun pre W => (∃ left more, TkB W B0 B1 B2 false left more ∧ left.length ≤ 100000000000 ∧ ∀ rest, takesL (lvP pre ++ rest) (lvls ns) = takesL rest (nsOf left more)) ∧ Below B0 w W)
    (fun cd pre W => (cd = .ret ∧ ∃ b left more, TkB W B0 B1 B2 b left more ∧ ∀ rest, takesL (lvP pre ++ rest) (lvls ns) = b) ∧ Below B0 w W)
    (OwnFrom.and (Own.from (fun s A B row hs hg hr => by obtain ⟨a, b, h1, h2⟩ := hs; exact ⟨a, b, h1.oth hg hr, h2⟩) _) (ownFrom_below (by omega) (by omega)))
    (fun cd => OwnFrom.and (Own.from (fun s A B row hs hg hr => by obtain ⟨h0, a, b, c, h1, h2⟩ := hs; exact ⟨h0, a, b, c, h1.oth hg hr, h2⟩) _) (ownFrom_below (by omega) (by omega)))
    ⟨⟨ns, true, ⟨c0, c1, c2⟩, hn, fun rest => rfl⟩, hb⟩
    (fun x => { tmps := #[.string (str xs), .string (str ns), undef, undef, .pointer (some ⟨B0, 0, none⟩), .pointer (some ⟨B1, 0, none⟩), .pointer (some ⟨B2, 0, none⟩), .string (str (clip x.1)), undef, .string (str ns), .string (str xs), .func (.func 51) #[] #[.pointer (some ⟨Bs, 0, none⟩)], .string (str (clip x.1)), .bool x.2, undef, undef, undef, undef, undef, undef, undef, undef, undef, undef, undef, undef, undef, undef, undef, undef, undef, undef, undef], defers := [] }) ?assign ?body ?done ?stop
  case assign =>
    intro l x W K hK
    gi_wp2
    exact hK
  case body =>
    rintro l pre x W ⟨⟨left, more, hbx, hl, hG⟩, hB⟩ hlt
    have Hb := hide hbx
    have HG := hide hG
    have HB := hide hB
    obtain ⟨d0, d1, d2⟩ := hbx
    have k0 := d0.cell
    have k1 := d1.cell
    have k2 := d2.cell
    have f0 := d0.frozen
    have f1 := d1.frozen
    have f2 := d2.frozen
    obtain ⟨L, hL⟩ : ∃ L, clip x.1 = L := ⟨_, rfl⟩
    have HL := hide hL
    rw [hL]
    have hWz : B0 ≤ W.heap.size := Nat.le_of_lt d0.lt
    clear hG hB hlt hL c0 c1 c2 c3 hb hz e0 e1 e2 e3 d0 d1 d2
    by_cases h35 : L = [35]
    · subst h35
      have q : (([35] : List UInt8) == [35]) = true := rfl
      gi_wp2
      refine ⟨(KeepsOthers.setCell _ _ _).from _, ⟨rfl, true, left, more, Hb.out.st0 n10 n20 true, fun rest => ?_⟩, HB.out.setCell (p := ⟨B0, 0, none⟩) (Nat.le_refl _) _⟩
      rw [lvP_snoc, HG.out, HL.out, takesL_eq, if_pos rfl]
    · have q35 : (L == [35]) = false := beq_eq_false_iff_ne.2 h35
      have H35 := hide h35
      clear h35
      cases more with
      | false =>
        gi_wp2
        refine ⟨(KeepsOthers.setCell _ _ _).from _, ⟨rfl, false, left, false, Hb.out.st0 n10 n20 false, fun rest => ?_⟩, HB.out.setCell (p := ⟨B0, 0, none⟩) (Nat.le_refl _) _⟩
        rw [lvP_snoc, HG.out, HL.out, takesL_eq, if_neg H35.out]
        rfl
      | true =>
        rcases cut_or left with hc | ⟨a, b, rfl, hc⟩
        · have HC := hide fun V => sCut_none left hc V
          have HNS : Hid (nsOf left true = left :: nsOf [] false) := lvls_none hc
          have hl2 : ([] : List UInt8).length ≤ 100000000000 := by simp
          clear hc
          have HST : Hid (∀ W1, Below W.heap.size W W1 → TkB ((W1.setCell ⟨B1, 0, none⟩ (.string (str []))).setCell ⟨B2, 0, none⟩ (.bool false)) B0 B1 B2 false [] false ∧ Below B0 w ((W1.setCell ⟨B1, 0, none⟩ (.string (str []))).setCell ⟨B2, 0, none⟩ (.bool false)) ∧ KeepsFrom V.heap.size W ((W1.setCell ⟨B1, 0, none⟩ (.string (str []))).setCell ⟨B2, 0, none⟩ (.bool false)) ∧ Below B0 W ((W1.setCell ⟨B1, 0, none⟩ (.string (str []))).setCell ⟨B2, 0, none⟩ (.bool false))) := fun W1 b1 =>
            ⟨(Hb.out.below b1).st12 n01 n02 n12 [] false, ((HB.out.trans (b1.mono hWz)).setCell (p := ⟨B1, 0, none⟩) l1 _).setCell (p := ⟨B2, 0, none⟩) l2 _,
              ((keepsFrom_below b1).trans ((KeepsOthers.setCell _ _ _).from _)).trans ((KeepsOthers.setCell _ _ _).from _), ((b1.mono hWz).setCell (p := ⟨B1, 0, none⟩) l1 _).setCell (p := ⟨B2, 0, none⟩) l2 _⟩
          by_cases hm : L = [43] ∨ L = left
          · have q : ((L == [43]) = false ∧ (L == left) = true) ∨ (L == [43]) = true := by
              by_cases h : L = [43]
              · exact .inr (beq_iff_eq.2 h)
              · exact .inl ⟨beq_eq_false_iff_ne.2 h, beq_iff_eq.2 (hm.resolve_left h)⟩
            have Hm := hide hm
            clear hm
            have HEND : Hid (∀ W1, Below W.heap.size W W1 → KeepsFrom V.heap.size W ((W1.setCell ⟨B1, 0, none⟩ (.string (str []))).setCell ⟨B2, 0, none⟩ (.bool false)) ∧ Below B0 W ((W1.setCell ⟨B1, 0, none⟩ (.string (str []))).setCell ⟨B2, 0, none⟩ (.bool false)) ∧
                (∃ left more, TkB ((W1.setCell ⟨B1, 0, none⟩ (.string (str []))).setCell ⟨B2, 0, none⟩ (.bool false)) B0 B1 B2 false left more ∧ left.length ≤ 100000000000 ∧ ∀ rest, takesL (lvP (pre ++ [x]) ++ rest) (lvls ns) = takesL rest (nsOf left more)) ∧ Below B0 w ((W1.setCell ⟨B1, 0, none⟩ (.string (str []))).setCell ⟨B2, 0, none⟩ (.bool false))) := fun W1 b1 =>
              ⟨(HST.out W1 b1).2.2.1, (HST.out W1 b1).2.2.2, ⟨[], false, (HST.out W1 b1).1, hl2, fun rest => by rw [lvP_snoc, HG.out, HL.out, HNS.out, takesL_eq, if_neg H35.out]; show (if _ then _ else _) = _; rw [if_pos Hm.out]⟩, (HST.out W1 b1).2.1⟩
            rcases q with ⟨q1, q2⟩ | q1
            · gi_wp2_with (refine ⟨trivial, ?_⟩; gi_at_call 52; refine (CallsIn.inRound l (callsIn_wide.2 (HC.out _))).mono ?_; rintro e w1 ⟨rfl, b1⟩; have g0 := (Hb.out.below b1).1.cell; have g1 := (Hb.out.below b1).2.1.cell; have g2 := (Hb.out.below b1).2.2.cell; have h0 := (Hb.out.below b1).1.frozen; have h1 := (Hb.out.below b1).2.1.frozen; have h2 := (Hb.out.below b1).2.2.frozen; clear k0 k1 k2 f0 f1 f2)
              exact HEND.out _ b1
            · gi_wp2_with (refine ⟨trivial, ?_⟩; gi_at_call 52; refine (CallsIn.inRound l (callsIn_wide.2 (HC.out _))).mono ?_; rintro e w1 ⟨rfl, b1⟩; have g0 := (Hb.out.below b1).1.cell; have g1 := (Hb.out.below b1).2.1.cell; have g2 := (Hb.out.below b1).2.2.cell; have h0 := (Hb.out.below b1).1.frozen; have h1 := (Hb.out.below b1).2.1.frozen; have h2 := (Hb.out.below b1).2.2.frozen; clear k0 k1 k2 f0 f1 f2)
              exact HEND.out _ b1
          · have q1 : (L == [43]) = false := beq_eq_false_iff_ne.2 fun h => hm (.inl h)
            have q2 : (L == left) = false := beq_eq_false_iff_ne.2 fun h => hm (.inr h)
            have Hm := hide hm
            clear hm
            gi_wp2_with (refine ⟨trivial, ?_⟩; gi_at_call 52; refine (CallsIn.inRound l (callsIn_wide.2 (HC.out _))).mono ?_; rintro e w1 ⟨rfl, b1⟩; have g0 := (Hb.out.below b1).1.cell; have g1 := (Hb.out.below b1).2.1.cell; have g2 := (Hb.out.below b1).2.2.cell; have h0 := (Hb.out.below b1).1.frozen; have h1 := (Hb.out.below b1).2.1.frozen; have h2 := (Hb.out.below b1).2.2.frozen; clear k0 k1 k2 f0 f1 f2)
            have G := HST.out _ b1
            refine ⟨G.2.2.1.trans ((KeepsOthers.setCell _ _ _).from _), ⟨rfl, false, [], false, G.1.st0 n10 n20 false, fun rest => ?_⟩, G.2.1.setCell (p := ⟨B0, 0, none⟩) (Nat.le_refl _) _⟩
            rw [lvP_snoc, HG.out, HL.out, HNS.out, takesL_eq, if_neg H35.out]
            show (if _ then _ else _) = _
            rw [if_neg Hm.out]
        · have HC := hide fun V => sCut_some a b hc (by simp at hl; omega) V
          have HNS : Hid (nsOf (a ++ 47 :: b) true = a :: nsOf b true) := lvls_cut hc
          have hl2 : b.length ≤ 100000000000 := by simp at hl; omega
          clear hc hl
          obtain ⟨NB, hNB⟩ : ∃ NB, a ++ 47 :: b = NB := ⟨_, rfl⟩
          rw [hNB] at HC HNS HG Hb k1
          clear hNB
          have HST : Hid (∀ W1, Below W.heap.size W W1 → TkB ((W1.setCell ⟨B1, 0, none⟩ (.string (str b))).setCell ⟨B2, 0, none⟩ (.bool true)) B0 B1 B2 false b true ∧ Below B0 w ((W1.setCell ⟨B1, 0, none⟩ (.string (str b))).setCell ⟨B2, 0, none⟩ (.bool true)) ∧ KeepsFrom V.heap.size W ((W1.setCell ⟨B1, 0, none⟩ (.string (str b))).setCell ⟨B2, 0, none⟩ (.bool true)) ∧ Below B0 W ((W1.setCell ⟨B1, 0, none⟩ (.string (str b))).setCell ⟨B2, 0, none⟩ (.bool true))) := fun W1 b1 =>
            ⟨(Hb.out.below b1).st12 n01 n02 n12 b true, ((HB.out.trans (b1.mono hWz)).setCell (p := ⟨B1, 0, none⟩) l1 _).setCell (p := ⟨B2, 0, none⟩) l2 _,
              ((keepsFrom_below b1).trans ((KeepsOthers.setCell _ _ _).from _)).trans ((KeepsOthers.setCell _ _ _).from _), ((b1.mono hWz).setCell (p := ⟨B1, 0, none⟩) l1 _).setCell (p := ⟨B2, 0, none⟩) l2 _⟩
          by_cases hm : L = [43] ∨ L = a
          · have q : ((L == [43]) = false ∧ (L == a) = true) ∨ (L == [43]) = true := by
              by_cases h : L = [43]
              · exact .inr (beq_iff_eq.2 h)
              · exact .inl ⟨beq_eq_false_iff_ne.2 h, beq_iff_eq.2 (hm.resolve_left h)⟩
            have Hm := hide hm
            clear hm
            have HEND : Hid (∀ W1, Below W.heap.size W W1 → KeepsFrom V.heap.size W ((W1.setCell ⟨B1, 0, none⟩ (.string (str b))).setCell ⟨B2, 0, none⟩ (.bool true)) ∧ Below B0 W ((W1.setCell ⟨B1, 0, none⟩ (.string (str b))).setCell ⟨B2, 0, none⟩ (.bool true)) ∧
                (∃ left more, TkB ((W1.setCell ⟨B1, 0, none⟩ (.string (str b))).setCell ⟨B2, 0, none⟩ (.bool true)) B0 B1 B2 false left more ∧ left.length ≤ 100000000000 ∧ ∀ rest, takesL (lvP (pre ++ [x]) ++ rest) (lvls ns) = takesL rest (nsOf left more)) ∧ Below B0 w ((W1.setCell ⟨B1, 0, none⟩ (.string (str b))).setCell ⟨B2, 0, none⟩ (.bool true))) := fun W1 b1 =>
              ⟨(HST.out W1 b1).2.2.1, (HST.out W1 b1).2.2.2, ⟨b, true, (HST.out W1 b1).1, hl2, fun rest => by rw [lvP_snoc, HG.out, HL.out, HNS.out, takesL_eq, if_neg H35.out]; show (if _ then _ else _) = _; rw [if_pos Hm.out]⟩, (HST.out W1 b1).2.1⟩
            rcases q with ⟨q1, q2⟩ | q1
            · gi_wp2_with (refine ⟨trivial, ?_⟩; gi_at_call 52; refine (CallsIn.inRound l (callsIn_wide.2 (HC.out _))).mono ?_; rintro e w1 ⟨rfl, b1⟩; have g0 := (Hb.out.below b1).1.cell; have g1 := (Hb.out.below b1).2.1.cell; have g2 := (Hb.out.below b1).2.2.cell; have h0 := (Hb.out.below b1).1.frozen; have h1 := (Hb.out.below b1).2.1.frozen; have h2 := (Hb.out.below b1).2.2.frozen; clear k0 k1 k2 f0 f1 f2)
              exact HEND.out _ b1
            · gi_wp2_with (refine ⟨trivial, ?_⟩; gi_at_call 52; refine (CallsIn.inRound l (callsIn_wide.2 (HC.out _))).mono ?_; rintro e w1 ⟨rfl, b1⟩; have g0 := (Hb.out.below b1).1.cell; have g1 := (Hb.out.below b1).2.1.cell; have g2 := (Hb.out.below b1).2.2.cell; have h0 := (Hb.out.below b1).1.frozen; have h1 := (Hb.out.below b1).2.1.frozen; have h2 := (Hb.out.below b1).2.2.frozen; clear k0 k1 k2 f0 f1 f2)
              exact HEND.out _ b1
          · have q1 : (L == [43]) = false := beq_eq_false_iff_ne.2 fun h => hm (.inl h)
            have q2 : (L == a) = false := beq_eq_false_iff_ne.2 fun h => hm (.inr h)
            have Hm := hide hm
            clear hm
            gi_wp2_with (refine ⟨trivial, ?_⟩; gi_at_call 52; refine (CallsIn.inRound l (callsIn_wide.2 (HC.out _))).mono ?_; rintro e w1 ⟨rfl, b1⟩; have g0 := (Hb.out.below b1).1.cell; have g1 := (Hb.out.below b1).2.1.cell; have g2 := (Hb.out.below b1).2.2.cell; have h0 := (Hb.out.below b1).1.frozen; have h1 := (Hb.out.below b1).2.1.frozen; have h2 := (Hb.out.below b1).2.2.frozen; clear k0 k1 k2 f0 f1 f2)
            have G := HST.out _ b1
            refine ⟨G.2.2.1.trans ((KeepsOthers.setCell _ _ _).from _), ⟨rfl, false, b, true, G.1.st0 n10 n20 false, fun rest => ?_⟩, G.2.1.setCell (p := ⟨B0, 0, none⟩) (Nat.le_refl _) _⟩
            rw [lvP_snoc, HG.out, HL.out, HNS.out, takesL_eq, if_neg H35.out]
            show (if _ then _ else _) = _
            rw [if_neg Hm.out]
  case done =>
    rintro D ys W hD rfl ⟨⟨left, more, hbx, hl, hG⟩, hB⟩ hK
    have HR := hide (hG [])
    have HB := hide hB
    have He0 := hide e0
    have k0 := hbx.1.cell
    have k2 := hbx.2.2.cell
    have f0 := hbx.1.frozen
    clear hG hB c0 c1 c2 c3 hb e0 e1 e2 e3
    gi_wp2
    have hK' := (KeepsOthers.setCell W ⟨B0, 0, none⟩ (.bool (!more))).same D _ hK rfl
    refine ⟨by simp, .inl ⟨_, _, rfl, run_takeDeferred hK', ?_⟩⟩
    have G2 := boxed_oth (hbx.1.set (.bool (!more))) (grownBy_putObj' _ D (.deferred none)) (fun r e => by cases e; exact ⟨_, hK', rfl⟩)
    refine ⟨_, results_cell1 rfl rfl aggT_bool G2.cell, ?_, ?_⟩
    · have h := HR.out
      rw [lvP_all xs (by omega), List.append_nil] at h
      rw [h]
      cases more with
      | false => rfl
      | true =>
        obtain ⟨m, ms, hm⟩ := lvls_cons left
        unfold nsOf
        rw [if_pos rfl, hm]
        rfl
    · rw [He0.out]
      exact (HB.out.setCell (p := ⟨B0, 0, none⟩) (Nat.le_refl _) _).trans (belowK_b (w := V) (by omega) _ D _ _ hD hK' rfl rfl)
  case stop =>
    rintro D cd pre W hD hpr ⟨⟨rfl, b, left, more, hbx, hG⟩, hB⟩ hK
    have HG := hide hG
    have HB := hide hB
    have He0 := hide e0
    clear hG hB c0 c1 c2 c3 hb e0 e1 e2 e3
    gi_wp2
    refine ⟨by simp, .inl ⟨_, _, rfl, run_takeDeferred hK, ?_⟩⟩
    have G2 := boxed_oth hbx.1 (grownBy_putObj' _ D (.deferred none)) (fun r e => by cases e; exact ⟨_, hK, rfl⟩)
    refine ⟨_, results_cell1 rfl rfl aggT_bool G2.cell, ?_, ?_⟩
    · obtain ⟨rest, hr⟩ := lvP_pre xs (by omega) hpr
      rw [hr, HG.out]
    · rw [He0.out]
      exact HB.out.trans (belowK_b (w := V) (by omega) _ D _ _ hD hK rfl rfl)

end Go.Proofs.YtfjafpbmgbnllaaGreat
