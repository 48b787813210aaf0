/-
  What is proved here: what master's Came answers, and what becomes of the master. Condition: the master keeps to MOk.
-/
import Derived.Test.YtnialjikpoembaaMs11
import Derived.Test.YtnialjikpoembaaPdu17
namespace Go.Proofs.Ytnialjikpoembaa
set_option linter.unusedVariables false
set_option linter.unusedSimpArgs false
open Go.RowKit Go.Maps

/-- What Came answers. -/
def RetCame (m : ML) (R : List Dn × Int × MSt) (w : World) (e : Ending) (w' : World) : Prop :=
  ∃ (P : Option Addr) (l : Nat) (ds : List DM) (m' : ML), e = .returned (.tuple #[.slice P ds.length l, .int .i64 R.2.1]) ∧ ds.map DM.dn = R.1 ∧ DRd w' P ds.length ds ∧ (∀ d ∈ ds, NewAt w d.V) ∧ MsA w' m' R.2.2 ∧ m'.g = m.g ∧ m'.n = m.n ∧ But m.S w w' ∧ (∀ i, m'.S i → m.S i ∨ w.heap.size ≤ i) ∧ (∀ b o, P = some ⟨b, o, none⟩ → ¬ m'.S b ∧ w.heap.size ≤ b)
theorem RetCame.none_ {m : ML} {E : Int} {s' : MSt} {w w' : World} (h : MsA w' m s') (b : But m.S w w') : RetCame m ([], E, s') w (.returned (.tuple #[.slice none 0 0, .int .i64 E])) w' :=
  ⟨none, 0, [], m, rfl, rfl, Or.inl ⟨rfl, rfl⟩, by simp, h, rfl, rfl, b, fun i h => Or.inl h, fun _ _ e => by cases e⟩

theorem msCame_bad (m : ML) (s : MSt) (now u : Int) (B : Option Addr) (l d : Nat) (xs : List UInt8) (w : World) (h : MsA w m s) (hk : MOk s) (hb : tickBad s now = true) :
    Calls Try.prog 19 #[.pointer (some ⟨m.g, 0, none⟩), .int .i64 now, .int .i64 u, .slice B l d] w (RetCame m (cameR s now u xs) w) := by
  rw [cameR_bad hb]
  have hlt : now < s.now := by
    have := hk.n0
    simp only [tickBad, Bool.or_eq_true, decide_eq_true_eq] at hb
    omega
  have HR := hide (msReach_bad m s now w h hlt)
  have H := hide h
  clear h hk hb hlt
  go_enter Try.func19, Try.ntmps19
  go_wp2_with fail
  refine HR.out.mono ?_
  rintro e w1 ⟨rfl, rfl⟩
  go_wp2
  go_ret2
  exact RetCame.none_ H.out (But.refl _ _)
theorem msCame_none (m : ML) (s : MSt) (now u : Int) (B : Option Addr) (l d : Nat) (xs : List UInt8) (w : World) (h : MsA w m s) (hk : MOk s) (hb : tickBad s now = false) (ho : s.out = none) :
    Calls Try.prog 19 #[.pointer (some ⟨m.g, 0, none⟩), .int .i64 now, .int .i64 u, .slice B l d] w (RetCame m (cameR s now u xs) w) := by
  rw [cameR_none hb ho]
  have hmo : m.o = none := by
    have := h.out
    rw [ho] at this
    exact this.none_
  clear ho
  obtain ⟨hn0, hn1⟩ := ok_lt hb
  have HR := hide (msReach_ok m s now w h hn1)
  have HK := hide hk
  clear h hb hn0 hn1 hk
  go_enter Try.func19, Try.ntmps19
  go_wp2_with fail
  refine HR.out.mono ?_
  rintro e w1 ⟨rfl, a1, b1⟩
  have A1 := hide a1
  have B1 := hide b1
  obtain ⟨c0, c1, c2, c3, c4, c5, c6, c7⟩ := a1.blk.eight
  clear a1 b1 c0 c1 c2 c3 c4 c5 c7
  have BW : Hid (But m.S w w1) := hide (B1.out.wide (S' := m.S) (fun i e => Or.inl e))
  rw [hmo] at c6
  simp only [optP] at c6
  clear hmo
  go_wp2
  go_ret2
  exact RetCame.none_ A1.out BW.out
theorem msCame_unit (m : ML) (s : MSt) (now u : Int) (x : Wt) (t : Int) (B : Option Addr) (l d : Nat) (xs : List UInt8) (w : World) (h : MsA w m s) (hk : MOk s) (hb : tickBad s now = false) (ho : s.out = some (x, t)) (hu : ¬ x.u = u) :
    Calls Try.prog 19 #[.pointer (some ⟨m.g, 0, none⟩), .int .i64 now, .int .i64 u, .slice B l d] w (RetCame m (cameR s now u xs) w) := by
  rw [cameR_unit hb ho hu]
  have hO := h.out
  rw [ho] at hO
  obtain ⟨b, y, eo, ey, hB, hyo⟩ := hO.some_
  have HQ := hide (hk.omay x t ho)
  have EO := hide eo
  have EY := hide ey
  have HO := hide ho
  clear ey ho hB hyo hO
  obtain ⟨hn0, hn1⟩ := ok_lt hb
  have HR := hide (msReach_ok m s now w h hn1)
  have HK := hide hk
  clear h hb hn0 hn1 hk
  go_enter Try.func19, Try.ntmps19
  go_wp2_with fail
  refine HR.out.mono ?_
  rintro e w1 ⟨rfl, a1, b1⟩
  have A1 := hide a1
  have B1 := hide b1
  obtain ⟨c0, c1, c2, c3, c4, c5, c6, c7⟩ := a1.blk.eight
  clear a1 b1 c0 c1 c2 c3 c4 c5 c7
  have BW : Hid (But m.S w w1) := hide (B1.out.wide (S' := m.S) (fun i e => Or.inl e))
  rw [eo] at c6
  simp only [optP] at c6
  have hO1 := A1.out.out
  rw [HO.out] at hO1
  obtain ⟨b', y', eo', ey', hB1, hy1⟩ := hO1.some_
  rw [eo] at eo'
  injection eo' with eo'
  injection eo' with e1 e2
  subst e1 e2
  have hyu : y.u = x.u := by rw [← EY.out]; rfl
  have HB1 := hide hB1
  have HY1 := hide hy1
  clear hO1 hy1 ey' eo
  have d1 : w1.cell? ⟨b, 1, none⟩ = some (.int .i64 x.u) := by rw [← hyu]; exact hB1.cell 1
  have q : (x.u != u) = true := ne_bne hu
  clear hB1 hyu hu
  go_wp2
  go_ret2
  exact RetCame.none_ A1.out BW.out
theorem msCame_no (m : ML) (s : MSt) (now u : Int) (x : Wt) (t : Int) (B : Option Addr) (l d : Nat) (xs : List UInt8) (w : World) (h : MsA w m s) (hk : MOk s) (hb : tickBad s now = false) (ho : s.out = some (x, t)) (hu : x.u = u) (hp : ansParseL x.r xs = none) (hr : Rd w B l (bv xs)) (hd : l ≤ d) (hoff : Off m.S B) :
    Calls Try.prog 19 #[.pointer (some ⟨m.g, 0, none⟩), .int .i64 now, .int .i64 u, .slice B l d] w (RetCame m (cameR s now u xs) w) := by
  rw [cameR_no hb ho hu hp]
  have hO := h.out
  rw [ho] at hO
  obtain ⟨b, y, eo, rfl, hB, hyo⟩ := hO.some_
  obtain ⟨tk, yu, r, V, k⟩ := y
  have hyu : yu = u := hu
  subst hyu
  have hpl : ∀ W, Rd W V r.vs.length (iv r.vs) → Rd W B l (bv xs) → Calls Try.prog 38 #[.agg #[.int .i64 r.f, .int .i64 r.a, .int .i64 r.c, .slice V r.vs.length k, .int .i64 r.t, .int .i64 r.an, .int .i64 r.o], .slice B l d] W (RetAnN ((ansParseL r xs).getD An.none) (if (ansParseL r xs).isSome then 0 else 4) W) :=
    fun W h1 h2 => pansN_any r.f r.a r.c r.t r.an r.o V B r.vs.length k l d r.vs xs W h1 (by have := may_vs (hk.omay _ t ho).1.1; exact Nat.le_trans this (by omega)) h2 hd (hk.omay _ t ho).1.1
  have hpa : ansParseL r xs = none := hp
  rw [hpa] at hpl
  have HPL := hide hpl
  have EO := hide eo
  have HO := hide ho
  have HRB := hide hr
  have HOF := hide hoff
  clear ho hB hyo hO hpl hp hpa hu hr hoff hd
  obtain ⟨hn0, hn1⟩ := ok_lt hb
  have HR := hide (msReach_ok m s now w h hn1)
  have HK := hide hk
  clear h hb hn0 hn1 hk
  go_enter Try.func19, Try.ntmps19
  go_wp2_with fail
  refine HR.out.mono ?_
  rintro e w1 ⟨rfl, a1, b1⟩
  have A1 := hide a1
  have B1 := hide b1
  obtain ⟨c0, c1, c2, c3, c4, c5, c6, c7⟩ := a1.blk.eight
  clear a1 b1 c0 c1 c2 c3 c4 c5 c7
  have BW : Hid (But m.S w w1) := hide (B1.out.wide (S' := m.S) (fun i e => Or.inl e))
  rw [eo] at c6
  simp only [optP] at c6
  have hO1 := A1.out.out
  rw [HO.out] at hO1
  obtain ⟨b', y', eo', ey', hB1, hy1⟩ := hO1.some_
  rw [eo] at eo'
  injection eo' with eo'
  injection eo' with e1 e2
  subst e1 e2
  have HY1 := hide hy1
  obtain ⟨d0, d1, d2, d3, d4, d5, d6, d7, d8, d9, d10⟩ := Blk.eleven hB1
  simp only at d0 d1 d2 d3 d4 d5 d6 d7 d8
  have q : (yu != yu) = false := by simp
  have hBw := HRB.out.but B1.out (fun b o e h' => HOF.out b o e (Or.inl h'))
  have HBW := hide hBw
  clear hO1 hy1 ey' eo hB1 hBw
  go_wp2_with fail
  refine (HPL.out w1 HY1.out.is HBW.out).mono ?_
  rintro e w2 ⟨C, n, ck, rfl, lC, rC, b2, nC⟩
  have RC := hide rC
  have B2 := hide b2
  have NC := hide nC
  clear rC b2 nC d0 d1 d2 d3 d4 d5 d6 d7 d8 d9 d10 c6
  go_wp2
  go_ret2
  exact RetCame.none_ (A1.out.keep (below_on B2.out ((Below.refl _ _).alloc (Nat.le_refl _) _))) (BW.out.on (below_on B2.out ((Below.refl _ _).alloc (Nat.le_refl _) _)))
theorem msCame_yes (m : ML) (s : MSt) (now u : Int) (x : Wt) (t : Int) (an : An) (B : Option Addr) (l d : Nat) (xs : List UInt8) (w : World) (h : MsA w m s) (hk : MOk s) (hb : tickBad s now = false) (ho : s.out = some (x, t)) (hu : x.u = u) (hp : ansParseL x.r xs = some an) (hr : Rd w B l (bv xs)) (hd : l ≤ d) (hoff : Off m.S B) :
    Calls Try.prog 19 #[.pointer (some ⟨m.g, 0, none⟩), .int .i64 now, .int .i64 u, .slice B l d] w (RetCame m (cameR s now u xs) w) := by
  rw [cameR_yes hb ho hu hp]
  have hO := h.out
  rw [ho] at hO
  obtain ⟨b, y, eo, rfl, hB, hyo⟩ := hO.some_
  obtain ⟨tk, yu, r, V, k⟩ := y
  have hyu : yu = u := hu
  subst hyu
  have hpl : ∀ W, Rd W V r.vs.length (iv r.vs) → Rd W B l (bv xs) → Calls Try.prog 38 #[.agg #[.int .i64 r.f, .int .i64 r.a, .int .i64 r.c, .slice V r.vs.length k, .int .i64 r.t, .int .i64 r.an, .int .i64 r.o], .slice B l d] W (RetAnN ((ansParseL r xs).getD An.none) (if (ansParseL r xs).isSome then 0 else 4) W) :=
    fun W h1 h2 => pansN_any r.f r.a r.c r.t r.an r.o V B r.vs.length k l d r.vs xs W h1 (by have := may_vs (hk.omay _ t ho).1.1; exact Nat.le_trans this (by omega)) h2 hd (hk.omay _ t ho).1.1
  have hpa : ansParseL r xs = (some an) := hp
  rw [hpa] at hpl
  have HPL := hide hpl
  have EO := hide eo
  have HO := hide ho
  have HRB := hide hr
  have HOF := hide hoff
  clear ho hB hyo hO hpl hp hpa hu hr hoff hd
  obtain ⟨hn0, hn1⟩ := ok_lt hb
  have HR := hide (msReach_ok m s now w h hn1)
  have HK := hide hk
  clear h hb hn0 hn1 hk
  go_enter Try.func19, Try.ntmps19
  go_wp2_with fail
  refine HR.out.mono ?_
  rintro e w1 ⟨rfl, a1, b1⟩
  have A1 := hide a1
  have B1 := hide b1
  obtain ⟨c0, c1, c2, c3, c4, c5, c6, c7⟩ := a1.blk.eight
  clear a1 b1 c0 c1 c2 c3 c4 c5 c7
  have BW : Hid (But m.S w w1) := hide (B1.out.wide (S' := m.S) (fun i e => Or.inl e))
  rw [eo] at c6
  simp only [optP] at c6
  have hO1 := A1.out.out
  rw [HO.out] at hO1
  obtain ⟨b', y', eo', ey', hB1, hy1⟩ := hO1.some_
  rw [eo] at eo'
  injection eo' with eo'
  injection eo' with e1 e2
  subst e1 e2
  have HY1 := hide hy1
  obtain ⟨d0, d1, d2, d3, d4, d5, d6, d7, d8, d9, d10⟩ := Blk.eleven hB1
  simp only at d0 d1 d2 d3 d4 d5 d6 d7 d8
  have q : (yu != yu) = false := by simp
  have hBw := HRB.out.but B1.out (fun b o e h' => HOF.out b o e (Or.inl h'))
  have HBW := hide hBw
  clear hO1 hy1 ey' eo hB1 hBw
  go_wp2_with fail
  refine (HPL.out w1 HY1.out.is HBW.out).mono ?_
  rintro e w2 ⟨C, n, ck, rfl, lC, rC, b2, nC⟩
  have RC := hide rC
  have B2 := hide b2
  have NC := hide nC
  clear rC b2 nC d0 d1 d2 d3 d4 d5 d6 d7 d8 d9 d10 c6
  obtain rfl : n = an.us.length := by
    have := RC.out.1
    rw [iv_length] at this
    exact this.symm
  go_wp2_with fail
  have bW : Below w1.heap.size w1 (w2.alloc (.cells #[.slice C an.us.length ck, .int .i64 an.code] 61)) := below_on B2.out ((Below.refl _ _).alloc (Nat.le_refl _) _)
  have rC2 : Rd (w2.alloc (.cells #[.slice C an.us.length ck, .int .i64 an.code] 61)) C an.us.length (iv an.us) := RC.out.keep ((Below.refl _ _).alloc (Nat.le_refl _) _)
  have hsW : w1.heap.size ≤ (w2.alloc (.cells #[.slice C an.us.length ck, .int .i64 an.code] 61)).heap.size := bW.size
  generalize w2.alloc (.cells #[.slice C an.us.length ck, .int .i64 an.code] 61) = W at *
  have HRW := hide rC2
  have HBWW := hide bW
  refine (msEnd m _ ⟨tk, yu, r⟩ t 0 an false C ck W (A1.out.keep bW) HO.out).mono ?_
  rintro e w4 ⟨O, rfl, zO, hO, a4, b4⟩
  have ZO := hide zO
  have HOO := hide hO
  have A4 := hide a4
  have B4 := hide b4
  clear zO hO a4 b4 rC2 bW
  go_wp2
  go_ret2
  have hs1 := BW.out.size
  have hgl : m.g < w1.heap.size := A1.out.blk.lt
  have hoo := HOO.out
  refine ⟨some ⟨O, 0, none⟩, 1, [⟨tk, an, false, C, ck⟩], { m with o := none }, rfl, rfl, Or.inr ⟨_, O, rfl, rfl, rfl, ZO.out, HRW.out.but B4.out (fun b' o' e' h' => by have := NC.out b' o' e'; omega)⟩, (fun d hd b' o' e' => by simp at hd; subst hd; have := NC.out b' o' e'; omega), A4.out, rfl, rfl, (BW.out.on HBWW.out).trans B4.out (fun i _ e => Or.inl e), fun i hi => Or.inl (ML.S_gone hi), ?_⟩
  intro b' o' e
  injection e with e
  injection e with e _ _
  refine ⟨fun hc => ?_, by omega⟩
  have := A1.out.lt b' (ML.S_gone hc)
  omega

theorem msCame_any (m : ML) (s : MSt) (now u : Int) (B : Option Addr) (l d : Nat) (xs : List UInt8) (w : World) (h : MsA w m s) (hk : MOk s) (hr : Rd w B l (bv xs)) (hd : l ≤ d) (hoff : Off m.S B) :
    Calls Try.prog 19 #[.pointer (some ⟨m.g, 0, none⟩), .int .i64 now, .int .i64 u, .slice B l d] w (RetCame m (cameR s now u xs) w) := by
  cases hb : tickBad s now
  · rcases out_cases s with ho | ⟨x, t, ho⟩
    · exact msCame_none m s now u B l d xs w h hk hb ho
    · by_cases hu : x.u = u
      · cases hp : ansParseL x.r xs with
        | none => exact msCame_no m s now u x t B l d xs w h hk hb ho hu hp hr hd hoff
        | some an => exact msCame_yes m s now u x t an B l d xs w h hk hb ho hu hp hr hd hoff
      · exact msCame_unit m s now u x t B l d xs w h hk hb ho hu
  · exact msCame_bad m s now u B l d xs w h hk hb
end Go.Proofs.Ytnialjikpoembaa
