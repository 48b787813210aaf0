/-
  What is proved here: calls of an index that is nil; the index's calls in the form that the laws use, for an index that is new since a world; what the law's awake of layer 13 returns. Conditions: texts of at most 65535 bytes; at most a million calls.
-/
import Derived.Test.YtfjafpbmgbnllaaGreatSp10
import Derived.Test.YtfjafpbmgbnllaaGreatSr1
import Derived.Test.YtfjafpbmgbnllaaGreatSr5
namespace Go.Proofs.YtfjafpbmgbnllaaGreat
set_option linter.unusedVariables false
set_option linter.unusedSimpArgs false
open Go.RowKit Go.Maps

/-- An index that is nil. -/
theorem nilAdd (c f : List UInt8) (q : Int) (w : World) : Calls Tryz.prog 6 #[.pointer none, .string (str c), .agg #[.string (str f), .int .i64 q]] w fun e w' => e = .returned (.tuple #[.bool false, .int .i64 3]) ∧ Below w.heap.size w w' := by
  go_enter Tryz.func6, Tryz.ntmps6
  go_wp2
  go_ret2
  exact ⟨rfl, (Below.refl _ _).alloc (Nat.le_refl _) _⟩
theorem nilDrop (c f : List UInt8) (w : World) : Calls Tryz.prog 8 #[.pointer none, .string (str c), .string (str f)] w fun e w' => e = .returned (.tuple #[.bool false, .int .i64 3]) ∧ w' = w := by
  go_enter Tryz.func8, Tryz.ntmps8
  go_wp2
  go_ret2
  exact ⟨rfl, rfl⟩
theorem nilGone (c : List UInt8) (w : World) : Calls Tryz.prog 10 #[.pointer none, .string (str c)] w fun e w' => e = .returned (.tuple #[.int .i64 0, .int .i64 3]) ∧ w' = w := by
  go_enter Tryz.func10, Tryz.ntmps10
  go_wp2
  go_ret2
  exact ⟨rfl, rfl⟩
theorem nilFind (n : List UInt8) (w : World) : Calls Tryz.prog 12 #[.pointer none, .string (str n)] w fun e w' => e = .returned (.tuple #[.slice none 0 0, .int .i64 3]) ∧ w' = w := by
  go_enter Tryz.func12, Tryz.ntmps12
  go_wp2
  go_ret2
  exact ⟨rfl, rfl⟩
theorem nilOf (c : List UInt8) (w : World) : Calls Tryz.prog 16 #[.pointer none, .string (str c)] w fun e w' => e = .returned (.tuple #[.slice none 0 0, .int .i64 3]) ∧ Below w.heap.size w w' := by
  go_enter Tryz.func16, Tryz.ntmps16
  go_wp2
  go_ret2
  exact ⟨rfl, ((Below.refl _ _).alloc (Nat.le_refl _) _).alloc (by simp) _⟩

/-- An index that is new since v. -/
structure PvA (v w : World) (m : Px) : Prop where
  a : PxA w m
  new : ∀ i, m.S i → v.heap.size ≤ i
  bel : Below v.heap.size v w
theorem PvA.keep {v w w' : World} {m : Px} (h : PvA v w m) (b : Below w.heap.size w w') : PvA v w' m := ⟨h.a.keep b, h.new, below_on h.bel b⟩
theorem PvA.step {v w w' : World} {m m' : Px} (h : PvA v w m) (p : PxA w' m') (hb : But m.S w w') (hs : ∀ i, m'.S i → m.S i ∨ w.heap.size ≤ i) : PvA v w' m' :=
  ⟨p, fun i hi => by
    rcases hs i hi with h1 | h1
    · exact h.new i h1
    · exact Nat.le_trans h.bel.size h1, But.below h.bel hb h.new h.bel.size⟩
def Xs (v w : World) (B : Nat) (es : List SE) (K : Nat) : Prop := ∃ m, PvA v w m ∧ m.B = B ∧ ses m.L = es ∧ m.K ≤ K
section
variable {v w w' : World} {B K : Nat} {es : List SE}
theorem Xs.keep (h : Xs v w B es K) (b : Below w.heap.size w w') : Xs v w' B es K := by
  obtain ⟨m, h1, h2⟩ := h
  exact ⟨m, h1.keep b, h2⟩
theorem Xs.bel (h : Xs v w B es K) : Below v.heap.size v w := by
  obtain ⟨m, h1, h2⟩ := h
  exact h1.bel
theorem Xs.okE (h : Xs v w B es K) : okE es := by
  obtain ⟨m, h1, h2, h3, h4⟩ := h
  rw [← h3]
  exact h1.a.ok.okL
theorem Xs.len (h : Xs v w B es K) : es.length ≤ K := by
  obtain ⟨m, h1, h2, h3, h4⟩ := h
  rw [← h3]
  have := h1.a.ok.len
  simp only [ses, List.length_map]
  omega
theorem Xs.more (h : Xs v w B es K) {K' : Nat} (hk : K ≤ K') : Xs v w B es K' := by
  obtain ⟨m, h1, h2, h3, h4⟩ := h
  exact ⟨m, h1, h2, h3, by omega⟩
theorem dropV_ok {es : List SE} (c f : List UInt8) : (dropV es c f).length ≤ es.length := by
  unfold dropV
  split
  · exact List.length_filter_le _ _
  · exact Nat.le_refl _
def RetXN (v : World) (e : Ending) (w' : World) : Prop := ∃ B, e = .returned (.pointer (some ⟨B, 0, none⟩)) ∧ Xs v w' B [] 0
theorem xNew (v w : World) (b : Below v.heap.size v w) : Calls Tryz.prog 5 #[] w (RetXN v) :=
  (pNew_any w).mono fun e w' hr => by
    obtain ⟨m, he, hp, hL, ht, hK, hS, hb⟩ := hr
    exact ⟨m.B, he, m, ⟨hp, fun i hi => Nat.le_trans b.size (hS i hi), below_on b hb⟩, rfl, by rw [hL]; rfl, by omega⟩
def RetXA (v : World) (B : Nat) (es : List SE) (K : Nat) (c f : List UInt8) (q : Int) (e : Ending) (w' : World) : Prop :=
  e = .returned (.tuple #[.bool (addB es c f q), .int .i64 (addErr f q)]) ∧ Xs v w' B (addV es c f q) (K + 1)
theorem xAdd (h : Xs v w B es K) (c f : List UInt8) (q : Int) (hc : c.length ≤ 65535) (hf : f.length ≤ 65535) (hK : K ≤ 1000000) :
    Calls Tryz.prog 6 #[.pointer (some ⟨B, 0, none⟩), .string (str c), .agg #[.string (str f), .int .i64 q]] w (RetXA v B es K c f q) := by
  obtain ⟨m, h1, rfl, rfl, h4⟩ := h
  refine (pAddV_any m c f q w h1.a hc hf (by omega)).mono fun e w' hr => ?_
  obtain ⟨m', he, hp, hB, hL, hKK, hb, hS⟩ := hr
  exact ⟨he, m', h1.step hp hb hS, hB, hL, by omega⟩
def RetXD (v : World) (B : Nat) (es : List SE) (K : Nat) (c f : List UInt8) (e : Ending) (w' : World) : Prop :=
  e = .returned (.tuple #[.bool (filterL f && hadE es c f), .int .i64 (errN (filterL f) 121)]) ∧ Xs v w' B (dropV es c f) K
theorem xDrop (h : Xs v w B es K) (c f : List UInt8) (hc : c.length ≤ 65535) (hf : f.length ≤ 65535) (hK : K ≤ 1000000) :
    Calls Tryz.prog 8 #[.pointer (some ⟨B, 0, none⟩), .string (str c), .string (str f)] w (RetXD v B es K c f) := by
  obtain ⟨m, h1, rfl, rfl, h4⟩ := h
  refine (pDropV_any m c f w h1.a hc hf (by omega)).mono fun e w' hr => ?_
  obtain ⟨m', he, hp, hB, hL, hKK, hb, hS⟩ := hr
  exact ⟨he, m', h1.step hp hb (fun i hi => Or.inl (hS i hi)), hB, hL, by omega⟩
def RetXG (v : World) (B : Nat) (es : List SE) (K : Nat) (c : List UInt8) (e : Ending) (w' : World) : Prop :=
  e = .returned (.tuple #[.int .i64 ((es.length : Int) - ((dropE es c []).length : Int)), .int .i64 0]) ∧ Xs v w' B (dropE es c []) K
theorem xGone (h : Xs v w B es K) (c : List UInt8) (hc : c.length ≤ 65535) (hK : K ≤ 1000000) :
    Calls Tryz.prog 10 #[.pointer (some ⟨B, 0, none⟩), .string (str c)] w (RetXG v B es K c) := by
  obtain ⟨m, h1, rfl, rfl, h4⟩ := h
  refine (pGoneV_any m c w h1.a hc (by omega)).mono fun e w' hr => ?_
  obtain ⟨m', he, hp, hB, hL, hKK, hb, hS⟩ := hr
  exact ⟨he, m', h1.step hp hb (fun i hi => Or.inl (hS i hi)), hB, hL, by omega⟩
theorem xFind (h : Xs v w B es K) (n : List UInt8) (hn : n.length ≤ 65535) (hK : K ≤ 1000000) :
    Calls Tryz.prog 12 #[.pointer (some ⟨B, 0, none⟩), .string (str n)] w (RetPF es n w) := by
  obtain ⟨m, h1, rfl, rfl, h4⟩ := h
  exact pFind_any m n w h1.a hn (by omega)
theorem xOf (h : Xs v w B es K) (c : List UInt8) (hc : c.length ≤ 65535) (hK : K ≤ 1000000) :
    Calls Tryz.prog 16 #[.pointer (some ⟨B, 0, none⟩), .string (str c)] w (RetPO es c w) := by
  obtain ⟨m, h1, rfl, rfl, h4⟩ := h
  exact pOf_any m c w h1.a hc (by omega)
end

set_option maxRecDepth 100000 in
theorem aw_es : addV (addV (addV [] [98] [97, 47, 35] 1) [98] [97, 47, 43] 2) [97] [35] 0 = [⟨[98], [97, 47, 35], 1⟩, ⟨[98], [97, 47, 43], 2⟩, ⟨[97], [35], 0⟩] := by decide +kernel
set_option maxRecDepth 100000 in
theorem aw_find : nameL [97, 47, 120] = true ∧ findE [⟨[98], [97, 47, 35], 1⟩, ⟨[98], [97, 47, 43], 2⟩, ⟨[97], [35], 0⟩] [97, 47, 120] = [([97], 0), ([98], 2)] ∧ (filterL [97, 47, 43] && hadE [⟨[98], [97, 47, 35], 1⟩, ⟨[98], [97, 47, 43], 2⟩, ⟨[97], [35], 0⟩] [98] [97, 47, 43]) = true ∧ errN (filterL [97, 47, 43]) 121 = 0 := by decide +kernel
/-- A slice of two structs is made. -/
theorem wpList_bsS2 {P : Program} {w : World} {ops : Array Oper} {rest : List Oper} {o : Oper} {a : Act} {Q : Exit → Act → World → Prop} (hgd : o.guard = none) (t e : TypeId) (x y : Operand) (ho : o.op = .buildSlice t 2 #[(0, x), (1, y)])
    (hu : P.underlying t = some (.slice e)) (s : Nat) (hs0 : 0 < s) (hs : s ≤ 65536) (hinfo : (P.info? e).map (fun i => (i.size, i.zero.isSome)) = some (s, true)) (cs ds : Array Value) (hcs : cs.size = s) (hds : ds.size = s) (hx : a.eval x = .agg cs) (hy : a.eval y = .agg ds)
    (h : wpList P ops Q rest (a.put o.dst (.slice (some ⟨w.heap.size, 0, none⟩) 2 2)) (w.alloc (.cells (arr (cs.toList ++ ds.toList)) e))) : wpList P ops Q (o :: rest) a w := by
  cases hie : P.info? e with
  | none => rw [hie] at hinfo; cases hinfo
  | some ie =>
    simp only [hie, Option.map_some, Option.some.injEq, Prod.mk.injEq] at hinfo
    obtain ⟨h1, h2⟩ := hinfo
    obtain ⟨z, hz⟩ := Option.isSome_iff_exists.1 h2
    refine wpList_buildSlice hgd t e 2 #[(0, x), (1, y)] ho (arr (cs.toList ++ ds.toList)) ie z hu hie hz (by rw [h1]; omega) (by rw [h1]; omega) ?_ h
    have hw := Great.fill_whole (s := ie.size) (by omega) [Value.agg cs, Value.agg ds] ((Array.range (2 * ie.size)).map (z.cells[· % z.cells.size]!)) (by intro v hv; simp at hv; rcases hv with rfl | rfl; (show cs.size = _; omega); (show ds.size = _; omega)) (by simp)
    have e1 : ([Value.agg cs, Value.agg ds].flatMap fun v => v.cells.toList).toArray = arr (cs.toList ++ ds.toList) := by simp [Value.cells, arr]
    rw [e1] at hw
    rw [← hw]
    congr 1
    simp [hx, hy]

set_option maxHeartbeats 4000000 in
set_option maxRecDepth 100000 in
theorem awake13_any (w : World) : Calls Tryz.prog 19 #[] w fun e w' => e = .returned (.bool true) ∧ Below w.heap.size w w' := by
  go_enter Tryz.func19, Tryz.ntmps19
  go_wp2_with fail
  refine (xNew w w (Below.refl _ _)).mono ?_
  rintro e w1 ⟨B, rfl, h1⟩
  have H1 := hide h1
  clear h1
  go_wp2_with fail
  refine (xAdd H1.out [98] [97, 47, 35] 1 (by decide) (by decide) (by decide)).mono ?_
  rintro e w2 ⟨rfl, h2⟩
  have H2 := hide h2
  clear h2 H1
  go_wp2_with fail
  refine (xAdd H2.out [98] [97, 47, 43] 2 (by decide) (by decide) (by decide)).mono ?_
  rintro e w3 ⟨rfl, h3⟩
  have H3 := hide h3
  clear h3 H2
  go_wp2_with fail
  refine (xAdd H3.out [97] [35] 0 (by decide) (by decide) (by decide)).mono ?_
  rintro e w4 ⟨rfl, h4⟩
  rw [aw_es] at h4
  have H4 := hide h4
  clear h4 H3
  go_wp2_with fail
  obtain ⟨m, ⟨ha, hnw, hbl⟩, rfl, hm, hk⟩ := H4.out
  have hlt := fun i hi => ha.lt (i := i) hi
  refine (pFind_any m [97, 47, 120] w4 ha (by decide) (by omega)).mono ?_
  intro e w5 h5
  obtain ⟨f1, f2, f3, f4⟩ := aw_find
  unfold RetPF at h5
  rw [if_pos f1, hm, f2] at h5
  obtain ⟨O, ko, rfl, r5, b5, n5⟩ := h5
  have H5 := hide (ha.keep b5)
  have hoff : Off m.S O := fun b o e hs => by have := n5 b o e; have := hlt b hs; omega
  have HB5 := hide (below_on hbl b5)
  have R5 := hide r5
  have HO := hide hoff
  have HN := hide hnw
  clear r5 b5 H4 ha hlt hoff n5 hnw hbl
  go_wp2_with fail
  refine (pDropV_any m [98] [97, 47, 43] w5 H5.out (by decide) (by decide) (by omega)).mono ?_
  rintro e w6 ⟨m', rfl, -, -, -, -, hb6, -⟩
  rw [hm, f3, f4]
  have HB6 := hide (But.below HB5.out hb6 HN.out HB5.out.size)
  have R6 := hide (R5.out.but hb6 HO.out)
  clear hb6 R5 HO HN H5 HB5 hm f3 f4 f1 f2
  go_wp2_with (refine wpList_bsS2 rfl 41 69 (.tmp 29) (.tmp 30) rfl Tryz.underlying41 2 (by omega) (by omega) (by kernel_rfl) (arr (twOne ([97], 0))) (arr (twOne ([98], 2))) rfl rfl rfl rfl ?_)
  have b7 : Below w6.heap.size w6 (w6.alloc (.cells (arr (twVs [([97], 0), ([98], 2)])) 69)) := (Below.refl _ _).alloc (Nat.le_refl _) _
  have r7 := R6.out.keep b7
  have s7 := (Blk.new w6 69 (twVs [([97], 0), ([98], 2)])).rd
  refine (wants_any O (some ⟨w6.heap.size, 0, none⟩) ko 2 [([97], 0), ([98], 2)] [([97], 0), ([98], 2)] _ r7 s7 (by decide) (by decide)).mono ?_
  rintro e w8 ⟨rfl, b8⟩
  have HB8 := hide (below_on (below_on HB6.out b7) b8)
  clear b7 r7 s7 b8 R6 HB6
  go_wp2_with fail
  go_ret
  exact ⟨rfl, HB8.out⟩
end Go.Proofs.YtfjafpbmgbnllaaGreat
