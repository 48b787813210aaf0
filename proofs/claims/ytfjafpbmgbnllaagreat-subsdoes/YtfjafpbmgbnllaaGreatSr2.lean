/-
  What is proved here: the document's index of layer 13 in memory; what its Of returns. Conditions: at most a million entries.
-/
import Derived.Test.YtfjafpbmgbnllaaGreatSr1
import Derived.Great.BuildSlice
namespace Go.Proofs.YtfjafpbmgbnllaaGreat
set_option linter.unusedVariables false
set_option linter.unusedSimpArgs false
open Go.RowKit

/-- A slice of one whole row. -/
theorem wpList_bsS {P : Program} {w : World} {ops : Array Oper} {rest : List Oper} {o : Oper} {a : Act} {Q : Exit → Act → World → Prop} (hgd : o.guard = none) (t e : TypeId) (x : Operand) (ho : o.op = .buildSlice t 1 #[(0, x)])
    (hu : P.underlying t = some (.slice e)) (s : Nat) (hs0 : 0 < s) (hs : s ≤ 16777216) (hinfo : (P.info? e).map (fun i => (i.size, i.zero.isSome)) = some (s, true)) (cs : Array Value) (hcs : cs.size = s) (hx : a.eval x = .agg cs)
    (h : wpList P ops Q rest (a.put o.dst (.slice (some ⟨w.heap.size, 0, none⟩) 1 1)) (w.alloc (.cells cs e))) : wpList P ops Q (o :: rest) a w := by
  cases hie : P.info? e with
  | none => rw [hie] at hinfo; cases hinfo
  | some ie =>
    simp only [hie, Option.map_some, Option.some.injEq, Prod.mk.injEq] at hinfo
    obtain ⟨h1, h2⟩ := hinfo
    obtain ⟨z, hz⟩ := Option.isSome_iff_exists.1 h2
    refine wpList_buildSlice hgd t e 1 #[(0, x)] ho cs ie z hu hie hz (by rw [h1]; omega) (by rw [h1]; omega) ?_ h
    have hw := Great.fill_whole (s := ie.size) (by omega) [Value.agg cs] ((Array.range (1 * ie.size)).map (z.cells[· % z.cells.size]!)) (by intro v hv; simp at hv; subst hv; show cs.size = _; omega) (by simp)
    have e1 : ([Value.agg cs].flatMap fun v => v.cells.toList).toArray = cs := by simp [Value.cells]
    rw [e1] at hw
    rw [← hw]
    congr 1
    simp [hx]
theorem sub_info13 : (Tryz.prog.info? 33).map (fun i => (i.zero, i.size, i.bytes)) = some (some (.agg #[.string ByteArray.empty, .int .i64 0]), 2, 24) := by kernel_rfl
theorem want_info13 : (Tryz.prog.info? 69).map (fun i => (i.zero, i.size, i.bytes)) = some (some (.agg #[.string ByteArray.empty, .int .i64 0]), 2, 24) := by kernel_rfl
theorem entry_info13 : (Tryz.prog.info? 65).map (fun i => (i.zero, i.size, i.bytes)) = some (some (.agg #[.string ByteArray.empty, .string ByteArray.empty, .int .i64 0]), 3, 40) := by kernel_rfl
/-- What blocks a slice lies in. -/
def SoE (O : Option Addr) : Nat → Prop := fun i => ∃ o, O = some ⟨i, o, none⟩

/-- The document's index in memory. -/
structure RiA (w : World) (g base : Nat) (es : List SE) (A : Option Addr) (k : Nat) : Prop where
  blk : Blk w g 29 [.slice A es.length k]
  own : w.ownsRow base 65 3 (.slice A es.length k) es.length (seVs es)
  ap : ∀ b o, A = some ⟨b, o, none⟩ → b ≠ g
section
variable {w w' : World} {g base : Nat} {es : List SE} {A : Option Addr} {k : Nat}
theorem RiA.keep (h : RiA w g base es A k) (b : Below w.heap.size w w') : RiA w' g base es A k := ⟨h.blk.keep b, ownS_keep h.own b, h.ap⟩
theorem RiA.but {T : Nat → Prop} (h : RiA w g base es A k) (b : But T w w') (hg : ¬ T g) (ha : Off T A) : RiA w' g base es A k := ⟨h.blk.but b hg, ownS_but h.own b ha, h.ap⟩
theorem RiA.cell (h : RiA w g base es A k) : w.cell? ⟨g, 0, none⟩ = some (.slice A es.length k) := h.blk.cell 0
/-- One entry. -/
theorem RiA.at_ (h : RiA w g base es A k) {i : Nat} (hi : i < es.length) : ∃ b o, A = some ⟨b, o, none⟩ ∧ b < w.heap.size ∧ w.rangeAt b (o + i * 3) (es[i]).vs := by
  obtain ⟨b, o, e, hl, hc⟩ := se_at (ownS_rd h.own) i hi
  exact ⟨b, o, e, hl, hc i hi⟩
end

set_option maxRecDepth 100000 in
theorem rOf_any (g base : Nat) (es : List SE) (A : Option Addr) (k : Nat) (c : List UInt8) (w : World) (h : RiA w g base es A k) (hn : es.length ≤ 1000000) :
    Calls Tryz.prog 18 #[.pointer (some ⟨g, 0, none⟩), .string (str c)] w fun e w' => ∃ O k', e = .returned (.slice O (ofE es c).length k') ∧ w'.ownsRow w.heap.size 33 2 (.slice O (ofE es c).length k') (ofE es c).length (twVs (ofE es c)) ∧ Below w.heap.size w w' := by
  have H := hide h
  obtain ⟨n, hn1⟩ : ∃ n, es.length = n := ⟨_, rfl⟩
  have N := hide hn1
  rw [hn1] at hn
  clear h hn1
  go_enter Tryz.func18, Tryz.ntmps18
  go_wp2_with fail
  go_loopw [5, 6] (fun ov iv_ wr => ∃ (i m : Nat) (O : Option Addr) (ko : Nat), i ≤ n ∧ iv_ = .int .i64 (i : Int) ∧ ov = .slice O m ko ∧ m = (ofE (es.take i) c).length ∧ m ≤ i ∧ wr.ownsRow w.heap.size 33 2 (.slice O m ko) m (twVs (ofE (es.take i) c)) ∧ Below w.heap.size w wr) (fun _ iv_ _ => n - (intOf iv_).toNat)
  case atStart => exact ⟨0, 0, none, 0, by omega, rfl, rfl, rfl, by omega, World.ownsRow_nil _ _ _ _, Below.refl _ _⟩
  case round =>
    obtain ⟨i, m, O, ko, hi, rfl, rfl, hm, hmi, hown, hbel⟩ := hrel
    have Hown := hide hown
    have Hb := hide hbel
    have HR := H.out.keep hbel
    have c0 := HR.cell
    rw [N.out] at c0
    by_cases hlt : i < n
    · have hl : i < es.length := by rw [N.out]; exact hlt
      obtain ⟨b, o, rfl, hbl, hrg⟩ := HR.at_ hl
      have htk : es.take (i + 1) = es.take i ++ [es[i]] := (List.take_append_getElem hl).symm
      generalize es[i] = e at *
      obtain ⟨ec, ef, eq⟩ := e
      have c1 : wr.cell? ⟨b, o + i * 3, none⟩ = some (.string (str ec)) := hrg 0 _ rfl
      have q1 : (i : Int) < (n : Int) := by omega
      have Hrg := hide hrg
      have Hm := hide hm
      clear hown hbel HR hl hrg hm
      by_cases hc : ec = c
      · subst hc
        have q2 : (ec == ec) = true := by simp
        have hof : ofE (es.take (i + 1)) ec = ofE (es.take i) ec ++ [(ef, eq)] := by rw [htk]; simp [ofE]
        have Hof := hide hof
        clear hof htk
        go_wp2_with (first
          | (refine wpList_loadS rfl 33 (.tmp 33) rfl b (o + i * 3 + 1) (twOne (ef, eq)) rfl (fun j v hv => by have := Hrg.out (j + 1) v (by cases j with | zero => exact hv | succ j => cases j with | zero => exact hv | succ j => cases hv); rwa [show o + i * 3 + (j + 1) = o + i * 3 + 1 + j by omega] at this) Tryz.underlying33 rfl (by kernel_rfl) ?_)
          | (refine wpList_bsS rfl 47 33 (.tmp 34) rfl Tryz.underlying47 2 (by omega) (by omega) (by kernel_rfl) (arr (twOne (ef, eq))) rfl rfl ?_)
          | (at_builtin; refine wpList_appS rfl (.tmp 26) (.tmp 35) 47 rfl 33 _ 2 24 Tryz.underlying47 sub_info13 rfl (by omega) w.heap.size O m ko (twVs (ofE (es.take i) ec)) rfl (ownS_keep Hown.out ((Below.refl _ _).alloc (Nat.le_refl _) _)) _ 1 1 (twOne (ef, eq)) rfl (Blk.new wr 33 (twOne (ef, eq))).rd (by simpa [twVs] using twVs_one [(ef, eq)]) (by unfold maxLen; omega) (by omega) (by have := Hb.out.size; simp; omega) ?_; intro A4 k4 w4 o4 b4 h4))
        have x4 : Below w.heap.size w w4 := But.below (below_on Hb.out ((Below.refl _ _).alloc (Nat.le_refl _) (.cells (arr (twOne (ef, eq))) 33))) b4 (fun i ⟨o, e⟩ => ownS_new Hown.out i o e) (by have := Hb.out.size; simp; omega)
        exact ⟨⟨i + 1, m + 1, A4, k4, by omega, by go_num, rfl, by rw [Hof.out, List.length_append, ← Hm.out]; rfl, by omega, by rw [Hof.out, twVs_app]; simpa [twVs] using o4, x4⟩, by simp [intOf]; omega⟩
      · have q2 : (ec == c) = false := by simpa using hc
        have hof : ofE (es.take (i + 1)) c = ofE (es.take i) c := by rw [htk]; simp [ofE, hc]
        have Hof := hide hof
        clear hof htk
        go_wp2_with fail
        exact ⟨⟨i + 1, m, O, ko, by omega, by go_num, rfl, by rw [Hof.out]; exact Hm.out, by omega, by rw [Hof.out]; exact Hown.out, Hb.out⟩, by simp [intOf]; omega⟩
    · obtain rfl : i = n := by omega
      have q1 : ¬ (i : Int) < (i : Int) := by omega
      have ht : es.take i = es := List.take_of_length_le (by rw [N.out]; exact Nat.le_refl _)
      rw [ht] at hm Hown
      subst hm
      clear hown hbel HR ht
      go_wp2_with fail
      go_ret
      exact ⟨O, ko, rfl, Hown.out, Hb.out⟩

end Go.Proofs.YtfjafpbmgbnllaaGreat
