/-
  What is proved here: what the document's own 'without', Drop and Gone of layer 13 do. Conditions: at most a million entries; texts of at most 65535 bytes.
-/
import Derived.Test.YtfjafpbmgbnllaaGreatSr2
import Derived.Test.YtfjafpbmgbnllaaGreatTr2
namespace Go.Proofs.YtfjafpbmgbnllaaGreat
set_option linter.unusedVariables false
set_option linter.unusedSimpArgs false
open Go.RowKit

theorem own_low13 {w : World} {b b' : Nat} {e : TypeId} {s : Nat} {v : Value} {n : Nat} {xs : List Value} (h : w.ownsRow b e s v n xs) (hb : b' ≤ b) : w.ownsRow b' e s v n xs := by
  refine ⟨h.1, ?_⟩
  rcases h.2 with h2 | ⟨g, cap, cur, hv, hg, r⟩
  · exact .inl h2
  · exact .inr ⟨g, cap, cur, hv, Nat.le_trans hb hg, r⟩
theorem dropE_le (es : List SE) (c f : List UInt8) : (dropE es c f).length ≤ es.length := List.length_filter_le _ _

/-- What 'without' answers. -/
def RetWi (g base : Nat) (es : List SE) (c f : List UInt8) (w : World) (e : Ending) (w' : World) : Prop :=
  ∃ A' k', e = .returned (.int .i64 ((es.length : Int) - ((dropE es c f).length : Int))) ∧ RiA w' g base (dropE es c f) A' k' ∧ NewAt w A' ∧ But (fun i => i = g) w w'
set_option maxHeartbeats 2000000 in
set_option maxRecDepth 100000 in
theorem rWithout_any (g base : Nat) (es : List SE) (A : Option Addr) (k : Nat) (c f : List UInt8) (w : World) (h : RiA w g base es A k) (hn : es.length ≤ 1000000) (hb : base ≤ w.heap.size) :
    Calls Tryz.prog 23 #[.pointer (some ⟨g, 0, none⟩), .string (str c), .string (str f)] w (RetWi g base es c f w) := by
  have H := hide h
  have hgl := h.blk.lt
  obtain ⟨n, hn1⟩ : ∃ n, es.length = n := ⟨_, rfl⟩
  have N := hide hn1
  rw [hn1] at hn
  clear h hn1
  go_enter Tryz.func23, Tryz.ntmps23
  go_wp2_with fail
  go_loopw [7, 8] (fun ov iv_ wr => ∃ (i m : Nat) (O : Option Addr) (ko : Nat), i ≤ n ∧ iv_ = .int .i64 (i : Int) ∧ ov = .slice O m ko ∧ m = (dropE (es.take i) c f).length ∧ m ≤ i ∧ wr.ownsRow w.heap.size 65 3 (.slice O m ko) m (seVs (dropE (es.take i) c f)) ∧ Below w.heap.size w wr) (fun _ iv_ _ => n - (intOf iv_).toNat)
  case atStart => exact ⟨0, 0, none, 0, by omega, rfl, rfl, rfl, by omega, World.ownsRow_nil _ _ _ _, Below.refl _ _⟩
  case round =>
    obtain ⟨i, m, O, ko, hi, rfl, rfl, hm, hmi, hown, hbel⟩ := hrel
    have Hown := hide hown
    have Hb := hide hbel
    have HR := H.out.keep hbel
    have c0 := HR.cell
    rw [N.out] at c0
    by_cases hlt : i < n
    · have hl : i < es.length := by rw [N.out]; exact hlt
      obtain ⟨b, o, rfl, hbl, hrg⟩ := HR.at_ hl
      have htk : es.take (i + 1) = es.take i ++ [es[i]] := (List.take_append_getElem hl).symm
      generalize es[i] = e at *
      obtain ⟨ec, ef, eq⟩ := e
      have c1 : wr.cell? ⟨b, o + i * 3, none⟩ = some (.string (str ec)) := hrg 0 _ rfl
      have c2 : wr.cell? ⟨b, o + i * 3 + 1, none⟩ = some (.string (str ef)) := hrg 1 _ rfl
      have q1 : (i : Int) < (n : Int) := by omega
      have Hrg := hide hrg
      have Hm := hide hm
      clear hown hbel HR hl hrg hm
      by_cases hc : ec = c
      · subst hc
        have q2 : (ec != ec) = false := by simp
        by_cases hf : f = []
        · subst hf
          have hof : dropE (es.take (i + 1)) ec [] = dropE (es.take i) ec [] := by rw [htk]; simp [dropE, keepE, trivial]
          have Hof := hide hof
          clear hof htk
          go_wp2_with fail
          exact ⟨⟨i + 1, m, O, ko, by omega, by go_num, rfl, by rw [Hof.out]; exact Hm.out, by omega, by rw [Hof.out]; exact Hown.out, Hb.out⟩, by simp [intOf]; omega⟩
        · have q3 : (f != []) = true := by simpa using hf
          have q3b : f.isEmpty = false := by simpa using hf
          by_cases he : ef = f
          · subst he
            have q4 : (ef != ef) = false := by simp
            have hof : dropE (es.take (i + 1)) ec ef = dropE (es.take i) ec ef := by rw [htk]; simp [dropE, keepE, hf]
            have Hof := hide hof
            clear hof htk
            go_wp2_with fail
            exact ⟨⟨i + 1, m, O, ko, by omega, by go_num, rfl, by rw [Hof.out]; exact Hm.out, by omega, by rw [Hof.out]; exact Hown.out, Hb.out⟩, by simp [intOf]; omega⟩
          · have q4 : (ef == f) = false := by simpa using he
            have hof : dropE (es.take (i + 1)) ec f = dropE (es.take i) ec f ++ [⟨ec, ef, eq⟩] := by rw [htk]; simp [dropE, keepE, he, hf]
            have Hof := hide hof
            clear hof htk
            go_wp2_with (first
              | (refine wpList_loadS rfl 65 (.tmp 52) rfl b (o + i * 3) (SE.vs ⟨ec, ef, eq⟩) rfl Hrg.out Tryz.underlying65 rfl (by kernel_rfl) ?_)
              | (refine wpList_bsS rfl 27 65 (.tmp 53) rfl Tryz.underlying27 3 (by omega) (by omega) (by kernel_rfl) (arr (SE.vs ⟨ec, ef, eq⟩)) rfl rfl ?_)
              | (at_builtin; refine wpList_appS rfl (.tmp 46) (.tmp 54) 27 rfl 65 _ 3 40 Tryz.underlying27 entry_info13 rfl (by omega) w.heap.size O m ko (seVs (dropE (es.take i) ec f)) rfl (ownS_keep Hown.out ((Below.refl _ _).alloc (Nat.le_refl _) _)) _ 1 1 (SE.vs ⟨ec, ef, eq⟩) rfl (Blk.new wr 65 (SE.vs ⟨ec, ef, eq⟩)).rd (by simpa [seVs] using seVs_one [⟨ec, ef, eq⟩]) (by unfold maxLen; omega) (by omega) (by have := Hb.out.size; simp; omega) ?_; intro A4 k4 w4 o4 b4 h4))
            have x4 : Below w.heap.size w w4 := But.below (below_on Hb.out ((Below.refl _ _).alloc (Nat.le_refl _) (.cells (arr (SE.vs ⟨ec, ef, eq⟩)) 65))) b4 (fun i ⟨o, e⟩ => ownS_new Hown.out i o e) (by have := Hb.out.size; simp; omega)
            exact ⟨⟨i + 1, m + 1, A4, k4, by omega, by go_num, rfl, by rw [Hof.out, List.length_append, ← Hm.out]; rfl, by omega, by rw [Hof.out, seVs_app]; simpa [seVs] using o4, x4⟩, by simp [intOf]; omega⟩
      · have q2 : (ec != c) = true := by simpa using hc
        have hof : dropE (es.take (i + 1)) c f = dropE (es.take i) c f ++ [⟨ec, ef, eq⟩] := by rw [htk]; simp [dropE, keepE, hc]
        have Hof := hide hof
        clear hof htk
        go_wp2_with (first
          | (refine wpList_loadS rfl 65 (.tmp 52) rfl b (o + i * 3) (SE.vs ⟨ec, ef, eq⟩) rfl Hrg.out Tryz.underlying65 rfl (by kernel_rfl) ?_)
          | (refine wpList_bsS rfl 27 65 (.tmp 53) rfl Tryz.underlying27 3 (by omega) (by omega) (by kernel_rfl) (arr (SE.vs ⟨ec, ef, eq⟩)) rfl rfl ?_)
          | (at_builtin; refine wpList_appS rfl (.tmp 46) (.tmp 54) 27 rfl 65 _ 3 40 Tryz.underlying27 entry_info13 rfl (by omega) w.heap.size O m ko (seVs (dropE (es.take i) c f)) rfl (ownS_keep Hown.out ((Below.refl _ _).alloc (Nat.le_refl _) _)) _ 1 1 (SE.vs ⟨ec, ef, eq⟩) rfl (Blk.new wr 65 (SE.vs ⟨ec, ef, eq⟩)).rd (by simpa [seVs] using seVs_one [⟨ec, ef, eq⟩]) (by unfold maxLen; omega) (by omega) (by have := Hb.out.size; simp; omega) ?_; intro A4 k4 w4 o4 b4 h4))
        have x4 : Below w.heap.size w w4 := But.below (below_on Hb.out ((Below.refl _ _).alloc (Nat.le_refl _) (.cells (arr (SE.vs ⟨ec, ef, eq⟩)) 65))) b4 (fun i ⟨o, e⟩ => ownS_new Hown.out i o e) (by have := Hb.out.size; simp; omega)
        exact ⟨⟨i + 1, m + 1, A4, k4, by omega, by go_num, rfl, by rw [Hof.out, List.length_append, ← Hm.out]; rfl, by omega, by rw [Hof.out, seVs_app]; simpa [seVs] using o4, x4⟩, by simp [intOf]; omega⟩
    · obtain rfl : i = n := by omega
      have q1 : ¬ (i : Int) < (i : Int) := by omega
      have ht : es.take i = es := List.take_of_length_le (by rw [N.out]; exact Nat.le_refl _)
      rw [ht] at hm Hown
      have Hm := hide hm
      have fr0 := HR.blk.frozen 0
      have HK := hide HR.blk
      have HO : Hid (∀ b o, O = some ⟨b, o, none⟩ → w.heap.size ≤ b) := hide (fun b o e => ownS_new Hown.out b o e)
      clear hown hbel HR ht hm
      go_wp2_with fail
      go_ret
      have hmm := Hm.out
      subst hmm
      refine ⟨O, ko, by rw [N.out]; rfl, ⟨HK.out.set 0 _, ?_, fun b o e => by have := HO.out b o e; omega⟩, fun b o e => HO.out b o e, ?_⟩
      · exact ownS_but (own_low13 Hown.out hb) (But.setCell (S := fun i => i = g) wr _ rfl) (fun b o e h' => by have := HO.out b o e; have h2 : b = g := h'; omega)
      · exact (But.ofBelow Hb.out _).setCell' _ rfl

theorem keepE_some (c f : List UInt8) (es : List SE) : 0 < es.length - (dropE es c f).length ↔ dropE es c f ≠ es := by
  constructor
  · intro h e
    rw [e] at h
    omega
  · intro h
    have h1 := dropE_le es c f
    rcases Nat.lt_or_ge (dropE es c f).length es.length with h2 | h2
    · omega
    · exact absurd (List.filter_eq_self.2 (List.length_filter_eq_length_iff.1 (by unfold dropE at h1 h2; omega))) h

set_option maxRecDepth 100000 in
theorem rGone_any (g base : Nat) (es : List SE) (A : Option Addr) (k : Nat) (c : List UInt8) (w : World) (h : RiA w g base es A k) (hn : es.length ≤ 1000000) (hb : base ≤ w.heap.size) :
    Calls Tryz.prog 11 #[.pointer (some ⟨g, 0, none⟩), .string (str c)] w (RetWi g base es c [] w) := by
  have P := rWithout_any g base es A k c [] w h hn hb
  go_enter Tryz.func11, Tryz.ntmps11
  go_wp2_with fail
  refine P.mono ?_
  rintro e w1 ⟨A', k', rfl, p1, p2, p3⟩
  have P1 := hide (And.intro p1 (And.intro p2 p3))
  clear p1 p2 p3 P h
  go_wp2_with fail
  go_ret
  exact ⟨A', k', rfl, P1.out⟩

/-- What Drop answers. -/
def RetDr (g base : Nat) (es : List SE) (A : Option Addr) (k : Nat) (c f : List UInt8) (w : World) (e : Ending) (w' : World) : Prop :=
  if filterL f = true then ∃ A' k', e = .returned (.tuple #[.bool (decide ((dropE es c f).length < es.length)), .int .i64 0]) ∧ RiA w' g base (dropE es c f) A' k' ∧ NewAt w A' ∧ But (fun i => i = g) w w'
  else e = .returned (.tuple #[.bool false, .int .i64 121]) ∧ Below w.heap.size w w'
set_option maxRecDepth 100000 in
theorem rDrop_any (g base : Nat) (es : List SE) (A : Option Addr) (k : Nat) (c f : List UInt8) (w : World) (h : RiA w g base es A k) (hn : es.length ≤ 1000000) (hb : base ≤ w.heap.size) (hf : f.length ≤ 65535) :
    Calls Tryz.prog 9 #[.pointer (some ⟨g, 0, none⟩), .string (str c), .string (str f)] w (RetDr g base es A k c f w) := by
  have P := rFilter_any f hf w
  have H := hide h
  have PW := fun W (b : Below w.heap.size w W) => rWithout_any g base es A k c f W (h.keep b) hn (Nat.le_trans hb b.size)
  have hle := dropE_le es c f
  clear h
  by_cases hm : filterL f = true
  · rw [hm] at P
    have Hm := hide hm
    go_enter Tryz.func9, Tryz.ntmps9
    go_wp2_with fail
    refine P.mono ?_
    rintro e w1 ⟨rfl, b1⟩
    have PW := PW w1 b1
    have B1 := hide b1
    clear P b1 hm
    go_wp2_with fail
    refine PW.mono ?_
    rintro e w2 ⟨A', k', rfl, p1, p2, p3⟩
    have P1 := hide (And.intro p1 (And.intro (p2.old B1.out.size) ((But.ofBelow B1.out (fun i => i = g)).trans p3 (fun _ _ e => e))))
    clear p1 p2 p3 PW
    obtain ⟨L, hL⟩ : ∃ L, (dropE es c f).length = L := ⟨_, rfl⟩
    rw [hL] at hle ⊢
    have HL := hide hL
    clear hL
    by_cases hl : L < es.length
    · have q1 : (0 : Int) < (es.length : Int) - (L : Int) := by omega
      have Hl := hide hl
      clear hle hl
      go_wp2_with fail
      go_ret2
      unfold RetDr
      rw [if_pos Hm.out]
      exact ⟨A', k', by rw [HL.out, decide_eq_true Hl.out]; rfl, P1.out⟩
    · have q1 : ¬ (0 : Int) < (es.length : Int) - (L : Int) := by omega
      have Hl := hide hl
      clear hle hl
      go_wp2_with fail
      go_ret2
      unfold RetDr
      rw [if_pos Hm.out]
      exact ⟨A', k', by rw [HL.out, decide_eq_false Hl.out]; rfl, P1.out⟩
  · have Hm := hide hm
    rw [Bool.not_eq_true] at hm
    rw [hm] at P
    clear PW hm
    go_enter Tryz.func9, Tryz.ntmps9
    go_wp2_with fail
    refine P.mono ?_
    rintro e w1 ⟨rfl, b1⟩
    go_wp2_with fail
    go_ret2
    unfold RetDr
    rw [if_neg Hm.out]
    exact ⟨rfl, b1⟩

end Go.Proofs.YtfjafpbmgbnllaaGreat
