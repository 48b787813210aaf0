/-
  What is proved here: what a script of layer 13's calls that came in is told as; the law's own 'few'. No condition of its own.
-/
import Derived.Test.YtfjafpbmgbnllaaGreatOpenPdu
import Derived.Test.YtfjafpbmgbnllaaGreatSbMath
import Derived.Deep.Slices
import Derived.Deep.Fields
import Derived.ChangeSame
import Derived.LoopTactic
namespace Go.Proofs.YtfjafpbmgbnllaaGreat
set_option linter.unusedVariables false
set_option linter.unusedSimpArgs false
set_option maxRecDepth 100000
open Go.Joins Go.ChangeShapes Go.WideShapes Go.RowKit Go.Deep

/-- A call. -/
structure OpS where
  call : Int
  c : List UInt8
  f : List UInt8
  q : Int
def OpS.vs (x : OpS) : List Value := [.int .i64 x.call, .string (str x.c), .string (str x.f), .int .i64 x.q]
def opVs (l : List OpS) : List Value := l.flatMap OpS.vs
theorem opVs_len (l : List OpS) : (opVs l).length = l.length * 4 := by
  induction l with
  | nil => rfl
  | cons a l ih => simp only [opVs, List.flatMap_cons, List.length_append, List.length_cons] at ih ⊢; rw [ih]; simp [OpS.vs]; omega
theorem opVs_get : ∀ (l : List OpS) (i j : Nat) (h : i < l.length), j < 4 → (opVs l)[i * 4 + j]? = (l[i]).vs[j]?
  | a :: l, 0, j, _, hj => by
    show (a.vs ++ opVs l)[0 * 4 + j]? = _
    rw [List.getElem?_append_left (by simp [OpS.vs]; omega)]
    simp
  | a :: l, i + 1, j, h, hj => by
    show (a.vs ++ opVs l)[(i + 1) * 4 + j]? = _
    rw [List.getElem?_append_right (by simp [OpS.vs]; omega)]
    have := opVs_get l i j (by simpa using h) hj
    rw [show (i + 1) * 4 + j - a.vs.length = i * 4 + j by simp [OpS.vs]; omega, this]
    rfl
/-- A script in memory. -/
def ScrS (w : World) (B : Option Addr) (l : List OpS) : Prop := Rd w B (l.length * 4) (opVs l)
theorem ScrS.at_ {w : World} {B : Option Addr} {l : List OpS} (h : ScrS w B l) (k : Nat) (hk : k < l.length) : ∃ b o, B = some ⟨b, o, none⟩ ∧ b < w.heap.size ∧ ∀ j (hj : j < l.length), w.rangeAt b (o + j * 4) (l[j]).vs := by
  obtain ⟨b, o, e, hl, hc⟩ := Rd.at_ (h : Rd w B (l.length * 4) (opVs l)) (k := k * 4) (by omega)
  refine ⟨b, o, e, hl, fun j hj i v hv => ?_⟩
  have hi : i < 4 := by
    by_cases h2 : i < 4
    · exact h2
    · rw [List.getElem?_eq_none (by simp [OpS.vs]; omega)] at hv
      cases hv
  have := hc (j * 4 + i) v (by rw [opVs_get l j i hj hi]; exact hv)
  rw [Nat.add_assoc]
  exact this
theorem ScrS.keep {w w' : World} {B : Option Addr} {l : List OpS} (h : ScrS w B l) (b : Below w.heap.size w w') : ScrS w' B l := Rd.keep h b
section
variable {H : Type} {enc : TypeId × Value → H} {w : World} {base : Nat} {held : Bool}
theorem open_op13 {fuel : Nat} {cs : List Value} {x : DataW H × List MemPlace} (hsz : cs.length = 4) (hf : DataW.trod enc Tryz.prog w base (fun _ => true) held fuel 31 cs = some x) : ∃ s : OpS, cs = s.vs := by
  have kS : Tryz.prog.cellsOf 9 = 1 := by kernel_rfl
  have kI : Tryz.prog.cellsOf 3 = 1 := by kernel_rfl
  match cs, hsz with
  | [c0, c1, c2, c3], _ =>
    obtain ⟨xs, n, _, hx, _, hlen, hg⟩ := DataW.trod_struct Tryz.underlying31 hf
    match xs, hlen with
    | [y0, y1, y2, y3], _ =>
      have g0 : DataW.trod enc Tryz.prog w base (fun _ => true) held n 3 [c0] = some y0 := by simpa [kI] using hg 0 _ rfl
      have g1 : DataW.trod enc Tryz.prog w base (fun _ => true) held n 9 [c1] = some y1 := by simpa [kS] using hg 1 _ rfl
      have g2 : DataW.trod enc Tryz.prog w base (fun _ => true) held n 9 [c2] = some y2 := by simpa [kS] using hg 2 _ rfl
      have g3 : DataW.trod enc Tryz.prog w base (fun _ => true) held n 3 [c3] = some y3 := by simpa [kI] using hg 3 _ rfl
      obtain ⟨a, e0, _⟩ := DataW.trod_int Tryz.underlying3 g0
      obtain ⟨s1, e1, rfl, _⟩ := DataW.trod_string Tryz.underlying9 g1
      obtain ⟨s2, e2, rfl, _⟩ := DataW.trod_string Tryz.underlying9 g2
      obtain ⟨q, e3, _⟩ := DataW.trod_int Tryz.underlying3 g3
      injection e0 with e0
      injection e1 with e1
      injection e2 with e2
      injection e3 with e3
      subst e0 e1 e2 e3
      exact ⟨⟨a, s1.data.toList, s2.data.toList, q⟩, by simp [OpS.vs, str_of]⟩
theorem open_script13 {b0 : Nat} {r : Reach} {v : Value} {d : DataW H} {p : List MemPlace} (hv : Value.okWide Tryz.prog w r b0 22 v) (h : DataW.Trod enc Tryz.prog w base (fun _ => true) held 22 v d p) :
    ∃ (B : Option Addr) (len cap : Nat) (l : List OpS), v = .slice B len cap ∧ l.length = len ∧ ScrS w B l := by
  obtain ⟨a0, len0, cap0, rfl⟩ := okWide_slice Tryz.underlying22 hv
  obtain ⟨fuel, hf⟩ := h
  rcases open_slice Tryz.underlying22 hf with ⟨hcs, _⟩ | ⟨ad, len, cap, m, n, D, Pl, hcs, _, hl, hm, hmm, _, hi⟩
  · simp [Value.cells] at hcs
    obtain ⟨rfl, rfl, rfl⟩ := hcs
    exact ⟨none, 0, 0, [], rfl, rfl, Rd.nil _ _⟩
  · simp [Value.cells] at hcs
    obtain ⟨rfl, rfl, rfl⟩ := hcs
    simp at hmm
    have hC : Tryz.prog.cellsOf 31 = 4 := by kernel_rfl
    rw [hC] at hi
    have hx : ∀ i, i < len0 → ∃ s : OpS, ∀ j v, s.vs[j]? = some v → w.cell? (ad.add (i * 4 + j)) = some v := by
      intro i hi'
      obtain ⟨cs', hc, ht⟩ := hi i (by omega)
      obtain ⟨_, hcl, hat⟩ := World.cells?_some hc
      obtain ⟨s, rfl⟩ := open_op13 hcl ht
      refine ⟨s, fun j v hv => ?_⟩
      have hj : j < 4 := by
        have := (List.getElem?_eq_some_iff.1 hv).1
        simpa [OpS.vs] using this
      rw [← Go.Deep.add_add, hat j hj, hv]
    let f : Nat → OpS := fun i => if h : i < len0 then Classical.choose (hx i h) else ⟨0, [], [], 0⟩
    have hf : ∀ i, i < len0 → ∀ j v, (f i).vs[j]? = some v → w.cell? (ad.add (i * 4 + j)) = some v := by
      intro i hi'
      have := Classical.choose_spec (hx i hi')
      simp only [f, dif_pos hi']
      exact this
    have hlen : ((List.range len0).map f).length = len0 := by simp
    refine ⟨some ad, len0, cap0, (List.range len0).map f, rfl, hlen, ⟨by rw [opVs_len], fun h0 => ?_⟩⟩
    rw [hlen] at h0
    obtain ⟨b, o, sp⟩ := ad
    have h00 := hf 0 (by omega) 0 _ rfl
    have hx0 : (⟨b, o, sp⟩ : Addr).add (0 * 4 + 0) = ⟨b, o, sp⟩ := by simp [Addr.add]
    rw [hx0] at h00
    have hs : sp = none := World.cell?_spot h00
    subst hs
    refine ⟨b, o, rfl, block_lt_of_cell h00, fun i v hv => ?_⟩
    have hi' : i < len0 * 4 := by
      have := (List.getElem?_eq_some_iff.1 hv).1
      rw [opVs_len, hlen] at this
      exact this
    have hd : i = (i / 4) * 4 + i % 4 := by omega
    have hq : i / 4 < len0 := by omega
    rw [hd, opVs_get _ (i / 4) (i % 4) (by rw [hlen]; exact hq) (by omega)] at hv
    simp only [List.getElem_map, List.getElem_range] at hv
    have := hf (i / 4) hq (i % 4) v hv
    rw [add_at] at this
    rw [hd]
    exact this
end

/-- What few answers. -/
def fewB (l : List OpS) : Bool := decide (l.length ≤ 100) && l.all fun o => decide (o.f.length ≤ 100) && decide (o.c.length ≤ 100)
theorem few13_any (B : Option Addr) (cap : Nat) (l : List OpS) (w : World) (h : ScrS w B l) :
    Calls Tryz.prog 4 #[.slice B l.length cap] w fun e w' => e = .returned (.bool (fewB l)) ∧ w = w' := by
  by_cases hl : 100 < l.length
  · have q : (100 : Int) < (l.length : Int) := by omega
    have hr : fewB l = false := by unfold fewB; rw [decide_eq_false (by omega)]; rfl
    rw [hr]
    clear h hr
    go_enter Tryz.func4, Tryz.ntmps4
    go_wp2
    go_ret
    exact ⟨rfl, rfl⟩
  have q0 : ¬ (100 : Int) < (l.length : Int) := by omega
  have H := hide h
  obtain ⟨R, hR⟩ : ∃ R, fewB l = R := ⟨_, rfl⟩
  rw [hR]
  have HR := hide hR
  have hlen : l.length ≤ 100 := by omega
  clear h hR hl
  go_enter Tryz.func4, Tryz.ntmps4
  go_wp2_with fail
  go_loopw [3] (fun x wr => ∃ i : Nat, x = .int .i64 (i : Int) ∧ i ≤ l.length ∧ wr = w ∧ ∀ o ∈ l.take i, o.f.length ≤ 100 ∧ o.c.length ≤ 100) (fun x _ => l.length - (intOf x).toNat)
  case atStart => exact ⟨0, rfl, by omega, rfl, by simp⟩
  case round =>
    obtain ⟨i, rfl, hi, rfl, hall⟩ := hrel
    have HALL := hide hall
    clear hall
    by_cases hlt : i < l.length
    · have q : (i : Int) < (l.length : Int) := by omega
      obtain ⟨b, o, rfl, hbl, hc⟩ := H.out.at_ i hlt
      have hr := hc i hlt
      have hm := List.getElem_mem hlt
      have htk : l.take (i + 1) = l.take i ++ [l[i]] := (List.take_append_getElem hlt).symm
      generalize l[i] = p at *
      have c1 : wr.cell? ⟨b, o + i * 4 + 1, none⟩ = some (.string (str p.c)) := hr 1 _ rfl
      have c2 : wr.cell? ⟨b, o + i * 4 + 2, none⟩ = some (.string (str p.f)) := hr 2 _ rfl
      have Htk := hide htk
      have hno : ¬ (p.f.length ≤ 100 ∧ p.c.length ≤ 100) → R = false := fun hn => by
        rw [← HR.out]
        unfold fewB
        rw [Bool.and_eq_false_iff]
        right
        rw [List.all_eq_false]
        exact ⟨p, hm, by simp; omega⟩
      have Hno := hide hno
      obtain ⟨F, hF⟩ : ∃ F, p.f.length = F := ⟨_, rfl⟩
      obtain ⟨C, hC⟩ : ∃ C, p.c.length = C := ⟨_, rfl⟩
      have s1 : (str p.f).size = F := by rw [str_size, hF]
      have s2 : (str p.c).size = C := by rw [str_size, hC]
      have HF := hide hF
      have HC := hide hC
      rw [hF, hC] at Hno
      clear hc hr hm htk hno hF hC
      by_cases t1 : (100 : Int) < (F : Int)
      · obtain rfl := Hno.out (by omega)
        go_wp2
        go_ret
        exact ⟨rfl, rfl⟩
      · by_cases t2 : (100 : Int) < (C : Int)
        · obtain rfl := Hno.out (by omega)
          go_wp2
          go_ret
          exact ⟨rfl, rfl⟩
        · go_wp2
          refine ⟨⟨i + 1, by go_num, by omega, (by first | rfl | trivial), fun a ha => ?_⟩, by simp [intOf]; omega⟩
          rw [Htk.out] at ha
          rcases List.mem_append.1 ha with ha | ha
          · exact HALL.out a ha
          · simp at ha
            subst ha
            exact ⟨by rw [HF.out]; omega, by rw [HC.out]; omega⟩
    · obtain rfl : i = l.length := by omega
      have q : ¬ (l.length : Int) < (l.length : Int) := by omega
      have hr : R = true := by
        rw [← HR.out]
        unfold fewB
        rw [decide_eq_true hlen, Bool.true_and, List.all_eq_true]
        intro a ha
        have := HALL.out a (by rw [List.take_length]; exact ha)
        simp [this.1, this.2]
      subst hr
      go_wp2
      go_ret
      exact ⟨rfl, rfl⟩
end Go.Proofs.YtfjafpbmgbnllaaGreat
