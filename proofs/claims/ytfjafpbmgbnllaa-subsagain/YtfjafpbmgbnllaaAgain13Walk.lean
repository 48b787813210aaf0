/-
  What is proved here: the law SubsAgain returns true for every script, client, filter and qualities, and writes nothing that was there. No condition.
-/
import Derived.Test.YtfjafpbmgbnllaaSp12
import Derived.Test.YtfjafpbmgbnllaaTr2
import Derived.Test.YtfjafpbmgbnllaaOpen13
namespace Go.Proofs.Ytfjafpbmgbnllaa
set_option linter.unusedVariables false
set_option linter.unusedSimpArgs false
open Go.RowKit

/-- What few says. -/
theorem fewB_yes {l : List OpS} (h : fewB l = true) : l.length ≤ 100 ∧ ∀ o ∈ l, o.f.length ≤ 100 ∧ o.c.length ≤ 100 := by
  unfold fewB at h
  rw [Bool.and_eq_true, List.all_eq_true] at h
  refine ⟨of_decide_eq_true h.1, fun o ho => ?_⟩
  have := h.2 o ho
  rw [Bool.and_eq_true] at this
  exact ⟨of_decide_eq_true this.1, of_decide_eq_true this.2⟩
/-- No entry of this client with this filter. -/
def notE (es : List SE) (c f : List UInt8) : Prop := ∀ e ∈ es, ¬ (e.c = c ∧ e.f = f)
theorem notE.add {es : List SE} {c f : List UInt8} (h : notE es c f) {c' f' : List UInt8} (q : Int) (hn : ¬ (c' = c ∧ f' = f)) : notE (addV es c' f' q) c f := fun e he => by
  rcases addV_mem he with h1 | rfl
  · exact h e h1
  · exact hn
theorem ag_add {es : List SE} {c f : List UInt8} (h : notE es c f) {a : Int} (hf : filterL f = true) (h0 : 0 ≤ a) (h2 : a ≤ 2) : addV es c f a = es ++ [⟨c, f, a⟩] := by
  unfold addV
  rw [if_pos ⟨hf, h0, h2⟩]
  exact addE_new h a
theorem ag_again {es : List SE} {c f : List UInt8} (h : notE es c f) {a b : Int} (hf : filterL f = true) (h0 : 0 ≤ b) (h2 : b ≤ 2) : addV (es ++ [⟨c, f, a⟩]) c f b = es ++ [⟨c, f, b⟩] := by
  unfold addV
  rw [if_pos ⟨hf, h0, h2⟩]
  exact addE_again h a b
theorem ag_p {es : List SE} {c f : List UInt8} (h : notE es c f) (a : Int) : addB es c f a = false := by
  unfold addB
  rw [hadE_no h, Bool.and_false]
theorem ag_q {es : List SE} {c f : List UInt8} (h : notE es c f) {a b : Int} (hf : filterL f = true) (h0 : 0 ≤ b) (h2 : b ≤ 2) : addB (es ++ [⟨c, f, a⟩]) c f b = true := by
  unfold addB
  rw [addErr_ok hf h0 h2, hadE_again h]
  rfl
theorem ag_drop {es : List SE} {c f : List UInt8} (h : notE es c f) {b : Int} (hf : filterL f = true) : dropV (es ++ [⟨c, f, b⟩]) c f = es := by
  unfold dropV
  rw [if_pos hf]
  exact dropE_snoc h (filterL_ne hf) b
theorem ag_d {es : List SE} {c f : List UInt8} (h : notE es c f) {b : Int} (hf : filterL f = true) : (filterL f && hadE (es ++ [⟨c, f, b⟩]) c f) = true := by
  rw [hf, hadE_again h]
  rfl
theorem ofE_most (es : List SE) (c : List UInt8) : (ofE es c).length ≤ es.length := by
  unfold ofE
  rw [List.length_map]
  exact List.length_filter_le _ _


set_option maxHeartbeats 8000000 in
set_option maxRecDepth 100000 in
theorem again13_walk (A : Option Addr) (l : List OpS) (k : Nat) (s1 s2 : ByteArray) (qa qb : Int) (w : World) (hs : ScrS w A l) :
    Calls Try.prog 6 #[.slice A l.length k, .string s1, .string s2, .int .i64 qa, .int .i64 qb] w fun e w' => e = .returned (.bool true) ∧ Below w.heap.size w w' := by
  obtain ⟨cl, rfl⟩ : ∃ xs, s1 = str xs := ⟨_, (str_of s1).symm⟩
  obtain ⟨fl, rfl⟩ : ∃ xs, s2 = str xs := ⟨_, (str_of s2).symm⟩
  have F := hide (few13_any A k l w hs)
  have HS := hide hs
  have hsc : (str cl).size = cl.length := size_str cl
  have hsf : (str fl).size = fl.length := size_str fl
  clear hs
  cases hfw : fewB l with
  | false =>
    rw [hfw] at F
    clear hfw
    go_enter Try.func6, Try.ntmps6
    go_wp2_with fail
    refine F.out.mono ?_
    rintro e w1 ⟨rfl, rfl⟩
    go_wp2_with fail
    go_ret
    exact ⟨rfl, Below.refl _ _⟩
  | true =>
  rw [hfw] at F
  obtain ⟨hlen, hall⟩ := fewB_yes hfw
  have HALL := hide hall
  clear hfw hall
  by_cases hcl : 100 < cl.length
  · have q0 : (100 : Int) < (cl.length : Int) := by omega
    go_enter Try.func6, Try.ntmps6
    go_wp2_with fail
    refine F.out.mono ?_
    rintro e w1 ⟨rfl, rfl⟩
    go_wp2_with fail
    go_ret
    exact ⟨rfl, Below.refl _ _⟩
  have q0 : ¬ (100 : Int) < (cl.length : Int) := by omega
  have HCL : Hid (cl.length ≤ 65535) := hide (by omega)
  clear hcl
  by_cases hfl : 100 < fl.length
  · have q1 : (100 : Int) < (fl.length : Int) := by omega
    go_enter Try.func6, Try.ntmps6
    go_wp2_with fail
    refine F.out.mono ?_
    rintro e w1 ⟨rfl, rfl⟩
    go_wp2_with fail
    go_ret
    exact ⟨rfl, Below.refl _ _⟩
  have q1 : ¬ (100 : Int) < (fl.length : Int) := by omega
  have HFL : Hid (fl.length ≤ 65535) := hide (by omega)
  clear hfl
  have P := hide fun W => rFilter_any fl HFL.out W
  cases hft : filterL fl with
  | false =>
    rw [hft] at P
    clear hft
    go_enter Try.func6, Try.ntmps6
    go_wp2_with fail
    refine F.out.mono ?_
    rintro e w1 ⟨rfl, rfl⟩
    go_wp2_with fail
    refine (P.out _).mono ?_
    rintro e w2 ⟨rfl, b2⟩
    have B2 := hide b2
    clear b2
    go_wp2_with fail
    go_ret
    exact ⟨rfl, B2.out⟩
  | true =>
  rw [hft] at P
  have HFT := hide hft
  clear hft
  by_cases ha0 : qa < 0
  · skip
    go_enter Try.func6, Try.ntmps6
    go_wp2_with fail
    refine F.out.mono ?_
    rintro e w1 ⟨rfl, rfl⟩
    go_wp2_with fail
    refine (P.out _).mono ?_
    rintro e w2 ⟨rfl, b2⟩
    have B2 := hide b2
    clear b2
    go_wp2_with fail
    go_ret
    exact ⟨rfl, B2.out⟩
  by_cases ha2 : 2 < qa
  · skip
    go_enter Try.func6, Try.ntmps6
    go_wp2_with fail
    refine F.out.mono ?_
    rintro e w1 ⟨rfl, rfl⟩
    go_wp2_with fail
    refine (P.out _).mono ?_
    rintro e w2 ⟨rfl, b2⟩
    have B2 := hide b2
    clear b2
    go_wp2_with fail
    go_ret
    exact ⟨rfl, B2.out⟩
  by_cases hb0 : qb < 0
  · skip
    go_enter Try.func6, Try.ntmps6
    go_wp2_with fail
    refine F.out.mono ?_
    rintro e w1 ⟨rfl, rfl⟩
    go_wp2_with fail
    refine (P.out _).mono ?_
    rintro e w2 ⟨rfl, b2⟩
    have B2 := hide b2
    clear b2
    go_wp2_with fail
    go_ret
    exact ⟨rfl, B2.out⟩
  by_cases hb2 : 2 < qb
  · skip
    go_enter Try.func6, Try.ntmps6
    go_wp2_with fail
    refine F.out.mono ?_
    rintro e w1 ⟨rfl, rfl⟩
    go_wp2_with fail
    refine (P.out _).mono ?_
    rintro e w2 ⟨rfl, b2⟩
    have B2 := hide b2
    clear b2
    go_wp2_with fail
    go_ret
    exact ⟨rfl, B2.out⟩
  go_enter Try.func6, Try.ntmps6
  go_wp2_with fail
  refine F.out.mono ?_
  rintro e w1 ⟨rfl, rfl⟩
  go_wp2_with fail
  refine (P.out _).mono ?_
  rintro e w2 ⟨rfl, b2⟩
  have B2 := hide b2
  clear b2
  go_wp2_with fail
  have HA : Hid (0 ≤ qa ∧ qa ≤ 2) := hide ⟨by omega, by omega⟩
  have HQ : Hid (0 ≤ qb ∧ qb ≤ 2) := hide ⟨by omega, by omega⟩
  clear ha0 ha2 hb0 hb2 q0 q1 F P
  refine (xNew w w2 B2.out).mono ?_
  rintro e w3 ⟨B, rfl, h3⟩
  have H3 := hide h3
  clear h3 B2
  go_wp2_with fail
  refine (yNew H3.out).mono ?_
  rintro e w4 ⟨C, rfl, h4⟩
  have H4 := hide h4
  clear h4 H3
  go_wp2_with fail
  go_loopw [13] (fun x wr => ∃ i es, x = .int .i64 ((i : Nat) : Int) ∧ i ≤ l.length ∧ Xy noT w wr B C es es (2 * i) ∧ notE es cl fl) (fun x _ => l.length - (intOf x).toNat)
  case atStart => exact ⟨0, [], rfl, by omega, H4.out, fun e he => absurd he List.not_mem_nil⟩
  case round =>
    obtain ⟨i, es, rfl, hi, hX, hne⟩ := hrel
    have HX := hide hX
    have HNE := hide hne
    clear hX H4 hne
    by_cases hlt : i < l.length
    · have q : (i : Int) < (l.length : Int) := by omega
      obtain ⟨b, o, rfl, hbl, hc⟩ := HS.out.at_ i hlt
      have hr := hc i hlt
      have hm := HALL.out _ (List.getElem_mem hlt)
      have hcc : ∀ j v, (l[i]).vs[j]? = some v → wr.cell? ⟨b, o + i * 4 + j, none⟩ = some v := fun j v hv => (HX.out.bel.cell (p := ⟨b, o + i * 4 + j, none⟩) hbl).trans (hr j v hv)
      clear hc hr
      generalize l[i] = p at *
      obtain ⟨call, c, f, q4⟩ := p
      simp only at hm
      have c0 : wr.cell? ⟨b, o + i * 4, none⟩ = some (.int .i64 call) := hcc 0 _ rfl
      have c1 : wr.cell? ⟨b, o + i * 4 + 1, none⟩ = some (.string (str c)) := hcc 1 _ rfl
      have c2 : wr.cell? ⟨b, o + i * 4 + 2, none⟩ = some (.string (str f)) := hcc 2 _ rfl
      have c3 : wr.cell? ⟨b, o + i * 4 + 3, none⟩ = some (.int .i64 q4) := hcc 3 _ rfl
      clear hcc
      go_upto_region 11 with fail
      generalize hU : wr.alloc _ = U
      obtain ⟨zU, bU⟩ := box1 wr 28 (OpS.vs ⟨call, c, f, q4⟩) U hU.symm
      have HU := hide ((HX.out.past (fun i => i = wr.heap.size) (fun i e => Nat.le_of_eq e.symm)).keep bU)
      have HT := hide (fun (i : Nat) (e : i = wr.heap.size) => show i < U.heap.size by rw [e]; exact zU.lt)
      have ZU := hide zU
      have d1 : U.cell? ⟨wr.heap.size, 1, none⟩ = some (.string (str c)) := zU.cell 1
      have d2 : U.cell? ⟨wr.heap.size, 2, none⟩ = some (.string (str f)) := zU.cell 2
      have d3 : U.cell? ⟨wr.heap.size, 3, none⟩ = some (.int .i64 q4) := zU.cell 3
      clear c0 c1 c2 c3 hU bU zU HX
      by_cases hsame : c = cl ∧ f = fl
      · have q5 : (c == cl) = true := beq_iff_eq.2 hsame.1
        have q6 : (f == fl) = true := beq_iff_eq.2 hsame.2
        clear hsame
        go_wp2_with fail
        exact ⟨⟨i + 1, es, by go_num, by omega, HU.out.plain.more (by omega), HNE.out⟩, by simp [intOf]; omega⟩
      · have HN := hide (HNE.out.add q4 hsame)
        have q56 : (c == cl) = false ∨ ((c == cl) = true ∧ (f == fl) = false) := by
          by_cases h1 : c = cl
          · exact .inr ⟨beq_iff_eq.2 h1, beq_eq_false_iff_ne.2 fun h2 => hsame ⟨h1, h2⟩⟩
          · exact .inl (beq_eq_false_iff_ne.2 h1)
        clear hsame
        rcases q56 with q5 | ⟨q5, q6⟩
        · skip
          go_wp2_with fail
          refine (yAdd HU.out HT.out c f q4 (by omega) (by omega) (by omega)).mono ?_
          rintro e W ⟨rfl, h2, b2⟩
          have H2 := hide h2
          have zW := Blk.but ZU.out b2 (fun h => h rfl)
          have HT2 := hide (fun (i : Nat) (e : i = wr.heap.size) => show i < W.heap.size by rw [e]; exact zW.lt)
          clear h2 b2 d1 d2 d3
          have d1 : W.cell? ⟨wr.heap.size, 1, none⟩ = some (.string (str c)) := zW.cell 1
          have d2 : W.cell? ⟨wr.heap.size, 2, none⟩ = some (.string (str f)) := zW.cell 2
          have d3 : W.cell? ⟨wr.heap.size, 3, none⟩ = some (.int .i64 q4) := zW.cell 3
          clear zW
          go_wp2_with fail
          refine (yAdd2 H2.out HT2.out c f q4 (by omega) (by omega) (by omega)).mono ?_
          rintro e W2 ⟨rfl, h3, -⟩
          have H3 := hide h3
          clear h3 d1 d2 d3
          go_wp2_with fail
          exact ⟨⟨i + 1, _, by go_num, by omega, H3.out.plain.more (by omega), HN.out⟩, by simp [intOf]; omega⟩
        · skip
          go_wp2_with fail
          refine (yAdd HU.out HT.out c f q4 (by omega) (by omega) (by omega)).mono ?_
          rintro e W ⟨rfl, h2, b2⟩
          have H2 := hide h2
          have zW := Blk.but ZU.out b2 (fun h => h rfl)
          have HT2 := hide (fun (i : Nat) (e : i = wr.heap.size) => show i < W.heap.size by rw [e]; exact zW.lt)
          clear h2 b2 d1 d2 d3
          have d1 : W.cell? ⟨wr.heap.size, 1, none⟩ = some (.string (str c)) := zW.cell 1
          have d2 : W.cell? ⟨wr.heap.size, 2, none⟩ = some (.string (str f)) := zW.cell 2
          have d3 : W.cell? ⟨wr.heap.size, 3, none⟩ = some (.int .i64 q4) := zW.cell 3
          clear zW
          go_wp2_with fail
          refine (yAdd2 H2.out HT2.out c f q4 (by omega) (by omega) (by omega)).mono ?_
          rintro e W2 ⟨rfl, h3, -⟩
          have H3 := hide h3
          clear h3 d1 d2 d3
          go_wp2_with fail
          exact ⟨⟨i + 1, _, by go_num, by omega, H3.out.plain.more (by omega), HN.out⟩, by simp [intOf]; omega⟩
    · have q : ¬ (i : Int) < (l.length : Int) := by omega
      have HI : Hid (2 * i ≤ 200) := hide (by omega)
      have hnT : Hid (∀ (w : World) i, noT i → i < w.heap.size) := hide fun w i h => h.elim
      clear hi
      go_wp2_with fail
      refine (yAdd HX.out (hnT.out _) cl fl qa HCL.out HFL.out (by have := HI.out; omega)).mono ?_
      rintro e w5 ⟨rfl, h5, -⟩
      rw [ag_p HNE.out, addErr_ok HFT.out HA.out.1 HA.out.2]
      rw [ag_add HNE.out HFT.out HA.out.1 HA.out.2] at h5
      have H5 := hide h5
      clear h5 HX
      go_wp2_with fail
      refine (yAdd H5.out (hnT.out _) cl fl qb HCL.out HFL.out (by have := HI.out; omega)).mono ?_
      rintro e w6 ⟨rfl, h6, -⟩
      rw [ag_q HNE.out HFT.out HQ.out.1 HQ.out.2, addErr_ok HFT.out HQ.out.1 HQ.out.2]
      rw [ag_again HNE.out HFT.out HQ.out.1 HQ.out.2] at h6
      have H6 := hide h6
      clear h6 H5
      go_wp2_with fail
      refine (xOf H6.out.left cl HCL.out (by have := HI.out; omega)).mono ?_
      rintro e w7 ⟨O, ko, rfl, r7, b7⟩
      rw [ofE_snoc] at r7 ⊢
      obtain ⟨ol, hol⟩ : ∃ ol, ofE es cl = ol := ⟨_, rfl⟩
      have hlo : ol.length ≤ 300 := by
        rw [← hol]
        have h1 := ofE_most es cl
        have h2 := H6.out.right.len
        have := HI.out
        omega
      rw [hol] at r7 ⊢
      have H7 := hide (H6.out.keep b7)
      obtain ⟨b, o, hO, hbl, hr⟩ := tw_at r7 ol.length (by simp)
      have hr := hr ol.length (by simp)
      rw [List.getElem_concat_length rfl] at hr
      have e0 : w7.cell? ⟨b, o + ol.length * 2, none⟩ = some (.string (str fl)) := hr 0 _ rfl
      have e1 : w7.cell? ⟨b, o + ol.length * 2 + 1, none⟩ = some (.int .i64 qb) := hr 1 _ rfl
      obtain ⟨m, hm⟩ : ∃ m, ol.length = m := ⟨_, rfl⟩
      obtain ⟨n, hn⟩ : ∃ n, (ol ++ [(fl, qb)]).length = n := ⟨_, rfl⟩
      have hnm : n = m + 1 := by rw [← hn, ← hm]; simp
      rw [hn]
      rw [hm] at e0 e1 hlo
      subst hO
      have q1 : ((n : Int) == 0) = false := beq_eq_false_iff_ne.2 (by omega)
      have q2 : IntKind.i64.wrap ((n : Int) - 1) = (m : Int) := by rw [show (n : Int) - 1 = (m : Int) by omega]; exact wrap_nat _ (by omega)
      have q3 : (m : Int) < (n : Int) := by omega
      have q4 : (n : Int) - 1 = (m : Int) := by omega
      have q5 : (fl != fl) = false := by simp
      have q6 : (qb != qb) = false := by simp
      have HOL := hide hol
      have HM := hide hm
      clear hr r7 b7 hbl H6 hol hn hnm hm
      go_wp2_with fail
      refine (yDrop H7.out cl fl HCL.out HFL.out (by have := HI.out; omega)).mono ?_
      rintro e w8 ⟨rfl, h8, -⟩
      rw [ag_d HNE.out HFT.out, HFT.out, show errN true 121 = 0 from rfl]
      rw [ag_drop HNE.out HFT.out] at h8
      have H8 := hide h8
      clear h8 H7 e0 e1
      go_wp2_with fail
      refine (xOf H8.out.left cl HCL.out (by have := HI.out; omega)).mono ?_
      rintro e w9 ⟨O9, k9, rfl, r9, b9⟩
      rw [HOL.out] at r9 ⊢
      have H9 := hide (H8.out.keep b9)
      have R9 := hide r9
      clear r9 b9 H8
      go_wp2_with fail
      refine (xOf H9.out.right cl HCL.out (by have := HI.out; omega)).mono ?_
      rintro e w10 ⟨O10, k10, rfl, r10, b10⟩
      rw [HOL.out] at r10 ⊢
      have H10 := hide (H9.out.keep b10)
      have R10 := hide r10
      have R9' := hide (R9.out.keep b10)
      clear r10 b10 H9 R9
      go_wp2_with fail
      refine (awake13_any w10).mono ?_
      rintro e w11 ⟨rfl, b11⟩
      have HB := hide (below_on H10.out.bel b11)
      have hS := subs13_any O9 O10 k9 k10 ol ol w11 (R9'.out.keep b11) (R10.out.keep b11) (by rw [HM.out]; omega) (by rw [HM.out]; omega)
      rw [decide_eq_true rfl] at hS
      have HSB := hide hS
      clear b11 H10 R9' R10 hS
      go_wp2_with fail
      refine HSB.out.mono ?_
      rintro e w12 ⟨rfl, b12⟩
      have HB2 := hide (below_on HB.out b12)
      clear b12
      go_wp2_with fail
      go_ret
      exact ⟨rfl, HB2.out⟩
end Go.Proofs.Ytfjafpbmgbnllaa
