/-
  What is proved here: what the document's own functions of layer 10 tell of their fields (full, codes, subs, connect). Conditions: strings of at most 65535 bytes; at most 2^30 codes and filters. ALSO: what the document's own functions of layer 10 tell of a packet's filters and of a Connect's fields (subs, connect). Conditions: strings of at most 65535 bytes; at most 2^30 filters. ALSO: what the document's own 'connect' of layer 10 tells of a Connect's fields. Conditions: strings of at most 65535 bytes. ALSO: what the document's own 'flags' and 'used' of layer 10 return. Condition: qualities of at most 2^40.
-/
import Derived.Test.YtkgidimaiedocaaPkR
import Derived.Test.YtkgidimaiedocaaPkD
import Derived.Test.YtkgidimaiedocaaRefA
import Derived.Test.YtkgidimaiedocaaRef9b
namespace Go.Proofs.Ytkgidimaiedocaa
set_option linter.unusedVariables false
set_option linter.unusedSimpArgs false
open Go.RowKit

theorem rPoints_long (s : ByteArray) (n : Nat) (hs : s.data.toList.length = n) (hn : 65535 < n) (w : World) : Calls Try.prog 71 #[.string s] w fun e w' => e = .returned (.tuple #[.slice none 0 0, .bool false]) ∧ Below w.heap.size w w' := by
  have hsz : s.size = n := by rw [← hs, Array.length_toList]; rfl
  have q0 : (65535 : Int) < (n : Int) := by omega
  clear hs
  go_enter Try.func71, Try.ntmps71
  go_wp2_with fail
  go_ret2
  exact ⟨rfl, Below.refl _ _⟩
theorem rPoints_short (xs : List UInt8) (h : xs.length ≤ 65535) (w : World) : Calls Try.prog 45 #[.string (str xs)] w fun e w' => e = .returned (.bool (isStr xs)) ∧ Below w.heap.size w w' := by
  have P := hide (rPoints_any (str xs) xs.length (by rw [str_data]) h w)
  rw [str_data] at P
  have E := hide (show isStr xs = (ptsU xs).isSome from rfl)
  go_enter Try.func45, Try.ntmps45
  go_wp2_with fail
  refine P.out.mono ?_
  rintro e w1 (⟨h1, rfl, b1⟩ | ⟨ps, A, c, h1, rfl, _, _, b1⟩)
  · have B1 := hide b1
    have H1 := hide h1
    clear b1 h1
    go_wp2_with fail
    go_ret
    exact ⟨by rw [E.out, H1.out]; rfl, B1.out⟩
  · have B1 := hide b1
    have H1 := hide h1
    clear b1 h1
    go_wp2_with fail
    go_ret
    exact ⟨by rw [E.out, H1.out]; rfl, B1.out⟩

theorem rPoints_is (xs : List UInt8) (h : xs.length ≤ 1048576) (w : World) : Calls Try.prog 45 #[.string (str xs)] w fun e w' => e = .returned (.bool (isStr xs)) ∧ Below w.heap.size w w' := by
  by_cases h5 : xs.length ≤ 65535
  · exact rPoints_short xs h5 w
  have P := hide fun W => rPoints_long (str xs) xs.length (by rw [str_data]) (by omega) W
  have hno : isStr xs = false := by
    cases h6 : isStr xs with
    | false => rfl
    | true => exact absurd (isStr_len h6) h5
  rw [hno]
  clear hno h5 h
  go_enter Try.func45, Try.ntmps45
  go_wp2_with (go_at_call 71; refine (P.out _).mono ?_; rintro e w1 ⟨rfl, b1⟩)
  go_ret
  exact ⟨rfl, b1⟩

theorem full_any (xs : List UInt8) (h : xs.length ≤ 1048576) (w : World) : Calls Try.prog 34 #[.string (str xs)] w fun e w' => e = .returned (.bool (fullB xs)) ∧ Below w.heap.size w w' := by
  have P := hide (rPoints_is xs h w)
  cases xs with
  | nil =>
    go_enter Try.func34, Try.ntmps34
    go_wp2_with fail
    go_ret
    exact ⟨rfl, Below.refl _ _⟩
  | cons x t =>
    have e0 : ((x :: t) == []) = false := rfl
    have E := hide (show fullB (x :: t) = isStr (x :: t) from rfl)
    rw [E.out]
    generalize x :: t = xs at *
    generalize isStr xs = y at *
    go_enter Try.func34, Try.ntmps34
    go_wp2_with (go_at_call 45; refine P.out.mono ?_; rintro e w1 ⟨rfl, b1⟩)
    go_ret
    exact ⟨rfl, b1⟩

/-- codes: may those of a Suback? -/
theorem codes_any (p : Pk) (C : Option Addr) (nc kc : Nat) (S : Option Addr) (ns ks : Nat) (w : World) (h : PkM w p C nc kc S ns ks) (hn : nc ≤ 1073741824) : Calls Try.prog 36 #[pkA p C nc kc S ns ks] w fun e w' => e = .returned (.bool (codesB p)) ∧ Below w.heap.size w w' := by
  obtain ⟨hl, hk, hR, _, _, _⟩ := h
  unfold codesB
  obtain ⟨ty, dup, id, topic, payload, qos, retain, client, clean, alive, hasWill, hasUser, hasPass, user, pass, present, codes, subs⟩ := p
  simp only [pkA] at hl hR ⊢
  have Hl := hide hl
  have HR := hide hR
  clear hl hR
  go_enter Try.func36, Try.ntmps36
  go_wp2_with fail
  generalize hW : w.alloc _ = W
  obtain ⟨hB, bW, _⟩ := boxed18 hW
  obtain ⟨c0, c1, c2, c3, c4, c5, c6, c7, c8, c9, c10, c11, c12, c13, c14, c15, c16, c17⟩ := hB.c18
  have BW := hide bW
  clear hW hB bW c0 c1 c2 c3 c4 c5 c6 c7 c8 c9 c10 c11 c12 c13 c14 c15 c17
  go_loopw [3] (fun i wr => ∃ k : Nat, i = .int .i64 (k : Int) ∧ k ≤ nc ∧ (codes.take k).all codeB = true ∧ wr = W) (fun i _ => nc - (intOf i).toNat)
  case atStart => exact ⟨0, rfl, by omega, rfl, rfl⟩
  case round =>
    obtain ⟨k, rfl, hkn, hall, rfl⟩ := hrel
    have Hall := hide hall
    clear hall
    by_cases hlt : k < nc
    · have q1 : (k : Int) < (nc : Int) := by omega
      have hlt' : k < codes.length := by rw [Hl.out]; exact hlt
      obtain ⟨b, o, rfl, hbl, hc⟩ := HR.out.at_ hlt
      have cA : wr.cell? ⟨b, o + k, none⟩ = some (.int .i64 codes[k]) := (BW.out.cell (p := ⟨b, o + k, none⟩) hbl).trans (hc k _ (iv_get codes k hlt'))
      have htk : codes.take (k + 1) = codes.take k ++ [codes[k]] := (List.take_append_getElem hlt').symm
      have hmem : codes[k] ∈ codes := List.getElem_mem hlt'
      generalize codes[k] = z at *
      have Hmem := hide hmem
      have Htk := hide htk
      have Hno := hide (show codeB z = false → (codes.all codeB && !codes.isEmpty) = false from fun e => by
        rw [Bool.and_eq_false_iff, List.all_eq_false]
        exact .inl ⟨z, Hmem.out, by rw [e]; simp⟩)
      clear hc hlt' hbl htk hmem
      by_cases h0 : z < 0
      · have Hz := hide (Hno.out (by unfold codeB; simp; omega))
        go_wp2_with fail
        go_ret
        exact ⟨by rw [Hz.out]; rfl, BW.out⟩
      · by_cases h2 : (2 : Int) < z
        · by_cases h128 : z = 128
          · have q2 : (z != 128) = false := by simp [h128]
            have Hz := hide (show codeB z = true by unfold codeB; simp; omega)
            clear h128
            go_wp2_with fail
            exact ⟨⟨k + 1, by go_num, by omega, by rw [Htk.out, List.all_append, Hall.out]; simp [Hz.out], by first | rfl | trivial⟩, by simp [intOf]; omega⟩
          · have q2 : (z != 128) = true := by rw [bne_iff_ne]; exact h128
            have Hz := hide (Hno.out (by unfold codeB; simp; omega))
            clear h128
            go_wp2_with fail
            go_ret
            exact ⟨by rw [Hz.out]; rfl, BW.out⟩
        · have Hz := hide (show codeB z = true by unfold codeB; simp; omega)
          go_wp2_with fail
          exact ⟨⟨k + 1, by go_num, by omega, by rw [Htk.out, List.all_append, Hall.out]; simp [Hz.out], by first | rfl | trivial⟩, by simp [intOf]; omega⟩
    · obtain rfl : k = nc := by omega
      have q1 : ¬ (k : Int) < (k : Int) := by omega
      have hfull : codes.all codeB = true := by
        have := Hall.out
        rwa [List.take_of_length_le (by rw [Hl.out]; exact Nat.le_refl _)] at this
      have He := hide (show (codes.all codeB && !codes.isEmpty) = decide (0 < k) by
        rw [hfull, Bool.true_and]
        have := Hl.out
        cases codes with
        | nil => simp at this; subst this; rfl
        | cons c t => simp at this; simp; omega)
      clear hfull
      go_wp2_with fail
      go_ret
      exact ⟨by rw [He.out]; rfl, BW.out⟩

end Go.Proofs.Ytkgidimaiedocaa

namespace Go.Proofs.Ytkgidimaiedocaa
set_option linter.unusedVariables false
set_option linter.unusedSimpArgs false
open Go.RowKit

set_option maxHeartbeats 1000000 in
theorem subs_any (p : Pk) (C : Option Addr) (nc kc : Nat) (S : Option Addr) (ns ks : Nat) (w : World) (h : PkM w p C nc kc S ns ks) (hn : ns ≤ 1073741824) (hs : ∀ s ∈ p.subs, s.1.length ≤ 1048576) : Calls Try.prog 35 #[pkA p C nc kc S ns ks] w fun e w' => e = .returned (.bool (subsB p)) ∧ Below w.heap.size w w' := by
  obtain ⟨_, _, _, hl, hk, hR⟩ := h
  unfold subsB
  obtain ⟨ty, dup, id, topic, payload, qos, retain, client, clean, alive, hasWill, hasUser, hasPass, user, pass, present, codes, subs⟩ := p
  simp only [pkA] at hl hR hs ⊢
  have Hl := hide hl
  have HR := hide hR
  have Hs := hide hs
  clear hl hR hs
  go_enter Try.func35, Try.ntmps35
  go_wp2_with fail
  generalize hW : w.alloc _ = W
  obtain ⟨hB, bW, _⟩ := boxed18 hW
  have BW := hide bW
  have HB := hide hB
  obtain ⟨g, hg⟩ : ∃ g, w.heap.size = g := ⟨_, rfl⟩
  rw [hg] at HB ⊢
  have Hg := hide hg
  clear hW hB bW hg
  go_loopw [3] (fun i wr => ∃ k : Nat, i = .int .i64 (k : Int) ∧ k ≤ ns ∧ (subs.take k).all (subB ty) = true ∧ Below W.heap.size W wr) (fun i _ => ns - (intOf i).toNat)
  case atStart => exact ⟨0, rfl, by omega, rfl, Below.refl _ _⟩
  case round =>
    obtain ⟨k, rfl, hkn, hall, hbr⟩ := hrel
    have Hall := hide hall
    have Hbr := hide hbr
    have HBr := hide (HB.out.keep hbr)
    obtain ⟨c0, -, -, -, -, -, -, -, -, -, -, -, -, -, -, -, -, c17⟩ := HBr.out.c18
    have BB := hide (show Below g w wr from by rw [← Hg.out]; exact below_on BW.out hbr)
    clear hall hbr
    by_cases hlt : k < ns
    · have q1 : (k : Int) < (ns : Int) := by omega
      have hlt' : k < subs.length := by rw [Hl.out]; exact hlt
      obtain ⟨b, o, rfl, hbl, hc⟩ := HR.out.at_ (k := k * 2) (by omega)
      obtain ⟨g0, g1⟩ := subVs_get subs k hlt'
      have cA : wr.cell? ⟨b, o + k * 2, none⟩ = some (.string (str subs[k].1)) := (BB.out.cell (p := ⟨b, o + k * 2, none⟩) (by rw [← Hg.out]; exact hbl)).trans (hc _ _ g0)
      have cB : wr.cell? ⟨b, o + k * 2 + 1, none⟩ = some (.int .i64 subs[k].2) := (BB.out.cell (p := ⟨b, o + k * 2 + 1, none⟩) (by rw [← Hg.out]; exact hbl)).trans (hc _ _ g1)
      have htk : subs.take (k + 1) = subs.take k ++ [subs[k]] := (List.take_append_getElem hlt').symm
      have hmem : subs[k] ∈ subs := List.getElem_mem hlt'
      have hlen := Hs.out subs[k] hmem
      generalize subs[k] = z at *
      have Hmem := hide hmem
      have Htk := hide htk
      have Hno := hide (show subB ty z = false → (subs.all (subB ty) && !subs.isEmpty) = false from fun e => by
        rw [Bool.and_eq_false_iff, List.all_eq_false]
        exact .inl ⟨z, Hmem.out, by rw [e]; simp⟩)
      obtain ⟨f, q⟩ := z
      simp only at cA cB hlen Hno Htk
      have PF := hide (full_any f hlen wr)
      have HF := hide (show subB ty (f, q) = (fullB f && decide (0 ≤ q ∧ q ≤ 2) && !(decide (ty = 10) && decide (q ≠ 0))) from rfl)
      clear hc hlt' hbl htk hmem g0 g1 hlen
      generalize fullB f = y at *
      cases y with
      | false =>
        have Hz := hide (Hno.out (by rw [HF.out]; rfl))
        go_wp2_with fail
        refine PF.out.mono ?_
        rintro e w2 ⟨rfl, b2⟩
        have B2 := hide (show Below w.heap.size w w2 from by rw [Hg.out]; exact BB.out.trans (b2.mono (by rw [← Hg.out]; exact BB.out.size)))
        have Bw2 := hide (Hbr.out.trans (b2.mono Hbr.out.size))
        have HB2 := hide (HBr.out.keep b2)
        obtain ⟨d0, -, -, -, -, -, -, -, -, -, -, -, -, -, -, -, -, d17⟩ := HB2.out.c18
        clear b2
        go_wp2_with fail
        go_ret
        exact ⟨by rw [Hz.out]; rfl, B2.out⟩
      | true =>
        by_cases h0 : q < 0
        · have Hz := hide (Hno.out (by rw [HF.out, decide_eq_false (show ¬ (0 ≤ q ∧ q ≤ 2) by omega)]; rfl))
          go_wp2_with fail
          refine PF.out.mono ?_
          rintro e w2 ⟨rfl, b2⟩
          have B2 := hide (show Below w.heap.size w w2 from by rw [Hg.out]; exact BB.out.trans (b2.mono (by rw [← Hg.out]; exact BB.out.size)))
          have Bw2 := hide (Hbr.out.trans (b2.mono Hbr.out.size))
          have HB2 := hide (HBr.out.keep b2)
          obtain ⟨d0, -, -, -, -, -, -, -, -, -, -, -, -, -, -, -, -, d17⟩ := HB2.out.c18
          clear b2
          go_wp2_with fail
          go_ret
          exact ⟨by rw [Hz.out]; rfl, B2.out⟩
        · by_cases h2 : (2 : Int) < q
          · have Hz := hide (Hno.out (by rw [HF.out, decide_eq_false (show ¬ (0 ≤ q ∧ q ≤ 2) by omega)]; rfl))
            go_wp2_with fail
            refine PF.out.mono ?_
            rintro e w2 ⟨rfl, b2⟩
            have B2 := hide (show Below w.heap.size w w2 from by rw [Hg.out]; exact BB.out.trans (b2.mono (by rw [← Hg.out]; exact BB.out.size)))
            have Bw2 := hide (Hbr.out.trans (b2.mono Hbr.out.size))
            have HB2 := hide (HBr.out.keep b2)
            obtain ⟨d0, -, -, -, -, -, -, -, -, -, -, -, -, -, -, -, -, d17⟩ := HB2.out.c18
            clear b2
            go_wp2_with fail
            go_ret
            exact ⟨by rw [Hz.out]; rfl, B2.out⟩
          · by_cases h10 : ty = 10
            · have qt : (ty == 10) = true := by simp [h10]
              by_cases hq : q = 0
              · have qq : (q != 0) = false := by simp [hq]
                have Hz := hide (show subB ty (f, q) = true by rw [HF.out, decide_eq_true (show (0 ≤ q ∧ q ≤ 2) by omega), decide_eq_false (show ¬ q ≠ 0 by omega)]; simp)
                clear h10 hq
                go_wp2_with fail
                refine PF.out.mono ?_
                rintro e w2 ⟨rfl, b2⟩
                have B2 := hide (show Below w.heap.size w w2 from by rw [Hg.out]; exact BB.out.trans (b2.mono (by rw [← Hg.out]; exact BB.out.size)))
                have Bw2 := hide (Hbr.out.trans (b2.mono Hbr.out.size))
                have HB2 := hide (HBr.out.keep b2)
                obtain ⟨d0, -, -, -, -, -, -, -, -, -, -, -, -, -, -, -, -, d17⟩ := HB2.out.c18
                clear b2
                go_wp2_with fail
                exact ⟨⟨k + 1, by go_num, by omega, by rw [Htk.out, List.all_append, Hall.out]; simp [Hz.out], Bw2.out⟩, by simp [intOf]; omega⟩
              · have qq : (q != 0) = true := by rw [bne_iff_ne]; exact hq
                have Hz := hide (Hno.out (by rw [HF.out, decide_eq_true h10, decide_eq_true (show q ≠ 0 from hq)]; simp))
                clear h10 hq
                go_wp2_with fail
                refine PF.out.mono ?_
                rintro e w2 ⟨rfl, b2⟩
                have B2 := hide (show Below w.heap.size w w2 from by rw [Hg.out]; exact BB.out.trans (b2.mono (by rw [← Hg.out]; exact BB.out.size)))
                have Bw2 := hide (Hbr.out.trans (b2.mono Hbr.out.size))
                have HB2 := hide (HBr.out.keep b2)
                obtain ⟨d0, -, -, -, -, -, -, -, -, -, -, -, -, -, -, -, -, d17⟩ := HB2.out.c18
                clear b2
                go_wp2_with fail
                go_ret
                exact ⟨by rw [Hz.out]; rfl, B2.out⟩
            · have qt : (ty == 10) = false := by simp [h10]
              have Hz := hide (show subB ty (f, q) = true by rw [HF.out, decide_eq_true (show (0 ≤ q ∧ q ≤ 2) by omega), decide_eq_false h10]; simp)
              clear h10
              go_wp2_with fail
              refine PF.out.mono ?_
              rintro e w2 ⟨rfl, b2⟩
              have B2 := hide (show Below w.heap.size w w2 from by rw [Hg.out]; exact BB.out.trans (b2.mono (by rw [← Hg.out]; exact BB.out.size)))
              have Bw2 := hide (Hbr.out.trans (b2.mono Hbr.out.size))
              have HB2 := hide (HBr.out.keep b2)
              obtain ⟨d0, -, -, -, -, -, -, -, -, -, -, -, -, -, -, -, -, d17⟩ := HB2.out.c18
              clear b2
              go_wp2_with fail
              exact ⟨⟨k + 1, by go_num, by omega, by rw [Htk.out, List.all_append, Hall.out]; simp [Hz.out], Bw2.out⟩, by simp [intOf]; omega⟩
    · obtain rfl : k = ns := by omega
      have q1 : ¬ (k : Int) < (k : Int) := by omega
      have hfull : subs.all (subB ty) = true := by
        have := Hall.out
        rwa [List.take_of_length_le (by rw [Hl.out]; exact Nat.le_refl _)] at this
      have He := hide (show (subs.all (subB ty) && !subs.isEmpty) = decide (0 < k) by
        rw [hfull, Bool.true_and]
        have := Hl.out
        cases subs with
        | nil => simp at this; subst this; rfl
        | cons c t => simp at this; simp; omega)
      clear hfull
      go_wp2_with fail
      go_ret
      exact ⟨by rw [He.out]; rfl, by rw [Hg.out]; exact BB.out⟩

end Go.Proofs.Ytkgidimaiedocaa

namespace Go.Proofs.Ytkgidimaiedocaa
set_option linter.unusedVariables false
set_option linter.unusedSimpArgs false
open Go.RowKit

theorem rWord_is (n : Int) (w : World) : Calls Try.prog 62 #[.int .i64 n] w fun e w' => e = .returned (.bool (decide (0 ≤ n ∧ n ≤ 65535))) ∧ w = w' := by
  by_cases h : 0 ≤ n ∧ n ≤ 65535
  · obtain ⟨k, rfl⟩ : ∃ k : Nat, n = (k : Int) := ⟨n.toNat, by omega⟩
    rw [decide_eq_true h]
    exact is_yes k (by omega) w
  · rw [decide_eq_false h]
    exact is_no n (by omega) w

set_option maxRecDepth 100000 in
set_option maxHeartbeats 4000000 in
theorem connect_any (p : Pk) (C : Option Addr) (nc kc : Nat) (S : Option Addr) (ns ks : Nat) (w : World) (h1 : p.client.length ≤ 1048576) (h2 : p.user.length ≤ 1048576) (h3 : p.topic.length ≤ 1048576) : Calls Try.prog 33 #[pkA p C nc kc S ns ks] w fun e w' => e = .returned (.bool (conB p)) ∧ Below w.heap.size w w' := by
  unfold conB
  obtain ⟨ty, dup, id, topic, payload, qos, retain, client, clean, alive, hasWill, hasUser, hasPass, user, pass, present, codes, subs⟩ := p
  simp only [pkA] at h1 h2 h3 ⊢
  have PC := hide fun W => rPoints_is client h1 W
  have PU := hide fun W => rPoints_is user h2 W
  have PT := hide fun W => full_any topic h3 W
  have PA := hide fun W => rWord_is alive W
  obtain ⟨lp, hlp⟩ : ∃ lp, pass.length = lp := ⟨_, rfl⟩
  obtain ⟨ly, hly⟩ : ∃ ly, payload.length = ly := ⟨_, rfl⟩
  rw [hlp, hly]
  generalize isStr client = sc at *
  generalize isStr user = su at *
  generalize fullB topic = ft at *
  generalize decide (0 ≤ alive ∧ alive ≤ 65535) = al at *
  clear h1 h2 h3
  cases sc with
  | false =>
    go_enter Try.func33, Try.ntmps33
    go_wp2_with fail
    generalize hW : w.alloc _ = W
    obtain ⟨hB, bW, _⟩ := boxed18 hW
    obtain ⟨c0, c1, c2, c3, c4, c5, c6, c7, c8, c9, c10, c11, c12, c13, c14, c15, c16, c17⟩ := hB.c18
    have BC := hide bW
    have HBc := hide hB
    clear hW hB bW
    go_wp2_with fail
    refine (PC.out _).mono ?_
    rintro e w1 ⟨rfl, b1⟩
    have HBc := hide (HBc.out.keep b1)
    have BC := hide (below_on BC.out b1)
    obtain ⟨c0, c1, c2, c3, c4, c5, c6, c7, c8, c9, c10, c11, c12, c13, c14, c15, c16, c17⟩ := HBc.out.c18
    clear b1
    go_wp2_with fail
    go_ret
    exact ⟨by simp <;> omega, BC.out⟩
  | true =>
    cases al with
    | false =>
      go_enter Try.func33, Try.ntmps33
      go_wp2_with fail
      generalize hW : w.alloc _ = W
      obtain ⟨hB, bW, _⟩ := boxed18 hW
      obtain ⟨c0, c1, c2, c3, c4, c5, c6, c7, c8, c9, c10, c11, c12, c13, c14, c15, c16, c17⟩ := hB.c18
      have BC := hide bW
      have HBc := hide hB
      clear hW hB bW
      go_wp2_with fail
      refine (PC.out _).mono ?_
      rintro e w1 ⟨rfl, b1⟩
      have HBc := hide (HBc.out.keep b1)
      have BC := hide (below_on BC.out b1)
      obtain ⟨c0, c1, c2, c3, c4, c5, c6, c7, c8, c9, c10, c11, c12, c13, c14, c15, c16, c17⟩ := HBc.out.c18
      clear b1
      go_wp2_with fail
      refine (PA.out _).mono ?_
      rintro e w1 ⟨rfl, rfl⟩
      go_wp2_with fail
      go_ret
      exact ⟨by simp <;> omega, BC.out⟩
    | true =>
      cases hasPass with
      | false =>
        cases su with
        | false =>
          go_enter Try.func33, Try.ntmps33
          go_wp2_with fail
          generalize hW : w.alloc _ = W
          obtain ⟨hB, bW, _⟩ := boxed18 hW
          obtain ⟨c0, c1, c2, c3, c4, c5, c6, c7, c8, c9, c10, c11, c12, c13, c14, c15, c16, c17⟩ := hB.c18
          have BC := hide bW
          have HBc := hide hB
          clear hW hB bW
          go_wp2_with fail
          refine (PC.out _).mono ?_
          rintro e w1 ⟨rfl, b1⟩
          have HBc := hide (HBc.out.keep b1)
          have BC := hide (below_on BC.out b1)
          obtain ⟨c0, c1, c2, c3, c4, c5, c6, c7, c8, c9, c10, c11, c12, c13, c14, c15, c16, c17⟩ := HBc.out.c18
          clear b1
          go_wp2_with fail
          refine (PA.out _).mono ?_
          rintro e w1 ⟨rfl, rfl⟩
          go_wp2_with fail
          refine (PU.out _).mono ?_
          rintro e w1 ⟨rfl, b1⟩
          have HBc := hide (HBc.out.keep b1)
          have BC := hide (below_on BC.out b1)
          obtain ⟨c0, c1, c2, c3, c4, c5, c6, c7, c8, c9, c10, c11, c12, c13, c14, c15, c16, c17⟩ := HBc.out.c18
          clear b1
          go_wp2_with fail
          go_ret
          exact ⟨by simp <;> omega, BC.out⟩
        | true =>
          by_cases hl : (65535 : Int) < (lp : Int)
          · rw [decide_eq_false (show ¬ lp ≤ 65535 by omega)]
            go_enter Try.func33, Try.ntmps33
            go_wp2_with fail
            generalize hW : w.alloc _ = W
            obtain ⟨hB, bW, _⟩ := boxed18 hW
            obtain ⟨c0, c1, c2, c3, c4, c5, c6, c7, c8, c9, c10, c11, c12, c13, c14, c15, c16, c17⟩ := hB.c18
            have BC := hide bW
            have HBc := hide hB
            clear hW hB bW
            go_wp2_with fail
            refine (PC.out _).mono ?_
            rintro e w1 ⟨rfl, b1⟩
            have HBc := hide (HBc.out.keep b1)
            have BC := hide (below_on BC.out b1)
            obtain ⟨c0, c1, c2, c3, c4, c5, c6, c7, c8, c9, c10, c11, c12, c13, c14, c15, c16, c17⟩ := HBc.out.c18
            clear b1
            go_wp2_with fail
            refine (PA.out _).mono ?_
            rintro e w1 ⟨rfl, rfl⟩
            go_wp2_with fail
            refine (PU.out _).mono ?_
            rintro e w1 ⟨rfl, b1⟩
            have HBc := hide (HBc.out.keep b1)
            have BC := hide (below_on BC.out b1)
            obtain ⟨c0, c1, c2, c3, c4, c5, c6, c7, c8, c9, c10, c11, c12, c13, c14, c15, c16, c17⟩ := HBc.out.c18
            clear b1
            go_wp2_with fail
            go_ret
            exact ⟨by simp <;> omega, BC.out⟩
          · rw [decide_eq_true (show lp ≤ 65535 by omega)]
            cases hasWill with
            | false =>
              go_enter Try.func33, Try.ntmps33
              go_wp2_with fail
              generalize hW : w.alloc _ = W
              obtain ⟨hB, bW, _⟩ := boxed18 hW
              obtain ⟨c0, c1, c2, c3, c4, c5, c6, c7, c8, c9, c10, c11, c12, c13, c14, c15, c16, c17⟩ := hB.c18
              have BC := hide bW
              have HBc := hide hB
              clear hW hB bW
              go_wp2_with fail
              refine (PC.out _).mono ?_
              rintro e w1 ⟨rfl, b1⟩
              have HBc := hide (HBc.out.keep b1)
              have BC := hide (below_on BC.out b1)
              obtain ⟨c0, c1, c2, c3, c4, c5, c6, c7, c8, c9, c10, c11, c12, c13, c14, c15, c16, c17⟩ := HBc.out.c18
              clear b1
              go_wp2_with fail
              refine (PA.out _).mono ?_
              rintro e w1 ⟨rfl, rfl⟩
              go_wp2_with fail
              refine (PU.out _).mono ?_
              rintro e w1 ⟨rfl, b1⟩
              have HBc := hide (HBc.out.keep b1)
              have BC := hide (below_on BC.out b1)
              obtain ⟨c0, c1, c2, c3, c4, c5, c6, c7, c8, c9, c10, c11, c12, c13, c14, c15, c16, c17⟩ := HBc.out.c18
              clear b1
              go_wp2_with fail
              go_ret
              exact ⟨by simp <;> omega, BC.out⟩
            | true =>
              cases ft with
              | false =>
                go_enter Try.func33, Try.ntmps33
                go_wp2_with fail
                generalize hW : w.alloc _ = W
                obtain ⟨hB, bW, _⟩ := boxed18 hW
                obtain ⟨c0, c1, c2, c3, c4, c5, c6, c7, c8, c9, c10, c11, c12, c13, c14, c15, c16, c17⟩ := hB.c18
                have BC := hide bW
                have HBc := hide hB
                clear hW hB bW
                go_wp2_with fail
                refine (PC.out _).mono ?_
                rintro e w1 ⟨rfl, b1⟩
                have HBc := hide (HBc.out.keep b1)
                have BC := hide (below_on BC.out b1)
                obtain ⟨c0, c1, c2, c3, c4, c5, c6, c7, c8, c9, c10, c11, c12, c13, c14, c15, c16, c17⟩ := HBc.out.c18
                clear b1
                go_wp2_with fail
                refine (PA.out _).mono ?_
                rintro e w1 ⟨rfl, rfl⟩
                go_wp2_with fail
                refine (PU.out _).mono ?_
                rintro e w1 ⟨rfl, b1⟩
                have HBc := hide (HBc.out.keep b1)
                have BC := hide (below_on BC.out b1)
                obtain ⟨c0, c1, c2, c3, c4, c5, c6, c7, c8, c9, c10, c11, c12, c13, c14, c15, c16, c17⟩ := HBc.out.c18
                clear b1
                go_wp2_with fail
                refine (PT.out _).mono ?_
                rintro e w1 ⟨rfl, b1⟩
                have HBc := hide (HBc.out.keep b1)
                have BC := hide (below_on BC.out b1)
                obtain ⟨c0, c1, c2, c3, c4, c5, c6, c7, c8, c9, c10, c11, c12, c13, c14, c15, c16, c17⟩ := HBc.out.c18
                clear b1
                go_wp2_with fail
                go_ret
                exact ⟨by simp <;> omega, BC.out⟩
              | true =>
                by_cases hy : (ly : Int) ≤ 65535
                · rw [decide_eq_true (show ly ≤ 65535 by omega)]
                  by_cases hq0 : 0 ≤ qos
                  · rw [decide_eq_true hq0]
                    by_cases hq2 : qos ≤ 2
                    · rw [decide_eq_true hq2]
                      go_enter Try.func33, Try.ntmps33
                      go_wp2_with fail
                      generalize hW : w.alloc _ = W
                      obtain ⟨hB, bW, _⟩ := boxed18 hW
                      obtain ⟨c0, c1, c2, c3, c4, c5, c6, c7, c8, c9, c10, c11, c12, c13, c14, c15, c16, c17⟩ := hB.c18
                      have BC := hide bW
                      have HBc := hide hB
                      clear hW hB bW
                      go_wp2_with fail
                      refine (PC.out _).mono ?_
                      rintro e w1 ⟨rfl, b1⟩
                      have HBc := hide (HBc.out.keep b1)
                      have BC := hide (below_on BC.out b1)
                      obtain ⟨c0, c1, c2, c3, c4, c5, c6, c7, c8, c9, c10, c11, c12, c13, c14, c15, c16, c17⟩ := HBc.out.c18
                      clear b1
                      go_wp2_with fail
                      refine (PA.out _).mono ?_
                      rintro e w1 ⟨rfl, rfl⟩
                      go_wp2_with fail
                      refine (PU.out _).mono ?_
                      rintro e w1 ⟨rfl, b1⟩
                      have HBc := hide (HBc.out.keep b1)
                      have BC := hide (below_on BC.out b1)
                      obtain ⟨c0, c1, c2, c3, c4, c5, c6, c7, c8, c9, c10, c11, c12, c13, c14, c15, c16, c17⟩ := HBc.out.c18
                      clear b1
                      go_wp2_with fail
                      refine (PT.out _).mono ?_
                      rintro e w1 ⟨rfl, b1⟩
                      have HBc := hide (HBc.out.keep b1)
                      have BC := hide (below_on BC.out b1)
                      obtain ⟨c0, c1, c2, c3, c4, c5, c6, c7, c8, c9, c10, c11, c12, c13, c14, c15, c16, c17⟩ := HBc.out.c18
                      clear b1
                      go_wp2_with fail
                      go_ret
                      exact ⟨by simp <;> omega, BC.out⟩
                    · rw [decide_eq_false hq2]
                      go_enter Try.func33, Try.ntmps33
                      go_wp2_with fail
                      generalize hW : w.alloc _ = W
                      obtain ⟨hB, bW, _⟩ := boxed18 hW
                      obtain ⟨c0, c1, c2, c3, c4, c5, c6, c7, c8, c9, c10, c11, c12, c13, c14, c15, c16, c17⟩ := hB.c18
                      have BC := hide bW
                      have HBc := hide hB
                      clear hW hB bW
                      go_wp2_with fail
                      refine (PC.out _).mono ?_
                      rintro e w1 ⟨rfl, b1⟩
                      have HBc := hide (HBc.out.keep b1)
                      have BC := hide (below_on BC.out b1)
                      obtain ⟨c0, c1, c2, c3, c4, c5, c6, c7, c8, c9, c10, c11, c12, c13, c14, c15, c16, c17⟩ := HBc.out.c18
                      clear b1
                      go_wp2_with fail
                      refine (PA.out _).mono ?_
                      rintro e w1 ⟨rfl, rfl⟩
                      go_wp2_with fail
                      refine (PU.out _).mono ?_
                      rintro e w1 ⟨rfl, b1⟩
                      have HBc := hide (HBc.out.keep b1)
                      have BC := hide (below_on BC.out b1)
                      obtain ⟨c0, c1, c2, c3, c4, c5, c6, c7, c8, c9, c10, c11, c12, c13, c14, c15, c16, c17⟩ := HBc.out.c18
                      clear b1
                      go_wp2_with fail
                      refine (PT.out _).mono ?_
                      rintro e w1 ⟨rfl, b1⟩
                      have HBc := hide (HBc.out.keep b1)
                      have BC := hide (below_on BC.out b1)
                      obtain ⟨c0, c1, c2, c3, c4, c5, c6, c7, c8, c9, c10, c11, c12, c13, c14, c15, c16, c17⟩ := HBc.out.c18
                      clear b1
                      go_wp2_with fail
                      go_ret
                      exact ⟨by simp <;> omega, BC.out⟩
                  · rw [decide_eq_false hq0]
                    go_enter Try.func33, Try.ntmps33
                    go_wp2_with fail
                    generalize hW : w.alloc _ = W
                    obtain ⟨hB, bW, _⟩ := boxed18 hW
                    obtain ⟨c0, c1, c2, c3, c4, c5, c6, c7, c8, c9, c10, c11, c12, c13, c14, c15, c16, c17⟩ := hB.c18
                    have BC := hide bW
                    have HBc := hide hB
                    clear hW hB bW
                    go_wp2_with fail
                    refine (PC.out _).mono ?_
                    rintro e w1 ⟨rfl, b1⟩
                    have HBc := hide (HBc.out.keep b1)
                    have BC := hide (below_on BC.out b1)
                    obtain ⟨c0, c1, c2, c3, c4, c5, c6, c7, c8, c9, c10, c11, c12, c13, c14, c15, c16, c17⟩ := HBc.out.c18
                    clear b1
                    go_wp2_with fail
                    refine (PA.out _).mono ?_
                    rintro e w1 ⟨rfl, rfl⟩
                    go_wp2_with fail
                    refine (PU.out _).mono ?_
                    rintro e w1 ⟨rfl, b1⟩
                    have HBc := hide (HBc.out.keep b1)
                    have BC := hide (below_on BC.out b1)
                    obtain ⟨c0, c1, c2, c3, c4, c5, c6, c7, c8, c9, c10, c11, c12, c13, c14, c15, c16, c17⟩ := HBc.out.c18
                    clear b1
                    go_wp2_with fail
                    refine (PT.out _).mono ?_
                    rintro e w1 ⟨rfl, b1⟩
                    have HBc := hide (HBc.out.keep b1)
                    have BC := hide (below_on BC.out b1)
                    obtain ⟨c0, c1, c2, c3, c4, c5, c6, c7, c8, c9, c10, c11, c12, c13, c14, c15, c16, c17⟩ := HBc.out.c18
                    clear b1
                    go_wp2_with fail
                    go_ret
                    exact ⟨by simp <;> omega, BC.out⟩
                · rw [decide_eq_false (show ¬ ly ≤ 65535 by omega)]
                  go_enter Try.func33, Try.ntmps33
                  go_wp2_with fail
                  generalize hW : w.alloc _ = W
                  obtain ⟨hB, bW, _⟩ := boxed18 hW
                  obtain ⟨c0, c1, c2, c3, c4, c5, c6, c7, c8, c9, c10, c11, c12, c13, c14, c15, c16, c17⟩ := hB.c18
                  have BC := hide bW
                  have HBc := hide hB
                  clear hW hB bW
                  go_wp2_with fail
                  refine (PC.out _).mono ?_
                  rintro e w1 ⟨rfl, b1⟩
                  have HBc := hide (HBc.out.keep b1)
                  have BC := hide (below_on BC.out b1)
                  obtain ⟨c0, c1, c2, c3, c4, c5, c6, c7, c8, c9, c10, c11, c12, c13, c14, c15, c16, c17⟩ := HBc.out.c18
                  clear b1
                  go_wp2_with fail
                  refine (PA.out _).mono ?_
                  rintro e w1 ⟨rfl, rfl⟩
                  go_wp2_with fail
                  refine (PU.out _).mono ?_
                  rintro e w1 ⟨rfl, b1⟩
                  have HBc := hide (HBc.out.keep b1)
                  have BC := hide (below_on BC.out b1)
                  obtain ⟨c0, c1, c2, c3, c4, c5, c6, c7, c8, c9, c10, c11, c12, c13, c14, c15, c16, c17⟩ := HBc.out.c18
                  clear b1
                  go_wp2_with fail
                  refine (PT.out _).mono ?_
                  rintro e w1 ⟨rfl, b1⟩
                  have HBc := hide (HBc.out.keep b1)
                  have BC := hide (below_on BC.out b1)
                  obtain ⟨c0, c1, c2, c3, c4, c5, c6, c7, c8, c9, c10, c11, c12, c13, c14, c15, c16, c17⟩ := HBc.out.c18
                  clear b1
                  go_wp2_with fail
                  go_ret
                  exact ⟨by simp <;> omega, BC.out⟩
      | true =>
        cases hasUser with
        | false =>
          go_enter Try.func33, Try.ntmps33
          go_wp2_with fail
          generalize hW : w.alloc _ = W
          obtain ⟨hB, bW, _⟩ := boxed18 hW
          obtain ⟨c0, c1, c2, c3, c4, c5, c6, c7, c8, c9, c10, c11, c12, c13, c14, c15, c16, c17⟩ := hB.c18
          have BC := hide bW
          have HBc := hide hB
          clear hW hB bW
          go_wp2_with fail
          refine (PC.out _).mono ?_
          rintro e w1 ⟨rfl, b1⟩
          have HBc := hide (HBc.out.keep b1)
          have BC := hide (below_on BC.out b1)
          obtain ⟨c0, c1, c2, c3, c4, c5, c6, c7, c8, c9, c10, c11, c12, c13, c14, c15, c16, c17⟩ := HBc.out.c18
          clear b1
          go_wp2_with fail
          refine (PA.out _).mono ?_
          rintro e w1 ⟨rfl, rfl⟩
          go_wp2_with fail
          go_ret
          exact ⟨by simp <;> omega, BC.out⟩
        | true =>
          cases su with
          | false =>
            go_enter Try.func33, Try.ntmps33
            go_wp2_with fail
            generalize hW : w.alloc _ = W
            obtain ⟨hB, bW, _⟩ := boxed18 hW
            obtain ⟨c0, c1, c2, c3, c4, c5, c6, c7, c8, c9, c10, c11, c12, c13, c14, c15, c16, c17⟩ := hB.c18
            have BC := hide bW
            have HBc := hide hB
            clear hW hB bW
            go_wp2_with fail
            refine (PC.out _).mono ?_
            rintro e w1 ⟨rfl, b1⟩
            have HBc := hide (HBc.out.keep b1)
            have BC := hide (below_on BC.out b1)
            obtain ⟨c0, c1, c2, c3, c4, c5, c6, c7, c8, c9, c10, c11, c12, c13, c14, c15, c16, c17⟩ := HBc.out.c18
            clear b1
            go_wp2_with fail
            refine (PA.out _).mono ?_
            rintro e w1 ⟨rfl, rfl⟩
            go_wp2_with fail
            refine (PU.out _).mono ?_
            rintro e w1 ⟨rfl, b1⟩
            have HBc := hide (HBc.out.keep b1)
            have BC := hide (below_on BC.out b1)
            obtain ⟨c0, c1, c2, c3, c4, c5, c6, c7, c8, c9, c10, c11, c12, c13, c14, c15, c16, c17⟩ := HBc.out.c18
            clear b1
            go_wp2_with fail
            go_ret
            exact ⟨by simp <;> omega, BC.out⟩
          | true =>
            by_cases hl : (65535 : Int) < (lp : Int)
            · rw [decide_eq_false (show ¬ lp ≤ 65535 by omega)]
              go_enter Try.func33, Try.ntmps33
              go_wp2_with fail
              generalize hW : w.alloc _ = W
              obtain ⟨hB, bW, _⟩ := boxed18 hW
              obtain ⟨c0, c1, c2, c3, c4, c5, c6, c7, c8, c9, c10, c11, c12, c13, c14, c15, c16, c17⟩ := hB.c18
              have BC := hide bW
              have HBc := hide hB
              clear hW hB bW
              go_wp2_with fail
              refine (PC.out _).mono ?_
              rintro e w1 ⟨rfl, b1⟩
              have HBc := hide (HBc.out.keep b1)
              have BC := hide (below_on BC.out b1)
              obtain ⟨c0, c1, c2, c3, c4, c5, c6, c7, c8, c9, c10, c11, c12, c13, c14, c15, c16, c17⟩ := HBc.out.c18
              clear b1
              go_wp2_with fail
              refine (PA.out _).mono ?_
              rintro e w1 ⟨rfl, rfl⟩
              go_wp2_with fail
              refine (PU.out _).mono ?_
              rintro e w1 ⟨rfl, b1⟩
              have HBc := hide (HBc.out.keep b1)
              have BC := hide (below_on BC.out b1)
              obtain ⟨c0, c1, c2, c3, c4, c5, c6, c7, c8, c9, c10, c11, c12, c13, c14, c15, c16, c17⟩ := HBc.out.c18
              clear b1
              go_wp2_with fail
              go_ret
              exact ⟨by simp <;> omega, BC.out⟩
            · rw [decide_eq_true (show lp ≤ 65535 by omega)]
              cases hasWill with
              | false =>
                go_enter Try.func33, Try.ntmps33
                go_wp2_with fail
                generalize hW : w.alloc _ = W
                obtain ⟨hB, bW, _⟩ := boxed18 hW
                obtain ⟨c0, c1, c2, c3, c4, c5, c6, c7, c8, c9, c10, c11, c12, c13, c14, c15, c16, c17⟩ := hB.c18
                have BC := hide bW
                have HBc := hide hB
                clear hW hB bW
                go_wp2_with fail
                refine (PC.out _).mono ?_
                rintro e w1 ⟨rfl, b1⟩
                have HBc := hide (HBc.out.keep b1)
                have BC := hide (below_on BC.out b1)
                obtain ⟨c0, c1, c2, c3, c4, c5, c6, c7, c8, c9, c10, c11, c12, c13, c14, c15, c16, c17⟩ := HBc.out.c18
                clear b1
                go_wp2_with fail
                refine (PA.out _).mono ?_
                rintro e w1 ⟨rfl, rfl⟩
                go_wp2_with fail
                refine (PU.out _).mono ?_
                rintro e w1 ⟨rfl, b1⟩
                have HBc := hide (HBc.out.keep b1)
                have BC := hide (below_on BC.out b1)
                obtain ⟨c0, c1, c2, c3, c4, c5, c6, c7, c8, c9, c10, c11, c12, c13, c14, c15, c16, c17⟩ := HBc.out.c18
                clear b1
                go_wp2_with fail
                go_ret
                exact ⟨by simp <;> omega, BC.out⟩
              | true =>
                cases ft with
                | false =>
                  go_enter Try.func33, Try.ntmps33
                  go_wp2_with fail
                  generalize hW : w.alloc _ = W
                  obtain ⟨hB, bW, _⟩ := boxed18 hW
                  obtain ⟨c0, c1, c2, c3, c4, c5, c6, c7, c8, c9, c10, c11, c12, c13, c14, c15, c16, c17⟩ := hB.c18
                  have BC := hide bW
                  have HBc := hide hB
                  clear hW hB bW
                  go_wp2_with fail
                  refine (PC.out _).mono ?_
                  rintro e w1 ⟨rfl, b1⟩
                  have HBc := hide (HBc.out.keep b1)
                  have BC := hide (below_on BC.out b1)
                  obtain ⟨c0, c1, c2, c3, c4, c5, c6, c7, c8, c9, c10, c11, c12, c13, c14, c15, c16, c17⟩ := HBc.out.c18
                  clear b1
                  go_wp2_with fail
                  refine (PA.out _).mono ?_
                  rintro e w1 ⟨rfl, rfl⟩
                  go_wp2_with fail
                  refine (PU.out _).mono ?_
                  rintro e w1 ⟨rfl, b1⟩
                  have HBc := hide (HBc.out.keep b1)
                  have BC := hide (below_on BC.out b1)
                  obtain ⟨c0, c1, c2, c3, c4, c5, c6, c7, c8, c9, c10, c11, c12, c13, c14, c15, c16, c17⟩ := HBc.out.c18
                  clear b1
                  go_wp2_with fail
                  refine (PT.out _).mono ?_
                  rintro e w1 ⟨rfl, b1⟩
                  have HBc := hide (HBc.out.keep b1)
                  have BC := hide (below_on BC.out b1)
                  obtain ⟨c0, c1, c2, c3, c4, c5, c6, c7, c8, c9, c10, c11, c12, c13, c14, c15, c16, c17⟩ := HBc.out.c18
                  clear b1
                  go_wp2_with fail
                  go_ret
                  exact ⟨by simp <;> omega, BC.out⟩
                | true =>
                  by_cases hy : (ly : Int) ≤ 65535
                  · rw [decide_eq_true (show ly ≤ 65535 by omega)]
                    by_cases hq0 : 0 ≤ qos
                    · rw [decide_eq_true hq0]
                      by_cases hq2 : qos ≤ 2
                      · rw [decide_eq_true hq2]
                        go_enter Try.func33, Try.ntmps33
                        go_wp2_with fail
                        generalize hW : w.alloc _ = W
                        obtain ⟨hB, bW, _⟩ := boxed18 hW
                        obtain ⟨c0, c1, c2, c3, c4, c5, c6, c7, c8, c9, c10, c11, c12, c13, c14, c15, c16, c17⟩ := hB.c18
                        have BC := hide bW
                        have HBc := hide hB
                        clear hW hB bW
                        go_wp2_with fail
                        refine (PC.out _).mono ?_
                        rintro e w1 ⟨rfl, b1⟩
                        have HBc := hide (HBc.out.keep b1)
                        have BC := hide (below_on BC.out b1)
                        obtain ⟨c0, c1, c2, c3, c4, c5, c6, c7, c8, c9, c10, c11, c12, c13, c14, c15, c16, c17⟩ := HBc.out.c18
                        clear b1
                        go_wp2_with fail
                        refine (PA.out _).mono ?_
                        rintro e w1 ⟨rfl, rfl⟩
                        go_wp2_with fail
                        refine (PU.out _).mono ?_
                        rintro e w1 ⟨rfl, b1⟩
                        have HBc := hide (HBc.out.keep b1)
                        have BC := hide (below_on BC.out b1)
                        obtain ⟨c0, c1, c2, c3, c4, c5, c6, c7, c8, c9, c10, c11, c12, c13, c14, c15, c16, c17⟩ := HBc.out.c18
                        clear b1
                        go_wp2_with fail
                        refine (PT.out _).mono ?_
                        rintro e w1 ⟨rfl, b1⟩
                        have HBc := hide (HBc.out.keep b1)
                        have BC := hide (below_on BC.out b1)
                        obtain ⟨c0, c1, c2, c3, c4, c5, c6, c7, c8, c9, c10, c11, c12, c13, c14, c15, c16, c17⟩ := HBc.out.c18
                        clear b1
                        go_wp2_with fail
                        go_ret
                        exact ⟨by simp <;> omega, BC.out⟩
                      · rw [decide_eq_false hq2]
                        go_enter Try.func33, Try.ntmps33
                        go_wp2_with fail
                        generalize hW : w.alloc _ = W
                        obtain ⟨hB, bW, _⟩ := boxed18 hW
                        obtain ⟨c0, c1, c2, c3, c4, c5, c6, c7, c8, c9, c10, c11, c12, c13, c14, c15, c16, c17⟩ := hB.c18
                        have BC := hide bW
                        have HBc := hide hB
                        clear hW hB bW
                        go_wp2_with fail
                        refine (PC.out _).mono ?_
                        rintro e w1 ⟨rfl, b1⟩
                        have HBc := hide (HBc.out.keep b1)
                        have BC := hide (below_on BC.out b1)
                        obtain ⟨c0, c1, c2, c3, c4, c5, c6, c7, c8, c9, c10, c11, c12, c13, c14, c15, c16, c17⟩ := HBc.out.c18
                        clear b1
                        go_wp2_with fail
                        refine (PA.out _).mono ?_
                        rintro e w1 ⟨rfl, rfl⟩
                        go_wp2_with fail
                        refine (PU.out _).mono ?_
                        rintro e w1 ⟨rfl, b1⟩
                        have HBc := hide (HBc.out.keep b1)
                        have BC := hide (below_on BC.out b1)
                        obtain ⟨c0, c1, c2, c3, c4, c5, c6, c7, c8, c9, c10, c11, c12, c13, c14, c15, c16, c17⟩ := HBc.out.c18
                        clear b1
                        go_wp2_with fail
                        refine (PT.out _).mono ?_
                        rintro e w1 ⟨rfl, b1⟩
                        have HBc := hide (HBc.out.keep b1)
                        have BC := hide (below_on BC.out b1)
                        obtain ⟨c0, c1, c2, c3, c4, c5, c6, c7, c8, c9, c10, c11, c12, c13, c14, c15, c16, c17⟩ := HBc.out.c18
                        clear b1
                        go_wp2_with fail
                        go_ret
                        exact ⟨by simp <;> omega, BC.out⟩
                    · rw [decide_eq_false hq0]
                      go_enter Try.func33, Try.ntmps33
                      go_wp2_with fail
                      generalize hW : w.alloc _ = W
                      obtain ⟨hB, bW, _⟩ := boxed18 hW
                      obtain ⟨c0, c1, c2, c3, c4, c5, c6, c7, c8, c9, c10, c11, c12, c13, c14, c15, c16, c17⟩ := hB.c18
                      have BC := hide bW
                      have HBc := hide hB
                      clear hW hB bW
                      go_wp2_with fail
                      refine (PC.out _).mono ?_
                      rintro e w1 ⟨rfl, b1⟩
                      have HBc := hide (HBc.out.keep b1)
                      have BC := hide (below_on BC.out b1)
                      obtain ⟨c0, c1, c2, c3, c4, c5, c6, c7, c8, c9, c10, c11, c12, c13, c14, c15, c16, c17⟩ := HBc.out.c18
                      clear b1
                      go_wp2_with fail
                      refine (PA.out _).mono ?_
                      rintro e w1 ⟨rfl, rfl⟩
                      go_wp2_with fail
                      refine (PU.out _).mono ?_
                      rintro e w1 ⟨rfl, b1⟩
                      have HBc := hide (HBc.out.keep b1)
                      have BC := hide (below_on BC.out b1)
                      obtain ⟨c0, c1, c2, c3, c4, c5, c6, c7, c8, c9, c10, c11, c12, c13, c14, c15, c16, c17⟩ := HBc.out.c18
                      clear b1
                      go_wp2_with fail
                      refine (PT.out _).mono ?_
                      rintro e w1 ⟨rfl, b1⟩
                      have HBc := hide (HBc.out.keep b1)
                      have BC := hide (below_on BC.out b1)
                      obtain ⟨c0, c1, c2, c3, c4, c5, c6, c7, c8, c9, c10, c11, c12, c13, c14, c15, c16, c17⟩ := HBc.out.c18
                      clear b1
                      go_wp2_with fail
                      go_ret
                      exact ⟨by simp <;> omega, BC.out⟩
                  · rw [decide_eq_false (show ¬ ly ≤ 65535 by omega)]
                    go_enter Try.func33, Try.ntmps33
                    go_wp2_with fail
                    generalize hW : w.alloc _ = W
                    obtain ⟨hB, bW, _⟩ := boxed18 hW
                    obtain ⟨c0, c1, c2, c3, c4, c5, c6, c7, c8, c9, c10, c11, c12, c13, c14, c15, c16, c17⟩ := hB.c18
                    have BC := hide bW
                    have HBc := hide hB
                    clear hW hB bW
                    go_wp2_with fail
                    refine (PC.out _).mono ?_
                    rintro e w1 ⟨rfl, b1⟩
                    have HBc := hide (HBc.out.keep b1)
                    have BC := hide (below_on BC.out b1)
                    obtain ⟨c0, c1, c2, c3, c4, c5, c6, c7, c8, c9, c10, c11, c12, c13, c14, c15, c16, c17⟩ := HBc.out.c18
                    clear b1
                    go_wp2_with fail
                    refine (PA.out _).mono ?_
                    rintro e w1 ⟨rfl, rfl⟩
                    go_wp2_with fail
                    refine (PU.out _).mono ?_
                    rintro e w1 ⟨rfl, b1⟩
                    have HBc := hide (HBc.out.keep b1)
                    have BC := hide (below_on BC.out b1)
                    obtain ⟨c0, c1, c2, c3, c4, c5, c6, c7, c8, c9, c10, c11, c12, c13, c14, c15, c16, c17⟩ := HBc.out.c18
                    clear b1
                    go_wp2_with fail
                    refine (PT.out _).mono ?_
                    rintro e w1 ⟨rfl, b1⟩
                    have HBc := hide (HBc.out.keep b1)
                    have BC := hide (below_on BC.out b1)
                    obtain ⟨c0, c1, c2, c3, c4, c5, c6, c7, c8, c9, c10, c11, c12, c13, c14, c15, c16, c17⟩ := HBc.out.c18
                    clear b1
                    go_wp2_with fail
                    go_ret
                    exact ⟨by simp <;> omega, BC.out⟩

end Go.Proofs.Ytkgidimaiedocaa

namespace Go.Proofs.Ytkgidimaiedocaa
set_option linter.unusedVariables false
set_option linter.unusedSimpArgs false
open Go.RowKit

end Go.Proofs.Ytkgidimaiedocaa
