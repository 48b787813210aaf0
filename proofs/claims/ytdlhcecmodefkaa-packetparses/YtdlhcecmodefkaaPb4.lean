/-
  What is proved here: the program's 'behindConnect' of package packet. Conditions: strings of at most 65535 bytes; a quality from 0 to 2. ALSO: the program's 'behind' of package packet, for a packet that may be. Conditions: strings of at most 65535 bytes; at most 65535 codes, filters. ALSO: what the program's Bytes of package packet returns. Conditions: strings of at most 65535 bytes; at most 65535 codes, filters.
-/
import Derived.Test.YtdlhcecmodefkaaPb1
import Derived.Test.YtdlhcecmodefkaaPq13
import Derived.Deep.RegionHeld3
import Derived.Test.YtdlhcecmodefkaaVt3
namespace Go.Proofs.Ytdlhcecmodefkaa
set_option linter.unusedVariables false
set_option linter.unusedSimpArgs false
open Go.RowKit

theorem conBody_texts (p : Pk) : conBody p = mqtt ++ [4, UInt8.ofNat (conFlags p)] ++ wordI p.alive ++ (textsP p).flatMap textL := by
  unfold conBody textsP
  cases p.hasWill <;> cases p.hasUser <;> cases p.hasPass <;> simp
theorem texts_flen : ∀ (l : List (List UInt8)), (∀ s ∈ l, s.length ≤ 65535) → (l.flatMap textL).length ≤ l.length * 65537
  | [], _ => by simp
  | s :: l, h => by
    have h1 := h s (by simp)
    have h2 := texts_flen l (fun t ht => h t (by simp [ht]))
    rw [List.flatMap_cons, List.length_append, List.length_cons, textL_len]
    omega
theorem conFlags_lt (p : Pk) (h0 : 0 ≤ p.qos) (h2 : p.qos ≤ 2) : conFlags p < 256 := by
  unfold conFlags
  have h1 : ∀ b n, flagB b n ≤ n := fun b n => by unfold flagB; split <;> omega
  have := h1 p.clean 2
  have := h1 p.hasWill 4
  have := h1 p.retain 32
  have := h1 p.hasPass 64
  have := h1 p.hasUser 128
  omega

set_option maxRecDepth 100000 in
set_option maxHeartbeats 4000000 in
theorem behindConnect_any (base : Nat) (A : Option Addr) (n c N : Nat) (xs : List UInt8) (p : Pk) (C : Option Addr) (nc kc : Nat) (S : Option Addr) (ns ks : Nat) (w : World) (hs : PkS p) (h : w.ownsRow base 5 1 (.slice A n c) n (bv xs)) (hb : base ≤ w.heap.size) (hn : n ≤ 1000000) (hq0 : 0 ≤ p.qos) (hq2 : p.qos ≤ 2) (h3 : 0 ≤ p.alive ∧ p.alive ≤ 65535)
    (hN : n + (conBody p).length = N) : Calls Try.prog 63 #[.slice A n c, pkA p C nc kc S ns ks] w (RetFin base N (xs ++ conBody p) w) := by
  have hAl := own_lt h
  have hAb := ownS_new h
  have hcb := conBody_texts p
  have PT := texts_any p C nc kc S ns ks
  have PM := fun W => marks_any p C nc kc S ns ks W hq0 (by omega)
  have hT5 := textsP_len p
  have HTs := hide (textsP_short p hs)
  have hfl := conFlags_lt p hq0 hq2
  generalize textsP p = T at *
  generalize conFlags p = F at *
  generalize conBody p = B at *
  have HCB := hide hcb
  clear hcb
  obtain ⟨q, hq⟩ : ∃ q, p = q := ⟨_, rfl⟩
  rw [hq] at PT PM
  have Hq := hide hq
  clear hs hq0 hq2
  obtain ⟨ty, dup, id, topic, payload, qos, retain, client, clean, alive, hasWill, hasUser, hasPass, user, pass, present, codes, subs⟩ := p
  clear hq
  simp only [pkA] at h3 hN ⊢
  obtain ⟨LT, hLT⟩ : ∃ LT, T.length = LT := ⟨_, rfl⟩
  rw [hLT] at hT5
  have HLT := hide hLT
  have HN := hide hN
  clear hN hLT
  go_enter Try.func63, Try.ntmps63
  go_upto_region 1 with fail
  generalize hW : w.alloc _ = W
  obtain ⟨g, hg, hB, bW, -⟩ := boxedP (p := ⟨ty, dup, id, topic, payload, qos, retain, client, clean, alive, hasWill, hasUser, hasPass, user, pass, present, codes, subs⟩) hW
  have hT := Trk.start (own_keep h (by rw [hg]; exact bW)) (Nat.le_trans hb bW.size)
  have hgA : ¬ SoA A g := fun ⟨o, e⟩ => by have := hAl _ _ e; omega
  have bw : Below w.heap.size w W := by rw [hg]; exact bW
  rw [hg]
  have HB := hide (show Blk W g 27 (pkVs q C nc kc S ns ks) from by rw [← Hq.out]; exact hB)
  have hqa : q.alive = alive := by rw [← Hq.out]
  have Hbw := hide bw
  clear hW bW hB h bw
  go_wp2_with fail
  refine (show Calls Try.prog 86 #[.slice A n c, .string ⟨#[77, 81, 84, 84]⟩] W (RetApp base A (n + 6) (xs ++ mqtt) W) from addText_any base A n c 4 (n + 6) xs [77, 81, 84, 84] W hT.own rfl rfl (by omega) hT.base (by omega)).mono ?_
  rintro e w1 ⟨A1, k1, rfl, o1, b1, q1⟩
  have hT := hT.step o1 b1 q1
  have HB1 := hide (HB.out.but hT.but hgA)
  clear o1 b1 q1
  have HT := hide hT
  clear hT
  go_upto_region 3 with (refine wpList_loadP rfl 27 (.tmp 3) rfl g 27 q C nc kc S ns ks rfl HB1.out Try.underlying27 rfl (by kernel_rfl) ?_)
  refine (PM w1).mono ?_
  rintro e w2 ⟨rfl, b2⟩
  have hT := HT.out.keep b2
  have HB2 := hide (HB.out.but hT.but hgA)
  have hTb := hT.base
  have HT := hide hT
  have wF : IntKind.u8.wrap (F : Int) = (F : Int) := by rw [IntKind.wrap_u8]; omega
  have hbz : bv [4, UInt8.ofNat F] = [.int .u8 4, .int .u8 (F : Int)] := by rw [bv_cons, bv_cons, u8cell hfl]; rfl
  have c9 := (Blk.p18 HB2.out).2.2.2.2.2.2.2.2.2.1
  rw [hqa] at c9
  clear hT b2 PM HB1
  clear c9
  go_upto_region 3 with (at_builtin; refine wpList_app2 rfl (.tmp 9) (.tmp 13) 31 rfl 5 _ _ Try.underlying31 u8_info rfl base A1 (n + 6) k1 _ rfl (own_keep HT.out.own ((Below.refl _ _).alloc (Nat.le_refl _) _)) (some ⟨w2.heap.size, 0, none⟩) 2 2 [.int .u8 4, .int .u8 (F : Int)] rfl (Blk.new w2 5 [.int .u8 4, .int .u8 (F : Int)]).rd (by intro u hu; simp at hu; rcases hu with rfl | rfl <;> rfl) (by unfold maxLen; omega) (by omega) (Nat.le_trans hTb (by simp)) ?_; intro A2 c2 w3 o3 b3 h3')
  have hT : Trk base W A A2 c2 (n + 6 + 2) (xs ++ mqtt ++ [4, UInt8.ofNat F]) w3 := by
    refine (HT.out.keep ((Below.refl _ _).alloc (Nat.le_refl _) _)).step ?_ b3 h3'
    rw [← hbz, ← bv_append] at o3
    exact o3
  have HB3 := HB.out.but hT.but hgA
  have c9 := (Blk.p18 HB3).2.2.2.2.2.2.2.2.2.1
  rw [hqa] at c9
  clear o3 b3 h3' HB2 HB3 HT
  go_wp2_with fail
  refine (addWord_any base A2 (n + 6 + 2) c2 (n + 6 + 2 + 2) (xs ++ mqtt ++ [4, UInt8.ofNat F]) w3 alive hT.own rfl (by omega) hT.base h3.1 h3.2).mono ?_
  rintro e w4 ⟨A3, c3, rfl, o4, b4, q4⟩
  have hT := hT.step o4 b4 q4
  have HB4 := hide (HB.out.but hT.but hgA)
  clear o4 b4 q4 c9
  have HT := hide hT
  clear hT
  have P := PT w4
  unfold RetTx at P
  rw [HLT.out] at P
  clear PT
  go_upto_region 5 with (refine wpList_loadP rfl 27 (.tmp 3) rfl g 27 q C nc kc S ns ks rfl HB4.out Try.underlying27 rfl (by kernel_rfl) ?_)
  refine P.mono ?_
  rintro e w5 ⟨R, kr, rfl, hRn, hR, b5⟩
  have hRA : Off (SoA A3) R := fun b o e ⟨o', e'⟩ => by have h1 := hRn b o e; have h2 := own_lt HT.out.own b o' e'; omega
  have hT := HT.out.keep b5
  have HR := hide hR
  have HT := hide hT
  have h5b := hT.base
  have hS5 := hide (Trk.start hT.own hT.base)
  clear P hR b5 hT hRn
  go_wp2_with fail
  go_loopw [0, 22] (fun v i wr => ∃ (k : Nat) (A4 : Option Addr) (c4 m : Nat), i = .int .i64 (k : Int) ∧ k ≤ LT ∧ m = n + 10 + ((T.take k).flatMap textL).length ∧ v = .slice A4 m c4 ∧ Trk base w5 A3 A4 c4 m (xs ++ mqtt ++ [4, UInt8.ofNat F] ++ wordI alive ++ (T.take k).flatMap textL) wr) (fun _ i _ => LT - (intOf i).toNat)
  case atStart => exact ⟨0, A3, c3, n + 10, rfl, by omega, by simp, rfl, by simpa using hS5.out⟩
  case round =>
    obtain ⟨k, A4, c4, m, rfl, hk, hm, rfl, hT⟩ := hrel
    by_cases hlt : k < LT
    · have q1 : (k : Int) < (LT : Int) := by omega
      have hlt' : k < T.length := by rw [HLT.out]; exact hlt
      obtain ⟨b, o, eR, hbl, hcell⟩ := (HR.out.but hT.but hRA).at_ (k := k) hlt
      subst eR
      have cA : wr.cell? ⟨b, o + k, none⟩ = some (.string (str T[k])) := hcell k _ (tv_get T k hlt')
      have htk : T.take (k + 1) = T.take k ++ [T[k]] := (List.take_append_getElem hlt').symm
      have hl := HTs.out T[k] (List.getElem_mem hlt')
      have hfl := texts_flen (T.take k) (fun s hs => HTs.out s (List.mem_of_mem_take hs))
      have hlk : (T.take k).length = k := by rw [List.length_take]; omega
      rw [hlk] at hfl
      generalize T[k] = f at *
      have Htk := hide htk
      generalize hFk : (T.take k).flatMap textL = Fk at *
      have HF2 := hide (show (T.take (k + 1)).flatMap textL = Fk ++ textL f by rw [Htk.out, List.flatMap_append, hFk]; simp)
      have HFl := hide (show m = n + 10 + Fk.length from hm)
      have hml : m ≤ 5000000 := by omega
      obtain ⟨lf, hlf⟩ : ∃ lf, f.length = lf := ⟨_, rfl⟩
      rw [hlf] at hl
      have Hlf := hide hlf
      have HT := hide hT
      clear hcell hlt' htk hbl hfl hlk hFk hm hlf hT
      go_wp2_with fail
      refine (addText_any base A4 m c4 lf (m + (2 + lf)) (xs ++ mqtt ++ [4, UInt8.ofNat F] ++ wordI alive ++ Fk) f wr HT.out.own Hlf.out rfl (by omega) HT.out.base hl).mono ?_
      rintro e w6 ⟨A6, c6, rfl, o6, b6, q6⟩
      have hT6 : Trk base w5 A3 A6 c6 (m + (2 + lf)) (xs ++ mqtt ++ [4, UInt8.ofNat F] ++ wordI alive ++ (T.take (k + 1)).flatMap textL) w6 := by
        have := HT.out.step o6 b6 q6
        rw [HF2.out]
        simp only [List.append_assoc] at this ⊢
        exact this
      have HT6 := hide hT6
      clear hT6 o6 b6 q6
      go_wp2_with fail
      exact ⟨⟨k + 1, A6, c6, m + (2 + lf), by go_num, by omega, by rw [HF2.out, HFl.out, List.length_append, textL_len, Hlf.out]; omega, rfl, HT6.out⟩, by simp [intOf]; omega⟩
    · obtain rfl : k = LT := by omega
      have q1 : ¬ (k : Int) < (k : Int) := by omega
      have hfull : T.take k = T := List.take_of_length_le (by rw [HLT.out]; exact Nat.le_refl _)
      rw [hfull] at hm hT
      have hF := (HT.out.step hT.own hT.but hT.wh).fin Hbw.out (fun i ⟨o, e⟩ => hAb i o e) hb
      have hmN : m = N := by rw [hm, ← HN.out, HCB.out]; simp [mqtt, wordI_length]; omega
      have hBB : xs ++ mqtt ++ [4, UInt8.ofNat F] ++ wordI alive ++ T.flatMap textL = xs ++ B := by rw [HCB.out]; simp
      rw [hmN, hBB] at hF
      have HF := hide hF
      subst hmN
      clear hT hF hm hfull hBB
      go_wp2_with fail
      go_ret
      exact HF.out

end Go.Proofs.Ytdlhcecmodefkaa

namespace Go.Proofs.Ytdlhcecmodefkaa
set_option linter.unusedVariables false
set_option linter.unusedSimpArgs false
open Go.RowKit

theorem fit_ok {p : Pk} (h : fitB p = true) : okP p = true := by
  simp only [fitB, Bool.and_eq_true] at h
  exact h.2
theorem fit_used {p : Pk} (h : fitB p = true) : p = usedP p := by
  simp only [fitB, Bool.and_eq_true, decide_eq_true_eq] at h
  exact h.1.2
theorem fit_q1 {p : Pk} (h : fitB p = true) (h1 : p.ty = 1) : (0 ≤ p.qos ∧ p.qos ≤ 2) ∧ 0 ≤ p.alive ∧ p.alive ≤ 65535 := by
  have ho := fit_ok h
  have hu := fit_used h
  unfold okP at ho
  rw [if_pos h1] at ho
  simp only [conB, Bool.and_eq_true, decide_eq_true_eq, Bool.not_eq_true'] at ho
  obtain ⟨⟨⟨⟨⟨k1, k2⟩, k3⟩, k4⟩, k5⟩, k6⟩ := ho
  refine ⟨?_, k2⟩
  cases hw : p.hasWill with
  | true =>
    rw [hw] at k6
    simp at k6
    exact ⟨k6.1.2, k6.2⟩
  | false =>
    have hq : p.qos = (usedP p).qos := by rw [← hu]
    unfold usedP at hq
    rw [if_pos h1] at hq
    simp only at hq
    rw [hw] at hq
    simp at hq
    omega
theorem fit_c2 {p : Pk} (h : fitB p = true) (h1 : p.ty = 2) : ∃ c, p.codes = [c] ∧ 0 ≤ c ∧ c ≤ 5 := by
  have ho := fit_ok h
  unfold okP at ho
  rw [if_neg (by omega), if_pos h1] at ho
  unfold ackB at ho
  split at ho
  · rename_i c hc
    simp only [Bool.and_eq_true, decide_eq_true_eq] at ho
    exact ⟨c, hc, ho.1.1, ho.1.2⟩
  · cases ho
theorem fit_i3 {p : Pk} (h : fitB p = true) (h1 : p.ty = 3) : (0 ≤ p.qos ∧ p.qos ≤ 2) ∧ (0 < p.qos → 0 ≤ p.id ∧ p.id ≤ 65535) := by
  have ho := fit_ok h
  unfold okP at ho
  rw [if_neg (by omega), if_neg (by omega), if_pos h1] at ho
  simp only [pubB, idB, Bool.and_eq_true, Bool.or_eq_true, decide_eq_true_eq] at ho
  obtain ⟨⟨⟨k1, k2⟩, k3⟩, k4⟩ := ho
  exact ⟨⟨k2, k3⟩, fun h0 => by rcases k4 with k4 | k4 <;> omega⟩
theorem fit_i4 {p : Pk} (h : fitB p = true) (h1 : p.ty = 4 ∨ p.ty = 5 ∨ p.ty = 6 ∨ p.ty = 7 ∨ p.ty = 11) : 0 ≤ p.id ∧ p.id ≤ 65535 := by
  have ho := fit_ok h
  unfold okP at ho
  rw [if_neg (by omega), if_neg (by omega), if_neg (by omega), if_pos h1] at ho
  simp only [idB, decide_eq_true_eq] at ho
  omega
theorem fit_s8 {p : Pk} (h : fitB p = true) (h1 : p.ty = 8 ∨ p.ty = 10) : (0 ≤ p.id ∧ p.id ≤ 65535) ∧ (∀ s ∈ p.subs, 0 ≤ s.2 ∧ s.2 ≤ 255) ∧ p.codes = [] := by
  have ho := fit_ok h
  have hu := fit_used h
  unfold okP at ho
  rw [if_neg (by omega), if_neg (by omega), if_neg (by omega), if_neg (by omega), if_pos h1] at ho
  simp only [idB, subsB, Bool.and_eq_true, decide_eq_true_eq] at ho
  refine ⟨by omega, fun s hs => ?_, ?_⟩
  · have := List.all_eq_true.1 ho.2.1 s hs
    simp only [subB, Bool.and_eq_true, decide_eq_true_eq] at this
    omega
  · have hq : p.codes = (usedP p).codes := by rw [← hu]
    unfold usedP at hq
    rw [if_neg (by omega), if_neg (by omega), if_neg (by omega), if_neg (by omega), if_pos h1] at hq
    exact hq
theorem fit_c9 {p : Pk} (h : fitB p = true) (h1 : p.ty = 9) : (0 ≤ p.id ∧ p.id ≤ 65535) ∧ (∀ z ∈ p.codes, 0 ≤ z ∧ z ≤ 255) ∧ p.subs = [] := by
  have ho := fit_ok h
  have hu := fit_used h
  unfold okP at ho
  rw [if_neg (by omega), if_neg (by omega), if_neg (by omega), if_neg (by omega), if_neg (by omega), if_pos h1] at ho
  simp only [idB, codesB, Bool.and_eq_true, decide_eq_true_eq] at ho
  refine ⟨by omega, fun s hs => ?_, ?_⟩
  · have := List.all_eq_true.1 ho.2.1 s hs
    simp only [codeB, Bool.and_eq_true, Bool.or_eq_true, decide_eq_true_eq] at this
    omega
  · have hq : p.subs = (usedP p).subs := by rw [← hu]
    unfold usedP at hq
    rw [if_neg (by omega), if_neg (by omega), if_neg (by omega), if_neg (by omega), if_neg (by omega), if_pos h1] at hq
    exact hq
theorem RetApp.fin {base : Nat} {A : Option Addr} {N : Nat} {ys : List UInt8} {w0 w : World} {e : Ending} {w' : World} (h : RetApp base A N ys w e w') (b : Below w0.heap.size w0 w) (hA : ∀ i, SoA A i → base ≤ i) (hb : base ≤ w0.heap.size) : RetFin base N ys w0 e w' := by
  obtain ⟨A', c', rfl, o, k, -⟩ := h
  exact ⟨A', c', rfl, o, But.below (b.mono hb) k hA (Nat.le_trans hb b.size)⟩
theorem RetFin.on {base : Nat} {N : Nat} {ys : List UInt8} {w0 w : World} {e : Ending} {w' : World} (h : RetFin base N ys w e w') (b : Below w0.heap.size w0 w) (hb : base ≤ w0.heap.size) : RetFin base N ys w0 e w' := by
  obtain ⟨A', c', rfl, o, k⟩ := h
  exact ⟨A', c', rfl, o, (b.mono hb).trans k⟩

set_option maxRecDepth 100000 in
set_option maxHeartbeats 4000000 in
theorem behind_any (base : Nat) (A : Option Addr) (n c N : Nat) (xs : List UInt8) (p : Pk) (C : Option Addr) (nc kc : Nat) (S : Option Addr) (ns ks : Nat) (w : World) (hf : fitB p = true) (hM : PkM w p C nc kc S ns ks) (hs : PkS p) (h : w.ownsRow base 5 1 (.slice A n c) n (bv xs)) (hb : base ≤ w.heap.size) (hn : n ≤ 1000000) (hCb : 0 < nc → ∀ i, SoA C i → i < base) (hSb : 0 < ns → ∀ i, SoA S i → i < base)
    (hN : n + (bodyP p).length = N) : Calls Try.prog 30 #[.slice A n c, pkA p C nc kc S ns ks] w (RetFin base N (xs ++ bodyP p) w) := by
  have hAl := own_lt h
  have hAb := ownS_new h
  obtain ⟨q, hq⟩ : ∃ q, p = q := ⟨_, rfl⟩
  have HBq : bodyP p = bodyP q := by rw [hq]
  rw [HBq] at hN ⊢
  clear HBq
  have HM := hide (show ∀ W, Below w.heap.size w W → PkM W q C nc kc S ns ks from fun W b => by rw [← hq]; exact hM.keep b)
  have HO := hide (show ∀ W, Below w.heap.size w W → W.ownsRow base 5 1 (.slice A n c) n (bv xs) from fun W b => own_keep h b)
  rw [hq] at hf hs
  have Hf := hide hf
  have Hs := hide hs
  have hnc : nc ≤ 65535 := by rw [← hM.1, hq]; exact hs.2.2.2.2.2.1
  have hns : ns ≤ 65535 := by rw [← hM.2.2.2.1, hq]; exact hs.2.2.2.2.2.2.1
  clear hM h hf hs
  obtain ⟨ty, dup, id, topic, payload, qos, retain, client, clean, alive, hasWill, hasUser, hasPass, user, pass, present, codes, subs⟩ := p
  have hty : q.ty = ty := by rw [← hq]
  have Hq := hide hq
  have HN := hide hN
  clear hq hN
  by_cases c1 : ty = 1
  · subst c1
    have hq1 := fit_q1 Hf.out hty
    have e : bodyP q = conBody q := by unfold bodyP; rw [if_pos hty]
    have hN := HN.out
    rw [e] at hN
    simp only [pkA]
    go_enter Try.func30, Try.ntmps30
    go_upto_region 3 with fail
    generalize hW : w.alloc _ = W
    obtain ⟨g, hg, hB, bW, -⟩ := boxedP (p := ⟨1, dup, id, topic, payload, qos, retain, client, clean, alive, hasWill, hasUser, hasPass, user, pass, present, codes, subs⟩) hW
    have bw : Below w.heap.size w W := by rw [hg]; exact bW
    rw [hg]
    have HB := hide (show Blk W g 27 (pkVs q C nc kc S ns ks) from by rw [← Hq.out]; exact hB)
    have hM := HM.out W bw
    have hO := HO.out W bw
    have hbW := Nat.le_trans hb bw.size
    have HgW := hide (show w.heap.size ≤ g by omega)
    have Hbw := hide bw
    clear hW hg hB bW bw
    refine wp_region_lit ?_
    refine wpList_mv rfl (.tmp 0) rfl ?_
    refine wpList_loadP rfl 27 (.tmp 3) rfl g 27 q C nc kc S ns ks rfl HB.out Try.underlying27 rfl (by kernel_rfl) ?_
    have P : Calls Try.prog 63 #[.slice A n c, pkA q C nc kc S ns ks] W (RetFin base N (xs ++ bodyP q) W) := by
      have h1 := behindConnect_any base A n c N xs q C nc kc S ns ks W Hs.out hO hbW hn hq1.1.1 hq1.1.2 hq1.2 hN
      rw [e]
      exact h1
    clear hM hO e hN
    go_wp2_with fail
    refine P.mono ?_
    rintro e w1 hF
    have hF := hF.on Hbw.out hb
    obtain ⟨A2, c2, rfl, o2, b2⟩ := hF
    have HF := hide (show RetFin base N (xs ++ bodyP q) w (.returned (.slice A2 N c2)) w1 from ⟨A2, c2, rfl, o2, b2⟩)
    clear o2 b2 P
    go_wp2_with fail
    go_ret
    exact HF.out
  by_cases c3 : ty = 3
  · subst c3
    have hq3 := fit_i3 Hf.out hty
    have e : bodyP q = textL q.topic ++ (if 0 < q.qos then wordI q.id else []) ++ q.payload := by unfold bodyP; rw [if_neg (by omega), if_neg (by omega), if_pos hty]
    have hN := HN.out
    rw [e] at hN
    simp only [pkA]
    go_enter Try.func30, Try.ntmps30
    go_upto_region 7 with fail
    generalize hW : w.alloc _ = W
    obtain ⟨g, hg, hB, bW, -⟩ := boxedP (p := ⟨3, dup, id, topic, payload, qos, retain, client, clean, alive, hasWill, hasUser, hasPass, user, pass, present, codes, subs⟩) hW
    have bw : Below w.heap.size w W := by rw [hg]; exact bW
    rw [hg]
    have HB := hide (show Blk W g 27 (pkVs q C nc kc S ns ks) from by rw [← Hq.out]; exact hB)
    have hM := HM.out W bw
    have hO := HO.out W bw
    have hbW := Nat.le_trans hb bw.size
    have HgW := hide (show w.heap.size ≤ g by omega)
    have Hbw := hide bw
    clear hW hg hB bW bw
    refine wp_region_lit ?_
    refine wpList_mv rfl (.tmp 0) rfl ?_
    refine wpList_loadP rfl 27 (.tmp 3) rfl g 27 q C nc kc S ns ks rfl HB.out Try.underlying27 rfl (by kernel_rfl) ?_
    have P : Calls Try.prog 64 #[.slice A n c, pkA q C nc kc S ns ks] W (RetFin base N (xs ++ bodyP q) W) := by
      have h1 := behindPublish_any base A n c N xs q C nc kc S ns ks W hO hbW hn Hs.out.1 Hs.out.2.1 hq3.2 hN
      rw [e]
      exact h1
    clear hM hO e hN
    go_wp2_with fail
    refine P.mono ?_
    rintro e w1 hF
    have hF := hF.on Hbw.out hb
    obtain ⟨A2, c2, rfl, o2, b2⟩ := hF
    have HF := hide (show RetFin base N (xs ++ bodyP q) w (.returned (.slice A2 N c2)) w1 from ⟨A2, c2, rfl, o2, b2⟩)
    clear o2 b2 P
    go_wp2_with fail
    go_ret
    exact HF.out
  by_cases c8 : ty = 8
  · subst c8
    have h8 := fit_s8 Hf.out (.inl hty)
    have e : bodyP q = wordI q.id ++ q.subs.flatMap (subL q.ty) := by unfold bodyP; rw [if_neg (by omega), if_neg (by omega), if_neg (by omega), if_neg (by omega), if_pos (.inl hty), h8.2.2]; simp
    have hN := HN.out
    rw [e, List.length_append, wordI_length, ← Nat.add_assoc] at hN
    simp only [pkA]
    go_enter Try.func30, Try.ntmps30
    go_upto_region 10 with fail
    generalize hW : w.alloc _ = W
    obtain ⟨g, hg, hB, bW, -⟩ := boxedP (p := ⟨8, dup, id, topic, payload, qos, retain, client, clean, alive, hasWill, hasUser, hasPass, user, pass, present, codes, subs⟩) hW
    have bw : Below w.heap.size w W := by rw [hg]; exact bW
    rw [hg]
    have HB := hide (show Blk W g 27 (pkVs q C nc kc S ns ks) from by rw [← Hq.out]; exact hB)
    have hM := HM.out W bw
    have hO := HO.out W bw
    have hbW := Nat.le_trans hb bw.size
    have HgW := hide (show w.heap.size ≤ g by omega)
    have Hbw := hide bw
    clear hW hg hB bW bw
    refine wp_region_lit ?_
    refine wpList_mv rfl (.tmp 0) rfl ?_
    refine wpList_loadP rfl 27 (.tmp 3) rfl g 27 q C nc kc S ns ks rfl HB.out Try.underlying27 rfl (by kernel_rfl) ?_
    have P : Calls Try.prog 65 #[.slice A n c, pkA q C nc kc S ns ks] W (RetFin base N (xs ++ bodyP q) W) := by
      have h1 := behindNames_any base A n c N xs q C nc kc S ns ks W hM hO hbW hn hSb hns Hs.out.2.2.2.2.2.2.2 h8.2.1 h8.1 hN
      rw [e, ← List.append_assoc]
      exact h1
    clear hM hO e hN
    go_wp2_with fail
    refine P.mono ?_
    rintro e w1 hF
    have hF := hF.on Hbw.out hb
    obtain ⟨A2, c2, rfl, o2, b2⟩ := hF
    have HF := hide (show RetFin base N (xs ++ bodyP q) w (.returned (.slice A2 N c2)) w1 from ⟨A2, c2, rfl, o2, b2⟩)
    clear o2 b2 P
    go_wp2_with fail
    go_ret
    exact HF.out
  by_cases c10 : ty = 10
  · subst c10
    have h8 := fit_s8 Hf.out (.inr hty)
    have e : bodyP q = wordI q.id ++ q.subs.flatMap (subL q.ty) := by unfold bodyP; rw [if_neg (by omega), if_neg (by omega), if_neg (by omega), if_neg (by omega), if_pos (.inr (.inr hty)), h8.2.2]; simp
    have hN := HN.out
    rw [e, List.length_append, wordI_length, ← Nat.add_assoc] at hN
    simp only [pkA]
    go_enter Try.func30, Try.ntmps30
    go_upto_region 10 with fail
    generalize hW : w.alloc _ = W
    obtain ⟨g, hg, hB, bW, -⟩ := boxedP (p := ⟨10, dup, id, topic, payload, qos, retain, client, clean, alive, hasWill, hasUser, hasPass, user, pass, present, codes, subs⟩) hW
    have bw : Below w.heap.size w W := by rw [hg]; exact bW
    rw [hg]
    have HB := hide (show Blk W g 27 (pkVs q C nc kc S ns ks) from by rw [← Hq.out]; exact hB)
    have hM := HM.out W bw
    have hO := HO.out W bw
    have hbW := Nat.le_trans hb bw.size
    have HgW := hide (show w.heap.size ≤ g by omega)
    have Hbw := hide bw
    clear hW hg hB bW bw
    refine wp_region_lit ?_
    refine wpList_mv rfl (.tmp 0) rfl ?_
    refine wpList_loadP rfl 27 (.tmp 3) rfl g 27 q C nc kc S ns ks rfl HB.out Try.underlying27 rfl (by kernel_rfl) ?_
    have P : Calls Try.prog 65 #[.slice A n c, pkA q C nc kc S ns ks] W (RetFin base N (xs ++ bodyP q) W) := by
      have h1 := behindNames_any base A n c N xs q C nc kc S ns ks W hM hO hbW hn hSb hns Hs.out.2.2.2.2.2.2.2 h8.2.1 h8.1 hN
      rw [e, ← List.append_assoc]
      exact h1
    clear hM hO e hN
    go_wp2_with fail
    refine P.mono ?_
    rintro e w1 hF
    have hF := hF.on Hbw.out hb
    obtain ⟨A2, c2, rfl, o2, b2⟩ := hF
    have HF := hide (show RetFin base N (xs ++ bodyP q) w (.returned (.slice A2 N c2)) w1 from ⟨A2, c2, rfl, o2, b2⟩)
    clear o2 b2 P
    go_wp2_with fail
    go_ret
    exact HF.out
  by_cases c9 : ty = 9
  · subst c9
    have h9 := fit_c9 Hf.out hty
    have e : bodyP q = wordI q.id ++ q.codes.map byteI := by unfold bodyP; rw [if_neg (by omega), if_neg (by omega), if_neg (by omega), if_neg (by omega), if_pos (.inr (.inl hty)), h9.2.2]; simp
    have hN := HN.out
    rw [e, List.length_append, wordI_length, ← Nat.add_assoc, List.length_map] at hN
    simp only [pkA]
    go_enter Try.func30, Try.ntmps30
    go_upto_region 12 with fail
    generalize hW : w.alloc _ = W
    obtain ⟨g, hg, hB, bW, -⟩ := boxedP (p := ⟨9, dup, id, topic, payload, qos, retain, client, clean, alive, hasWill, hasUser, hasPass, user, pass, present, codes, subs⟩) hW
    have bw : Below w.heap.size w W := by rw [hg]; exact bW
    rw [hg]
    have HB := hide (show Blk W g 27 (pkVs q C nc kc S ns ks) from by rw [← Hq.out]; exact hB)
    have hM := HM.out W bw
    have hO := HO.out W bw
    have hbW := Nat.le_trans hb bw.size
    have HgW := hide (show w.heap.size ≤ g by omega)
    have Hbw := hide bw
    clear hW hg hB bW bw
    rw [hM.1] at hN
    refine wp_region_lit ?_
    refine wpList_mv rfl (.tmp 0) rfl ?_
    refine wpList_loadP rfl 27 (.tmp 3) rfl g 27 q C nc kc S ns ks rfl HB.out Try.underlying27 rfl (by kernel_rfl) ?_
    have P : Calls Try.prog 66 #[.slice A n c, pkA q C nc kc S ns ks] W (RetFin base N (xs ++ bodyP q) W) := by
      have h1 := behindCodes_any base A n c N xs q C nc kc S ns ks W hM hO hbW hn hCb hnc h9.2.1 h9.1 hN
      rw [e, ← List.append_assoc]
      exact h1
    clear hM hO e hN
    go_wp2_with fail
    refine P.mono ?_
    rintro e w1 hF
    have hF := hF.on Hbw.out hb
    obtain ⟨A2, c2, rfl, o2, b2⟩ := hF
    have HF := hide (show RetFin base N (xs ++ bodyP q) w (.returned (.slice A2 N c2)) w1 from ⟨A2, c2, rfl, o2, b2⟩)
    clear o2 b2 P
    go_wp2_with fail
    go_ret
    exact HF.out
  by_cases c2 : ty = 2
  · subst c2
    obtain ⟨z, hz, hz0, hz5⟩ := fit_c2 Hf.out hty
    have hcod : codes = [z] := by rw [← hz, ← Hq.out]
    have hpre : q.present = present := by rw [← Hq.out]
    have e : bodyP q = [if present then 1 else 0, byteI z] := by unfold bodyP; rw [if_neg (by omega), if_pos hty, hz, hpre]; rfl
    have hN := HN.out
    rw [e] at hN
    simp only [pkA]
    go_enter Try.func30, Try.ntmps30
    go_upto_region 5 with fail
    generalize hW : w.alloc _ = W
    obtain ⟨g, hg, hB, bW, -⟩ := boxedP (p := ⟨2, dup, id, topic, payload, qos, retain, client, clean, alive, hasWill, hasUser, hasPass, user, pass, present, codes, subs⟩) hW
    have bw : Below w.heap.size w W := by rw [hg]; exact bW
    rw [hg]
    have HB := hide (show Blk W g 27 (pkVs q C nc kc S ns ks) from by rw [← Hq.out]; exact hB)
    have hM := HM.out W bw
    have hO := HO.out W bw
    have hbW := Nat.le_trans hb bw.size
    have HgW := hide (show w.heap.size ≤ g by omega)
    have Hbw := hide bw
    clear hW hg hB bW bw
    obtain ⟨m1, -, mR, -, -, -⟩ := hM
    rw [hz] at m1 mR
    have hn1 : nc = 1 := m1.symm
    subst hn1
    obtain ⟨b, o, rfl, hbl, hcell⟩ := mR.at_ (k := 0) (by omega)
    have cA : W.cell? ⟨b, o, none⟩ = some (.int .i64 z) := by have := hcell 0 (.int .i64 z) rfl; simpa using this
    have c15 := (Blk.p18 HB.out).2.2.2.2.2.2.2.2.2.2.2.2.2.2.2.1
    have c16 := (Blk.p18 HB.out).2.2.2.2.2.2.2.2.2.2.2.2.2.2.2.2.1
    rw [hpre] at c15
    obtain ⟨z, rfl⟩ : ∃ y : Nat, z = (y : Int) := ⟨z.toNat, by omega⟩
    have hfb : flagB present 1 ≤ 1 := by unfold flagB; split <;> omega
    have hbz : bv [if present then 1 else 0, byteI (z : Int)] = [.int .u8 (flagB present 1 : Int), .int .u8 (z : Int)] := by
      rw [bv_cons, bv_cons]
      unfold byteI
      rw [Int.toNat_natCast, u8cell (by omega)]
      cases present <;> rfl
    have PM := mark_any present 1
    have HE := hide e
    have Hpre := hide hpre
    have Hbz := hide hbz
    have hN2 : n + 2 = N := hN
    have hblW := hbl
    clear mR hcell m1 hbl hN e hbz hz hcod hpre
    generalize flagB present 1 = fb at *
    have w1 : IntKind.u8.wrap (fb : Int) = (fb : Int) := by rw [IntKind.wrap_u8]; omega
    have w2 : IntKind.u8.wrap (z : Int) = (z : Int) := by rw [IntKind.wrap_u8]; omega
    have hal := fun ob => (((Below.refl W.heap.size W).drew).alloc (Nat.le_refl _) ob)
    have hgA : ¬ SoA A g := fun ⟨o', e'⟩ => by have h1 := hAl _ _ e'; have h2 := HgW.out; omega
    have hbA : ¬ SoA A b := fun ⟨o', e'⟩ => by have h1 := hCb (by omega) b ⟨o, rfl⟩; have h2 := hAb _ _ e'; omega
    refine wp_region_held_drew (S := fun V => V.cell? ⟨g, 15, none⟩ = some (.bool present) ∧ V.cell? ⟨g, 16, none⟩ = some (.slice (some ⟨b, o, none⟩) 1 kc) ∧ V.cell? ⟨b, o, none⟩ = some (.int .i64 (z : Int))) (by kernel_rfl) ?_ (fun hHeld => ?_)
    · exact ⟨c15, c16, cA⟩
    refine wpAnyH_take (i := 0) (oi := { dst := some 14, op := _, type := _, pos := _, after := _, guard := _ }) (v := ?v1x1) rfl (by kernel_rfl) (by kernel_rfl) (by kernel_rfl) (fun _ _ _ h => h) (Or.inl ⟨by rfl, ?hy1x1⟩) hHeld ?rest1x1
    case hy1x1 => (intro w hSw; go_simp <;> with_reducible rfl)
    try simp only [Act.put, List.setIfInBounds_toArray, List.set_cons_zero, List.set_cons_succ]
    refine wpAnyH_take (i := 1) (oi := { dst := some 15, op := _, type := _, pos := _, after := _, guard := _ }) (v := ?v1x2) rfl (by kernel_rfl) (by kernel_rfl) (by kernel_rfl) (fun _ _ _ h => h) (Or.inl ⟨by rfl, ?hy1x2⟩) hHeld ?rest1x2
    case hy1x2 => (intro w hSw; go_simp <;> with_reducible rfl)
    try simp only [Act.put, List.setIfInBounds_toArray, List.set_cons_zero, List.set_cons_succ]
    refine wpAnyH_take (i := 2) (oi := { dst := some 16, op := _, type := _, pos := _, after := _, guard := _ }) (v := ?v1x3) rfl (by kernel_rfl) (by kernel_rfl) (by kernel_rfl) (fun _ _ _ h => h) (Or.inl ⟨by rfl, ?hy1x3⟩) hHeld ?rest1x3
    case hy1x3 => (intro w hSw; go_simp <;> with_reducible rfl)
    try simp only [Act.put, List.setIfInBounds_toArray, List.set_cons_zero, List.set_cons_succ]
    refine wpAnyH_take (i := 5) (oi := { dst := some 19, op := _, type := _, pos := _, after := _, guard := _ }) (v := ?v1x4) rfl (by kernel_rfl) (by kernel_rfl) (by kernel_rfl) (fun _ _ _ h => h) (Or.inl ⟨by rfl, ?hy1x4⟩) hHeld ?rest1x4
    case hy1x4 => (intro w hSw; go_simp <;> with_reducible rfl)
    try simp only [Act.put, List.setIfInBounds_toArray, List.set_cons_zero, List.set_cons_succ]
    refine wpAnyH_take (i := 6) (oi := { dst := some 20, op := _, type := _, pos := _, after := _, guard := _ }) (v := ?v1x5) rfl (by kernel_rfl) (by kernel_rfl) (by kernel_rfl) (fun _ _ _ h => h) (Or.inl ⟨by rfl, ?hy1x5⟩) hHeld ?rest1x5
    case hy1x5 => (intro w hSw; go_simp <;> with_reducible rfl)
    try simp only [Act.put, List.setIfInBounds_toArray, List.set_cons_zero, List.set_cons_succ]
    refine wpAnyH_take (i := 7) (oi := { dst := some 21, op := _, type := _, pos := _, after := _, guard := _ }) (v := ?v1x6) rfl (by kernel_rfl) (by kernel_rfl) (by kernel_rfl) (fun _ _ _ h => h) (Or.inl ⟨by rfl, ?hy1x6⟩) hHeld ?rest1x6
    case hy1x6 => (intro w hSw; go_simp <;> with_reducible rfl)
    try simp only [Act.put, List.setIfInBounds_toArray, List.set_cons_zero, List.set_cons_succ]
    refine wpAnyH_take (i := 8) (oi := { dst := some 22, op := _, type := _, pos := _, after := _, guard := _ }) (v := ?v1x7) rfl (by kernel_rfl) (by kernel_rfl) (by kernel_rfl) (fun _ _ _ h => h) (Or.inl ⟨by rfl, ?hy1x7⟩) hHeld ?rest1x7
    case hy1x7 => (intro w hSw; go_simp <;> with_reducible rfl)
    try simp only [Act.put, List.setIfInBounds_toArray, List.set_cons_zero, List.set_cons_succ]
    refine wpAnyH_take (i := 9) (oi := { dst := some 23, op := _, type := _, pos := _, after := _, guard := _ }) (v := ?v1x8) rfl (by kernel_rfl) (by kernel_rfl) (by kernel_rfl) (fun _ _ _ h => h) (Or.inl ⟨by rfl, ?hy1x8⟩) hHeld ?rest1x8
    case hy1x8 => (intro w hSw; go_simp <;> with_reducible rfl)
    try simp only [Act.put, List.setIfInBounds_toArray, List.set_cons_zero, List.set_cons_succ]
    refine wpAnyH_ready (rs := [3]) (by kernel_rfl) (by simp) (AllReadyH.cons (o := { dst := some 17, op := _, type := _, pos := _, after := _, guard := _ }) rfl (fun K hK => ?_) AllReadyH.nil)
    go_simp
    refine (PM _).mono ?_
    rintro e w4 ⟨rfl, rfl⟩
    go_wp2_with fail
    refine hK.out _ _ ?_ (fun hHeld => ?_)
    · exact hHeld
    clear hK K
    try simp only [Act.put, List.setIfInBounds_toArray, List.set_cons_zero, List.set_cons_succ]
    refine wpAnyH_take (i := 4) (oi := { dst := some 18, op := _, type := _, pos := _, after := _, guard := _ }) (v := ?v1x10) rfl (by kernel_rfl) (by kernel_rfl) (by kernel_rfl) (fun _ _ _ h => h) (Or.inl ⟨by rfl, ?hy1x10⟩) hHeld ?rest1x10
    case hy1x10 => (intro w hSw; go_simp <;> with_reducible rfl)
    try simp only [Act.put, List.setIfInBounds_toArray, List.set_cons_zero, List.set_cons_succ]
    refine wpAnyH_ready (rs := [10]) (by kernel_rfl) (by simp) (AllReadyH.cons (o := { dst := some 24, op := _, type := _, pos := _, after := _, guard := _ }) rfl (fun K hK => ?_) AllReadyH.nil)
    go_simp
    go_wp2_with fail
    refine hK.out _ _ ?_ (fun hHeld => ?_)
    · exact ⟨by have h1 := (Blk.p18 (HB.out.keep (hal (.cells #[.int .u8 (fb : Int), .int .u8 (z : Int)] 5)))).2.2.2.2.2.2.2.2.2.2.2.2.2.2.2.1; rw [Hpre.out] at h1; exact h1, (Blk.p18 (HB.out.keep (hal _))).2.2.2.2.2.2.2.2.2.2.2.2.2.2.2.2.1, ((hal _).cell (p := ⟨b, o, none⟩) hblW).trans cA⟩
    clear hK K
    try simp only [Act.put, List.setIfInBounds_toArray, List.set_cons_zero, List.set_cons_succ]
    refine wpAnyH_ready (rs := [11]) (by kernel_rfl) (by simp) (AllReadyH.cons (o := { dst := some 25, op := _, type := _, pos := _, after := _, guard := _ }) rfl (fun K hK => ?_) AllReadyH.nil)
    rw [if_pos (by rfl)]
    refine op_app2 (.tmp 14) (.tmp 24) 31 rfl 5 _ _ Try.underlying31 u8_info rfl base A n c (bv xs) rfl (own_keep hO (((Below.refl _ _).alloc (Nat.le_refl _) _).drew)) (some ⟨W.heap.size, 0, none⟩) 2 2 [.int .u8 (fb : Int), .int .u8 (z : Int)] rfl (Blk.new W 5 [.int .u8 (fb : Int), .int .u8 (z : Int)]).rd (by intro u hu; simp at hu; rcases hu with rfl | rfl <;> rfl) (by unfold maxLen; omega) (by omega) (Nat.le_trans hbW (by simp)) ?_
    intro A3 k3 w3 o3 b3 h3
    have hbt : But (SoA A) W w3 := But.after (hal _) b3
    have HB3 := HB.out.but hbt hgA
    have cA3 : w3.cell? ⟨b, o, none⟩ = some (.int .i64 (z : Int)) := (World.cell?_of_block (w := W) (hbt.block b hblW hbA)).trans cA
    have o4 : w3.ownsRow base 5 1 (.slice A3 N k3) N (bv (xs ++ bodyP q)) := by rw [HE.out, bv_append, Hbz.out, ← hN2]; exact o3
    have HF := hide (show RetFin base N (xs ++ bodyP q) w (.returned (.slice A3 N k3)) w3 from ⟨A3, k3, rfl, o4, But.below (Hbw.out.mono hb) hbt (fun i ⟨o, e⟩ => hAb i o e) hbW⟩)
    clear o3 b3 h3 o4
    refine hK.out _ _ ?_ (fun hHeld => ?_)
    · exact ⟨by have h1 := (Blk.p18 HB3).2.2.2.2.2.2.2.2.2.2.2.2.2.2.2.1; rw [Hpre.out] at h1; exact h1, (Blk.p18 HB3).2.2.2.2.2.2.2.2.2.2.2.2.2.2.2.2.1, cA3⟩
    clear hK K
    try simp only [Act.put, List.setIfInBounds_toArray, List.set_cons_zero, List.set_cons_succ]
    refine wpAnyH_take (i := 12) (oi := { dst := some 4, op := _, type := _, pos := _, after := _, guard := _ }) (v := ?v1x13) rfl (by kernel_rfl) (by kernel_rfl) (by kernel_rfl) (fun _ _ _ h => h) (Or.inl ⟨by rfl, ?hy1x13⟩) hHeld ?rest1x13
    case hy1x13 => (intro w hSw; go_simp <;> with_reducible rfl)
    try simp only [Act.put, List.setIfInBounds_toArray, List.set_cons_zero, List.set_cons_succ]
    refine wpAnyH_done (by kernel_rfl) ?_ _
    go_wp2_with fail
    go_ret
    exact HF.out
  have hty2 := Hf.out
  simp only [fitB, Bool.and_eq_true, decide_eq_true_eq] at hty2
  have hrange := hty2.1.1
  rw [hty] at hrange
  clear hty2
  have q1 : (ty == 1) = false := by simpa using c1
  have q2 : (ty == 2) = false := by simpa using c2
  have q3 : (ty == 3) = false := by simpa using c3
  have q8 : (ty == 8) = false := by simpa using c8
  have q9 : (ty == 9) = false := by simpa using c9
  have q10 : (ty == 10) = false := by simpa using c10
  by_cases c12 : ty = 12 ∨ ty = 13 ∨ ty = 14
  · have e : bodyP q = [] := by unfold bodyP; rw [if_neg (by omega), if_neg (by omega), if_neg (by omega), if_neg (by omega), if_neg (by omega)]
    have hN := HN.out
    rw [e] at hN
    have hNn : n = N := hN
    have HE := hide e
    clear c1 c2 c3 c8 c9 c10 q1 q2 q3 q8 q9 q10 hrange hty hN e
    subst hNn
    rw [HE.out, List.append_nil]
    rcases c12 with c4 | c4 | c4
    all_goals
      subst c4
      simp only [pkA]
      go_enter Try.func30, Try.ntmps30
      go_wp2_with fail
      go_ret
      have bw := (Below.refl w.heap.size w).alloc (Nat.le_refl _) (.cells (arr (pkVs q C nc kc S ns ks)) 27)
      rw [← Hq.out] at bw
      exact ⟨A, c, rfl, HO.out _ bw, bw.mono hb⟩
  have c4 : ty = 4 ∨ ty = 5 ∨ ty = 6 ∨ ty = 7 ∨ ty = 11 := by omega
  have h4 := fit_i4 Hf.out (by rw [hty]; exact c4)
  have e : bodyP q = wordI q.id := by unfold bodyP; rw [if_neg (by omega), if_neg (by omega), if_neg (by omega), if_pos (by omega)]
  have hqi : q.id = id := by rw [← Hq.out]
  have hN := HN.out
  rw [e] at hN
  have hN2 : n + 2 = N := hN
  rw [e, hqi]
  rw [hqi] at h4
  have q12 : (ty == 12) = false := by simp; omega
  have q13 : (ty == 13) = false := by simp; omega
  have q14 : (ty == 14) = false := by simp; omega
  clear c1 c2 c3 c8 c9 c10 c12 hrange hN e c4
  simp only [pkA]
  go_enter Try.func30, Try.ntmps30
  go_upto_region 17 with fail
  generalize hW : w.alloc _ = W
  obtain ⟨g, hg, hB, bW, -⟩ := boxedP (p := ⟨ty, dup, id, topic, payload, qos, retain, client, clean, alive, hasWill, hasUser, hasPass, user, pass, present, codes, subs⟩) hW
  have bw : Below w.heap.size w W := by rw [hg]; exact bW
  rw [hg]
  have c2' := (Blk.p18 hB).2.2.1
  have P := (addWord_any base A n c N xs W id (HO.out W bw) hN2 (by omega) (Nat.le_trans hb bw.size) h4.1 h4.2)
  have Hbw := hide bw
  clear hW hg hB bW bw q1 q2 q3 q8 q9 q10 q12 q13 q14 hty
  go_wp2_with fail
  refine P.mono ?_
  rintro e w1 hF
  have hF := hF.fin Hbw.out (fun i ⟨o, e⟩ => hAb i o e) hb
  obtain ⟨A2, c2, rfl, o2, b2⟩ := hF
  have HF := hide (show RetFin base N (xs ++ wordI id) w (.returned (.slice A2 N c2)) w1 from ⟨A2, c2, rfl, o2, b2⟩)
  clear o2 b2 P
  go_wp2_with fail
  go_ret
  exact HF.out

end Go.Proofs.Ytdlhcecmodefkaa

namespace Go.Proofs.Ytdlhcecmodefkaa
set_option linter.unusedVariables false
set_option linter.unusedSimpArgs false
open Go.RowKit

/-- make([]T, 0, n), T of one cell. -/
theorem run_mkZ {P : Program} (t e : TypeId) (z : Value) (bytes : Nat) (ht : P.underlying t = some (.slice e)) (hinfo : (P.info? e).map (fun i => (i.zero, i.size, i.bytes)) = some (some z, 1, bytes)) (hz1 : z.cells = #[z])
    (n : Nat) (hbytes : bytes * n ≤ 281474976710656) (h63 : n ≤ 9223372036854775807) (ni : Int) (hni : ni = (n : Int)) (w : World) :
    (Instr.makeSlice t (.int .i64 0) (.int .i64 ni)).run P w = .ok (.slice (some ⟨w.heap.size, 0, none⟩) 0 n) (w.alloc (.cells (arr (List.replicate n z)) e)) := by
  subst hni
  obtain ⟨i, hi, hzz⟩ := Option.map_eq_some_iff.1 hinfo
  simp only [Prod.mk.injEq] at hzz
  obtain ⟨hz, hs, hb⟩ := hzz
  have hb' : ((bytes * n : Nat) : Int) ≤ 281474976710656 := by omega
  rw [Int.natCast_mul] at hb'
  have hr := run_make (P := P) w t e i z ht hi hz .i64 .i64 0 n (by omega) (by omega) (by rw [hb]; exact hb') (by omega)
  rw [hs, hz1, Nat.mul_one, madeCells_one, Int.toNat_natCast] at hr
  exact hr
theorem own_madeZ (w : World) (base : Nat) (hb : base ≤ w.heap.size) (e : TypeId) (z : Value) (n : Nat) (hn : n ≤ maxLen) : (w.alloc (.cells (arr (List.replicate n z)) e)).ownsRow base e 1 (.slice (some ⟨w.heap.size, 0, none⟩) 0 n) 0 [] :=
  ⟨rfl, .inr ⟨w.heap.size, n, arr (List.replicate n z), rfl, hb, Blk.new w e _, Nat.zero_le _, hn, by rw [arr_size]; simp, by simp⟩⟩
theorem op_loadP {P : Program} {w : World} {o : Oper} {a : Act} {K : Act → World → Prop} {Q : Exit → Act → World → Prop} (ty : TypeId) (x : Operand) (ho : o.op = .load ty x) (g : Nat) (t : TypeId) (p : Pk) (C : Option Addr) (nc kc : Nat) (S : Option Addr) (ns ks : Nat)
    (hx : a.eval x = .pointer (some ⟨g, 0, none⟩)) (hB : Blk w g t (pkVs p C nc kc S ns ks)) {d : TypeDesc} (hu : P.underlying ty = some d) (hd : d.isRow = true) (hi : (P.info? ty).map (·.size) = some 18)
    (h : K (a.put o.dst (pkA p C nc kc S ns ks)) w) : Oper.wp P o a w K Q := by
  have hr := run_loadAt_mid (P := P) w g 0 ty (pkVs p C nc kc S ns ks) d hB.range hu hd hi
  unfold Oper.wp execOp
  simp only [ho, hx, Sem.run_bind, hr, Result.andThen_ok]
  exact h
/-- What Bytes returns. -/
def ByPost (p : Pk) (w : World) (e : Ending) (w' : World) : Prop := if mayP p = true
  then ∃ A c, e = .returned (.tuple #[.slice A (layP p).length c, .int .i64 0]) ∧ w'.ownsRow w.heap.size 5 1 (.slice A (layP p).length c) (layP p).length (bv (layP p)) ∧ Below w.heap.size w w'
  else e = .returned (.tuple #[.slice none 0 0, .int .i64 1]) ∧ Below w.heap.size w w'

set_option maxRecDepth 100000 in
set_option maxHeartbeats 4000000 in
theorem bytes_any (p : Pk) (C : Option Addr) (nc kc : Nat) (S : Option Addr) (ns ks : Nat) (w : World) (hM : PkM w p C nc kc S ns ks) (hs : PkS p) : Calls Try.prog 12 #[pkA p C nc kc S ns ks] w (ByPost p w) := by
  obtain ⟨q, hq⟩ : ∃ q, p = q := ⟨_, rfl⟩
  rw [hq] at hM hs
  have hBP : ByPost p w = ByPost q w := by rw [hq]
  rw [hBP]
  clear hBP
  have Hq := hide hq
  have HM := hide (show ∀ W, Below w.heap.size w W → PkM W q C nc kc S ns ks from fun W b => hM.keep b)
  have Hs := hide hs
  have HC := hide (show 0 < nc → ∀ i, SoA C i → i < w.heap.size from fun h0 i ⟨o, e⟩ => by
    obtain ⟨b', o', e', hl, -⟩ := hM.2.2.1.at_ h0
    rw [e] at e'
    injection e' with e'
    injection e' with e1
    omega)
  have HSb := hide (show 0 < ns → ∀ i, SoA S i → i < w.heap.size from fun h0 i ⟨o, e⟩ => by
    obtain ⟨b', o', e', hl, -⟩ := hM.2.2.2.2.2.at_ (k := 0) (by omega)
    rw [e] at e'
    injection e' with e'
    injection e' with e1
    omega)
  obtain ⟨ty, dup, id, topic, payload, qos, retain, client, clean, alive, hasWill, hasUser, hasPass, user, pass, present, codes, subs⟩ := p
  have hty : q.ty = ty := by rw [← hq]
  clear hq hM hs
  simp only [pkA]
  go_enter Try.func12, Try.ntmps12
  go_upto_region 1 with fail
  generalize hW : w.alloc _ = W
  obtain ⟨g, hg, hB, bW, -⟩ := boxedP (p := ⟨ty, dup, id, topic, payload, qos, retain, client, clean, alive, hasWill, hasUser, hasPass, user, pass, present, codes, subs⟩) hW
  have bw : Below w.heap.size w W := by rw [hg]; exact bW
  have hgw : w.heap.size ≤ g := by omega
  rw [hg]
  have HB := hide (show Blk W g 27 (pkVs q C nc kc S ns ks) from by rw [← Hq.out]; exact hB)
  have PC := check_any q C nc kc S ns ks W (HM.out W bw) Hs.out
  have BW := hide bw
  clear hW hg hB bW bw
  refine wp_region_lit ?_
  refine wpList_loadP rfl 27 (.tmp 1) rfl g 27 q C nc kc S ns ks rfl HB.out Try.underlying27 rfl (by kernel_rfl) ?_
  go_wp2_with fail
  refine PC.mono ?_
  rintro e w1 ⟨rfl, b1⟩
  have HB := hide (HB.out.keep b1)
  have BW := hide (below_on BW.out b1)
  clear b1 PC
  by_cases hm : mayP q = true
  case neg =>
    rw [if_neg hm]
    have Hm := hide hm
    clear hm
    go_wp2_with fail
    go_ret2
    exact (show ByPost q w _ _ from by unfold ByPost; rw [if_neg Hm.out]; exact ⟨rfl, BW.out⟩)
  case pos =>
  rw [if_pos hm]
  obtain ⟨hr, hu, hok, hlen⟩ := mayP_parts hm
  obtain ⟨hfirst, hfl16⟩ := lay_first hm
  have hfit : fitB q = true := by
    have := hm
    rw [mayP_fit, Bool.and_eq_true] at this
    exact this.1
  have hrem := remain_fit q hfit
  have PR := remain_any q C nc kc S ns ks w1 (HM.out w1 BW.out) Hs.out
  rw [← hrem] at PR
  obtain ⟨L, hL⟩ : ∃ L, (bodyP q).length = L := ⟨_, rfl⟩
  rw [hL] at PR hlen
  have HL := hide hL
  have HP := hide (show ∀ A c w', w'.ownsRow w.heap.size 5 1 (.slice A (1 + dgL L + L) c) (1 + dgL L + L) (bv (layP q)) → Below w.heap.size w w' → ByPost q w (.returned (.tuple #[.slice A (1 + dgL L + L) c, .int .i64 0])) w' from fun A c w' o b => by
    unfold ByPost
    rw [if_pos hm]
    have hl : (layP q).length = 1 + dgL L + L := by rw [lay_len, HL.out, dg_length _ hlen]
    rw [hl]
    exact ⟨A, c, rfl, o, b⟩)
  have hqos : (q.ty = 3 → 0 ≤ q.qos) ∧ (q.ty = 3 → q.qos ≤ 3) := ⟨fun h => (fit_i3 hfit h).1.1, fun h => by have := (fit_i3 hfit h).1.2; omega⟩
  obtain ⟨t, rfl⟩ : ∃ t : Nat, ty = (t : Int) := ⟨ty.toNat, by rw [hty] at hr; omega⟩
  have ht14 : t ≤ 14 := by rw [hty] at hr; omega
  have hlay : layP q = UInt8.ofNat (16 * t + flagsP q) :: (dg L ++ bodyP q) := by unfold layP; rw [hty, Int.toNat_natCast, HL.out]
  have HLay := hide hlay
  have Hfit := hide hfit
  have Hqos := hide hqos
  generalize hF : flagsP q = F at *
  have HF := hide hF
  have hd4 := dgL_le L
  clear hr hu hok hm hrem hL hfit hqos hlay hF hfirst
  go_upto_region 5 with (refine wpList_loadP rfl 27 (.tmp 1) rfl g 27 q C nc kc S ns ks rfl HB.out Try.underlying27 rfl (by kernel_rfl) ?_)
  refine PR.mono ?_
  rintro e w2 ⟨rfl, b2⟩
  have HB := hide (HB.out.keep b2)
  have BW := hide (below_on BW.out b2)
  clear b2 PR
  go_wp2_with fail
  refine (vput_ok L hlen w2).mono ?_
  rintro e w3 ⟨D, kd, rfl, hkd, hD, b3⟩
  have HB := hide (HB.out.keep b3)
  have BW := hide (below_on BW.out b3)
  have HD := hide hD
  clear b3 hkd hD
  obtain ⟨dl, hdl⟩ : ∃ dl, dgL L = dl := ⟨_, rfl⟩
  rw [hdl] at HD hd4 ⊢
  rw [hdl] at HP
  have Hdl := hide hdl
  clear hdl
  have hmk := fun V => run_mkZ (P := Try.prog) 31 5 (.int .u8 0) 1 Try.underlying31 u8_info rfl (1 + dl + L) (by omega) (by omega) (1 + (dl : Int) + (L : Int)) (by omega) V
  go_wp2_with fail
  clear hmk
  obtain ⟨z, hz⟩ : ∃ z, w3.heap.size = z := ⟨_, rfl⟩
  obtain ⟨V, hV⟩ : ∃ V, w3.alloc (.cells (arr (List.replicate (1 + dl + L) (Value.int .u8 0))) 5) = V := ⟨_, rfl⟩
  have bV : Below w3.heap.size w3 V := by rw [← hV]; exact (Below.refl _ _).alloc (Nat.le_refl _) _
  have hO : V.ownsRow w.heap.size 5 1 (.slice (some ⟨z, 0, none⟩) 0 (1 + dl + L)) 0 (bv []) := by rw [← hV, ← hz]; exact own_madeZ w3 w.heap.size BW.out.size 5 (.int .u8 0) (1 + dl + L) (by unfold maxLen; omega)
  rw [hV, hz]
  have hgz : g < z := by rw [← hz]; exact HB.out.lt
  have HD3 := HD
  have HD := hide (HD.out.keep bV)
  have HB := hide (HB.out.keep bV)
  have BW := hide (below_on BW.out bV)
  have hT := Trk.start hO BW.out.size
  have hgA : ¬ SoA (some ⟨z, 0, none⟩) g := fun ⟨o, e⟩ => by injection e with e; injection e with e1; omega
  have hDA : Off (SoA (some ⟨z, 0, none⟩)) D := fun b o e ⟨o', e'⟩ => by
    obtain ⟨b', o'', e2, hl, -⟩ := HD3.out.at_ (k := 0) (by omega)
    rw [e] at e2
    injection e2 with e2
    injection e2 with e3
    injection e' with e'
    injection e' with e4
    omega
  have HT := hide hT
  have c0 : V.cell? ⟨g, 0, none⟩ = some (.int .i64 (t : Int)) := by rw [← hty]; exact (Blk.p18 HB.out).1
  obtain ⟨M, hM⟩ : ∃ M, 16 * t + F = M := ⟨_, rfl⟩
  have hM256 : M < 256 := by omega
  have v1 : IntKind.i64.wrap ((t : Int) * 16) = (t : Int) * 16 := by rw [IntKind.wrap_i64]; omega
  have v2 : IntKind.i64.wrap ((t : Int) * 16 + (F : Int)) = (M : Int) := by rw [IntKind.wrap_i64]; omega
  have v3 : IntKind.u8.wrap (M : Int) = (M : Int) := by rw [IntKind.wrap_u8]; omega
  have hbz : bv [UInt8.ofNat M] = [.int .u8 (M : Int)] := by rw [bv_cons, u8cell hM256]; rfl
  rw [hM] at HLay
  have PF := fun Z => flags_p q C nc kc S ns ks Z Hqos.out.1 Hqos.out.2
  rw [HF.out] at PF
  have Hz := hide hz
  have hVb : w.heap.size ≤ V.heap.size := BW.out.size
  clear hV bV hT hO hM hz
  refine wp_region_held_drew (S := fun Z => Z.cell? ⟨g, 0, none⟩ = some (.int .i64 (t : Int))) (by kernel_rfl) ?_ (fun hHeld => ?_)
  · exact c0
  refine wpAnyH_take (i := 0) (oi := { dst := some 27, op := _, type := _, pos := _, after := _, guard := _ }) (v := ?v2x1) rfl (by kernel_rfl) (by kernel_rfl) (by kernel_rfl) (fun _ _ _ h => h) (Or.inl ⟨by rfl, ?hy2x1⟩) hHeld ?rest2x1
  case hy2x1 => (intro w hSw; go_simp <;> with_reducible rfl)
  try simp only [Act.put, List.setIfInBounds_toArray, List.set_cons_zero, List.set_cons_succ]
  refine wpAnyH_take (i := 1) (oi := { dst := some 28, op := _, type := _, pos := _, after := _, guard := _ }) (v := ?v2x2) rfl (by kernel_rfl) (by kernel_rfl) (by kernel_rfl) (fun _ _ _ h => h) (Or.inl ⟨by rfl, ?hy2x2⟩) hHeld ?rest2x2
  case hy2x2 => (intro w hSw; go_simp <;> with_reducible rfl)
  try simp only [Act.put, List.setIfInBounds_toArray, List.set_cons_zero, List.set_cons_succ]
  refine wpAnyH_take (i := 2) (oi := { dst := some 29, op := _, type := _, pos := _, after := _, guard := _ }) (v := ?v2x3) rfl (by kernel_rfl) (by kernel_rfl) (by kernel_rfl) (fun _ _ _ h => h) (Or.inl ⟨by rfl, ?hy2x3⟩) hHeld ?rest2x3
  case hy2x3 => (intro w hSw; go_simp <;> with_reducible rfl)
  try simp only [Act.put, List.setIfInBounds_toArray, List.set_cons_zero, List.set_cons_succ]
  refine wpAnyH_take (i := 3) (oi := { dst := some 30, op := _, type := _, pos := _, after := _, guard := _ }) (v := ?v2x4) rfl (by kernel_rfl) (by kernel_rfl) (by kernel_rfl) (fun _ _ _ h => h) (Or.inl ⟨by rfl, ?hy2x4⟩) hHeld ?rest2x4
  case hy2x4 => (intro w hSw; go_simp <;> with_reducible rfl)
  try simp only [Act.put, List.setIfInBounds_toArray, List.set_cons_zero, List.set_cons_succ]
  refine wpAnyH_ready (rs := [4]) (by kernel_rfl) (by simp) (AllReadyH.cons (o := { dst := some 31, op := _, type := _, pos := _, after := _, guard := _ }) rfl (fun K hK => ?_) AllReadyH.nil)
  rw [if_pos (by rfl)]
  refine op_loadP 27 (.tmp 1) rfl g 27 q C nc kc S ns ks rfl (show Blk V.drew g _ _ from HB.out) Try.underlying27 rfl (by kernel_rfl) ?_
  refine hK.out _ _ ?_ (fun hHeld => ?_)
  · exact hHeld
  clear hK K
  try simp only [Act.put, List.setIfInBounds_toArray, List.set_cons_zero, List.set_cons_succ]
  refine wpAnyH_ready (rs := [5]) (by kernel_rfl) (by simp) (AllReadyH.cons (o := { dst := some 32, op := _, type := _, pos := _, after := _, guard := _ }) rfl (fun K hK => ?_) AllReadyH.nil)
  go_simp
  refine (PF _).mono ?_
  rintro e w5 ⟨rfl, b5⟩
  replace b5 : Below V.heap.size V w5 := below_unN (n := 1) b5
  have HB5 := hide (HB.out.keep b5)
  have HT5 := hide (HT.out.keep b5)
  have HD5 := hide (HD.out.keep b5)
  have hb5 : w.heap.size ≤ w5.heap.size := Nat.le_trans hVb b5.size
  have HV5 := hide (below_on BW.out b5)
  have c5 : w5.cell? ⟨g, 0, none⟩ = some (.int .i64 (t : Int)) := by rw [← hty]; exact (Blk.p18 HB5.out).1
  have hal := fun ob => ((Below.refl w5.heap.size w5).alloc (Nat.le_refl _) ob)
  go_wp2_with fail
  refine hK.out _ _ ?_ (fun hHeld => ?_)
  · exact c5
  clear hK K
  try simp only [Act.put, List.setIfInBounds_toArray, List.set_cons_zero, List.set_cons_succ]
  refine wpAnyH_take (i := 6) (oi := { dst := some 33, op := _, type := _, pos := _, after := _, guard := _ }) (v := ?v2x7) rfl (by kernel_rfl) (by kernel_rfl) (by kernel_rfl) (fun _ _ _ h => h) (Or.inl ⟨by rfl, ?hy2x7⟩) hHeld ?rest2x7
  case hy2x7 => (intro w hSw; go_simp <;> with_reducible rfl)
  try simp only [Act.put, List.setIfInBounds_toArray, List.set_cons_zero, List.set_cons_succ]
  refine wpAnyH_take (i := 7) (oi := { dst := some 34, op := _, type := _, pos := _, after := _, guard := _ }) (v := ?v2x8) rfl (by kernel_rfl) (by kernel_rfl) (by kernel_rfl) (fun _ _ _ h => h) (Or.inl ⟨by rfl, ?hy2x8⟩) hHeld ?rest2x8
  case hy2x8 => (intro w hSw; go_simp <;> with_reducible rfl)
  try simp only [Act.put, List.setIfInBounds_toArray, List.set_cons_zero, List.set_cons_succ]
  refine wpAnyH_ready (rs := [8]) (by kernel_rfl) (by simp) (AllReadyH.cons (o := { dst := some 35, op := _, type := _, pos := _, after := _, guard := _ }) rfl (fun K hK => ?_) AllReadyH.nil)
  go_simp
  go_wp2_with fail
  refine hK.out _ _ ?_ (fun hHeld => ?_)
  · exact ((hal _).cell (p := ⟨g, 0, none⟩) HB5.out.lt).trans c5
  clear hK K
  try simp only [Act.put, List.setIfInBounds_toArray, List.set_cons_zero, List.set_cons_succ]
  refine wpAnyH_ready (rs := [9]) (by kernel_rfl) (by simp) (AllReadyH.cons (o := { dst := some 36, op := _, type := _, pos := _, after := _, guard := _ }) rfl (fun K hK => ?_) AllReadyH.nil)
  rw [if_pos (by rfl)]
  refine op_app2 (.tmp 27) (.tmp 35) 31 rfl 5 _ _ Try.underlying31 u8_info rfl w.heap.size (some ⟨z, 0, none⟩) 0 (1 + dl + L) (bv []) rfl (own_keep HT5.out.own (hal _)) (some ⟨w5.heap.size, 0, none⟩) 1 1 [.int .u8 (M : Int)] rfl (rd_one w5 5 _) (by intro u hu; simp at hu; subst hu; rfl) (by unfold maxLen; omega) (by omega) (Nat.le_trans hb5 (by simp)) ?_
  intro A6 c6 w6 o6 b6 h6
  have hT6 := (HT5.out.keep (hal _)).step (ys := [UInt8.ofNat M]) (by rw [hbz]; exact o6) b6 h6
  have HB6 := HB.out.but hT6.but hgA
  have c6' : w6.cell? ⟨g, 0, none⟩ = some (.int .i64 (t : Int)) := by rw [← hty]; exact (Blk.p18 HB6).1
  have HD6 := hide (HD.out.but hT6.but hDA)
  have HT6 := hide hT6
  have HB6 := hide HB6
  clear o6 b6 h6 hT6
  refine hK.out _ _ ?_ (fun hHeld => ?_)
  · exact c6'
  clear hK K
  try simp only [Act.put, List.setIfInBounds_toArray, List.set_cons_zero, List.set_cons_succ]
  refine wpAnyH_take (i := 10) (oi := { dst := some 8, op := _, type := _, pos := _, after := _, guard := _ }) (v := ?v2x11) rfl (by kernel_rfl) (by kernel_rfl) (by kernel_rfl) (fun _ _ _ h => h) (Or.inl ⟨by rfl, ?hy2x11⟩) hHeld ?rest2x11
  case hy2x11 => (intro w hSw; go_simp <;> with_reducible rfl)
  try simp only [Act.put, List.setIfInBounds_toArray, List.set_cons_zero, List.set_cons_succ]
  refine wpAnyH_done (by kernel_rfl) ?_ _
  clear hHeld c6' hgA hDA v1 v2 v3 PF
  have hb6 := HT6.out.base
  go_upto_region 9 with (at_builtin; refine wpList_app2 rfl (.tmp 37) (.tmp 38) 31 rfl 5 _ _ Try.underlying31 u8_info rfl w.heap.size A6 1 c6 (bv [UInt8.ofNat M]) rfl HT6.out.own D dl kd (bv (dg L)) rfl HD6.out (bv_one _) (by unfold maxLen; omega) (by omega) hb6 ?_; intro A7 c7 w7 o7 b7 h7; rw [← bv_append] at o7)
  have hT7 := HT6.out.step o7 b7 h7
  have hgA2 : ¬ SoA (some ⟨z, 0, none⟩) g := fun ⟨o, e⟩ => by injection e with e; injection e with e1; omega
  have HB7 := hide (HB.out.but hT7.but hgA2)
  have bw7 : Below w.heap.size w w7 := But.below BW.out hT7.but (fun i ⟨o, e⟩ => by injection e with e; injection e with e1; have := Hz.out; omega) BW.out.size
  have PB := behind_any w.heap.size A7 (1 + dl) c7 (1 + dl + L) (UInt8.ofNat M :: dg L) q C nc kc S ns ks w7 Hfit.out (HM.out w7 bw7) Hs.out hT7.own hT7.base (by omega) HC.out HSb.out (by rw [HL.out])
  have HW7 := hide bw7
  clear o7 b7 h7 hT7 bw7 hgA2
  refine wp_region_lit ?_
  refine wpList_mv rfl (.tmp 8) rfl ?_
  refine wpList_loadP rfl 27 (.tmp 1) rfl g 27 q C nc kc S ns ks rfl HB7.out Try.underlying27 rfl (by kernel_rfl) ?_
  go_wp2_with fail
  refine PB.mono ?_
  rintro e w8 ⟨A8, c8, rfl, o8, b8⟩
  have hF : ByPost q w (.returned (.tuple #[.slice A8 (1 + dl + L) c8, .int .i64 0])) w8 := HP.out A8 c8 w8 (by rw [HLay.out]; exact o8) (HW7.out.trans b8)
  have HFin := hide hF
  clear hF o8 b8 PB
  go_wp2_with fail
  go_ret2
  exact HFin.out

end Go.Proofs.Ytdlhcecmodefkaa
