/-
  What is proved here: the program's 'behindConnect' of package packet. Conditions: strings of at most 65535 bytes; a quality from 0 to 2.
-/
import Derived.Test.YtjaaeiemgojnbaaPb1
import Derived.Test.YtjaaeiemgojnbaaPq13
namespace Go.Proofs.Ytjaaeiemgojnbaa
set_option linter.unusedVariables false
set_option linter.unusedSimpArgs false
open Go.RowKit

theorem conBody_texts (p : Pk) : conBody p = mqtt ++ [4, UInt8.ofNat (conFlags p)] ++ wordI p.alive ++ (textsP p).flatMap textL := by
  unfold conBody textsP
  cases p.hasWill <;> cases p.hasUser <;> cases p.hasPass <;> simp
theorem texts_flen : ∀ (l : List (List UInt8)), (∀ s ∈ l, s.length ≤ 65535) → (l.flatMap textL).length ≤ l.length * 65537
  | [], _ => by simp
  | s :: l, h => by
    have h1 := h s (by simp)
    have h2 := texts_flen l (fun t ht => h t (by simp [ht]))
    rw [List.flatMap_cons, List.length_append, List.length_cons, textL_len]
    omega
theorem conFlags_lt (p : Pk) (h0 : 0 ≤ p.qos) (h2 : p.qos ≤ 2) : conFlags p < 256 := by
  unfold conFlags
  have h1 : ∀ b n, flagB b n ≤ n := fun b n => by unfold flagB; split <;> omega
  have := h1 p.clean 2
  have := h1 p.hasWill 4
  have := h1 p.retain 32
  have := h1 p.hasPass 64
  have := h1 p.hasUser 128
  omega

set_option maxRecDepth 100000 in
set_option maxHeartbeats 4000000 in
theorem behindConnect_any (base : Nat) (A : Option Addr) (n c N : Nat) (xs : List UInt8) (p : Pk) (C : Option Addr) (nc kc : Nat) (S : Option Addr) (ns ks : Nat) (w : World) (hs : PkS p) (h : w.ownsRow base 5 1 (.slice A n c) n (bv xs)) (hb : base ≤ w.heap.size) (hn : n ≤ 1000000) (hq0 : 0 ≤ p.qos) (hq2 : p.qos ≤ 2) (h3 : 0 ≤ p.alive ∧ p.alive ≤ 65535)
    (hN : n + (conBody p).length = N) : Calls Try.prog 56 #[.slice A n c, pkA p C nc kc S ns ks] w (RetFin base N (xs ++ conBody p) w) := by
  have hAl := own_lt h
  have hAb := ownS_new h
  have hcb := conBody_texts p
  have PT := texts_any p C nc kc S ns ks
  have PM := fun W => marks_any p C nc kc S ns ks W hq0 (by omega)
  have hT5 := textsP_len p
  have HTs := hide (textsP_short p hs)
  have hfl := conFlags_lt p hq0 hq2
  generalize textsP p = T at *
  generalize conFlags p = F at *
  generalize conBody p = B at *
  have HCB := hide hcb
  clear hcb
  obtain ⟨q, hq⟩ : ∃ q, p = q := ⟨_, rfl⟩
  rw [hq] at PT PM
  have Hq := hide hq
  clear hs hq0 hq2
  obtain ⟨ty, dup, id, topic, payload, qos, retain, client, clean, alive, hasWill, hasUser, hasPass, user, pass, present, codes, subs⟩ := p
  clear hq
  simp only [pkA] at h3 hN ⊢
  obtain ⟨LT, hLT⟩ : ∃ LT, T.length = LT := ⟨_, rfl⟩
  rw [hLT] at hT5
  have HLT := hide hLT
  have HN := hide hN
  clear hN hLT
  go_enter Try.func56, Try.ntmps56
  go_upto_region 1 with fail
  generalize hW : w.alloc _ = W
  obtain ⟨g, hg, hB, bW, -⟩ := boxedP (p := ⟨ty, dup, id, topic, payload, qos, retain, client, clean, alive, hasWill, hasUser, hasPass, user, pass, present, codes, subs⟩) hW
  have hT := Trk.start (own_keep h (by rw [hg]; exact bW)) (Nat.le_trans hb bW.size)
  have hgA : ¬ SoA A g := fun ⟨o, e⟩ => by have := hAl _ _ e; omega
  have bw : Below w.heap.size w W := by rw [hg]; exact bW
  rw [hg]
  have HB := hide (show Blk W g 27 (pkVs q C nc kc S ns ks) from by rw [← Hq.out]; exact hB)
  have hqa : q.alive = alive := by rw [← Hq.out]
  have Hbw := hide bw
  clear hW bW hB h bw
  go_wp2_with fail
  refine (show Calls Try.prog 79 #[.slice A n c, .string ⟨#[77, 81, 84, 84]⟩] W (RetApp base A (n + 6) (xs ++ mqtt) W) from addText_any base A n c 4 (n + 6) xs [77, 81, 84, 84] W hT.own rfl rfl (by omega) hT.base (by omega)).mono ?_
  rintro e w1 ⟨A1, k1, rfl, o1, b1, q1⟩
  have hT := hT.step o1 b1 q1
  have HB1 := hide (HB.out.but hT.but hgA)
  clear o1 b1 q1
  have HT := hide hT
  clear hT
  go_upto_region 3 with (refine wpList_loadP rfl 27 (.tmp 3) rfl g 27 q C nc kc S ns ks rfl HB1.out Try.underlying27 rfl (by kernel_rfl) ?_)
  refine (PM w1).mono ?_
  rintro e w2 ⟨rfl, b2⟩
  have hT := HT.out.keep b2
  have HB2 := hide (HB.out.but hT.but hgA)
  have hTb := hT.base
  have HT := hide hT
  have wF : IntKind.u8.wrap (F : Int) = (F : Int) := by rw [IntKind.wrap_u8]; omega
  have hbz : bv [4, UInt8.ofNat F] = [.int .u8 4, .int .u8 (F : Int)] := by rw [bv_cons, bv_cons, u8cell hfl]; rfl
  have c9 := (Blk.p18 HB2.out).2.2.2.2.2.2.2.2.2.1
  rw [hqa] at c9
  clear hT b2 PM HB1
  clear c9
  go_upto_region 3 with (at_builtin; refine wpList_app2 rfl (.tmp 9) (.tmp 13) 31 rfl 5 _ _ Try.underlying31 u8_info rfl base A1 (n + 6) k1 _ rfl (own_keep HT.out.own ((Below.refl _ _).alloc (Nat.le_refl _) _)) (some ⟨w2.heap.size, 0, none⟩) 2 2 [.int .u8 4, .int .u8 (F : Int)] rfl (Blk.new w2 5 [.int .u8 4, .int .u8 (F : Int)]).rd (by intro u hu; simp at hu; rcases hu with rfl | rfl <;> rfl) (by unfold maxLen; omega) (by omega) (Nat.le_trans hTb (by simp)) ?_; intro A2 c2 w3 o3 b3 h3')
  have hT : Trk base W A A2 c2 (n + 6 + 2) (xs ++ mqtt ++ [4, UInt8.ofNat F]) w3 := by
    refine (HT.out.keep ((Below.refl _ _).alloc (Nat.le_refl _) _)).step ?_ b3 h3'
    rw [← hbz, ← bv_append] at o3
    exact o3
  have HB3 := HB.out.but hT.but hgA
  have c9 := (Blk.p18 HB3).2.2.2.2.2.2.2.2.2.1
  rw [hqa] at c9
  clear o3 b3 h3' HB2 HB3 HT
  go_wp2_with fail
  refine (addWord_any base A2 (n + 6 + 2) c2 (n + 6 + 2 + 2) (xs ++ mqtt ++ [4, UInt8.ofNat F]) w3 alive hT.own rfl (by omega) hT.base h3.1 h3.2).mono ?_
  rintro e w4 ⟨A3, c3, rfl, o4, b4, q4⟩
  have hT := hT.step o4 b4 q4
  have HB4 := hide (HB.out.but hT.but hgA)
  clear o4 b4 q4 c9
  have HT := hide hT
  clear hT
  have P := PT w4
  unfold RetTx at P
  rw [HLT.out] at P
  clear PT
  go_upto_region 5 with (refine wpList_loadP rfl 27 (.tmp 3) rfl g 27 q C nc kc S ns ks rfl HB4.out Try.underlying27 rfl (by kernel_rfl) ?_)
  refine P.mono ?_
  rintro e w5 ⟨R, kr, rfl, hRn, hR, b5⟩
  have hRA : Off (SoA A3) R := fun b o e ⟨o', e'⟩ => by have h1 := hRn b o e; have h2 := own_lt HT.out.own b o' e'; omega
  have hT := HT.out.keep b5
  have HR := hide hR
  have HT := hide hT
  have h5b := hT.base
  have hS5 := hide (Trk.start hT.own hT.base)
  clear P hR b5 hT hRn
  go_wp2_with fail
  go_loopw [0, 22] (fun v i wr => ∃ (k : Nat) (A4 : Option Addr) (c4 m : Nat), i = .int .i64 (k : Int) ∧ k ≤ LT ∧ m = n + 10 + ((T.take k).flatMap textL).length ∧ v = .slice A4 m c4 ∧ Trk base w5 A3 A4 c4 m (xs ++ mqtt ++ [4, UInt8.ofNat F] ++ wordI alive ++ (T.take k).flatMap textL) wr) (fun _ i _ => LT - (intOf i).toNat)
  case atStart => exact ⟨0, A3, c3, n + 10, rfl, by omega, by simp, rfl, by simpa using hS5.out⟩
  case round =>
    obtain ⟨k, A4, c4, m, rfl, hk, hm, rfl, hT⟩ := hrel
    by_cases hlt : k < LT
    · have q1 : (k : Int) < (LT : Int) := by omega
      have hlt' : k < T.length := by rw [HLT.out]; exact hlt
      obtain ⟨b, o, eR, hbl, hcell⟩ := (HR.out.but hT.but hRA).at_ (k := k) hlt
      subst eR
      have cA : wr.cell? ⟨b, o + k, none⟩ = some (.string (str T[k])) := hcell k _ (tv_get T k hlt')
      have htk : T.take (k + 1) = T.take k ++ [T[k]] := (List.take_append_getElem hlt').symm
      have hl := HTs.out T[k] (List.getElem_mem hlt')
      have hfl := texts_flen (T.take k) (fun s hs => HTs.out s (List.mem_of_mem_take hs))
      have hlk : (T.take k).length = k := by rw [List.length_take]; omega
      rw [hlk] at hfl
      generalize T[k] = f at *
      have Htk := hide htk
      generalize hFk : (T.take k).flatMap textL = Fk at *
      have HF2 := hide (show (T.take (k + 1)).flatMap textL = Fk ++ textL f by rw [Htk.out, List.flatMap_append, hFk]; simp)
      have HFl := hide (show m = n + 10 + Fk.length from hm)
      have hml : m ≤ 5000000 := by omega
      obtain ⟨lf, hlf⟩ : ∃ lf, f.length = lf := ⟨_, rfl⟩
      rw [hlf] at hl
      have Hlf := hide hlf
      have HT := hide hT
      clear hcell hlt' htk hbl hfl hlk hFk hm hlf hT
      go_wp2_with fail
      refine (addText_any base A4 m c4 lf (m + (2 + lf)) (xs ++ mqtt ++ [4, UInt8.ofNat F] ++ wordI alive ++ Fk) f wr HT.out.own Hlf.out rfl (by omega) HT.out.base hl).mono ?_
      rintro e w6 ⟨A6, c6, rfl, o6, b6, q6⟩
      have hT6 : Trk base w5 A3 A6 c6 (m + (2 + lf)) (xs ++ mqtt ++ [4, UInt8.ofNat F] ++ wordI alive ++ (T.take (k + 1)).flatMap textL) w6 := by
        have := HT.out.step o6 b6 q6
        rw [HF2.out]
        simp only [List.append_assoc] at this ⊢
        exact this
      have HT6 := hide hT6
      clear hT6 o6 b6 q6
      go_wp2_with fail
      exact ⟨⟨k + 1, A6, c6, m + (2 + lf), by go_num, by omega, by rw [HF2.out, HFl.out, List.length_append, textL_len, Hlf.out]; omega, rfl, HT6.out⟩, by simp [intOf]; omega⟩
    · obtain rfl : k = LT := by omega
      have q1 : ¬ (k : Int) < (k : Int) := by omega
      have hfull : T.take k = T := List.take_of_length_le (by rw [HLT.out]; exact Nat.le_refl _)
      rw [hfull] at hm hT
      have hF := (HT.out.step hT.own hT.but hT.wh).fin Hbw.out (fun i ⟨o, e⟩ => hAb i o e) hb
      have hmN : m = N := by rw [hm, ← HN.out, HCB.out]; simp [mqtt, wordI_length]; omega
      have hBB : xs ++ mqtt ++ [4, UInt8.ofNat F] ++ wordI alive ++ T.flatMap textL = xs ++ B := by rw [HCB.out]; simp
      rw [hmN, hBB] at hF
      have HF := hide hF
      subst hmN
      clear hT hF hm hfull hBB
      go_wp2_with fail
      go_ret
      exact HF.out

end Go.Proofs.Ytjaaeiemgojnbaa
