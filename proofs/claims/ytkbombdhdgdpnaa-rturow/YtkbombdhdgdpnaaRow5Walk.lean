/-
  What is proved here: the law RtuRow returns true for every gap, rows of bytes and slice of ints, and writes nothing that was there. No condition.
-/
import Derived.Test.YtkbombdhdgdpnaaRow5a
import Derived.Deep.DeepCutAuto
namespace Go.Proofs.Ytkbombdhdgdpnaa
set_option linter.unusedVariables false
set_option linter.unusedSimpArgs false
open Go.RowKit

theorem add_nil (bs : List UInt8) : addL [] bs = bs.take 257 := by unfold addL; rw [List.nil_append]
theorem lastL_new (last now : Int) (bs : List UInt8) (h : 0 < bs.length) : lastL last now bs = now := by unfold lastL; rw [if_neg (by omega)]
theorem endT_all (xs : List UInt8) (h1 : 0 < xs.length) (h2 : xs.length ≤ 256) : endL (xs.take 257) = [xs] := by
  rw [List.take_of_length_le (by omega)]
  unfold endL
  rw [if_neg (by omega)]
theorem endT_none (xs : List UInt8) (h2 : 256 < xs.length) : endL (xs.take 257) = [] := by
  unfold endL
  rw [if_pos (Or.inr (by rw [List.length_take]; omega))]

theorem end_len (xs : List UInt8) : (endL xs).length ≤ 1 := by
  unfold endL
  split <;> simp


/-- The loop's relation. -/
structure R5 (w wr : World) (g : Nat) (A : Option Addr) (k : Nat) (came : List UInt8) (last G now i : Nat) (T : Option Addr) (tn tc : Nat) (trs : List RowE) (Wa : Option Addr) (wn wk : Nat) (wrs rs : List RowE) : Prop where
  ln : LnI w wr g A k came (last : Int) (G : Int) (last : Int)
  tw : TW w wr (lnS g A) T tn tc trs Wa wn wk wrs rs
  eq : trs.map RowE.xs ++ endL came = wrs.map RowE.xs
  si : came = [] ∨ last + G ≤ now
  le : last ≤ now
  no : now ≤ 2000 * i
  ti : tn ≤ i
  wi : wn ≤ i

set_option maxHeartbeats 2000000 in
set_option maxRecDepth 100000 in
theorem row5_walk (gap : Int) (O : Option Addr) (n c : Nat) (rs : List RowE) (Q : Option Addr) (ql qc : Nat) (qs : List Int) (w : World) (hO : RRd w O n rs) (hk : ∀ r ∈ rs, r.xs.length ≤ r.k) (hQ : Rd w Q ql (iv qs)) :
    Calls Try.prog 6 #[.int .i64 gap, .slice O n c, .slice Q ql qc] w fun e w' => e = .returned (.bool true) ∧ Below w.heap.size w w' := by
  have Hq : Hid (qs.length = ql) := by show _ = _; rw [← iv_length]; exact hQ.1
  have HO := hide hO
  have HQ := hide hQ
  have HK := hide hk
  clear hO hQ hk
  by_cases h1 : gap < 1
  · go_enter Try.func6, Try.ntmps6
    go_wp2
    go_ret
    exact ⟨rfl, Below.refl _ _⟩
  by_cases h2 : 1000 < gap
  · go_enter Try.func6, Try.ntmps6
    go_wp2
    go_ret
    exact ⟨rfl, Below.refl _ _⟩
  by_cases h3 : (40 : Int) < (n : Int)
  · go_enter Try.func6, Try.ntmps6
    go_wp2
    go_ret
    exact ⟨rfl, Below.refl _ _⟩
  obtain ⟨G, rfl⟩ : ∃ G : Nat, gap = (G : Int) := ⟨gap.toNat, by omega⟩
  have hG1 : 1 ≤ G := by omega
  have hG2 : G ≤ 1000 := by omega
  have hn2 : n ≤ 40 := by omega
  go_enter Try.func6, Try.ntmps6
  go_wp2_with fail
  refine (newI (gap := (G : Int)) (by omega) w).mono ?_
  rintro e w1 ⟨g, rfl, L1⟩
  have H1 : Hid (R5 w w1 g none 0 [] 0 G 0 0 none 0 0 [] none 0 0 [] rs) := ⟨L1, ⟨World.ownsRow_nil _ _ _ _, World.ownsRow_nil _ _ _ _, by simp, by simp, Off.none_ _, Off.none_ _, Off.none_ _⟩, by decide, Or.inl rfl, Nat.le_refl _, by omega, Nat.le_refl _, Nat.le_refl _⟩
  clear L1
  go_wp2_with fail
  go_loopw [9, 10, 11, 12] (fun tv wv nv xv wr => ∃ (A : Option Addr) (k : Nat) (came : List UInt8) (last now i : Nat) (T : Option Addr) (tn tc : Nat) (trs : List RowE) (Wa : Option Addr) (wn wk : Nat) (wrs : List RowE), i ≤ n ∧ tv = .slice T tn tc ∧ wv = .slice Wa wn wk ∧ nv = .int .i64 (now : Int) ∧ xv = .int .i64 (i : Int) ∧
    R5 w wr g A k came last G now i T tn tc trs Wa wn wk wrs rs) (fun _ _ _ xv _ => n - (intOf xv).toNat)
  case atStart => exact ⟨none, 0, [], 0, 0, 0, none, 0, 0, [], none, 0, 0, [], Nat.zero_le _, rfl, rfl, rfl, rfl, H1.out⟩
  case round =>
    obtain ⟨A, k, came, last, now, i, T, tn, tc, trs, Wa, wn, wk, wrs, hin, rfl, rfl, rfl, rfl, hR⟩ := hrel
    have HR := hide hR
    clear hR H1
    have hno := HR.out.no
    have hti := HR.out.ti
    have hwi := HR.out.wi
    have hle := HR.out.le
    by_cases hlt : i < n
    · have q0 : (i : Int) < (n : Int) := by omega
      obtain ⟨b, o, r, rfl, hb, hr, hc, hir⟩ := (HO.out.keep HR.out.ln.be).at_ hlt
      obtain ⟨b', o', r', e', _, hr', _, hiw⟩ := HO.out.at_ hlt
      obtain rfl : r' = r := by rw [hr] at hr'; injection hr' with e; exact e.symm
      clear e' hr'
      have hmem : r' ∈ rs := List.mem_of_getElem? hr
      have hrk := HK.out r' hmem
      have Hmem := hide hmem
      have HIr := hide hir
      have HIw := hide hiw
      obtain ⟨rA, rk, rx⟩ := r'
      simp only [RowE.v] at hc
      simp only [] at hrk
      clear hmem hir hiw hr
      generalize hm : rx.length = m at *
      by_cases hm0 : m = 0
      · have q1 : ((m : Int) == 0) = true := by rw [beq_iff_eq]; omega
        go_wp2_with fail
        go_ret
        exact ⟨rfl, HR.out.ln.be⟩
      by_cases hm6 : 600 < m
      · have q1 : ((m : Int) == 0) = false := by rw [beq_eq_false_iff_ne]; omega
        have q2 : (600 : Int) < (m : Int) := by omega
        go_wp2_with fail
        go_ret
        exact ⟨rfl, HR.out.ln.be⟩
      have q1 : ((m : Int) == 0) = false := by rw [beq_eq_false_iff_ne]; omega
      have q2 : ¬ (600 : Int) < (m : Int) := by omega
      have hm0' : 0 < m := by omega
      have hm6' : m ≤ 600 := by omega
      have hrd : Rd wr rA m (bv rx) := by rw [← hm]; exact HIr.out
      have hoff : Off (lnS g A) rA := HR.out.ln.offOld (by
        intro b0 o0 e
        obtain ⟨b1, o1, e1, hb1, _⟩ := Rd.at_ (k := 0) HIw.out (show 0 < rx.length by omega)
        rw [show (RowE.mk rA rk rx).A = rA from rfl, e] at e1
        injection e1 with e1
        injection e1 with e1 _ _
        omega)
      have HF := hide (feedE HR.out.ln (now : Int) rA m rk rx hrd hoff hrk (by omega) (by omega) (by omega) (by omega) (by omega) (by omega) (by rcases HR.out.si with h | h; exact Or.inl h; exact Or.inr (by omega)))
      rw [add_nil, lastL_new _ _ _ (by omega)] at HF
      have Hm := hide hm
      clear hrd hoff hm hm0 hm6
      go_wp2_with fail
      refine HF.out.mono ?_
      rintro e w2 ⟨O2, n2, ok2, ns, A2, k2, rfl, hn2', r2, m2, L2, ⟨f2, f2'⟩, a2, no2, na2, b2⟩
      have hn21 : n2 ≤ 1 := by rw [← hn2']; exact end_len came
      have T2 := hide (HR.out.tw.feed b2 na2)
      have N2 := hide (HR.out.tw.told (A' := A2) HR.out.ln.ln b2 r2 f2' a2)
      have E2 := hide m2
      have H2 := hide L2
      have R2 := hide r2
      have hcw : w.cell? ⟨b, o + i, none⟩ = some (.slice rA m rk) := by
        obtain ⟨b1, o1, r1, e1, hb1, hr1, hc1, _⟩ := HO.out.at_ hlt
        injection e1 with e1
        injection e1 with e1 e2 _
        subst e1 e2
        exact (HR.out.ln.be.cell (p := ⟨b, o + i, none⟩) hb1).symm.trans hc
      have hbw : b < w.heap.size := by
        obtain ⟨b1, o1, r1, e1, hb1, hr1, hc1, _⟩ := HO.out.at_ hlt
        injection e1 with e1
        injection e1 with e1 _ _
        omega
      clear HF hn2' r2 m2 L2 f2 f2' a2 no2 na2 b2 hc hb
      have c2 := (H2.out.be.cell (p := ⟨b, o + i, none⟩) hbw).trans hcw
      by_cases h256 : m ≤ 256
      · have q3 : (m : Int) ≤ 256 := by omega
        go_upto_region 21 with (first
          | (at_builtin; refine wpList_app2 rfl (.tmp 71) (.tmp 72) 36 rfl 22 _ _ Try.underlying36 sl_info rfl w.heap.size T tn tc (trs.map RowE.v) rfl T2.out.to O2 n2 ok2 (ns.map RowE.v) rfl R2.out.1 (rv_one _) (by unfold maxLen; omega) (by omega) H2.out.be.size ?_; intro T3 c3 w3 o3 b3 t3; have TW3 := hide (T2.out.tell N2.out (fun i hi => H2.out.ln.lt i hi) o3 b3 t3); have H3 := hide (H2.out.off_ T2.out.ts (own_newAt T2.out.to) b3); clear o3 b3 t3 c2; have c4 := (H3.out.be.cell (p := ⟨b, o + i, none⟩) hbw).trans hcw)
          | (at_builtin; refine wpList_app2 rfl (.tmp 80) (.tmp 85) 36 rfl 22 _ _ Try.underlying36 sl_info rfl w.heap.size Wa wn wk (wrs.map RowE.v) rfl (TW3.out.keep ((Below.refl _ _).alloc (Nat.le_refl _) _)).wo (some ⟨w3.heap.size, 0, none⟩) 1 1 [.slice rA m rk] rfl (rd_one _ _ _) (by intro u hu; simp at hu; subst hu; rfl) (by unfold maxLen; omega) (by omega) (Nat.le_trans H3.out.be.size (by simp)) ?_; intro W4 c4' w4 o4 b4 t4; have TW4 := hide (wantOne (TW3.out.keep ((Below.refl _ _).alloc (Nat.le_refl _) _)) Hmem.out Hm.out (fun i hi => Nat.lt_of_lt_of_le (H3.out.ln.lt i hi) (by simp)) o4 b4 t4); have H4 := hide ((H3.out.keep ((Below.refl _ _).alloc (Nat.le_refl _) _)).off_ TW3.out.ws (own_newAt TW3.out.wo) b4); clear o4 b4 t4 c4))
        have HQ4 := hide (HQ.out.keep H4.out.be)
        have HR5 : Hid (∀ now', now + G ≤ now' → now' ≤ now + G + 999 → R5 w w4 g A2 k2 (rx.take 257) now G now' (i + 1) T3 (tn + n2) c3 (trs ++ ns) W4 (wn + 1) c4' (wrs ++ [⟨rA, rk, rx⟩]) rs) := by
          intro now' hn1 hn2
          refine ⟨H4.out, TW4.out, ?_, Or.inr hn1, by omega, by omega, by omega, by omega⟩
          rw [List.map_append, List.map_append, E2.out, endT_all rx (by rw [Hm.out]; exact hm0') (by rw [Hm.out]; exact h256), HR.out.eq]
          rfl
        clear TW4 H4 TW3 H3 T2 N2 R2 H2 HR HIr HIw
        go_cut [100] (fun s wc => ∃ t : Bool, s = .bool t ∧ w4 = wc ∧ (t = true → ∃ p : Int, i < ql ∧ qs[i]? = some p ∧ 0 < p))
        case first =>
          by_cases hip : i < ql
          · obtain ⟨b, o, rfl, hbl, hcell⟩ := HQ4.out.at_ hip
            have hip' : i < qs.length := by rw [Hq.out]; exact hip
            have c0 := hcell i _ (iv_get qs i hip')
            have g0 : qs[i]? = some qs[i] := List.getElem?_eq_getElem hip'
            have q1 : (i : Int) < (ql : Int) := by omega
            generalize qs[i] = p at *
            clear hcell
            by_cases hp : 0 < p
            · go_wp2_with fail
              go_meet
              exact ⟨true, rfl, rfl, fun _ => ⟨p, hip, g0, hp⟩⟩
            · go_wp2_with fail
              go_meet
              exact ⟨false, rfl, rfl, fun e => by cases e⟩
          · have q1 : ¬ (i : Int) < (ql : Int) := by omega
            go_wp2_with fail
            go_meet
            exact ⟨false, rfl, rfl, fun e => by cases e⟩
        case rest =>
          obtain ⟨t, rfl, rfl, ht⟩ := hcut
          cases t with
          | false =>
            go_wp2_with fail
            exact ⟨⟨_, _, _, now, now + G, i + 1, _, _, _, _, _, _, _, _, by omega, rfl, rfl, by go_num, by go_num, HR5.out (now + G) (by omega) (by omega)⟩, by simp [intOf]; omega⟩
          | true =>
            obtain ⟨p, hip, g0, hp⟩ := ht rfl
            obtain ⟨b, o, rfl, hbl, hcell⟩ := HQ4.out.at_ hip
            have c0 := hcell i (.int .i64 p) (by rw [iv, List.getElem?_map, g0]; rfl)
            have q1 : (i : Int) < (ql : Int) := by omega
            obtain ⟨M, hM, hM2⟩ : ∃ M : Nat, p % 1000 = (M : Int) ∧ M < 1000 := ⟨(p % 1000).toNat, by omega, by omega⟩
            clear hcell ht
            go_wp2_with fail
            exact ⟨⟨_, _, _, now, now + G + M, i + 1, _, _, _, _, _, _, _, _, by omega, rfl, rfl, by go_num, by go_num, HR5.out (now + G + M) (by omega) (by omega)⟩, by simp [intOf]; omega⟩
      · have q3 : decide ((m : Int) ≤ 256) = false := by simp; omega
        have q4 : ¬ (m : Int) ≤ 256 := by omega
        go_upto_region 21 with (at_builtin; refine wpList_app2 rfl (.tmp 71) (.tmp 72) 36 rfl 22 _ _ Try.underlying36 sl_info rfl w.heap.size T tn tc (trs.map RowE.v) rfl T2.out.to O2 n2 ok2 (ns.map RowE.v) rfl R2.out.1 (rv_one _) (by unfold maxLen; omega) (by omega) H2.out.be.size ?_; intro T3 c3 w3 o3 b3 t3; have TW3 := hide (T2.out.tell N2.out (fun i hi => H2.out.ln.lt i hi) o3 b3 t3); have H3 := hide (H2.out.off_ T2.out.ts (own_newAt T2.out.to) b3); clear o3 b3 t3 c2; have c4 := (H3.out.be.cell (p := ⟨b, o + i, none⟩) hbw).trans hcw)
        have HQ4 := hide (HQ.out.keep H3.out.be)
        have HR5 : Hid (∀ now', now + G ≤ now' → now' ≤ now + G + 999 → R5 w w3 g A2 k2 (rx.take 257) now G now' (i + 1) T3 (tn + n2) c3 (trs ++ ns) Wa wn wk wrs rs) := by
          intro now' hn1 hn2
          refine ⟨H3.out, TW3.out, ?_, Or.inr hn1, by omega, by omega, by omega, by omega⟩
          rw [List.map_append, E2.out, endT_none rx (by rw [Hm.out]; omega), HR.out.eq, List.append_nil]
        clear TW3 H3 T2 N2 R2 H2 HR HIr HIw
        go_cut [100] (fun s wc => ∃ t : Bool, s = .bool t ∧ w3 = wc ∧ (t = true → ∃ p : Int, i < ql ∧ qs[i]? = some p ∧ 0 < p))
        case first =>
          by_cases hip : i < ql
          · obtain ⟨b, o, rfl, hbl, hcell⟩ := HQ4.out.at_ hip
            have hip' : i < qs.length := by rw [Hq.out]; exact hip
            have c0 := hcell i _ (iv_get qs i hip')
            have g0 : qs[i]? = some qs[i] := List.getElem?_eq_getElem hip'
            have q1 : (i : Int) < (ql : Int) := by omega
            generalize qs[i] = p at *
            clear hcell
            by_cases hp : 0 < p
            · go_wp2_with fail
              go_meet
              exact ⟨true, rfl, rfl, fun _ => ⟨p, hip, g0, hp⟩⟩
            · go_wp2_with fail
              go_meet
              exact ⟨false, rfl, rfl, fun e => by cases e⟩
          · have q1 : ¬ (i : Int) < (ql : Int) := by omega
            go_wp2_with fail
            go_meet
            exact ⟨false, rfl, rfl, fun e => by cases e⟩
        case rest =>
          obtain ⟨t, rfl, rfl, ht⟩ := hcut
          cases t with
          | false =>
            go_wp2_with fail
            exact ⟨⟨_, _, _, now, now + G, i + 1, _, _, _, _, _, _, _, _, by omega, rfl, rfl, by go_num, by go_num, HR5.out (now + G) (by omega) (by omega)⟩, by simp [intOf]; omega⟩
          | true =>
            obtain ⟨p, hip, g0, hp⟩ := ht rfl
            obtain ⟨b, o, rfl, hbl, hcell⟩ := HQ4.out.at_ hip
            have c0 := hcell i (.int .i64 p) (by rw [iv, List.getElem?_map, g0]; rfl)
            have q1 : (i : Int) < (ql : Int) := by omega
            obtain ⟨M, hM, hM2⟩ : ∃ M : Nat, p % 1000 = (M : Int) ∧ M < 1000 := ⟨(p % 1000).toNat, by omega, by omega⟩
            clear hcell ht
            go_wp2_with fail
            exact ⟨⟨_, _, _, now, now + G + M, i + 1, _, _, _, _, _, _, _, _, by omega, rfl, rfl, by go_num, by go_num, HR5.out (now + G + M) (by omega) (by omega)⟩, by simp [intOf]; omega⟩
    · obtain rfl : i = n := by omega
      have q0 : ¬ (i : Int) < (i : Int) := by omega
      have HF := hide (waitS HR.out.ln (now : Int) (by omega) (by omega) (by omega) (by omega) (by omega) (by rcases HR.out.si with h | h; exact Or.inl h; exact Or.inr (by omega)))
      go_wp2_with fail
      refine HF.out.mono ?_
      rintro e w2 ⟨O2, n2, ok2, ns, A2, k2, rfl, hn2', r2, m2, L2, ⟨f2, f2'⟩, a2, no2, na2, b2⟩
      have hn21 : n2 ≤ 1 := by rw [← hn2']; exact end_len came
      have T2 := hide (HR.out.tw.feed b2 na2)
      have N2 := hide (HR.out.tw.told (A' := A2) HR.out.ln.ln b2 r2 f2' a2)
      have E2 : Hid ((trs ++ ns).map RowE.xs = wrs.map RowE.xs) := by show _ = _; rw [List.map_append, m2]; exact HR.out.eq
      have H2 := hide L2
      have R2 := hide r2
      clear HF hn2' r2 m2 L2 f2 f2' a2 no2 na2 b2 HR
      go_wp2_with (first
        | (at_builtin; refine wpList_app2 rfl (.tmp 114) (.tmp 115) 36 rfl 22 _ _ Try.underlying36 sl_info rfl w.heap.size T tn tc (trs.map RowE.v) rfl T2.out.to O2 n2 ok2 (ns.map RowE.v) rfl R2.out.1 (rv_one _) (by unfold maxLen; omega) (by omega) H2.out.be.size ?_; intro T3 c3 w3 o3 b3 t3; have TW3 := hide (T2.out.tell N2.out (fun i hi => H2.out.ln.lt i hi) o3 b3 t3); have H3 := hide (H2.out.off_ T2.out.ts (own_newAt T2.out.to) b3); clear o3 b3 t3)
        | (go_at_call 10; refine (awake5_any _).mono ?_; rintro e w6 ⟨rfl, b6⟩; have TW6 := hide (TW3.out.keep b6); have B6 := hide (below_on H3.out.be b6); clear b6)
        | (go_at_call 15; refine (rows_yes T3 Wa (tn + n2) wn c3 wk (trs ++ ns) wrs w6 ⟨own_rd TW6.out.to, fun r hr => (TW6.out.tr r hr).is⟩ ⟨own_rd TW6.out.wo, fun r hr => Rd.keep (HO.out.2 r (TW6.out.ww r hr)) B6.out⟩ (by omega) (by omega) E2.out).mono ?_; rintro e w7 ⟨rfl, b7⟩))
      go_ret
      exact ⟨rfl, below_on B6.out b7⟩

end Go.Proofs.Ytkbombdhdgdpnaa
