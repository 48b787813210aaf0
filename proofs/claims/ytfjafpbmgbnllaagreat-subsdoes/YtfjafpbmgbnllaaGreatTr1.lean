/-
  What is proved here: what the document's own has, Is, Name and Levels of layer 12 return. Condition: texts of at most 60000 bytes.
-/
import Derived.Test.YtfjafpbmgbnllaaGreatTpMath
import Derived.Test.YtfjafpbmgbnllaaGreatRef9b
import Derived.Lib.Strings
import Derived.Deep.LoopGhost
import Derived.Deep.DeepCutAuto
namespace Go.Proofs.YtfjafpbmgbnllaaGreat
set_option linter.unusedVariables false
set_option linter.unusedSimpArgs false
open Go.RowKit

theorem size_str (xs : List UInt8) : (str xs).size = xs.length := by rw [Lib.size_eq]; rfl
theorem str_cut (xs : List UInt8) (a b : Nat) : (str xs).extract a b = str ((xs.drop a).take (b - a)) := by
  rw [Lib.extract_eq]; rfl
theorem str_infoT : (Tryz.prog.info? 9).map (fun i => (i.zero, i.size, i.bytes)) = some (some (.string ⟨#[]⟩), 1, 16) := by kernel_rfl
/-- Texts as cells. -/
def sv (ls : List (List UInt8)) : List Value := ls.map fun l => .string (str l)
theorem sv_append (a b : List (List UInt8)) : sv (a ++ b) = sv a ++ sv b := by simp [sv]
theorem sv_length (a : List (List UInt8)) : (sv a).length = a.length := by simp [sv]

set_option maxRecDepth 100000 in
set_option maxHeartbeats 1000000 in
theorem rHas_any (xs : List UInt8) (c : UInt8) (hs : xs.length ≤ 100000) (w : World) :
    Calls Tryz.prog 30 #[.string (str xs), .int .u8 c.toNat] w fun e w' => e = .returned (.bool (xs.contains c)) ∧ w' = w := by
  obtain ⟨n, hn⟩ : ∃ n, xs.length = n := ⟨_, rfl⟩
  have hsz : (str xs).size = n := by rw [size_str, hn]
  obtain ⟨s, hs'⟩ : ∃ s, str xs = s := ⟨_, rfl⟩
  have HG := hide (show ∀ i (hi : i < xs.length) (h : i < s.size), s[i]'h = xs[i] by subst hs'; exact fun i hi h => str_get xs i hi h)
  rw [hs'] at hsz ⊢
  clear hs'
  rw [hn] at hs
  go_enter Tryz.func30, Tryz.ntmps30
  go_wp2
  go_loopg [5] n (fun g p wr => ∃ i : Nat, i + g = n ∧ p = .int .i64 (i : Int) ∧ wr = w ∧ (xs.take i).contains c = false)
  case atStart => exact ⟨0, by omega, rfl, rfl, rfl⟩
  case round =>
    obtain ⟨i, hig, rfl, rfl, hno⟩ := hrel
    have HN := hide hno
    clear hno
    cases gk with
    | zero =>
      obtain rfl : i = n := by omega
      have q : ¬ ((i : Int) < (i : Int)) := by omega
      go_wp2
      go_ret
      have := HN.out
      rw [List.take_of_length_le (by omega)] at this
      simp only [List.contains_eq_mem] at this
      exact ⟨by rw [this]; rfl, rfl⟩
    | succ g =>
      have q : (i : Int) < (n : Int) := by omega
      have hlt : i < xs.length := by omega
      have hg := HG.out i hlt
      have htk : xs.take (i + 1) = xs.take i ++ [xs[i]'hlt] := List.take_succ_eq_append_getElem hlt
      have hall : xs = xs.take i ++ xs[i]'hlt :: xs.drop (i + 1) := by simp
      obtain ⟨x, hx⟩ : ∃ x, xs[i]'hlt = x := ⟨_, rfl⟩
      rw [hx] at hg htk hall
      by_cases hxc : x = c
      · subst hxc
        have q2 : ((x.toNat : Int) == (x.toNat : Int)) = true := beq_iff_eq.2 rfl
        have HA := hide hall
        clear hall htk hx
        go_wp2
        go_ret
        exact ⟨by rw [HA.out]; simp, rfl⟩
      · have q2 : ((x.toNat : Int) == (c.toNat : Int)) = false := by
          rw [beq_eq_false_iff_ne]
          intro e
          exact hxc (UInt8.toNat_inj.1 (by omega))
        have HT := hide htk
        clear hall htk hx
        go_wp2
        go_roundg g
        case measure => omega
        case rel => exact ⟨i + 1, by omega, by go_num, rfl, by rw [HT.out]; simp only [List.contains_eq_mem, List.mem_append, List.mem_singleton] at *; have := HN.out; simp at this ⊢; exact ⟨this, fun e => hxc e.symm⟩⟩

theorem rIs_any (xs : List UInt8) (hs : xs.length ≤ 65535) (w : World) : Calls Tryz.prog 29 #[.string (str xs)] w fun e w' => e = .returned (.bool (ptsU xs).isSome) ∧ Below w.heap.size w w' := by
  have H : ∀ W, Calls Tryz.prog 45 #[.string (str xs)] W fun e w' => ∃ A n c, e = .returned (.tuple #[.slice A n c, .bool (ptsU xs).isSome]) ∧ Below W.heap.size W w' := by
    intro W
    refine (rPoints_any (str xs) xs.length rfl hs W).mono ?_
    rintro e w1 (⟨h1, rfl, b1⟩ | ⟨ps, A, c, h1, rfl, _, _, b1⟩)
    · have h2 : ptsU xs = none := h1
      exact ⟨none, 0, 0, by rw [h2]; rfl, b1⟩
    · have h2 : ptsU xs = some ps := h1
      exact ⟨A, _, c, by rw [h2]; rfl, b1⟩
  have HH := hide H
  clear H
  generalize (ptsU xs).isSome = B at *
  go_enter Tryz.func29, Tryz.ntmps29
  go_wp2_with (go_at_call 45; refine (HH.out _).mono ?_; rintro e w1 ⟨A, n, c, rfl, b1⟩)
  go_ret
  exact ⟨rfl, b1⟩

set_option maxRecDepth 100000 in
theorem rName_any (xs : List UInt8) (hs : xs.length ≤ 65535) (w : World) : Calls Tryz.prog 13 #[.string (str xs)] w fun e w' => e = .returned (.bool (nameL xs)) ∧ Below w.heap.size w w' := by
  have H1 := hide fun W => rIs_any xs hs W
  have H2 := hide fun W => rHas_any xs 43 (by omega) W
  have H3 := hide fun W => rHas_any xs 35 (by omega) W
  rw [show ((43 : UInt8).toNat : Int) = 43 from rfl] at H2
  rw [show ((35 : UInt8).toNat : Int) = 35 from rfl] at H3
  unfold nameL textL wildL
  cases xs with
  | nil =>
    go_enter Tryz.func13, Tryz.ntmps13
    go_wp2
    go_ret
    exact ⟨rfl, Below.refl _ _⟩
  | cons x xs =>
    have q : ((x :: xs) == ([] : List UInt8)) = false := rfl
    rw [List.isEmpty_cons]
    generalize (x :: xs).contains 43 = C1 at *
    generalize (x :: xs).contains 35 = C2 at *
    generalize (ptsU (x :: xs)).isSome = B at *
    cases B
    · go_enter Tryz.func13, Tryz.ntmps13
      go_wp2_with (go_at_call 29; refine (H1.out _).mono ?_; rintro e w' ⟨rfl, b1⟩)
      go_ret
      exact ⟨rfl, b1⟩
    · cases C1
      · go_enter Tryz.func13, Tryz.ntmps13
        go_wp2_with (go_at_call 29; refine (H1.out _).mono ?_; rintro e w1 ⟨rfl, b1⟩)
        refine (H2.out _).mono ?_
        rintro e w2 ⟨rfl, rfl⟩
        go_wp2_with fail
        refine (H3.out _).mono ?_
        rintro e w3 ⟨rfl, rfl⟩
        go_wp2_with fail
        go_ret
        exact ⟨by cases C2 <;> rfl, b1⟩
      · go_enter Tryz.func13, Tryz.ntmps13
        go_wp2_with (go_at_call 29; refine (H1.out _).mono ?_; rintro e w1 ⟨rfl, b1⟩)
        refine (H2.out _).mono ?_
        rintro e w2 ⟨rfl, rfl⟩
        go_wp2_with fail
        go_ret
        exact ⟨rfl, b1⟩

/-- Levels that were told, and where the next begins. -/
def LvS (xs : List UInt8) (ls : List (List UInt8)) (frm i : Nat) : Prop :=
  (i ≤ xs.length ∧ frm ≤ i ∧ lvls xs = ls ++ lvls (xs.drop frm) ∧ (47 : UInt8) ∉ (xs.drop frm).take (i - frm)) ∨ (i = xs.length + 1 ∧ frm ≤ i ∧ lvls xs = ls)
theorem LvS.zero (xs : List UInt8) : LvS xs [] 0 0 := .inl ⟨Nat.zero_le _, Nat.le_refl _, by simp, by simp⟩
theorem LvS.last {xs : List UInt8} {ls : List (List UInt8)} {frm : Nat} (h : LvS xs ls frm xs.length) : LvS xs (ls ++ [(xs.drop frm).take (xs.length - frm)]) (xs.length + 1) (xs.length + 1) := by
  rcases h with ⟨h1, h2, h3, h4⟩ | ⟨h1, _⟩
  · refine .inr ⟨rfl, Nat.le_refl _, ?_⟩
    rw [List.take_of_length_le (by simp)] at h4 ⊢
    rw [h3, lvls_none h4]
  · omega
theorem LvS.slash {xs : List UInt8} {ls : List (List UInt8)} {frm i : Nat} (h : LvS xs ls frm i) (hi : i < xs.length) (hc : xs[i] = 47) : LvS xs (ls ++ [(xs.drop frm).take (i - frm)]) (i + 1) (i + 1) := by
  rcases h with ⟨h1, h2, h3, h4⟩ | ⟨h1, _⟩
  · refine .inl ⟨by omega, Nat.le_refl _, ?_, by simp⟩
    have e : xs.drop frm = (xs.drop frm).take (i - frm) ++ 47 :: xs.drop (i + 1) := by
      have e1 : (xs.drop frm).drop (i - frm) = xs[i] :: xs.drop (i + 1) := by
        rw [List.drop_drop, show frm + (i - frm) = i by omega]
        exact List.drop_eq_getElem_cons hi
      rw [hc] at e1
      rw [← e1, List.take_append_drop]
    rw [h3]
    conv => lhs; rw [e, lvls_cut h4]
    simp
  · omega
theorem LvS.more {xs : List UInt8} {ls : List (List UInt8)} {frm i : Nat} (h : LvS xs ls frm i) (hi : i < xs.length) (hc : xs[i] ≠ 47) : LvS xs ls frm (i + 1) := by
  rcases h with ⟨h1, h2, h3, h4⟩ | ⟨h1, _⟩
  · refine .inl ⟨by omega, by omega, h3, ?_⟩
    have hl : i - frm < (xs.drop frm).length := by simp; omega
    rw [show i + 1 - frm = (i - frm) + 1 by omega, List.take_succ_eq_append_getElem hl]
    have e : (xs.drop frm)[i - frm] = xs[i] := by
      rw [List.getElem_drop]
      congr 1
      omega
    rw [e]
    intro hm
    rcases List.mem_append.1 hm with hm | hm
    · exact h4 hm
    · exact hc (List.mem_singleton.1 hm).symm
  · omega
theorem LvS.done {xs : List UInt8} {ls : List (List UInt8)} {frm : Nat} (h : LvS xs ls frm (xs.length + 1)) : lvls xs = ls := by
  rcases h with ⟨h1, _⟩ | ⟨_, _, h⟩
  · omega
  · exact h
theorem LvS.frm {xs : List UInt8} {ls : List (List UInt8)} {frm i : Nat} (h : LvS xs ls frm i) : frm ≤ i := by
  rcases h with h | h
  · exact h.2.1
  · exact h.2.1

/-- A row of texts as a result. -/
def RetLv (ls : List (List UInt8)) (w : World) (e : Ending) (w' : World) : Prop := ∃ C k, e = .returned (.slice C ls.length k) ∧ ls.length ≤ k ∧ Rd w' C ls.length (sv ls) ∧ Below w.heap.size w w'

set_option maxRecDepth 100000 in
set_option maxHeartbeats 2000000 in
theorem rLevels_any (xs : List UInt8) (hs : xs.length ≤ 100000) (w : World) : Calls Tryz.prog 39 #[.string (str xs)] w (RetLv (lvls xs) w) := by
  obtain ⟨n, hn⟩ : ∃ n, xs.length = n := ⟨_, rfl⟩
  have hsz : (str xs).size = n := by rw [size_str, hn]
  have HX := hide fun a b => str_cut xs a b
  obtain ⟨s, hs'⟩ : ∃ s, str xs = s := ⟨_, rfl⟩
  have HG := hide (show ∀ i (hi : i < xs.length) (h : i < s.size), s[i]'h = xs[i] by subst hs'; exact fun i hi h => str_get xs i hi h)
  rw [hs'] at hsz HX ⊢
  clear hs'
  have hnil : w.ownsRow w.heap.size 9 1 (.slice none 0 0) 0 [] := World.ownsRow_nil _ _ _ _
  rw [hn] at hs
  have HN := hide hn
  clear hn
  go_enter Tryz.func39, Tryz.ntmps39
  go_wp2_with fail
  go_loopg [3, 4, 5] (n + 1) (fun g o f p wr => ∃ (i frm : Nat) (ls : List (List UInt8)) (k : Nat) (C : Option Addr) (d : Nat), i + g = n + 1 ∧ p = .int .i64 (i : Int) ∧ f = .int .i64 (frm : Int) ∧ o = .slice C k d ∧ ls.length = k ∧ k ≤ i ∧ LvS xs ls frm i ∧
    wr.ownsRow w.heap.size 9 1 (.slice C k d) k (sv ls) ∧ Below w.heap.size w wr)
  case atStart => exact ⟨0, 0, [], 0, none, 0, by omega, rfl, rfl, rfl, rfl, Nat.le_refl _, LvS.zero xs, hnil, Below.refl _ _⟩
  case round =>
    obtain ⟨i, frm, ls, k, C, d, hig, rfl, rfl, rfl, hk, hki, hL, hown, hB⟩ := hrel
    have hfi := hL.frm
    have HL := hide hL
    have HB := hide hB
    have Hk := hide hk
    have Hown := hide hown
    clear hL hB hk hown hnil
    cases gk with
    | zero =>
      obtain rfl : i = n + 1 := by omega
      have q : ¬ (((n + 1 : Nat) : Int) ≤ (n : Int)) := by omega
      go_wp2_with fail
      go_ret
      have h := HL.out
      rw [← HN.out] at h
      have h2 := h.done
      rw [h2]
      exact ⟨C, d, by rw [Hk.out]; rfl, by rw [Hk.out]; exact own_cap Hown.out, by rw [Hk.out]; exact own_rd Hown.out, HB.out⟩
    | succ g =>
      have q : (i : Int) ≤ (n : Int) := by omega
      by_cases hin : i = n
      · subst hin
        have q1 : ((i : Int) == (i : Int)) = true := beq_iff_eq.2 rfl
        have hLn : LvS xs (ls ++ [(xs.drop frm).take (i - frm)]) (i + 1) (i + 1) := by
          have h := HL.out
          rw [← HN.out] at h ⊢
          exact h.last
        have hcut := HX.out frm i
        obtain ⟨sg, hsg⟩ : ∃ sg, (xs.drop frm).take (i - frm) = sg := ⟨_, rfl⟩
        rw [hsg] at hcut hLn
        have HLn := hide hLn
        have q3 : (frm : Int) ≤ (i : Int) := by omega
        clear hsg hLn
        go_wp2_with (at_builtin; refine wpList_app rfl (.tmp 22) (.tmp 27) 74 rfl 9 _ _ Tryz.underlying74 str_infoT rfl w.heap.size C k d (sv ls) rfl (Hown.out.alloc _) (some ⟨wr.heap.size, 0, none⟩) 1 1 [.string (str sg)] rfl (rd_one _ _ _) (by simp [Value.oneCell']) (by unfold maxLen; omega) (by omega) (by simp; exact Nat.le_trans HB.out.size (Nat.le_succ _)) ?_; intro A1 c1 w2 o1 g1 b2)
        have hb2 : Below w.heap.size w w2 := HB.out.trans (((Below.refl _ _).alloc HB.out.size _).trans b2)
        go_roundg g
        case measure => omega
        case rel => exact ⟨i + 1, i + 1, ls ++ [sg], k + 1, A1, c1, by omega, by go_num, by go_num, rfl, by simp [Hk.out], by omega, HLn.out, by rw [sv_append]; exact o1, hb2⟩
      · have hlt : i < xs.length := by rw [HN.out]; omega
        have q1 : ((i : Int) == (n : Int)) = false := beq_eq_false_iff_ne.2 (by omega)
        have hg := HG.out i hlt
        obtain ⟨x, hx⟩ : ∃ x, xs[i]'hlt = x := ⟨_, rfl⟩
        rw [hx] at hg
        by_cases h47 : x = 47
        · subst h47
          have hLn := HL.out.slash hlt hx
          clear hx
          have hcut := HX.out frm i
          obtain ⟨sg, hsg⟩ : ∃ sg, (xs.drop frm).take (i - frm) = sg := ⟨_, rfl⟩
          rw [hsg] at hcut hLn
          have HLn := hide hLn
          have q3 : (frm : Int) ≤ (i : Int) := by omega
          clear hsg hLn
          go_wp2_with (at_builtin; refine wpList_app rfl (.tmp 22) (.tmp 27) 74 rfl 9 _ _ Tryz.underlying74 str_infoT rfl w.heap.size C k d (sv ls) rfl (Hown.out.alloc _) (some ⟨wr.heap.size, 0, none⟩) 1 1 [.string (str sg)] rfl (rd_one _ _ _) (by simp [Value.oneCell']) (by unfold maxLen; omega) (by omega) (by simp; exact Nat.le_trans HB.out.size (Nat.le_succ _)) ?_; intro A1 c1 w2 o1 g1 b2)
          have hb2 : Below w.heap.size w w2 := HB.out.trans (((Below.refl _ _).alloc HB.out.size _).trans b2)
          go_roundg g
          case measure => omega
          case rel => exact ⟨i + 1, i + 1, ls ++ [sg], k + 1, A1, c1, by omega, by go_num, by go_num, rfl, by simp [Hk.out], by omega, HLn.out, by rw [sv_append]; exact o1, hb2⟩
        · have hLn := HL.out.more hlt (by rw [hx]; exact h47)
          have q2 : ((x.toNat : Int) == 47) = false := by
            rw [beq_eq_false_iff_ne]
            intro e
            exact h47 (UInt8.toNat_inj.1 (by show x.toNat = 47; omega))
          have HLn := hide hLn
          clear hLn hx h47
          go_wp2_with fail
          go_roundg g
          case measure => omega
          case rel => exact ⟨i + 1, frm, ls, k, C, d, by omega, by go_num, rfl, rfl, Hk.out, by omega, HLn.out, Hown.out, HB.out⟩

end Go.Proofs.YtfjafpbmgbnllaaGreat
