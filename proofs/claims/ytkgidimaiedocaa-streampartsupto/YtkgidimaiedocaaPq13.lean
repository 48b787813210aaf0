/-
  What is proved here: the program's 'connectSize', 'publishSize', 'filtersSize', 'remain' of package packet. Conditions: strings of at most 2^20 bytes; at most 2^20 codes, filters. ALSO: the program's 'remain' and Check of package packet. Conditions: strings of at most 2^20 bytes; at most 2^20 codes, filters.
-/
import Derived.Test.YtkgidimaiedocaaPq11
import Derived.Test.YtkgidimaiedocaaPq8
import Derived.Deep.RegionHeld3
namespace Go.Proofs.Ytkgidimaiedocaa
set_option linter.unusedVariables false
set_option linter.unusedSimpArgs false
open Go.RowKit

def sizeT (l : List (List UInt8)) : Nat := (l.map fun s => 2 + s.length).sum
def filtS (l : List (List UInt8 × Int)) : Nat := (l.map fun s => 2 + s.1.length).sum
def remainP (p : Pk) : Nat :=
  if p.ty = 1 then 10 + sizeT (textsP p) else if p.ty = 2 then 2 else if p.ty = 3 then 2 + p.topic.length + p.payload.length + (if 0 < p.qos then 2 else 0)
  else if p.ty = 8 then 2 + filtS p.subs + p.subs.length else if p.ty = 9 then 2 + p.codes.length else if p.ty = 10 then 2 + filtS p.subs
  else if p.ty = 12 ∨ p.ty = 13 ∨ p.ty = 14 then 0 else 2
theorem filtS_le : ∀ (l : List (List UInt8 × Int)), (∀ s ∈ l, s.1.length ≤ 1048576) → filtS l ≤ l.length * 1048578
  | [], _ => by simp [filtS]
  | s :: l, h => by
    have h1 := h s (by simp)
    have h2 := filtS_le l (fun t ht => h t (by simp [ht]))
    simp only [filtS, List.map_cons, List.sum_cons, List.length_cons] at *
    omega
theorem filtS_snoc (l : List (List UInt8 × Int)) (s : List UInt8 × Int) : filtS (l ++ [s]) = filtS l + (2 + s.1.length) := by simp [filtS]
theorem sizeT_snoc (l : List (List UInt8)) (s : List UInt8) : sizeT (l ++ [s]) = sizeT l + (2 + s.length) := by simp [sizeT]

set_option maxRecDepth 100000 in
set_option maxHeartbeats 2000000 in
theorem filtersSize_any (S : Option Addr) (ns ks : Nat) (l : List (List UInt8 × Int)) (w : World) (hR : Rd w S (ns * 2) (subVs l)) (hl : l.length = ns) (h65 : ns ≤ 1048576) (hs : ∀ s ∈ l, s.1.length ≤ 1048576) : Calls Try.prog 52 #[.slice S ns ks] w fun e w' => e = .returned (.int .i64 (filtS l : Int)) ∧ Below w.heap.size w w' := by
  have HR := hide hR
  have HC := hide hl
  have Hs := hide hs
  clear hR hl hs
  go_enter Try.func52, Try.ntmps52
  go_wp2_with fail
  go_loopw [3, 8] (fun t i wr => ∃ k : Nat, i = .int .i64 (k : Int) ∧ k ≤ ns ∧ t = .int .i64 (filtS (l.take k) : Int) ∧ Below w.heap.size w wr) (fun _ i _ => ns - (intOf i).toNat)
  case atStart => exact ⟨0, rfl, by omega, rfl, Below.refl _ _⟩
  case round =>
    obtain ⟨k, rfl, hkn, rfl, hbr⟩ := hrel
    by_cases hlt : k < ns
    · have q1 : (k : Int) < (ns : Int) := by omega
      have hlt' : k < l.length := by rw [HC.out]; exact hlt
      obtain ⟨b, o, rfl, hbl, hcell⟩ := HR.out.at_ (k := k * 2) (by omega)
      obtain ⟨g0, g1⟩ := subVs_get l k hlt'
      have cA : wr.cell? ⟨b, o + k * 2, none⟩ = some (.string (str l[k].1)) := (hbr.cell (p := ⟨b, o + k * 2, none⟩) hbl).trans (hcell _ _ g0)
      have cB : wr.cell? ⟨b, o + k * 2 + 1, none⟩ = some (.int .i64 l[k].2) := (hbr.cell (p := ⟨b, o + k * 2 + 1, none⟩) hbl).trans (hcell _ _ g1)
      have htk : l.take (k + 1) = l.take k ++ [l[k]] := (List.take_append_getElem hlt').symm
      have hlen := Hs.out l[k] (List.getElem_mem hlt')
      have hle := filtS_le (l.take k) (fun s hs => Hs.out s (List.mem_of_mem_take hs))
      have hlk : (l.take k).length = k := by rw [List.length_take]; omega
      rw [hlk] at hle
      generalize l[k] = s at *
      obtain ⟨f, c⟩ := s
      simp only at cA cB hlen
      obtain ⟨m, hm⟩ : ∃ m, f.length = m := ⟨_, rfl⟩
      have hsz : (str f).size = m := by rw [str_size, hm]
      rw [hm] at hlen
      have Hn := hide (show filtS (l.take (k + 1)) = filtS (l.take k) + (2 + m) by rw [htk, filtS_snoc]; simp only; rw [hm])
      generalize filtS (l.take k) = t at *
      have hle2 : t ≤ 2000000000000 := by omega
      have Hbr := hide hbr
      clear hcell hlt' hbl htk g0 g1 hm hlk hle hbr
      go_wp2_with fail
      exact ⟨⟨k + 1, by go_num, by omega, by rw [Hn.out]; go_num, Hbr.out.alloc Hbr.out.size _⟩, by simp [intOf]; omega⟩
    · obtain rfl : k = ns := by omega
      have q1 : ¬ (k : Int) < (k : Int) := by omega
      have hfull : l.take k = l := List.take_of_length_le (by rw [HC.out]; exact Nat.le_refl _)
      rw [hfull]
      go_wp2_with fail
      go_ret
      exact ⟨rfl, hbr⟩

theorem sizeT_le : ∀ (l : List (List UInt8)), (∀ s ∈ l, s.length ≤ 1048576) → sizeT l ≤ l.length * 1048578
  | [], _ => by simp [sizeT]
  | s :: l, h => by
    have h1 := h s (by simp)
    have h2 := sizeT_le l (fun t ht => h t (by simp [ht]))
    simp only [sizeT, List.map_cons, List.sum_cons, List.length_cons] at *
    omega
theorem textsP_short (p : Pk) (h : PkU p) : ∀ s ∈ textsP p, s.length ≤ 1048576 := by
  obtain ⟨h1, h2, h3, h4, h5, -⟩ := h
  intro s hs
  unfold textsP at hs
  simp only [List.mem_append, List.mem_cons, List.not_mem_nil, or_false] at hs
  rcases hs with ((hs | hs) | hs) | hs
  · rw [hs]; exact h3
  · split at hs
    · simp at hs
      rcases hs with rfl | rfl
      · exact h1
      · exact h2
    · simp at hs
  · split at hs
    · simp at hs
      rw [hs]; exact h4
    · simp at hs
  · split at hs
    · simp at hs
      rw [hs]; exact h5
    · simp at hs

set_option maxRecDepth 100000 in
set_option maxHeartbeats 2000000 in
theorem connectSize_any (p : Pk) (C : Option Addr) (nc kc : Nat) (S : Option Addr) (ns ks : Nat) (w : World) (h : PkU p) : Calls Try.prog 50 #[pkA p C nc kc S ns ks] w fun e w' => e = .returned (.int .i64 ((10 + sizeT (textsP p) : Nat) : Int)) ∧ Below w.heap.size w w' := by
  have PT := texts_any p C nc kc S ns ks
  have Hs := hide (textsP_short p h)
  have h5 := textsP_len p
  generalize textsP p = T at *
  clear h
  obtain ⟨q, hq⟩ : ∃ q, p = q := ⟨_, rfl⟩
  rw [hq] at PT
  have Hq := hide hq
  obtain ⟨ty, dup, id, topic, payload, qos, retain, client, clean, alive, hasWill, hasUser, hasPass, user, pass, present, codes, subs⟩ := p
  clear hq
  simp only [pkA]
  obtain ⟨N, hN⟩ : ∃ N, T.length = N := ⟨_, rfl⟩
  have HN := hide hN
  rw [hN] at h5
  go_enter Try.func50, Try.ntmps50
  go_upto_region 2 with fail
  generalize hW : w.alloc _ = W
  obtain ⟨g, hg, hB, bW, -⟩ := boxedP (p := ⟨ty, dup, id, topic, payload, qos, retain, client, clean, alive, hasWill, hasUser, hasPass, user, pass, present, codes, subs⟩) hW
  rw [hg]
  have Hg := hide hg
  have HB := hide (show Blk W g 35 (pkVs q C nc kc S ns ks) from by rw [← Hq.out]; exact hB)
  have BW := hide bW
  clear hW hg hB bW hN
  refine wp_region_lit ?_
  refine wpList_loadP rfl 35 (.tmp 1) rfl g 35 q C nc kc S ns ks rfl HB.out Try.underlying35 rfl (by kernel_rfl) ?_
  have P := PT W
  unfold RetTx at P
  rw [HN.out] at P
  clear PT
  go_wp2_with fail
  refine P.mono ?_
  rintro e w1 ⟨A, k, rfl, -, hR, b1⟩
  have HR := hide hR
  have B1 := hide (BW.out.trans (b1.mono (Nat.le_of_lt HB.out.lt)))
  clear P hR b1
  go_wp2_with fail
  go_loopw [3, 9] (fun t i wr => ∃ k : Nat, i = .int .i64 (k : Int) ∧ k ≤ N ∧ t = .int .i64 ((10 + sizeT (T.take k) : Nat) : Int) ∧ wr = w1) (fun _ i _ => N - (intOf i).toNat)
  case atStart => exact ⟨0, rfl, by omega, rfl, rfl⟩
  case round =>
    obtain ⟨k, rfl, hkn, rfl, rfl⟩ := hrel
    by_cases hlt : k < N
    · have q1 : (k : Int) < (N : Int) := by omega
      have hlt' : k < T.length := by rw [HN.out]; exact hlt
      obtain ⟨b, o, rfl, hbl, hcell⟩ := HR.out.at_ (k := k) (by omega)
      have cA : wr.cell? ⟨b, o + k, none⟩ = some (.string (str T[k])) := hcell k _ (tv_get T k hlt')
      have htk : T.take (k + 1) = T.take k ++ [T[k]] := (List.take_append_getElem hlt').symm
      have hlen := Hs.out T[k] (List.getElem_mem hlt')
      have hle := sizeT_le (T.take k) (fun s hs => Hs.out s (List.mem_of_mem_take hs))
      have hlk : (T.take k).length = k := by rw [List.length_take]; omega
      rw [hlk] at hle
      generalize T[k] = f at *
      obtain ⟨m, hm⟩ : ∃ m, f.length = m := ⟨_, rfl⟩
      have hsz : (str f).size = m := by rw [str_size, hm]
      rw [hm] at hlen
      have Hn := hide (show sizeT (T.take (k + 1)) = sizeT (T.take k) + (2 + m) by rw [htk, sizeT_snoc, hm])
      generalize sizeT (T.take k) = t at *
      have hle2 : t ≤ 6000000 := by omega
      obtain ⟨t2, ht2⟩ : ∃ t2, 10 + t = t2 := ⟨_, rfl⟩
      rw [ht2]
      have Ht2 := hide ht2
      have hle3 : t2 ≤ 6000010 := by omega
      clear hcell hlt' hbl htk hm hlk hle hle2 ht2
      go_wp2_with fail
      exact ⟨⟨k + 1, by go_num, by omega, by rw [Hn.out, ← Nat.add_assoc, Ht2.out]; go_num, by first | rfl | trivial⟩, by simp [intOf]; omega⟩
    · obtain rfl : k = N := by omega
      have q1 : ¬ (k : Int) < (k : Int) := by omega
      have hfull : T.take k = T := List.take_of_length_le (by rw [HN.out]; exact Nat.le_refl _)
      rw [hfull]
      go_wp2_with fail
      go_ret
      exact ⟨rfl, by rw [Hg.out]; exact B1.out⟩

set_option maxRecDepth 100000 in
set_option maxHeartbeats 2000000 in
theorem publishSize_any (p : Pk) (C : Option Addr) (nc kc : Nat) (S : Option Addr) (ns ks : Nat) (w : World) (h : PkU p) : Calls Try.prog 51 #[pkA p C nc kc S ns ks] w fun e w' => e = .returned (.int .i64 ((2 + p.topic.length + p.payload.length + (if 0 < p.qos then 2 else 0) : Nat) : Int)) ∧ Below w.heap.size w w' := by
  obtain ⟨h1, h2, -⟩ := h
  obtain ⟨ty, dup, id, topic, payload, qos, retain, client, clean, alive, hasWill, hasUser, hasPass, user, pass, present, codes, subs⟩ := p
  simp only [pkA] at h1 h2 ⊢
  obtain ⟨a, ha⟩ : ∃ a, topic.length = a := ⟨_, rfl⟩
  obtain ⟨b, hb⟩ : ∃ b, payload.length = b := ⟨_, rfl⟩
  have sa : (str topic).size = a := by rw [str_size, ha]
  have sb : (str payload).size = b := by rw [str_size, hb]
  rw [ha] at h1
  rw [hb] at h2
  rw [ha, hb]
  clear ha hb
  by_cases h0 : 0 < qos
  · rw [if_pos h0]
    go_enter Try.func51, Try.ntmps51
    go_wp2_with fail
    go_ret
    exact ⟨by first | rfl | (congr 2; omega) | (congr 2; push_cast; omega), (Below.refl _ _).alloc (Nat.le_refl _) _⟩
  · rw [if_neg h0]
    go_enter Try.func51, Try.ntmps51
    go_wp2_with fail
    go_ret
    exact ⟨by first | rfl | (congr 2; omega) | (congr 2; push_cast; omega), (Below.refl _ _).alloc (Nat.le_refl _) _⟩

end Go.Proofs.Ytkgidimaiedocaa

namespace Go.Proofs.Ytkgidimaiedocaa
set_option linter.unusedVariables false
set_option linter.unusedSimpArgs false
open Go.RowKit

theorem flat8 (l : List (List UInt8 × Int)) : (l.flatMap (subL 8)).length = filtS l + l.length := by
  induction l with
  | nil => rfl
  | cons s l ih =>
    rw [List.flatMap_cons, List.length_append, ih]
    simp [filtS, subL, textL_len]
    omega
theorem flat10 (l : List (List UInt8 × Int)) : (l.flatMap (subL 10)).length = filtS l := by
  induction l with
  | nil => rfl
  | cons s l ih =>
    rw [List.flatMap_cons, List.length_append, ih]
    simp [filtS, subL, textL_len]
theorem remain_fit (p : Pk) (h : fitB p = true) : (bodyP p).length = remainP p := by
  simp only [fitB, Bool.and_eq_true, decide_eq_true_eq] at h
  obtain ⟨⟨h1, hu⟩, ho⟩ := h
  obtain ⟨ty, dup, id, topic, payload, qos, retain, client, clean, alive, hasWill, hasUser, hasPass, user, pass, present, codes, subs⟩ := p
  unfold remainP bodyP
  simp only at h1 ⊢
  by_cases c1 : ty = 1
  · rw [if_pos c1, if_pos c1]
    unfold conBody textsP sizeT
    cases hasWill <;> cases hasUser <;> cases hasPass <;> simp [textL_len, mqtt, wordI, word] <;> omega
  rw [if_neg c1, if_neg c1]
  by_cases c2 : ty = 2
  · rw [if_pos c2, if_pos c2]
    rfl
  rw [if_neg c2, if_neg c2]
  by_cases c3 : ty = 3
  · rw [if_pos c3, if_pos c3]
    by_cases h0 : 0 < qos
    · rw [if_pos h0, if_pos h0]
      simp [textL_len, wordI, word]
      omega
    · rw [if_neg h0, if_neg h0]
      simp [textL_len]
  rw [if_neg c3, if_neg c3]
  by_cases c4 : ty = 4 ∨ ty = 5 ∨ ty = 6 ∨ ty = 7 ∨ ty = 11
  · rw [if_pos c4, if_neg (by omega), if_neg (by omega), if_neg (by omega), if_neg (by omega)]
    rfl
  rw [if_neg c4]
  unfold usedP at hu
  simp only at hu
  rw [if_neg c1, if_neg c2, if_neg c3, if_neg c4] at hu
  by_cases c8 : ty = 8
  · rw [if_pos (.inl c8)] at hu
    simp only [zeroP, Pk.mk.injEq, true_and] at hu
    rw [if_pos c8, if_pos (.inl c8), List.length_append, List.length_append, List.length_map, c8, flat8]
    rw [hu.2.2.2.2.2.2.2.2.2.2.2.2.2.2.1]
    show 2 + (filtS subs + subs.length) + 0 = _
    omega
  rw [if_neg c8]
  by_cases c9 : ty = 9
  · rw [if_neg (by omega), if_pos c9] at hu
    simp only [zeroP, Pk.mk.injEq, true_and] at hu
    rw [if_pos c9, if_pos (.inr (.inl c9)), List.length_append, List.length_append, List.length_map]
    have hs : subs = [] := by simpa using hu.2.2.2.2.2.2.2.2.2.2.2.2.2.2
    rw [hs]
    rfl
  rw [if_neg c9]
  by_cases c10 : ty = 10
  · rw [if_pos (.inr c10)] at hu
    simp only [zeroP, Pk.mk.injEq, true_and] at hu
    rw [if_pos c10, if_pos (.inr (.inr c10)), List.length_append, List.length_append, List.length_map, c10, flat10]
    rw [hu.2.2.2.2.2.2.2.2.2.2.2.2.2.2.1]
    show 2 + filtS subs + 0 = _
    omega
  rw [if_neg c10, if_neg (by omega), if_pos (by omega)]
  rfl

set_option maxRecDepth 100000 in
set_option maxHeartbeats 4000000 in
theorem remain_any (p : Pk) (C : Option Addr) (nc kc : Nat) (S : Option Addr) (ns ks : Nat) (w : World) (hM : PkM w p C nc kc S ns ks) (hs : PkU p) : Calls Try.prog 27 #[pkA p C nc kc S ns ks] w fun e w' => e = .returned (.int .i64 (remainP p : Int)) ∧ Below w.heap.size w w' := by
  obtain ⟨m1, -, -, m4, -, m6⟩ := hM
  have hfl : filtS p.subs ≤ 2000000000000 := by
    have := filtS_le p.subs hs.2.2.2.2.2.2.2
    have := hs.2.2.2.2.2.2.1
    omega
  have hS := hs
  obtain ⟨-, -, -, -, -, s6, s7, s8⟩ := hs
  have PC := connectSize_any p C nc kc S ns ks
  have PP := publishSize_any p C nc kc S ns ks
  have PF := fun W (b : Below w.heap.size w W) => filtersSize_any S ns ks p.subs W (m6.keep b) m4 (by omega) s8
  rw [m1] at s6
  rw [m4] at s7
  obtain ⟨q, hq⟩ : ∃ q, p = q := ⟨_, rfl⟩
  have HE : remainP p = remainP q := by rw [hq]
  rw [HE]
  rw [hq] at PC PP PF hfl hS
  obtain ⟨ty, dup, id, topic, payload, qos, retain, client, clean, alive, hasWill, hasUser, hasPass, user, pass, present, codes, subs⟩ := p
  have hty : q.ty = ty := by rw [← hq]
  have hcl : q.codes.length = nc := by rw [← hq]; exact m1
  have hsl : q.subs.length = ns := by rw [← hq]; exact m4
  have Hq := hide hq
  clear HE hq m1 m4 m6 s8
  by_cases c1 : ty = 1
  · have hf : remainP q = 10 + sizeT (textsP q) := by unfold remainP; rw [hty, if_pos c1]
    subst c1
    clear hty
    rw [hf]
    simp only [pkA]
    go_enter Try.func27, Try.ntmps27
    go_upto_region 3 with fail
    generalize hW : w.alloc _ = W
    obtain ⟨g, hg, hB, bW, -⟩ := boxedP (p := ⟨1, dup, id, topic, payload, qos, retain, client, clean, alive, hasWill, hasUser, hasPass, user, pass, present, codes, subs⟩) hW
    rw [hg]
    have Hg := hide hg
    have HB := hide (show Blk W g 35 (pkVs q C nc kc S ns ks) from by rw [← Hq.out]; exact hB)
    have BW := hide bW
    have c17 := (Blk.p18 HB.out).2.2.2.2.2.2.2.2.2.2.2.2.2.2.2.2.2
    clear hW hg hB bW hf
    refine wp_region_lit ?_
    refine wpList_loadP rfl 35 (.tmp 1) rfl g 35 q C nc kc S ns ks rfl HB.out Try.underlying35 rfl (by kernel_rfl) ?_
    have P := PC W hS
    clear PC PP PF
    go_wp2_with fail
    refine P.mono ?_
    rintro e w1 ⟨rfl, b1⟩
    go_wp2_with fail
    go_ret
    exact ⟨rfl, by rw [Hg.out]; exact BW.out.trans (b1.mono (Nat.le_of_lt HB.out.lt))⟩
  by_cases c2 : ty = 2
  · have hf : remainP q = 2 := by unfold remainP; rw [hty, if_neg c1, if_pos c2]
    subst c2
    clear hty c1
    rw [hf]
    simp only [pkA]
    clear PC PP PF
    go_enter Try.func27, Try.ntmps27
    go_wp2_with fail
    go_ret
    exact ⟨by first | rfl | (congr 2; omega), (Below.refl _ _).alloc (Nat.le_refl _) _⟩
  by_cases c3 : ty = 3
  · have hf : remainP q = 2 + q.topic.length + q.payload.length + (if 0 < q.qos then 2 else 0) := by unfold remainP; rw [hty, if_neg c1, if_neg c2, if_pos c3]
    subst c3
    clear hty c1 c2
    obtain ⟨N, hN⟩ : ∃ N, 2 + q.topic.length + q.payload.length + (if 0 < q.qos then 2 else 0) = N := ⟨_, rfl⟩
    rw [hN] at hf PP
    clear hN
    rw [hf]
    simp only [pkA]
    go_enter Try.func27, Try.ntmps27
    go_upto_region 7 with fail
    generalize hW : w.alloc _ = W
    obtain ⟨g, hg, hB, bW, -⟩ := boxedP (p := ⟨3, dup, id, topic, payload, qos, retain, client, clean, alive, hasWill, hasUser, hasPass, user, pass, present, codes, subs⟩) hW
    rw [hg]
    have Hg := hide hg
    have HB := hide (show Blk W g 35 (pkVs q C nc kc S ns ks) from by rw [← Hq.out]; exact hB)
    have BW := hide bW
    have c17 := (Blk.p18 HB.out).2.2.2.2.2.2.2.2.2.2.2.2.2.2.2.2.2
    clear hW hg hB bW hf
    refine wp_region_lit ?_
    refine wpList_loadP rfl 35 (.tmp 1) rfl g 35 q C nc kc S ns ks rfl HB.out Try.underlying35 rfl (by kernel_rfl) ?_
    have P := PP W hS
    clear PC PP PF
    go_wp2_with fail
    refine P.mono ?_
    rintro e w1 ⟨rfl, b1⟩
    go_wp2_with fail
    go_ret
    exact ⟨rfl, by rw [Hg.out]; exact BW.out.trans (b1.mono (Nat.le_of_lt HB.out.lt))⟩
  by_cases c8 : ty = 8
  · have hf : remainP q = 2 + filtS q.subs + q.subs.length := by unfold remainP; rw [hty, if_neg c1, if_neg c2, if_neg c3, if_pos c8]
    rw [hsl] at hf
    subst c8
    clear hty c1 c2 c3
    generalize filtS q.subs = fs at *
    have w1 : IntKind.i64.wrap (2 + (fs : Int)) = 2 + (fs : Int) := by rw [IntKind.wrap_i64]; omega
    have w2 : IntKind.i64.wrap (2 + (fs : Int) + (ns : Int)) = 2 + (fs : Int) + (ns : Int) := by rw [IntKind.wrap_i64]; omega
    rw [hf]
    simp only [pkA]
    go_enter Try.func27, Try.ntmps27
    go_upto_region 9 with fail
    generalize hW : w.alloc _ = W
    obtain ⟨g, hg, hB, bW, -⟩ := boxedP (p := ⟨8, dup, id, topic, payload, qos, retain, client, clean, alive, hasWill, hasUser, hasPass, user, pass, present, codes, subs⟩) hW
    rw [hg]
    have Hg := hide hg
    have HB := hide (show Blk W g 35 (pkVs q C nc kc S ns ks) from by rw [← Hq.out]; exact hB)
    have BW := hide bW
    have c17 := (Blk.p18 HB.out).2.2.2.2.2.2.2.2.2.2.2.2.2.2.2.2.2
    clear hW hg hB bW hf
    refine wp_region_held_drew (S := fun V => V.cell? ⟨g, 17, none⟩ = some (.slice S ns ks)) (by kernel_rfl) ?_ (fun hHeld => ?_)
    · exact c17
    refine wpAnyH_take (i := 0) (oi := { dst := some 17, op := _, type := _, pos := _, after := _, guard := _ }) (v := ?v1x1) rfl (by kernel_rfl) (by kernel_rfl) (by kernel_rfl) (fun _ _ _ h => h) (Or.inl ⟨by rfl, ?hy1x1⟩) hHeld ?rest1x1
    case hy1x1 => (intro w hSw; go_simp <;> with_reducible rfl)
    try simp only [Act.put, List.setIfInBounds_toArray, List.set_cons_zero, List.set_cons_succ]
    refine wpAnyH_take (i := 1) (oi := { dst := some 18, op := _, type := _, pos := _, after := _, guard := _ }) (v := ?v1x2) rfl (by kernel_rfl) (by kernel_rfl) (by kernel_rfl) (fun _ _ _ h => h) (Or.inl ⟨by rfl, ?hy1x2⟩) hHeld ?rest1x2
    case hy1x2 => (intro w hSw; go_simp <;> with_reducible rfl)
    try simp only [Act.put, List.setIfInBounds_toArray, List.set_cons_zero, List.set_cons_succ]
    refine wpAnyH_take (i := 4) (oi := { dst := some 21, op := _, type := _, pos := _, after := _, guard := _ }) (v := ?v1x3) rfl (by kernel_rfl) (by kernel_rfl) (by kernel_rfl) (fun _ _ _ h => h) (Or.inl ⟨by rfl, ?hy1x3⟩) hHeld ?rest1x3
    case hy1x3 => (intro w hSw; go_simp <;> with_reducible rfl)
    try simp only [Act.put, List.setIfInBounds_toArray, List.set_cons_zero, List.set_cons_succ]
    refine wpAnyH_take (i := 5) (oi := { dst := some 22, op := _, type := _, pos := _, after := _, guard := _ }) (v := ?v1x4) rfl (by kernel_rfl) (by kernel_rfl) (by kernel_rfl) (fun _ _ _ h => h) (Or.inl ⟨by rfl, ?hy1x4⟩) hHeld ?rest1x4
    case hy1x4 => (intro w hSw; go_simp <;> with_reducible rfl)
    try simp only [Act.put, List.setIfInBounds_toArray, List.set_cons_zero, List.set_cons_succ]
    refine wpAnyH_take (i := 6) (oi := { dst := some 23, op := _, type := _, pos := _, after := _, guard := _ }) (v := ?v1x5) rfl (by kernel_rfl) (by kernel_rfl) (by kernel_rfl) (fun _ _ _ h => h) (Or.inl ⟨by rfl, ?hy1x5⟩) hHeld ?rest1x5
    case hy1x5 => (intro w hSw; go_simp <;> with_reducible rfl)
    try simp only [Act.put, List.setIfInBounds_toArray, List.set_cons_zero, List.set_cons_succ]
    refine wpAnyH_ready (rs := [2]) (by kernel_rfl) (by simp) (AllReadyH.cons (o := { dst := some 19, op := _, type := _, pos := _, after := _, guard := _ }) rfl (fun K hK => ?_) AllReadyH.nil)
    go_simp
    refine (PF _ (by rw [Hg.out]; exact below_drewN BW.out 1)).mono ?_
    rintro e w1 ⟨rfl, b1⟩
    replace b1 : Below W.heap.size W w1 := below_unN (n := 1) b1
    have HB1 := hide (HB.out.keep b1)
    have B1 := hide (BW.out.trans (b1.mono (Nat.le_of_lt HB.out.lt)))
    go_wp2_with fail
    refine hK.out _ _ ?_ (fun hHeld => ?_)
    · exact (Blk.p18 HB1.out).2.2.2.2.2.2.2.2.2.2.2.2.2.2.2.2.2
    clear hK K
    try simp only [Act.put, List.setIfInBounds_toArray, List.set_cons_zero, List.set_cons_succ]
    refine wpAnyH_take (i := 3) (oi := { dst := some 20, op := _, type := _, pos := _, after := _, guard := _ }) (v := ?v1x7) rfl (by kernel_rfl) (by kernel_rfl) (by kernel_rfl) (fun _ _ _ h => h) (Or.inl ⟨by rfl, ?hy1x7⟩) hHeld ?rest1x7
    case hy1x7 => (intro w hSw; go_simp <;> with_reducible rfl)
    try simp only [Act.put, List.setIfInBounds_toArray, List.set_cons_zero, List.set_cons_succ]
    refine wpAnyH_take (i := 7) (oi := { dst := some 24, op := _, type := _, pos := _, after := _, guard := _ }) (v := ?v1x8) rfl (by kernel_rfl) (by kernel_rfl) (by kernel_rfl) (fun _ _ _ h => h) (Or.inl ⟨by rfl, ?hy1x8⟩) hHeld ?rest1x8
    case hy1x8 => (intro w hSw; go_simp <;> with_reducible rfl)
    try simp only [Act.put, List.setIfInBounds_toArray, List.set_cons_zero, List.set_cons_succ]
    refine wpAnyH_take (i := 8) (oi := { dst := some 2, op := _, type := _, pos := _, after := _, guard := _ }) (v := ?v1x9) rfl (by kernel_rfl) (by kernel_rfl) (by kernel_rfl) (fun _ _ _ h => h) (Or.inl ⟨by rfl, ?hy1x9⟩) hHeld ?rest1x9
    case hy1x9 => (intro w hSw; go_simp <;> with_reducible rfl)
    try simp only [Act.put, List.setIfInBounds_toArray, List.set_cons_zero, List.set_cons_succ]
    refine wpAnyH_done (by kernel_rfl) ?_ _
    clear PC PP PF
    go_wp2_with fail
    go_ret
    exact ⟨by first | rfl | (congr 2; omega) | simp, by rw [Hg.out]; exact B1.out⟩
  by_cases c9 : ty = 9
  · have hf : remainP q = 2 + q.codes.length := by unfold remainP; rw [hty, if_neg c1, if_neg c2, if_neg c3, if_neg c8, if_pos c9]
    rw [hcl] at hf
    subst c9
    clear hty c1 c2 c3 c8
    rw [hf]
    simp only [pkA]
    clear PC PP PF
    go_enter Try.func27, Try.ntmps27
    go_wp2_with fail
    go_ret
    exact ⟨by first | rfl | (congr 2; omega), (Below.refl _ _).alloc (Nat.le_refl _) _⟩
  by_cases c10 : ty = 10
  · have hf : remainP q = 2 + filtS q.subs := by unfold remainP; rw [hty, if_neg c1, if_neg c2, if_neg c3, if_neg c8, if_neg c9, if_pos c10]
    subst c10
    clear hty c1 c2 c3 c8 c9
    generalize filtS q.subs = fs at *
    rw [hf]
    simp only [pkA]
    go_enter Try.func27, Try.ntmps27
    go_upto_region 13 with fail
    generalize hW : w.alloc _ = W
    obtain ⟨g, hg, hB, bW, -⟩ := boxedP (p := ⟨10, dup, id, topic, payload, qos, retain, client, clean, alive, hasWill, hasUser, hasPass, user, pass, present, codes, subs⟩) hW
    rw [hg]
    have Hg := hide hg
    have HB := hide (show Blk W g 35 (pkVs q C nc kc S ns ks) from by rw [← Hq.out]; exact hB)
    have BW := hide bW
    have c17 := (Blk.p18 HB.out).2.2.2.2.2.2.2.2.2.2.2.2.2.2.2.2.2
    clear hW hg hB bW hf
    have PF := PF W (by rw [Hg.out]; exact BW.out)
    clear PC PP
    go_wp2_with fail
    refine PF.mono ?_
    rintro e w1 ⟨rfl, b1⟩
    go_wp2_with fail
    go_ret
    exact ⟨by first | rfl | (congr 2; omega) | simp, by rw [Hg.out]; exact BW.out.trans (b1.mono (Nat.le_of_lt HB.out.lt))⟩
  have q1 : (ty == 1) = false := by simpa using c1
  have q2 : (ty == 2) = false := by simpa using c2
  have q3 : (ty == 3) = false := by simpa using c3
  have q8 : (ty == 8) = false := by simpa using c8
  have q9 : (ty == 9) = false := by simpa using c9
  have q10 : (ty == 10) = false := by simpa using c10
  by_cases c12 : ty = 12 ∨ ty = 13 ∨ ty = 14
  · have hf : remainP q = 0 := by unfold remainP; rw [hty, if_neg c1, if_neg c2, if_neg c3, if_neg c8, if_neg c9, if_neg c10, if_pos c12]
    clear hty c1 c2 c3 c8 c9 c10 q1 q2 q3 q8 q9 q10
    rcases c12 with c4 | c4 | c4
    · subst c4
      rw [hf]
      simp only [pkA]
      clear PC PP PF
      go_enter Try.func27, Try.ntmps27
      go_wp2_with fail
      go_ret
      exact ⟨by first | rfl | (congr 2; omega), (Below.refl _ _).alloc (Nat.le_refl _) _⟩
    · subst c4
      rw [hf]
      simp only [pkA]
      clear PC PP PF
      go_enter Try.func27, Try.ntmps27
      go_wp2_with fail
      go_ret
      exact ⟨by first | rfl | (congr 2; omega), (Below.refl _ _).alloc (Nat.le_refl _) _⟩
    · subst c4
      rw [hf]
      simp only [pkA]
      clear PC PP PF
      go_enter Try.func27, Try.ntmps27
      go_wp2_with fail
      go_ret
      exact ⟨by first | rfl | (congr 2; omega), (Below.refl _ _).alloc (Nat.le_refl _) _⟩
  have hf : remainP q = 2 := by unfold remainP; rw [hty, if_neg c1, if_neg c2, if_neg c3, if_neg c8, if_neg c9, if_neg c10, if_neg c12]
  have q12 : (ty == 12) = false := by simp; omega
  have q13 : (ty == 13) = false := by simp; omega
  have q14 : (ty == 14) = false := by simp; omega
  clear hty c1 c2 c3 c8 c9 c10 c12
  rw [hf]
  simp only [pkA]
  clear PC PP PF
  go_enter Try.func27, Try.ntmps27
  go_wp2_with fail
  go_ret
  exact ⟨by first | rfl | (congr 2; omega), (Below.refl _ _).alloc (Nat.le_refl _) _⟩

set_option maxRecDepth 100000 in
set_option maxHeartbeats 4000000 in
theorem check_any (p : Pk) (C : Option Addr) (nc kc : Nat) (S : Option Addr) (ns ks : Nat) (w : World) (hM : PkM w p C nc kc S ns ks) (hs : PkU p) : Calls Try.prog 26 #[pkA p C nc kc S ns ks] w fun e w' => e = .returned (.int .i64 (if mayP p = true then 0 else 1)) ∧ Below w.heap.size w w' := by
  have PR := fun W (b : Below w.heap.size w W) => remain_any p C nc kc S ns ks W (hM.keep b) hs
  have PB := fun W (b : Below w.heap.size w W) => mayBe_any p C nc kc S ns ks W (hM.keep b) (by rw [← hM.1]; have := hs.2.2.2.2.2.1; omega) (by rw [← hM.2.2.2.1]; have := hs.2.2.2.2.2.2.1; omega)
  have hm : mayP p = (fitB p && decide (remainP p ≤ 268435455)) := by
    rw [mayP_fit]
    by_cases h : fitB p = true
    · rw [h, remain_fit p h]
    · rw [Bool.not_eq_true] at h
      rw [h]
      rfl
  clear hM hs
  generalize mayP p = M at *
  generalize remainP p = R at *
  generalize fitB p = F at *
  obtain ⟨q, hq⟩ : ∃ q, p = q := ⟨_, rfl⟩
  rw [hq] at PR PB
  have Hq := hide hq
  obtain ⟨ty, dup, id, topic, payload, qos, retain, client, clean, alive, hasWill, hasUser, hasPass, user, pass, present, codes, subs⟩ := p
  clear hq
  simp only [pkA]
  have HM := hide hm
  clear hm
  go_enter Try.func26, Try.ntmps26
  go_upto_region 1 with fail
  generalize hW : w.alloc _ = W
  obtain ⟨g, hg, hB, bW, -⟩ := boxedP (p := ⟨ty, dup, id, topic, payload, qos, retain, client, clean, alive, hasWill, hasUser, hasPass, user, pass, present, codes, subs⟩) hW
  rw [hg]
  have Hg := hide hg
  have HB := hide (show Blk W g 35 (pkVs q C nc kc S ns ks) from by rw [← Hq.out]; exact hB)
  have BW := hide bW
  have P := PR W (by rw [hg]; exact bW)
  have P2 := fun V (b : Below W.heap.size W V) => PB V (by rw [hg]; exact bW.trans (b.mono (Nat.le_of_lt HB.out.lt)))
  clear hW hg hB bW PR PB
  refine wp_region_lit ?_
  refine wpList_loadP rfl 35 (.tmp 1) rfl g 35 q C nc kc S ns ks rfl HB.out Try.underlying35 rfl (by kernel_rfl) ?_
  go_wp2_with fail
  refine P.mono ?_
  rintro e w1 ⟨rfl, b1⟩
  have Q2 := P2 w1 b1
  have HB := hide (HB.out.keep b1)
  have BW := hide (BW.out.trans (b1.mono (by have := HB.out.lt; have := b1.size; have := BW.out.size; have := Hg.out; omega)))
  clear P P2 b1
  by_cases hR : 268435455 < R
  · have q1 : (R : Int) > 268435455 := by omega
    have hM : M = false := by rw [HM.out, decide_eq_false (by omega), Bool.and_false]
    subst hM
    clear Q2 hR
    go_wp2_with fail
    go_ret
    exact ⟨rfl, by rw [Hg.out]; exact BW.out⟩
  · have q1 : decide ((268435455 : Int) < (R : Int)) = false := decide_eq_false (by omega)
    have q2 : ¬ (R : Int) > 268435455 := by omega
    have hM : M = F := by rw [HM.out, decide_eq_true (by omega), Bool.and_true]
    subst hM
    clear hR
    go_upto_region 2 with (refine wpList_loadPg (by rfl) 35 (.tmp 1) rfl g 35 q C nc kc S ns ks rfl HB.out Try.underlying35 rfl (by kernel_rfl) ?_)
    refine Q2.mono ?_
    rintro e w2 ⟨rfl, b2⟩
    cases M with
    | true =>
      go_wp2_with fail
      go_ret
      exact ⟨rfl, by rw [Hg.out]; exact BW.out.trans (b2.mono (Nat.le_of_lt HB.out.lt))⟩
    | false =>
      go_wp2_with fail
      go_ret
      exact ⟨rfl, by rw [Hg.out]; exact BW.out.trans (b2.mono (Nat.le_of_lt HB.out.lt))⟩

end Go.Proofs.Ytkgidimaiedocaa
