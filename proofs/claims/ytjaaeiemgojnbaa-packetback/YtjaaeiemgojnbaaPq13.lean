/-
  What is proved here: the program's 'connectSize', 'publishSize', 'filtersSize', 'remain' of package packet. Conditions: strings of at most 65535 bytes; at most 65535 codes, filters.
-/
import Derived.Test.YtjaaeiemgojnbaaPq11
import Derived.Test.YtjaaeiemgojnbaaPq10
namespace Go.Proofs.Ytjaaeiemgojnbaa
set_option linter.unusedVariables false
set_option linter.unusedSimpArgs false
open Go.RowKit

def sizeT (l : List (List UInt8)) : Nat := (l.map fun s => 2 + s.length).sum
def filtS (l : List (List UInt8 × Int)) : Nat := (l.map fun s => 2 + s.1.length).sum
def remainP (p : Pk) : Nat :=
  if p.ty = 1 then 10 + sizeT (textsP p) else if p.ty = 2 then 2 else if p.ty = 3 then 2 + p.topic.length + p.payload.length + (if 0 < p.qos then 2 else 0)
  else if p.ty = 8 then 2 + filtS p.subs + p.subs.length else if p.ty = 9 then 2 + p.codes.length else if p.ty = 10 then 2 + filtS p.subs
  else if p.ty = 12 ∨ p.ty = 13 ∨ p.ty = 14 then 0 else 2
theorem filtS_le : ∀ (l : List (List UInt8 × Int)), (∀ s ∈ l, s.1.length ≤ 65535) → filtS l ≤ l.length * 65537
  | [], _ => by simp [filtS]
  | s :: l, h => by
    have h1 := h s (by simp)
    have h2 := filtS_le l (fun t ht => h t (by simp [ht]))
    simp only [filtS, List.map_cons, List.sum_cons, List.length_cons] at *
    omega
theorem filtS_snoc (l : List (List UInt8 × Int)) (s : List UInt8 × Int) : filtS (l ++ [s]) = filtS l + (2 + s.1.length) := by simp [filtS]
theorem sizeT_snoc (l : List (List UInt8)) (s : List UInt8) : sizeT (l ++ [s]) = sizeT l + (2 + s.length) := by simp [sizeT]

set_option maxRecDepth 100000 in
set_option maxHeartbeats 2000000 in
theorem filtersSize_any (S : Option Addr) (ns ks : Nat) (l : List (List UInt8 × Int)) (w : World) (hR : Rd w S (ns * 2) (subVs l)) (hl : l.length = ns) (h65 : ns ≤ 65535) (hs : ∀ s ∈ l, s.1.length ≤ 65535) : Calls Try.prog 45 #[.slice S ns ks] w fun e w' => e = .returned (.int .i64 (filtS l : Int)) ∧ Below w.heap.size w w' := by
  have HR := hide hR
  have HC := hide hl
  have Hs := hide hs
  clear hR hl hs
  go_enter Try.func45, Try.ntmps45
  go_wp2_with fail
  go_loopw [3, 8] (fun t i wr => ∃ k : Nat, i = .int .i64 (k : Int) ∧ k ≤ ns ∧ t = .int .i64 (filtS (l.take k) : Int) ∧ Below w.heap.size w wr) (fun _ i _ => ns - (intOf i).toNat)
  case atStart => exact ⟨0, rfl, by omega, rfl, Below.refl _ _⟩
  case round =>
    obtain ⟨k, rfl, hkn, rfl, hbr⟩ := hrel
    by_cases hlt : k < ns
    · have q1 : (k : Int) < (ns : Int) := by omega
      have hlt' : k < l.length := by rw [HC.out]; exact hlt
      obtain ⟨b, o, rfl, hbl, hcell⟩ := HR.out.at_ (k := k * 2) (by omega)
      obtain ⟨g0, g1⟩ := subVs_get l k hlt'
      have cA : wr.cell? ⟨b, o + k * 2, none⟩ = some (.string (str l[k].1)) := (hbr.cell (p := ⟨b, o + k * 2, none⟩) hbl).trans (hcell _ _ g0)
      have cB : wr.cell? ⟨b, o + k * 2 + 1, none⟩ = some (.int .i64 l[k].2) := (hbr.cell (p := ⟨b, o + k * 2 + 1, none⟩) hbl).trans (hcell _ _ g1)
      have htk : l.take (k + 1) = l.take k ++ [l[k]] := (List.take_append_getElem hlt').symm
      have hlen := Hs.out l[k] (List.getElem_mem hlt')
      have hle := filtS_le (l.take k) (fun s hs => Hs.out s (List.mem_of_mem_take hs))
      have hlk : (l.take k).length = k := by rw [List.length_take]; omega
      rw [hlk] at hle
      generalize l[k] = s at *
      obtain ⟨f, c⟩ := s
      simp only at cA cB hlen
      obtain ⟨m, hm⟩ : ∃ m, f.length = m := ⟨_, rfl⟩
      have hsz : (str f).size = m := by rw [str_size, hm]
      rw [hm] at hlen
      have Hn := hide (show filtS (l.take (k + 1)) = filtS (l.take k) + (2 + m) by rw [htk, filtS_snoc]; simp only; rw [hm])
      generalize filtS (l.take k) = t at *
      have hle2 : t ≤ 4294967295 := by omega
      have Hbr := hide hbr
      clear hcell hlt' hbl htk g0 g1 hm hlk hle hbr
      go_wp2_with fail
      exact ⟨⟨k + 1, by go_num, by omega, by rw [Hn.out]; go_num, Hbr.out.alloc Hbr.out.size _⟩, by simp [intOf]; omega⟩
    · obtain rfl : k = ns := by omega
      have q1 : ¬ (k : Int) < (k : Int) := by omega
      have hfull : l.take k = l := List.take_of_length_le (by rw [HC.out]; exact Nat.le_refl _)
      rw [hfull]
      go_wp2_with fail
      go_ret
      exact ⟨rfl, hbr⟩

theorem sizeT_le : ∀ (l : List (List UInt8)), (∀ s ∈ l, s.length ≤ 65535) → sizeT l ≤ l.length * 65537
  | [], _ => by simp [sizeT]
  | s :: l, h => by
    have h1 := h s (by simp)
    have h2 := sizeT_le l (fun t ht => h t (by simp [ht]))
    simp only [sizeT, List.map_cons, List.sum_cons, List.length_cons] at *
    omega
theorem textsP_short (p : Pk) (h : PkS p) : ∀ s ∈ textsP p, s.length ≤ 65535 := by
  obtain ⟨h1, h2, h3, h4, h5, -⟩ := h
  intro s hs
  unfold textsP at hs
  simp only [List.mem_append, List.mem_cons, List.not_mem_nil, or_false] at hs
  rcases hs with ((hs | hs) | hs) | hs
  · rw [hs]; exact h3
  · split at hs
    · simp at hs
      rcases hs with rfl | rfl
      · exact h1
      · exact h2
    · simp at hs
  · split at hs
    · simp at hs
      rw [hs]; exact h4
    · simp at hs
  · split at hs
    · simp at hs
      rw [hs]; exact h5
    · simp at hs

set_option maxRecDepth 100000 in
set_option maxHeartbeats 2000000 in
theorem connectSize_any (p : Pk) (C : Option Addr) (nc kc : Nat) (S : Option Addr) (ns ks : Nat) (w : World) (h : PkS p) : Calls Try.prog 43 #[pkA p C nc kc S ns ks] w fun e w' => e = .returned (.int .i64 ((10 + sizeT (textsP p) : Nat) : Int)) ∧ Below w.heap.size w w' := by
  have PT := texts_any p C nc kc S ns ks
  have Hs := hide (textsP_short p h)
  have h5 := textsP_len p
  generalize textsP p = T at *
  clear h
  obtain ⟨q, hq⟩ : ∃ q, p = q := ⟨_, rfl⟩
  rw [hq] at PT
  have Hq := hide hq
  obtain ⟨ty, dup, id, topic, payload, qos, retain, client, clean, alive, hasWill, hasUser, hasPass, user, pass, present, codes, subs⟩ := p
  clear hq
  simp only [pkA]
  obtain ⟨N, hN⟩ : ∃ N, T.length = N := ⟨_, rfl⟩
  have HN := hide hN
  rw [hN] at h5
  go_enter Try.func43, Try.ntmps43
  go_upto_region 2 with fail
  generalize hW : w.alloc _ = W
  obtain ⟨g, hg, hB, bW, -⟩ := boxedP (p := ⟨ty, dup, id, topic, payload, qos, retain, client, clean, alive, hasWill, hasUser, hasPass, user, pass, present, codes, subs⟩) hW
  rw [hg]
  have Hg := hide hg
  have HB := hide (show Blk W g 27 (pkVs q C nc kc S ns ks) from by rw [← Hq.out]; exact hB)
  have BW := hide bW
  clear hW hg hB bW hN
  refine wp_region_lit ?_
  refine wpList_loadP rfl 27 (.tmp 1) rfl g 27 q C nc kc S ns ks rfl HB.out Try.underlying27 rfl (by kernel_rfl) ?_
  have P := PT W
  unfold RetTx at P
  rw [HN.out] at P
  clear PT
  go_wp2_with fail
  refine P.mono ?_
  rintro e w1 ⟨A, k, rfl, -, hR, b1⟩
  have HR := hide hR
  have B1 := hide (BW.out.trans (b1.mono (Nat.le_of_lt HB.out.lt)))
  clear P hR b1
  go_wp2_with fail
  go_loopw [3, 9] (fun t i wr => ∃ k : Nat, i = .int .i64 (k : Int) ∧ k ≤ N ∧ t = .int .i64 ((10 + sizeT (T.take k) : Nat) : Int) ∧ wr = w1) (fun _ i _ => N - (intOf i).toNat)
  case atStart => exact ⟨0, rfl, by omega, rfl, rfl⟩
  case round =>
    obtain ⟨k, rfl, hkn, rfl, rfl⟩ := hrel
    by_cases hlt : k < N
    · have q1 : (k : Int) < (N : Int) := by omega
      have hlt' : k < T.length := by rw [HN.out]; exact hlt
      obtain ⟨b, o, rfl, hbl, hcell⟩ := HR.out.at_ (k := k) (by omega)
      have cA : wr.cell? ⟨b, o + k, none⟩ = some (.string (str T[k])) := hcell k _ (tv_get T k hlt')
      have htk : T.take (k + 1) = T.take k ++ [T[k]] := (List.take_append_getElem hlt').symm
      have hlen := Hs.out T[k] (List.getElem_mem hlt')
      have hle := sizeT_le (T.take k) (fun s hs => Hs.out s (List.mem_of_mem_take hs))
      have hlk : (T.take k).length = k := by rw [List.length_take]; omega
      rw [hlk] at hle
      generalize T[k] = f at *
      obtain ⟨m, hm⟩ : ∃ m, f.length = m := ⟨_, rfl⟩
      have hsz : (str f).size = m := by rw [str_size, hm]
      rw [hm] at hlen
      have Hn := hide (show sizeT (T.take (k + 1)) = sizeT (T.take k) + (2 + m) by rw [htk, sizeT_snoc, hm])
      generalize sizeT (T.take k) = t at *
      have hle2 : t ≤ 400000 := by omega
      obtain ⟨t2, ht2⟩ : ∃ t2, 10 + t = t2 := ⟨_, rfl⟩
      rw [ht2]
      have Ht2 := hide ht2
      have hle3 : t2 ≤ 400010 := by omega
      clear hcell hlt' hbl htk hm hlk hle hle2 ht2
      go_wp2_with fail
      exact ⟨⟨k + 1, by go_num, by omega, by rw [Hn.out, ← Nat.add_assoc, Ht2.out]; go_num, by first | rfl | trivial⟩, by simp [intOf]; omega⟩
    · obtain rfl : k = N := by omega
      have q1 : ¬ (k : Int) < (k : Int) := by omega
      have hfull : T.take k = T := List.take_of_length_le (by rw [HN.out]; exact Nat.le_refl _)
      rw [hfull]
      go_wp2_with fail
      go_ret
      exact ⟨rfl, by rw [Hg.out]; exact B1.out⟩

set_option maxRecDepth 100000 in
set_option maxHeartbeats 2000000 in
theorem publishSize_any (p : Pk) (C : Option Addr) (nc kc : Nat) (S : Option Addr) (ns ks : Nat) (w : World) (h : PkS p) : Calls Try.prog 44 #[pkA p C nc kc S ns ks] w fun e w' => e = .returned (.int .i64 ((2 + p.topic.length + p.payload.length + (if 0 < p.qos then 2 else 0) : Nat) : Int)) ∧ Below w.heap.size w w' := by
  obtain ⟨h1, h2, -⟩ := h
  obtain ⟨ty, dup, id, topic, payload, qos, retain, client, clean, alive, hasWill, hasUser, hasPass, user, pass, present, codes, subs⟩ := p
  simp only [pkA] at h1 h2 ⊢
  obtain ⟨a, ha⟩ : ∃ a, topic.length = a := ⟨_, rfl⟩
  obtain ⟨b, hb⟩ : ∃ b, payload.length = b := ⟨_, rfl⟩
  have sa : (str topic).size = a := by rw [str_size, ha]
  have sb : (str payload).size = b := by rw [str_size, hb]
  rw [ha] at h1
  rw [hb] at h2
  rw [ha, hb]
  clear ha hb
  by_cases h0 : 0 < qos
  · rw [if_pos h0]
    go_enter Try.func44, Try.ntmps44
    go_wp2_with fail
    go_ret
    exact ⟨by first | rfl | (congr 2; omega) | (congr 2; push_cast; omega), (Below.refl _ _).alloc (Nat.le_refl _) _⟩
  · rw [if_neg h0]
    go_enter Try.func44, Try.ntmps44
    go_wp2_with fail
    go_ret
    exact ⟨by first | rfl | (congr 2; omega) | (congr 2; push_cast; omega), (Below.refl _ _).alloc (Nat.le_refl _) _⟩

end Go.Proofs.Ytjaaeiemgojnbaa
