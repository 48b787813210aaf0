/-
  What is proved here: which packets the laws of layer 10 look at ('small'). Conditions: strings and lists as long as they may be when they come in.
-/
import Derived.Test.YtjaaeiemgojnbaaOpenPkt
namespace Go.Proofs.Ytjaaeiemgojnbaa
set_option linter.unusedVariables false
set_option linter.unusedSimpArgs false
open Go.RowKit

def filN (l : List (List UInt8 × Int)) : Nat := (l.map fun s => s.1.length).sum
theorem filN_le : ∀ (l : List (List UInt8 × Int)), (∀ s ∈ l, s.1.length ≤ reachBytes) → filN l ≤ l.length * reachBytes
  | [], _ => by simp [filN]
  | s :: l, h => by
    have h1 := h s (by simp)
    have h2 := filN_le l (fun t ht => h t (by simp [ht]))
    simp only [filN, List.map_cons, List.sum_cons, List.length_cons] at *
    rw [Nat.add_mul, Nat.one_mul]
    omega
theorem filN_snoc (l : List (List UInt8 × Int)) (s : List UInt8 × Int) : filN (l ++ [s]) = filN l + s.1.length := by simp [filN]
theorem filN_mem : ∀ (l : List (List UInt8 × Int)), ∀ s ∈ l, s.1.length ≤ filN l
  | [], _, h => by simp at h
  | t :: l, s, h => by
    simp only [filN, List.map_cons, List.sum_cons]
    rcases List.mem_cons.1 h with rfl | h
    · omega
    · have := filN_mem l s h
      simp only [filN] at this
      omega
/-- Is it looked at? -/
def smallB (p : Pk) : Bool := decide (p.topic.length + p.payload.length + p.client.length + p.user.length + p.pass.length + p.codes.length + filN (p.subs.take 100) ≤ 2000) && decide (p.subs.length ≤ 50)
theorem smallB_short {p : Pk} (h : smallB p = true) : PkS p := by
  simp only [smallB, Bool.and_eq_true, decide_eq_true_eq] at h
  obtain ⟨h1, h2⟩ := h
  rw [List.take_of_length_le (by omega)] at h1
  refine ⟨by omega, by omega, by omega, by omega, by omega, by omega, by omega, fun s hs => ?_⟩
  have := filN_mem _ s hs
  omega

set_option maxRecDepth 100000 in
set_option maxHeartbeats 2000000 in
theorem small_any (p : Pk) (C : Option Addr) (nc kc : Nat) (S : Option Addr) (ns ks : Nat) (w : World) (hM : PkM w p C nc kc S ns ks) (hL : PkL p) : Calls Try.prog 10 #[pkA p C nc kc S ns ks] w fun e w' => e = .returned (.bool (smallB p)) ∧ Below w.heap.size w w' := by
  obtain ⟨hc, _, _, hl, _, hR⟩ := hM
  obtain ⟨l0, l1, l2, l3, l4, l5, l6, l7⟩ := hL
  unfold smallB
  obtain ⟨ty, dup, id, topic, payload, qos, retain, client, clean, alive, hasWill, hasUser, hasPass, user, pass, present, codes, subs⟩ := p
  simp only [pkA] at *
  obtain ⟨a0, e0⟩ : ∃ a, topic.length = a := ⟨_, rfl⟩
  obtain ⟨a1, e1⟩ : ∃ a, payload.length = a := ⟨_, rfl⟩
  obtain ⟨a2, e2⟩ : ∃ a, client.length = a := ⟨_, rfl⟩
  obtain ⟨a3, e3⟩ : ∃ a, user.length = a := ⟨_, rfl⟩
  obtain ⟨a4, e4⟩ : ∃ a, pass.length = a := ⟨_, rfl⟩
  have s0 : (str topic).size = a0 := by rw [str_size, e0]
  have s1 : (str payload).size = a1 := by rw [str_size, e1]
  have s2 : (str client).size = a2 := by rw [str_size, e2]
  have s3 : (str user).size = a3 := by rw [str_size, e3]
  have s4 : (str pass).size = a4 := by rw [str_size, e4]
  rw [e0] at l0
  rw [e1] at l1
  rw [e2] at l2
  rw [e3] at l3
  rw [e4] at l4
  rw [hc] at l5
  rw [hl] at l6
  rw [e0, e1, e2, e3, e4, hc, hl]
  clear e0 e1 e2 e3 e4
  have Hl := hide hl
  have HR := hide hR
  have H7 := hide l7
  clear hl hR hc l7
  have hrb : reachBytes = 140737488351232 := rfl
  rw [hrb] at l0 l1 l2 l3 l4 l5 l6
  obtain ⟨a, ha⟩ : ∃ a, a0 + a1 + a2 + a3 + a4 + nc = a := ⟨_, rfl⟩
  have hal : a ≤ 844424930107392 := by omega
  rw [ha]
  go_enter Try.func10, Try.ntmps10
  go_wp2_with fail
  generalize hW : w.alloc _ = W
  obtain ⟨hB, bW, _⟩ := boxed18 hW
  obtain ⟨c0, c1, c2, c3, c4, c5, c6, c7, c8, c9, c10, c11, c12, c13, c14, c15, c16, c17⟩ := hB.c18
  have BW := hide bW
  clear hW hB bW c0 c1 c2 c3 c4 c5 c6 c7 c8 c9 c10 c11 c12 c13 c14 c15 c16
  go_loopw [4, 3] (fun i t wr => ∃ k : Nat, i = .int .i64 (k : Int) ∧ k ≤ ns ∧ k ≤ 100 ∧ t = .int .i64 ((a + filN (subs.take k) : Nat) : Int) ∧ wr = W) (fun i _ _ => ns - (intOf i).toNat)
  case atStart => exact ⟨0, rfl, by omega, by omega, by simp only [List.take_zero]; unfold filN; simp only [List.map_nil, List.sum_nil]; congr 1; omega, rfl⟩
  case round =>
    obtain ⟨k, rfl, hkn, hk100, rfl, rfl⟩ := hrel
    have hle := filN_le (subs.take k) (fun s hs => H7.out s (List.mem_of_mem_take hs))
    have hlk : (subs.take k).length = k := by rw [List.length_take, Hl.out]; omega
    rw [hlk, hrb] at hle
    by_cases hlt : k < ns ∧ k < 100
    · obtain ⟨hlt, hlt2⟩ := hlt
      have q1 : (k : Int) < (ns : Int) := by omega
      have q2 : (k : Int) < (100 : Int) := by omega
      have hlt' : k < subs.length := by rw [Hl.out]; exact hlt
      obtain ⟨b, o, rfl, hbl, hcell⟩ := HR.out.at_ (k := k * 2) (by omega)
      obtain ⟨g0, g1⟩ := subVs_get subs k hlt'
      have cA : wr.cell? ⟨b, o + k * 2, none⟩ = some (.string (str subs[k].1)) := (BW.out.cell (p := ⟨b, o + k * 2, none⟩) hbl).trans (hcell _ _ g0)
      have htk : subs.take (k + 1) = subs.take k ++ [subs[k]] := (List.take_append_getElem hlt').symm
      have hlen := H7.out subs[k] (List.getElem_mem hlt')
      generalize subs[k] = s at *
      obtain ⟨f, c⟩ := s
      simp only at cA hlen
      obtain ⟨m, hm⟩ : ∃ m, f.length = m := ⟨_, rfl⟩
      have hsz : (str f).size = m := by rw [str_size, hm]
      rw [hm, hrb] at hlen
      have Hn := hide (show filN (subs.take (k + 1)) = filN (subs.take k) + m by rw [htk, filN_snoc]; simp only; rw [hm])
      generalize filN (subs.take k) = t at *
      have hle2 : t ≤ 14073748835123200 := by omega
      clear hm htk hle hcell g0 g1 hlk hbl
      go_wp2_with fail
      exact ⟨⟨k + 1, by go_num, by omega, by omega, by rw [Hn.out]; first | go_num | (congr 1; push_cast; omega), by first | rfl | trivial⟩, by simp [intOf]; omega⟩
    · have hend : subs.take 100 = subs.take k := by
        by_cases h100 : k < 100
        · have hkk : k = ns := by omega
          rw [List.take_of_length_le (by rw [Hl.out]; omega), List.take_of_length_le (by rw [Hl.out]; omega)]
        · have : k = 100 := by omega
          rw [this]
      have hE : filN (subs.take 100) = filN (subs.take k) := by rw [hend]
      generalize filN (subs.take k) = t at *
      have hle2 : t ≤ 14073748835123200 := by omega
      have E := hide hE
      clear hle hlk hend hE
      by_cases hkn2 : k < ns
      · have q2 : (k : Int) < (ns : Int) := by omega
        have q3 : ¬ (k : Int) < (100 : Int) := by omega
        by_cases r1 : a + t ≤ 2000
        · go_wp2_with fail
          go_ret
          exact ⟨by rw [E.out]; simp [r1]; try omega, BW.out⟩
        · go_wp2_with fail
          go_ret
          exact ⟨by rw [E.out]; simp [r1]; try omega, BW.out⟩
      · have q2 : ¬ (k : Int) < (ns : Int) := by omega
        by_cases r1 : a + t ≤ 2000
        · go_wp2_with fail
          go_ret
          exact ⟨by rw [E.out]; simp [r1]; try omega, BW.out⟩
        · go_wp2_with fail
          go_ret
          exact ⟨by rw [E.out]; simp [r1]; try omega, BW.out⟩

end Go.Proofs.Ytjaaeiemgojnbaa
