/-
  What is proved here: the program's 'mayGrant', 'mayName' of package packet. Conditions: at most 65535 codes, filters.
-/
import Derived.Test.YtjaaeiemgojnbaaPq5
import Derived.Test.YtjaaeiemgojnbaaPq2
import Derived.LoopTactic
namespace Go.Proofs.Ytjaaeiemgojnbaa
set_option linter.unusedVariables false
set_option linter.unusedSimpArgs false
open Go.RowKit

def grantB (p : Pk) : Bool := idB p.id && (!p.codes.isEmpty && (p.codes.all codeB && bareB { p with id := 0, codes := [] }))
/-- One filter. -/
def nameB (top : Int) (s : List UInt8 × Int) : Bool := fullB s.1 && decide (0 ≤ s.2 ∧ s.2 ≤ top)
def namesB (top : Int) (p : Pk) : Bool := idB p.id && (!p.subs.isEmpty && (p.subs.all (nameB top) && bareB { p with id := 0, subs := [] }))

set_option maxRecDepth 100000 in
set_option maxHeartbeats 4000000 in
theorem mayGrant_any (p : Pk) (C : Option Addr) (nc kc : Nat) (S : Option Addr) (ns ks : Nat) (w : World) (hM : PkM w p C nc kc S ns ks) (h65 : nc ≤ 65535) : Calls Try.prog 51 #[pkA p C nc kc S ns ks] w fun e w' => e = .returned (.bool (grantB p)) ∧ Below w.heap.size w w' := by
  obtain ⟨hc, hk, hR, hs, -, -⟩ := hM
  have P1 := fun W => hide (isId_any p.id W)
  have P3 := fun W => hide (bare_any { p with id := 0, codes := [] } none 0 0 S ns ks W rfl hs)
  have PU := fun c W => hide (upTo_any c 2 W)
  have HG := hide (show grantB p = (idB p.id && (!p.codes.isEmpty && (p.codes.all codeB && bareB { p with id := 0, codes := [] }))) from rfl)
  generalize grantB p = G at *
  generalize bareB { p with id := 0, codes := [] } = y at *
  obtain ⟨ty, dup, id, topic, payload, qos, retain, client, clean, alive, hasWill, hasUser, hasPass, user, pass, present, codes, subs⟩ := p
  simp only [pkA] at P1 P3 hc hR HG ⊢
  generalize idB id = z at *
  have hce : codes.isEmpty = decide (nc = 0) := by cases codes <;> simp at hc <;> subst hc <;> simp
  rw [hce] at HG
  have HC := hide hc
  have HR := hide hR
  clear hs hk hc hR hce
  go_enter Try.func51, Try.ntmps51
  go_wp2_with fail
  generalize hW : w.alloc _ = W
  obtain ⟨g, hg, hB, bW, -⟩ := boxedP (p := ⟨ty, dup, id, topic, payload, qos, retain, client, clean, alive, hasWill, hasUser, hasPass, user, pass, present, codes, subs⟩) hW
  rw [hg]
  have Hg := hide hg
  have c2 := (Blk.p18 hB).2.2.1
  have c16 := (Blk.p18 hB).2.2.2.2.2.2.2.2.2.2.2.2.2.2.2.2.1
  have f2 := hB.frozen 2
  have f16 := hB.frozen 16
  have HB := hide hB
  have BW := hide bW
  clear hW hg hB bW
  refine (P1 _).out.mono ?_
  rintro e w1 ⟨rfl, rfl⟩
  cases z with
  | false =>
    have hG : G = false := by rw [HG.out]; rfl
    go_wp2_with fail
    go_ret
    exact ⟨by rw [hG]; rfl, by rw [Hg.out]; exact BW.out⟩
  | true =>
  by_cases h0 : nc = 0
  case pos =>
    have hG : G = false := by rw [HG.out, decide_eq_true h0]; rfl
    have q : ((nc : Int) == 0) = true := by simp [h0]
    clear h0
    go_wp2_with fail
    go_ret
    exact ⟨by rw [hG]; rfl, by rw [Hg.out]; exact BW.out⟩
  case neg =>
  have q : ((nc : Int) == 0) = false := by simp; omega
  have HG2 := hide (show G = (codes.all codeB && y) from by rw [HG.out, decide_eq_false h0]; rfl)
  clear HG
  clear h0
  go_wp2_with fail
  go_loopw [18] (fun i wr => ∃ k : Nat, i = .int .i64 (k : Int) ∧ k ≤ nc ∧ (codes.take k).all codeB = true ∧ wr = W) (fun i _ => nc - (intOf i).toNat)
  case atStart => exact ⟨0, rfl, by omega, rfl, rfl⟩
  case round =>
    obtain ⟨k, rfl, hkn, hall, rfl⟩ := hrel
    have Hall := hide hall
    clear hall
    by_cases hlt : k < nc
    · have q1 : (k : Int) < (nc : Int) := by omega
      have hlt' : k < codes.length := by rw [HC.out]; exact hlt
      obtain ⟨b, o, rfl, hbl, hcell⟩ := HR.out.at_ hlt
      have cA : wr.cell? ⟨b, o + k, none⟩ = some (.int .i64 codes[k]) := (BW.out.cell (p := ⟨b, o + k, none⟩) (by rw [← Hg.out]; exact hbl)).trans (hcell k _ (iv_get codes k hlt'))
      have htk : codes.take (k + 1) = codes.take k ++ [codes[k]] := (List.take_append_getElem hlt').symm
      have hmem : codes[k] ∈ codes := List.getElem_mem hlt'
      generalize codes[k] = c at *
      have Hmem := hide hmem
      have Htk := hide htk
      have Hno := hide (show codeB c = false → G = false from fun e => by
        rw [HG2.out, Bool.and_eq_false_iff, List.all_eq_false]
        exact .inl ⟨c, Hmem.out, by rw [e]; simp⟩)
      have Hyes := hide (show codeB c = true → (codes.take (k + 1)).all codeB = true from fun e => by rw [Htk.out, List.all_append, Hall.out]; simp [e])
      have PU := hide (PU c wr).out
      have Hc := hide (show codeB c = (decide (0 ≤ c ∧ c ≤ 2) || decide (c = 128)) from by
        unfold codeB
        by_cases h1 : 0 ≤ c
        · by_cases h2 : c ≤ 2
          · simp [h1, h2]
          · simp [h1, h2]
        · have h2 : ¬ c = 128 := by omega
          simp [h1, h2])
      generalize hd : decide (0 ≤ c ∧ c ≤ 2) = d at *
      clear hcell hlt' hbl htk hmem hd
      go_wp2_with fail
      refine PU.out.mono ?_
      rintro e w2 ⟨rfl, rfl⟩
      cases d with
      | true =>
        have hy := Hyes.out (by rw [Hc.out]; rfl)
        have Hy := hide hy
        clear hy
        go_wp2_with fail
        exact ⟨⟨k + 1, by go_num, by omega, Hy.out, by first | rfl | trivial⟩, by simp [intOf]; omega⟩
      | false =>
        by_cases h128 : c = 128
        · have q2 : (c != 128) = false := by simp [h128]
          have Hy := hide (Hyes.out (by rw [Hc.out, decide_eq_true h128]; rfl))
          clear h128
          go_wp2_with fail
          exact ⟨⟨k + 1, by go_num, by omega, Hy.out, by first | rfl | trivial⟩, by simp [intOf]; omega⟩
        · have q2 : (c != 128) = true := by rw [bne_iff_ne]; exact h128
          have Hn := hide (Hno.out (by rw [Hc.out, decide_eq_false h128]; rfl))
          clear h128
          go_wp2_with fail
          go_ret
          exact ⟨by rw [Hn.out]; rfl, by rw [Hg.out]; exact BW.out⟩
    · obtain rfl : k = nc := by omega
      have q1 : ¬ (k : Int) < (k : Int) := by omega
      have hfull : codes.all codeB = true := by
        have := Hall.out
        rwa [List.take_of_length_le (by rw [HC.out]; exact Nat.le_refl _)] at this
      have HG := hide (show G = y from by rw [HG2.out, hfull]; rfl)
      clear hfull
      go_upto_region 99 with (refine wpList_loadP rfl 27 (.tmp 1) rfl g 27 ⟨ty, dup, 0, topic, payload, qos, retain, client, clean, alive, hasWill, hasUser, hasPass, user, pass, present, [], subs⟩ none 0 0 S ns ks rfl (Blk.set (Blk.set HB.out 2 _) 16 _) Try.underlying27 rfl (by kernel_rfl) ?_; simp only [pkA])
      refine (P3 _).out.mono ?_
      rintro e w2 ⟨rfl, b2⟩
      go_wp2_with fail
      go_ret
      exact ⟨by rw [HG.out]; rfl, by rw [Hg.out]; exact ((BW.out.setCell (p := ⟨g, 2, none⟩) (Nat.le_refl _) _).setCell (p := ⟨g, 16, none⟩) (Nat.le_refl _) _).trans (b2.mono (by simp; exact Nat.le_of_lt HB.out.lt))⟩

end Go.Proofs.Ytjaaeiemgojnbaa
