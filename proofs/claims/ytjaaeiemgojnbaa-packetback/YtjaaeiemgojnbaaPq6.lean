/-
  What is proved here: the program's 'mayWelcome' of package packet. Conditions: the lists are as long as the slices say.
-/
import Derived.Test.YtjaaeiemgojnbaaPq5
import Derived.Test.YtjaaeiemgojnbaaPq2
namespace Go.Proofs.Ytjaaeiemgojnbaa
set_option linter.unusedVariables false
set_option linter.unusedSimpArgs false
open Go.RowKit

def wel1 (present : Bool) (codes : List Int) : Bool := match codes with
  | [c] => decide (0 ≤ c ∧ c ≤ 5) && !(present && decide (0 < c))
  | _ => false
theorem wel1_one (present : Bool) (c : Int) : wel1 present [c] = (decide (0 ≤ c ∧ c ≤ 5) && !(present && decide (0 < c))) := rfl
def welcomeB (p : Pk) : Bool := wel1 p.present p.codes && bareB { p with present := false, codes := [] }

set_option maxRecDepth 100000 in
set_option maxHeartbeats 4000000 in
theorem mayWelcome_any (p : Pk) (C : Option Addr) (nc kc : Nat) (S : Option Addr) (ns ks : Nat) (w : World) (hM : PkM w p C nc kc S ns ks) : Calls Try.prog 47 #[pkA p C nc kc S ns ks] w fun e w' => e = .returned (.bool (welcomeB p)) ∧ Below w.heap.size w w' := by
  obtain ⟨hc, hk, hR, hs, -, -⟩ := hM
  have P2 := fun W => hide (bare_any { p with present := false, codes := [] } none 0 0 S ns ks W rfl hs)
  unfold welcomeB
  generalize bareB { p with present := false, codes := [] } = y at *
  obtain ⟨ty, dup, id, topic, payload, qos, retain, client, clean, alive, hasWill, hasUser, hasPass, user, pass, present, codes, subs⟩ := p
  simp only [pkA] at P2 hc hR ⊢
  clear hs hk
  have bad : nc ≠ 1 → wel1 present codes = false := by
    intro h
    match codes, hc with
    | [], _ => rfl
    | [c], hc => simp at hc; omega
    | _ :: _ :: _, _ => rfl
  by_cases hn : nc = 1
  case neg =>
    rw [bad hn]
    have q : ((nc : Int) != 1) = true := by rw [bne_iff_ne]; omega
    clear bad hc hR P2
    go_enter Try.func47, Try.ntmps47
    go_wp2_with fail
    go_ret
    exact ⟨rfl, (Below.refl _ _).alloc (Nat.le_refl _) _⟩
  case pos =>
  subst hn
  match codes, hc, hR with
  | [c], hc, hR =>
  rw [wel1_one]
  clear bad
  obtain ⟨b, o, rfl, hbl, hcell⟩ := hR.at_ (k := 0) (by omega)
  have cA : w.cell? ⟨b, o, none⟩ = some (.int .i64 c) := by have := hcell 0 (.int .i64 c) rfl; simpa using this
  have P1 := fun W => hide (upTo_any c 5 W)
  generalize hd5 : decide (0 ≤ c ∧ c ≤ 5) = d5 at *
  clear hcell hR hc
  go_enter Try.func47, Try.ntmps47
  go_upto_region 1 with fail
  generalize hW : w.alloc _ = W
  obtain ⟨g, hg, hB, bW, -⟩ := boxedP (p := ⟨ty, dup, id, topic, payload, qos, retain, client, clean, alive, hasWill, hasUser, hasPass, user, pass, present, [c], subs⟩) hW
  have cW : W.cell? ⟨b, o, none⟩ = some (.int .i64 c) := (bW.cell (p := ⟨b, o, none⟩) (by rw [← hg]; exact hbl)).trans cA
  rw [hg]
  have hbg : ¬ b = g := by omega
  have Hg := hide hg
  have c15 := (Blk.p18 hB).2.2.2.2.2.2.2.2.2.2.2.2.2.2.2.1
  have c16 := (Blk.p18 hB).2.2.2.2.2.2.2.2.2.2.2.2.2.2.2.2.1
  have f15 := hB.frozen 15
  have f16 := hB.frozen 16
  have HB := hide hB
  have BW := hide bW
  clear hW hg hB bW cA hbl
  go_wp2_with fail
  refine (P1 _).out.mono ?_
  rintro e w1 ⟨rfl, rfl⟩
  cases d5 with
  | false =>
    go_wp2_with fail
    go_ret
    exact ⟨rfl, by rw [Hg.out]; exact BW.out⟩
  | true =>
    cases present with
    | false =>
      go_upto_region 99 with (refine wpList_loadP rfl 27 (.tmp 1) rfl g 27 ⟨ty, dup, id, topic, payload, qos, retain, client, clean, alive, hasWill, hasUser, hasPass, user, pass, false, [], subs⟩ none 0 0 S ns ks rfl (Blk.set (Blk.set HB.out 15 _) 16 _) Try.underlying27 rfl (by kernel_rfl) ?_; simp only [pkA])
      refine (P2 _).out.mono ?_
      rintro e w2 ⟨rfl, b2⟩
      go_wp2_with fail
      go_ret
      exact ⟨by first | rfl | (simp; done) | (simp [h0]; done), by rw [Hg.out]; exact ((BW.out.setCell (p := ⟨g, 15, none⟩) (Nat.le_refl _) _).setCell (p := ⟨g, 16, none⟩) (Nat.le_refl _) _).trans (b2.mono (by simp; exact Nat.le_of_lt HB.out.lt))⟩
    | true =>
      by_cases h0 : 0 < c
      · go_wp2_with fail
        go_ret
        exact ⟨by simp [h0], by rw [Hg.out]; exact BW.out⟩
      · skip
        go_upto_region 99 with (refine wpList_loadP rfl 27 (.tmp 1) rfl g 27 ⟨ty, dup, id, topic, payload, qos, retain, client, clean, alive, hasWill, hasUser, hasPass, user, pass, false, [], subs⟩ none 0 0 S ns ks rfl (Blk.set (Blk.set HB.out 15 _) 16 _) Try.underlying27 rfl (by kernel_rfl) ?_; simp only [pkA])
        refine (P2 _).out.mono ?_
        rintro e w2 ⟨rfl, b2⟩
        go_wp2_with fail
        go_ret
        exact ⟨by first | rfl | (simp; done) | (simp [h0]; done), by rw [Hg.out]; exact ((BW.out.setCell (p := ⟨g, 15, none⟩) (Nat.le_refl _) _).setCell (p := ⟨g, 16, none⟩) (Nat.le_refl _) _).trans (b2.mono (by simp; exact Nat.le_of_lt HB.out.lt))⟩

end Go.Proofs.Ytjaaeiemgojnbaa
