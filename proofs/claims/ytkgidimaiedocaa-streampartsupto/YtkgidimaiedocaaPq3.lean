/-
  What is proved here: the program's 'mayAnswer', 'mayWelcome' of package packet. Conditions: the lists are as long as the slices say.
-/
import Derived.Test.YtkgidimaiedocaaPq2
import Derived.Test.YtkgidimaiedocaaPkLd
namespace Go.Proofs.Ytkgidimaiedocaa
set_option linter.unusedVariables false
set_option linter.unusedSimpArgs false
open Go.RowKit

set_option maxRecDepth 100000 in
set_option maxHeartbeats 4000000 in
theorem mayAnswer_any (p : Pk) (C : Option Addr) (nc kc : Nat) (S : Option Addr) (ns ks : Nat) (w : World) (hc : p.codes.length = nc) (hs : p.subs.length = ns) : Calls Try.prog 76 #[pkA p C nc kc S ns ks] w fun e w' => e = .returned (.bool (idB p.id && bareB { p with id := 0 })) ∧ Below w.heap.size w w' := by
  have P1 := fun W => hide (isId_any p.id W)
  have P2 := fun W => hide (bare_any { p with id := 0 } C nc kc S ns ks W hc hs)
  clear hc hs
  generalize bareB { p with id := 0 } = y at *
  obtain ⟨ty, dup, id, topic, payload, qos, retain, client, clean, alive, hasWill, hasUser, hasPass, user, pass, present, codes, subs⟩ := p
  simp only [pkA] at P1 P2 ⊢
  generalize idB id = z at *
  go_enter Try.func76, Try.ntmps76
  go_wp2_with fail
  generalize hW : w.alloc _ = W
  obtain ⟨g, hg, hB, bW, -⟩ := boxedP (p := ⟨ty, dup, id, topic, payload, qos, retain, client, clean, alive, hasWill, hasUser, hasPass, user, pass, present, codes, subs⟩) hW
  rw [hg]
  have Hg := hide hg
  clear hW hg
  obtain ⟨-, -, c2, -, -, -, -, -, -, -, -, -, -, -, -, -, -, -⟩ := hB.p18
  have f2 := hB.frozen 2
  have HB := hide hB
  have BW := hide bW
  clear hB bW
  refine (P1 _).out.mono ?_
  rintro e w1 ⟨rfl, rfl⟩
  cases z with
  | false =>
    go_wp2_with fail
    go_ret
    exact ⟨rfl, by rw [Hg.out]; exact BW.out⟩
  | true =>
    go_upto_region 4 with fail
    refine wp_region_lit ?_
    refine wpList_loadP rfl 35 (.tmp 1) rfl g 35 ⟨ty, dup, 0, topic, payload, qos, retain, client, clean, alive, hasWill, hasUser, hasPass, user, pass, present, codes, subs⟩ C nc kc S ns ks rfl (HB.out.set 2 (.int .i64 0)) Try.underlying35 rfl (by kernel_rfl) ?_
    simp only [pkA]
    go_wp2_with fail
    refine (P2 _).out.mono ?_
    rintro e w2 ⟨rfl, b2⟩
    go_wp2_with fail
    go_ret
    exact ⟨rfl, by rw [Hg.out]; exact (BW.out.setCell (p := ⟨g, 2, none⟩) (Nat.le_refl _) _).trans (b2.mono (by simp; exact Nat.le_of_lt HB.out.lt))⟩

end Go.Proofs.Ytkgidimaiedocaa
