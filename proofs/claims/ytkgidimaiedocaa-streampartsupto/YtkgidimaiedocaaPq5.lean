/-
  What is proved here: the program's 'mayWill', 'mayLogin' of package packet. No condition. ALSO: the program's 'mayWelcome' of package packet. Conditions: the lists are as long as the slices say. ALSO: the program's 'mayPublish' of package packet. Conditions: the lists are as long as the slices say. ALSO: the program's 'mayGrant', 'mayName' of package packet. Conditions: at most 65535 codes, filters.
-/
import Derived.Test.YtkgidimaiedocaaPq2
import Derived.Test.YtkgidimaiedocaaPkLd
import Derived.Test.YtkgidimaiedocaaPq1
import Derived.LoopTactic
namespace Go.Proofs.Ytkgidimaiedocaa
set_option linter.unusedVariables false
set_option linter.unusedSimpArgs false
open Go.RowKit

def willB (p : Pk) : Bool := if p.hasWill = true then msgB p.topic p.qos && decide (p.payload.length ≤ 65535) else p.topic.isEmpty && p.payload.isEmpty && decide (p.qos = 0) && !p.retain
def loginB (p : Pk) : Bool := !(!p.hasUser && (!p.user.isEmpty || p.hasPass)) && !(!p.hasPass && !p.pass.isEmpty) && (isStr p.user && decide (p.pass.length ≤ 65535))

set_option maxRecDepth 100000 in
set_option maxHeartbeats 4000000 in
theorem mayWill_any (p : Pk) (C : Option Addr) (nc kc : Nat) (S : Option Addr) (ns ks : Nat) (w : World) : Calls Try.prog 95 #[pkA p C nc kc S ns ks] w fun e w' => e = .returned (.bool (willB p)) ∧ Below w.heap.size w w' := by
  have P1 := fun W => hide (isMessage_any p.topic p.payload p.qos p.retain W)
  have P2 := fun W => hide (isText_any p.payload W)
  unfold willB
  obtain ⟨ty, dup, id, topic, payload, qos, retain, client, clean, alive, hasWill, hasUser, hasPass, user, pass, present, codes, subs⟩ := p
  simp only [pkA] at P1 P2 ⊢
  cases hasWill with
  | false =>
    rw [if_neg (by simp)]
    clear P1 P2
    cases topic with
    | cons hx ht =>
      have q : ((hx :: ht) == []) = false := rfl
      have q2 : (hx :: ht).isEmpty = false := rfl
      rw [q2]
      clear q2
      generalize hx :: ht = xs at *
      go_enter Try.func95, Try.ntmps95
      go_wp2_with fail
      go_ret
      exact ⟨by first | rfl | simp, (Below.refl _ _).alloc (Nat.le_refl _) _⟩
    | nil =>
    cases payload with
    | cons hx ht =>
      have q : ((hx :: ht) == []) = false := rfl
      have q2 : (hx :: ht).isEmpty = false := rfl
      rw [q2]
      clear q2
      generalize hx :: ht = xs at *
      go_enter Try.func95, Try.ntmps95
      go_wp2_with fail
      go_ret
      exact ⟨by first | rfl | simp, (Below.refl _ _).alloc (Nat.le_refl _) _⟩
    | nil =>
    by_cases hq : qos = 0
    case neg =>
      rw [decide_eq_false hq]
      have q : (qos == 0) = false := by simpa using hq
      go_enter Try.func95, Try.ntmps95
      go_wp2_with fail
      go_ret
      exact ⟨by first | rfl | simp, (Below.refl _ _).alloc (Nat.le_refl _) _⟩
    case pos =>
    subst hq
    cases retain with
    | true =>
      go_enter Try.func95, Try.ntmps95
      go_wp2_with fail
      go_ret
      exact ⟨by first | rfl | simp, (Below.refl _ _).alloc (Nat.le_refl _) _⟩
    | false =>
      go_enter Try.func95, Try.ntmps95
      go_wp2_with fail
      go_ret
      exact ⟨by first | rfl | simp, (Below.refl _ _).alloc (Nat.le_refl _) _⟩
  | true =>
    rw [if_pos rfl]
    generalize msgB topic qos = y at *
    generalize decide (payload.length ≤ 65535) = z at *
    go_enter Try.func95, Try.ntmps95
    go_wp2_with fail
    generalize hW : w.alloc _ = W
    obtain ⟨g, hg, hB, bW, -⟩ := boxedP (p := ⟨ty, dup, id, topic, payload, qos, retain, client, clean, alive, true, hasUser, hasPass, user, pass, present, codes, subs⟩) hW
    rw [hg]
    have Hg := hide hg
    have HB := hide hB
    have BW := hide bW
    clear hW hg hB bW
    refine (P1 _).out.mono ?_
    rintro e w1 ⟨rfl, b1⟩
    have c4 := (Blk.p18 (HB.out.keep b1)).2.2.2.2.1
    have BW := hide (BW.out.trans (b1.mono (Nat.le_of_lt HB.out.lt)))
    clear b1
    cases y with
    | false =>
      go_wp2_with fail
      go_ret
      exact ⟨rfl, by rw [Hg.out]; exact BW.out⟩
    | true =>
      go_wp2_with fail
      refine (P2 _).out.mono ?_
      rintro e w2 ⟨rfl, rfl⟩
      go_wp2_with fail
      go_ret
      exact ⟨rfl, by rw [Hg.out]; exact BW.out⟩

set_option maxRecDepth 100000 in
set_option maxHeartbeats 4000000 in
theorem mayLogin_any (p : Pk) (C : Option Addr) (nc kc : Nat) (S : Option Addr) (ns ks : Nat) (w : World) : Calls Try.prog 96 #[pkA p C nc kc S ns ks] w fun e w' => e = .returned (.bool (loginB p)) ∧ Below w.heap.size w w' := by
  have P1 := fun W => hide (utIs_l p.user W)
  have P2 := fun W => hide (isText_any p.pass W)
  unfold loginB
  obtain ⟨ty, dup, id, topic, payload, qos, retain, client, clean, alive, hasWill, hasUser, hasPass, user, pass, present, codes, subs⟩ := p
  simp only [pkA] at P1 P2 ⊢
  generalize isStr user = y at *
  generalize decide (pass.length ≤ 65535) = z at *
  obtain ⟨eu, heu⟩ : ∃ eu, user.isEmpty = eu := ⟨_, rfl⟩
  obtain ⟨ep, hep⟩ : ∃ ep, pass.isEmpty = ep := ⟨_, rfl⟩
  have qu : (user == []) = eu := by rw [← heu]; cases user <;> rfl
  have qp : (pass == []) = ep := by rw [← hep]; cases pass <;> rfl
  rw [heu, hep]
  clear heu hep
  cases hasUser with
  | false =>
    cases eu with
    | false =>
      go_enter Try.func96, Try.ntmps96
      go_wp2_with fail
      go_ret
      exact ⟨by first | rfl | simp, (Below.refl _ _).alloc (Nat.le_refl _) _⟩
    | true =>
      cases hasPass with
      | true =>
        go_enter Try.func96, Try.ntmps96
        go_wp2_with fail
        go_ret
        exact ⟨by first | rfl | simp, (Below.refl _ _).alloc (Nat.le_refl _) _⟩
      | false =>
        cases ep with
        | false =>
          go_enter Try.func96, Try.ntmps96
          go_wp2_with fail
          go_ret
          exact ⟨by first | rfl | simp, (Below.refl _ _).alloc (Nat.le_refl _) _⟩
        | true =>
          go_enter Try.func96, Try.ntmps96
          go_wp2_with fail
          generalize hW : w.alloc _ = W
          obtain ⟨g, hg, hB, bW, -⟩ := boxedP (p := ⟨ty, dup, id, topic, payload, qos, retain, client, clean, alive, hasWill, false, false, user, pass, present, codes, subs⟩) hW
          rw [hg]
          have Hg := hide hg
          have HB := hide hB
          have BW := hide bW
          clear hW hg hB bW
          refine (P1 _).out.mono ?_
          rintro e w1 ⟨rfl, b1⟩
          have c14 := (Blk.p18 (HB.out.keep b1)).2.2.2.2.2.2.2.2.2.2.2.2.2.2.1
          have BW := hide (BW.out.trans (b1.mono (Nat.le_of_lt HB.out.lt)))
          clear b1
          cases y with
          | false =>
            go_wp2_with fail
            go_ret
            exact ⟨by first | rfl | simp, by rw [Hg.out]; exact BW.out⟩
          | true =>
            go_wp2_with fail
            refine (P2 _).out.mono ?_
            rintro e w2 ⟨rfl, rfl⟩
            go_wp2_with fail
            go_ret
            exact ⟨by first | rfl | simp, by rw [Hg.out]; exact BW.out⟩
  | true =>
    cases hasPass with
    | true =>
      go_enter Try.func96, Try.ntmps96
      go_wp2_with fail
      generalize hW : w.alloc _ = W
      obtain ⟨g, hg, hB, bW, -⟩ := boxedP (p := ⟨ty, dup, id, topic, payload, qos, retain, client, clean, alive, hasWill, true, true, user, pass, present, codes, subs⟩) hW
      rw [hg]
      have Hg := hide hg
      have HB := hide hB
      have BW := hide bW
      clear hW hg hB bW
      refine (P1 _).out.mono ?_
      rintro e w1 ⟨rfl, b1⟩
      have c14 := (Blk.p18 (HB.out.keep b1)).2.2.2.2.2.2.2.2.2.2.2.2.2.2.1
      have BW := hide (BW.out.trans (b1.mono (Nat.le_of_lt HB.out.lt)))
      clear b1
      cases y with
      | false =>
        go_wp2_with fail
        go_ret
        exact ⟨by first | rfl | simp, by rw [Hg.out]; exact BW.out⟩
      | true =>
        go_wp2_with fail
        refine (P2 _).out.mono ?_
        rintro e w2 ⟨rfl, rfl⟩
        go_wp2_with fail
        go_ret
        exact ⟨by first | rfl | simp, by rw [Hg.out]; exact BW.out⟩
    | false =>
      cases ep with
      | false =>
        go_enter Try.func96, Try.ntmps96
        go_wp2_with fail
        go_ret
        exact ⟨by first | rfl | simp, (Below.refl _ _).alloc (Nat.le_refl _) _⟩
      | true =>
        go_enter Try.func96, Try.ntmps96
        go_wp2_with fail
        generalize hW : w.alloc _ = W
        obtain ⟨g, hg, hB, bW, -⟩ := boxedP (p := ⟨ty, dup, id, topic, payload, qos, retain, client, clean, alive, hasWill, true, false, user, pass, present, codes, subs⟩) hW
        rw [hg]
        have Hg := hide hg
        have HB := hide hB
        have BW := hide bW
        clear hW hg hB bW
        refine (P1 _).out.mono ?_
        rintro e w1 ⟨rfl, b1⟩
        have c14 := (Blk.p18 (HB.out.keep b1)).2.2.2.2.2.2.2.2.2.2.2.2.2.2.1
        have BW := hide (BW.out.trans (b1.mono (Nat.le_of_lt HB.out.lt)))
        clear b1
        cases y with
        | false =>
          go_wp2_with fail
          go_ret
          exact ⟨by first | rfl | simp, by rw [Hg.out]; exact BW.out⟩
        | true =>
          go_wp2_with fail
          refine (P2 _).out.mono ?_
          rintro e w2 ⟨rfl, rfl⟩
          go_wp2_with fail
          go_ret
          exact ⟨by first | rfl | simp, by rw [Hg.out]; exact BW.out⟩

end Go.Proofs.Ytkgidimaiedocaa

namespace Go.Proofs.Ytkgidimaiedocaa
set_option linter.unusedVariables false
set_option linter.unusedSimpArgs false
open Go.RowKit

def wel1 (present : Bool) (codes : List Int) : Bool := match codes with
  | [c] => decide (0 ≤ c ∧ c ≤ 5) && !(present && decide (0 < c))
  | _ => false
theorem wel1_one (present : Bool) (c : Int) : wel1 present [c] = (decide (0 ≤ c ∧ c ≤ 5) && !(present && decide (0 < c))) := rfl
def welcomeB (p : Pk) : Bool := wel1 p.present p.codes && bareB { p with present := false, codes := [] }

set_option maxRecDepth 100000 in
set_option maxHeartbeats 4000000 in
theorem mayWelcome_any (p : Pk) (C : Option Addr) (nc kc : Nat) (S : Option Addr) (ns ks : Nat) (w : World) (hM : PkM w p C nc kc S ns ks) : Calls Try.prog 74 #[pkA p C nc kc S ns ks] w fun e w' => e = .returned (.bool (welcomeB p)) ∧ Below w.heap.size w w' := by
  obtain ⟨hc, hk, hR, hs, -, -⟩ := hM
  have P2 := fun W => hide (bare_any { p with present := false, codes := [] } none 0 0 S ns ks W rfl hs)
  unfold welcomeB
  generalize bareB { p with present := false, codes := [] } = y at *
  obtain ⟨ty, dup, id, topic, payload, qos, retain, client, clean, alive, hasWill, hasUser, hasPass, user, pass, present, codes, subs⟩ := p
  simp only [pkA] at P2 hc hR ⊢
  clear hs hk
  have bad : nc ≠ 1 → wel1 present codes = false := by
    intro h
    match codes, hc with
    | [], _ => rfl
    | [c], hc => simp at hc; omega
    | _ :: _ :: _, _ => rfl
  by_cases hn : nc = 1
  case neg =>
    rw [bad hn]
    have q : ((nc : Int) != 1) = true := by rw [bne_iff_ne]; omega
    clear bad hc hR P2
    go_enter Try.func74, Try.ntmps74
    go_wp2_with fail
    go_ret
    exact ⟨rfl, (Below.refl _ _).alloc (Nat.le_refl _) _⟩
  case pos =>
  subst hn
  match codes, hc, hR with
  | [c], hc, hR =>
  rw [wel1_one]
  clear bad
  obtain ⟨b, o, rfl, hbl, hcell⟩ := hR.at_ (k := 0) (by omega)
  have cA : w.cell? ⟨b, o, none⟩ = some (.int .i64 c) := by have := hcell 0 (.int .i64 c) rfl; simpa using this
  have P1 := fun W => hide (upTo_any c 5 W)
  generalize hd5 : decide (0 ≤ c ∧ c ≤ 5) = d5 at *
  clear hcell hR hc
  go_enter Try.func74, Try.ntmps74
  go_upto_region 1 with fail
  generalize hW : w.alloc _ = W
  obtain ⟨g, hg, hB, bW, -⟩ := boxedP (p := ⟨ty, dup, id, topic, payload, qos, retain, client, clean, alive, hasWill, hasUser, hasPass, user, pass, present, [c], subs⟩) hW
  have cW : W.cell? ⟨b, o, none⟩ = some (.int .i64 c) := (bW.cell (p := ⟨b, o, none⟩) (by rw [← hg]; exact hbl)).trans cA
  rw [hg]
  have hbg : ¬ b = g := by omega
  have Hg := hide hg
  have c15 := (Blk.p18 hB).2.2.2.2.2.2.2.2.2.2.2.2.2.2.2.1
  have c16 := (Blk.p18 hB).2.2.2.2.2.2.2.2.2.2.2.2.2.2.2.2.1
  have f15 := hB.frozen 15
  have f16 := hB.frozen 16
  have HB := hide hB
  have BW := hide bW
  clear hW hg hB bW cA hbl
  go_wp2_with fail
  refine (P1 _).out.mono ?_
  rintro e w1 ⟨rfl, rfl⟩
  cases d5 with
  | false =>
    go_wp2_with fail
    go_ret
    exact ⟨rfl, by rw [Hg.out]; exact BW.out⟩
  | true =>
    cases present with
    | false =>
      go_upto_region 99 with (refine wpList_loadP rfl 35 (.tmp 1) rfl g 35 ⟨ty, dup, id, topic, payload, qos, retain, client, clean, alive, hasWill, hasUser, hasPass, user, pass, false, [], subs⟩ none 0 0 S ns ks rfl (Blk.set (Blk.set HB.out 15 _) 16 _) Try.underlying35 rfl (by kernel_rfl) ?_; simp only [pkA])
      refine (P2 _).out.mono ?_
      rintro e w2 ⟨rfl, b2⟩
      go_wp2_with fail
      go_ret
      exact ⟨by first | rfl | (simp; done) | (simp [h0]; done), by rw [Hg.out]; exact ((BW.out.setCell (p := ⟨g, 15, none⟩) (Nat.le_refl _) _).setCell (p := ⟨g, 16, none⟩) (Nat.le_refl _) _).trans (b2.mono (by simp; exact Nat.le_of_lt HB.out.lt))⟩
    | true =>
      by_cases h0 : 0 < c
      · go_wp2_with fail
        go_ret
        exact ⟨by simp [h0], by rw [Hg.out]; exact BW.out⟩
      · skip
        go_upto_region 99 with (refine wpList_loadP rfl 35 (.tmp 1) rfl g 35 ⟨ty, dup, id, topic, payload, qos, retain, client, clean, alive, hasWill, hasUser, hasPass, user, pass, false, [], subs⟩ none 0 0 S ns ks rfl (Blk.set (Blk.set HB.out 15 _) 16 _) Try.underlying35 rfl (by kernel_rfl) ?_; simp only [pkA])
        refine (P2 _).out.mono ?_
        rintro e w2 ⟨rfl, b2⟩
        go_wp2_with fail
        go_ret
        exact ⟨by first | rfl | (simp; done) | (simp [h0]; done), by rw [Hg.out]; exact ((BW.out.setCell (p := ⟨g, 15, none⟩) (Nat.le_refl _) _).setCell (p := ⟨g, 16, none⟩) (Nat.le_refl _) _).trans (b2.mono (by simp; exact Nat.le_of_lt HB.out.lt))⟩

end Go.Proofs.Ytkgidimaiedocaa

namespace Go.Proofs.Ytkgidimaiedocaa
set_option linter.unusedVariables false
set_option linter.unusedSimpArgs false
open Go.RowKit

def publishB (p : Pk) : Bool := msgB p.topic p.qos && (if 0 < p.qos then idB p.id && bareB { p with id := 0, dup := false, topic := [], payload := [], qos := 0, retain := false } else bareB { p with topic := [], payload := [], qos := 0, retain := false })

set_option maxRecDepth 100000 in
set_option maxHeartbeats 4000000 in
theorem mayPublish_any (p : Pk) (C : Option Addr) (nc kc : Nat) (S : Option Addr) (ns ks : Nat) (w : World) (hc : p.codes.length = nc) (hs : p.subs.length = ns) : Calls Try.prog 75 #[pkA p C nc kc S ns ks] w fun e w' => e = .returned (.bool (publishB p)) ∧ Below w.heap.size w w' := by
  have P1 := fun W => hide (isMessage_any p.topic p.payload p.qos p.retain W)
  have P2 := fun W => hide (isId_any p.id W)
  have P3 := fun W => hide (bare_any { p with id := 0, dup := false, topic := [], payload := [], qos := 0, retain := false } C nc kc S ns ks W hc hs)
  have P4 := fun W => hide (bare_any { p with topic := [], payload := [], qos := 0, retain := false } C nc kc S ns ks W hc hs)
  have HG := hide (show publishB p = (msgB p.topic p.qos && (if 0 < p.qos then idB p.id && bareB { p with id := 0, dup := false, topic := [], payload := [], qos := 0, retain := false } else bareB { p with topic := [], payload := [], qos := 0, retain := false })) from rfl)
  generalize publishB p = G at *
  generalize bareB { p with id := 0, dup := false, topic := [], payload := [], qos := 0, retain := false } = y3 at *
  generalize bareB { p with topic := [], payload := [], qos := 0, retain := false } = y4 at *
  clear hc hs
  obtain ⟨ty, dup, id, topic, payload, qos, retain, client, clean, alive, hasWill, hasUser, hasPass, user, pass, present, codes, subs⟩ := p
  simp only [pkA] at P1 P2 P3 P4 HG ⊢
  generalize msgB topic qos = m at *
  generalize idB id = z at *
  go_enter Try.func75, Try.ntmps75
  go_wp2_with fail
  generalize hW : w.alloc _ = W
  obtain ⟨g, hg, hB, bW, -⟩ := boxedP (p := ⟨ty, dup, id, topic, payload, qos, retain, client, clean, alive, hasWill, hasUser, hasPass, user, pass, present, codes, subs⟩) hW
  rw [hg]
  have Hg := hide hg
  have HB := hide hB
  have BW := hide bW
  clear hW hg hB bW
  refine (P1 _).out.mono ?_
  rintro e w1 ⟨rfl, b1⟩
  have hb1 := HB.out.keep b1
  have BW := hide (BW.out.trans (b1.mono (Nat.le_of_lt HB.out.lt)))
  obtain ⟨-, c1, c2, c3, c4, c5, c6, -, -, -, -, -, -, -, -, -, -, -⟩ := hb1.p18
  have f1 := hb1.frozen 1
  have f2 := hb1.frozen 2
  have f3 := hb1.frozen 3
  have f4 := hb1.frozen 4
  have f5 := hb1.frozen 5
  have f6 := hb1.frozen 6
  have HB := hide hb1
  clear b1 hb1
  cases m with
  | false =>
    clear c1 c2 c3 c4 c5 c6
    go_wp2_with fail
    go_ret
    exact ⟨by rw [HG.out]; rfl, by rw [Hg.out]; exact BW.out⟩
  | true =>
    by_cases h0 : 0 < qos
    · have HG := hide (show G = (z && y3) from by rw [HG.out, if_pos h0]; rfl)
      go_wp2_with fail
      refine (P2 _).out.mono ?_
      rintro e w2 ⟨rfl, rfl⟩
      cases z with
      | false =>
        go_wp2_with fail
        go_ret
        exact ⟨by rw [HG.out]; rfl, by rw [Hg.out]; exact BW.out⟩
      | true =>
        go_upto_region 8 with fail
        obtain ⟨V, hV⟩ : ∃ V, ((((((w1.setCell ⟨g, 2, none⟩ (.int .i64 0)).setCell ⟨g, 1, none⟩ (.bool false)).setCell ⟨g, 3, none⟩ (.string ⟨#[]⟩)).setCell ⟨g, 4, none⟩ (.string ⟨#[]⟩)).setCell ⟨g, 5, none⟩ (.int .i64 0)).setCell ⟨g, 6, none⟩ (.bool false)) = V := ⟨_, rfl⟩
        rw [hV]
        have HV := hide (show Blk V g 35 (pkVs ⟨ty, false, 0, [], [], 0, false, client, clean, alive, hasWill, hasUser, hasPass, user, pass, present, codes, subs⟩ C nc kc S ns ks) from by rw [← hV]; exact Blk.set (Blk.set (Blk.set (Blk.set (Blk.set (Blk.set HB.out 2 _) 1 _) 3 _) 4 _) 5 _) 6 _)
        have BV := hide (show Below g w V from by rw [← hV]; exact (((((BW.out.setCell (p := ⟨g, 2, none⟩) (Nat.le_refl _) _).setCell (p := ⟨g, 1, none⟩) (Nat.le_refl _) _).setCell (p := ⟨g, 3, none⟩) (Nat.le_refl _) _).setCell (p := ⟨g, 4, none⟩) (Nat.le_refl _) _).setCell (p := ⟨g, 5, none⟩) (Nat.le_refl _) _).setCell (p := ⟨g, 6, none⟩) (Nat.le_refl _) _)
        clear hV c1 c2 c3 c4 c5 c6 f1 f2 f3 f4 f5 f6
        refine wp_region_lit ?_
        refine wpList_loadP rfl 35 (.tmp 1) rfl g 35 ⟨ty, false, 0, [], [], 0, false, client, clean, alive, hasWill, hasUser, hasPass, user, pass, present, codes, subs⟩ C nc kc S ns ks rfl HV.out Try.underlying35 rfl (by kernel_rfl) ?_
        simp only [pkA]
        go_wp2_with fail
        refine (P3 _).out.mono ?_
        rintro e w4 ⟨rfl, b4⟩
        go_wp2_with fail
        go_ret
        exact ⟨by rw [HG.out]; rfl, by rw [Hg.out]; exact BV.out.trans (b4.mono (Nat.le_of_lt HV.out.lt))⟩
    · have HG := hide (show G = y4 from by rw [HG.out, if_neg h0]; rfl)
      go_upto_region 8 with fail
      obtain ⟨V, hV⟩ : ∃ V, ((((w1.setCell ⟨g, 3, none⟩ (.string ⟨#[]⟩)).setCell ⟨g, 4, none⟩ (.string ⟨#[]⟩)).setCell ⟨g, 5, none⟩ (.int .i64 0)).setCell ⟨g, 6, none⟩ (.bool false)) = V := ⟨_, rfl⟩
      rw [hV]
      have HV := hide (show Blk V g 35 (pkVs ⟨ty, dup, id, [], [], 0, false, client, clean, alive, hasWill, hasUser, hasPass, user, pass, present, codes, subs⟩ C nc kc S ns ks) from by rw [← hV]; exact Blk.set (Blk.set (Blk.set (Blk.set HB.out 3 _) 4 _) 5 _) 6 _)
      have BV := hide (show Below g w V from by rw [← hV]; exact (((BW.out.setCell (p := ⟨g, 3, none⟩) (Nat.le_refl _) _).setCell (p := ⟨g, 4, none⟩) (Nat.le_refl _) _).setCell (p := ⟨g, 5, none⟩) (Nat.le_refl _) _).setCell (p := ⟨g, 6, none⟩) (Nat.le_refl _) _)
      clear hV c1 c2 c3 c4 c5 c6 f1 f2 f3 f4 f5 f6
      refine wp_region_lit ?_
      refine wpList_loadP rfl 35 (.tmp 1) rfl g 35 ⟨ty, dup, id, [], [], 0, false, client, clean, alive, hasWill, hasUser, hasPass, user, pass, present, codes, subs⟩ C nc kc S ns ks rfl HV.out Try.underlying35 rfl (by kernel_rfl) ?_
      simp only [pkA]
      go_wp2_with fail
      refine (P4 _).out.mono ?_
      rintro e w4 ⟨rfl, b4⟩
      go_wp2_with fail
      go_ret
      exact ⟨by rw [HG.out]; rfl, by rw [Hg.out]; exact BV.out.trans (b4.mono (Nat.le_of_lt HV.out.lt))⟩

end Go.Proofs.Ytkgidimaiedocaa

namespace Go.Proofs.Ytkgidimaiedocaa
set_option linter.unusedVariables false
set_option linter.unusedSimpArgs false
open Go.RowKit

def grantB (p : Pk) : Bool := idB p.id && (!p.codes.isEmpty && (p.codes.all codeB && bareB { p with id := 0, codes := [] }))
/-- One filter. -/
def nameB (top : Int) (s : List UInt8 × Int) : Bool := fullB s.1 && decide (0 ≤ s.2 ∧ s.2 ≤ top)
def namesB (top : Int) (p : Pk) : Bool := idB p.id && (!p.subs.isEmpty && (p.subs.all (nameB top) && bareB { p with id := 0, subs := [] }))

set_option maxRecDepth 100000 in
set_option maxHeartbeats 4000000 in
theorem mayGrant_any (p : Pk) (C : Option Addr) (nc kc : Nat) (S : Option Addr) (ns ks : Nat) (w : World) (hM : PkM w p C nc kc S ns ks) (h65 : nc ≤ 140737488355328) : Calls Try.prog 78 #[pkA p C nc kc S ns ks] w fun e w' => e = .returned (.bool (grantB p)) ∧ Below w.heap.size w w' := by
  obtain ⟨hc, hk, hR, hs, -, -⟩ := hM
  have P1 := fun W => hide (isId_any p.id W)
  have P3 := fun W => hide (bare_any { p with id := 0, codes := [] } none 0 0 S ns ks W rfl hs)
  have PU := fun c W => hide (upTo_any c 2 W)
  have HG := hide (show grantB p = (idB p.id && (!p.codes.isEmpty && (p.codes.all codeB && bareB { p with id := 0, codes := [] }))) from rfl)
  generalize grantB p = G at *
  generalize bareB { p with id := 0, codes := [] } = y at *
  obtain ⟨ty, dup, id, topic, payload, qos, retain, client, clean, alive, hasWill, hasUser, hasPass, user, pass, present, codes, subs⟩ := p
  simp only [pkA] at P1 P3 hc hR HG ⊢
  generalize idB id = z at *
  have hce : codes.isEmpty = decide (nc = 0) := by cases codes <;> simp at hc <;> subst hc <;> simp
  rw [hce] at HG
  have HC := hide hc
  have HR := hide hR
  clear hs hk hc hR hce
  go_enter Try.func78, Try.ntmps78
  go_wp2_with fail
  generalize hW : w.alloc _ = W
  obtain ⟨g, hg, hB, bW, -⟩ := boxedP (p := ⟨ty, dup, id, topic, payload, qos, retain, client, clean, alive, hasWill, hasUser, hasPass, user, pass, present, codes, subs⟩) hW
  rw [hg]
  have Hg := hide hg
  have c2 := (Blk.p18 hB).2.2.1
  have c16 := (Blk.p18 hB).2.2.2.2.2.2.2.2.2.2.2.2.2.2.2.2.1
  have f2 := hB.frozen 2
  have f16 := hB.frozen 16
  have HB := hide hB
  have BW := hide bW
  clear hW hg hB bW
  refine (P1 _).out.mono ?_
  rintro e w1 ⟨rfl, rfl⟩
  cases z with
  | false =>
    have hG : G = false := by rw [HG.out]; rfl
    go_wp2_with fail
    go_ret
    exact ⟨by rw [hG]; rfl, by rw [Hg.out]; exact BW.out⟩
  | true =>
  by_cases h0 : nc = 0
  case pos =>
    have hG : G = false := by rw [HG.out, decide_eq_true h0]; rfl
    have q : ((nc : Int) == 0) = true := by simp [h0]
    clear h0
    go_wp2_with fail
    go_ret
    exact ⟨by rw [hG]; rfl, by rw [Hg.out]; exact BW.out⟩
  case neg =>
  have q : ((nc : Int) == 0) = false := by simp; omega
  have HG2 := hide (show G = (codes.all codeB && y) from by rw [HG.out, decide_eq_false h0]; rfl)
  clear HG
  clear h0
  go_wp2_with fail
  go_loopw [18] (fun i wr => ∃ k : Nat, i = .int .i64 (k : Int) ∧ k ≤ nc ∧ (codes.take k).all codeB = true ∧ wr = W) (fun i _ => nc - (intOf i).toNat)
  case atStart => exact ⟨0, rfl, by omega, rfl, rfl⟩
  case round =>
    obtain ⟨k, rfl, hkn, hall, rfl⟩ := hrel
    have Hall := hide hall
    clear hall
    by_cases hlt : k < nc
    · have q1 : (k : Int) < (nc : Int) := by omega
      have hlt' : k < codes.length := by rw [HC.out]; exact hlt
      obtain ⟨b, o, rfl, hbl, hcell⟩ := HR.out.at_ hlt
      have cA : wr.cell? ⟨b, o + k, none⟩ = some (.int .i64 codes[k]) := (BW.out.cell (p := ⟨b, o + k, none⟩) (by rw [← Hg.out]; exact hbl)).trans (hcell k _ (iv_get codes k hlt'))
      have htk : codes.take (k + 1) = codes.take k ++ [codes[k]] := (List.take_append_getElem hlt').symm
      have hmem : codes[k] ∈ codes := List.getElem_mem hlt'
      generalize codes[k] = c at *
      have Hmem := hide hmem
      have Htk := hide htk
      have Hno := hide (show codeB c = false → G = false from fun e => by
        rw [HG2.out, Bool.and_eq_false_iff, List.all_eq_false]
        exact .inl ⟨c, Hmem.out, by rw [e]; simp⟩)
      have Hyes := hide (show codeB c = true → (codes.take (k + 1)).all codeB = true from fun e => by rw [Htk.out, List.all_append, Hall.out]; simp [e])
      have PU := hide (PU c wr).out
      have Hc := hide (show codeB c = (decide (0 ≤ c ∧ c ≤ 2) || decide (c = 128)) from by
        unfold codeB
        by_cases h1 : 0 ≤ c
        · by_cases h2 : c ≤ 2
          · simp [h1, h2]
          · simp [h1, h2]
        · have h2 : ¬ c = 128 := by omega
          simp [h1, h2])
      generalize hd : decide (0 ≤ c ∧ c ≤ 2) = d at *
      clear hcell hlt' hbl htk hmem hd
      go_wp2_with fail
      refine PU.out.mono ?_
      rintro e w2 ⟨rfl, rfl⟩
      cases d with
      | true =>
        have hy := Hyes.out (by rw [Hc.out]; rfl)
        have Hy := hide hy
        clear hy
        go_wp2_with fail
        exact ⟨⟨k + 1, by go_num, by omega, Hy.out, by first | rfl | trivial⟩, by simp [intOf]; omega⟩
      | false =>
        by_cases h128 : c = 128
        · have q2 : (c != 128) = false := by simp [h128]
          have Hy := hide (Hyes.out (by rw [Hc.out, decide_eq_true h128]; rfl))
          clear h128
          go_wp2_with fail
          exact ⟨⟨k + 1, by go_num, by omega, Hy.out, by first | rfl | trivial⟩, by simp [intOf]; omega⟩
        · have q2 : (c != 128) = true := by rw [bne_iff_ne]; exact h128
          have Hn := hide (Hno.out (by rw [Hc.out, decide_eq_false h128]; rfl))
          clear h128
          go_wp2_with fail
          go_ret
          exact ⟨by rw [Hn.out]; rfl, by rw [Hg.out]; exact BW.out⟩
    · obtain rfl : k = nc := by omega
      have q1 : ¬ (k : Int) < (k : Int) := by omega
      have hfull : codes.all codeB = true := by
        have := Hall.out
        rwa [List.take_of_length_le (by rw [HC.out]; exact Nat.le_refl _)] at this
      have HG := hide (show G = y from by rw [HG2.out, hfull]; rfl)
      clear hfull
      go_upto_region 99 with (refine wpList_loadP rfl 35 (.tmp 1) rfl g 35 ⟨ty, dup, 0, topic, payload, qos, retain, client, clean, alive, hasWill, hasUser, hasPass, user, pass, present, [], subs⟩ none 0 0 S ns ks rfl (Blk.set (Blk.set HB.out 2 _) 16 _) Try.underlying35 rfl (by kernel_rfl) ?_; simp only [pkA])
      refine (P3 _).out.mono ?_
      rintro e w2 ⟨rfl, b2⟩
      go_wp2_with fail
      go_ret
      exact ⟨by rw [HG.out]; rfl, by rw [Hg.out]; exact ((BW.out.setCell (p := ⟨g, 2, none⟩) (Nat.le_refl _) _).setCell (p := ⟨g, 16, none⟩) (Nat.le_refl _) _).trans (b2.mono (by simp; exact Nat.le_of_lt HB.out.lt))⟩

end Go.Proofs.Ytkgidimaiedocaa
