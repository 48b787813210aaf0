/-
  What is proved here: the law PacketIds returns true for every packet and every two ints that come in, and writes nothing that was there. No condition of its own.
-/
import Derived.Test.YtjaaeiemgojnbaaAwake10
import Derived.Test.YtjaaeiemgojnbaaSmall10
namespace Go.Proofs.Ytjaaeiemgojnbaa
set_option linter.unusedVariables false
set_option linter.unusedSimpArgs false
open Go.RowKit

theorem id_may {p : Pk} (h : mayP p = true) (hi : p.id ≠ 0) (a : Int) : mayP { p with id := a } = idB a ∧ (bodyP { p with id := a }).length = (bodyP p).length := by
  obtain ⟨h1, h2, h3, h4⟩ := mayP_parts h
  obtain ⟨ty, dup, id, topic, payload, qos, retain, client, clean, alive, hasWill, hasUser, hasPass, user, pass, present, codes, subs⟩ := p
  simp only at h1 hi ⊢
  have hid := congrArg Pk.id h2
  have ht : ty = 3 ∨ (ty = 4 ∨ ty = 5 ∨ ty = 6 ∨ ty = 7 ∨ ty = 11) ∨ (ty = 8 ∨ ty = 10) ∨ ty = 9 := by
    unfold usedP at hid
    simp only at hid
    repeat' split at hid
    all_goals first | omega | (simp [zeroP] at hid; omega)
  have hq : ty = 3 → 0 < qos := fun e => by
    subst e
    unfold okP at h3
    simp [pubB] at h3
    omega
  have hu : (⟨ty, dup, a, topic, payload, qos, retain, client, clean, alive, hasWill, hasUser, hasPass, user, pass, present, codes, subs⟩ : Pk) = usedP ⟨ty, dup, a, topic, payload, qos, retain, client, clean, alive, hasWill, hasUser, hasPass, user, pass, present, codes, subs⟩ := by
    unfold usedP at h2 ⊢
    rcases ht with rfl | (rfl | rfl | rfl | rfl | rfl) | (rfl | rfl) | rfl <;> simp [zeroP] at h2 ⊢ <;> simp [h2]
  have hl : (bodyP ⟨ty, dup, a, topic, payload, qos, retain, client, clean, alive, hasWill, hasUser, hasPass, user, pass, present, codes, subs⟩).length = (bodyP ⟨ty, dup, id, topic, payload, qos, retain, client, clean, alive, hasWill, hasUser, hasPass, user, pass, present, codes, subs⟩).length := by
    have hw : ∀ n, (wordI n).length = 2 := fun n => rfl
    unfold bodyP
    rcases ht with rfl | (rfl | rfl | rfl | rfl | rfl) | (rfl | rfl) | rfl <;> simp [hw]
    have := hq rfl
    simp [this, hw]
  have ho : okP ⟨ty, dup, a, topic, payload, qos, retain, client, clean, alive, hasWill, hasUser, hasPass, user, pass, present, codes, subs⟩ = idB a := by
    unfold okP at h3 ⊢
    rcases ht with rfl | (rfl | rfl | rfl | rfl | rfl) | (rfl | rfl) | rfl
    · have := hq rfl
      simp [pubB] at h3 ⊢
      simp [h3, this]
      omega
    · simp
    · simp
    · simp
    · simp
    · simp
    · simp [subsB] at h3 ⊢
      intro _
      simpa using h3.2
    · simp [subsB] at h3 ⊢
      intro _
      simpa using h3.2
    · simp [codesB] at h3 ⊢
      intro _
      simpa using h3.2
  refine ⟨?_, hl⟩
  unfold mayP
  rw [hl, ← hu, ho]
  simp [h1, h4]

theorem idB_no {a : Int} (h : idB a = false) : a < 1 ∨ 65535 < a := by
  simp [idB] at h
  omega
theorem idB_yes {a : Int} (h : idB a = true) : 1 ≤ a ∧ a ≤ 65535 := by
  simpa [idB] using h
/-- What Bytes returns where only the Id is another one. -/
def RetId (p : Pk) (a : Int) (W : World) (e : Ending) (w' : World) : Prop := ∃ A n c zs err, e = .returned (.tuple #[.slice A n c, .int .i64 err]) ∧ Rd w' A n (bv zs) ∧ ((idB a = true ∧ err = 0 ∧ zs = layP { p with id := a } ∧ n = (layP p).length) ∨ (idB a = false ∧ err = 1)) ∧ Below W.heap.size W w'
theorem bytes_id (p : Pk) (h : mayP p = true) (hi : p.id ≠ 0) (hs : PkS p) (a : Int) (C : Option Addr) (nc kc : Nat) (S : Option Addr) (ns ks : Nat) (W : World) (hM : PkM W p C nc kc S ns ks) : Calls Try.prog 12 #[pkA { p with id := a } C nc kc S ns ks] W (RetId p a W) := by
  have hB := bytes_any { p with id := a } C nc kc S ns ks W hM hs
  refine hB.mono fun e w' hh => ?_
  obtain ⟨hm, hl⟩ := id_may h hi a
  unfold ByPost at hh
  rw [hm] at hh
  by_cases ha : idB a = true
  · rw [if_pos ha] at hh
    obtain ⟨A, c, he, ho, hb⟩ := hh
    have hn : (layP { p with id := a }).length = (layP p).length := by rw [lay_len, lay_len, hl]
    exact ⟨A, _, c, _, 0, he, own_rd ho, .inl ⟨ha, rfl, rfl, hn⟩, hb⟩
  · rw [if_neg ha] at hh
    exact ⟨none, 0, 0, [], 1, hh.1, Rd.nil _ _, .inr ⟨by simpa using ha, rfl⟩, hh.2⟩

set_option maxRecDepth 100000 in
set_option maxHeartbeats 4000000 in
theorem ids10_walk (p : Pk) (C : Option Addr) (nc kc : Nat) (S : Option Addr) (ns ks : Nat) (a b : Int) (w : World) (hM : PkM w p C nc kc S ns ks) (hL : PkL p) : Calls Try.prog 9 #[pkA p C nc kc S ns ks, .int .i64 a, .int .i64 b] w fun e w' => e = .returned (.bool true) ∧ Below w.heap.size w w' := by
  have PS := fun W hM => small_any p C nc kc S ns ks W hM hL
  have HM := hide (fun W (hb : Below w.heap.size w W) => hM.keep hb)
  have AW := awake_any
  clear hM hL
  simp only [pkA] at PS ⊢
  go_enter Try.func9, Try.ntmps9
  go_upto_region 1 with fail
  generalize hW : w.alloc _ = W
  obtain ⟨g, hg, hB, bW, -⟩ := boxedP (p := p) hW
  have bw : Below w.heap.size w W := by rw [hg]; exact bW
  have hgw : w.heap.size ≤ g := by omega
  rw [hg]
  have HB := hide hB
  have BW := hide bw
  have PS := PS W (HM.out W bw)
  clear hW hg hB bW bw
  refine wp_region_lit ?_
  refine wpList_loadP rfl 27 (.tmp 3) rfl g 27 p C nc kc S ns ks rfl HB.out Try.underlying27 rfl (by kernel_rfl) ?_
  go_wp2_with fail
  refine PS.mono ?_
  rintro e w1 ⟨rfl, b1⟩
  have HB := hide (HB.out.keep b1)
  have BW := hide (below_on BW.out b1)
  have cI : w1.cell? ⟨g, 2, none⟩ = some (.int .i64 p.id) := (Blk.p18 HB.out).2.2.1
  clear b1 PS
  by_cases hs : smallB p = true
  case neg =>
    rw [Bool.not_eq_true] at hs
    rw [hs]
    clear hs
    go_wp2_with fail
    go_ret
    exact ⟨rfl, BW.out⟩
  case pos =>
  rw [hs]
  by_cases h0 : p.id = 0
  · have q0 : (p.id == 0) = true := by simp [h0]
    clear hs h0
    go_wp2_with fail
    go_ret
    exact ⟨rfl, BW.out⟩
  have q0 : (p.id == 0) = false := by rw [beq_eq_false_iff_ne]; exact h0
  have PC := check_any p C nc kc S ns ks w1 (HM.out w1 BW.out) (smallB_short hs)
  by_cases hm : mayP p = true
  case neg =>
    rw [if_neg hm] at PC
    clear hs h0 hm
    go_upto_region 3 with (first
      | (refine wpList_loadPg (by rfl) 27 (.tmp 3) rfl g 27 p C nc kc S ns ks rfl HB.out Try.underlying27 rfl (by kernel_rfl) ?_)
      | (go_at_call 11; refine PC.mono ?_; rintro e w2 ⟨rfl, b2⟩))
    go_ret
    exact ⟨rfl, below_on BW.out b2⟩
  case pos =>
  rw [if_pos hm] at PC
  have HI := hide (fun a W hM => bytes_id p hm h0 (smallB_short hs) a C nc kc S ns ks W hM)
  have HJ := hide (fun (ha : idB a = true) (hb : idB b = true) => show layP { p with id := a } = layP { p with id := b } → a = b from fun e => by
    have := lay_inj (by rw [(id_may hm h0 a).1]; exact ha) (by rw [(id_may hm h0 b).1]; exact hb) e
    exact congrArg Pk.id this)
  clear hs h0 hm
  go_upto_region 3 with (first
    | (refine wpList_loadPg (by rfl) 27 (.tmp 3) rfl g 27 p C nc kc S ns ks rfl HB.out Try.underlying27 rfl (by kernel_rfl) ?_)
    | (go_at_call 11; refine PC.mono ?_; rintro e w2 ⟨rfl, b2⟩))
  have HB := hide (HB.out.keep b2)
  have BW := hide (below_on BW.out b2)
  clear b2 PC cI AW
  go_upto_region 4 with (first
    | (refine wpList_loadP rfl 27 (.tmp 3) rfl g 27 p C nc kc S ns ks rfl HB.out Try.underlying27 rfl (by kernel_rfl) ?_)
    | (refine wpList_storeQ rfl 27 (.tmp 7) (.tmp 25) rfl w2.heap.size 27 (zeroP 0) none 0 0 none 0 0 p C nc kc S ns ks rfl rfl (Blk.new w2 27 (pkVs (zeroP 0) none 0 0 none 0 0)) (by kernel_rfl) ?_; intro V bV BV))
  obtain ⟨h, hh⟩ : ∃ h, w2.heap.size = h := ⟨_, rfl⟩
  have hgh : g < h := by rw [← hh]; exact HB.out.lt
  have bW : Below w2.heap.size w2 V := But.below ((Below.refl _ _).alloc (Nat.le_refl _) _) BV (fun i e => by omega) (by simp)
  rw [hh] at bV ⊢
  have HB := hide (HB.out.keep bW)
  have BW := hide (below_on BW.out bW)
  have hwh : w.heap.size ≤ h := by omega
  have HQ := hide bV
  have f1 := HB.out.frozen 2
  have l1 := HB.out.lt
  have cI : V.cell? ⟨g, 2, none⟩ = some (.int .i64 p.id) := (Blk.p18 HB.out).2.2.1
  clear bV BV bW hh
  go_upto_region 5 with fail
  generalize hX : V.setCell ⟨g, 2, none⟩ (.int .i64 a) = X
  have HB := hide (show Blk X g 27 (pkVs { p with id := a } C nc kc S ns ks) from by rw [← hX]; exact HB.out.set 2 _)
  have HQ := hide (show Blk X h 27 (pkVs p C nc kc S ns ks) from by rw [← hX]; exact HQ.out.oth (by omega) 2 _)
  have BW := hide (show Below w.heap.size w X from by rw [← hX]; exact BW.out.setCell hgw _)
  clear hX f1 l1 cI
  have f1 := HQ.out.frozen 2
  have l1 := HQ.out.lt
  have cI : X.cell? ⟨h, 2, none⟩ = some (.int .i64 p.id) := (Blk.p18 HQ.out).2.2.1
  go_upto_region 6 with fail
  generalize hY : X.setCell ⟨h, 2, none⟩ (.int .i64 b) = Y
  have HB := hide (show Blk Y g 27 (pkVs { p with id := a } C nc kc S ns ks) from by rw [← hY]; exact HB.out.oth (by omega) 2 _)
  have HQ := hide (show Blk Y h 27 (pkVs { p with id := b } C nc kc S ns ks) from by rw [← hY]; exact HQ.out.set 2 _)
  have BW := hide (show Below w.heap.size w Y from by rw [← hY]; exact BW.out.setCell hwh _)
  clear hY f1 l1 cI
  have PA := HI.out a Y (HM.out Y BW.out)
  refine wp_region_lit ?_
  refine wpList_loadP rfl 27 (.tmp 3) rfl g 27 { p with id := a } C nc kc S ns ks rfl HB.out Try.underlying27 rfl (by kernel_rfl) ?_
  go_wp2_with fail
  refine PA.mono ?_
  rintro e w3 ⟨A, n, c, zs, err, rfl, hr, hz, b3⟩
  have HZ := hide hz
  have HR := hide hr
  have HQ := hide (HQ.out.keep b3)
  have BW := hide (below_on BW.out b3)
  clear hz hr b3 PA HB
  go_upto_region 7 with fail
  have PB := HI.out b w3 (HM.out w3 BW.out)
  refine wp_region_lit ?_
  refine wpList_loadP rfl 27 (.tmp 7) rfl h 27 { p with id := b } C nc kc S ns ks rfl HQ.out Try.underlying27 rfl (by kernel_rfl) ?_
  go_wp2_with fail
  refine PB.mono ?_
  rintro e w4 ⟨A2, n2, c2, zs2, err2, rfl, hr2, hz2, b4⟩
  have HZ2 := hide hz2
  have HR2 := hide hr2
  have HR := hide (HR.out.keep b4)
  have BW := hide (below_on BW.out b4)
  have AW := awake_any w4
  clear hz2 hr2 b4 PB HQ HI
  go_upto_region 8 with fail
  rcases HZ.out with ⟨ha, rfl, rfl, rfl⟩ | ⟨ha, rfl⟩
  · obtain ⟨a1, a2⟩ := idB_yes ha
    rcases HZ2.out with ⟨hb, rfl, rfl, rfl⟩ | ⟨hb, rfl⟩
    · obtain ⟨b1, b2⟩ := idB_yes hb
      have Hn := HJ.out ha hb
      by_cases hab : a = b
      · subst hab
        clear HZ HZ2 HJ Hn ha hb
        generalize layP { p with id := a } = zs at *
        generalize (layP p).length = N at *
        go_wp2_with fail
        refine AW.mono ?_
        rintro e w5 ⟨rfl, b5⟩
        have h1 := rdStr (HR.out.keep b5) c
        have h2 := rdStr (HR2.out.keep b5) c2
        have BW := hide (below_on BW.out b5)
        clear b5
        go_wp2_with fail
        go_ret
        exact ⟨by first | rfl | (simp; done) | (rw [h1]; done) | (rw [h1]; rfl), BW.out⟩
      · have q1 : (a == b) = false := by rw [beq_eq_false_iff_ne]; exact hab
        have HNe := hide (show (layP { p with id := a } == layP { p with id := b }) = false from by
          rw [beq_eq_false_iff_ne]
          exact fun e => hab (Hn e))
        clear HZ HZ2 HJ Hn ha hb hab
        generalize layP { p with id := a } = zs at *
        generalize layP { p with id := b } = zs2 at *
        generalize (layP p).length = N at *
        have q2 : (zs == zs2) = false := HNe.out
        have q3 : (!(zs == zs2)) = true := by rw [q2]; rfl
        go_wp2_with fail
        refine AW.mono ?_
        rintro e w5 ⟨rfl, b5⟩
        have h1 := rdStr (HR.out.keep b5) c
        have h2 := rdStr (HR2.out.keep b5) c2
        have BW := hide (below_on BW.out b5)
        clear b5
        go_wp2_with fail
        go_ret
        exact ⟨by first | rfl | (simp; done) | (rw [q2]; done) | (rw [q2]; rfl), BW.out⟩
    · have hb := idB_no hb
      clear HZ HZ2 HJ ha
      generalize layP { p with id := a } = zs at *
      generalize (layP p).length = N at *
      rcases hb with hb | hb
      · skip
        go_wp2_with fail
        refine AW.mono ?_
        rintro e w5 ⟨rfl, b5⟩
        have h1 := rdStr (HR.out.keep b5) c
        have h2 := rdStr (HR2.out.keep b5) c2
        have BW := hide (below_on BW.out b5)
        clear b5
        go_wp2_with fail
        go_ret
        exact ⟨by first | rfl | (simp; done) | (rw [h1]; done) | (rw [h1]; rfl), BW.out⟩
      · skip
        go_wp2_with fail
        refine AW.mono ?_
        rintro e w5 ⟨rfl, b5⟩
        have h1 := rdStr (HR.out.keep b5) c
        have h2 := rdStr (HR2.out.keep b5) c2
        have BW := hide (below_on BW.out b5)
        clear b5
        go_wp2_with fail
        go_ret
        exact ⟨by first | rfl | (simp; done) | (rw [h1]; done) | (rw [h1]; rfl), BW.out⟩
  · have ha := idB_no ha
    clear HZ HJ
    rcases HZ2.out with ⟨hb, rfl, rfl, rfl⟩ | ⟨hb, rfl⟩
    · obtain ⟨b1, b2⟩ := idB_yes hb
      clear HZ2 hb
      generalize layP { p with id := b } = zs2 at *
      generalize (layP p).length = N at *
      rcases ha with ha | ha
      · skip
        go_wp2_with fail
        refine AW.mono ?_
        rintro e w5 ⟨rfl, b5⟩
        have h1 := rdStr (HR.out.keep b5) c
        have h2 := rdStr (HR2.out.keep b5) c2
        have BW := hide (below_on BW.out b5)
        clear b5
        go_wp2_with fail
        go_ret
        exact ⟨by first | rfl | (simp; done) | (rw [h1]; done) | (rw [h1]; rfl), BW.out⟩
      · skip
        go_wp2_with fail
        refine AW.mono ?_
        rintro e w5 ⟨rfl, b5⟩
        have h1 := rdStr (HR.out.keep b5) c
        have h2 := rdStr (HR2.out.keep b5) c2
        have BW := hide (below_on BW.out b5)
        clear b5
        go_wp2_with fail
        go_ret
        exact ⟨by first | rfl | (simp; done) | (rw [h1]; done) | (rw [h1]; rfl), BW.out⟩
    · have hb := idB_no hb
      clear HZ2
      rcases ha with ha | ha
      · rcases hb with hb | hb
        · skip
          go_wp2_with fail
          refine AW.mono ?_
          rintro e w5 ⟨rfl, b5⟩
          have h1 := rdStr (HR.out.keep b5) c
          have h2 := rdStr (HR2.out.keep b5) c2
          have BW := hide (below_on BW.out b5)
          clear b5
          go_wp2_with fail
          go_ret
          exact ⟨by first | rfl | (simp; done) | (rw [h1]; done) | (rw [h1]; rfl), BW.out⟩
        · skip
          go_wp2_with fail
          refine AW.mono ?_
          rintro e w5 ⟨rfl, b5⟩
          have h1 := rdStr (HR.out.keep b5) c
          have h2 := rdStr (HR2.out.keep b5) c2
          have BW := hide (below_on BW.out b5)
          clear b5
          go_wp2_with fail
          go_ret
          exact ⟨by first | rfl | (simp; done) | (rw [h1]; done) | (rw [h1]; rfl), BW.out⟩
      · rcases hb with hb | hb
        · skip
          go_wp2_with fail
          refine AW.mono ?_
          rintro e w5 ⟨rfl, b5⟩
          have h1 := rdStr (HR.out.keep b5) c
          have h2 := rdStr (HR2.out.keep b5) c2
          have BW := hide (below_on BW.out b5)
          clear b5
          go_wp2_with fail
          go_ret
          exact ⟨by first | rfl | (simp; done) | (rw [h1]; done) | (rw [h1]; rfl), BW.out⟩
        · skip
          go_wp2_with fail
          refine AW.mono ?_
          rintro e w5 ⟨rfl, b5⟩
          have h1 := rdStr (HR.out.keep b5) c
          have h2 := rdStr (HR2.out.keep b5) c2
          have BW := hide (below_on BW.out b5)
          clear b5
          go_wp2_with fail
          go_ret
          exact ⟨by first | rfl | (simp; done) | (rw [h1]; done) | (rw [h1]; rfl), BW.out⟩

end Go.Proofs.Ytjaaeiemgojnbaa
