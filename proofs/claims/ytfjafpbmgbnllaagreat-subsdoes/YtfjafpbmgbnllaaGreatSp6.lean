/-
  What is proved here: what the index's greatest and Find return. Conditions: texts of at most 65535 bytes; at most a million calls.
-/
import Derived.Test.YtfjafpbmgbnllaaGreatSp4
import Derived.Test.YtfjafpbmgbnllaaGreatSp5
import Derived.Test.YtfjafpbmgbnllaaGreatTp8
namespace Go.Proofs.YtfjafpbmgbnllaaGreat
set_option linter.unusedVariables false
set_option linter.unusedSimpArgs false
open Go.RowKit Go.Maps

theorem field_q (q t : Int) (w : World) : (Instr.field 61 (.agg #[.int .i64 q, .int .i64 t]) 0).run Tryz.prog w = .ok (.int .i64 q) w := by kernel_rfl
theorem field_t (q t : Int) (w : World) : (Instr.field 61 (.agg #[.int .i64 q, .int .i64 t]) 1).run Tryz.prog w = .ok (.int .i64 t) w := by kernel_rfl
theorem below_iter {w W V : World} {r : Nat} (b : Below w.heap.size w W) (hg : W.grownBy V (some r)) (hr : w.heap.size ≤ r) : Below w.heap.size w V :=
  But.below b (But.grown (S := fun i => i = r) hg (fun k e => by injection e with e; exact e.symm)) (fun i e => by have e' : i = r := e; omega) b.size
theorem most1_le {L : List PE} {c n f : List UInt8} {b : Int} (h : qOf L c f ≤ b) : most1 L c n b f = b := by
  unfold most1
  split
  · omega
  · rfl
set_option maxHeartbeats 4000000 in
set_option maxRecDepth 100000 in
theorem pGreatest_any (m : Px) (c n : List UInt8) (g : Nat) (w : World) (h : PxA w m) (hg : m.G c = some g) (hc : c.length ≤ 65535) (hn : n.length ≤ 65535) (hnm : nameL n = true) (hK : m.K ≤ 1000000) :
    Calls Tryz.prog 25 #[.pointer (some ⟨m.B, 0, none⟩), .string (str c), .string (str n)] w fun e w' => e = .returned (.int .i64 ((bestQ (ses m.L) n c).getD (-1))) ∧ Below w.heap.size w w' := by
  have H := hide h
  have hfq := field_q
  have hBl := h.blk.lt
  have k1 : w.cell? ⟨m.B, 1, none⟩ = some (.map (some m.gf)) := h.blk.cell 1
  have hl := h.lookF hc
  rw [hg] at hl
  obtain ⟨g1, g2, ⟨DI, hI, hI2⟩, _⟩ := h.im c g hg
  have HI := hide hI
  have HI2 := hide hI2
  have HNm := hide hnm
  clear h hI hI2 g1 g2 hnm
  go_enter Tryz.func25, Tryz.ntmps25
  go_wp2_with (at_range; refine wpList_range_own _ rfl _ 66 rfl 9 80 st_keyed Tryz.underlying66 unitElem g m.K DI rfl HI.out ?_; intro w0 hrg0 hg0 hs0)
  go_frame
  clear hl k1
  go_loopw [7] (fun mv wr => ∃ left cnt ss, mv = .int .i64 (mostL m.L c n ss) ∧ wr.ranges Tryz.prog 9 unitElem g w.heap.size m.K DI left cnt ∧ Collected DI left ss ∧ Below w.heap.size w wr) (fun _ wr => wr.rangeLeft g w.heap.size)
  case atStart =>
    exact ⟨_, _, [], rfl, hrg0, Collected.start DI, ⟨hg0.os, hg0.tape, hg0.output, hg0.size, fun i hi => hg0.block i hi (by simp)⟩⟩
  case round =>
    obtain ⟨left, cnt, ss, rfl, hrg, hC, hbel⟩ := hrel
    have HRg := hide hrg
    have HC := hide hC
    have HB := hide hbel
    clear hrg hC hbel hrg0 hg0 hs0
    obtain ⟨M, hM⟩ : ∃ M, mostL m.L c n ss = M := ⟨_, rfl⟩
    rw [hM]
    have HM := hide hM
    have hMg : -1 ≤ M := by rw [← hM]; exact mostL_ge _ _ _ _
    clear hM
    go_wp2_with (at_next; refine wpList_next_ranges _ rfl _ rfl 9 st_keyed unitElem (fun x : List UInt8 => .string (str x)) (fun _ : Unit => .agg #[]) str_keyInv unit_inv g w.heap.size m.K DI left cnt rfl HRg.out ?_ ?_)
    · intro hc0 hl0
      have hperm : ss.Perm (fsOf m.L c) := (HC.out.perm HI.out st_keyed Tryz.underlying9 hl0).trans (HI2.out.keys HI.out H.out.ok).symm
      have hR := hide ((HM.out.symm.trans (H.out.ok.most c n hperm)).symm)
      clear hc0 hl0 hperm
      go_wp2_with fail
      go_ret
      exact ⟨by rw [hR.out]; rfl, HB.out⟩
    · intro x u kl y w2 cnt2 hkey hlk hv hat hrg2 hlt hg2 hs2 hen
      obtain ⟨x', ex, rfl, _⟩ := Maps.keyOf_str Tryz.underlying9 hkey
      obtain rfl : x = x' := encStr_inj ex
      have hhad : hadP m.L c x = true := by
        have h1 : has DI (.string x) = true := has_true_of_atKey hat
        rwa [HI2.out x] at h1
      obtain ⟨e, he, hec, hef⟩ := (hadP_iff _ _ _).1 hhad
      have hx : x.length ≤ 65535 := by rw [← hef]; exact (H.out.ok.ok e he).2.1
      have hfx : filterL x = true := by rw [← hef]; exact (H.out.ok.ok e he).1
      have hQ : 0 ≤ qOf m.L c x ∧ qOf m.L c x ≤ 2 := by rw [← hec, ← hef, H.out.ok.qOfE he]; exact (H.out.ok.ok e he).2.2.2
      have hb2 := below_iter HB.out hg2 (Nat.le_refl _)
      have hP2 := H.out.keep hb2
      have k20 : w2.cell? ⟨m.B, 0, none⟩ = some (.map (some m.gw)) := hP2.blk.cell 0
      have hl2 : (Instr.lookup 53 (.map (some m.gw)) (.agg #[.string (str c), .string (str x)]) false).run Tryz.prog w2 = .ok (.agg #[.int .i64 (qOf m.L c x), .int .i64 (trn m.L c x 0)]) w2 := hP2.look1 hc hx
      obtain ⟨Q, hQe⟩ : ∃ Q, qOf m.L c x = Q := ⟨_, rfl⟩
      obtain ⟨T, hTe⟩ : ∃ T, trn m.L c x 0 = T := ⟨_, rfl⟩
      rw [hQe, hTe] at hl2
      rw [hQe] at hQ
      have HQ := hide hQe
      have HR2 := hide hrg2
      have HL := hide hlt
      have HB2 := hide hb2
      have HC2 := hide (HC.out.step hlk hat)
      have HFx := hide hfx
      have hsn := hide (mostL_snoc m.L c n ss x)
      clear hkey hlk hv hat hrg2 hlt hg2 hs2 hb2 ex hP2 hQe hTe hfx hhad he hec hef
      by_cases hle : Q ≤ M
      · go_wp2_with fail
        go_roundw
        case rel => exact ⟨_, cnt2, ss ++ [x], by rw [hsn.out, HM.out, most1_le (by rw [HQ.out]; exact hle)], HR2.out, HC2.out, HB2.out⟩
        case measure =>
          rw [HR2.out.left_eq, HRg.out.left_eq]
          exact HL.out
      · have PM := matches_any x n (by omega) (by omega) w2
        have htk : tkL x n = matchL x n := by unfold tkL; rw [HFx.out, HNm.out]; rfl
        rw [htk] at PM
        have HTk := hide htk
        clear htk
        cases hmt : matchL x n with
        | true =>
          rw [hmt] at PM
          have Hmt := hide hmt
          clear hmt
          go_wp2_with (go_at_call 41; refine PM.mono ?_; rintro e w3 ⟨rfl, b3⟩)
          have hr3 := HR2.out.kept (below_grown b3) (by simp) (by simp)
          go_roundw
          case rel =>
            refine ⟨_, cnt2, ss ++ [x], ?_, hr3, HC2.out, below_on HB2.out b3⟩
            rw [hsn.out, HM.out]
            unfold most1
            rw [if_pos Hmt.out, HQ.out, Int.max_eq_right (by omega)]
          case measure =>
            rw [hr3.left_eq, HRg.out.left_eq]
            exact HL.out
        | false =>
          rw [hmt] at PM
          have Hmt := hide hmt
          clear hmt
          go_wp2_with (go_at_call 41; refine PM.mono ?_; rintro e w3 ⟨rfl, b3⟩)
          have hr3 := HR2.out.kept (below_grown b3) (by simp) (by simp)
          go_roundw
          case rel =>
            refine ⟨_, cnt2, ss ++ [x], ?_, hr3, HC2.out, below_on HB2.out b3⟩
            rw [hsn.out, HM.out]
            unfold most1
            rw [if_neg (by rw [Hmt.out]; simp)]
          case measure =>
            rw [hr3.left_eq, HRg.out.left_eq]
            exact HL.out
end Go.Proofs.YtfjafpbmgbnllaaGreat
