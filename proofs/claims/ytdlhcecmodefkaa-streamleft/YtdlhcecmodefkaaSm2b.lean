/-
  What is proved here: what stream's cut returns: the packets, and what is left. Condition: at most 65535 bytes.
-/
import Derived.Test.YtdlhcecmodefkaaSm2
import Derived.Great.BuildSlice
namespace Go.Proofs.Ytdlhcecmodefkaa
set_option linter.unusedVariables false
set_option linter.unusedSimpArgs false
open Go.RowKit

/-- A slice of one whole row. -/
theorem wpList_bs1 {P : Program} {w : World} {ops : Array Oper} {rest : List Oper} {o : Oper} {a : Act} {Q : Exit → Act → World → Prop} (hgd : o.guard = none) (t e : TypeId) (x : Operand) (ho : o.op = .buildSlice t 1 #[(0, x)])
    (hu : P.underlying t = some (.slice e)) (s : Nat) (hs0 : 0 < s) (hs : s ≤ 16777216) (hinfo : (P.info? e).map (fun i => (i.size, i.zero.isSome)) = some (s, true)) (cs : Array Value) (hcs : cs.size = s) (hx : a.eval x = .agg cs)
    (h : wpList P ops Q rest (a.put o.dst (.slice (some ⟨w.heap.size, 0, none⟩) 1 1)) (w.alloc (.cells cs e))) : wpList P ops Q (o :: rest) a w := by
  cases hie : P.info? e with
  | none => rw [hie] at hinfo; cases hinfo
  | some ie =>
    simp only [hie, Option.map_some, Option.some.injEq, Prod.mk.injEq] at hinfo
    obtain ⟨h1, h2⟩ := hinfo
    obtain ⟨z, hz⟩ := Option.isSome_iff_exists.1 h2
    refine wpList_buildSlice hgd t e 1 #[(0, x)] ho cs ie z hu hie hz (by rw [h1]; omega) (by rw [h1]; omega) ?_ h
    have hw := Great.fill_whole (s := ie.size) (by omega) [Value.agg cs] ((Array.range (1 * ie.size)).map (z.cells[· % z.cells.size]!)) (by intro v hv; simp at hv; subst hv; show cs.size = _; omega) (by simp)
    have e1 : ([Value.agg cs].flatMap fun v => v.cells.toList).toArray = cs := by simp [Value.cells]
    rw [e1] at hw
    rw [← hw]
    congr 1
    simp [hx]
/-- What cut answers. -/
def RetCut11 (most : Nat) (C : Option Addr) (n c : Nat) (xs : List UInt8) (w : World) (e : Ending) (w' : World) : Prop :=
  ∃ O ok rs D dn dk, e = .returned (.tuple #[.slice O rs.length ok, .slice D dn dk, .int .i64 (erP most xs)]) ∧ rs.map PkRow.p = toP most xs ∧ PRd w' O rs ∧ NewAt w O ∧ (∀ r ∈ rs, r.new w) ∧ dn = (lfP most xs).length ∧ dn ≤ dk ∧ InB11 C D ∧ Rd w' D dn (bv (lfP most xs)) ∧ (rs = [] → brP most xs = false → D = C ∧ dn = n ∧ dk = c) ∧ (brP most xs = true → D = none ∧ dn = 0 ∧ dk = 0) ∧ Below w.heap.size w w'

set_option maxRecDepth 100000 in
set_option maxHeartbeats 4000000 in
theorem cut11_any (most : Nat) (hm : most ≤ 268435460) (C : Option Addr) (n c : Nat) (xs : List UInt8) (w : World) (hr : Rd w C n (bv xs)) (hc : n ≤ c) (hn : n ≤ 65535) :
    Calls Try.prog 48 #[.slice C n c, .int .i64 (most : Nat)] w (RetCut11 most C n c xs w) := by
  go_enter Try.func48, Try.ntmps48
  go_wp2
  go_loopw [0, 7] (fun v tv wr => ∃ D dn dk ys O ok rs, v = .slice D dn dk ∧ tv = .slice O (List.length rs) ok ∧ CutSt11 most C n c xs w D dn dk ys O ok rs wr) (fun v _ _ => slLen11 v)
  case atStart => exact ⟨C, n, c, xs, none, 0, [], rfl, rfl, ⟨hc, hr, InB11.refl _, rfl, rfl, by simp, World.ownsRow_nil _ _ _ _, by simp, fun _ => ⟨rfl, rfl, rfl⟩, Below.refl _ _⟩⟩
  case round =>
    obtain ⟨D, dn, dk, ys, O, ok, rs, rfl, rfl, st⟩ := hrel
    have hl := st.len
    have hcap := st.cap
    have hfew := st.few
    have HZ := first11_any D dn dk most ys wr (st.rd.keep st.bel) hl hcap (by omega) hm
    have St := hide st
    clear hr st
    unfold FsPost at HZ
    cases hnx : stNx most ys with
    | wait =>
      rw [hnx] at HZ
      obtain ⟨f1, f2, f3, f4⟩ := St.out.wait hnx
      have F1 := hide f1
      have F2 := hide f2
      have F3 := hide f3
      have F4 := hide f4
      have Hl := hide hl
      clear hnx f1 f2 f3 f4 hl
      go_wp2_with fail
      refine HZ.mono ?_
      rintro e w1 ⟨p, C1, nc, kc, S1, ns, ks, m, er, rfl, -, -, -, b1, rfl⟩
      have B1 := hide b1
      clear HZ b1
      go_upto_region 3 with (refine wpList_storeQ rfl 27 (.tmp 8) (.tmp 15) rfl w1.heap.size 27 (zeroP 0) none 0 0 none 0 0 p C1 nc kc S1 ns ks rfl rfl (Blk.new w1 27 (pkVs (zeroP 0) none 0 0 none 0 0)) (by kernel_rfl) ?_; intro V bV BV)
      have bWV : Below w1.heap.size w1 V := But.below ((Below.refl _ _).alloc (Nat.le_refl _) _) BV (fun i e => by omega) (by simp)
      have B1 := hide (below_on B1.out bWV)
      clear bV BV bWV
      go_wp2_with fail
      go_ret3
      refine ⟨O, ok, rs, D, dn, dk, ?_, F1.out, St.out.prd B1.out, St.out.new, fun r hr => (St.out.rows r hr).2.1, ?_, hcap, St.out.inb, ?_, fun e _ => St.out.first e, ?_, below_on St.out.bel B1.out⟩
      · rw [F3.out]
        rfl
      · rw [F2.out, Hl.out]
      · rw [F2.out]
        exact St.out.rd.keep (below_on St.out.bel B1.out)
      · intro e
        rw [F4.out] at e
        cases e
    | bad =>
      rw [hnx] at HZ
      obtain ⟨f1, f2, f3, f4⟩ := St.out.bad hnx
      have F1 := hide f1
      have F2 := hide f2
      have F3 := hide f3
      have F4 := hide f4
      have hor := stC_or most ys
      generalize stC most ys = sc at *
      clear hnx f1 f2 f3 f4 hl
      go_wp2_with fail
      refine HZ.mono ?_
      rintro e w1 ⟨p, C1, nc, kc, S1, ns, ks, m, er, rfl, -, -, -, b1, he⟩
      have he : er = sc := he
      subst he
      have B1 := hide b1
      clear HZ b1
      go_upto_region 3 with (refine wpList_storeQ rfl 27 (.tmp 8) (.tmp 15) rfl w1.heap.size 27 (zeroP 0) none 0 0 none 0 0 p C1 nc kc S1 ns ks rfl rfl (Blk.new w1 27 (pkVs (zeroP 0) none 0 0 none 0 0)) (by kernel_rfl) ?_; intro V bV BV)
      have bWV : Below w1.heap.size w1 V := But.below ((Below.refl _ _).alloc (Nat.le_refl _) _) BV (fun i e => by omega) (by simp)
      have B1 := hide (below_on B1.out bWV)
      clear bV BV bWV
      rcases hor with rfl | rfl
      · skip
        go_wp2_with fail
        go_ret3
        refine ⟨O, ok, rs, none, 0, 0, ?_, F1.out, St.out.prd B1.out, St.out.new, fun r hr => (St.out.rows r hr).2.1, ?_, Nat.le_refl _, (fun a e => by cases e), ?_, ?_, fun _ => ⟨rfl, rfl, rfl⟩, below_on St.out.bel B1.out⟩
        · rw [F3.out]
          rfl
        · rw [F2.out]
          rfl
        · rw [F2.out]
          exact Rd.nil _ _
        · intro _ e
          rw [F4.out] at e
          cases e
      · skip
        go_wp2_with fail
        go_ret3
        refine ⟨O, ok, rs, none, 0, 0, ?_, F1.out, St.out.prd B1.out, St.out.new, fun r hr => (St.out.rows r hr).2.1, ?_, Nat.le_refl _, (fun a e => by cases e), ?_, ?_, fun _ => ⟨rfl, rfl, rfl⟩, below_on St.out.bel B1.out⟩
        · rw [F3.out]
          rfl
        · rw [F2.out]
          rfl
        · rw [F2.out]
          exact Rd.nil _ _
        · intro _ e
          rw [F4.out] at e
          cases e
    | cut a N =>
      rw [hnx] at HZ
      have hp := (stCuts most).pos _ _ _ hnx
      have hsl2 := fun W => run_slTail (P := Try.prog) 31 5 Try.underlying31 u8_size D dn dk (N : Int) N rfl (by omega) W
      have HN := hide hnx
      have hN : N ≤ dn := by omega
      have hN0 : 0 < N := hp.1
      clear hnx hl hp
      go_wp2_with fail
      refine HZ.mono ?_
      rintro e w1 ⟨p, C1, nc, kc, S1, ns, ks, m, er, rfl, hM, hNC, hNS, b1, rfl, rfl, rfl⟩
      have B1 := hide b1
      have HM := hide hM
      have HNN := hide (And.intro hNC hNS)
      clear HZ b1 hM hNC hNS
      go_upto_region 3 with (refine wpList_storeQ rfl 27 (.tmp 8) (.tmp 15) rfl w1.heap.size 27 (zeroP 0) none 0 0 none 0 0 p C1 nc kc S1 ns ks rfl rfl (Blk.new w1 27 (pkVs (zeroP 0) none 0 0 none 0 0)) (by kernel_rfl) ?_; intro V bV BV)
      have bWV : Below w1.heap.size w1 V := But.below ((Below.refl _ _).alloc (Nat.le_refl _) _) BV (fun i e => by omega) (by simp)
      have B1 := hide (below_on B1.out bWV)
      have HM := hide (HM.out.keep bWV)
      have HV := hide bV
      obtain ⟨h, hh⟩ : ∃ h, w1.heap.size = h := ⟨_, rfl⟩
      rw [hh] at HV ⊢
      clear bV BV bWV hh
      have O2 := hide (ownS_keep St.out.own B1.out)
      have HS := hide (fun w3 b3 hr3 hrn O' ok' w' => St.out.step ⟨p, C1, nc, kc, S1, ns, ks⟩ m HN.out w3 b3 hr3 hrn O' ok' w')
      have hbw : w.heap.size ≤ V.heap.size := Nat.le_trans St.out.bel.size B1.out.size
      have hrs : rs.length ≤ 65535 := by omega
      go_wp2_with (first
        | (refine wpList_loadP rfl 27 (.tmp 8) rfl h 27 p C1 nc kc S1 ns ks rfl HV.out Try.underlying27 rfl (by kernel_rfl) ?_)
        | (refine wpList_bs1 rfl 46 27 (.tmp 27) rfl Try.underlying46 18 (by omega) (by omega) (by kernel_rfl) (arr (PkRow.vs ⟨p, C1, nc, kc, S1, ns, ks⟩)) rfl rfl ?_)
        | (at_builtin; refine wpList_appS rfl (.tmp 26) (.tmp 28) 46 rfl 27 _ 18 200 Try.underlying46 pkt_info rfl (by omega) w.heap.size O rs.length ok (prVs rs) rfl (ownS_keep O2.out ((Below.refl _ _).alloc (Nat.le_refl _) _)) _ 1 1 (PkRow.vs ⟨p, C1, nc, kc, S1, ns, ks⟩) rfl ((Blk.new V 27 (PkRow.vs ⟨p, C1, nc, kc, S1, ns, ks⟩)).rd) (PkRow.one _) (by unfold maxLen; omega) (by omega) (Nat.le_trans hbw (by simp)) ?_; intro A4 c4 w4 o4 b4 h4))
      have bal : Below wr.heap.size wr (V.alloc (.cells (arr (PkRow.vs ⟨p, C1, nc, kc, S1, ns, ks⟩)) 27)) := below_on B1.out ((Below.refl _ _).alloc (Nat.le_refl _) _)
      have st4 := HS.out _ bal (PkM.keep HM.out ((Below.refl _ _).alloc (Nat.le_refl _) _)) HNN.out A4 c4 w4 o4 b4 h4
      exact ⟨⟨_, _, _, _, _, _, _, rfl, by rw [List.length_append]; rfl, st4⟩, by simp only [slLen11]; omega⟩

end Go.Proofs.Ytdlhcecmodefkaa
