/-
  What is proved here: layer 7's own 'answer': the bytes of an answer to a request that may be, all its values the same, or of a refusal. Condition: the request may be.
-/
import Derived.Test.YtfpfijggmfeejaaMs13
import Derived.Test.YtfpfijggmfeejaaRef3g
namespace Go.Proofs.Ytfpfijggmfeejaa
set_option linter.unusedVariables false
set_option linter.unusedSimpArgs false
open Go.RowKit Go.Maps

/-- The answer: all its values the same, or a refusal. -/
def ansV (r : Rq) (v : Int) : An := if v < 0 then ⟨[], 2⟩ else if r.f ≤ 4 ∨ r.f = 23 then ⟨List.replicate r.c.toNat (if r.f ≤ 2 then v % 2 else v % 65536), 0⟩ else ⟨[], 0⟩
theorem upToB_rep (n : Nat) (x top : Int) (h0 : 0 ≤ x) (h1 : x ≤ top) : upToB (List.replicate n x) top = true := by
  unfold upToB
  rw [List.all_eq_true]
  intro y hy
  rw [List.eq_of_mem_replicate hy, decide_eq_true h0, decide_eq_true h1]
  rfl
theorem ansV_may (r : Rq) (h : r.may = true) (v : Int) : (ansV r v).may r = true := by
  obtain ⟨f, a, c, vs, t, an, o⟩ := r
  have hf := may_func h
  have hc := may_count h
  simp only at hf hc
  unfold ansV An.may
  by_cases hv : v < 0
  · rw [if_pos hv]
    rfl
  rw [if_neg hv]
  have e2 : 0 ≤ v % 2 ∧ v % 2 ≤ 1 := by omega
  have e6 : 0 ≤ v % 65536 ∧ v % 65536 ≤ 65535 := by omega
  by_cases hf4 : f ≤ 4 ∨ f = 23
  · rw [if_pos hf4]
    show ansMayB f c 0 (List.replicate c.toNat (if f ≤ 2 then v % 2 else v % 65536)) = true
    have hlen : ((List.replicate c.toNat (if f ≤ 2 then v % 2 else v % 65536)).length : Int) = c := by rw [List.length_replicate]; omega
    unfold ansMayB
    rw [if_pos rfl]
    by_cases h12 : f = 1 ∨ f = 2
    · rw [if_pos h12, hlen, if_pos (by omega)]
      simp [upToB_rep c.toNat _ 1 e2.1 e2.2]
    · rw [if_neg h12, if_pos (by omega), hlen, if_neg (by omega)]
      simp [upToB_rep c.toNat _ 65535 e6.1 e6.2]
  · rw [if_neg hf4]
    show ansMayB f c 0 [] = true
    unfold ansMayB
    rw [if_pos rfl, if_neg (by omega), if_neg (by omega)]
    rfl
theorem bit7 (f : Int) (w : World) (h : (f = 1 ∨ f = 2) ∨ f = 3 ∨ f = 4 ∨ f = 23) : Calls Try.prog 33 #[.int .i64 f] w fun e w' => e = .returned (.bool (decide (f ≤ 2))) ∧ w = w' := by
  rcases h with (rfl | rfl) | rfl | rfl | rfl
  all_goals
    go_enter Try.func33, Try.ntmps33
    go_wp2
    go_ret
    exact ⟨rfl, rfl⟩
set_option maxRecDepth 100000 in
theorem answer7_neg (r : Rq) (A : Option Addr) (k : Nat) (v : Int) (w : World) (h : r.may = true) (hr : Rd w A r.vs.length (iv r.vs)) (hv : v < 0) :
    Calls Try.prog 15 #[.agg #[.int .i64 r.f, .int .i64 r.a, .int .i64 r.c, .slice A r.vs.length k, .int .i64 r.t, .int .i64 r.an, .int .i64 r.o], .int .i64 v] w (RetSl ((ansV r v).lay r).length (bv ((ansV r v).lay r)) w) := by
  have q : decide (0 ≤ v) = false := decide_eq_false (by omega)
  have HAV : Hid (ansV r v = ⟨[], 2⟩) := hide (by unfold ansV; rw [if_pos hv])
  clear hv
  have HR := hide hr
  have HM := hide h
  have hy := ansV_may r h v
  rw [HAV.out] at hy ⊢
  have HY := hide hy
  clear hr h hy
  go_enter Try.func15, Try.ntmps15
  go_wp2_with fail
  have BW : Hid (Below w.heap.size w ((w.alloc (.cells #[.int .i64 r.f, .int .i64 r.a, .int .i64 r.c, .slice A r.vs.length k, .int .i64 r.t, .int .i64 r.an, .int .i64 r.o] 37)).alloc (.cells #[.slice none 0 0, .int .i64 2] 61))) := hide (((Below.refl _ _).alloc (Nat.le_refl _) _).alloc (by simp) _)
  refine (refAns_any r.f r.a r.c r.t r.an r.o 2 A none r.vs.length k 0 0 r.vs [] _ (HR.out.keep BW.out) (Rd.nil _ _) HM.out HY.out).mono ?_
  rintro e w5 ⟨C5, ck5, rfl, lC, rC, b5⟩
  have RC := hide rC
  have B5 := hide (below_on BW.out b5)
  clear rC b5
  go_wp2
  go_ret
  exact ⟨C5, ck5, rfl, lC, RC.out, B5.out⟩
set_option maxRecDepth 100000 in
theorem answer7_plain (r : Rq) (A : Option Addr) (k : Nat) (v : Int) (w : World) (h : r.may = true) (hr : Rd w A r.vs.length (iv r.vs)) (hv : 0 ≤ v) (hf : ¬ (r.f ≤ 4 ∨ r.f = 23)) :
    Calls Try.prog 15 #[.agg #[.int .i64 r.f, .int .i64 r.a, .int .i64 r.c, .slice A r.vs.length k, .int .i64 r.t, .int .i64 r.an, .int .i64 r.o], .int .i64 v] w (RetSl ((ansV r v).lay r).length (bv ((ansV r v).lay r)) w) := by
  have q : decide (0 ≤ v) = true := decide_eq_true hv
  have q2 : decide (r.f ≤ 4) = false := decide_eq_false (by omega)
  have q3 : (r.f == 23) = false := ne_beq (by omega)
  have HAV : Hid (ansV r v = ⟨[], 0⟩) := hide (by unfold ansV; rw [if_neg (by omega), if_neg hf])
  clear hv hf
  have HR := hide hr
  have HM := hide h
  have hy := ansV_may r h v
  rw [HAV.out] at hy ⊢
  have HY := hide hy
  clear hr h hy
  go_enter Try.func15, Try.ntmps15
  go_wp2_with fail
  have BW : Hid (Below w.heap.size w ((w.alloc (.cells #[.int .i64 r.f, .int .i64 r.a, .int .i64 r.c, .slice A r.vs.length k, .int .i64 r.t, .int .i64 r.an, .int .i64 r.o] 37)).alloc (.cells #[.slice none 0 0, .int .i64 0] 61))) := hide (((Below.refl _ _).alloc (Nat.le_refl _) _).alloc (by simp) _)
  refine (refAns_any r.f r.a r.c r.t r.an r.o 0 A none r.vs.length k 0 0 r.vs [] _ (HR.out.keep BW.out) (Rd.nil _ _) HM.out HY.out).mono ?_
  rintro e w5 ⟨C5, ck5, rfl, lC, rC, b5⟩
  have RC := hide rC
  have B5 := hide (below_on BW.out b5)
  clear rC b5
  go_wp2
  go_ret
  exact ⟨C5, ck5, rfl, lC, RC.out, B5.out⟩
/-- While the values are laid. -/
structure AL (w : World) (r : Rq) (A : Option Addr) (k : Nat) (N : Int) (i : Nat) (wr : World) : Prop where
  all : ∃ (As : Option Addr) (ks : Nat), Blk wr w.heap.size 37 (rqv r A k) ∧ Blk wr (w.heap.size + 1) 61 [.slice As i ks, .int .i64 0] ∧ wr.ownsRow (w.heap.size + 2) 3 1 (.slice As i ks) i (iv (List.replicate i N)) ∧ Below w.heap.size w wr ∧ w.heap.size + 2 ≤ wr.heap.size
set_option maxRecDepth 100000 in
set_option maxHeartbeats 2000000 in
theorem answer7_vals (r : Rq) (A : Option Addr) (k : Nat) (v : Int) (w : World) (h : r.may = true) (hr : Rd w A r.vs.length (iv r.vs)) (hv : 0 ≤ v) (hf : r.f ≤ 4 ∨ r.f = 23) (N : Int) (hN : N = if r.f ≤ 2 then v % 2 else v % 65536) :
    Calls Try.prog 15 #[.agg #[.int .i64 r.f, .int .i64 r.a, .int .i64 r.c, .slice A r.vs.length k, .int .i64 r.t, .int .i64 r.an, .int .i64 r.o], .int .i64 v] w (RetSl ((ansV r v).lay r).length (bv ((ansV r v).lay r)) w) := by
  have q : decide (0 ≤ v) = true := decide_eq_true hv
  have hfn := may_func h
  have hcn := may_count h
  obtain ⟨C, hC⟩ : ∃ C : Nat, r.c = (C : Int) := ⟨r.c.toNat, by omega⟩
  have HAV : Hid (ansV r v = ⟨List.replicate C N, 0⟩) := hide (by unfold ansV; rw [if_neg (by omega), if_pos hf, hC, hN]; rfl)
  have hC2 : C ≤ 2000 := by omega
  have hb7 := fun W => bit7 r.f W (by omega)
  have HB7 := hide hb7
  have HC := hide hC
  have HNN := hide hN
  cases tf : decide (r.f ≤ 4)
  all_goals
    first
    | (have q3 : (r.f == 23) = true := by rw [beq_iff_eq]; have := of_decide_eq_false tf; omega)
    | skip
    clear hf hfn hcn hb7 hN
    have HR := hide hr
    have HM := hide h
    have hy := ansV_may r h v
    rw [HAV.out] at hy ⊢
    have HY := hide hy
    clear hr h hy
    go_enter Try.func15, Try.ntmps15
    clear hC
    go_wp2_with fail
    generalize hV : (w.alloc _).alloc _ = V
    obtain ⟨zA, zB, bV, sV⟩ := two_boxes w (rqv r A k) [.slice none 0 0, .int .i64 0] _ _ V hV.symm
    have X0 : Hid (AL w r A k N 0 V) := hide ⟨none, 0, zA, zB, World.ownsRow_nil _ _ _ _, bV, by omega⟩
    clear hV zA zB bV sV
    go_loopw [6] (fun x wr => ∃ i : Nat, x = .int .i64 (i : Int) ∧ i ≤ C ∧ AL w r A k N i wr) (fun x _ => C - (intOf x).toNat)
    case atStart => exact ⟨0, rfl, by omega, X0.out⟩
    case round =>
      obtain ⟨i, rfl, hi, hX⟩ := hrel
      clear X0
      obtain ⟨As, ks, zA, zB, hrow, hbel, hsz⟩ := hX.all
      obtain ⟨a0, a1, a2, a3, a4, a5, a6⟩ := Blk.seven zA
      obtain ⟨b0, b1⟩ := zB.two
      rw [HC.out] at a2
      have fB := zB.frozen
      have ZA := hide zA
      have ZB := hide zB
      have HROW := hide hrow
      have HBL := hide hbel
      clear hX zA zB hrow hbel
      by_cases hlt : i < C
      · have q5 : (i : Int) < (C : Int) := by omega
        cases t2 : decide (r.f ≤ 2)
        · have hNv : N = v % 65536 := by rw [HNN.out, if_neg (of_decide_eq_false t2)]
          go_wp2_with fail
          refine (HB7.out wr).mono ?_
          rw [t2]
          rintro e w1 ⟨rfl, rfl⟩
          go_wp2_with (at_builtin; refine wpList_app2 rfl (.tmp 39) (.tmp 41) 35 rfl 3 _ _ Try.underlying35 int_info rfl (w.heap.size + 2) As i ks (iv (List.replicate i N)) rfl (own_keep HROW.out ((Below.refl _ _).alloc (Nat.le_refl _) _)) (some ⟨wr.heap.size, 0, none⟩) 1 1 [.int .i64 (v % 65536)] rfl (rd_one wr _ _) (by intro u hu; simp at hu; subst hu; rfl) (by unfold maxLen; omega) (by omega) (by simp; omega) ?_; intro A3 k3 w3 o3 b3 h3; have hbw : But (fun j => w.heap.size + 2 ≤ j) wr w3 := (But.ofBelow ((Below.refl _ _).alloc (Nat.le_refl _) _) _).trans (b3.wide (fun j ⟨o', e'⟩ => ownS_new HROW.out j o' e')) (fun _ _ e => e); have zB3 := ZB.out.but hbw (by omega); have f3 := zB3.frozen; have l3 := zB3.lt; have b30 := zB3.cell 0; have ZB3 := hide zB3; have ZA3 := hide (ZA.out.but hbw (by omega)); have O3 := hide o3; have BL3 := hide (But.below HBL.out hbw (fun j hj => by omega) HBL.out.size); have S3 : Hid (w.heap.size + 2 ≤ w3.heap.size) := hide (Nat.le_trans hsz hbw.size); clear zB3 o3 b3 h3 hbw)
          have hY : But (fun j => j = w.heap.size + 1) w3 (w3.setCell ⟨w.heap.size + 1, 0, none⟩ (.slice A3 (i + 1) k3)) := But.setCell w3 _ rfl
          refine ⟨⟨i + 1, by rw [Int.natCast_add]; rfl, by omega, ⟨A3, k3, ZA3.out.but hY (by omega), ZB3.out.set 0 _, ?_, But.below BL3.out hY (fun j hj => by omega) BL3.out.size, by have := hY.size; have := S3.out; omega⟩⟩, by simp only [intOf]; omega⟩
          have e : iv (List.replicate (i + 1) N) = iv (List.replicate i N) ++ [.int .i64 (v % 65536)] := by rw [← hNv, List.replicate_succ', iv_append]; rfl
          rw [e]
          exact own_but O3.out hY (fun b o e' h' => by have := ownS_new O3.out b o e'; omega)
        · have hNv : N = v % 2 := by rw [HNN.out, if_pos (of_decide_eq_true t2)]
          go_wp2_with fail
          refine (HB7.out wr).mono ?_
          rw [t2]
          rintro e w1 ⟨rfl, rfl⟩
          go_wp2_with (at_builtin; refine wpList_app2 rfl (.tmp 39) (.tmp 41) 35 rfl 3 _ _ Try.underlying35 int_info rfl (w.heap.size + 2) As i ks (iv (List.replicate i N)) rfl (own_keep HROW.out ((Below.refl _ _).alloc (Nat.le_refl _) _)) (some ⟨wr.heap.size, 0, none⟩) 1 1 [.int .i64 (v % 2)] rfl (rd_one wr _ _) (by intro u hu; simp at hu; subst hu; rfl) (by unfold maxLen; omega) (by omega) (by simp; omega) ?_; intro A3 k3 w3 o3 b3 h3; have hbw : But (fun j => w.heap.size + 2 ≤ j) wr w3 := (But.ofBelow ((Below.refl _ _).alloc (Nat.le_refl _) _) _).trans (b3.wide (fun j ⟨o', e'⟩ => ownS_new HROW.out j o' e')) (fun _ _ e => e); have zB3 := ZB.out.but hbw (by omega); have f3 := zB3.frozen; have l3 := zB3.lt; have b30 := zB3.cell 0; have ZB3 := hide zB3; have ZA3 := hide (ZA.out.but hbw (by omega)); have O3 := hide o3; have BL3 := hide (But.below HBL.out hbw (fun j hj => by omega) HBL.out.size); have S3 : Hid (w.heap.size + 2 ≤ w3.heap.size) := hide (Nat.le_trans hsz hbw.size); clear zB3 o3 b3 h3 hbw)
          have hY : But (fun j => j = w.heap.size + 1) w3 (w3.setCell ⟨w.heap.size + 1, 0, none⟩ (.slice A3 (i + 1) k3)) := But.setCell w3 _ rfl
          refine ⟨⟨i + 1, by rw [Int.natCast_add]; rfl, by omega, ⟨A3, k3, ZA3.out.but hY (by omega), ZB3.out.set 0 _, ?_, But.below BL3.out hY (fun j hj => by omega) BL3.out.size, by have := hY.size; have := S3.out; omega⟩⟩, by simp only [intOf]; omega⟩
          have e : iv (List.replicate (i + 1) N) = iv (List.replicate i N) ++ [.int .i64 (v % 2)] := by rw [← hNv, List.replicate_succ', iv_append]; rfl
          rw [e]
          exact own_but O3.out hY (fun b o e' h' => by have := ownS_new O3.out b o e'; omega)
      · obtain rfl : i = C := by omega
        have q5 : decide ((i : Int) < r.c) = false := decide_eq_false (by rw [HC.out]; omega)
        rw [← HC.out] at a2
        go_wp2_with fail
        refine (refAns_any r.f r.a r.c r.t r.an r.o 0 A As r.vs.length k i ks r.vs (List.replicate i N) wr (HR.out.keep HBL.out) (own_rd HROW.out) HM.out HY.out).mono ?_
        rintro e w5 ⟨C5, ck5, rfl, lC, rC, b5⟩
        have RC := hide rC
        have B5 := hide (below_on HBL.out b5)
        clear rC b5
        go_wp2
        go_ret
        exact ⟨C5, ck5, rfl, lC, RC.out, B5.out⟩
theorem answer7_any (r : Rq) (A : Option Addr) (k : Nat) (v : Int) (w : World) (h : r.may = true) (hr : Rd w A r.vs.length (iv r.vs)) :
    Calls Try.prog 15 #[.agg #[.int .i64 r.f, .int .i64 r.a, .int .i64 r.c, .slice A r.vs.length k, .int .i64 r.t, .int .i64 r.an, .int .i64 r.o], .int .i64 v] w (RetSl ((ansV r v).lay r).length (bv ((ansV r v).lay r)) w) := by
  by_cases hv : v < 0
  · exact answer7_neg r A k v w h hr hv
  by_cases hf : r.f ≤ 4 ∨ r.f = 23
  · exact answer7_vals r A k v w h hr (by omega) hf _ rfl
  · exact answer7_plain r A k v w h hr (by omega) hf
theorem ansV_parse (r : Rq) (h : r.may = true) (v : Int) : ansParseL r ((ansV r v).lay r) = some (ansV r v) := ansParse_lay r h _ (ansV_may r h v)
theorem ansV_len (r : Rq) (h : r.may = true) (v : Int) : ((ansV r v).lay r).length ≤ 253 := (ans_bounds h (ansV_may r h v)).2
theorem ansV_code (r : Rq) (v : Int) (hv : 0 ≤ v) : (ansV r v).code = 0 := by
  unfold ansV
  rw [if_neg (by omega)]
  split <;> rfl
end Go.Proofs.Ytfpfijggmfeejaa
