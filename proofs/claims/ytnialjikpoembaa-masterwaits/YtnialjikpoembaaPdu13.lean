/-
  What is proved here: what pdu's layAnswer and AnswerBytes return.
-/
import Derived.Test.YtnialjikpoembaaPdu12
namespace Go.Proofs.Ytnialjikpoembaa
set_option linter.unusedVariables false
set_option linter.unusedSimpArgs false
open Go.RowKit

theorem three_new (w : World) (l1 l2 : List Value) (t1 t2 t3 : TypeId) (x : Value) (W : World) (hW : W = ((w.alloc (.cells (arr l1) t1)).alloc (.cells (arr l2) t2)).alloc (.cells #[x] t3)) :
    Blk W w.heap.size t1 l1 ∧ Blk W (w.heap.size + 1) t2 l2 ∧ Blk W (w.heap.size + 2) t3 [x] ∧ Below w.heap.size w W ∧ W.heap.size = w.heap.size + 3 := by
  subst hW
  have h1 := Blk.new w t1 l1
  have h2 := Blk.new (w.alloc (.cells (arr l1) t1)) t2 l2
  have h3 := Blk.new ((w.alloc (.cells (arr l1) t1)).alloc (.cells (arr l2) t2)) t3 [x]
  simp only [World.size_alloc] at h2 h3
  exact ⟨(h1.al _).al _, h2.al _, h3, ((((Below.refl _ _).alloc (Nat.le_refl _) _).alloc (by simp) _).alloc (by simp; omega) _), by simp⟩

theorem layAns_1 (a c t an o : Int) (A B : Option Addr) (n k m d M : Nat) (us : List Int) (w : World) (h : Rd w B m (iv us)) (hv : upToB us 1 = true) (hm : m ≤ 2000) (hM : M = (m + 7) / 8) :
    Calls Try.prog 57 #[.agg #[.int .i64 1, .int .i64 a, .int .i64 c, .slice A n k, .int .i64 t, .int .i64 an, .int .i64 o], .agg #[.slice B m d, .int .i64 0]] w (RetOwn 5 (2 + M) (bv ([1] ++ cntL (packL us))) w) := by
  have hl : us.length = m := by rw [← iv_length]; exact h.1
  have hb : bitsB us = true := by rw [← bits_upTo]; exact hv
  have HPk := hide (fun W b => packed_any B m d M us W (h.keep b) (by omega) hb hM)
  have hpl : (packL us).length = M := by rw [packL_length, hl, hM]
  have Hpl := hide hpl
  have HM := hide hM
  clear hpl hM h hl hb hv
  go_enter Try.func57, Try.ntmps57
  go_wp2_with fail
  generalize hW : ((w.alloc (.cells #[.int .i64 1, .int .i64 a, .int .i64 c, .slice A n k, .int .i64 t, .int .i64 an, .int .i64 o] 37)).alloc (.cells #[.slice B m d, .int .i64 0] 61)).alloc (.cells #[.int .u8 1] 5) = W
  obtain ⟨_, _, hB3, hBel, hsz⟩ := three_new w [.int .i64 1, .int .i64 a, .int .i64 c, .slice A n k, .int .i64 t, .int .i64 an, .int .i64 o] [.slice B m d, .int .i64 0] 37 61 5 (.int .u8 1) W hW.symm
  clear hW
  refine (HPk.out _ hBel).mono ?_
  rintro e w2 ⟨rfl, k2, b2⟩
  have HB2 := hide (below_on hBel b2)
  have o1 : w2.ownsRow w.heap.size 5 1 (.slice (some ⟨w.heap.size + 2, 0, none⟩) 1 1) 1 (bv [1]) := own_keep (hB3.own (by omega) 1 rfl (by decide)) b2
  have hr2 := k2.reads (Below.refl _ _) M (by rw [bv_length]; exact Hpl.out)
  have hz := hsz
  have s2 := b2.size
  have HC := hide (pcounted_any w.heap.size (w.heap.size + 2) W.heap.size 1 1 M M _ [1] (packL us) _ o1 (by omega) hr2 (fun b o e _ => by injection e with e; injection e with e; exact Nat.le_of_eq e) (by omega) (by have := HM.out; omega) (by omega))
  clear k2 b2 o1 hr2 hz s2 hsz hB3 hBel
  go_wp2_with fail
  refine HC.out.mono ?_
  rintro e w3 ⟨D, kD, rfl, oD, bD⟩
  have OD := hide oD
  have BD := hide (HB2.out.trans bD)
  clear oD bD
  go_wp2
  go_ret
  exact ⟨D, kD, rfl, OD.out, BD.out⟩
theorem layAns_2 (a c t an o : Int) (A B : Option Addr) (n k m d M : Nat) (us : List Int) (w : World) (h : Rd w B m (iv us)) (hv : upToB us 1 = true) (hm : m ≤ 2000) (hM : M = (m + 7) / 8) :
    Calls Try.prog 57 #[.agg #[.int .i64 2, .int .i64 a, .int .i64 c, .slice A n k, .int .i64 t, .int .i64 an, .int .i64 o], .agg #[.slice B m d, .int .i64 0]] w (RetOwn 5 (2 + M) (bv ([2] ++ cntL (packL us))) w) := by
  have hl : us.length = m := by rw [← iv_length]; exact h.1
  have hb : bitsB us = true := by rw [← bits_upTo]; exact hv
  have HPk := hide (fun W b => packed_any B m d M us W (h.keep b) (by omega) hb hM)
  have hpl : (packL us).length = M := by rw [packL_length, hl, hM]
  have Hpl := hide hpl
  have HM := hide hM
  clear hpl hM h hl hb hv
  go_enter Try.func57, Try.ntmps57
  go_wp2_with fail
  generalize hW : ((w.alloc (.cells #[.int .i64 2, .int .i64 a, .int .i64 c, .slice A n k, .int .i64 t, .int .i64 an, .int .i64 o] 37)).alloc (.cells #[.slice B m d, .int .i64 0] 61)).alloc (.cells #[.int .u8 2] 5) = W
  obtain ⟨_, _, hB3, hBel, hsz⟩ := three_new w [.int .i64 2, .int .i64 a, .int .i64 c, .slice A n k, .int .i64 t, .int .i64 an, .int .i64 o] [.slice B m d, .int .i64 0] 37 61 5 (.int .u8 2) W hW.symm
  clear hW
  refine (HPk.out _ hBel).mono ?_
  rintro e w2 ⟨rfl, k2, b2⟩
  have HB2 := hide (below_on hBel b2)
  have o1 : w2.ownsRow w.heap.size 5 1 (.slice (some ⟨w.heap.size + 2, 0, none⟩) 1 1) 1 (bv [2]) := own_keep (hB3.own (by omega) 1 rfl (by decide)) b2
  have hr2 := k2.reads (Below.refl _ _) M (by rw [bv_length]; exact Hpl.out)
  have hz := hsz
  have s2 := b2.size
  have HC := hide (pcounted_any w.heap.size (w.heap.size + 2) W.heap.size 1 1 M M _ [2] (packL us) _ o1 (by omega) hr2 (fun b o e _ => by injection e with e; injection e with e; exact Nat.le_of_eq e) (by omega) (by have := HM.out; omega) (by omega))
  clear k2 b2 o1 hr2 hz s2 hsz hB3 hBel
  go_wp2_with fail
  refine HC.out.mono ?_
  rintro e w3 ⟨D, kD, rfl, oD, bD⟩
  have OD := hide oD
  have BD := hide (HB2.out.trans bD)
  clear oD bD
  go_wp2
  go_ret
  exact ⟨D, kD, rfl, OD.out, BD.out⟩

theorem layAns_3 (a c t an o : Int) (A B : Option Addr) (n k m d : Nat) (us : List Int) (w : World) (h : Rd w B m (iv us)) (hv : upToB us 65535 = true) (hm0 : 0 < m) (hm : m ≤ 125) :
    Calls Try.prog 57 #[.agg #[.int .i64 3, .int .i64 a, .int .i64 c, .slice A n k, .int .i64 t, .int .i64 an, .int .i64 o], .agg #[.slice B m d, .int .i64 0]] w (RetOwn 5 (2 + 2 * m) (bv ([3] ++ cntL (putL us))) w) := by
  have HPk := hide (fun W b => pput_nil B m d us W (h.keep b) hv (by omega) hm0)
  clear h hv
  go_enter Try.func57, Try.ntmps57
  go_wp2_with fail
  generalize hW : ((w.alloc (.cells #[.int .i64 3, .int .i64 a, .int .i64 c, .slice A n k, .int .i64 t, .int .i64 an, .int .i64 o] 37)).alloc (.cells #[.slice B m d, .int .i64 0] 61)).alloc (.cells #[.int .u8 3] 5) = W
  obtain ⟨_, _, hB3, hBel, hsz⟩ := three_new w [.int .i64 3, .int .i64 a, .int .i64 c, .slice A n k, .int .i64 t, .int .i64 an, .int .i64 o] [.slice B m d, .int .i64 0] 37 61 5 (.int .u8 3) W hW.symm
  clear hW
  refine (HPk.out _ hBel).mono ?_
  rintro e w2 ⟨D2, kk2, rfl, o2, b2⟩
  obtain ⟨g2, rest2, rfl, hg2, hbg2⟩ := own_blk o2 (by omega)
  have HB2 := hide (below_on hBel b2)
  have o1 : w2.ownsRow w.heap.size 5 1 (.slice (some ⟨w.heap.size + 2, 0, none⟩) 1 1) 1 (bv [3]) := own_keep (hB3.own (by omega) 1 rfl (by decide)) b2
  have hz := hsz
  have s2 := b2.size
  have HC := hide (pcounted_any w.heap.size (w.heap.size + 2) W.heap.size 1 1 (2 * m) kk2 _ [3] (putL us) _ o1 (by omega) (own_rd o2) (fun b o e _ => by injection e with e; injection e with e; omega) (by omega) (by omega) (by omega))
  clear o2 b2 o1 hz s2 hsz hB3 hBel hbg2
  go_wp2_with fail
  refine HC.out.mono ?_
  rintro e w3 ⟨D, kD, rfl, oD, bD⟩
  have OD := hide oD
  have BD := hide (HB2.out.trans bD)
  clear oD bD
  go_wp2
  go_ret
  exact ⟨D, kD, rfl, OD.out, BD.out⟩
theorem layAns_4 (a c t an o : Int) (A B : Option Addr) (n k m d : Nat) (us : List Int) (w : World) (h : Rd w B m (iv us)) (hv : upToB us 65535 = true) (hm0 : 0 < m) (hm : m ≤ 125) :
    Calls Try.prog 57 #[.agg #[.int .i64 4, .int .i64 a, .int .i64 c, .slice A n k, .int .i64 t, .int .i64 an, .int .i64 o], .agg #[.slice B m d, .int .i64 0]] w (RetOwn 5 (2 + 2 * m) (bv ([4] ++ cntL (putL us))) w) := by
  have HPk := hide (fun W b => pput_nil B m d us W (h.keep b) hv (by omega) hm0)
  clear h hv
  go_enter Try.func57, Try.ntmps57
  go_wp2_with fail
  generalize hW : ((w.alloc (.cells #[.int .i64 4, .int .i64 a, .int .i64 c, .slice A n k, .int .i64 t, .int .i64 an, .int .i64 o] 37)).alloc (.cells #[.slice B m d, .int .i64 0] 61)).alloc (.cells #[.int .u8 4] 5) = W
  obtain ⟨_, _, hB3, hBel, hsz⟩ := three_new w [.int .i64 4, .int .i64 a, .int .i64 c, .slice A n k, .int .i64 t, .int .i64 an, .int .i64 o] [.slice B m d, .int .i64 0] 37 61 5 (.int .u8 4) W hW.symm
  clear hW
  refine (HPk.out _ hBel).mono ?_
  rintro e w2 ⟨D2, kk2, rfl, o2, b2⟩
  obtain ⟨g2, rest2, rfl, hg2, hbg2⟩ := own_blk o2 (by omega)
  have HB2 := hide (below_on hBel b2)
  have o1 : w2.ownsRow w.heap.size 5 1 (.slice (some ⟨w.heap.size + 2, 0, none⟩) 1 1) 1 (bv [4]) := own_keep (hB3.own (by omega) 1 rfl (by decide)) b2
  have hz := hsz
  have s2 := b2.size
  have HC := hide (pcounted_any w.heap.size (w.heap.size + 2) W.heap.size 1 1 (2 * m) kk2 _ [4] (putL us) _ o1 (by omega) (own_rd o2) (fun b o e _ => by injection e with e; injection e with e; omega) (by omega) (by omega) (by omega))
  clear o2 b2 o1 hz s2 hsz hB3 hBel hbg2
  go_wp2_with fail
  refine HC.out.mono ?_
  rintro e w3 ⟨D, kD, rfl, oD, bD⟩
  have OD := hide oD
  have BD := hide (HB2.out.trans bD)
  clear oD bD
  go_wp2
  go_ret
  exact ⟨D, kD, rfl, OD.out, BD.out⟩
theorem layAns_23 (a c t an o : Int) (A B : Option Addr) (n k m d : Nat) (us : List Int) (w : World) (h : Rd w B m (iv us)) (hv : upToB us 65535 = true) (hm0 : 0 < m) (hm : m ≤ 125) :
    Calls Try.prog 57 #[.agg #[.int .i64 23, .int .i64 a, .int .i64 c, .slice A n k, .int .i64 t, .int .i64 an, .int .i64 o], .agg #[.slice B m d, .int .i64 0]] w (RetOwn 5 (2 + 2 * m) (bv ([23] ++ cntL (putL us))) w) := by
  have HPk := hide (fun W b => pput_nil B m d us W (h.keep b) hv (by omega) hm0)
  clear h hv
  go_enter Try.func57, Try.ntmps57
  go_wp2_with fail
  generalize hW : ((w.alloc (.cells #[.int .i64 23, .int .i64 a, .int .i64 c, .slice A n k, .int .i64 t, .int .i64 an, .int .i64 o] 37)).alloc (.cells #[.slice B m d, .int .i64 0] 61)).alloc (.cells #[.int .u8 23] 5) = W
  obtain ⟨_, _, hB3, hBel, hsz⟩ := three_new w [.int .i64 23, .int .i64 a, .int .i64 c, .slice A n k, .int .i64 t, .int .i64 an, .int .i64 o] [.slice B m d, .int .i64 0] 37 61 5 (.int .u8 23) W hW.symm
  clear hW
  refine (HPk.out _ hBel).mono ?_
  rintro e w2 ⟨D2, kk2, rfl, o2, b2⟩
  obtain ⟨g2, rest2, rfl, hg2, hbg2⟩ := own_blk o2 (by omega)
  have HB2 := hide (below_on hBel b2)
  have o1 : w2.ownsRow w.heap.size 5 1 (.slice (some ⟨w.heap.size + 2, 0, none⟩) 1 1) 1 (bv [23]) := own_keep (hB3.own (by omega) 1 rfl (by decide)) b2
  have hz := hsz
  have s2 := b2.size
  have HC := hide (pcounted_any w.heap.size (w.heap.size + 2) W.heap.size 1 1 (2 * m) kk2 _ [23] (putL us) _ o1 (by omega) (own_rd o2) (fun b o e _ => by injection e with e; injection e with e; omega) (by omega) (by omega) (by omega))
  clear o2 b2 o1 hz s2 hsz hB3 hBel hbg2
  go_wp2_with fail
  refine HC.out.mono ?_
  rintro e w3 ⟨D, kD, rfl, oD, bD⟩
  have OD := hide oD
  have BD := hide (HB2.out.trans bD)
  clear oD bD
  go_wp2
  go_ret
  exact ⟨D, kD, rfl, OD.out, BD.out⟩

end Go.Proofs.Ytnialjikpoembaa
