/-
  What is proved here: what pdu's lay returns, of any request that may be; what guess returns. ALSO: what pdu's guess returns. ALSO: what pdu's guess returns, of the functions that write many, and of any bytes. ALSO: what pdu's Bytes and Parse return, of any request and any bytes (up to some thousand). ALSO: what pdu's Parse returns, of any bytes. ALSO: what pdu's layAnswer and AnswerBytes return.
-/
import Derived.Test.YtfpfijggmfeejaaPdu7
import Derived.Test.YtfpfijggmfeejaaPdu1
import Derived.Test.YtfpfijggmfeejaaPduMath2
import Derived.Test.YtfpfijggmfeejaaStructs
namespace Go.Proofs.Ytfpfijggmfeejaa
set_option linter.unusedVariables false
set_option linter.unusedSimpArgs false
open Go.RowKit

theorem RetOwn.to {e : TypeId} {n n' : Nat} {vs vs' : List Value} {w : World} {x : Ending} {w' : World} (h : RetOwn e n vs w x w') (hn : n = n') (hv : vs = vs') : RetOwn e n' vs' w x w' := by subst hn hv; exact h

theorem lay_any (f a c t an o : Int) (A : Option Addr) (n k : Nat) (vs : List Int) (w : World) (h : Rd w A n (iv vs)) (hm : mayB f a c vs t an o = true) :
    Calls Try.prog 73 #[.agg #[.int .i64 f, .int .i64 a, .int .i64 c, .slice A n k, .int .i64 t, .int .i64 an, .int .i64 o]] w (RetOwn 5 (layL f a c vs t an o).length (bv (layL f a c vs t an o)) w) := by
  have hl : vs.length = n := by rw [← iv_length]; exact h.1
  rw [lay_length hm, hl]
  rcases may_cases hm with ⟨hf, h1, h2, h3, h4, rfl, rfl, rfl, rfl⟩ | ⟨hf, h1, h2, h3, h4, rfl, rfl, rfl, rfl⟩ | ⟨rfl, h1, h2, rfl, ⟨v, rfl, h3, h4⟩, rfl, rfl, rfl⟩ | ⟨rfl, h1, h2, rfl, ⟨v, rfl, h3, h4⟩, rfl, rfl, rfl⟩ | ⟨rfl, h1, h2, h3, h4, h5, h6, rfl, rfl, rfl⟩ | ⟨rfl, h1, h2, h3, h4, h5, h6, rfl, rfl, rfl⟩ | ⟨rfl, h1, h2, h3, h4, h5, h6, rfl, rfl, rfl⟩ | ⟨rfl, h1, h2, h3, h4, h5, h6, h7, h8, h9, rfl, rfl⟩
  · rcases hf with rfl | rfl
    · exact (lay_1 a c 0 0 0 A n k w (by omega) (by omega) (by omega) (by omega)).mono fun _ _ h => h
    · exact (lay_2 a c 0 0 0 A n k w (by omega) (by omega) (by omega) (by omega)).mono fun _ _ h => h
  · rcases hf with rfl | rfl
    · exact (lay_3 a c 0 0 0 A n k w (by omega) (by omega) (by omega) (by omega)).mono fun _ _ h => h
    · exact (lay_4 a c 0 0 0 A n k w (by omega) (by omega) (by omega) (by omega)).mono fun _ _ h => h
  · exact (lay_5 a 0 0 0 0 v A n k w h (by omega) (by omega) (by omega) (by omega)).mono fun _ _ h => h
  · exact (lay_6 a 0 0 0 0 v A n k w h (by omega) (by omega) (by omega) (by omega)).mono fun _ _ h => h
  · exact (lay_15 a c 0 0 0 A n k _ vs w h (by omega) (by omega) (by omega) (by omega) h6 (by omega) rfl).mono fun _ _ h => h
  · subst hl h1
    exact (lay_16 a _ 0 0 0 A _ k vs w h (by omega) (by omega) h6 (by omega) (by omega)).mono fun _ _ h => h
  · exact (lay_22 a 0 0 an o A n k w (by omega) (by omega) (by omega) (by omega) (by omega) (by omega)).mono fun _ _ h => h
  · subst hl
    exact (lay_23 a c t 0 0 A _ k vs w h (by omega) (by omega) (by omega) (by omega) (by omega) (by omega) h9 (by omega) (by omega)).mono fun _ _ h => h

end Go.Proofs.Ytfpfijggmfeejaa

namespace Go.Proofs.Ytfpfijggmfeejaa
set_option linter.unusedVariables false
set_option linter.unusedSimpArgs false
open Go.RowKit

/-- A request is handed back. -/
def RetRq (r : Rq) (w : World) (e : Ending) (w' : World) : Prop := ∃ C m k, e = .returned (.agg #[.int .i64 r.f, .int .i64 r.a, .int .i64 r.c, .slice C m k, .int .i64 r.t, .int .i64 r.an, .int .i64 r.o]) ∧ m ≤ k ∧ Rd w' C m (iv r.vs) ∧ Below w.heap.size w w' ∧ ∀ b o, C = some ⟨b, o, none⟩ → w.heap.size ≤ b

theorem wAt_bounds (xs : List UInt8) (i : Nat) : 0 ≤ wAt xs i ∧ wAt xs i ≤ 65535 := by
  unfold wAt
  split
  · have h1 := (xs[i]?.getD 0).toNat_lt
    have h2 := (xs[i + 1]?.getD 0).toNat_lt
    omega
  · omega
theorem quo_word (z : Int) (h : 0 ≤ z ∧ z ≤ 65535) : wrap64 (z.tdiv 65280) = z / 65280 := by
  have e : z.tdiv 65280 = z / 65280 := Int.tdiv_eq_ediv_of_nonneg h.1
  rw [e]
  have h1 : z / 65280 ≤ 1 := by omega
  have h2 : 0 ≤ z / 65280 := by omega
  unfold wrap64
  omega

end Go.Proofs.Ytfpfijggmfeejaa

namespace Go.Proofs.Ytfpfijggmfeejaa
set_option linter.unusedVariables false
set_option linter.unusedSimpArgs false
open Go.RowKit

end Go.Proofs.Ytfpfijggmfeejaa

namespace Go.Proofs.Ytfpfijggmfeejaa
set_option linter.unusedVariables false
set_option linter.unusedSimpArgs false
open Go.RowKit

/-- A slice that reads and an error's number are handed back. -/
def RetSlE (n : Nat) (vs : List Value) (code : Int) (w : World) (e : Ending) (w' : World) : Prop := ∃ C k, e = .returned (.tuple #[.slice C n k, .int .i64 code]) ∧ n ≤ k ∧ Rd w' C n vs ∧ Below w.heap.size w w'
/-- A request and an error's number are handed back. -/
def RetRqE (r : Rq) (code : Int) (w : World) (e : Ending) (w' : World) : Prop := ∃ C m k, e = .returned (.tuple #[.agg #[.int .i64 r.f, .int .i64 r.a, .int .i64 r.c, .slice C m k, .int .i64 r.t, .int .i64 r.an, .int .i64 r.o], .int .i64 code]) ∧ m ≤ k ∧ Rd w' C m (iv r.vs) ∧ Below w.heap.size w w'

/-- bytes.Equal. -/
theorem equal_any (A B : Option Addr) (n m c d : Nat) (xs ys : List UInt8) (w : World) (h : Rd w A n (bv xs)) (h2 : Rd w B m (bv ys)) :
    Calls Try.prog 53 #[.slice A n c, .slice B m d] w fun e w' => e = .returned (.bool (decide (xs = ys))) ∧ w = w' := by
  have hs1 := rdStr h c
  have hs2 := rdStr h2 d
  have He : Hid ((xs == ys) = decide (xs = ys)) := by
    show _ = _
    rw [Bool.eq_iff_iff]
    simp
  clear h h2
  generalize decide (xs = ys) = b at *
  go_enter Try.func53, Try.ntmps53
  go_wp2
  go_ret
  exact ⟨by rw [← He.out]; simp, rfl⟩

theorem gs_length (xs : List UInt8) : (gs xs).vs.length ≤ 8 * xs.length + 1 := by
  have hw : ∀ n ys, ys.length ≤ n → (wordsL ys).length ≤ n := by
    intro n ys hn
    rw [wordsL_range _ _ (Nat.le_refl _), wordsTo, List.length_map, List.length_range]
    omega
  have hb : ∀ ys n, (bitsL ys n).length ≤ 8 * ys.length := by
    intro ys n
    unfold bitsL
    split
    · rw [unpackL_length]; omega
    · simp
  unfold gs
  repeat' split
  all_goals simp only [List.length_cons, List.length_nil]
  all_goals first | omega | skip
  · have := hb (xs.drop 6) (wAt xs 3).toNat
    simp only [List.length_drop] at this
    omega
  · have := hw xs.length (xs.drop 6) (by simp)
    omega
  · have := hw xs.length (xs.drop 10) (by simp)
    omega

theorem parse_short (xs : List UInt8) (h : xs.length < 5 ∨ 253 < xs.length) : parseL xs = none := by
  unfold parseL
  rw [if_neg]
  rintro ⟨h1, h2⟩
  have := lay_bounds (show mayB (gs xs).f (gs xs).a (gs xs).c (gs xs).vs (gs xs).t (gs xs).an (gs xs).o = true from h1)
  rw [show layL (gs xs).f (gs xs).a (gs xs).c (gs xs).vs (gs xs).t (gs xs).an (gs xs).o = xs from h2] at this
  omega

end Go.Proofs.Ytfpfijggmfeejaa

namespace Go.Proofs.Ytfpfijggmfeejaa
set_option linter.unusedVariables false
set_option linter.unusedSimpArgs false
open Go.RowKit

theorem parse_eq (xs : List UInt8) (f a c : Int) (vs : List Int) (t an o : Int) (h : gs xs = ⟨f, a, c, vs, t, an, o⟩) :
    parseL xs = if mayB f a c vs t an o = true ∧ layL f a c vs t an o = xs then some ⟨f, a, c, vs, t, an, o⟩ else none := by
  unfold parseL
  rw [h]
  rfl


end Go.Proofs.Ytfpfijggmfeejaa

namespace Go.Proofs.Ytfpfijggmfeejaa
set_option linter.unusedVariables false
set_option linter.unusedSimpArgs false
open Go.RowKit

theorem three_new (w : World) (l1 l2 : List Value) (t1 t2 t3 : TypeId) (x : Value) (W : World) (hW : W = ((w.alloc (.cells (arr l1) t1)).alloc (.cells (arr l2) t2)).alloc (.cells #[x] t3)) :
    Blk W w.heap.size t1 l1 ∧ Blk W (w.heap.size + 1) t2 l2 ∧ Blk W (w.heap.size + 2) t3 [x] ∧ Below w.heap.size w W ∧ W.heap.size = w.heap.size + 3 := by
  subst hW
  have h1 := Blk.new w t1 l1
  have h2 := Blk.new (w.alloc (.cells (arr l1) t1)) t2 l2
  have h3 := Blk.new ((w.alloc (.cells (arr l1) t1)).alloc (.cells (arr l2) t2)) t3 [x]
  simp only [World.size_alloc] at h2 h3
  exact ⟨(h1.al _).al _, h2.al _, h3, ((((Below.refl _ _).alloc (Nat.le_refl _) _).alloc (by simp) _).alloc (by simp; omega) _), by simp⟩

theorem layAns_1 (a c t an o : Int) (A B : Option Addr) (n k m d M : Nat) (us : List Int) (w : World) (h : Rd w B m (iv us)) (hv : upToB us 1 = true) (hm : m ≤ 2000) (hM : M = (m + 7) / 8) :
    Calls Try.prog 54 #[.agg #[.int .i64 1, .int .i64 a, .int .i64 c, .slice A n k, .int .i64 t, .int .i64 an, .int .i64 o], .agg #[.slice B m d, .int .i64 0]] w (RetOwn 5 (2 + M) (bv ([1] ++ cntL (packL us))) w) := by
  have hl : us.length = m := by rw [← iv_length]; exact h.1
  have hb : bitsB us = true := by rw [← bits_upTo]; exact hv
  have HPk := hide (fun W b => packed_any B m d M us W (h.keep b) (by omega) hb hM)
  have hpl : (packL us).length = M := by rw [packL_length, hl, hM]
  have Hpl := hide hpl
  have HM := hide hM
  clear hpl hM h hl hb hv
  go_enter Try.func54, Try.ntmps54
  go_wp2_with fail
  generalize hW : ((w.alloc (.cells #[.int .i64 1, .int .i64 a, .int .i64 c, .slice A n k, .int .i64 t, .int .i64 an, .int .i64 o] 37)).alloc (.cells #[.slice B m d, .int .i64 0] 61)).alloc (.cells #[.int .u8 1] 5) = W
  obtain ⟨_, _, hB3, hBel, hsz⟩ := three_new w [.int .i64 1, .int .i64 a, .int .i64 c, .slice A n k, .int .i64 t, .int .i64 an, .int .i64 o] [.slice B m d, .int .i64 0] 37 61 5 (.int .u8 1) W hW.symm
  clear hW
  refine (HPk.out _ hBel).mono ?_
  rintro e w2 ⟨rfl, k2, b2⟩
  have HB2 := hide (below_on hBel b2)
  have o1 : w2.ownsRow w.heap.size 5 1 (.slice (some ⟨w.heap.size + 2, 0, none⟩) 1 1) 1 (bv [1]) := own_keep (hB3.own (by omega) 1 rfl (by decide)) b2
  have hr2 := k2.reads (Below.refl _ _) M (by rw [bv_length]; exact Hpl.out)
  have hz := hsz
  have s2 := b2.size
  have HC := hide (pcounted_any w.heap.size (w.heap.size + 2) W.heap.size 1 1 M M _ [1] (packL us) _ o1 (by omega) hr2 (fun b o e _ => by injection e with e; injection e with e; exact Nat.le_of_eq e) (by omega) (by have := HM.out; omega) (by omega))
  clear k2 b2 o1 hr2 hz s2 hsz hB3 hBel
  go_wp2_with fail
  refine HC.out.mono ?_
  rintro e w3 ⟨D, kD, rfl, oD, bD⟩
  have OD := hide oD
  have BD := hide (HB2.out.trans bD)
  clear oD bD
  go_wp2
  go_ret
  exact ⟨D, kD, rfl, OD.out, BD.out⟩
theorem layAns_2 (a c t an o : Int) (A B : Option Addr) (n k m d M : Nat) (us : List Int) (w : World) (h : Rd w B m (iv us)) (hv : upToB us 1 = true) (hm : m ≤ 2000) (hM : M = (m + 7) / 8) :
    Calls Try.prog 54 #[.agg #[.int .i64 2, .int .i64 a, .int .i64 c, .slice A n k, .int .i64 t, .int .i64 an, .int .i64 o], .agg #[.slice B m d, .int .i64 0]] w (RetOwn 5 (2 + M) (bv ([2] ++ cntL (packL us))) w) := by
  have hl : us.length = m := by rw [← iv_length]; exact h.1
  have hb : bitsB us = true := by rw [← bits_upTo]; exact hv
  have HPk := hide (fun W b => packed_any B m d M us W (h.keep b) (by omega) hb hM)
  have hpl : (packL us).length = M := by rw [packL_length, hl, hM]
  have Hpl := hide hpl
  have HM := hide hM
  clear hpl hM h hl hb hv
  go_enter Try.func54, Try.ntmps54
  go_wp2_with fail
  generalize hW : ((w.alloc (.cells #[.int .i64 2, .int .i64 a, .int .i64 c, .slice A n k, .int .i64 t, .int .i64 an, .int .i64 o] 37)).alloc (.cells #[.slice B m d, .int .i64 0] 61)).alloc (.cells #[.int .u8 2] 5) = W
  obtain ⟨_, _, hB3, hBel, hsz⟩ := three_new w [.int .i64 2, .int .i64 a, .int .i64 c, .slice A n k, .int .i64 t, .int .i64 an, .int .i64 o] [.slice B m d, .int .i64 0] 37 61 5 (.int .u8 2) W hW.symm
  clear hW
  refine (HPk.out _ hBel).mono ?_
  rintro e w2 ⟨rfl, k2, b2⟩
  have HB2 := hide (below_on hBel b2)
  have o1 : w2.ownsRow w.heap.size 5 1 (.slice (some ⟨w.heap.size + 2, 0, none⟩) 1 1) 1 (bv [2]) := own_keep (hB3.own (by omega) 1 rfl (by decide)) b2
  have hr2 := k2.reads (Below.refl _ _) M (by rw [bv_length]; exact Hpl.out)
  have hz := hsz
  have s2 := b2.size
  have HC := hide (pcounted_any w.heap.size (w.heap.size + 2) W.heap.size 1 1 M M _ [2] (packL us) _ o1 (by omega) hr2 (fun b o e _ => by injection e with e; injection e with e; exact Nat.le_of_eq e) (by omega) (by have := HM.out; omega) (by omega))
  clear k2 b2 o1 hr2 hz s2 hsz hB3 hBel
  go_wp2_with fail
  refine HC.out.mono ?_
  rintro e w3 ⟨D, kD, rfl, oD, bD⟩
  have OD := hide oD
  have BD := hide (HB2.out.trans bD)
  clear oD bD
  go_wp2
  go_ret
  exact ⟨D, kD, rfl, OD.out, BD.out⟩

theorem layAns_3 (a c t an o : Int) (A B : Option Addr) (n k m d : Nat) (us : List Int) (w : World) (h : Rd w B m (iv us)) (hv : upToB us 65535 = true) (hm0 : 0 < m) (hm : m ≤ 125) :
    Calls Try.prog 54 #[.agg #[.int .i64 3, .int .i64 a, .int .i64 c, .slice A n k, .int .i64 t, .int .i64 an, .int .i64 o], .agg #[.slice B m d, .int .i64 0]] w (RetOwn 5 (2 + 2 * m) (bv ([3] ++ cntL (putL us))) w) := by
  have HPk := hide (fun W b => pput_nil B m d us W (h.keep b) hv (by omega) hm0)
  clear h hv
  go_enter Try.func54, Try.ntmps54
  go_wp2_with fail
  generalize hW : ((w.alloc (.cells #[.int .i64 3, .int .i64 a, .int .i64 c, .slice A n k, .int .i64 t, .int .i64 an, .int .i64 o] 37)).alloc (.cells #[.slice B m d, .int .i64 0] 61)).alloc (.cells #[.int .u8 3] 5) = W
  obtain ⟨_, _, hB3, hBel, hsz⟩ := three_new w [.int .i64 3, .int .i64 a, .int .i64 c, .slice A n k, .int .i64 t, .int .i64 an, .int .i64 o] [.slice B m d, .int .i64 0] 37 61 5 (.int .u8 3) W hW.symm
  clear hW
  refine (HPk.out _ hBel).mono ?_
  rintro e w2 ⟨D2, kk2, rfl, o2, b2⟩
  obtain ⟨g2, rest2, rfl, hg2, hbg2⟩ := own_blk o2 (by omega)
  have HB2 := hide (below_on hBel b2)
  have o1 : w2.ownsRow w.heap.size 5 1 (.slice (some ⟨w.heap.size + 2, 0, none⟩) 1 1) 1 (bv [3]) := own_keep (hB3.own (by omega) 1 rfl (by decide)) b2
  have hz := hsz
  have s2 := b2.size
  have HC := hide (pcounted_any w.heap.size (w.heap.size + 2) W.heap.size 1 1 (2 * m) kk2 _ [3] (putL us) _ o1 (by omega) (own_rd o2) (fun b o e _ => by injection e with e; injection e with e; omega) (by omega) (by omega) (by omega))
  clear o2 b2 o1 hz s2 hsz hB3 hBel hbg2
  go_wp2_with fail
  refine HC.out.mono ?_
  rintro e w3 ⟨D, kD, rfl, oD, bD⟩
  have OD := hide oD
  have BD := hide (HB2.out.trans bD)
  clear oD bD
  go_wp2
  go_ret
  exact ⟨D, kD, rfl, OD.out, BD.out⟩
theorem layAns_4 (a c t an o : Int) (A B : Option Addr) (n k m d : Nat) (us : List Int) (w : World) (h : Rd w B m (iv us)) (hv : upToB us 65535 = true) (hm0 : 0 < m) (hm : m ≤ 125) :
    Calls Try.prog 54 #[.agg #[.int .i64 4, .int .i64 a, .int .i64 c, .slice A n k, .int .i64 t, .int .i64 an, .int .i64 o], .agg #[.slice B m d, .int .i64 0]] w (RetOwn 5 (2 + 2 * m) (bv ([4] ++ cntL (putL us))) w) := by
  have HPk := hide (fun W b => pput_nil B m d us W (h.keep b) hv (by omega) hm0)
  clear h hv
  go_enter Try.func54, Try.ntmps54
  go_wp2_with fail
  generalize hW : ((w.alloc (.cells #[.int .i64 4, .int .i64 a, .int .i64 c, .slice A n k, .int .i64 t, .int .i64 an, .int .i64 o] 37)).alloc (.cells #[.slice B m d, .int .i64 0] 61)).alloc (.cells #[.int .u8 4] 5) = W
  obtain ⟨_, _, hB3, hBel, hsz⟩ := three_new w [.int .i64 4, .int .i64 a, .int .i64 c, .slice A n k, .int .i64 t, .int .i64 an, .int .i64 o] [.slice B m d, .int .i64 0] 37 61 5 (.int .u8 4) W hW.symm
  clear hW
  refine (HPk.out _ hBel).mono ?_
  rintro e w2 ⟨D2, kk2, rfl, o2, b2⟩
  obtain ⟨g2, rest2, rfl, hg2, hbg2⟩ := own_blk o2 (by omega)
  have HB2 := hide (below_on hBel b2)
  have o1 : w2.ownsRow w.heap.size 5 1 (.slice (some ⟨w.heap.size + 2, 0, none⟩) 1 1) 1 (bv [4]) := own_keep (hB3.own (by omega) 1 rfl (by decide)) b2
  have hz := hsz
  have s2 := b2.size
  have HC := hide (pcounted_any w.heap.size (w.heap.size + 2) W.heap.size 1 1 (2 * m) kk2 _ [4] (putL us) _ o1 (by omega) (own_rd o2) (fun b o e _ => by injection e with e; injection e with e; omega) (by omega) (by omega) (by omega))
  clear o2 b2 o1 hz s2 hsz hB3 hBel hbg2
  go_wp2_with fail
  refine HC.out.mono ?_
  rintro e w3 ⟨D, kD, rfl, oD, bD⟩
  have OD := hide oD
  have BD := hide (HB2.out.trans bD)
  clear oD bD
  go_wp2
  go_ret
  exact ⟨D, kD, rfl, OD.out, BD.out⟩
theorem layAns_23 (a c t an o : Int) (A B : Option Addr) (n k m d : Nat) (us : List Int) (w : World) (h : Rd w B m (iv us)) (hv : upToB us 65535 = true) (hm0 : 0 < m) (hm : m ≤ 125) :
    Calls Try.prog 54 #[.agg #[.int .i64 23, .int .i64 a, .int .i64 c, .slice A n k, .int .i64 t, .int .i64 an, .int .i64 o], .agg #[.slice B m d, .int .i64 0]] w (RetOwn 5 (2 + 2 * m) (bv ([23] ++ cntL (putL us))) w) := by
  have HPk := hide (fun W b => pput_nil B m d us W (h.keep b) hv (by omega) hm0)
  clear h hv
  go_enter Try.func54, Try.ntmps54
  go_wp2_with fail
  generalize hW : ((w.alloc (.cells #[.int .i64 23, .int .i64 a, .int .i64 c, .slice A n k, .int .i64 t, .int .i64 an, .int .i64 o] 37)).alloc (.cells #[.slice B m d, .int .i64 0] 61)).alloc (.cells #[.int .u8 23] 5) = W
  obtain ⟨_, _, hB3, hBel, hsz⟩ := three_new w [.int .i64 23, .int .i64 a, .int .i64 c, .slice A n k, .int .i64 t, .int .i64 an, .int .i64 o] [.slice B m d, .int .i64 0] 37 61 5 (.int .u8 23) W hW.symm
  clear hW
  refine (HPk.out _ hBel).mono ?_
  rintro e w2 ⟨D2, kk2, rfl, o2, b2⟩
  obtain ⟨g2, rest2, rfl, hg2, hbg2⟩ := own_blk o2 (by omega)
  have HB2 := hide (below_on hBel b2)
  have o1 : w2.ownsRow w.heap.size 5 1 (.slice (some ⟨w.heap.size + 2, 0, none⟩) 1 1) 1 (bv [23]) := own_keep (hB3.own (by omega) 1 rfl (by decide)) b2
  have hz := hsz
  have s2 := b2.size
  have HC := hide (pcounted_any w.heap.size (w.heap.size + 2) W.heap.size 1 1 (2 * m) kk2 _ [23] (putL us) _ o1 (by omega) (own_rd o2) (fun b o e _ => by injection e with e; injection e with e; omega) (by omega) (by omega) (by omega))
  clear o2 b2 o1 hz s2 hsz hB3 hBel hbg2
  go_wp2_with fail
  refine HC.out.mono ?_
  rintro e w3 ⟨D, kD, rfl, oD, bD⟩
  have OD := hide oD
  have BD := hide (HB2.out.trans bD)
  clear oD bD
  go_wp2
  go_ret
  exact ⟨D, kD, rfl, OD.out, BD.out⟩

end Go.Proofs.Ytfpfijggmfeejaa
