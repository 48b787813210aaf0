/-
  What is proved here: what mbap's cut returns: the frames, and what is left. Condition: lengths up to some hundred thousand.
-/
import Derived.Test.YtjldfefebnpdgaaMb3
namespace Go.Proofs.Ytjldfefebnpdgaa
set_option linter.unusedVariables false
set_option linter.unusedSimpArgs false
open Go.RowKit

/-- A lies in C's block. -/
def InB (C A : Option Addr) : Prop := ∀ a, A = some a → ∃ a', C = some a' ∧ a'.block = a.block
theorem InB.refl (C : Option Addr) : InB C C := fun a e => ⟨a, e, rfl⟩
theorem add_block (a : Addr) (j : Nat) : (a.add j).block = a.block := by
  unfold Addr.add
  by_cases h : j = 0 <;> simp [h]
theorem InB.cut {C A : Option Addr} (h : InB C A) (lo k : Nat) : InB C (cutA A lo k) := by
  intro a e
  unfold cutA at e
  split at e
  · exact h a e
  · obtain ⟨a', e1, rfl⟩ := Option.map_eq_some_iff.1 e
    obtain ⟨c, f1, f2⟩ := h a' e1
    exact ⟨c, f1, by rw [f2, add_block]⟩
/-- What is told of bytes, what is left, whether they are broken. -/
def toL (xs : List UInt8) : List AduE := (cutAll mbNx xs).1
def brB (xs : List UInt8) : Bool := (cutAll mbNx xs).2.2
def lfL (xs : List UInt8) : List UInt8 := if brB xs then [] else (cutAll mbNx xs).2.1
def brE (xs : List UInt8) : Int := if brB xs then 50 else 0
def slLen : Value → Nat
  | .slice _ n _ => n
  | _ => 0

/-- What the loop keeps. -/
structure CutSt (C : Option Addr) (n : Nat) (xs : List UInt8) (w : World) (D : Option Addr) (dn dk : Nat) (ys : List UInt8) (O : Option Addr) (ok : Nat) (rs : List AduM) (wr : World) : Prop where
  cap : dn ≤ dk
  rd : Rd w D dn (bv ys)
  inb : InB C D
  told : toL xs = rs.map AduM.e ++ toL ys
  rest : (cutAll mbNx xs).2 = (cutAll mbNx ys).2
  rows : ∀ r ∈ rs, r.is w ∧ InB C r.A
  own : wr.ownsRow w.heap.size 24 3 (.slice O rs.length ok) rs.length (avs rs)
  few : rs.length + dn ≤ n
  bel : Below w.heap.size w wr
section
variable {C : Option Addr} {n : Nat} {xs : List UInt8} {w : World} {D : Option Addr} {dn dk : Nat} {ys : List UInt8} {O : Option Addr} {ok : Nat} {rs : List AduM} {wr : World}
theorem CutSt.len (h : CutSt C n xs w D dn dk ys O ok rs wr) : ys.length = dn := by rw [← bv_length]; exact h.rd.1
theorem CutSt.ard (h : CutSt C n xs w D dn dk ys O ok rs wr) {w' : World} (b : Below wr.heap.size wr w') : ARd w' O rs.length rs :=
  ⟨(ownS_rd h.own).keep b, fun r hr => Rd.keep (h.rows r hr).1 (below_on h.bel b)⟩
theorem CutSt.new (h : CutSt C n xs w D dn dk ys O ok rs wr) : NewAt w O := fun b o e => ownS_new h.own b o e
/-- One frame more. -/
theorem CutSt.step (h : CutSt C n xs w D dn dk ys O ok rs wr) (a : AduE) (N : Nat) (hn : mbNx ys = .cut a N) (O' : Option Addr) (ok' : Nat) (w' : World)
    (own' : w'.ownsRow w.heap.size 24 3 (.slice O' (rs.length + 1) ok') (rs.length + 1) (avs rs ++ AduM.vs ⟨a.tid, a.unit, cutA D 7 N, N - 7, a.pdu⟩)) (bel' : Below w.heap.size w w') :
    CutSt C n xs w (cutA D N dk) (dn - N) (dk - N) (ys.drop N) O' ok' (rs ++ [⟨a.tid, a.unit, cutA D 7 N, N - 7, a.pdu⟩]) w' := by
  have hl := h.len
  have hp := mbCuts.pos _ _ _ hn
  obtain ⟨h1, h2, h3⟩ := mbNx_back _ _ _ hn
  have hok := aduOk_yes h1
  have hcut := cutAll_cut ys mbCuts a N hn
  have hpdu : a.pdu = ((ys.take N).drop 7).take (N - 7) := by
    rw [← h2]
    show a.pdu = List.take (N - 7) a.pdu
    rw [h3, Nat.add_sub_cancel, List.take_length]
  refine ⟨?_, ?_, h.inb.cut _ _, ?_, ?_, ?_, ?_, ?_, bel'⟩
  · have := h.cap; omega
  · rw [← bv_drop]
    exact h.rd.tail N dk (by omega) h.cap
  · rw [h.told]
    unfold toL
    rw [hcut, List.map_append, List.append_assoc]
    rfl
  · rw [h.rest, hcut]
  · intro r hr
    rw [List.mem_append] at hr
    rcases hr with hr | hr
    · exact h.rows r hr
    · simp at hr
      subst hr
      refine ⟨?_, h.inb.cut _ _⟩
      show Rd w (cutA D 7 N) a.pdu.length (bv a.pdu)
      have hlen : a.pdu.length = N - 7 := by omega
      rw [hlen, hpdu, ← bv_cut]
      exact (h.rd.upto N dk (by omega) h.cap).cut 7 (N - 7) N (by omega) (Nat.le_refl _)
  · rw [avs_append, List.length_append]
    exact own'
  · have := h.few
    rw [List.length_append]
    show rs.length + 1 + (dn - N) ≤ n
    omega
theorem CutSt.wait (h : CutSt C n xs w D dn dk ys O ok rs wr) (hn : mbNx ys = .wait) : rs.map AduM.e = toL xs ∧ lfL xs = ys ∧ brE xs = 0 := by
  have hc := cutAll_wait ys mbCuts hn
  have h1 := h.told
  have h2 := h.rest
  rw [hc] at h2
  unfold toL at h1 ⊢
  rw [hc] at h1
  refine ⟨by rw [h1, List.append_nil], ?_, ?_⟩
  · unfold lfL brB
    rw [h2]
    rfl
  · unfold brE brB
    rw [h2]
    rfl
theorem CutSt.bad (h : CutSt C n xs w D dn dk ys O ok rs wr) (hn : mbNx ys = .bad) : rs.map AduM.e = toL xs ∧ lfL xs = [] ∧ brE xs = 50 := by
  have hc := cutAll_bad ys mbCuts hn
  have h1 := h.told
  have h2 := h.rest
  rw [hc] at h2
  unfold toL at h1 ⊢
  rw [hc] at h1
  refine ⟨by rw [h1, List.append_nil], ?_, ?_⟩
  · unfold lfL brB
    rw [h2]
    rfl
  · unfold brE brB
    rw [h2]
    rfl
end
theorem mbNx_head (ys : List UInt8) (a : AduE) (N : Nat) (hn : mbNx ys = .cut a N) : ((wordN (ys.take N) 0 : Nat) : Int) = a.tid ∧ ((byteAt (ys.take N) 6 : Nat) : Int) = a.unit ∧ a.pdu.length = N - 7 ∧ 8 ≤ N := by
  obtain ⟨h1, h2, h3⟩ := mbNx_back _ _ _ hn
  have hok := aduOk_yes h1
  have h4 := mbNx_frame a h1 []
  rw [List.append_nil] at h4
  rw [← h2]
  have hl := aduL_length a
  rcases mbNx_or (aduL a) with h | ⟨_, _, h⟩ | ⟨_, _, _, h⟩
  · rw [h4] at h; cases h
  · rw [h4] at h; cases h
  · rw [h4] at h
    injection h with h _
    refine ⟨(congrArg AduE.tid h).symm, (congrArg AduE.unit h).symm, by omega, by omega⟩

/-- What cut answers. -/
def RetCut (C : Option Addr) (xs : List UInt8) (w : World) (e : Ending) (w' : World) : Prop :=
  ∃ O ok rs D dk, e = .returned (.tuple #[.slice O rs.length ok, .slice D (lfL xs).length dk, .int .i64 (brE xs)]) ∧ rs.map AduM.e = toL xs ∧ ARd w' O rs.length rs ∧ NewAt w O ∧ (∀ r ∈ rs, InB C r.A) ∧ InB C D ∧ Rd w' D (lfL xs).length (bv (lfL xs)) ∧ Below w.heap.size w w'

set_option maxRecDepth 100000 in
theorem mcut_any (C : Option Addr) (n c : Nat) (xs : List UInt8) (w : World) (hr : Rd w C n (bv xs)) (hc : n ≤ c) (hn : n ≤ 1000000) :
    Calls Try.prog 24 #[.slice C n c] w (RetCut C xs w) := by
  go_enter Try.func24, Try.ntmps24
  go_wp2
  go_loopw [0, 5] (fun v tv wr => ∃ D dn dk ys O ok rs, v = .slice D dn dk ∧ tv = .slice O (List.length rs) ok ∧ CutSt C n xs w D dn dk ys O ok rs wr) (fun v _ _ => slLen v)
  case atStart => exact ⟨C, n, c, xs, none, 0, [], rfl, rfl, ⟨hc, hr, InB.refl _, rfl, rfl, by simp, World.ownsRow_nil _ _ _ _, by simp, Below.refl _ _⟩⟩
  case round =>
    obtain ⟨D, dn, dk, ys, O, ok, rs, rfl, rfl, st⟩ := hrel
    have hl := st.len
    have hcap := st.cap
    have hfew := st.few
    have HZ := hide (msize_any D dn dk ys wr (st.rd.keep st.bel) (by omega))
    have St := hide st
    clear hr
    cases hnx : mbNx ys with
    | wait =>
      have e1 : szN ys = 0 := by simp only [szN, hnx]
      have e2 : szE ys = 7 := by simp only [szE, hnx]
      rw [e1, e2] at HZ
      obtain ⟨f1, f2, f3⟩ := st.wait hnx
      have F1 := hide f1
      have F2 := hide f2
      have F3 := hide f3
      have Hl := hide hl
      clear st e1 e2 hnx f1 f2 f3 hl
      go_wp2_with fail
      refine HZ.out.mono ?_
      rintro e w1 ⟨rfl, nq, rfl⟩
      go_wp2
      go_ret3
      have b1 : Below wr.heap.size wr (wr.drewN nq) := below_drewN (Below.refl _ _) nq
      refine ⟨O, ok, rs, D, dk, ?_, F1.out, St.out.ard b1, St.out.new, fun r hr => (St.out.rows r hr).2, St.out.inb, ?_, below_on St.out.bel b1⟩
      · rw [F2.out, F3.out, Hl.out]
        rfl
      · rw [F2.out, Hl.out]
        exact St.out.rd.keep (below_on St.out.bel b1)
    | bad =>
      have e1 : szN ys = 0 := by simp only [szN, hnx]
      have e2 : szE ys = 50 := by simp only [szE, hnx]
      rw [e1, e2] at HZ
      obtain ⟨f1, f2, f3⟩ := st.bad hnx
      have F1 := hide f1
      have F2 := hide f2
      have F3 := hide f3
      clear st e1 e2 hnx f1 f2 f3 hl
      go_wp2_with fail
      refine HZ.out.mono ?_
      rintro e w1 ⟨rfl, nq, rfl⟩
      go_wp2
      go_ret3
      have b1 : Below wr.heap.size wr (wr.drewN nq) := below_drewN (Below.refl _ _) nq
      refine ⟨O, ok, rs, none, 0, ?_, F1.out, St.out.ard b1, St.out.new, fun r hr => (St.out.rows r hr).2, (fun a e => by cases e), ?_, below_on St.out.bel b1⟩
      · rw [F2.out, F3.out]
        rfl
      · rw [F2.out]
        exact Rd.nil _ _
    | cut a N =>
      have e1 : szN ys = (N : Int) := by simp only [szN, hnx]
      have e2 : szE ys = 0 := by simp only [szE, hnx]
      rw [e1, e2] at HZ
      have hp := mbCuts.pos _ _ _ hnx
      obtain ⟨i1, i2, i3, i4⟩ := mbNx_head ys a N hnx
      have HU := hide (fun (W : World) (h : Rd W D N (bv (ys.take N))) => madu_any D N N (ys.take N) W h i4 (by omega) (Nat.le_refl _))
      rw [i1, i2, ← i3] at HU
      have HR := hide (st.rd.upto N dk (by omega) hcap)
      have HS := hide (fun O' ok' w' => st.step a N hnx O' ok' w')
      have hsl1 := fun W => run_slHead (P := Try.prog) 22 5 Try.underlying22 u8_size D dn dk (N : Int) (N : Int) N N rfl rfl (Nat.le_refl _) (by omega) W
      have hsl2 := fun W => run_slTail (P := Try.prog) 22 5 Try.underlying22 u8_size D dn dk (N : Int) N rfl (by omega) W
      have hN : N ≤ dn := by omega
      have HI3 := hide i3
      clear st e1 e2 hnx hl i1 i2 i3 hp
      go_wp2_with fail
      refine HZ.out.mono ?_
      rintro e w1 ⟨rfl, nq, rfl⟩
      go_wp2_with fail
      have b1 : Below w.heap.size w (wr.drewN nq) := below_drewN St.out.bel nq
      refine (HU.out (wr.drewN nq) (HR.out.keep b1)).mono ?_
      rintro e w2 ⟨rfl, b2⟩
      have B2 := hide (below_on b1 b2)
      have O2 := hide (ownS_keep St.out.own (below_on (below_drewN (Below.refl _ _) nq : Below wr.heap.size wr (wr.drewN nq)) b2))
      clear b2 b1
      go_wp2_with (at_builtin; refine wpList_appS rfl (.tmp 26) (.tmp 29) 35 rfl 24 _ 3 _ Try.underlying35 adu_info rfl (by omega) w.heap.size O rs.length ok (avs rs) rfl (ownS_keep O2.out ((Below.refl _ _).alloc (Nat.le_refl _) _)) _ 1 1 (AduM.vs ⟨a.tid, a.unit, cutA D 7 N, a.pdu.length, a.pdu⟩) rfl ((Blk.new w2 24 (AduM.vs ⟨a.tid, a.unit, cutA D 7 N, a.pdu.length, a.pdu⟩)).rd) (by intro v hv; simp [AduM.vs] at hv; rcases hv with rfl | rfl | rfl <;> rfl) (by unfold maxLen; omega) (by omega) (Nat.le_trans B2.out.size (by simp)) ?_; intro A4 c4 w4 o4 b4 h4)
      have bel4 : Below w.heap.size w w4 := But.below (B2.out.alloc B2.out.size _) b4 (fun i ⟨o, e⟩ => ownS_new O2.out i o e) (Nat.le_trans B2.out.size (by simp))
      have st4 := HS.out A4 c4 w4 (by rw [← HI3.out]; exact o4) bel4
      exact ⟨⟨_, _, _, _, _, _, _, rfl, by rw [List.length_append]; rfl, st4⟩, by simp only [slLen]; omega⟩

end Go.Proofs.Ytjldfefebnpdgaa
