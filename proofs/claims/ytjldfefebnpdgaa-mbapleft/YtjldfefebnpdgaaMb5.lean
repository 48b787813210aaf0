/-
  What is proved here: a stream in memory, and what mbap's New, Feed and Left return. Condition: lengths up to some hundred thousand.
-/
import Derived.Test.YtjldfefebnpdgaaMb4
namespace Go.Proofs.Ytjldfefebnpdgaa
set_option linter.unusedVariables false
set_option linter.unusedSimpArgs false
open Go.RowKit

/-- A stream in memory. -/
structure StA (w : World) (g : Nat) (A : Option Addr) (k : Nat) (left : List UInt8) (br : Bool) : Prop where
  str : Blk w g 51 [.slice A left.length k, .bool br]
  rd : Rd w A left.length (bv left)
  ap : ∀ b o, A = some ⟨b, o, none⟩ → b ≠ g
  lt : ∀ b o, A = some ⟨b, o, none⟩ → b < w.heap.size
section
variable {w w' : World} {g : Nat} {A : Option Addr} {k : Nat} {left : List UInt8} {br : Bool}
theorem StA.keep (h : StA w g A k left br) (b : Below w.heap.size w w') : StA w' g A k left br := ⟨h.str.keep b, h.rd.keep b, h.ap, fun x o e => Nat.lt_of_lt_of_le (h.lt x o e) b.size⟩
theorem StA.but {S : Nat → Prop} (h : StA w g A k left br) (b : But S w w') (hg : ¬ S g) (ha : Off S A) : StA w' g A k left br := ⟨h.str.but b hg, h.rd.but b ha, h.ap, fun x o e => Nat.lt_of_lt_of_le (h.lt x o e) b.size⟩
end
/-- What Feed tells, its error, what is left then, whether it is broken then. -/
def fdT (left : List UInt8) (br : Bool) (bs : List UInt8) : List AduE := if br then [] else toL (left ++ bs)
def fdE (left : List UInt8) (br : Bool) (bs : List UInt8) : Int := if br then 50 else brE (left ++ bs)
def fdL (left : List UInt8) (br : Bool) (bs : List UInt8) : List UInt8 := if br then left else lfL (left ++ bs)
def fdB (left : List UInt8) (br : Bool) (bs : List UInt8) : Bool := if br then true else brB (left ++ bs)
/-- What Feed answers. -/
def RetFeed (g : Nat) (A : Option Addr) (left : List UInt8) (br : Bool) (bs : List UInt8) (w : World) (e : Ending) (w' : World) : Prop :=
  ∃ O ok rs A' k', e = .returned (.tuple #[.slice O rs.length ok, .int .i64 (fdE left br bs)]) ∧ rs.map AduM.e = fdT left br bs ∧ ARd w' O rs.length rs ∧ (NewAt w O ∧ ∀ r ∈ rs, NewAt w r.A) ∧ StA w' g A' k' (fdL left br bs) (fdB left br bs) ∧ (A' = A ∨ NewAt w A') ∧ But (fun i => i = g) w w'

theorem mnew_any (w : World) : Calls Try.prog 14 #[] w fun e w' => ∃ g, e = .returned (.pointer (some ⟨g, 0, none⟩)) ∧ w.heap.size ≤ g ∧ StA w' g none 0 [] false ∧ Below w.heap.size w w' := by
  go_enter Try.func14, Try.ntmps14
  go_wp2
  go_ret
  exact ⟨w.heap.size, rfl, Nat.le_refl _, ⟨Blk.new w 51 [.slice none 0 0, .bool false], Rd.nil _ _, (fun _ _ e => by cases e), (fun _ _ e => by cases e)⟩, (Below.refl _ _).alloc (Nat.le_refl _) _⟩

theorem mleft_any (g : Nat) (A : Option Addr) (k : Nat) (left : List UInt8) (br : Bool) (w : World) (h : StA w g A k left br) : Calls Try.prog 16 #[.pointer (some ⟨g, 0, none⟩)] w fun e w' => e = .returned (.int .i64 (left.length : Nat)) ∧ w = w' := by
  have c0 : w.cell? ⟨g, 0, none⟩ = some (.slice A left.length k) := h.str.cell 0
  clear h
  go_enter Try.func16, Try.ntmps16
  go_wp2
  go_ret
  exact ⟨rfl, rfl⟩
theorem mleft_nil (w : World) : Calls Try.prog 16 #[.pointer none] w fun e w' => e = .returned (.int .i64 0) ∧ w = w' := by
  go_enter Try.func16, Try.ntmps16
  go_wp2
  go_ret
  exact ⟨rfl, rfl⟩
theorem mfeed_nil (B : Option Addr) (m d : Nat) (w : World) : Calls Try.prog 15 #[.pointer none, .slice B m d] w fun e w' => e = .returned (.tuple #[.slice none 0 0, .int .i64 3]) ∧ w = w' := by
  go_enter Try.func15, Try.ntmps15
  go_wp2
  go_ret2
  exact ⟨rfl, rfl⟩
theorem brE_bne (xs : List UInt8) : (brE xs != 0) = brB xs := by
  unfold brE
  cases brB xs <;> rfl
theorem own_newB {w w' : World} {e : TypeId} {A : Option Addr} {n c : Nat} {xs : List Value} (h : w'.ownsRow w.heap.size e 1 (.slice A n c) n xs) : ∀ a, A = some a → w.heap.size ≤ a.block := by
  intro a eA
  rcases h.2 with ⟨hv, _⟩ | ⟨g, cap, cur, hv, hg, _⟩
  · injection hv with hA _ _
    rw [eA] at hA
    cases hA
  · injection hv with hA _ _
    rw [eA] at hA
    injection hA with hA
    subst hA
    exact hg
theorem InB.new {C A : Option Addr} {B : Nat} (h : InB C A) (hC : ∀ a, C = some a → B ≤ a.block) : ∀ b o, A = some ⟨b, o, none⟩ → B ≤ b := by
  intro b o e
  obtain ⟨a', e1, e2⟩ := h _ e
  have := hC a' e1
  have e3 : a'.block = b := e2
  omega

theorem cutAll_len {α : Type} {nx : List UInt8 → Nx α} (h0 : Cuts nx) : ∀ (k : Nat) (x : List UInt8), x.length ≤ k → (cutAll nx x).2.1.length ≤ x.length := by
  intro k
  induction k using Nat.strongRecOn with
  | ind k ih =>
    intro x hk
    match hn : nx x with
    | .wait => rw [cutAll_wait x h0 hn]; exact Nat.le_refl _
    | .bad => rw [cutAll_bad x h0 hn]; exact Nat.le_refl _
    | .cut a n =>
      have hp := h0.pos _ _ _ hn
      rw [cutAll_cut x h0 a n hn]
      have hl : (x.drop n).length < k := by rw [List.length_drop]; omega
      have := ih (x.drop n).length hl (x.drop n) (Nat.le_refl _)
      rw [List.length_drop] at this
      show (cutAll nx (x.drop n)).2.1.length ≤ _
      omega
theorem lfL_len (xs : List UInt8) : (lfL xs).length ≤ xs.length := by
  unfold lfL
  split
  · exact Nat.zero_le _
  · exact cutAll_len mbCuts _ xs (Nat.le_refl _)

theorem mfeed_bad (g : Nat) (A : Option Addr) (k : Nat) (left : List UInt8) (B : Option Addr) (m d : Nat) (bs : List UInt8) (w : World) (h : StA w g A k left true) :
    Calls Try.prog 15 #[.pointer (some ⟨g, 0, none⟩), .slice B m d] w (RetFeed g A left true bs w) := by
  have c1 : w.cell? ⟨g, 1, none⟩ = some (.bool true) := h.str.cell 1
  have H := hide h
  clear h
  go_enter Try.func15, Try.ntmps15
  go_wp2
  go_ret2
  exact ⟨none, 0, [], A, k, rfl, rfl, ARd.nil _ _, ⟨NewAt.nil _, by simp⟩, H.out, Or.inl rfl, But.refl _ _⟩

set_option maxHeartbeats 1000000 in
theorem mfeed_ok (g : Nat) (A : Option Addr) (k : Nat) (left : List UInt8) (B : Option Addr) (m d : Nat) (bs : List UInt8) (w : World) (h : StA w g A k left false) (hr : Rd w B m (bv bs)) (hm : left.length + m ≤ 1000000) :
    Calls Try.prog 15 #[.pointer (some ⟨g, 0, none⟩), .slice B m d] w (RetFeed g A left false bs w) := by
  have c0 : w.cell? ⟨g, 0, none⟩ = some (.slice A left.length k) := h.str.cell 0
  have c1 : w.cell? ⟨g, 1, none⟩ = some (.bool false) := h.str.cell 1
  have HJ := hide (mjoin_any A B left.length m k d left bs w h.rd hr hm)
  have H := hide h
  have hx : (left ++ bs).length = left.length + m := by rw [List.length_append, ← bv_length bs, hr.1]
  have HX := hide hx
  have hgl := h.str.lt
  clear h hr hx
  go_enter Try.func15, Try.ntmps15
  go_wp2_with fail
  refine HJ.out.mono ?_
  rintro e w1 ⟨C, kC, rfl, o1, b1⟩
  have O1 := hide o1
  have B1 := hide b1
  clear o1 b1
  go_wp2_with fail
  refine (mcut_any C (left.length + m) kC (left ++ bs) w1 (own_rd O1.out) (own_cap O1.out) (by omega)).mono ?_
  rintro e w2 ⟨O, ok, rs, D, dk, rfl, t2, r2, n2, i2, j2, d2, b2⟩
  have hB2 := H.out.str.keep (below_on B1.out b2)
  have s0 := hB2.cell 0
  have s1 := hB2.cell 1
  have sf := hB2.frozen
  have S2 := hide hB2
  have T2 := hide t2
  have R2 := hide r2
  have N2 := hide n2
  have I2 := hide i2
  have J2 := hide j2
  have D2 := hide d2
  have B2 := hide (below_on B1.out b2)
  have hq := brE_bne (left ++ bs)
  have HE : Hid (fdE left false bs = brE (left ++ bs) ∧ fdT left false bs = toL (left ++ bs) ∧ fdL left false bs = lfL (left ++ bs) ∧ fdB left false bs = brB (left ++ bs)) := ⟨rfl, rfl, rfl, rfl⟩
  have hlen : Hid ((lfL (left ++ bs)).length ≤ 1000000) := by
    have := lfL_len (left ++ bs)
    have h2 := HX.out
    show _ ≤ _
    omega
  clear hB2 t2 r2 n2 i2 j2 d2 b2
  generalize brE (left ++ bs) = E at *
  generalize brB (left ++ bs) = bb at *
  generalize lfL (left ++ bs) = L at *
  generalize toL (left ++ bs) = T at *
  go_wp2_with fail
  have hlo := hlen.out
  have hCn := own_newB O1.out
  have hBV : But (fun i => i = g) w2 (w2.setCell ⟨g, 1, none⟩ (.bool bb)) := But.setCell w2 _ rfl
  have hDV : Rd (w2.setCell ⟨g, 1, none⟩ (.bool bb)) D L.length (bv L) := D2.out.but hBV (fun b o e hb => by have := J2.out.new hCn b o e; omega)
  have HV := hide hBV
  have S3 := hide (S2.out.set 1 (.bool bb))
  clear s0 s1 sf hBV
  have hV2 : g < (w2.setCell ⟨g, 1, none⟩ (.bool bb)).heap.size := S3.out.lt
  generalize w2.setCell ⟨g, 1, none⟩ (.bool bb) = V at *
  refine (mjoin_any D none L.length 0 dk 0 L [] V hDV (Rd.nil _ _) (by omega)).mono ?_
  rintro e w3 ⟨C3, k3, rfl, o3, b3⟩
  rw [List.append_nil, Nat.add_zero] at o3
  have hB3 := S3.out.keep b3
  have s0 := hB3.cell 0
  have sf := hB3.frozen
  have S4 := hide hB3
  have O3 := hide o3
  have B3 := hide b3
  clear hB3 o3 b3 hDV hlo
  go_wp2
  go_ret2
  have hB4 : But (fun i => i = g) w3 (w3.setCell ⟨g, 0, none⟩ (.slice C3 L.length k3)) := But.setCell w3 _ rfl
  have hVs : w2.heap.size ≤ V.heap.size := HV.out.size
  have hgw : w.heap.size ≤ w2.heap.size := B2.out.size
  have hn3 : ∀ b o, C3 = some ⟨b, o, none⟩ → b ≠ g := by
    intro b o e
    have := own_newAt O3.out b o e
    omega
  have hbut : But (fun i => i = g) w (w3.setCell ⟨g, 0, none⟩ (.slice C3 L.length k3)) := (((But.after B2.out HV.out).on B3.out).trans hB4 (fun _ _ e => e))
  have htail : But (fun i => i = g) w2 (w3.setCell ⟨g, 0, none⟩ (.slice C3 L.length k3)) := ((HV.out.on B3.out).trans hB4 (fun _ _ e => e))
  obtain ⟨f1, f2, f3, f4⟩ := HE.out
  have hb1 := B1.out.size
  refine ⟨O, ok, rs, C3, k3, by rw [f1]; rfl, by rw [f2]; exact T2.out, ?_, ⟨?_, ?_⟩, ?_, Or.inr ?_, hbut⟩
  · exact R2.out.but htail (fun b o e hb => by have := N2.out b o e; omega) (fun r hr b o e hb => by have := (I2.out r hr).new hCn b o e; omega)
  · exact N2.out.old hb1
  · exact fun r hr b o e => (I2.out r hr).new hCn b o e
  · rw [f3, f4]
    exact ⟨S4.out.set 0 _, (own_rd O3.out).but hB4 hn3, hn3, fun b o e => Nat.lt_of_lt_of_le (own_lt O3.out b o e) hB4.size⟩
  · exact (own_newAt O3.out).old (by omega)

theorem mfeed_any (g : Nat) (A : Option Addr) (k : Nat) (left : List UInt8) (br : Bool) (B : Option Addr) (m d : Nat) (bs : List UInt8) (w : World) (h : StA w g A k left br) (hr : Rd w B m (bv bs)) (hm : left.length + m ≤ 1000000) :
    Calls Try.prog 15 #[.pointer (some ⟨g, 0, none⟩), .slice B m d] w (RetFeed g A left br bs w) := by
  cases br
  · exact mfeed_ok g A k left B m d bs w h hr hm
  · exact mfeed_bad g A k left B m d bs w h

end Go.Proofs.Ytjldfefebnpdgaa
