/-
  What is proved here: for the law MbapParts: frames' bytes are told as the frames; a row of frames that grows. No condition of its own.
-/
import Derived.Test.YtjldfefebnpdgaaLeft6Walk
import Derived.Test.YtjldfefebnpdgaaOne6Walk
namespace Go.Proofs.Ytjldfefebnpdgaa
set_option linter.unusedVariables false
set_option linter.unusedSimpArgs false
open Go.RowKit

theorem cut_frames : ∀ es : List AduE, (∀ a ∈ es, aduOk a = true) → cutAll mbNx (bytesL es) = (es, [], false)
  | [], _ => cutAll_wait [] mbCuts rfl
  | a :: es, h => by
    have h1 := mbNx_frame a (h a (by simp)) (bytesL es)
    have h2 := cut_frames es (fun x hx => h x (by simp [hx]))
    have h3 : bytesL (a :: es) = aduL a ++ bytesL es := rfl
    rw [h3, cutAll_cut _ mbCuts a _ h1, List.drop_left, h2]
theorem frames_told (es : List AduE) (h : ∀ a ∈ es, aduOk a = true) : toL (bytesL es) = es ∧ lfL (bytesL es) = [] ∧ brB (bytesL es) = false := by
  have hc := cut_frames es h
  refine ⟨by unfold toL; rw [hc], ?_, by unfold brB; rw [hc]⟩
  unfold lfL brB
  rw [hc]
  rfl
theorem br_pre (a b : List UInt8) (h : brB (a ++ b) = false) : brB a = false := by
  cases hb : brB a with
  | false => rfl
  | true =>
    have := (fd_parts a b).2.2.2
    rw [h, hb] at this
    cases this

/-- Frames told so far, in a row of the law's own. -/
structure TS (B : Nat) (wr : World) (T : Option Addr) (tk : Nat) (ts : List AduM) : Prop where
  own : wr.ownsRow B 24 3 (.slice T ts.length tk) ts.length (avs ts)
  rows : ∀ r ∈ ts, r.is wr ∧ 1 ≤ r.pdu.length ∧ ∀ b o, r.A = some ⟨b, o, none⟩ → B ≤ b ∧ ∀ o', T ≠ some ⟨b, o', none⟩
theorem TS.nil (B : Nat) (w : World) : TS B w none 0 [] := ⟨World.ownsRow_nil _ _ _ _, by simp⟩
theorem TS.but {B g : Nat} {w w' : World} {T : Option Addr} {tk : Nat} {ts : List AduM} (h : TS B w T tk ts) (b : But (fun i => i = g) w w') (hg : g < B) : TS B w' T tk ts :=
  ⟨ownS_but h.own b (fun i o e hi => by have := ownS_new h.own i o e; omega), fun r hr => by
    obtain ⟨h1, h2, h3⟩ := h.rows r hr
    exact ⟨Rd.but h1 b (fun i o e hi => by have := (h3 i o e).1; omega), h2, h3⟩⟩
theorem TS.app {B g : Nat} {w w4 w5 : World} {T : Option Addr} {tk : Nat} {ts : List AduM} (h : TS B w T tk ts) (b4 : But (fun i => i = g) w w4) (hg : g < B) (hB : B ≤ w.heap.size) {ns : List AduM} (hns : ∀ r ∈ ns, r.is w4 ∧ 1 ≤ r.pdu.length ∧ NewAt w r.A)
    {T' : Option Addr} {tk' : Nat} (o5 : w5.ownsRow B 24 3 (.slice T' (ts.length + ns.length) tk') (ts.length + ns.length) (avs ts ++ avs ns)) (b5 : But (fun i => ∃ o, T = some ⟨i, o, none⟩) w4 w5) (hT : T' = T ∨ NewAt w4 T') : TS B w5 T' tk' (ts ++ ns) := by
  have h4 := h.but b4 hg
  have key : ∀ r : AduM, r.is w4 → 1 ≤ r.pdu.length → (∀ b o, r.A = some ⟨b, o, none⟩ → B ≤ b ∧ ∀ o', T ≠ some ⟨b, o', none⟩) → r.is w5 ∧ 1 ≤ r.pdu.length ∧ ∀ b o, r.A = some ⟨b, o, none⟩ → B ≤ b ∧ ∀ o', T' ≠ some ⟨b, o', none⟩ := by
    intro r h1 h2 h3
    refine ⟨Rd.but h1 b5 (fun i o e ⟨o', e'⟩ => (h3 i o e).2 o' e'), h2, fun b o e => ⟨(h3 b o e).1, fun o' e' => ?_⟩⟩
    rcases hT with rfl | hT
    · exact (h3 b o e).2 o' e'
    · obtain ⟨b1, o1, e1, hb1, _⟩ := Rd.at_ h1 (k := 0) (by omega)
      rw [e1] at e
      injection e with e
      injection e with e _ _
      have := hT b o' e'
      omega
  refine ⟨by rw [List.length_append, avs_append]; exact o5, fun r hr => ?_⟩
  rcases List.mem_append.1 hr with hr | hr
  · obtain ⟨h1, h2, h3⟩ := h4.rows r hr
    exact key r h1 h2 h3
  · obtain ⟨h1, h2, h3⟩ := hns r hr
    refine key r h1 h2 (fun b o e => ⟨Nat.le_trans hB (h3 b o e), fun o' e' => ?_⟩)
    have := h3 b o e
    have := ownS_lt h.own b o' e'
    omega
theorem TS.ard {B : Nat} {wr w' : World} {T : Option Addr} {tk : Nat} {ts : List AduM} (h : TS B wr T tk ts) (b : Below wr.heap.size wr w') : ARd w' T ts.length ts :=
  ⟨(ownS_rd h.own).keep b, fun r hr => Rd.keep (h.rows r hr).1 b⟩

end Go.Proofs.Ytjldfefebnpdgaa
