/-
  What is proved here: how long the bytes of a small packet are. Plain lists, nothing of the program. No condition.
-/
import Derived.Test.YtjaaeiemgojnbaaPq14
import Derived.Test.YtjaaeiemgojnbaaSmall10
namespace Go.Proofs.Ytjaaeiemgojnbaa
set_option linter.unusedVariables false
set_option linter.unusedSimpArgs false
open Go.RowKit

theorem filtS_filN (l : List (List UInt8 × Int)) : filtS l = 2 * l.length + filN l := by
  induction l with
  | nil => rfl
  | cons s l ih =>
    simp only [filtS, filN, List.map_cons, List.sum_cons, List.length_cons] at *
    omega
theorem small_lay {p : Pk} (hs : smallB p = true) (hm : mayP p = true) : (layP p).length ≤ 4000 := by
  have hlen := (mayP_parts hm).2.2.2
  have hfit : fitB p = true := by
    have := hm
    rw [mayP_fit, Bool.and_eq_true] at this
    exact this.1
  rw [lay_len, dg_length _ hlen]
  have h4 := (dgL_le (bodyP p).length).2
  simp only [smallB, Bool.and_eq_true, decide_eq_true_eq] at hs
  obtain ⟨h1, h2⟩ := hs
  rw [List.take_of_length_le (by omega)] at h1
  have ht : sizeT (textsP p) ≤ 10 + p.client.length + p.topic.length + p.payload.length + p.user.length + p.pass.length := by
    unfold textsP
    cases p.hasWill <;> cases p.hasUser <;> cases p.hasPass <;> simp [sizeT] <;> omega
  have hf := filtS_filN p.subs
  have hb : (bodyP p).length ≤ 3900 := by
    rw [remain_fit p hfit]
    unfold remainP
    repeat' split
    all_goals omega
  omega

end Go.Proofs.Ytjaaeiemgojnbaa
