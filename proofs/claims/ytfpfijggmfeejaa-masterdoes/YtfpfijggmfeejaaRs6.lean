/-
  What is proved here: rows of the document's Asked as lists; a row cut at its ends; what is out behind a first sending. No condition; nothing of the program is walked.
-/
import Derived.Test.YtfpfijggmfeejaaRs5
namespace Go.Proofs.Ytfpfijggmfeejaa
set_option linter.unusedVariables false
set_option linter.unusedSimpArgs false
open Go.RowKit Go.Maps

theorem avs_get : ∀ (rs : List SM) (i : Nat) (r : SM) (j : Nat), rs[i]? = some r → j < 10 → (avs rs)[i * 10 + j]? = (r.vs ++ [Value.int .i64 0])[j]?
  | [], _, _, _, h, _ => by simp at h
  | x :: rs, 0, r, j, h, hj => by
    simp at h
    subst h
    show ((x.vs ++ [Value.int .i64 0]) ++ avs rs)[0 * 10 + j]? = _
    rw [List.getElem?_append_left (by show 0 * 10 + j < 10; omega)]
    congr 1
    omega
  | x :: rs, i + 1, r, j, h, hj => by
    show ((x.vs ++ [Value.int .i64 0]) ++ avs rs)[(i + 1) * 10 + j]? = _
    rw [List.getElem?_append_right (by show 10 ≤ (i + 1) * 10 + j; omega)]
    have e : (i + 1) * 10 + j - (x.vs ++ [Value.int .i64 0]).length = i * 10 + j := by show (i + 1) * 10 + j - 10 = _; omega
    rw [e]
    exact avs_get rs i r j (by simpa using h) hj
theorem avs_take (rs : List SM) (i : Nat) : (avs rs).take (i * 10) = avs (rs.take i) := by
  induction rs generalizing i with
  | nil => simp [avs]
  | cons x rs ih =>
    cases i with
    | zero => simp [avs]
    | succ i =>
      show ((x.vs ++ [Value.int .i64 0]) ++ avs rs).take ((i + 1) * 10) = _
      rw [List.take_append, List.take_of_length_le (by show 10 ≤ (i + 1) * 10; omega)]
      show (x.vs ++ [Value.int .i64 0]) ++ (avs rs).take ((i + 1) * 10 - 10) = _
      rw [show (i + 1) * 10 - 10 = i * 10 by omega, ih]
      rfl
theorem avs_drop (rs : List SM) (i : Nat) : (avs rs).drop (i * 10) = avs (rs.drop i) := by
  induction rs generalizing i with
  | nil => simp [avs]
  | cons x rs ih =>
    cases i with
    | zero => simp [avs]
    | succ i =>
      show ((x.vs ++ [Value.int .i64 0]) ++ avs rs).drop ((i + 1) * 10) = _
      rw [List.drop_append, List.drop_of_length_le (by show 10 ≤ (i + 1) * 10; omega)]
      show [] ++ (avs rs).drop ((i + 1) * 10 - 10) = _
      rw [show (i + 1) * 10 - 10 = i * 10 by omega, ih]
      rfl
theorem rdA_take {w : World} {A : Option Addr} {n : Nat} {ws : List SM} (h : Rd w A (n * 10) (avs ws)) (i : Nat) (hi : i ≤ n) : Rd w A (i * 10) (avs (ws.take i)) := by
  rw [← avs_take]
  refine ⟨by rw [List.length_take, h.1]; omega, fun h0 => ?_⟩
  obtain ⟨b, o, e, hb, hc⟩ := h.2 (by omega)
  exact ⟨b, o, e, hb, fun j v hv => hc j v (by rw [List.getElem?_take_of_lt (by have := (List.getElem?_eq_some_iff.1 hv).1; rw [List.length_take] at this; omega)] at hv; exact hv)⟩
theorem rdA_drop {w : World} {A : Option Addr} {n c : Nat} {ws : List SM} (h : Rd w A (n * 10) (avs ws)) (i : Nat) (hi : i ≤ n) (hc : n ≤ c) : Rd w (cutAT 10 A i c) ((n - i) * 10) (avs (ws.drop i)) := by
  rw [← avs_drop]
  refine ⟨by rw [List.length_drop, h.1]; omega, fun h0 => ?_⟩
  obtain ⟨b, o, e, hb, hcl⟩ := h.2 (by omega)
  unfold cutAT
  rw [if_neg (by omega), e]
  refine ⟨b, o + i * 10, by simp [add_at], hb, fun j v hv => ?_⟩
  rw [List.getElem?_drop] at hv
  rw [Nat.add_assoc]
  exact hcl _ _ hv
theorem asked_size : (Try.prog.info? 53).map (·.size) = some 10 := by kernel_rfl
/-- One was sent first. -/
theorem RsA.sent {w w' : World} {R : RL} {s : MSt} (h : RsA w R s) {a b : List SM} {y : SM} {o3 : Nat} {A3 : Option Addr} {k3 : Nat} (ews : R.ws = a ++ y :: b) (bw : But (fun i => i = R.g) w w') (s' : MSt) (hg : Blk w' R.g 34 (rcs { g := R.g, A := A3, k := k3, ws := a ++ b, o := some (o3, y) } s'))
    (hrow : w'.ownsRow 0 53 10 (.slice A3 (a ++ b).length k3) (a ++ b).length (avs (a ++ b))) (ho3 : Blk w' o3 53 (y.vs ++ [.int .i64 1])) (hap : ∀ bb o, A3 = some ⟨bb, o, none⟩ → bb ≠ o3) (h1 : s'.line = (a ++ b).map SM.wt) (h2 : s'.out = some (y.wt, 1)) :
    RsA w' { g := R.g, A := A3, k := k3, ws := a ++ b, o := some (o3, y) } s' := by
  have hown : ∀ x ∈ R.ws, x.own w' := fun x hx => (h.own x hx).but bw (fun b' o e h' => h.off (h.own x hx) b' o e (Or.inl h'))
  refine ⟨hg, hrow, fun x hx => hown x (by rw [ews]; rcases List.mem_append.1 hx with hx | hx <;> simp [hx]), h1.symm, ?_, fun bb o y' e e' => ?_⟩
  · rw [h2]
    exact ⟨rfl, ho3, hown y (by rw [ews]; simp)⟩
  · injection e' with e'
    injection e' with e1 _
    exact hap bb o e e1.symm

end Go.Proofs.Ytfpfijggmfeejaa
