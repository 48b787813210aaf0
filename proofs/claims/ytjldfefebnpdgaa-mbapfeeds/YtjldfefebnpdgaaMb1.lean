/-
  What is proved here: frames in memory (rows of structs of three cells), and what mbap's mayBe and Frame return. Condition: lengths up to some hundred thousand.
-/
import Derived.Test.YtjldfefebnpdgaaMem6
import Derived.Test.YtjldfefebnpdgaaMbMath
import Derived.Test.YtjldfefebnpdgaaWire4
import Derived.Test.YtjldfefebnpdgaaStructs
import Derived.LoopTactic
import Derived.WalkMore
namespace Go.Proofs.Ytjldfefebnpdgaa
set_option linter.unusedVariables false
set_option linter.unusedSimpArgs false
open Go.RowKit

/-- A frame in memory. -/
structure AduM where
  tid : Int
  unit : Int
  A : Option Addr
  k : Nat
  pdu : List UInt8
def AduM.e (r : AduM) : AduE := ⟨r.tid, r.unit, r.pdu⟩
def AduM.vs (r : AduM) : List Value := [.int .i64 r.tid, .int .i64 r.unit, .slice r.A r.pdu.length r.k]
def AduM.is (w : World) (r : AduM) : Prop := Rd w r.A r.pdu.length (bv r.pdu)
def avs (rs : List AduM) : List Value := rs.flatMap AduM.vs
theorem avs_length (rs : List AduM) : (avs rs).length = rs.length * 3 := by
  induction rs with
  | nil => rfl
  | cons r rs ih =>
    show (r.vs ++ avs rs).length = _
    rw [List.length_append, ih, List.length_cons]
    show 3 + rs.length * 3 = _
    omega
theorem avs_append (rs ss : List AduM) : avs (rs ++ ss) = avs rs ++ avs ss := List.flatMap_append
theorem avs_one (rs : List AduM) : ∀ u ∈ avs rs, u.oneCell' = true := by
  intro u hu
  simp only [avs, List.mem_flatMap, AduM.vs] at hu
  obtain ⟨r, _, hu⟩ := hu
  simp at hu
  rcases hu with rfl | rfl | rfl <;> rfl
theorem avs_get : ∀ (rs : List AduM) (i : Nat) (r : AduM) (j : Nat), rs[i]? = some r → j < 3 → (avs rs)[i * 3 + j]? = r.vs[j]?
  | [], _, _, _, h, _ => by simp at h
  | x :: rs, 0, r, j, h, hj => by
    simp at h
    subst h
    show (x.vs ++ avs rs)[0 * 3 + j]? = _
    rw [List.getElem?_append_left (by show 0 * 3 + j < 3; omega)]
    congr 1
    omega
  | x :: rs, i + 1, r, j, h, hj => by
    show (x.vs ++ avs rs)[(i + 1) * 3 + j]? = _
    rw [List.getElem?_append_right (by show 3 ≤ (i + 1) * 3 + j; omega)]
    have e : (i + 1) * 3 + j - x.vs.length = i * 3 + j := by show (i + 1) * 3 + j - 3 = _; omega
    rw [e]
    exact avs_get rs i r j (by simpa using h) hj

/-- Frames lie in memory. -/
def ARd (w : World) (O : Option Addr) (n : Nat) (rs : List AduM) : Prop := Rd w O (n * 3) (avs rs) ∧ ∀ r ∈ rs, r.is w
section
variable {w w' : World} {O : Option Addr} {n : Nat} {rs : List AduM}
theorem ARd.nil (w : World) (O : Option Addr) : ARd w O 0 [] := ⟨Rd.nil _ _, by simp⟩
theorem ARd.len (h : ARd w O n rs) : rs.length = n := by
  have := h.1.1
  rw [avs_length] at this
  omega
theorem ARd.keep (h : ARd w O n rs) (b : Below w.heap.size w w') : ARd w' O n rs := ⟨h.1.keep b, fun r hr => Rd.keep (h.2 r hr) b⟩
theorem ARd.but {S : Nat → Prop} (h : ARd w O n rs) (b : But S w w') (ho : Off S O) (hs : ∀ r ∈ rs, Off S r.A) : ARd w' O n rs := ⟨h.1.but b ho, fun r hr => Rd.but (h.2 r hr) b (hs r hr)⟩
theorem ARd.at_ (h : ARd w O n rs) {i : Nat} (hi : i < n) : ∃ b o r, O = some ⟨b, o, none⟩ ∧ b < w.heap.size ∧ rs[i]? = some r ∧ w.cell? ⟨b, o + i * 3, none⟩ = some (.int .i64 r.tid) ∧ w.cell? ⟨b, o + i * 3 + 1, none⟩ = some (.int .i64 r.unit) ∧ w.cell? ⟨b, o + i * 3 + 2, none⟩ = some (.slice r.A r.pdu.length r.k) ∧ r.is w := by
  have hl := h.len
  obtain ⟨b, o, e, hb, hc⟩ := h.1.at_ (k := i * 3) (by omega)
  have hg : rs[i]? = some rs[i] := List.getElem?_eq_getElem (by omega)
  refine ⟨b, o, rs[i], e, hb, hg, ?_, ?_, ?_, h.2 _ (List.getElem_mem _)⟩
  · exact hc (i * 3 + 0) _ (avs_get rs i _ 0 hg (by omega))
  · exact hc (i * 3 + 1) _ (avs_get rs i _ 1 hg (by omega))
  · exact hc (i * 3 + 2) _ (avs_get rs i _ 2 hg (by omega))
end
theorem Blk.three {w : World} {g : Nat} {t : TypeId} {v0 v1 v2 : Value} (h : Blk w g t [v0, v1, v2]) : w.cell? ⟨g, 0, none⟩ = some v0 ∧ w.cell? ⟨g, 1, none⟩ = some v1 ∧ w.cell? ⟨g, 2, none⟩ = some v2 := ⟨h.cell 0, h.cell 1, h.cell 2⟩
theorem adu_info : (Try.prog.info? 24).map (fun i => (i.zero, i.size, i.bytes)) = some (some (.agg #[.int .i64 0, .int .i64 0, .slice none 0 0]), 3, 40) := by kernel_rfl
theorem adu_size : (Try.prog.info? 24).map (·.size) = some 3 := by kernel_rfl

theorem aduOk_yes {a : AduE} (h : aduOk a = true) : 0 ≤ a.tid ∧ a.tid ≤ 65535 ∧ 0 ≤ a.unit ∧ a.unit ≤ 255 ∧ 1 ≤ a.pdu.length ∧ a.pdu.length ≤ 253 := by
  unfold aduOk at h
  exact of_decide_eq_true h
theorem aduOk_no {a : AduE} (h : aduOk a = false) : a.tid < 0 ∨ 65535 < a.tid ∨ a.unit < 0 ∨ 255 < a.unit ∨ a.pdu.length < 1 ∨ 253 < a.pdu.length := by
  unfold aduOk at h
  have := of_decide_eq_false h
  omega

/-- mayBe. -/
theorem mmay_any (t u : Int) (A : Option Addr) (n k : Nat) (xs : List UInt8) (hx : xs.length = n) (w : World) :
    Calls Try.prog 20 #[.agg #[.int .i64 t, .int .i64 u, .slice A n k]] w fun e w' => e = .returned (.bool (aduOk ⟨t, u, xs⟩)) ∧ Below w.heap.size w w' := by
  cases hb : aduOk ⟨t, u, xs⟩ with
  | true =>
    obtain ⟨h1, h2, h3, h4, h5, h6⟩ := aduOk_yes hb
    simp only [hx] at h1 h2 h3 h4 h5 h6
    have q1 : decide (0 ≤ t) = true := decide_eq_true h1
    have q2 : decide (t ≤ 65535) = true := decide_eq_true h2
    have q3 : decide (0 ≤ u) = true := decide_eq_true h3
    have q4 : decide (u ≤ 255) = true := decide_eq_true h4
    have q5 : decide ((1 : Int) ≤ (n : Int)) = true := decide_eq_true (by omega)
    have q6 : decide ((n : Int) ≤ 253) = true := decide_eq_true (by omega)
    clear hb hx h1 h2 h3 h4 h5 h6
    go_enter Try.func20, Try.ntmps20
    go_wp2
    go_ret
    exact ⟨rfl, (Below.refl _ _).alloc (Nat.le_refl _) _⟩
  | false =>
    have h := aduOk_no hb
    simp only [hx] at h
    clear hb hx
    by_cases p1 : t < 0
    · have q1 : decide (0 ≤ t) = false := decide_eq_false (by omega)
      clear h p1
      go_enter Try.func20, Try.ntmps20
      go_wp2
      go_ret
      exact ⟨rfl, (Below.refl _ _).alloc (Nat.le_refl _) _⟩
    have q1 : decide (0 ≤ t) = true := decide_eq_true (by omega)
    by_cases p2 : 65535 < t
    · have q2 : decide (t ≤ 65535) = false := decide_eq_false (by omega)
      clear h p1 p2
      go_enter Try.func20, Try.ntmps20
      go_wp2
      go_ret
      exact ⟨rfl, (Below.refl _ _).alloc (Nat.le_refl _) _⟩
    have q2 : decide (t ≤ 65535) = true := decide_eq_true (by omega)
    by_cases p3 : u < 0
    · have q3 : decide (0 ≤ u) = false := decide_eq_false (by omega)
      clear h p1 p2 p3
      go_enter Try.func20, Try.ntmps20
      go_wp2
      go_ret
      exact ⟨rfl, (Below.refl _ _).alloc (Nat.le_refl _) _⟩
    have q3 : decide (0 ≤ u) = true := decide_eq_true (by omega)
    by_cases p4 : 255 < u
    · have q4 : decide (u ≤ 255) = false := decide_eq_false (by omega)
      clear h p1 p2 p3 p4
      go_enter Try.func20, Try.ntmps20
      go_wp2
      go_ret
      exact ⟨rfl, (Below.refl _ _).alloc (Nat.le_refl _) _⟩
    have q4 : decide (u ≤ 255) = true := decide_eq_true (by omega)
    by_cases p5 : n < 1
    · have q5 : decide ((1 : Int) ≤ (n : Int)) = false := decide_eq_false (by omega)
      clear h p1 p2 p3 p4 p5
      go_enter Try.func20, Try.ntmps20
      go_wp2
      go_ret
      exact ⟨rfl, (Below.refl _ _).alloc (Nat.le_refl _) _⟩
    have q5 : decide ((1 : Int) ≤ (n : Int)) = true := decide_eq_true (by omega)
    have q6 : decide ((n : Int) ≤ 253) = false := decide_eq_false (by omega)
    clear h p1 p2 p3 p4 p5
    go_enter Try.func20, Try.ntmps20
    go_wp2
    go_ret
    exact ⟨rfl, (Below.refl _ _).alloc (Nat.le_refl _) _⟩

/-- Frame, of one that may not be. -/
theorem mframe_no (t u : Int) (A : Option Addr) (n k : Nat) (xs : List UInt8) (hx : xs.length = n) (hb : aduOk ⟨t, u, xs⟩ = false) (w : World) :
    Calls Try.prog 9 #[.agg #[.int .i64 t, .int .i64 u, .slice A n k]] w fun e w' => e = .returned (.tuple #[.slice none 0 0, .int .i64 1]) ∧ Below w.heap.size w w' := by
  have HM := hide (fun W => mmay_any t u A n k xs hx W)
  rw [hb] at HM
  clear hb hx
  go_enter Try.func9, Try.ntmps9
  go_wp2_with fail
  refine (HM.out _).mono ?_
  rintro e w1 ⟨rfl, b1⟩
  have b2 : Below w.heap.size w w1 := ((Below.refl _ _).alloc (Nat.le_refl _) _).trans (b1.mono (by simp))
  go_wp2
  go_ret2
  exact ⟨rfl, b2⟩

end Go.Proofs.Ytjldfefebnpdgaa
