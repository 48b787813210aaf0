/-
  What is proved here: the program's 'mayBe' of package packet tells just whether a packet's fields may be. Conditions: at most 65535 codes, filters.
-/
import Derived.Test.YtjaaeiemgojnbaaPq3
import Derived.Test.YtjaaeiemgojnbaaPq6
import Derived.Test.YtjaaeiemgojnbaaPq6b
import Derived.Test.YtjaaeiemgojnbaaPq8
import Derived.Test.YtjaaeiemgojnbaaPq9
namespace Go.Proofs.Ytjaaeiemgojnbaa
set_option linter.unusedVariables false
set_option linter.unusedSimpArgs false
open Go.RowKit

/-- May its fields be? -/
def fitB (p : Pk) : Bool := decide (1 ≤ p.ty ∧ p.ty ≤ 14) && decide (p = usedP p) && okP p
/-- The same, as the program asks it. -/
def fitM (p : Pk) : Bool :=
  if p.ty = 1 then conM p else if p.ty = 2 then welcomeB p else if p.ty = 3 then publishB p
  else if p.ty = 4 ∨ p.ty = 5 ∨ p.ty = 6 ∨ p.ty = 7 ∨ p.ty = 11 then idB p.id && bareB { p with id := 0 }
  else if p.ty = 8 then namesB 2 p else if p.ty = 9 then grantB p else if p.ty = 10 then namesB 0 p
  else if p.ty = 12 ∨ p.ty = 13 ∨ p.ty = 14 then bareB p else false
theorem isStr_nilB : isStr [] = true := rfl
theorem fullB_ne {xs : List UInt8} (h : fullB xs = true) : xs ≠ [] := by
  rintro rfl
  simp [fullB] at h

theorem fit_1 (p : Pk) (h : p.ty = 1) : fitM p = fitB p := by
  obtain ⟨ty, dup, id, topic, payload, qos, retain, client, clean, alive, hasWill, hasUser, hasPass, user, pass, present, codes, subs⟩ := p
  simp only at h
  subst h
  rw [Bool.eq_iff_iff]
  cases hasWill <;> cases hasUser <;> cases hasPass <;>
    simp [fitM, fitB, usedP, okP, conM, willB, loginB, conB, bareB, msgB, isStr_nilB] <;>
    (constructor <;> (intro h; simp_all [isStr_nilB]))
theorem fit_2 (p : Pk) (h : p.ty = 2) : fitM p = fitB p := by
  obtain ⟨ty, dup, id, topic, payload, qos, retain, client, clean, alive, hasWill, hasUser, hasPass, user, pass, present, codes, subs⟩ := p
  simp only at h
  subst h
  rw [Bool.eq_iff_iff]
  match codes with
  | [] => simp [fitM, fitB, welcomeB, wel1, okP, ackB]
  | _ :: _ :: _ => simp [fitM, fitB, welcomeB, wel1, okP, ackB]
  | [c] =>
    simp [fitM, fitB, usedP, zeroP, okP, welcomeB, wel1, ackB, bareB]
    constructor <;> (intro h; simp_all)
theorem fit_3 (p : Pk) (h : p.ty = 3) : fitM p = fitB p := by
  obtain ⟨ty, dup, id, topic, payload, qos, retain, client, clean, alive, hasWill, hasUser, hasPass, user, pass, present, codes, subs⟩ := p
  simp only at h
  subst h
  rw [Bool.eq_iff_iff]
  by_cases h0 : 0 < qos
  · have h1 : ¬ qos = 0 := by omega
    have h2 : 0 ≤ qos := by omega
    simp [fitM, fitB, usedP, zeroP, okP, publishB, pubB, bareB, msgB, h0, h1, h2]
    constructor <;> (intro h; simp_all)
  · by_cases h1 : qos = 0
    · subst h1
      simp [fitM, fitB, usedP, zeroP, okP, publishB, pubB, bareB, msgB]
      constructor <;> (intro h; simp_all)
    · have h2 : ¬ 0 ≤ qos := by omega
      simp [fitM, fitB, usedP, zeroP, okP, publishB, pubB, bareB, msgB, h0, h1, h2]
theorem fit_4 (p : Pk) (h : p.ty = 4 ∨ p.ty = 5 ∨ p.ty = 6 ∨ p.ty = 7 ∨ p.ty = 11) : fitM p = fitB p := by
  obtain ⟨ty, dup, id, topic, payload, qos, retain, client, clean, alive, hasWill, hasUser, hasPass, user, pass, present, codes, subs⟩ := p
  simp only at h
  rw [Bool.eq_iff_iff]
  rcases h with rfl | rfl | rfl | rfl | rfl
  all_goals
    simp [fitM, fitB, usedP, zeroP, okP, bareB]
    constructor <;> (intro h; simp_all)
theorem fit_8 (p : Pk) (h : p.ty = 8) : fitM p = fitB p := by
  obtain ⟨ty, dup, id, topic, payload, qos, retain, client, clean, alive, hasWill, hasUser, hasPass, user, pass, present, codes, subs⟩ := p
  simp only at h
  subst h
  rw [Bool.eq_iff_iff]
  have e : (fun s : List UInt8 × Int => subB 8 s) = nameB 2 := by
    funext s
    simp [subB, nameB]
  have e2 : subs.all (subB 8) = subs.all (nameB 2) := by rw [← e]
  simp [fitM, fitB, usedP, zeroP, okP, namesB, subsB, bareB, e2, -List.all_eq_true]
  constructor <;> (intro h; simp_all [-List.all_eq_true])
theorem fit_10 (p : Pk) (h : p.ty = 10) : fitM p = fitB p := by
  obtain ⟨ty, dup, id, topic, payload, qos, retain, client, clean, alive, hasWill, hasUser, hasPass, user, pass, present, codes, subs⟩ := p
  simp only at h
  subst h
  rw [Bool.eq_iff_iff]
  have e : (fun s : List UInt8 × Int => subB 10 s) = nameB 0 := by
    funext s
    rw [Bool.eq_iff_iff]
    simp [subB, nameB]
    constructor
    · rintro ⟨⟨h0, h1, h2⟩, h3⟩
      exact ⟨h0, h1, by omega⟩
    · rintro ⟨h0, h1, h2⟩
      exact ⟨⟨h0, h1, by omega⟩, by omega⟩
  have e2 : subs.all (subB 10) = subs.all (nameB 0) := by rw [← e]
  simp [fitM, fitB, usedP, zeroP, okP, namesB, subsB, bareB, e2, -List.all_eq_true]
  constructor <;> (intro h; simp_all [-List.all_eq_true])
theorem fit_9 (p : Pk) (h : p.ty = 9) : fitM p = fitB p := by
  obtain ⟨ty, dup, id, topic, payload, qos, retain, client, clean, alive, hasWill, hasUser, hasPass, user, pass, present, codes, subs⟩ := p
  simp only at h
  subst h
  rw [Bool.eq_iff_iff]
  simp [fitM, fitB, usedP, zeroP, okP, grantB, codesB, bareB, -List.all_eq_true]
  constructor <;> (intro h; simp_all [-List.all_eq_true])
theorem fit_12 (p : Pk) (h : p.ty = 12 ∨ p.ty = 13 ∨ p.ty = 14) : fitM p = fitB p := by
  obtain ⟨ty, dup, id, topic, payload, qos, retain, client, clean, alive, hasWill, hasUser, hasPass, user, pass, present, codes, subs⟩ := p
  simp only at h
  rw [Bool.eq_iff_iff]
  rcases h with rfl | rfl | rfl
  all_goals
    simp [fitM, fitB, usedP, zeroP, okP, bareB]
    constructor <;> (intro h; simp_all)
/-- The program asks just what the document asks. -/
theorem fit_eq (p : Pk) : fitM p = fitB p := by
  by_cases c1 : p.ty = 1
  · exact fit_1 p c1
  by_cases c2 : p.ty = 2
  · exact fit_2 p c2
  by_cases c3 : p.ty = 3
  · exact fit_3 p c3
  by_cases c4 : p.ty = 4 ∨ p.ty = 5 ∨ p.ty = 6 ∨ p.ty = 7 ∨ p.ty = 11
  · exact fit_4 p c4
  by_cases c8 : p.ty = 8
  · exact fit_8 p c8
  by_cases c9 : p.ty = 9
  · exact fit_9 p c9
  by_cases c10 : p.ty = 10
  · exact fit_10 p c10
  by_cases c12 : p.ty = 12 ∨ p.ty = 13 ∨ p.ty = 14
  · exact fit_12 p c12
  unfold fitM fitB
  rw [if_neg c1, if_neg c2, if_neg c3, if_neg c4, if_neg c8, if_neg c9, if_neg c10, if_neg c12, decide_eq_false (by omega)]
  rfl
theorem mayP_fit (p : Pk) : mayP p = (fitB p && decide ((bodyP p).length ≤ 268435455)) := rfl

end Go.Proofs.Ytjaaeiemgojnbaa
