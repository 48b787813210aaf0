/-
  What is proved here: a region that draws its order within a round of a range over a function: where its operations only read and then store, one walk serves every order. No condition of its own; nothing of the program is named.
-/
import Derived.Test.YtfjafpbmgbnllaaGreatBase
import Derived.StillTailTactics
import Derived.OrdersIn
import Derived.TacticsIn
namespace Go.Proofs.YtfjafpbmgbnllaaGreat
set_option linter.unusedVariables false
set_option linter.unusedSimpArgs false
open Go.RowKit

/-- Operations that call nothing and put nothing off. -/
def plainOp (o : Oper) : Bool := match o.op with
  | .move _ | .assign _ | .pick _ _ _ | .load _ _ | .store _ _ _ | .binOp _ _ _ _ _ | .unOp _ _ _ | .convert _ _ _ => true
  | _ => false

/-- What is yielded is a value, or nothing. -/
def Calm : Result Next → Prop
  | .ok (.value _) _ => True
  | .ok .skip _ => True
  | .ok _ _ => False
  | .halt _ _ => True

theorem calm_value {P : Program} (s : Sem Value) (w : World) : Calm ((do pure (.value (← s)) : Sem Next).run P w) := by
  rw [Sem.run_bind]
  cases h : s.run P w <;> simp [Calm, Result.andThen]
theorem calm_unit {P : Program} (s : Sem Unit) (w : World) : Calm ((do s; pure .skip : Sem Next).run P w) := by
  rw [Sem.run_bind]
  cases h : s.run P w <;> simp [Calm, Result.andThen]
theorem plain_calm {P : Program} {o : Oper} (h : plainOp o = true) (r : Operand → Value) (w : World) : Calm ((execOp r o).run P w) := by
  unfold plainOp at h
  unfold execOp
  split at h <;> rename_i ho <;> simp only [ho]
  · simp [Calm]
  · simp [Calm]
  · rw [Sem.run_bind]
    rename_i c _ _
    cases hh : (asBool (r c)).run P w <;> simp [Calm, Result.andThen]
  · exact calm_value _ w
  · exact calm_unit _ w
  · exact calm_value _ w
  · exact calm_value _ w
  · exact calm_value _ w
  · cases h

theorem opIn_of {F : Fence} {n : Nat} {P : Program} {o : Oper} (hp : plainOp o = true) {a : Act} {w : World} {K : Act → World → Prop} {R : Act → World → Prop} {Q : Exit → Act → World → Prop}
    (h : o.wp P a w K (fun e a w => e = Exit.normal ∧ R a w)) : o.wpIn F n P a w K Q := by
  have hc := plain_calm (P := P) hp a.eval w
  have hab : ∀ f, o.about P w a.eval = some f → F.fn f := by
    intro f hf
    unfold Oper.about at hf
    unfold plainOp at hp
    split at hf
    · rename_i ho; rw [ho] at hp; cases hp
    · cases hf
  have hd : ∀ c, o.op ≠ .defer c := by
    intro c e
    unfold plainOp at hp
    rw [e] at hp
    cases hp
  refine ⟨hab, ?_⟩
  rw [Oper.semAt_eq _ _ _ hd]
  unfold Oper.wp at h
  generalize (execOp a.eval o).run P w = r at *
  cases r with
  | ok x w' => cases x <;> first | exact h | exact hc.elim
  | halt x w' => cases x <;> first | exact absurd h.1 (by simp) | exact h

theorem anyIn_of {F : Fence} {n : Nat} {P : Program} {md : Region.Mode} {ops : Array Oper} {R : Act → World → Prop} {Q : Exit → Act → World → Prop} (hp : ∀ o ∈ ops.toList, plainOp o = true) (hQ : ∀ a w, R a w → Q .normal a w) :
    ∀ (fuel : Nat) (listed : Array Bool) (a : Act) (w : World), wpAny P md ops (fun e a w => e = Exit.normal ∧ R a w) fuel listed a w → wpAnyIn F n P md ops Q fuel listed a w
  | 0, listed, a, w, h => ⟨h.1, hQ _ _ h.2.2⟩
  | fuel + 1, listed, a, w, h => by
    refine ⟨fun h0 => hQ _ _ (h.1 h0).2, fun i hi => ?_⟩
    have h1 := h.2 i hi
    unfold wpOp at h1
    unfold wpOpIn
    cases ho : ops[i]? with
    | none => simp only [ho] at h1; exact anyIn_of hp hQ fuel _ a w h1
    | some o =>
      simp only [ho] at h1 ⊢
      have hpo := hp o (by rw [Array.mem_toList_iff]; exact Array.mem_of_getElem? ho)
      split
      · rename_i hw
        rw [if_pos hw] at h1
        rcases h1 with h1 | ⟨_, a', w', h2⟩
        · exact Oper.wpIn_mono (fun a' w' h' => anyIn_of hp hQ fuel _ a' w' h') (opIn_of (R := R) hpo h1)
        · cases h2.1
      · rename_i hw
        rw [if_neg hw] at h1
        refine ⟨?_, anyIn_of hp hQ fuel _ _ w h1⟩
        intro f hf
        unfold Oper.about at hf
        unfold plainOp at hpo
        split at hf
        · rename_i ho'; rw [ho'] at hpo; cases hpo
        · cases hf

/-- Reads, then stores, in whatever order is drawn, in a round or not: R says what is behind. -/
theorem wpIn_still {F : Fence} {m : Nat} {P : Program} {id : Nat} {Q : Exit → Act → World → Prop} {a : Act} {w : World} {l : List Oper} (n : Nat) (R : Act → World → Prop) (hm : P.follows .mixedOrders = true) (hB : Region.lexTailB .any l.toArray n = true)
    (hp : l.all plainOp = true)
    (h : wpStill P l.toArray { w with drawn := w.drawn + 1 } (fun a' => wpList P l.toArray (fun e a w => e = Exit.normal ∧ R a w) (l.drop n) a' { w with drawn := w.drawn + 1 }) (l.take n) a)
    (hQ : ∀ a w, R a w → Q .normal a w) : (Code.region id l.toArray true).wpIn F m P Q a w := by
  simp only [Region.lexTailB, Bool.and_eq_true, decide_eq_true_eq] at hB
  obtain ⟨⟨⟨⟨hsel, hn⟩, hs⟩, hc⟩, hlex⟩ := hB
  have hn' : n < l.length := by simpa using hn
  have htl : (l.take n).length = n := by simp; omega
  have hdl : (l.drop n).length = l.toArray.size - n := by simp
  have inv0 : HeadInv .any l.toArray n (Array.replicate l.toArray.size false) :=
    ⟨by simp, fun j oj _ hl => (by rw [getD_replicate_false] at hl; cases hl), fun t _ ht => getD_in (by simpa using ht) (getD_replicate_false _ _)⟩
  have H := wpAnyL_lex (md := .any) (g := l.toArray.size - n) hsel hs hc hn (l.take n) 0 _ a (fun j hj => by
    have hj' : j < n := by rw [htl] at hj; exact hj
    simp [hj']) (by simpa using htl) inv0 (by rw [htl]; exact hlex) h
  refine wpIn_region_any hm ?_
  have := wpAny_of_head (Q' := (fun e a w => e = Exit.normal ∧ R a w)) (g := l.toArray.size - n) (fun listed a' hL => by
    have := wpAny_of_seq (md := .any) (Q' := (fun e a w => e = Exit.normal ∧ R a w)) (l.drop n) n listed a' { w with drawn := w.drawn + 1 } (fun j => by simp [List.getElem?_drop]) (by rw [hdl]; exact hL.1) hL.2
    rwa [hdl] at this) _ _ _ H
  rw [htl, show n + (l.toArray.size - n) = l.toArray.size by omega] at this
  exact anyIn_of (fun o ho => List.all_eq_true.1 hp o (by simpa using ho)) hQ _ _ _ _ this

/-- As wp_region_held_drew, in a round or not: R says what is behind. -/
theorem wpIn_held {F : Fence} {m : Nat} {P : Program} {id : Nat} {Q : Exit → Act → World → Prop} {a : Act} {w : World} {ops : Array Oper} (S : World → Prop) (R : Act → World → Prop) (hm : P.follows .mixedOrders = true)
    (hp : ops.all plainOp = true) (hS : S w.drew)
    (h : S w.drew → wpAnyH P .any ops (fun e a w => e = Exit.normal ∧ R a w) S ops.size (Array.replicate ops.size false) a w.drew)
    (hQ : ∀ a w, R a w → Q .normal a w) : (Code.region id ops true).wpIn F m P Q a w :=
  wpIn_region_any hm (anyIn_of (fun o ho => by
    obtain ⟨i, hi, rfl⟩ := Array.getElem_of_mem (Array.mem_toList_iff.1 ho)
    exact Array.all_eq_true.1 hp i hi) hQ _ _ _ _ (wpAny_of_held _ _ _ _ (h hS)))

end Go.Proofs.YtfjafpbmgbnllaaGreat
