/-
  What is proved here: what is told of bytes by layer 11, as plain functions: fed in two parts; what is told may be and has just these bytes; rows of packets carried on. No condition.
-/
import Derived.Test.YtdlhcecmodefkaaSm3
import Derived.Test.YtdlhcecmodefkaaRows11
namespace Go.Proofs.Ytdlhcecmodefkaa
set_option linter.unusedVariables false
set_option linter.unusedSimpArgs false
open Go.RowKit

/-- Fed in two parts. -/
theorem fd_parts11 (most : Nat) (a b : List UInt8) : toP most (a ++ b) = fdT11 most [] none a ++ fdT11 most (fdL11 most [] none a) (fdF11 most [] none a) b ∧ erP most (a ++ b) = fdE11 most (fdL11 most [] none a) (fdF11 most [] none a) b ∧ lfP most (a ++ b) = fdL11 most (fdL11 most [] none a) (fdF11 most [] none a) b ∧ (fdE11 most [] none a = 0 ∨ fdE11 most [] none a = erP most (a ++ b)) := by
  have h := cutAll_parts (stCuts most) a b
  simp only [fdT11, fdL11, fdF11, fdE11, List.nil_append]
  cases hb : brP most a with
  | true =>
    have hb' : (cutAll (stNx most) a).2.2 = true := hb
    rw [hb'] at h
    simp only [if_true] at h
    have hr := cutAll_badleft (stCuts most) _ a (Nat.le_refl _) hb'
    have e1 : brP most (a ++ b) = true := by unfold brP; rw [h]
    have e2 : erP most (a ++ b) = erP most a := by
      unfold erP
      rw [e1, hb, h]
      exact stC_app most _ b hr
    simp only [if_true]
    refine ⟨?_, ?_, ?_, Or.inr e2.symm⟩
    · unfold toP
      rw [h, List.append_nil]
    · exact e2
    · unfold lfP
      rw [e1, hb]
      rfl
  | false =>
    have hb' : (cutAll (stNx most) a).2.2 = false := hb
    have e0 : lfP most a = (cutAll (stNx most) a).2.1 := by unfold lfP; rw [hb]; rfl
    rw [hb', ← e0] at h
    simp only [Bool.false_eq_true, if_false] at h ⊢
    have e1 : brP most (a ++ b) = brP most (lfP most a ++ b) := by unfold brP; rw [h]
    refine ⟨?_, ?_, ?_, Or.inl ?_⟩
    · unfold toP
      rw [h]
    · unfold erP
      rw [e1, h]
    · have e3 : (cutAll (stNx most) (a ++ b)).2.1 = (cutAll (stNx most) (lfP most a ++ b)).2.1 := by rw [h]
      unfold lfP at e1 e3 ⊢
      rw [e1, e3]
    · unfold erP
      rw [hb]
      rfl
theorem own_emptyP (w : World) : (w.alloc (.cells #[] 27)).ownsRow w.heap.size 27 18 (.slice (some ⟨w.heap.size, 0, none⟩) 0 0) 0 [] :=
  ⟨rfl, .inr ⟨w.heap.size, 0, #[], rfl, Nat.le_refl _, Blk.new w 27 [], Nat.le_refl _, by decide, rfl, rfl⟩⟩
theorem prVs_one (rs : List PkRow) : ∀ u ∈ prVs rs, u.oneCell' = true := by
  intro u hu
  simp only [prVs, List.mem_flatMap] at hu
  obtain ⟨r, _, hr⟩ := hu
  exact PkRow.one r u hr
/-- What is told may be, and is no longer than the bytes. -/
theorem toP_may (most : Nat) : ∀ (k : Nat) (xs : List UInt8), xs.length ≤ k → ∀ p ∈ toP most xs, mayP p = true ∧ (layP p).length ≤ xs.length := by
  intro k
  induction k using Nat.strongRecOn with
  | ind k ih =>
    intro x hk p hp
    unfold toP at hp
    match hn : stNx most x with
    | .wait => rw [cutAll_wait x (stCuts most) hn] at hp; cases hp
    | .bad => rw [cutAll_bad x (stCuts most) hn] at hp; cases hp
    | .cut a n =>
      obtain ⟨h1, h2, h3, h4, h5⟩ := stNx_back most x a n hn
      rw [cutAll_cut x (stCuts most) a n hn] at hp
      have hl : (x.drop n).length < k := by rw [List.length_drop]; omega
      rcases List.mem_cons.1 hp with rfl | hp
      · refine ⟨h1, ?_⟩
        rw [h2, List.length_take]
        omega
      · have := ih (x.drop n).length hl (x.drop n) (Nat.le_refl _) p hp
        refine ⟨this.1, ?_⟩
        have h6 := this.2
        rw [List.length_drop] at h6
        omega

theorem readP_short11 {bs : List UInt8} {p : Pk} (hl : bs.length ≤ 65535) (h : readP bs = some p) : PkS p := by
  rw [← parseQ_eq] at h
  unfold parseQ at h
  cases hq : readQ bs with
  | none => rw [hq] at h; cases h
  | some q =>
    rw [hq] at h
    simp only at h
    split at h
    · injection h with h
      rw [← h]
      exact readQ_short hl hq
    · cases h
theorem may_short {p : Pk} (h : mayP p = true) (hl : (layP p).length ≤ 65535) : PkS p := readP_short11 hl (readP_lay h)
theorem toP_short (most : Nat) (xs : List UInt8) (h : xs.length ≤ 65535) : ∀ p ∈ toP most xs, PkS p := fun p hp => by
  obtain ⟨h1, h2⟩ := toP_may most _ xs (Nat.le_refl _) p hp
  exact may_short h1 (by omega)
theorem PRd.but {T : Nat → Prop} {w w' : World} {O : Option Addr} {rs : List PkRow} (h : PRd w O rs) (b : But T w w') (o : Off T O) (r : ∀ r ∈ rs, r.off T) : PRd w' O rs :=
  ⟨h.1.but b o, fun q hq => (h.2 q hq).but b (r q hq)⟩
/-- The bytes of packets, one after the other. -/
def lysL (ps : List Pk) : List UInt8 := ps.flatMap layP
theorem lysL_app (a b : List Pk) : lysL (a ++ b) = lysL a ++ lysL b := List.flatMap_append
theorem toP_all (most : Nat) (xs : List UInt8) : xs = lysL (toP most xs) ++ (cutAll (stNx most) xs).2.1 := by
  have key : ∀ (k : Nat) (xs : List UInt8), xs.length ≤ k → xs = lysL (toP most xs) ++ (cutAll (stNx most) xs).2.1 := by
    intro k
    induction k using Nat.strongRecOn with
    | ind k ih =>
      intro x hk
      unfold toP
      match hn : stNx most x with
      | .wait => rw [cutAll_wait x (stCuts most) hn]; rfl
      | .bad => rw [cutAll_bad x (stCuts most) hn]; rfl
      | .cut a n =>
        obtain ⟨h1, h2, h3, h4, h5⟩ := stNx_back most x a n hn
        rw [cutAll_cut x (stCuts most) a n hn]
        have hl : (x.drop n).length < k := by rw [List.length_drop]; omega
        have := ih (x.drop n).length hl (x.drop n) (Nat.le_refl _)
        unfold toP at this
        show x = lysL (a :: _) ++ _
        rw [lysL, List.flatMap_cons, h2, List.append_assoc, ← lysL]
        have e : x = x.take n ++ x.drop n := (List.take_append_drop n x).symm
        rw [← this]
        exact e
  exact key _ xs (Nat.le_refl _)
theorem toP_ok (most : Nat) (xs : List UInt8) : ∀ p ∈ toP most xs, mayP p = true ∧ (layP p).length ≤ most := by
  have key : ∀ (k : Nat) (xs : List UInt8), xs.length ≤ k → ∀ p ∈ toP most xs, mayP p = true ∧ (layP p).length ≤ most := by
    intro k
    induction k using Nat.strongRecOn with
    | ind k ih =>
      intro x hk p hp
      unfold toP at hp
      match hn : stNx most x with
      | .wait => rw [cutAll_wait x (stCuts most) hn] at hp; cases hp
      | .bad => rw [cutAll_bad x (stCuts most) hn] at hp; cases hp
      | .cut a n =>
        obtain ⟨h1, h2, h3, h4, h5⟩ := stNx_back most x a n hn
        rw [cutAll_cut x (stCuts most) a n hn] at hp
        have hl : (x.drop n).length < k := by rw [List.length_drop]; omega
        rcases List.mem_cons.1 hp with rfl | hp
        · refine ⟨h1, ?_⟩
          rw [h2, List.length_take]
          omega
        · exact ih (x.drop n).length hl (x.drop n) (Nat.le_refl _) p hp
  exact key _ xs (Nat.le_refl _)
theorem left_step11 (xs : List UInt8) (T : List Pk) (R : List UInt8) (h : xs = lysL T ++ R) (i : Nat) (p : Pk) (hi : T[i]? = some p) :
    (xs.drop (lysL (T.take i)).length).take (layP p).length = layP p ∧ (lysL (T.take i)).length + (layP p).length ≤ xs.length ∧ (lysL (T.take (i + 1))).length = (lysL (T.take i)).length + (layP p).length := by
  obtain ⟨hlt, hge⟩ := List.getElem?_eq_some_iff.1 hi
  have e1 : T = T.take i ++ p :: T.drop (i + 1) := by
    rw [← hge, List.getElem_cons_drop, List.take_append_drop]
  have e2 : xs = lysL (T.take i) ++ (layP p ++ (lysL (T.drop (i + 1)) ++ R)) := by
    rw [h]
    conv => lhs; rw [e1]
    rw [lysL_app, show lysL (p :: T.drop (i + 1)) = layP p ++ lysL (T.drop (i + 1)) from List.flatMap_cons]
    simp
  refine ⟨?_, ?_, ?_⟩
  · rw [e2, List.drop_left, List.take_left]
  · have := congrArg List.length e2
    simp only [List.length_append] at this
    omega
  · rw [List.take_succ_eq_append_getElem hlt, lysL_app, List.length_append, hge]
    show _ + (layP p ++ []).length = _
    rw [List.append_nil]
/-- A packet in a row is read. -/
theorem wpList_loadR {P : Program} {w : World} {ops : Array Oper} {rest : List Oper} {o : Oper} {a : Act} {Q : Exit → Act → World → Prop} (hgd : o.guard = none) (ty : TypeId) (x : Operand) (ho : o.op = .load ty x) (b i : Nat) (r : PkRow)
    (hx : a.eval x = .pointer (some ⟨b, i, none⟩)) (hB : w.rangeAt b i r.vs) {d : TypeDesc} (hu : P.underlying ty = some d) (hd : d.isRow = true) (hi : (P.info? ty).map (·.size) = some 18)
    (h : wpList P ops Q rest (a.put o.dst (pkA r.p r.C r.nc r.kc r.S r.ns r.ks)) w) : wpList P ops Q (o :: rest) a w := by
  refine wpList_plain hgd fun K hK => ?_
  have hr := exec_loadR (P := P) (w := w) (o := o) (a := a) ty x ho b i r hx hB hu hd hi
  unfold Oper.wp
  rw [hr]
  exact hK _ _ h

end Go.Proofs.Ytdlhcecmodefkaa
