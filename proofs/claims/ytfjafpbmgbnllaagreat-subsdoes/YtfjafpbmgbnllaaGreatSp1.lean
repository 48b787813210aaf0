/-
  What is proved here: the program's index of layer 13 in memory: its maps, what is read of them, what is told of one operation on them. Conditions: texts of at most 65535 bytes.
-/
import Derived.Test.YtfjafpbmgbnllaaGreatSk
import Derived.Test.YtfjafpbmgbnllaaGreatSpMath
import Derived.Test.YtfjafpbmgbnllaaGreatMem5
import Derived.Maps.RangeWalk
import Derived.Laws.IdiomRangeMap
import Derived.MapViews
namespace Go.Proofs.YtfjafpbmgbnllaaGreat
set_option linter.unusedVariables false
set_option linter.unusedSimpArgs false
open Go.RowKit Go.Maps

abbrev DU := DataW Unit
/-- How a want's terms, and a client's own map, read. -/
def RW (v : Value) : Option (DU × List MemPlace) := match v with
  | .agg cs => match cs.toList with
    | [.int .i64 q, .int .i64 t] => some (.agg [.lit (.int .i64 q), .lit (.int .i64 t)], [])
    | _ => none
  | _ => none
def tmD (q t : Int) : DU := .agg [.lit (.int .i64 q), .lit (.int .i64 t)]
def tmV (q t : Int) : Value := .agg #[.int .i64 q, .int .i64 t]
theorem RW_mk (q t : Int) : RW (tmV q t) = some (tmD q t, []) := rfl
theorem RW_inv {v : Value} {q t : Int} {ps : List MemPlace} (h : RW v = some (tmD q t, ps)) : v = tmV q t := by
  unfold RW at h
  split at h
  · rename_i cs
    split at h
    · rename_i q' t' hl
      simp only [Option.some.injEq, Prod.mk.injEq, tmD, DataW.agg.injEq, List.cons.injEq, DataW.lit.injEq, Lit.int.injEq, true_and, and_true] at h
      obtain ⟨⟨rfl, rfl⟩, _⟩ := h
      unfold tmV
      rw [← hl]
    · cases h
  · cases h
def RM (v : Value) : Option (DU × List MemPlace) := match v with
  | .map (some g) => some (.lit (.int .i64 (g : Int)), [])
  | .map none => some (.lit (.bool false), [])
  | _ => none
def mpD (g : Option Nat) : DU := match g with
  | some g => .lit (.int .i64 (g : Int))
  | none => .lit (.bool false)
theorem RM_mk (g : Option Nat) : RM (.map g) = some (mpD g, []) := by cases g <;> rfl
theorem RM_inv {v : Value} {g : Option Nat} {ps : List MemPlace} (h : RM v = some (mpD g, ps)) : v = .map g := by
  unfold RM at h
  split at h
  · rename_i a
    cases g with
    | none => simp [mpD] at h
    | some b =>
      simp only [mpD, Option.some.injEq, Prod.mk.injEq, DataW.lit.injEq, Lit.int.injEq, true_and] at h
      obtain rfl : a = b := by omega
      rfl
  · cases g with
    | none => rfl
    | some b => simp [mpD] at h
  · cases h
theorem tm_zero (w : World) : (zeroValue 61).run Tryz.prog w = .ok (tmV 0 0) w := by kernel_rfl
theorem mp_zero (w : World) : (zeroValue 66).run Tryz.prog w = .ok (.map none) w := by kernel_rfl
theorem mk_zero (w : World) : (zeroValue 80).run Tryz.prog w = .ok (.agg #[]) w := by kernel_rfl
theorem st_keyed : Keyed Tryz.prog 9 := string_keyed Tryz.underlying9
theorem st_key (c : List UInt8) (hc : c.length ≤ 65535) : keyOf Tryz.prog 9 (.string (str c)) = some (.string c) := by
  have := WideMaps.keyOf_string_mk (P := Tryz.prog) (k := 9) Tryz.underlying9 (s := str c) (by rw [str_size]; unfold maxLen; omega)
  rwa [str_data] at this
theorem mk_key' (c f : List UInt8) (hc : c.length ≤ 65535) (hf : f.length ≤ 65535) : keyOf Tryz.prog 59 (mkV c f) = some (mkL c f) := mk_key c f (by unfold maxLen; omega) (by unfold maxLen; omega)
theorem mk_inj' {c f c' f' : List UInt8} (hc : c.length ≤ 65535) (hf : f.length ≤ 65535) (hc' : c'.length ≤ 65535) (hf' : f'.length ≤ 65535) (h : mkL c f = mkL c' f') : c = c' ∧ f = f' :=
  mk_inj (by unfold maxLen; omega) (by unfold maxLen; omega) (by unfold maxLen; omega) (by unfold maxLen; omega) h

abbrev OW (w : World) (g n : Nat) (D : DU) : Prop := w.ownsMap Tryz.prog 59 RW g n D
abbrev OF (w : World) (g n : Nat) (D : DU) : Prop := w.ownsMap Tryz.prog 9 RM g n D
abbrev OI (w : World) (g n : Nat) (D : DU) : Prop := w.ownsMap Tryz.prog 9 unitElem g n D

/-- What the maps have. -/
structure WIn (D : DU) (L : List PE) : Prop where
  hit : ∀ e ∈ L, ∀ z, D.atKey (mkL e.c e.f) z = tmD e.q e.t
  miss : ∀ c f, c.length ≤ 65535 → f.length ≤ 65535 → hadP L c f = false → ∀ z, D.atKey (mkL c f) z = z
def FIn (D : DU) (G : List UInt8 → Option Nat) : Prop := ∀ c z, D.atKey (.string c) z = match G c with
  | some g => .lit (.int .i64 (g : Int))
  | none => z
def IIn (D : DU) (L : List PE) (c : List UInt8) : Prop := ∀ f, has D (.string f) = hadP L c f
theorem FIn.at_ {D : DU} {G : List UInt8 → Option Nat} (h : FIn D G) (c : List UInt8) : D.atKey (.string c) (mpD none) = mpD (G c) := by
  rw [h c]
  cases G c <;> rfl
theorem FIn.has {D : DU} {G : List UInt8 → Option Nat} (h : FIn D G) (c : List UInt8) : has D (.string c) = (G c).isSome := by
  cases hg : G c with
  | none => exact has_false_of_atKey fun z => by rw [h c, hg]
  | some g => exact has_true_of_atKey (y := .lit (.int .i64 (g : Int))) fun z => by rw [h c, hg]
theorem qOf_no {L : List PE} {c f : List UInt8} (h : hadP L c f = false) : qOf L c f = 0 := by
  induction L with
  | nil => rfl
  | cons a L ih =>
    have h1 := hadP_no h a (by simp)
    have h2 : hadP L c f = false := by
      unfold hadP at h ⊢
      rw [List.any_cons, Bool.or_eq_false_iff] at h
      exact h.2
    show (if _ then _ else _) = _
    rw [if_neg h1, ih h2]
theorem WIn.at_ {D : DU} {L : List PE} {tn : Int} {K : Nat} (h : WIn D L) (ok : OkP L tn K) {c f : List UInt8} (hc : c.length ≤ 65535) (hf : f.length ≤ 65535) : D.atKey (mkL c f) (tmD 0 0) = tmD (qOf L c f) (trn L c f 0) := by
  cases hh : hadP L c f with
  | false => rw [h.miss c f hc hf hh, qOf_no hh, trn_no hh]
  | true =>
    obtain ⟨e, he, rfl, rfl⟩ := (hadP_iff L c f).1 hh
    rw [h.hit e he, ok.qOfE he, ok.trnE he]
theorem WIn.has {D : DU} {L : List PE} (h : WIn D L) {c f : List UInt8} (hc : c.length ≤ 65535) (hf : f.length ≤ 65535) : has D (mkL c f) = hadP L c f := by
  cases hh : hadP L c f with
  | false => exact has_false_of_atKey (h.miss c f hc hf hh)
  | true =>
    obtain ⟨e, he, rfl, rfl⟩ := (hadP_iff L c f).1 hh
    exact has_true_of_atKey (h.hit e he)
theorem mkL_key (c f : List UInt8) : WideAt.IsKeyLit (mkL c f) := by trivial
theorem strL_key (c : List UInt8) : WideAt.IsKeyLit (.string c) := by trivial
section
variable {D : DU} {L : List PE} {tn : Int} {K : Nat}
/-- The maps turned. -/
theorem WIn.nil : WIn (.map []) [] := ⟨fun e he => by (exact absurd he List.not_mem_nil), fun _ _ _ _ _ _ => rfl⟩
theorem WIn.add (h : WIn D L) (ok : OkP L tn K) (hm : IsMap D) {c f : List UInt8} (hc : c.length ≤ 65535) (hf : f.length ≤ 65535) (q t : Int) : WIn (D.put (mkL c f) (tmD q (trn L c f t))) (addP L c f q t) := by
  refine ⟨fun e he z => ?_, fun c' f' hc' hf' hh z => ?_⟩
  · rcases addP_mem ok he with ⟨h1, h2⟩ | rfl
    · rw [atKey_put_other (fun x => h2 (mk_inj' (ok.ok e h1).2.2.1 (ok.ok e h1).2.1 hc hf x)), h.hit e h1]
    · exact atKey_put_same hm (mkL_key c f) _ _
  · rw [hadP_addP ok, Bool.or_eq_false_iff, decide_eq_false_iff_not] at hh
    rw [atKey_put_other (fun x => hh.1 (mk_inj' hc' hf' hc hf x)), h.miss c' f' hc' hf' hh.2]
theorem WIn.drop (h : WIn D L) (ok : OkP L tn K) {c f : List UInt8} (hc : c.length ≤ 65535) (hf : f.length ≤ 65535) (h0 : f ≠ []) : WIn (D.del (mkL c f)) (dropP L c f) := by
  refine ⟨fun e he z => ?_, fun c' f' hc' hf' hh z => ?_⟩
  · obtain ⟨h1, h2⟩ := List.mem_filter.1 he
    have hne : ¬ (e.c = c ∧ e.f = f) := fun x => by
      have : keepE c f e.se = true := h2
      unfold keepE PE.se at this
      simp [h0, x.1, x.2] at this
    rw [atKey_del_other (fun x => hne (mk_inj' (ok.ok e h1).2.2.1 (ok.ok e h1).2.1 hc hf x)), h.hit e h1]
  · rw [hadP_dropP L c f c' f' h0] at hh
    by_cases hx : c' = c ∧ f' = f
    · rw [hx.1, hx.2]
      exact atKey_del_same _
    · rw [atKey_del_other (fun x => hx (mk_inj' hc' hf' hc hf x)), h.miss c' f' hc' hf']
      simpa [hx] using hh
end
section
variable {G : List UInt8 → Option Nat} {D : DU}
def setG (G : List UInt8 → Option Nat) (c : List UInt8) (v : Option Nat) : List UInt8 → Option Nat := fun d => if d = c then v else G d
theorem FIn.put (h : FIn D G) (hm : IsMap D) (c : List UInt8) (g : Nat) : FIn (D.put (.string c) (.lit (.int .i64 (g : Int)))) (setG G c (some g)) := fun d z => by
  unfold setG
  by_cases hd : d = c
  · subst hd
    rw [if_pos rfl]
    exact atKey_put_same hm (strL_key d) _ _
  · rw [if_neg hd, atKey_put_other (fun x => hd (by injection x)), h d]
theorem FIn.del (h : FIn D G) (c : List UInt8) : FIn (D.del (.string c)) (setG G c none) := fun d z => by
  unfold setG
  by_cases hd : d = c
  · subst hd
    rw [if_pos rfl]
    exact atKey_del_same _
  · rw [if_neg hd, atKey_del_other (fun x => hd (by injection x)), h d]
theorem IIn.put {L : List PE} {tn : Int} {K : Nat} {c f : List UInt8} (h : IIn D L c) (hm : IsMap D) (ok : OkP L tn K) (q t : Int) : IIn (D.put (.string f) (.agg [])) (addP L c f q t) c := fun f' => by
  rw [hadP_addP ok]
  by_cases hf : f' = f
  · subst hf
    rw [has_put_same hm (strL_key f')]
    simp
  · rw [has_put_other (fun x => hf (by injection x)), h f']
    simp [hf]
theorem IIn.oth {L : List PE} {tn : Int} {K : Nat} {c d f : List UInt8} (h : IIn D L d) (ok : OkP L tn K) (hd : d ≠ c) (q t : Int) : IIn D (addP L c f q t) d := fun f' => by
  rw [hadP_addP ok, h f']
  simp [hd]
theorem IIn.del {L : List PE} {c f : List UInt8} (h : IIn D L c) (h0 : f ≠ []) : IIn (D.del (.string f)) (dropP L c f) c := fun f' => by
  rw [hadP_dropP L c f c f' h0]
  by_cases hf : f' = f
  · subst hf
    rw [has_del_same]
    simp
  · rw [has_del_other (fun x => hf (by injection x)), h f']
    simp [hf]
theorem IIn.delOth {L : List PE} {c d f : List UInt8} (h : IIn D L d) (h0 : f ≠ []) (hd : d ≠ c) : IIn D (dropP L c f) d := fun f' => by
  rw [hadP_dropP L c f d f' h0, h f']
  simp [hd]
theorem IIn.gone {L : List PE} {c d : List UInt8} (h : IIn D L d) (hd : d ≠ c) : IIn D (dropP L c []) d := fun f' => by
  rw [hadP_gone, h f']
  simp [hd]
/-- A client's own map has just its filters. -/
theorem IIn.keys {w : World} {g n : Nat} {L : List PE} {tn : Int} {K : Nat} {c : List UInt8} (h : IIn D L c) (hown : OI w g n D) (ok : OkP L tn K) : (fsOf L c).Perm (strKeys D) := by
  obtain ⟨es, rfl, hpw, _⟩ := hown.entries st_keyed
  obtain ⟨es', hD', hko⟩ := hown.keysOf
  obtain rfl : es = es' := by simpa using hD'
  exact perm_strKeys hpw (fun p hp => by obtain ⟨v, hv⟩ := hko p hp; obtain ⟨x, _, hx, _⟩ := Maps.keyOf_str Tryz.underlying9 hv; exact ⟨x, hx⟩) (ok.fsOf_nodup c) (fun x => by rw [fsOf_mem, h x])
theorem IIn.size {w : World} {g n : Nat} {L : List PE} {tn : Int} {K : Nat} {c : List UInt8} (h : IIn D L c) (hown : OI w g n D) (ok : OkP L tn K) : Maps.size D = (fsOf L c).length := by
  rw [(h.keys hown ok).length_eq]
  obtain ⟨es, rfl, _⟩ := hown.entries st_keyed
  simp [strKeys, Maps.size]
end

/-- One operation. -/
theorem exec_lookup {P : Program} {w : World} {o : Oper} {a : Act} (t : TypeId) (m x : Operand) (ok : Bool) (ho : o.op = .lookup t m x ok) {mv xv v : Value} (hm : a.eval m = mv) (hx : a.eval x = xv) (h : (Instr.lookup t mv xv ok).run P w = .ok v w) :
    (execOp a.eval o).run P w = .ok (.value v) w := by
  simp [execOp, ho, hm, hx, h, Result.andThen]
theorem op_update {H : Type} {P : Program} {w : World} {o : Oper} {a : Act} {Ky : Act → World → Prop} {Q : Exit → Act → World → Prop} (m x v : Operand) (t : TypeId) (hop : o.op = Op.mapUpdate t m x v)
    (k e : TypeId) (Kd : Keyed P k) (ht : P.underlying t = some (.map k e)) (R : Value → Option (DataW H × List MemPlace)) (b n : Nat) (D : DataW H) (hm : a.eval m = .map (some b)) (hown : w.ownsMap P k R b n D) (hn : n < maxLen) (key val : Value) (kl : Lit)
    (hx : a.eval x = key) (hv : a.eval v = val) (hkey : keyOf P k key = some kl) (d : DataW H) (ps : List MemPlace) (hval : R val = some (d, ps)) (hK : ∀ w', w'.ownsMap P k R b (n + 1) (D.put kl d) → w.grownBy w' (some b) → Ky (a.put o.dst undef) w') : Oper.wp P o a w Ky Q := by
  obtain ⟨w', hrun, r1, r2⟩ := hown.update Kd ht hn hkey hval
  unfold Oper.wp
  simp [execOp, hop, hm, hx, hv, hrun, Result.andThen]
  exact hK w' r1 r2
theorem op_delete {H : Type} {P : Program} {w : World} {o : Oper} {a : Act} {Ky : Act → World → Prop} {Q : Exit → Act → World → Prop} (m x : Operand) (t k : TypeId) (hop : o.op = Op.call { callee := Callee.builtin Builtin.delete, args := #[m, x], argTypes := #[t, k] })
    (e : TypeId) (Kd : Keyed P k) (ht : P.underlying t = some (.map k e)) (R : Value → Option (DataW H × List MemPlace)) (b n : Nat) (D : DataW H) (hm : a.eval m = .map (some b)) (hown : w.ownsMap P k R b n D) (key : Value) (kl : Lit) (hx : a.eval x = key) (hkey : keyOf P k key = some kl)
    (hK : ∀ w', w'.ownsMap P k R b n (D.del kl) → w.mapTurned w' b → Ky (a.put o.dst (.tuple #[])) w') : Oper.wp P o a w Ky Q := by
  obtain ⟨w', hrun, r1, r2⟩ := hown.drop Kd ht hkey o.type
  unfold Oper.wp
  simp [execOp, hop, resolve, invoke, builtin, hm, hx, hrun, Result.andThen]
  exact hK w' r1 r2

/-- The index. -/
structure Px where
  B : Nat
  gw : Nat
  gf : Nat
  G : List UInt8 → Option Nat
  L : List PE
  tn : Int
  K : Nat
def Px.S (m : Px) (i : Nat) : Prop := i = m.B ∨ i = m.gw ∨ i = m.gf ∨ ∃ c, m.G c = some i
structure PxA (w : World) (m : Px) : Prop where
  blk : Blk w m.B 56 [.map (some m.gw), .map (some m.gf), .int .i64 m.tn]
  ok : OkP m.L m.tn m.K
  wm : ∃ D, OW w m.gw m.K D ∧ WIn D m.L
  fm : ∃ D, OF w m.gf m.K D ∧ FIn D m.G
  im : ∀ c g, m.G c = some g → g ≠ m.gw ∧ g ≠ m.gf ∧ (∃ D, OI w g m.K D ∧ IIn D m.L c) ∧ ∃ e ∈ m.L, e.c = c
  al : ∀ e ∈ m.L, ∃ g, m.G e.c = some g
  inj : ∀ c d g, m.G c = some g → m.G d = some g → c = d
  ap : m.gw ≠ m.gf
theorem map_same {H : Type} {P : Program} {k : TypeId} {R : Value → Option (DataW H × List MemPlace)} {w w' : World} {b n : Nat} {D : DataW H} (h : w.ownsMap P k R b n D) (e : w'.heap[b]? = w.heap[b]?) : w'.ownsMap P k R b n D := by
  obtain ⟨es, clock, hb, r⟩ := h
  exact ⟨es, clock, e.trans hb, r⟩
theorem map_ne {H : Type} {P : Program} {k : TypeId} {R : Value → Option (DataW H × List MemPlace)} {w : World} {b n g : Nat} {D : DataW H} {t : TypeId} {cs : List Value} (h : w.ownsMap P k R b n D) (hB : Blk w g t cs) : g ≠ b := fun e => by
  subst e
  obtain ⟨es, clock, hb, _⟩ := h
  have hB' : w.heap[g]? = _ := hB
  rw [hb] at hB'
  cases hB'
section
variable {w w' : World} {m : Px}
theorem PxA.lt (h : PxA w m) {i : Nat} (hi : m.S i) : i < w.heap.size := by
  rcases hi with rfl | rfl | rfl | ⟨c, hc⟩
  · exact h.blk.lt
  · obtain ⟨D, hD, _⟩ := h.wm; exact hD.lt
  · obtain ⟨D, hD, _⟩ := h.fm; exact hD.lt
  · obtain ⟨_, _, ⟨D, hD, _⟩, _⟩ := h.im c i hc; exact hD.lt
theorem PxA.same (h : PxA w m) (hs : ∀ i, m.S i → w'.heap[i]? = w.heap[i]?) : PxA w' m := by
  refine ⟨(hs m.B (Or.inl rfl)).trans h.blk, h.ok, ?_, ?_, fun c g hc => ?_, h.al, h.inj, h.ap⟩
  · obtain ⟨D, hD, hi⟩ := h.wm
    exact ⟨D, map_same hD (hs m.gw (Or.inr (Or.inl rfl))), hi⟩
  · obtain ⟨D, hD, hi⟩ := h.fm
    exact ⟨D, map_same hD (hs m.gf (Or.inr (Or.inr (Or.inl rfl)))), hi⟩
  · obtain ⟨h1, h2, ⟨D, hD, hi⟩, h3⟩ := h.im c g hc
    exact ⟨h1, h2, ⟨D, map_same hD (hs g (Or.inr (Or.inr (Or.inr ⟨c, hc⟩)))), hi⟩, h3⟩
theorem PxA.keep (h : PxA w m) (b : Below w.heap.size w w') : PxA w' m := h.same fun i hi => b.block i (h.lt hi)
theorem PxA.but {T : Nat → Prop} (h : PxA w m) (b : But T w w') (ht : ∀ i, m.S i → ¬ T i) : PxA w' m := h.same fun i hi => b.block i (h.lt hi) (ht i hi)
theorem PxA.ne_w (h : PxA w m) : m.B ≠ m.gw := by obtain ⟨D, hD, _⟩ := h.wm; exact map_ne hD h.blk
theorem PxA.ne_f (h : PxA w m) : m.B ≠ m.gf := by obtain ⟨D, hD, _⟩ := h.fm; exact map_ne hD h.blk
theorem PxA.ne_i (h : PxA w m) {c : List UInt8} {g : Nat} (hg : m.G c = some g) : m.B ≠ g := by
  obtain ⟨_, _, ⟨D, hD, _⟩, _⟩ := h.im c g hg
  exact map_ne hD h.blk
end
/-- Blocks that are as they were. -/
def Sam (l : List Nat) (X w' : World) : Prop := ∀ i ∈ l, w'.heap[i]? = X.heap[i]?
theorem Sam.refl (l : List Nat) (X : World) : Sam l X X := fun _ _ => rfl
theorem Sam.drew (l : List Nat) (X : World) : Sam l X X.drew := fun _ _ => rfl
theorem Sam.below {l : List Nat} {X W : World} (b : Below X.heap.size X W) (h : ∀ i ∈ l, i < X.heap.size) : Sam l X W := fun i hi => b.block i (h i hi)
theorem Sam.grown {l : List Nat} {X V W : World} {g : Nat} (h : Sam l X V) (b : V.grownBy W (some g)) (hl : ∀ i ∈ l, i < V.heap.size ∧ i ≠ g) : Sam l X W := fun i hi => (b.block i (hl i hi).1 (fun e => (hl i hi).2 (by injection e))).trans (h i hi)
theorem Blk.sam {l : List Nat} {X W : World} {g : Nat} {t : TypeId} {cs : List Value} (h : Blk X g t cs) (b : Sam l X W) (hg : g ∈ l) : Blk W g t cs := (b g hg).trans h
/-- x.wants[w], x.filters[client]. -/
theorem look_of {w : World} {gw n : Nat} {D : DU} {L : List PE} {t : Int} {K : Nat} (hD : OW w gw n D) (hi : WIn D L) (ok : OkP L t K) {c f : List UInt8} (hc : c.length ≤ 65535) (hf : f.length ≤ 65535) :
    (Instr.lookup 53 (.map (some gw)) (mkV c f) true).run Tryz.prog w = .ok (.tuple #[tmV (qOf L c f) (trn L c f 0), .bool (hadP L c f)]) w := by
  obtain ⟨v, ps, hr, hv⟩ := hD.look_ok mk_keyed Tryz.underlying53 (tm_zero w) (RW_mk 0 0) (mk_key' c f hc hf)
  rw [hi.at_ ok hc hf] at hv
  rw [RW_inv hv, hi.has hc hf] at hr
  exact hr
theorem look1_of {w : World} {gw n : Nat} {D : DU} {L : List PE} {t : Int} {K : Nat} (hD : OW w gw n D) (hi : WIn D L) (ok : OkP L t K) {c f : List UInt8} (hc : c.length ≤ 65535) (hf : f.length ≤ 65535) :
    (Instr.lookup 53 (.map (some gw)) (mkV c f) false).run Tryz.prog w = .ok (tmV (qOf L c f) (trn L c f 0)) w := by
  obtain ⟨v, ps, hr, hv⟩ := hD.lookup mk_keyed Tryz.underlying53 (tm_zero w) (RW_mk 0 0) (mk_key' c f hc hf)
  rw [hi.at_ ok hc hf] at hv
  rw [RW_inv hv] at hr
  exact hr
theorem lookF_of {w : World} {gf n : Nat} {D : DU} {G : List UInt8 → Option Nat} (hD : OF w gf n D) (hi : FIn D G) {c : List UInt8} (hc : c.length ≤ 65535) :
    (Instr.lookup 54 (.map (some gf)) (.string (str c)) false).run Tryz.prog w = .ok (.map (G c)) w := by
  obtain ⟨v, ps, hr, hv⟩ := hD.lookup st_keyed Tryz.underlying54 (mp_zero w) (RM_mk none) (st_key c hc)
  rw [hi.at_ c] at hv
  rw [RM_inv hv] at hr
  exact hr
section
variable {w w' : World} {m : Px}
theorem PxA.look (h : PxA w m) {c f : List UInt8} (hc : c.length ≤ 65535) (hf : f.length ≤ 65535) :
    (Instr.lookup 53 (.map (some m.gw)) (mkV c f) true).run Tryz.prog w = .ok (.tuple #[tmV (qOf m.L c f) (trn m.L c f 0), .bool (hadP m.L c f)]) w := by
  obtain ⟨D, hD, hi⟩ := h.wm
  exact look_of hD hi h.ok hc hf
theorem PxA.look1 (h : PxA w m) {c f : List UInt8} (hc : c.length ≤ 65535) (hf : f.length ≤ 65535) :
    (Instr.lookup 53 (.map (some m.gw)) (mkV c f) false).run Tryz.prog w = .ok (tmV (qOf m.L c f) (trn m.L c f 0)) w := by
  obtain ⟨D, hD, hi⟩ := h.wm
  exact look1_of hD hi h.ok hc hf
theorem PxA.lookF (h : PxA w m) {c : List UInt8} (hc : c.length ≤ 65535) :
    (Instr.lookup 54 (.map (some m.gf)) (.string (str c)) false).run Tryz.prog w = .ok (.map (m.G c)) w := by
  obtain ⟨D, hD, hi⟩ := h.fm
  exact lookF_of hD hi hc
end

end Go.Proofs.YtfjafpbmgbnllaaGreat
