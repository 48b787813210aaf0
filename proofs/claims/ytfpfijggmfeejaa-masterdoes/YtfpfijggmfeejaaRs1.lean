/-
  What is proved here: the document's own master of layer 7 in memory: what it is, what its May, Copy, Count answer. Conditions: lines of at most 64, lists of at most 10^6.
-/
import Derived.Test.YtfpfijggmfeejaaMs13
namespace Go.Proofs.Ytfpfijggmfeejaa
set_option linter.unusedVariables false
set_option linter.unusedSimpArgs false
open Go.RowKit Go.Maps

/-- Where the document's master lies. -/
structure RL where
  g : Nat
  A : Option Addr
  k : Nat
  ws : List SM
  o : Option (Nat × SM)
/-- The blocks that it writes. -/
def RL.S (R : RL) : Nat → Prop := fun i => i = R.g ∨ (∃ o, R.A = some ⟨i, o, none⟩) ∨ ∃ y, R.o = some (i, y)
def avs (ws : List SM) : List Value := ws.flatMap fun s => s.vs ++ [Value.int .i64 0]
theorem avs_length (ws : List SM) : (avs ws).length = ws.length * 10 := by
  induction ws with
  | nil => rfl
  | cons r rs ih =>
    show ((r.vs ++ [Value.int .i64 0]) ++ avs rs).length = _
    rw [List.length_append, ih, List.length_cons]
    show 10 + rs.length * 10 = _
    omega
theorem avs_append (a b : List SM) : avs (a ++ b) = avs a ++ avs b := by simp [avs]
/-- What is out, as a slice. -/
def outV : Option (Nat × SM) → Value
  | none => .slice none 0 0
  | some p => .slice (some ⟨p.1, 0, none⟩) 1 1
/-- The rests. -/
def rests (till : Int → Int) : List Value := (List.range 248).map fun (u : Nat) => Value.int .i64 (till (u : Int))
theorem rests_get (till : Int → Int) (u : Nat) (h : u < 248) : (rests till)[u]? = some (.int .i64 (till (u : Int))) := by simp [rests, h]
theorem rests_set (till : Int → Int) (u : Nat) (h : u < 248) (v : Int) : (rests till).set u (.int .i64 v) = rests (fun x => if x = (u : Int) then v else till x) := by
  apply List.ext_getElem?
  intro i
  rw [List.getElem?_set]
  by_cases hi : i < 248
  · rw [rests_get _ i hi, rests_get _ i hi]
    by_cases he : u = i
    · subst he; simp [rests, h]
    · rw [if_neg he, if_neg (by omega)]
  · have : ∀ t, (rests t)[i]? = none := fun t => by simp [rests]; omega
    rw [this, this]
    split
    · rename_i he; subst he; omega
    · rfl
def rcs (R : RL) (s : MSt) : List Value := [.int .i64 s.wait, .int .i64 s.again, .int .i64 s.rest, .int .i64 s.now, .int .i64 s.last, .int .i64 (s.next : Nat), .slice R.A R.ws.length R.k, outV R.o] ++ rests s.till
/-- What is out, in memory. -/
def ROut (w : World) (o : Option (Nat × SM)) (out : Option (Wt × Int)) : Prop :=
  match out, o with
  | none, none => True
  | some (x, t), some (b, y) => y.wt = x ∧ Blk w b 53 (y.vs ++ [.int .i64 t]) ∧ y.own w
  | _, _ => False
structure RsA (w : World) (R : RL) (s : MSt) : Prop where
  blk : Blk w R.g 34 (rcs R s)
  row : w.ownsRow 0 53 10 (.slice R.A R.ws.length R.k) R.ws.length (avs R.ws)
  own : ∀ x ∈ R.ws, x.own w
  wl : R.ws.map SM.wt = s.line
  out : ROut w R.o s.out
  ap : ∀ b o y, R.A = some ⟨b, o, none⟩ → R.o = some (b, y) → False

section
variable {w w' : World}
theorem ROut.but {S : Nat → Prop} {o : Option (Nat × SM)} {out : Option (Wt × Int)} (h : ROut w o out) (b : But S w w') (ho : ∀ b y, o = some (b, y) → ¬ S b ∧ Off S y.V) : ROut w' o out := by
  match out, o, h with
  | none, none, _ => trivial
  | some (x, t), some (g, y), h =>
    obtain ⟨h1, h2, h3⟩ := h
    obtain ⟨k1, k2⟩ := ho g y rfl
    exact ⟨h1, h2.but b k1, h3.but b k2⟩
theorem ROut.some_ {o : Option (Nat × SM)} {x : Wt} {t : Int} (h : ROut w o (some (x, t))) : ∃ b y, o = some (b, y) ∧ y.wt = x ∧ Blk w b 53 (y.vs ++ [.int .i64 t]) ∧ y.own w := by
  match o, h with
  | some (g, y), h => exact ⟨g, y, rfl, h⟩
theorem ROut.none_ {o : Option (Nat × SM)} (h : ROut w o none) : o = none := by
  match o, h with
  | none, _ => rfl
theorem ROut.lay {o : Option (Nat × SM)} {out : Option (Wt × Int)} (h : ROut w o out) {b : Nat} {y : SM} (e : o = some (b, y)) : ∃ t, Blk w b 53 (y.vs ++ [.int .i64 t]) ∧ y.own w := by
  subst e
  match out, h with
  | some (x, t), h => exact ⟨t, h.2⟩
variable {R : RL} {s : MSt}
theorem RsA.lt (h : RsA w R s) : ∀ i, R.S i → i < w.heap.size := by
  rintro i (rfl | ⟨o, e⟩ | ⟨y, e⟩)
  · exact h.blk.lt
  · exact ownS_lt h.row i o e
  · obtain ⟨t, hb, _⟩ := h.out.lay e
    exact hb.lt
/-- No Values lie in a block that it writes. -/
theorem RsA.off (h : RsA w R s) {A : Option Addr} {n c : Nat} {xs : List Value} (ho : w.ownsRow 0 3 1 (.slice A n c) n xs) : Off R.S A := by
  rintro b o e (rfl | ⟨o', e'⟩ | ⟨y, e'⟩)
  · exact own_ne ho h.blk (by decide) e rfl
  · exact own_own ho h.row (by decide) e e' rfl
  · obtain ⟨t, hb, _⟩ := h.out.lay e'
    exact own_ne ho hb (by decide) e rfl
theorem RsA.but {S : Nat → Prop} (h : RsA w R s) (b : But S w w') (hs : ∀ i, S i → ¬ R.S i) (hv : ∀ {A : Option Addr} {n c : Nat} {xs : List Value}, w.ownsRow 0 3 1 (.slice A n c) n xs → Off S A) : RsA w' R s :=
  ⟨h.blk.but b (fun e => hs _ e (Or.inl rfl)), ownS_but h.row b (fun _ _ e h' => hs _ h' (Or.inr (Or.inl ⟨_, e⟩))), fun x hx => (h.own x hx).but b (hv (h.own x hx)), h.wl,
   h.out.but b (fun b' y e => ⟨fun h' => hs _ h' (Or.inr (Or.inr ⟨y, e⟩)), by obtain ⟨t, _, ho⟩ := h.out.lay e; exact hv ho⟩), h.ap⟩
theorem RsA.keep (h : RsA w R s) (b : Below w.heap.size w w') : RsA w' R s :=
  h.but (But.ofBelow b (fun _ => False)) (fun _ h => h.elim) (fun _ _ _ _ h => h.elim)
theorem RsA.ne (h : RsA w R s) : (∀ b o, R.A = some ⟨b, o, none⟩ → b ≠ R.g) ∧ ∀ b y, R.o = some (b, y) → b ≠ R.g := by
  refine ⟨fun b o e => own_ne h.row h.blk (by decide) e, fun b y e => ?_⟩
  obtain ⟨t, hb, _⟩ := h.out.lay e
  exact hb.ne h.blk (by decide)
/-- Its struct alone was written. -/
theorem RsA.turnG (h : RsA w R s) (b : But (fun i => i = R.g) w w') (s' : MSt) (hblk : Blk w' R.g 34 (rcs R s')) (h1 : s'.line = s.line) (h2 : s'.out = s.out) : RsA w' R s' := by
  refine ⟨hblk, ownS_but h.row b (fun _ _ e h' => h.ne.1 _ _ e h'), fun x hx => (h.own x hx).but b (fun b' o e h' => h.off (h.own x hx) b' o e (Or.inl h')), h.wl.trans h1.symm, ?_, h.ap⟩
  rw [h2]
  refine h.out.but b (fun b' y e => ⟨h.ne.2 b' y e, ?_⟩)
  obtain ⟨t, _, ho⟩ := h.out.lay e
  exact fun b'' o'' e'' h'' => h.off ho b'' o'' e'' (Or.inl h'')
end

end Go.Proofs.Ytfpfijggmfeejaa
