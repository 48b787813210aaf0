/-
  What is proved here: a master in memory (its struct, the row of what waits, what is out, the map of rests) and what holds of it while other memory turns; what came of requests, in memory. No condition of its own.
-/
import Derived.Test.YtnialjikpoembaaMs1
import Derived.Maps.OwnSet
namespace Go.Proofs.Ytnialjikpoembaa
set_option linter.unusedVariables false
set_option linter.unusedSimpArgs false
open Go.RowKit Go.Maps

/-! ### Blocks are told apart by their types -/
theorem Blk.ne {w : World} {g g' : Nat} {t t' : TypeId} {cs cs' : List Value} (h : Blk w g t cs) (h' : Blk w g' t' cs') (hne : t ≠ t') : g ≠ g' := by
  rintro rfl
  unfold Blk at h h'
  rw [h] at h'
  injection h' with h'
  injection h' with _ h' _
  exact hne h'
theorem own_cells {w : World} {base s : Nat} {e : TypeId} {A : Option Addr} {n c : Nat} {xs : List Value} (h : w.ownsRow base e s (.slice A n c) n xs) {b o : Nat} (eA : A = some ⟨b, o, none⟩) : ∃ cur, w.heap[b]? = some (.cells cur e (0, 0)) := by
  rcases h.2 with ⟨hv, _⟩ | ⟨g, cap, cur, hv, hg, hh, _⟩
  · injection hv with hA _ _
    rw [eA] at hA
    cases hA
  · injection hv with hA _ _
    rw [eA] at hA
    injection hA with hA
    injection hA with h1 _ _
    subst h1
    exact ⟨cur, hh⟩
theorem own_ne {w : World} {base s : Nat} {e t : TypeId} {A : Option Addr} {n c : Nat} {xs cs : List Value} (h : w.ownsRow base e s (.slice A n c) n xs) {g : Nat} (hB : Blk w g t cs) (hne : e ≠ t) {b o : Nat} (eA : A = some ⟨b, o, none⟩) : b ≠ g := by
  rintro rfl
  obtain ⟨cur, hc⟩ := own_cells h eA
  unfold Blk at hB
  rw [hc] at hB
  injection hB with hB
  injection hB with _ hB _
  exact hne hB
theorem own_own {w : World} {base base' s s' : Nat} {e t : TypeId} {A B : Option Addr} {n c m d : Nat} {xs ys : List Value} (h : w.ownsRow base e s (.slice A n c) n xs) (h' : w.ownsRow base' t s' (.slice B m d) m ys) (hne : e ≠ t) {b o b' o' : Nat} (eA : A = some ⟨b, o, none⟩) (eB : B = some ⟨b', o', none⟩) : b ≠ b' := by
  rintro rfl
  obtain ⟨cur, hc⟩ := own_cells h eA
  obtain ⟨cur', hc'⟩ := own_cells h' eB
  rw [hc] at hc'
  injection hc' with hc'
  injection hc' with _ hc' _
  exact hne hc'
section
variable {H : Type} {R : Value → Option (DataW H × List MemPlace)} {w w' : World} {kt : TypeId} {gm n : Nat} {D : DataW H}
theorem map_ne (h : w.ownsMap Try.prog kt R gm n D) {g : Nat} {t : TypeId} {cs : List Value} (hB : Blk w g t cs) : g ≠ gm := by
  rintro rfl
  obtain ⟨es, cl, hm, _⟩ := h
  unfold Blk at hB
  rw [hm] at hB
  injection hB with hB
  cases hB
theorem map_own (h : w.ownsMap Try.prog kt R gm n D) {base s : Nat} {e : TypeId} {A : Option Addr} {m c : Nat} {xs : List Value} (ho : w.ownsRow base e s (.slice A m c) m xs) {b o : Nat} (eA : A = some ⟨b, o, none⟩) : b ≠ gm := by
  rintro rfl
  obtain ⟨es, cl, hm, _⟩ := h
  obtain ⟨cur, hc⟩ := own_cells ho eA
  rw [hm] at hc
  injection hc with hc
  cases hc
theorem map_but {S : Nat → Prop} (h : w.ownsMap Try.prog kt R gm n D) (k : But S w w') (hs : ¬ S gm) : w'.ownsMap Try.prog kt R gm n D := by
  have hlt := h.lt
  obtain ⟨es, cl, hm, r⟩ := h
  exact ⟨es, cl, (k.block gm hlt hs).trans hm, r⟩
end

/-- The Values of a request lie in a row of their own. -/
def SM.own (w : World) (s : SM) : Prop := w.ownsRow 0 3 1 (.slice s.V s.r.vs.length s.k) s.r.vs.length (iv s.r.vs)
theorem SM.own.is {w : World} {s : SM} (h : s.own w) : s.is w := own_rd h
theorem SM.own.but {S : Nat → Prop} {w w' : World} {s : SM} (h : s.own w) (k : But S w w') (hs : Off S s.V) : s.own w' := own_but h k hs
theorem SM.own.keep {w w' : World} {s : SM} (h : s.own w) (k : Below w.heap.size w w') : s.own w' := own_keep h k

/-- What came of a request, in memory. -/
structure DM where
  tk : Nat
  an : An
  late : Bool
  V : Option Addr
  k : Nat
def DM.dn (d : DM) : Dn := ⟨d.tk, d.an, d.late⟩
def DM.vs (d : DM) : List Value := [.int .i64 (d.tk : Nat), .slice d.V d.an.us.length d.k, .int .i64 d.an.code, .bool d.late]
def DM.is (w : World) (d : DM) : Prop := Rd w d.V d.an.us.length (iv d.an.us)
/-- At most one of them. -/
def DRd (w : World) (O : Option Addr) (n : Nat) (ds : List DM) : Prop := (ds = [] ∧ n = 0) ∨ ∃ d b, ds = [d] ∧ n = 1 ∧ O = some ⟨b, 0, none⟩ ∧ Blk w b 63 d.vs ∧ d.is w
/-- At most one sending. -/
def SRd1 (w : World) (O : Option Addr) (n : Nat) (rs : List SM) : Prop := (rs = [] ∧ n = 0) ∨ ∃ r b, rs = [r] ∧ n = 1 ∧ O = some ⟨b, 0, none⟩ ∧ Blk w b 51 r.vs ∧ r.own w

/-- Where a master lies. -/
structure ML where
  g : Nat
  gm : Nat
  n : Nat
  D : DataW Unit
  A : Option Addr
  k : Nat
  ws : List SM
  o : Option (Nat × SM)
/-- The blocks that it writes. -/
def ML.S (m : ML) : Nat → Prop := fun i => i = m.g ∨ i = m.gm ∨ (∃ o, m.A = some ⟨i, o, none⟩) ∨ ∃ y, m.o = some (i, y)
def optP : Option (Nat × SM) → Option Addr
  | none => none
  | some p => some ⟨p.1, 0, none⟩
def mcs (m : ML) (s : MSt) : List Value := [.int .i64 s.wait, .int .i64 s.again, .int .i64 s.rest, .int .i64 s.now, .int .i64 (s.next : Nat), .slice m.A m.ws.length m.k, .pointer (optP m.o), .map (some m.gm)]
/-- What waits. -/
structure LineA (w : World) (A : Option Addr) (k : Nat) (ws : List SM) : Prop where
  row : w.ownsRow 0 51 9 (.slice A ws.length k) ws.length (svs ws)
  own : ∀ x ∈ ws, x.own w
/-- What is out. -/
def OutA (w : World) (o : Option (Nat × SM)) (out : Option (Wt × Int)) (last : Int) : Prop :=
  match out, o with
  | none, none => True
  | some (x, t), some (b, y) => y.wt = x ∧ Blk w b 80 (y.vs ++ [.int .i64 t, .int .i64 last]) ∧ y.own w
  | _, _ => False
/-- The rests. -/
def RestR (s : MSt) (D : DataW Unit) : Prop := ∀ u : Int, 0 ≤ u → u ≤ 247 →
  (has D (.int .i64 u) = true → ∃ since : Int, (∀ zd, D.atKey (.int .i64 u) zd = .lit (.int .i64 since)) ∧ s.till u = since + s.rest ∧ 0 ≤ since ∧ since ≤ s.now) ∧ (has D (.int .i64 u) = false → s.till u ≤ s.now)
structure MsA (w : World) (m : ML) (s : MSt) : Prop where
  blk : Blk w m.g 73 (mcs m s)
  line : LineA w m.A m.k m.ws
  wl : m.ws.map SM.wt = s.line
  out : OutA w m.o s.out s.last
  mp : w.ownsMap Try.prog 3 (plainElem Try.prog 3) m.gm m.n m.D
  rests : RestR s m.D

section
variable {w w' : World}
theorem LineA.but {S : Nat → Prop} {A : Option Addr} {k : Nat} {ws : List SM} (h : LineA w A k ws) (b : But S w w') (hA : Off S A) (hV : ∀ x ∈ ws, Off S x.V) : LineA w' A k ws :=
  ⟨ownS_but h.row b hA, fun x hx => (h.own x hx).but b (hV x hx)⟩
theorem OutA.but {S : Nat → Prop} {o : Option (Nat × SM)} {out : Option (Wt × Int)} {last : Int} (h : OutA w o out last) (b : But S w w') (ho : ∀ b y, o = some (b, y) → ¬ S b ∧ Off S y.V) : OutA w' o out last := by
  match out, o, h with
  | none, none, _ => trivial
  | some (x, t), some (g, y), h =>
    obtain ⟨h1, h2, h3⟩ := h
    obtain ⟨k1, k2⟩ := ho g y rfl
    exact ⟨h1, h2.but b k1, h3.but b k2⟩
theorem OutA.some_ {o : Option (Nat × SM)} {x : Wt} {t last : Int} (h : OutA w o (some (x, t)) last) : ∃ b y, o = some (b, y) ∧ y.wt = x ∧ Blk w b 80 (y.vs ++ [.int .i64 t, .int .i64 last]) ∧ y.own w := by
  match o, h with
  | some (g, y), h => exact ⟨g, y, rfl, h⟩
theorem OutA.none_ {o : Option (Nat × SM)} {last : Int} (h : OutA w o none last) : o = none := by
  match o, h with
  | none, _ => rfl
theorem OutA.lay {o : Option (Nat × SM)} {out : Option (Wt × Int)} {last : Int} (h : OutA w o out last) {b : Nat} {y : SM} (e : o = some (b, y)) : ∃ t, Blk w b 80 (y.vs ++ [.int .i64 t, .int .i64 last]) ∧ y.own w := by
  subst e
  match out, h with
  | some (x, t), h => exact ⟨t, h.2⟩
variable {m : ML} {s : MSt}
theorem MsA.lt (h : MsA w m s) : ∀ i, m.S i → i < w.heap.size := by
  rintro i (rfl | rfl | ⟨o, e⟩ | ⟨y, e⟩)
  · exact h.blk.lt
  · exact h.mp.lt
  · exact ownS_lt h.line.row i o e
  · obtain ⟨t, hb, _⟩ := h.out.lay e
    exact hb.lt
/-- No Values lie in a block that it writes. -/
theorem MsA.off (h : MsA w m s) {A : Option Addr} {n c : Nat} {xs : List Value} (ho : w.ownsRow 0 3 1 (.slice A n c) n xs) : Off m.S A := by
  rintro b o e (rfl | rfl | ⟨o', e'⟩ | ⟨y, e'⟩)
  · exact own_ne ho h.blk (by decide) e rfl
  · exact map_own h.mp ho e rfl
  · exact own_own ho h.line.row (by decide) e e' rfl
  · obtain ⟨t, hb, _⟩ := h.out.lay e'
    exact own_ne ho hb (by decide) e rfl
theorem MsA.ne1 (h : MsA w m s) : m.g ≠ m.gm := map_ne h.mp h.blk
theorem MsA.ne2 (h : MsA w m s) : ∀ b o, m.A = some ⟨b, o, none⟩ → b ≠ m.g ∧ b ≠ m.gm := fun b o e => ⟨own_ne h.line.row h.blk (by decide) e, map_own h.mp h.line.row e⟩
theorem MsA.ne3 (h : MsA w m s) : ∀ b y, m.o = some (b, y) → b ≠ m.g ∧ b ≠ m.gm ∧ ∀ b' o, m.A = some ⟨b', o, none⟩ → b' ≠ b := fun b y e => by
  obtain ⟨t, hb, _⟩ := h.out.lay e
  exact ⟨hb.ne h.blk (by decide), map_ne h.mp hb, fun b' o e' => own_ne h.line.row hb (by decide) e'⟩
theorem MsA.keep (h : MsA w m s) (b : Below w.heap.size w w') : MsA w' m s := by
  have k := But.ofBelow b (fun _ => False)
  exact ⟨h.blk.keep b, h.line.but k (fun _ _ _ h => h) (fun _ _ _ _ _ h => h), h.wl, h.out.but k (fun _ _ _ => ⟨fun h => h, fun _ _ _ h => h⟩), map_but h.mp k (fun h => h), h.rests⟩
theorem MsA.but {S : Nat → Prop} (h : MsA w m s) (b : But S w w') (hs : ∀ i, S i → ¬ m.S i) (hv : ∀ {A : Option Addr} {n c : Nat} {xs : List Value}, w.ownsRow 0 3 1 (.slice A n c) n xs → Off S A) : MsA w' m s :=
  ⟨h.blk.but b (fun e => hs _ e (Or.inl rfl)), h.line.but b (fun _ _ e h' => hs _ h' (Or.inr (Or.inr (Or.inl ⟨_, e⟩)))) (fun x hx => hv (h.line.own x hx)), h.wl,
   h.out.but b (fun b' y e => ⟨fun h' => hs _ h' (Or.inr (Or.inr (Or.inr ⟨y, e⟩))), by obtain ⟨t, _, ho⟩ := h.out.lay e; exact hv ho⟩), map_but h.mp b (fun e => hs _ e (Or.inr (Or.inl rfl))), h.rests⟩
/-- Its struct alone was written. -/
theorem MsA.turnG (h : MsA w m s) (b : But (fun i => i = m.g) w w') (s' : MSt) (hblk : Blk w' m.g 73 (mcs m s')) (h1 : s'.line = s.line) (h2 : s'.out = s.out) (h3 : s'.last = s.last) (h4 : RestR s' m.D) : MsA w' m s' := by
  refine ⟨hblk, h.line.but b (fun _ _ e h' => (h.ne2 _ _ e).1 h') (fun x hx b' o e h' => h.off (h.line.own x hx) b' o e (Or.inl h')), h.wl.trans h1.symm, ?_, map_but h.mp b (fun e => h.ne1 e.symm), h4⟩
  rw [h2, h3]
  refine h.out.but b (fun b' y e => ⟨(h.ne3 b' y e).1, ?_⟩)
  obtain ⟨t, _, ho⟩ := h.out.lay e
  exact fun b'' o'' e'' h'' => h.off ho b'' o'' e'' (Or.inl h'')
end
theorem RestR.tick {s : MSt} {D : DataW Unit} (h : RestR s D) (now : Int) (hn : s.now ≤ now) : RestR { s with now := now } D := by
  intro u h0 h1
  obtain ⟨a, b⟩ := h u h0 h1
  refine ⟨fun hh => ?_, fun hh => ?_⟩
  · obtain ⟨x, p, q, r, t⟩ := a hh
    exact ⟨x, p, q, r, by show x ≤ now; omega⟩
  · have := b hh
    show s.till u ≤ now
    omega

theorem Blk.eight {w : World} {g : Nat} {t : TypeId} {v0 v1 v2 v3 v4 v5 v6 v7 : Value} (h : Blk w g t [v0, v1, v2, v3, v4, v5, v6, v7]) :
    w.cell? ⟨g, 0, none⟩ = some v0 ∧ w.cell? ⟨g, 1, none⟩ = some v1 ∧ w.cell? ⟨g, 2, none⟩ = some v2 ∧ w.cell? ⟨g, 3, none⟩ = some v3 ∧ w.cell? ⟨g, 4, none⟩ = some v4 ∧ w.cell? ⟨g, 5, none⟩ = some v5 ∧ w.cell? ⟨g, 6, none⟩ = some v6 ∧ w.cell? ⟨g, 7, none⟩ = some v7 :=
  ⟨h.cell 0, h.cell 1, h.cell 2, h.cell 3, h.cell 4, h.cell 5, h.cell 6, h.cell 7⟩

end Go.Proofs.Ytnialjikpoembaa
