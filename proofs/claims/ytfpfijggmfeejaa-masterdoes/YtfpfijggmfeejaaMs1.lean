/-
  What is proved here: requests that are sent, in memory (rows of structs of nine cells), and what slices.Clone and master's copied return. Condition: lengths up to a million. ALSO: a master in memory (its struct, the row of what waits, what is out, the map of rests) and what holds of it while other memory turns; what came of requests, in memory. No condition of its own. ALSO: what master's New, Count, reach, silence, send and end return, and what becomes of the master. Condition: numbers as they come of the master's own (see each). ALSO: what master's send (of the request that is out) returns, and what becomes of it. Condition: it was sent at most a million times. ALSO: what master's end and giveUp return, and what becomes of the master. Condition: the map has at most a million entries.
-/
import Derived.Test.YtfpfijggmfeejaaMem5
import Derived.Test.YtfpfijggmfeejaaMsMath
import Derived.Test.YtfpfijggmfeejaaStructs
import Derived.Test.YtfpfijggmfeejaaInfo
import Derived.LoopTactic
import Derived.WalkMore
import Derived.Maps.OwnSet
import Derived.Test.YtfpfijggmfeejaaBox2
import Derived.StillTailTactics
namespace Go.Proofs.Ytfpfijggmfeejaa
set_option linter.unusedVariables false
set_option linter.unusedSimpArgs false
open Go.RowKit

/-- What is sent, in memory. -/
structure SM where
  tk : Nat
  u : Int
  r : Rq
  V : Option Addr
  k : Nat
def SM.wt (s : SM) : Wt := ⟨s.tk, s.u, s.r⟩
/-- A request's cells. -/
def rqv (r : Rq) (V : Option Addr) (k : Nat) : List Value := [.int .i64 r.f, .int .i64 r.a, .int .i64 r.c, .slice V r.vs.length k, .int .i64 r.t, .int .i64 r.an, .int .i64 r.o]
def SM.vs (s : SM) : List Value := [.int .i64 (s.tk : Nat), .int .i64 s.u, .int .i64 s.r.f, .int .i64 s.r.a, .int .i64 s.r.c, .slice s.V s.r.vs.length s.k, .int .i64 s.r.t, .int .i64 s.r.an, .int .i64 s.r.o]
def SM.is (w : World) (s : SM) : Prop := Rd w s.V s.r.vs.length (iv s.r.vs)
def svs (rs : List SM) : List Value := rs.flatMap SM.vs
theorem svs_length (rs : List SM) : (svs rs).length = rs.length * 9 := by
  induction rs with
  | nil => rfl
  | cons r rs ih =>
    show (r.vs ++ svs rs).length = _
    rw [List.length_append, ih, List.length_cons]
    show 9 + rs.length * 9 = _
    omega
theorem svs_append (rs ss : List SM) : svs (rs ++ ss) = svs rs ++ svs ss := List.flatMap_append
theorem svs_one (rs : List SM) : ∀ u ∈ svs rs, u.oneCell' = true := by
  intro u hu
  simp only [svs, List.mem_flatMap, SM.vs] at hu
  obtain ⟨r, _, hu⟩ := hu
  simp at hu
  rcases hu with rfl | rfl | rfl | rfl | rfl | rfl | rfl | rfl | rfl <;> rfl
theorem svs_get : ∀ (rs : List SM) (i : Nat) (r : SM) (j : Nat), rs[i]? = some r → j < 9 → (svs rs)[i * 9 + j]? = r.vs[j]?
  | [], _, _, _, h, _ => by simp at h
  | x :: rs, 0, r, j, h, hj => by
    simp at h
    subst h
    show (x.vs ++ svs rs)[0 * 9 + j]? = _
    rw [List.getElem?_append_left (by show 0 * 9 + j < 9; omega)]
    congr 1
    omega
  | x :: rs, i + 1, r, j, h, hj => by
    show (x.vs ++ svs rs)[(i + 1) * 9 + j]? = _
    rw [List.getElem?_append_right (by show 9 ≤ (i + 1) * 9 + j; omega)]
    have e : (i + 1) * 9 + j - x.vs.length = i * 9 + j := by show (i + 1) * 9 + j - 9 = _; omega
    rw [e]
    exact svs_get rs i r j (by simpa using h) hj
theorem svs_take (rs : List SM) (i : Nat) : (svs rs).take (i * 9) = svs (rs.take i) := by
  induction rs generalizing i with
  | nil => simp [svs]
  | cons x rs ih =>
    cases i with
    | zero => simp [svs]
    | succ i =>
      show (x.vs ++ svs rs).take ((i + 1) * 9) = _
      rw [List.take_append, List.take_of_length_le (by show 9 ≤ (i + 1) * 9; omega)]
      show x.vs ++ (svs rs).take ((i + 1) * 9 - 9) = _
      rw [show (i + 1) * 9 - 9 = i * 9 by omega, ih]
      rfl
theorem svs_drop (rs : List SM) (i : Nat) : (svs rs).drop (i * 9) = svs (rs.drop i) := by
  induction rs generalizing i with
  | nil => simp [svs]
  | cons x rs ih =>
    cases i with
    | zero => simp [svs]
    | succ i =>
      show (x.vs ++ svs rs).drop ((i + 1) * 9) = _
      rw [List.drop_append, List.drop_of_length_le (by show 9 ≤ (i + 1) * 9; omega)]
      show [] ++ (svs rs).drop ((i + 1) * 9 - 9) = _
      rw [show (i + 1) * 9 - 9 = i * 9 by omega, ih]
      rfl

/-- Sendings lie in memory. -/
def SRd (w : World) (O : Option Addr) (n : Nat) (rs : List SM) : Prop := Rd w O (n * 9) (svs rs) ∧ ∀ r ∈ rs, r.is w
section
variable {w w' : World} {O : Option Addr} {n : Nat} {rs : List SM}
theorem SRd.nil (w : World) (O : Option Addr) : SRd w O 0 [] := ⟨Rd.nil _ _, by simp⟩
theorem SRd.len (h : SRd w O n rs) : rs.length = n := by
  have := h.1.1
  rw [svs_length] at this
  omega
theorem SRd.keep (h : SRd w O n rs) (b : Below w.heap.size w w') : SRd w' O n rs := ⟨h.1.keep b, fun r hr => Rd.keep (h.2 r hr) b⟩
theorem SRd.but {S : Nat → Prop} (h : SRd w O n rs) (b : But S w w') (ho : Off S O) (hs : ∀ r ∈ rs, Off S r.V) : SRd w' O n rs := ⟨h.1.but b ho, fun r hr => Rd.but (h.2 r hr) b (hs r hr)⟩
/-- The i-th, cell by cell. -/
theorem SRd.at_ (h : SRd w O n rs) {i : Nat} (hi : i < n) : ∃ b o r, O = some ⟨b, o, none⟩ ∧ b < w.heap.size ∧ rs[i]? = some r ∧ (∀ j v, r.vs[j]? = some v → w.cell? ⟨b, o + (i * 9 + j), none⟩ = some v) ∧ r.is w := by
  have hl := h.len
  obtain ⟨b, o, e, hb, hc⟩ := h.1.2 (by omega)
  have hr : rs[i]? = some rs[i] := List.getElem?_eq_getElem (by omega)
  refine ⟨b, o, rs[i], e, hb, hr, fun j v hv => ?_, h.2 _ (List.getElem_mem _)⟩
  have hj : j < 9 := by have := (List.getElem?_eq_some_iff.1 hv).1; exact this
  exact hc _ _ ((svs_get rs i _ j hr hj).trans hv)
end

/-- s == nil. -/
theorem nil_ints (w : World) (a : Option Addr) (n c n' c' : Nat) : (binOp .eql 35 (.slice a n c) (.slice none n' c')).run Try.prog w = .ok (.bool a.isNone) w := Lib.run_eql_slice_nil w _ _ a n c n' c' Try.underlying35
theorem own_empty1 (w : World) (t : TypeId) : (w.alloc (.cells #[] t)).ownsRow w.heap.size t 1 (.slice (some ⟨w.heap.size, 0, none⟩) 0 0) 0 [] :=
  (Blk.new w t []).own (Nat.le_refl _) 0 rfl (Nat.zero_le _)

set_option maxRecDepth 100000 in
theorem clone_any (A : Option Addr) (n k : Nat) (vs : List Int) (w : World) (h : Rd w A n (iv vs)) (hn : n ≤ 1000000) :
    Calls Try.prog 42 #[.slice A n k] w (RetOwn 3 n (iv vs) w) := by
  rcases A with _ | ad
  · obtain ⟨rfl, hv⟩ := h.none_
    have HV := hide hv
    clear h hn hv
    have q22 := nil_ints
    go_enter Try.func42, Try.ntmps42
    go_wp2
    go_ret
    rw [HV.out]
    exact ⟨none, 0, rfl, World.ownsRow_nil _ _ _ _, Below.refl _ _⟩
  · have H := hide h
    clear h
    have q22 := nil_ints
    go_enter Try.func42, Try.ntmps42
    go_wp2_with (at_builtin; refine wpList_app rfl (.tmp 5) (.tmp 6) 35 rfl 3 _ _ Try.underlying35 int_info rfl w.heap.size (some ⟨w.heap.size, 0, none⟩) 0 0 [] rfl (own_empty1 w _) (some ad) n k (iv vs) rfl (H.out.keep ((Below.refl _ _).alloc (Nat.le_refl _) _)) (iv_one _) (by unfold maxLen; omega) (by omega) (by simp) ?_; intro C ck w3 o3 g3 b3; rw [Nat.zero_add, List.nil_append] at o3; have O3 := hide o3; have B3 := hide (((Below.refl _ _).alloc (Nat.le_refl _) _).trans b3 : Below w.heap.size w w3); clear o3 g3 b3; rw [Nat.zero_add])
    go_ret
    exact ⟨C, ck, rfl, O3.out, B3.out⟩

/-- A request is handed back whose Values are new. -/
def RetCop (r : Rq) (w : World) (e : Ending) (w' : World) : Prop := ∃ C k, e = .returned (.agg (arr (rqv r C k))) ∧ w'.ownsRow w.heap.size 3 1 (.slice C r.vs.length k) r.vs.length (iv r.vs) ∧ NewAt w C ∧ Below w.heap.size w w'
theorem copied_any (r : Rq) (A : Option Addr) (k : Nat) (w : World) (h : Rd w A r.vs.length (iv r.vs)) (hn : r.vs.length ≤ 1000000) :
    Calls Try.prog 23 #[.agg #[.int .i64 r.f, .int .i64 r.a, .int .i64 r.c, .slice A r.vs.length k, .int .i64 r.t, .int .i64 r.an, .int .i64 r.o]] w (RetCop r w) := by
  obtain ⟨f, a, c, vs, t, an, o⟩ := r
  simp only at h hn ⊢
  have HC := hide (fun W hr => clone_any A vs.length k vs W hr hn)
  have HR := hide h
  clear h
  have HL : Hid (vs.length = vs.length) := rfl
  generalize hnn : vs.length = n at *
  have HN := hide hnn
  clear hnn
  go_enter Try.func23, Try.ntmps23
  go_wp2_with fail
  generalize hV : (w.alloc _).alloc _ = V
  obtain ⟨zA, zB, bV, sV⟩ := two_boxes w [.int .i64 f, .int .i64 a, .int .i64 c, .slice A n k, .int .i64 t, .int .i64 an, .int .i64 o] [.int .i64 0, .int .i64 0, .int .i64 0, .slice none 0 0, .int .i64 0, .int .i64 0, .int .i64 0] _ _ V hV.symm
  clear hV
  refine (HC.out V (HR.out.keep bV)).mono ?_
  rintro e w1 ⟨C, ck, rfl, o1, b1⟩
  have ZA := hide (zA.keep b1)
  have ZB := hide (zB.keep b1)
  have O1 := hide o1
  have B1 := hide (below_on bV b1)
  have SV := hide sV
  clear sV
  have B2 := hide b1
  clear zA zB bV b1 o1 HR HC
  obtain ⟨a0, a1, a2, a3, a4, a5, a6⟩ := ZA.out.seven
  obtain ⟨c0, c1, c2, c3, c4, c5, c6⟩ := ZB.out.seven
  have fA := ZA.out.frozen
  have fB := ZB.out.frozen
  have lA := ZA.out.lt
  have lB := ZB.out.lt
  go_wp2_with fail
  (try simp only [Exit.inBlock, Exit.then])
  refine bodyPost_ret (results_cell rfl rfl ((ZB.out.oth (by omega) _ _).set7 _ _ _ _ _ _ _) Try.underlying37 rfl (by kernel_rfl)) rfl ?_
  have hbel : ∀ W, Below w.heap.size w W → Below w.heap.size w ((((((((W.setCell ⟨w.heap.size, 3, none⟩ (.slice C n ck)).setCell ⟨w.heap.size + 1, 0, none⟩ (.int .i64 f)).setCell ⟨w.heap.size + 1, 1, none⟩ (.int .i64 a)).setCell ⟨w.heap.size + 1, 2, none⟩ (.int .i64 c)).setCell ⟨w.heap.size + 1, 3, none⟩ (.slice C n ck)).setCell ⟨w.heap.size + 1, 4, none⟩ (.int .i64 t)).setCell ⟨w.heap.size + 1, 5, none⟩ (.int .i64 an)).setCell ⟨w.heap.size + 1, 6, none⟩ (.int .i64 o)) :=
    fun W h => below_set7 (h.setCell (Nat.le_refl _) _) (Nat.le_succ _) _ _ _ _ _ _ _
  have hbut : But (fun i => i = w.heap.size ∨ i = w.heap.size + 1) w1 ((((((((w1.setCell ⟨w.heap.size, 3, none⟩ (.slice C n ck)).setCell ⟨w.heap.size + 1, 0, none⟩ (.int .i64 f)).setCell ⟨w.heap.size + 1, 1, none⟩ (.int .i64 a)).setCell ⟨w.heap.size + 1, 2, none⟩ (.int .i64 c)).setCell ⟨w.heap.size + 1, 3, none⟩ (.slice C n ck)).setCell ⟨w.heap.size + 1, 4, none⟩ (.int .i64 t)).setCell ⟨w.heap.size + 1, 5, none⟩ (.int .i64 an)).setCell ⟨w.heap.size + 1, 6, none⟩ (.int .i64 o)) :=
    (((((((((But.refl _ _).setCell' _ (Or.inl rfl)).setCell' _ (Or.inr rfl)).setCell' _ (Or.inr rfl)).setCell' _ (Or.inr rfl)).setCell' _ (Or.inr rfl)).setCell' _ (Or.inr rfl)).setCell' _ (Or.inr rfl)).setCell' _ (Or.inr rfl))
  have hnew := own_newAt O1.out
  have hs := SV.out
  have hN := HN.out
  have ho := own_but O1.out hbut (fun b o e hb => by have := hnew b o e; omega)
  refine ⟨C, ck, ?_, ?_, hnew.old (by omega), hbel _ B1.out⟩
  · subst hN
    rfl
  · subst hN
    exact own_baseN ho (fun b o e => by have := hnew b o e; omega)
end Go.Proofs.Ytfpfijggmfeejaa

namespace Go.Proofs.Ytfpfijggmfeejaa
set_option linter.unusedVariables false
set_option linter.unusedSimpArgs false
open Go.RowKit Go.Maps

/-! ### Blocks are told apart by their types -/
theorem Blk.ne {w : World} {g g' : Nat} {t t' : TypeId} {cs cs' : List Value} (h : Blk w g t cs) (h' : Blk w g' t' cs') (hne : t ≠ t') : g ≠ g' := by
  rintro rfl
  unfold Blk at h h'
  rw [h] at h'
  injection h' with h'
  injection h' with _ h' _
  exact hne h'
theorem own_cells {w : World} {base s : Nat} {e : TypeId} {A : Option Addr} {n c : Nat} {xs : List Value} (h : w.ownsRow base e s (.slice A n c) n xs) {b o : Nat} (eA : A = some ⟨b, o, none⟩) : ∃ cur, w.heap[b]? = some (.cells cur e (0, 0)) := by
  rcases h.2 with ⟨hv, _⟩ | ⟨g, cap, cur, hv, hg, hh, _⟩
  · injection hv with hA _ _
    rw [eA] at hA
    cases hA
  · injection hv with hA _ _
    rw [eA] at hA
    injection hA with hA
    injection hA with h1 _ _
    subst h1
    exact ⟨cur, hh⟩
theorem own_ne {w : World} {base s : Nat} {e t : TypeId} {A : Option Addr} {n c : Nat} {xs cs : List Value} (h : w.ownsRow base e s (.slice A n c) n xs) {g : Nat} (hB : Blk w g t cs) (hne : e ≠ t) {b o : Nat} (eA : A = some ⟨b, o, none⟩) : b ≠ g := by
  rintro rfl
  obtain ⟨cur, hc⟩ := own_cells h eA
  unfold Blk at hB
  rw [hc] at hB
  injection hB with hB
  injection hB with _ hB _
  exact hne hB
theorem own_own {w : World} {base base' s s' : Nat} {e t : TypeId} {A B : Option Addr} {n c m d : Nat} {xs ys : List Value} (h : w.ownsRow base e s (.slice A n c) n xs) (h' : w.ownsRow base' t s' (.slice B m d) m ys) (hne : e ≠ t) {b o b' o' : Nat} (eA : A = some ⟨b, o, none⟩) (eB : B = some ⟨b', o', none⟩) : b ≠ b' := by
  rintro rfl
  obtain ⟨cur, hc⟩ := own_cells h eA
  obtain ⟨cur', hc'⟩ := own_cells h' eB
  rw [hc] at hc'
  injection hc' with hc'
  injection hc' with _ hc' _
  exact hne hc'
section
variable {H : Type} {R : Value → Option (DataW H × List MemPlace)} {w w' : World} {kt : TypeId} {gm n : Nat} {D : DataW H}
theorem map_ne (h : w.ownsMap Try.prog kt R gm n D) {g : Nat} {t : TypeId} {cs : List Value} (hB : Blk w g t cs) : g ≠ gm := by
  rintro rfl
  obtain ⟨es, cl, hm, _⟩ := h
  unfold Blk at hB
  rw [hm] at hB
  injection hB with hB
  cases hB
theorem map_own (h : w.ownsMap Try.prog kt R gm n D) {base s : Nat} {e : TypeId} {A : Option Addr} {m c : Nat} {xs : List Value} (ho : w.ownsRow base e s (.slice A m c) m xs) {b o : Nat} (eA : A = some ⟨b, o, none⟩) : b ≠ gm := by
  rintro rfl
  obtain ⟨es, cl, hm, _⟩ := h
  obtain ⟨cur, hc⟩ := own_cells ho eA
  rw [hm] at hc
  injection hc with hc
  cases hc
theorem map_but {S : Nat → Prop} (h : w.ownsMap Try.prog kt R gm n D) (k : But S w w') (hs : ¬ S gm) : w'.ownsMap Try.prog kt R gm n D := by
  have hlt := h.lt
  obtain ⟨es, cl, hm, r⟩ := h
  exact ⟨es, cl, (k.block gm hlt hs).trans hm, r⟩
end

/-- The Values of a request lie in a row of their own. -/
def SM.own (w : World) (s : SM) : Prop := w.ownsRow 0 3 1 (.slice s.V s.r.vs.length s.k) s.r.vs.length (iv s.r.vs)
theorem SM.own.is {w : World} {s : SM} (h : s.own w) : s.is w := own_rd h
theorem SM.own.but {S : Nat → Prop} {w w' : World} {s : SM} (h : s.own w) (k : But S w w') (hs : Off S s.V) : s.own w' := own_but h k hs
theorem SM.own.keep {w w' : World} {s : SM} (h : s.own w) (k : Below w.heap.size w w') : s.own w' := own_keep h k

/-- What came of a request, in memory. -/
structure DM where
  tk : Nat
  an : An
  late : Bool
  V : Option Addr
  k : Nat
def DM.dn (d : DM) : Dn := ⟨d.tk, d.an, d.late⟩
def DM.vs (d : DM) : List Value := [.int .i64 (d.tk : Nat), .slice d.V d.an.us.length d.k, .int .i64 d.an.code, .bool d.late]
def DM.is (w : World) (d : DM) : Prop := Rd w d.V d.an.us.length (iv d.an.us)
/-- At most one of them. -/
def DRd (w : World) (O : Option Addr) (n : Nat) (ds : List DM) : Prop := (ds = [] ∧ n = 0) ∨ ∃ d b, ds = [d] ∧ n = 1 ∧ O = some ⟨b, 0, none⟩ ∧ Blk w b 63 d.vs ∧ d.is w
/-- At most one sending. -/
def SRd1 (w : World) (O : Option Addr) (n : Nat) (rs : List SM) : Prop := (rs = [] ∧ n = 0) ∨ ∃ r b, rs = [r] ∧ n = 1 ∧ O = some ⟨b, 0, none⟩ ∧ Blk w b 51 r.vs ∧ r.own w

/-- Where a master lies. -/
structure ML where
  g : Nat
  gm : Nat
  n : Nat
  D : DataW Unit
  A : Option Addr
  k : Nat
  ws : List SM
  o : Option (Nat × SM)
/-- The blocks that it writes. -/
def ML.S (m : ML) : Nat → Prop := fun i => i = m.g ∨ i = m.gm ∨ (∃ o, m.A = some ⟨i, o, none⟩) ∨ ∃ y, m.o = some (i, y)
def optP : Option (Nat × SM) → Option Addr
  | none => none
  | some p => some ⟨p.1, 0, none⟩
def mcs (m : ML) (s : MSt) : List Value := [.int .i64 s.wait, .int .i64 s.again, .int .i64 s.rest, .int .i64 s.now, .int .i64 (s.next : Nat), .slice m.A m.ws.length m.k, .pointer (optP m.o), .map (some m.gm)]
/-- What waits. -/
structure LineA (w : World) (A : Option Addr) (k : Nat) (ws : List SM) : Prop where
  row : w.ownsRow 0 51 9 (.slice A ws.length k) ws.length (svs ws)
  own : ∀ x ∈ ws, x.own w
/-- What is out. -/
def OutA (w : World) (o : Option (Nat × SM)) (out : Option (Wt × Int)) (last : Int) : Prop :=
  match out, o with
  | none, none => True
  | some (x, t), some (b, y) => y.wt = x ∧ Blk w b 76 (y.vs ++ [.int .i64 t, .int .i64 last]) ∧ y.own w
  | _, _ => False
/-- The rests. -/
def RestR (s : MSt) (D : DataW Unit) : Prop := ∀ u : Int, 0 ≤ u → u ≤ 247 →
  (has D (.int .i64 u) = true → ∃ since : Int, (∀ zd, D.atKey (.int .i64 u) zd = .lit (.int .i64 since)) ∧ s.till u = since + s.rest ∧ 0 ≤ since ∧ since ≤ s.now) ∧ (has D (.int .i64 u) = false → s.till u ≤ s.now)
structure MsA (w : World) (m : ML) (s : MSt) : Prop where
  blk : Blk w m.g 68 (mcs m s)
  line : LineA w m.A m.k m.ws
  wl : m.ws.map SM.wt = s.line
  out : OutA w m.o s.out s.last
  mp : w.ownsMap Try.prog 3 (plainElem Try.prog 3) m.gm m.n m.D
  rests : RestR s m.D

section
variable {w w' : World}
theorem LineA.but {S : Nat → Prop} {A : Option Addr} {k : Nat} {ws : List SM} (h : LineA w A k ws) (b : But S w w') (hA : Off S A) (hV : ∀ x ∈ ws, Off S x.V) : LineA w' A k ws :=
  ⟨ownS_but h.row b hA, fun x hx => (h.own x hx).but b (hV x hx)⟩
theorem OutA.but {S : Nat → Prop} {o : Option (Nat × SM)} {out : Option (Wt × Int)} {last : Int} (h : OutA w o out last) (b : But S w w') (ho : ∀ b y, o = some (b, y) → ¬ S b ∧ Off S y.V) : OutA w' o out last := by
  match out, o, h with
  | none, none, _ => trivial
  | some (x, t), some (g, y), h =>
    obtain ⟨h1, h2, h3⟩ := h
    obtain ⟨k1, k2⟩ := ho g y rfl
    exact ⟨h1, h2.but b k1, h3.but b k2⟩
theorem OutA.some_ {o : Option (Nat × SM)} {x : Wt} {t last : Int} (h : OutA w o (some (x, t)) last) : ∃ b y, o = some (b, y) ∧ y.wt = x ∧ Blk w b 76 (y.vs ++ [.int .i64 t, .int .i64 last]) ∧ y.own w := by
  match o, h with
  | some (g, y), h => exact ⟨g, y, rfl, h⟩
theorem OutA.none_ {o : Option (Nat × SM)} {last : Int} (h : OutA w o none last) : o = none := by
  match o, h with
  | none, _ => rfl
theorem OutA.lay {o : Option (Nat × SM)} {out : Option (Wt × Int)} {last : Int} (h : OutA w o out last) {b : Nat} {y : SM} (e : o = some (b, y)) : ∃ t, Blk w b 76 (y.vs ++ [.int .i64 t, .int .i64 last]) ∧ y.own w := by
  subst e
  match out, h with
  | some (x, t), h => exact ⟨t, h.2⟩
variable {m : ML} {s : MSt}
theorem MsA.lt (h : MsA w m s) : ∀ i, m.S i → i < w.heap.size := by
  rintro i (rfl | rfl | ⟨o, e⟩ | ⟨y, e⟩)
  · exact h.blk.lt
  · exact h.mp.lt
  · exact ownS_lt h.line.row i o e
  · obtain ⟨t, hb, _⟩ := h.out.lay e
    exact hb.lt
/-- No Values lie in a block that it writes. -/
theorem MsA.off (h : MsA w m s) {A : Option Addr} {n c : Nat} {xs : List Value} (ho : w.ownsRow 0 3 1 (.slice A n c) n xs) : Off m.S A := by
  rintro b o e (rfl | rfl | ⟨o', e'⟩ | ⟨y, e'⟩)
  · exact own_ne ho h.blk (by decide) e rfl
  · exact map_own h.mp ho e rfl
  · exact own_own ho h.line.row (by decide) e e' rfl
  · obtain ⟨t, hb, _⟩ := h.out.lay e'
    exact own_ne ho hb (by decide) e rfl
theorem MsA.ne1 (h : MsA w m s) : m.g ≠ m.gm := map_ne h.mp h.blk
theorem MsA.ne2 (h : MsA w m s) : ∀ b o, m.A = some ⟨b, o, none⟩ → b ≠ m.g ∧ b ≠ m.gm := fun b o e => ⟨own_ne h.line.row h.blk (by decide) e, map_own h.mp h.line.row e⟩
theorem MsA.ne3 (h : MsA w m s) : ∀ b y, m.o = some (b, y) → b ≠ m.g ∧ b ≠ m.gm ∧ ∀ b' o, m.A = some ⟨b', o, none⟩ → b' ≠ b := fun b y e => by
  obtain ⟨t, hb, _⟩ := h.out.lay e
  exact ⟨hb.ne h.blk (by decide), map_ne h.mp hb, fun b' o e' => own_ne h.line.row hb (by decide) e'⟩
theorem MsA.keep (h : MsA w m s) (b : Below w.heap.size w w') : MsA w' m s := by
  have k := But.ofBelow b (fun _ => False)
  exact ⟨h.blk.keep b, h.line.but k (fun _ _ _ h => h) (fun _ _ _ _ _ h => h), h.wl, h.out.but k (fun _ _ _ => ⟨fun h => h, fun _ _ _ h => h⟩), map_but h.mp k (fun h => h), h.rests⟩
theorem MsA.but {S : Nat → Prop} (h : MsA w m s) (b : But S w w') (hs : ∀ i, S i → ¬ m.S i) (hv : ∀ {A : Option Addr} {n c : Nat} {xs : List Value}, w.ownsRow 0 3 1 (.slice A n c) n xs → Off S A) : MsA w' m s :=
  ⟨h.blk.but b (fun e => hs _ e (Or.inl rfl)), h.line.but b (fun _ _ e h' => hs _ h' (Or.inr (Or.inr (Or.inl ⟨_, e⟩)))) (fun x hx => hv (h.line.own x hx)), h.wl,
   h.out.but b (fun b' y e => ⟨fun h' => hs _ h' (Or.inr (Or.inr (Or.inr ⟨y, e⟩))), by obtain ⟨t, _, ho⟩ := h.out.lay e; exact hv ho⟩), map_but h.mp b (fun e => hs _ e (Or.inr (Or.inl rfl))), h.rests⟩
/-- Its struct alone was written. -/
theorem MsA.turnG (h : MsA w m s) (b : But (fun i => i = m.g) w w') (s' : MSt) (hblk : Blk w' m.g 68 (mcs m s')) (h1 : s'.line = s.line) (h2 : s'.out = s.out) (h3 : s'.last = s.last) (h4 : RestR s' m.D) : MsA w' m s' := by
  refine ⟨hblk, h.line.but b (fun _ _ e h' => (h.ne2 _ _ e).1 h') (fun x hx b' o e h' => h.off (h.line.own x hx) b' o e (Or.inl h')), h.wl.trans h1.symm, ?_, map_but h.mp b (fun e => h.ne1 e.symm), h4⟩
  rw [h2, h3]
  refine h.out.but b (fun b' y e => ⟨(h.ne3 b' y e).1, ?_⟩)
  obtain ⟨t, _, ho⟩ := h.out.lay e
  exact fun b'' o'' e'' h'' => h.off ho b'' o'' e'' (Or.inl h'')
end
theorem RestR.tick {s : MSt} {D : DataW Unit} (h : RestR s D) (now : Int) (hn : s.now ≤ now) : RestR { s with now := now } D := by
  intro u h0 h1
  obtain ⟨a, b⟩ := h u h0 h1
  refine ⟨fun hh => ?_, fun hh => ?_⟩
  · obtain ⟨x, p, q, r, t⟩ := a hh
    exact ⟨x, p, q, r, by show x ≤ now; omega⟩
  · have := b hh
    show s.till u ≤ now
    omega

theorem Blk.eight {w : World} {g : Nat} {t : TypeId} {v0 v1 v2 v3 v4 v5 v6 v7 : Value} (h : Blk w g t [v0, v1, v2, v3, v4, v5, v6, v7]) :
    w.cell? ⟨g, 0, none⟩ = some v0 ∧ w.cell? ⟨g, 1, none⟩ = some v1 ∧ w.cell? ⟨g, 2, none⟩ = some v2 ∧ w.cell? ⟨g, 3, none⟩ = some v3 ∧ w.cell? ⟨g, 4, none⟩ = some v4 ∧ w.cell? ⟨g, 5, none⟩ = some v5 ∧ w.cell? ⟨g, 6, none⟩ = some v6 ∧ w.cell? ⟨g, 7, none⟩ = some v7 :=
  ⟨h.cell 0, h.cell 1, h.cell 2, h.cell 3, h.cell 4, h.cell 5, h.cell 6, h.cell 7⟩

end Go.Proofs.Ytfpfijggmfeejaa

namespace Go.Proofs.Ytfpfijggmfeejaa
set_option linter.unusedVariables false
set_option linter.unusedSimpArgs false
open Go.RowKit Go.Maps

theorem msNew_no (wa ag re : Int) (h : mMay wa ag re = false) (w : World) : Calls Try.prog 6 #[.int .i64 wa, .int .i64 ag, .int .i64 re] w fun e w' => e = .returned (.tuple #[.pointer none, .int .i64 1]) ∧ w = w' := by
  simp only [mMay] at h
  by_cases h1 : 1 ≤ wa
  · have q1 : decide (wa < 1) = false := decide_eq_false (by omega)
    by_cases h2 : 0 ≤ ag
    · have q2 : decide (ag < 0) = false := decide_eq_false (by omega)
      by_cases h3 : ag ≤ 16
      · have q3 : decide (16 < ag) = false := decide_eq_false (by omega)
        have q4 : decide (re < 0) = true := by
          simp [h1, h2, h3] at h
          exact decide_eq_true h
        clear h h1 h2 h3
        go_enter Try.func6, Try.ntmps6
        go_wp2
        go_ret2
        exact ⟨rfl, rfl⟩
      · have q3 : decide (16 < ag) = true := decide_eq_true (by omega)
        clear h h1 h2 h3
        go_enter Try.func6, Try.ntmps6
        go_wp2
        go_ret2
        exact ⟨rfl, rfl⟩
    · have q2 : decide (ag < 0) = true := decide_eq_true (by omega)
      clear h h1 h2
      go_enter Try.func6, Try.ntmps6
      go_wp2
      go_ret2
      exact ⟨rfl, rfl⟩
  · have q1 : decide (wa < 1) = true := decide_eq_true (by omega)
    clear h h1
    go_enter Try.func6, Try.ntmps6
    go_wp2
    go_ret2
    exact ⟨rfl, rfl⟩

/-- A master that is new since w. -/
def RetMNew (wa ag re : Int) (w : World) (e : Ending) (w' : World) : Prop := ∃ m : ML, e = .returned (.tuple #[.pointer (some ⟨m.g, 0, none⟩), .int .i64 0]) ∧ MsA w' m (mNew wa ag re) ∧ m.n = 0 ∧ (∀ i, m.S i → w.heap.size ≤ i) ∧ Below w.heap.size w w'
theorem msNew_ok (wa ag re : Int) (h : mMay wa ag re = true) (w : World) : Calls Try.prog 6 #[.int .i64 wa, .int .i64 ag, .int .i64 re] w (RetMNew wa ag re w) := by
  simp only [mMay, Bool.and_eq_true, decide_eq_true_eq] at h
  obtain ⟨⟨⟨h1, h2⟩, h3⟩, h4⟩ := h
  have q1 : decide (wa < 1) = false := decide_eq_false (by omega)
  have q2 : decide (ag < 0) = false := decide_eq_false (by omega)
  have q3 : decide (16 < ag) = false := decide_eq_false (by omega)
  have q4 : decide (re < 0) = false := decide_eq_false (by omega)
  clear h1 h2 h3 h4
  have hmm := @run_makeMap Try.prog
  go_enter Try.func6, Try.ntmps6
  go_wp2
  go_ret2
  have hm := World.ownsMap_made w Try.prog 3 (plainElem (H := Unit) Try.prog 3)
  have hb : Below (w.alloc (.map #[] 0)).heap.size (w.alloc (.map #[] 0)) ((w.alloc (.map #[] 0)).alloc (.cells #[.int .i64 wa, .int .i64 ag, .int .i64 re, .int .i64 0, .int .i64 0, .slice none 0 0, .pointer none, .map (some w.heap.size)] 68)) := (Below.refl _ _).alloc (Nat.le_refl _) _
  have hB := Blk.new (w.alloc (.map #[] 0)) 68 [.int .i64 wa, .int .i64 ag, .int .i64 re, .int .i64 0, .int .i64 0, .slice none 0 0, .pointer none, .map (some w.heap.size)]
  have e1 : (w.alloc (.map #[] 0)).heap.size = w.heap.size + 1 := by simp
  rw [e1] at hB
  refine ⟨⟨w.heap.size + 1, w.heap.size, 0, .map [], none, 0, [], none⟩, rfl, ⟨hB, ⟨World.ownsRow_nil _ _ _ _, by simp⟩, rfl, trivial, map_but hm (But.ofBelow hb (fun _ => False)) (fun h => h), ?_⟩, rfl, ?_, below_on ((Below.refl _ _).alloc (Nat.le_refl _) _) hb⟩
  · intro u _ _
    exact ⟨fun h => by simp [has] at h, fun _ => Int.le_refl _⟩
  · rintro i (rfl | rfl | ⟨o, e⟩ | ⟨y, e⟩)
    · exact Nat.le_succ _
    · exact Nat.le_refl _
    · cases e
    · cases e

theorem msCount (m : ML) (s : MSt) (w : World) (h : MsA w m s) (hl : s.line.length ≤ 1000000) : Calls Try.prog 18 #[.pointer (some ⟨m.g, 0, none⟩)] w fun e w' => e = .returned (.int .i64 (mCount s : Nat)) ∧ w = w' := by
  obtain ⟨c0, c1, c2, c3, c4, c5, c6, c7⟩ := h.blk.eight
  have hw : m.ws.length = s.line.length := by rw [← h.wl, List.length_map]
  have hc : mCount s = m.ws.length + outN s.out := by rw [hw]; rfl
  rw [hc]
  have ho := h.out
  clear h c0 c1 c2 c3 c4 c7
  rcases out_cases s with e | ⟨x, t, e⟩
  · rw [e] at ho ⊢
    have eo := ho.none_
    rw [eo] at c6
    simp only [optP] at c6
    simp only [Go.Proofs.Ytfpfijggmfeejaa.outN, Nat.add_zero]
    clear ho hc hw e eo
    go_enter Try.func18, Try.ntmps18
    go_wp2
    go_ret
    exact ⟨rfl, rfl⟩
  · rw [e] at ho ⊢
    obtain ⟨b, y, eo, _⟩ := ho.some_
    rw [eo] at c6
    simp only [optP] at c6
    have hle : m.ws.length ≤ 1000000 := by omega
    clear ho hc hw e eo hl
    go_enter Try.func18, Try.ntmps18
    go_wp2
    go_ret
    exact ⟨by first | rfl | (congr 2; simp only [Go.Proofs.Ytfpfijggmfeejaa.outN]; rw [IntKind.wrap_i64]; omega), rfl⟩

theorem msReach_bad (m : ML) (s : MSt) (now : Int) (w : World) (h : MsA w m s) (hn : now < s.now) : Calls Try.prog 25 #[.pointer (some ⟨m.g, 0, none⟩), .int .i64 now] w fun e w' => e = .returned (.int .i64 1) ∧ w = w' := by
  obtain ⟨c0, c1, c2, c3, c4, c5, c6, c7⟩ := h.blk.eight
  have q := decide_eq_true hn
  clear h c0 c1 c2 c4 c5 c6 c7 hn
  go_enter Try.func25, Try.ntmps25
  go_wp2
  go_ret
  exact ⟨rfl, rfl⟩
/-- Rows of bytes are read as they were. -/
def KeepB (w w' : World) : Prop := ∀ (B : Option Addr) (l : Nat) (xs : List UInt8), Rd w B l (bv xs) → Rd w' B l (bv xs)
theorem KeepB.ofBelow {w w' : World} (b : Below w.heap.size w w') : KeepB w w' := fun _ _ _ h => h.keep b
theorem KeepB.trans {w w' w'' : World} (h : KeepB w w') (k : KeepB w' w'') : KeepB w w'' := fun B l xs hr => k B l xs (h B l xs hr)
theorem Rd.u8set {w : World} {A : Option Addr} {n : Nat} {xs : List UInt8} (h : Rd w A n (bv xs)) {g i : Nat} {v0 : Value} (h0 : w.cell? ⟨g, i, none⟩ = some v0) (hn : ∀ x, v0 ≠ .int .u8 x) (v : Value) : Rd (w.setCell ⟨g, i, none⟩ v) A n (bv xs) :=
  ⟨h.1, fun h1 => by
    obtain ⟨b, o, e, hl, hc⟩ := h.2 h1
    refine ⟨b, o, e, by simpa using hl, fun j u hu => ?_⟩
    have hcj := hc j u hu
    have hne : (⟨b, o + j, none⟩ : Addr) ≠ ⟨g, i, none⟩ := by
      intro e1
      rw [e1, h0] at hcj
      injection hcj with hcj
      rw [bv, List.getElem?_map] at hu
      cases hx : xs[j]? with
      | none => rw [hx] at hu; cases hu
      | some x =>
        rw [hx] at hu
        injection hu with hu
        exact hn _ (hcj.trans hu.symm)
    rw [World.cell?_setCell_other _ _ _ _ hne.symm]
    exact hcj⟩
theorem msReach_okB (m : ML) (s : MSt) (now : Int) (w : World) (h : MsA w m s) (hn : s.now ≤ now) : Calls Try.prog 25 #[.pointer (some ⟨m.g, 0, none⟩), .int .i64 now] w fun e w' => e = .returned (.int .i64 0) ∧ MsA w' m { s with now := now } ∧ But (fun i => i = m.g) w w' ∧ KeepB w w' := by
  obtain ⟨c0, c1, c2, c3, c4, c5, c6, c7⟩ := h.blk.eight
  have q : decide (now < s.now) = false := decide_eq_false (by omega)
  have fz := h.blk.frozen
  have H := hide h
  have HN := hide hn
  clear h c0 c1 c2 c4 c5 c6 c7 hn
  go_enter Try.func25, Try.ntmps25
  go_wp2
  go_ret
  have hb : But (fun i => i = m.g) w (w.setCell ⟨m.g, 3, none⟩ (.int .i64 now)) := But.setCell w _ rfl
  exact ⟨rfl, H.out.turnG hb _ (H.out.blk.set 3 _) rfl rfl rfl (H.out.rests.tick now HN.out), hb, fun _ _ _ hr => hr.u8set (H.out.blk.cell 3) (fun _ e => by cases e) _⟩
theorem msReach_ok (m : ML) (s : MSt) (now : Int) (w : World) (h : MsA w m s) (hn : s.now ≤ now) : Calls Try.prog 25 #[.pointer (some ⟨m.g, 0, none⟩), .int .i64 now] w fun e w' => e = .returned (.int .i64 0) ∧ MsA w' m { s with now := now } ∧ But (fun i => i = m.g) w w' :=
  (msReach_okB m s now w h hn).mono fun _ _ h => ⟨h.1, h.2.1, h.2.2.1⟩

theorem Blk.eleven {w : World} {g : Nat} {t : TypeId} {v0 v1 v2 v3 v4 v5 v6 v7 v8 v9 v10 : Value} (h : Blk w g t [v0, v1, v2, v3, v4, v5, v6, v7, v8, v9, v10]) :
    w.cell? ⟨g, 0, none⟩ = some v0 ∧ w.cell? ⟨g, 1, none⟩ = some v1 ∧ w.cell? ⟨g, 2, none⟩ = some v2 ∧ w.cell? ⟨g, 3, none⟩ = some v3 ∧ w.cell? ⟨g, 4, none⟩ = some v4 ∧ w.cell? ⟨g, 5, none⟩ = some v5 ∧ w.cell? ⟨g, 6, none⟩ = some v6 ∧ w.cell? ⟨g, 7, none⟩ = some v7 ∧ w.cell? ⟨g, 8, none⟩ = some v8 ∧ w.cell? ⟨g, 9, none⟩ = some v9 ∧ w.cell? ⟨g, 10, none⟩ = some v10 :=
  ⟨h.cell 0, h.cell 1, h.cell 2, h.cell 3, h.cell 4, h.cell 5, h.cell 6, h.cell 7, h.cell 8, h.cell 9, h.cell 10⟩

theorem msSilence (b : Nat) (y : SM) (t last now : Int) (w : World) (h : Blk w b 76 (y.vs ++ [.int .i64 t, .int .i64 last])) (h0 : 0 ≤ last) (h1 : last ≤ now) (h2 : now ≤ 9223372036854775807) :
    Calls Try.prog 26 #[.pointer (some ⟨b, 0, none⟩), .int .i64 now] w fun e w' => e = .returned (.int .i64 (now - last)) ∧ w = w' := by
  have c10 : w.cell? ⟨b, 10, none⟩ = some (.int .i64 last) := h.cell 10
  clear h
  have q : IntKind.i64.wrap (now - last) = now - last := by rw [IntKind.wrap_i64]; omega
  go_enter Try.func26, Try.ntmps26
  go_wp2
  go_ret
  refine ⟨?_, rfl⟩
  first | rfl | (rw [q])

end Go.Proofs.Ytfpfijggmfeejaa

namespace Go.Proofs.Ytfpfijggmfeejaa
set_option linter.unusedVariables false
set_option linter.unusedSimpArgs false
open Go.RowKit Go.Maps

/-- It is told once more. -/
def RetSend (b : Nat) (y : SM) (t now : Int) (w : World) (e : Ending) (w' : World) : Prop :=
  ∃ O z, e = .returned (.slice (some ⟨O, 0, none⟩) 1 1) ∧ Blk w' O 51 (SM.vs z) ∧ z.own w' ∧ z.wt = y.wt ∧ Blk w' b 76 (y.vs ++ [.int .i64 (t + 1), .int .i64 now]) ∧ But (fun i => i = b) w w' ∧ w.heap.size ≤ O
theorem Blk.set9_2 {w : World} {g : Nat} {t : TypeId} {x0 x1 x2 x3 x4 x5 x6 x7 x8 : Value} (h : Blk w g t [x0, x1, x2, x3, x4, x5, x6, x7, x8]) (v2 v3 v4 v5 v6 v7 v8 : Value) : Blk (((((((w.setCell ⟨g, 2, none⟩ v2).setCell ⟨g, 3, none⟩ v3).setCell ⟨g, 4, none⟩ v4).setCell ⟨g, 5, none⟩ v5).setCell ⟨g, 6, none⟩ v6).setCell ⟨g, 7, none⟩ v7).setCell ⟨g, 8, none⟩ v8) g t [x0, x1, v2, v3, v4, v5, v6, v7, v8] :=
  ((((((h.set 2 v2).set 3 v3).set 4 v4).set 5 v5).set 6 v6).set 7 v7).set 8 v8
theorem Blk.nine {w : World} {g : Nat} {t : TypeId} {v0 v1 v2 v3 v4 v5 v6 v7 v8 : Value} (h : Blk w g t [v0, v1, v2, v3, v4, v5, v6, v7, v8]) :
    w.cell? ⟨g, 0, none⟩ = some v0 ∧ w.cell? ⟨g, 1, none⟩ = some v1 ∧ w.cell? ⟨g, 2, none⟩ = some v2 ∧ w.cell? ⟨g, 3, none⟩ = some v3 ∧ w.cell? ⟨g, 4, none⟩ = some v4 ∧ w.cell? ⟨g, 5, none⟩ = some v5 ∧ w.cell? ⟨g, 6, none⟩ = some v6 ∧ w.cell? ⟨g, 7, none⟩ = some v7 ∧ w.cell? ⟨g, 8, none⟩ = some v8 :=
  ⟨h.cell 0, h.cell 1, h.cell 2, h.cell 3, h.cell 4, h.cell 5, h.cell 6, h.cell 7, h.cell 8⟩
theorem but_set7 (w : World) (g : Nat) (v2 v3 v4 v5 v6 v7 v8 : Value) : But (fun i => i = g) w (((((((w.setCell ⟨g, 2, none⟩ v2).setCell ⟨g, 3, none⟩ v3).setCell ⟨g, 4, none⟩ v4).setCell ⟨g, 5, none⟩ v5).setCell ⟨g, 6, none⟩ v6).setCell ⟨g, 7, none⟩ v7).setCell ⟨g, 8, none⟩ v8) :=
  ((((((((But.refl (fun i => i = g) w).setCell' _ rfl).setCell' _ rfl).setCell' _ rfl).setCell' _ rfl).setCell' _ rfl).setCell' _ rfl).setCell' _ rfl)
theorem msSend (b : Nat) (y : SM) (t last now : Int) (w : World) (h : Blk w b 76 (y.vs ++ [.int .i64 t, .int .i64 last])) (ho : y.own w) (h0 : 0 ≤ t) (h1 : t ≤ 1000000) (hl : y.r.vs.length ≤ 1000000) :
    Calls Try.prog 27 #[.pointer (some ⟨b, 0, none⟩), .int .i64 now] w (RetSend b y t now w) := by
  obtain ⟨tk, u, r, V, k⟩ := y
  obtain ⟨c0, c1, c2, c3, c4, c5, c6, c7, c8, c9, c10⟩ := Blk.eleven h
  simp only at c0 c1 c2 c3 c4 c5 c6 c7 c8 hl
  have fz := h.frozen
  have hlt := h.lt
  have q : IntKind.i64.wrap (t + 1) = t + 1 := by rw [IntKind.wrap_i64]; omega
  have H := hide h
  have HO := hide ho
  clear h ho h0 h1
  go_enter Try.func27, Try.ntmps27
  go_wp2_with fail
  have hB0 : Blk ((w.setCell ⟨b, 9, none⟩ (.int .i64 (t + 1))).setCell ⟨b, 10, none⟩ (.int .i64 now)) b 76 (SM.vs ⟨tk, u, r, V, k⟩ ++ [.int .i64 (t + 1), .int .i64 now]) := (H.out.set 9 _).set 10 _
  have hU0 : But (fun i => i = b) w ((w.setCell ⟨b, 9, none⟩ (.int .i64 (t + 1))).setCell ⟨b, 10, none⟩ (.int .i64 now)) := ((But.refl (fun i => i = b) w).setCell' _ rfl).setCell' _ rfl
  have hs0 : ((w.setCell ⟨b, 9, none⟩ (.int .i64 (t + 1))).setCell ⟨b, 10, none⟩ (.int .i64 now)).heap.size = w.heap.size := by simp
  have ho0 : SM.own ((w.setCell ⟨b, 9, none⟩ (.int .i64 (t + 1))).setCell ⟨b, 10, none⟩ (.int .i64 now)) ⟨tk, u, r, V, k⟩ := HO.out.but hU0 (fun b' o' e h' => own_ne HO.out H.out (by decide) e h')
  clear c0 c1 c2 c3 c4 c5 c6 c7 c8 c9 c10 fz q
  generalize (w.setCell ⟨b, 9, none⟩ (.int .i64 (t + 1))).setCell ⟨b, 10, none⟩ (.int .i64 now) = U0 at *
  generalize hU : U0.alloc _ = U
  obtain ⟨zU, bU⟩ := box1 U0 51 (SM.vs ⟨tk, u, r, V, k⟩) U hU.symm
  rw [hs0] at zU
  have hsU : U.heap.size = w.heap.size + 1 := by rw [← hU, ← hs0]; simp
  clear hU
  have HB0 := hide (hB0.keep bU)
  have HU0 := hide (hU0.on bU)
  have HS := hide hs0
  have HSU := hide hsU
  refine (copied_any r V k U (ho0.keep bU).is hl).mono ?_
  rintro e w2 ⟨C, ck, rfl, o2, n2, b2⟩
  have ZT := hide (zU.keep b2)
  have HB2 := hide (HB0.out.keep b2)
  have HU2 := hide (HU0.out.on b2)
  have O2 := hide o2
  have N2 := hide n2
  have hs2 : w.heap.size < w2.heap.size := ZT.out.lt
  have hl2 : U.heap.size ≤ w2.heap.size := b2.size
  clear zU bU hB0 hU0 ho0 hs0 hsU o2 n2 b2 H HO HB0
  obtain ⟨c0, c1, c2, c3, c4, c5, c6, c7, c8⟩ := ZT.out.nine
  have fz := ZT.out.frozen
  have hlt2 := ZT.out.lt
  simp only [arr, rqv]
  go_wp2_with fail
  go_ret
  have hb7 := but_set7 w2 w.heap.size (.int .i64 r.f) (.int .i64 r.a) (.int .i64 r.c) (.slice C r.vs.length ck) (.int .i64 r.t) (.int .i64 r.an) (.int .i64 r.o)
  have hsz : (((((((w2.setCell ⟨w.heap.size, 2, none⟩ (.int .i64 r.f)).setCell ⟨w.heap.size, 3, none⟩ (.int .i64 r.a)).setCell ⟨w.heap.size, 4, none⟩ (.int .i64 r.c)).setCell ⟨w.heap.size, 5, none⟩ (.slice C r.vs.length ck)).setCell ⟨w.heap.size, 6, none⟩ (.int .i64 r.t)).setCell ⟨w.heap.size, 7, none⟩ (.int .i64 r.an)).setCell ⟨w.heap.size, 8, none⟩ (.int .i64 r.o)).heap.size = w2.heap.size := by simp
  clear c0 c1 c2 c3 c4 c5 c6 c7 c8 fz
  generalize ((((((w2.setCell ⟨w.heap.size, 2, none⟩ (.int .i64 r.f)).setCell ⟨w.heap.size, 3, none⟩ (.int .i64 r.a)).setCell ⟨w.heap.size, 4, none⟩ (.int .i64 r.c)).setCell ⟨w.heap.size, 5, none⟩ (.slice C r.vs.length ck)).setCell ⟨w.heap.size, 6, none⟩ (.int .i64 r.t)).setCell ⟨w.heap.size, 7, none⟩ (.int .i64 r.an)).setCell ⟨w.heap.size, 8, none⟩ (.int .i64 r.o) = X at *
  generalize hY : X.alloc _ = Y
  obtain ⟨zY, bY⟩ := box1 X 51 (SM.vs ⟨tk, u, r, C, ck⟩) Y hY.symm
  rw [hsz] at zY
  have hn2 := N2.out
  have hsu := HSU.out
  refine ⟨w2.heap.size, ⟨tk, u, r, C, ck⟩, rfl, zY, ?_, rfl, (HB2.out.but hb7 (by omega)).keep bY, ?_, by omega⟩
  · have := own_but O2.out hb7 (fun b' o' e' h' => by have := hn2 b' o' e'; omega)
    exact SM.own.keep (s := ⟨tk, u, r, C, ck⟩) (own_baseN this (fun _ _ _ => Nat.zero_le _)) bY
  · exact ((HU2.out.wide (S' := fun i => i = b) (fun _ h => h)).trans hb7 (fun i hi h => by omega)).on bY

end Go.Proofs.Ytfpfijggmfeejaa

namespace Go.Proofs.Ytfpfijggmfeejaa
set_option linter.unusedVariables false
set_option linter.unusedSimpArgs false
open Go.RowKit Go.Maps

theorem below_but {w w' : World} (b : Below w.heap.size w w') (S : Nat → Prop) : But S w w' := But.ofBelow b S
/-- What is out is out no more. -/
theorem MsA.gone {w w' : World} {m : ML} {s : MSt} (h : MsA w m s) (b : But (fun i => i = m.g) w w') (hblk : Blk w' m.g 68 (mcs { m with o := none } { s with out := none })) : MsA w' { m with o := none } { s with out := none } := by
  refine ⟨hblk, h.line.but b (fun _ _ e h' => (h.ne2 _ _ e).1 h') (fun x hx b' o e h' => h.off (h.line.own x hx) b' o e (Or.inl h')), h.wl, trivial, map_but h.mp b (fun e => h.ne1 e.symm), h.rests⟩
theorem ML.S_gone {m : ML} {i : Nat} (h : ({ m with o := none } : ML).S i) : m.S i := by
  rcases h with h | h | h | ⟨y, e⟩
  · exact Or.inl h
  · exact Or.inr (Or.inl h)
  · exact Or.inr (Or.inr (Or.inl h))
  · cases e
/-- What end answers. -/
def RetEnd (m : ML) (s : MSt) (d : DM) (w : World) (e : Ending) (w' : World) : Prop :=
  ∃ O, e = .returned (.slice (some ⟨O, 0, none⟩) 1 1) ∧ Blk w' O 63 d.vs ∧ w.heap.size ≤ O ∧ MsA w' { m with o := none } { s with out := none } ∧ But (fun i => i = m.g) w w'
theorem msEndB (m : ML) (s : MSt) (x : Wt) (t : Int) (tk : Int) (an : An) (late : Bool) (V : Option Addr) (k : Nat) (w : World) (h : MsA w m s) (ho : s.out = some (x, t)) :
    Calls Try.prog 36 #[.pointer (some ⟨m.g, 0, none⟩), .agg #[.int .i64 tk, .slice V an.us.length k, .int .i64 an.code, .bool late]] w fun e w' => RetEnd m s ⟨x.tk, an, late, V, k⟩ w e w' ∧ KeepB w w' := by
  obtain ⟨c0, c1, c2, c3, c4, c5, c6, c7⟩ := h.blk.eight
  have hO := h.out
  rw [ho] at hO
  obtain ⟨b, y, eo, ey, hB, _⟩ := hO.some_
  have htk : y.tk = x.tk := by rw [← ey]; rfl
  obtain ⟨yk, yu, yr, yV, yn⟩ := y
  simp only at htk
  subst htk
  have d0 : w.cell? ⟨b, 0, none⟩ = some (.int .i64 (x.tk : Nat)) := hB.cell 0
  rw [eo] at c6
  simp only [optP] at c6
  have fz := h.blk.frozen
  have hgl := h.blk.lt
  have hbl := hB.lt
  have H := hide h
  have EY := hide ey
  clear h hO hB eo c0 c1 c2 c3 c4 c5 c7 ey ho
  go_enter Try.func36, Try.ntmps36
  go_wp2_with fail
  go_ret
  have hX : But (fun i => i = m.g) w (w.setCell ⟨m.g, 6, none⟩ (.pointer none)) := But.setCell w _ rfl
  have hA : MsA (w.setCell ⟨m.g, 6, none⟩ (.pointer none)) { m with o := none } { s with out := none } := H.out.gone hX (H.out.blk.set 6 _)
  have hsz : (w.setCell ⟨m.g, 6, none⟩ (.pointer none)).heap.size = w.heap.size := by simp
  have hKB : KeepB w (w.setCell ⟨m.g, 6, none⟩ (.pointer none)) := fun _ _ _ hr => hr.u8set (H.out.blk.cell 6) (fun _ e => by cases e) _
  generalize w.setCell ⟨m.g, 6, none⟩ (.pointer none) = X at *
  generalize hY : (X.alloc _).alloc _ = Y
  obtain ⟨_, z2, bY, _⟩ := two_boxes X [.int .i64 (x.tk : Nat), .slice V an.us.length k, .int .i64 an.code, .bool late] [.int .i64 (x.tk : Nat), .slice V an.us.length k, .int .i64 an.code, .bool late] _ _ Y hY.symm
  rw [hsz] at z2
  exact ⟨⟨w.heap.size + 1, rfl, z2, Nat.le_succ _, hA.keep bY, hX.on bY⟩, hKB.trans (KeepB.ofBelow bY)⟩
theorem msEnd (m : ML) (s : MSt) (x : Wt) (t : Int) (tk : Int) (an : An) (late : Bool) (V : Option Addr) (k : Nat) (w : World) (h : MsA w m s) (ho : s.out = some (x, t)) :
    Calls Try.prog 36 #[.pointer (some ⟨m.g, 0, none⟩), .agg #[.int .i64 tk, .slice V an.us.length k, .int .i64 an.code, .bool late]] w (RetEnd m s ⟨x.tk, an, late, V, k⟩ w) :=
  (msEndB m s x t tk an late V k w h ho).mono fun _ _ h => h.1

theorem int_keyed7 : Keyed Try.prog 3 := int_keyed Try.underlying3
/-- A unit's rest begins. -/
theorem RestR.late {s : MSt} {D : DataW Unit} (h : RestR s D) (hm : IsMap D) (x : Wt) (now : Int) (h0 : 0 ≤ now) (hn : s.now = now) : RestR (lateS s now x) (D.put (.int .i64 x.u) (.lit (.int .i64 now))) := by
  intro u u0 u1
  by_cases hu : u = x.u
  · subst hu
    have hk : WideAt.IsKeyLit (.int .i64 x.u) := trivial
    refine ⟨fun _ => ⟨now, fun zd => atKey_put_same hm hk _ _, ?_, h0, Int.le_refl _⟩, fun hh => ?_⟩
    · show (if x.u = x.u then now + s.rest else _) = _
      rw [if_pos rfl]
      rfl
    · rw [has_put_same hm hk] at hh
      cases hh
  · have hne : (Lit.int .i64 u) ≠ (Lit.int .i64 x.u) := by
      intro e
      injection e with _ e
      exact hu e
    obtain ⟨a, b⟩ := h u u0 u1
    have ht : (lateS s now x).till u = s.till u := by
      show (if u = x.u then _ else _) = _
      rw [if_neg hu]
    rw [has_put_other hne, ht]
    refine ⟨fun hh => ?_, fun hh => ?_⟩
    · obtain ⟨c, p, q, r, t⟩ := a hh
      exact ⟨c, fun zd => (atKey_put_other hne _ _).trans (p zd), q, r, by show c ≤ now; omega⟩
    · have := b hh
      show s.till u ≤ now
      omega
/-- Its map alone was written. -/
theorem MsA.turnM {w w' : World} {m : ML} {s : MSt} (h : MsA w m s) (b : But (fun i => i = m.gm) w w') (n' : Nat) (D' : DataW Unit) (s' : MSt) (hm : w'.ownsMap Try.prog 3 (plainElem Try.prog 3) m.gm n' D') (hr : RestR s' D')
    (he : mcs m s' = mcs m s) (h1 : s'.line = s.line) (h2 : s'.out = s.out) (h3 : s'.last = s.last) : MsA w' { m with n := n', D := D' } s' := by
  refine ⟨?_, h.line.but b (fun _ _ e h' => (h.ne2 _ _ e).2 h') (fun x hx b' o e h' => h.off (h.line.own x hx) b' o e (Or.inr (Or.inl h'))), h.wl.trans h1.symm, ?_, hm, hr⟩
  · show Blk w' m.g 68 (mcs m s')
    rw [he]
    exact h.blk.but b h.ne1
  · rw [h2, h3]
    refine h.out.but b (fun b' y e => ⟨(h.ne3 b' y e).2.1, ?_⟩)
    obtain ⟨t, _, ho⟩ := h.out.lay e
    exact fun b'' o'' e'' h'' => h.off ho b'' o'' e'' (Or.inr (Or.inl h''))
theorem turned_but {w w' : World} {b : Nat} (h : w.drew.mapTurned w' b) : But (fun i => i = b) w w' := by
  have g := h.grown
  exact ⟨g.os, g.tape, g.output, g.size, fun i hi hs => g.block i hi (fun e => hs (Option.some.inj e))⟩
def lateD : DataW Unit → Int → Int → DataW Unit := fun D u now => D.put (.int .i64 u) (.lit (.int .i64 now))
/-- What giveUp answers. -/
def RetGive (m : ML) (s : MSt) (x : Wt) (now : Int) (w : World) (e : Ending) (w' : World) : Prop :=
  ∃ O, e = .returned (.slice (some ⟨O, 0, none⟩) 1 1) ∧ Blk w' O 63 (DM.vs ⟨x.tk, An.none, true, none, 0⟩) ∧ w.heap.size ≤ O ∧ MsA w' { m with o := none, n := m.n + 1, D := lateD m.D x.u now } (lateS s now x) ∧ But m.S w w'
set_option maxRecDepth 100000 in
theorem msGive (m : ML) (s : MSt) (x : Wt) (t now : Int) (w : World) (h : MsA w m s) (ho : s.out = some (x, t)) (hn : s.now = now) (h0 : 0 ≤ now) (hw : now ≤ 9223372036854775807) (hu : 0 ≤ x.u) (hu' : x.u ≤ 247) (hm : m.n ≤ 1000000) :
    Calls Try.prog 28 #[.pointer (some ⟨m.g, 0, none⟩), .int .i64 now] w (RetGive m s x now w) := by
  obtain ⟨c0, c1, c2, c3, c4, c5, c6, c7⟩ := h.blk.eight
  have hO := h.out
  rw [ho] at hO
  obtain ⟨b, y, eo, ey, hB, _⟩ := hO.some_
  have hyu : y.u = x.u := by rw [← ey]; rfl
  obtain ⟨yk, yu, yr, yV, yn⟩ := y
  simp only at hyu
  have d1 : w.cell? ⟨b, 1, none⟩ = some (.int .i64 x.u) := by rw [← hyu]; exact hB.cell 1
  rw [eo] at c6
  simp only [optP] at c6
  have hst := h.mp.drew.store int_keyed7 Try.underlying65 (by unfold maxLen; omega) (keyOf_int_mk Try.underlying3 (WalkArith.wf_i64 (n := x.u) (by omega))) (plainElem_int (a := now) Try.underlying3 (WalkArith.wf_i64 (by omega)))
  obtain ⟨w1, hrun, hm1, ht1⟩ := hst
  have H := hide h
  have HN := hide (And.intro hn h0)
  have HO := hide ho
  have M1 := hide hm1
  have T1 := hide ht1
  clear h hO hB eo c0 c1 c2 c3 c4 c5 ey hyu hn ho h0 hm1 ht1 hu hu' hm hw
  go_enter Try.func28, Try.ntmps28
  go_wp2_with fail
  refine wp_region_still_tail 13 (by kernel_rfl) (by kernel_rfl) ?_
  simp only [List.take_succ_cons, List.take_zero, List.drop_succ_cons, List.drop_zero]
  repeat still_step
  refine wpStill_nil ?_
  change wpList _ _ _ _ _ w.drew
  go_wp2_with fail
  obtain ⟨hn, h0⟩ := HN.out
  have hb := turned_but T1.out
  have hA : MsA w1 { m with n := m.n + 1, D := lateD m.D x.u now } { s with till := fun u => if u = x.u then now + s.rest else s.till u } :=
    H.out.turnM hb _ _ _ M1.out (by
      have := H.out.rests.late H.out.mp.isMap x now h0 hn
      intro u u0 u1
      have := this u u0 u1
      subst hn
      exact this) rfl rfl rfl rfl
  have HB := hide hb
  clear c6 c7 d1 hb
  refine (msEnd { m with n := m.n + 1, D := lateD m.D x.u now } _ x t 0 An.none true none 0 w1 hA HO.out).mono ?_
  rintro e w2 ⟨O, rfl, z2, hO, a2, b2⟩
  have Z2 := hide z2
  have A2 := hide a2
  have B2 := hide b2
  clear z2 a2 b2 hA
  go_wp2
  go_ret
  have hsz := HB.out.size
  refine ⟨O, rfl, Z2.out, by omega, ?_, ?_⟩
  · have := A2.out
    subst hn
    exact this
  · exact (HB.out.wide (S' := m.S) (fun i e => Or.inr (Or.inl e))).trans B2.out (fun i _ e => Or.inl e)

end Go.Proofs.Ytfpfijggmfeejaa
