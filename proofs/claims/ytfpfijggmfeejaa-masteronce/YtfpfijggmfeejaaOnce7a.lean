/-
  What is proved here: what the law MasterOnce keeps in memory beside a master: who was sent how often, who is done, the last that was sent. No condition of its own.
-/
import Derived.Test.YtfpfijggmfeejaaAns7
import Derived.Test.YtfpfijggmfeejaaMsMath5
import Derived.Test.YtfpfijggmfeejaaFew7
import Derived.Deep.CutBlock
import Derived.Deep.DeepCutAuto
namespace Go.Proofs.Ytfpfijggmfeejaa
set_option linter.unusedVariables false
set_option linter.unusedSimpArgs false
open Go.RowKit Go.Maps

def arI (f : Nat → Int) : List Value := (List.range 200).map fun t => .int .i64 (f t)
def arB (f : Nat → Bool) : List Value := (List.range 200).map fun t => .bool (f t)
theorem arI_get (f : Nat → Int) (t : Nat) (h : t < 200) : (arI f)[t]? = some (.int .i64 (f t)) := by simp [arI, h]
theorem arB_get (f : Nat → Bool) (t : Nat) (h : t < 200) : (arB f)[t]? = some (.bool (f t)) := by simp [arB, h]
theorem arI_set (f : Nat → Int) (t : Nat) (v : Int) : (arI f).set t (.int .i64 v) = arI (updF f t v) := by
  apply List.ext_getElem?
  intro j
  rw [List.getElem?_set]
  by_cases hj : t = j
  · subst hj
    by_cases ht : t < 200
    · rw [arI_get _ _ ht]
      simp [arI, ht, updF]
    · simp [arI, ht]
  · rw [if_neg hj]
    simp only [arI, List.getElem?_map]
    cases hx : (List.range 200)[j]? with
    | none => rfl
    | some y =>
      have : y = j := by
        have := List.getElem?_eq_some_iff.1 hx
        obtain ⟨h1, h2⟩ := this
        simpa using h2.symm
      subst this
      simp [updF, Ne.symm hj]
theorem arB_set (f : Nat → Bool) (t : Nat) (v : Bool) : (arB f).set t (.bool v) = arB (updF f t v) := by
  apply List.ext_getElem?
  intro j
  rw [List.getElem?_set]
  by_cases hj : t = j
  · subst hj
    by_cases ht : t < 200
    · rw [arB_get _ _ ht]
      simp [arB, ht, updF]
    · simp [arB, ht]
  · rw [if_neg hj]
    simp only [arB, List.getElem?_map]
    cases hx : (List.range 200)[j]? with
    | none => rfl
    | some y =>
      have : y = j := by
        have := List.getElem?_eq_some_iff.1 hx
        obtain ⟨h1, h2⟩ := this
        simpa using h2.symm
      subst this
      simp [updF, Ne.symm hj]
/-- What was seen lies in memory, beside a master. -/
structure OM (g pS pD pL : Nat) (again : Int) (w : World) (n : Nat) (s : MSt) (sent : Nat → Int) (done : Nat → Bool) (last : Wt) (wr : World) : Prop where
  all : ∃ (m : ML) (z : SM), MsW w.heap.size wr m s ∧ m.g = g ∧ m.n ≤ n ∧ Below w.heap.size w wr ∧ Blk wr pS 58 (arI sent) ∧ Blk wr pD 59 (arB done) ∧ Blk wr pL 51 z.vs ∧ z.own wr ∧ z.wt = last ∧ ¬ m.S pS ∧ ¬ m.S pD ∧ ¬ m.S pL
  again : s.again = again
structure ON (g pS pD pL : Nat) (again : Int) (w : World) (asked out i : Nat) (wr : World) : Prop where
  all : ∃ (s : MSt) (sent : Nat → Int) (done : Nat → Bool) (last : Wt), OM g pS pD pL again w i s sent done last wr ∧ OnceI s sent done out last ∧ s.next = asked
/-- Behind a call: what it told is not yet written down. -/
structure OC (g pS pD pL : Nat) (again : Int) (w : World) (i asked out : Nat) (sent : Nat → Int) (done : Nat → Bool) (last : Wt) (O P : Option Addr) (rs : List SM) (ds : List DM) (wc : World) : Prop where
  all : ∃ (s : MSt) (sent2 : Nat → Int) (done1 : Nat → Bool) (out1 out2 : Nat) (last2 : Wt), OM g pS pD pL again w (i + 1) s sent done last wc ∧ s.next = asked ∧ OnceI s sent2 done1 out2 last2 ∧ OnceD again asked sent done out (ds.map DM.dn) done1 out1 ∧ OnceA again asked sent done1 out1 last (rs.map SM.wt) sent2 out2 last2 ∧ SRd1 wc O rs.length rs ∧ DRd wc P ds.length ds
section
variable {g pS pD pL : Nat} {again : Int} {w U w3 : World} {i asked out : Nat} {sent : Nat → Int} {done : Nat → Bool} {last : Wt} {s : MSt} {mm m3 : ML} {z : SM}
/-- What was seen stays while the master turns. -/
theorem om_turn {s' : MSt} (hs : Blk U pS 58 (arI sent)) (hd : Blk U pD 59 (arB done)) (hl : Blk U pL 51 z.vs) (hz : z.own U) (ez : z.wt = last) (ns : ¬ mm.S pS ∧ ¬ mm.S pD ∧ ¬ mm.S pL) (a3 : MsW w.heap.size w3 m3 s') (g3 : m3.g = g) (n3 : m3.n ≤ i + 1) (b3 : Below w.heap.size w w3) (u3 : But mm.S U w3) (s3 : ∀ j, m3.S j → mm.S j ∨ U.heap.size ≤ j) (mu : MsW w.heap.size U mm s) (ha : s'.again = again) :
    OM g pS pD pL again w (i + 1) s' sent done last w3 :=
  ⟨⟨m3, z, a3, g3, n3, b3, hs.but u3 ns.1, hd.but u3 ns.2.1, hl.but u3 ns.2.2, hz.but u3 (mu.a.off hz), ez, fun hc => (s3 _ hc).elim ns.1 (fun h => by have := hs.lt; omega), fun hc => (s3 _ hc).elim ns.2.1 (fun h => by have := hd.lt; omega), fun hc => (s3 _ hc).elim ns.2.2 (fun h => by have := hl.lt; omega)⟩, ha⟩
theorem oc_ask {u : Int} {r : Rq} (h : OnceI s sent done out last) (hE : askE s u r = 0) (hn : s.next = asked) (ha : s.again = again) (hs : Blk U pS 58 (arI sent)) (hd : Blk U pD 59 (arB done)) (hl : Blk U pL 51 z.vs) (hz : z.own U) (ez : z.wt = last) (ns : ¬ mm.S pS ∧ ¬ mm.S pD ∧ ¬ mm.S pL) (a3 : MsW w.heap.size w3 m3 (askS s u r)) (g3 : m3.g = g) (n3 : m3.n ≤ i + 1) (b3 : Below w.heap.size w w3) (u3 : But mm.S U w3) (s3 : ∀ j, m3.S j → mm.S j ∨ U.heap.size ≤ j) (mu : MsW w.heap.size U mm s) :
    OC g pS pD pL again w i (asked + 1) out sent done last none none [] [] w3 := by
  have e : (askS s u r).next = asked + 1 ∧ (askS s u r).again = again := by
    unfold askS
    rw [if_pos hE]
    exact ⟨by show s.next + 1 = _; rw [hn], ha⟩
  exact ⟨askS s u r, sent, done, out, out, last, om_turn hs hd hl hz ez ns a3 g3 n3 b3 u3 s3 mu e.2, e.1, once_ask h u r, Or.inl ⟨rfl, rfl, rfl⟩, Or.inl ⟨rfl, rfl, rfl, rfl⟩, Or.inl ⟨rfl, rfl⟩, Or.inl ⟨rfl, rfl⟩⟩
theorem oc_no {u : Int} {r : Rq} (h : OnceI s sent done out last) (hE : ¬ askE s u r = 0) (hn : s.next = asked) (ha : s.again = again) (hs : Blk U pS 58 (arI sent)) (hd : Blk U pD 59 (arB done)) (hl : Blk U pL 51 z.vs) (hz : z.own U) (ez : z.wt = last) (ns : ¬ mm.S pS ∧ ¬ mm.S pD ∧ ¬ mm.S pL) (a3 : MsW w.heap.size w3 m3 (askS s u r)) (g3 : m3.g = g) (n3 : m3.n ≤ i + 1) (b3 : Below w.heap.size w w3) (u3 : But mm.S U w3) (s3 : ∀ j, m3.S j → mm.S j ∨ U.heap.size ≤ j) (mu : MsW w.heap.size U mm s) :
    OC g pS pD pL again w i asked out sent done last none none [] [] w3 := by
  have e : askS s u r = s := by
    unfold askS
    rw [if_neg hE]
  rw [e] at a3
  exact ⟨s, sent, done, out, out, last, om_turn hs hd hl hz ez ns a3 g3 n3 b3 u3 s3 mu ha, hn, h, Or.inl ⟨rfl, rfl, rfl⟩, Or.inl ⟨rfl, rfl, rfl, rfl⟩, Or.inl ⟨rfl, rfl⟩, Or.inl ⟨rfl, rfl⟩⟩
theorem oc_step {now : Int} {O P : Option Addr} {rs : List SM} {ds : List DM} (h : OnceI s sent done out last) (hn : s.next = asked) (ha : s.again = again) (hs : Blk U pS 58 (arI sent)) (hd : Blk U pD 59 (arB done)) (hl : Blk U pL 51 z.vs) (hz : z.own U) (ez : z.wt = last) (ns : ¬ mm.S pS ∧ ¬ mm.S pD ∧ ¬ mm.S pL) (a3 : MsW w.heap.size w3 m3 (stepR s now).2.2.2) (g3 : m3.g = g) (n3 : m3.n ≤ i + 1) (b3 : Below w.heap.size w w3) (u3 : But mm.S U w3) (s3 : ∀ j, m3.S j → mm.S j ∨ U.heap.size ≤ j) (mu : MsW w.heap.size U mm s)
    (e1 : rs.map SM.wt = (stepR s now).1) (e2 : ds.map DM.dn = (stepR s now).2.1) (r3 : SRd1 w3 O rs.length rs) (d3 : DRd w3 P ds.length ds) : OC g pS pD pL again w i asked out sent done last O P rs ds w3 := by
  obtain ⟨sent2, done1, out1, out2, last2, k1, k2, k3, k4, k5⟩ := once_step h now
  rw [ha, hn, ← e2] at k1
  rw [ha, hn, ← e1] at k2
  exact ⟨_, sent2, done1, out1, out2, last2, om_turn hs hd hl hz ez ns a3 g3 n3 b3 u3 s3 mu (k5.trans ha), k4.trans hn, k3, k1, k2, r3, d3⟩
theorem oc_came {now u : Int} {bs : List UInt8} {P : Option Addr} {ds : List DM} (h : OnceI s sent done out last) (hn : s.next = asked) (ha : s.again = again) (hs : Blk U pS 58 (arI sent)) (hd : Blk U pD 59 (arB done)) (hl : Blk U pL 51 z.vs) (hz : z.own U) (ez : z.wt = last) (ns : ¬ mm.S pS ∧ ¬ mm.S pD ∧ ¬ mm.S pL) (a3 : MsW w.heap.size w3 m3 (cameR s now u bs).2.2) (g3 : m3.g = g) (n3 : m3.n ≤ i + 1) (b3 : Below w.heap.size w w3) (u3 : But mm.S U w3) (s3 : ∀ j, m3.S j → mm.S j ∨ U.heap.size ≤ j) (mu : MsW w.heap.size U mm s)
    (e2 : ds.map DM.dn = (cameR s now u bs).1) (d3 : DRd w3 P ds.length ds) : OC g pS pD pL again w i asked out sent done last none P [] ds w3 := by
  obtain ⟨done1, out1, k1, k3, k4, k5⟩ := once_came h now u bs
  rw [ha, hn, ← e2] at k1
  exact ⟨_, sent, done1, out1, out1, last, om_turn hs hd hl hz ez ns a3 g3 n3 b3 u3 s3 mu (k5.trans ha), k4.trans hn, k3, k1, Or.inl ⟨rfl, rfl, rfl, rfl⟩, Or.inl ⟨rfl, rfl⟩, d3⟩
end
section
variable {g pS pD pL : Nat} {again : Int} {w wr wr' : World} {n : Nat} {s : MSt} {sent : Nat → Int} {done : Nat → Bool} {last : Wt}
theorem OM.keep (h : OM g pS pD pL again w n s sent done last wr) (b : Below wr.heap.size wr wr') : OM g pS pD pL again w n s sent done last wr' := by
  obtain ⟨⟨m, z, h1, h2, h3, h4, h5, h6, h7, h8, h9, h10⟩, ha⟩ := h
  exact ⟨⟨m, z, h1.keep b, h2, h3, below_on h4 b, h5.keep b, h6.keep b, h7.keep b, h8.keep b, h9, h10⟩, ha⟩
theorem MsW.beside {B q : Nat} {t : TypeId} {cs : List Value} {m : ML} (h : MsW B wr m s) (hb : But (fun i => i = q) wr wr') (hq : ¬ m.S q) (hB : Blk wr q t cs) (ht : 3 ≠ t) : MsW B wr' m s :=
  ⟨h.a.but hb (fun i e => e ▸ hq) (fun ho b' o' e' h' => own_ne ho hB ht e' h'), h.ok, h.lo⟩
theorem OM.doneS (h : OM g pS pD pL again w n s sent done last wr) (hw : w.heap.size ≤ pD) (t : Nat) (v : Bool) : OM g pS pD pL again w n s sent (updF done t v) last (wr.setCell ⟨pD, t, none⟩ (.bool v)) := by
  obtain ⟨⟨m, z, h1, h2, h3, h4, h5, h6, h7, h8, h9, n1, n2, n3⟩, ha⟩ := h
  have hb : But (fun i => i = pD) wr (wr.setCell ⟨pD, t, none⟩ (.bool v)) := But.setCell wr _ rfl
  refine ⟨⟨m, z, h1.beside hb n2 h6 (by decide), h2, h3, But.below h4 hb (fun i e => by omega) h4.size, h5.but hb (h5.ne h6 (by decide)), ?_, h7.but hb (h7.ne h6 (by decide)), h8.but hb (fun b' o' e' h' => own_ne h8 h6 (by decide) e' h'), h9, n1, n2, n3⟩, ha⟩
  rw [← arB_set]
  exact h6.set t _
theorem OM.sentS (h : OM g pS pD pL again w n s sent done last wr) (hw : w.heap.size ≤ pS) (t : Nat) (v : Int) : OM g pS pD pL again w n s (updF sent t v) done last (wr.setCell ⟨pS, t, none⟩ (.int .i64 v)) := by
  obtain ⟨⟨m, z, h1, h2, h3, h4, h5, h6, h7, h8, h9, n1, n2, n3⟩, ha⟩ := h
  have hb : But (fun i => i = pS) wr (wr.setCell ⟨pS, t, none⟩ (.int .i64 v)) := But.setCell wr _ rfl
  refine ⟨⟨m, z, h1.beside hb n1 h5 (by decide), h2, h3, But.below h4 hb (fun i e => by omega) h4.size, ?_, h6.but hb (h6.ne h5 (by decide)), h7.but hb (h7.ne h5 (by decide)), h8.but hb (fun b' o' e' h' => own_ne h8 h5 (by decide) e' h'), h9, n1, n2, n3⟩, ha⟩
  rw [← arI_set]
  exact h5.set t _
theorem but_set9 (w : World) (g : Nat) (v0 v1 v2 v3 v4 v5 v6 v7 v8 : Value) : But (fun i => i = g) w (((((((((w.setCell ⟨g, 0, none⟩ v0).setCell ⟨g, 1, none⟩ v1).setCell ⟨g, 2, none⟩ v2).setCell ⟨g, 3, none⟩ v3).setCell ⟨g, 4, none⟩ v4).setCell ⟨g, 5, none⟩ v5).setCell ⟨g, 6, none⟩ v6).setCell ⟨g, 7, none⟩ v7).setCell ⟨g, 8, none⟩ v8) :=
  ((((((((((But.refl (fun i => i = g) w).setCell' _ rfl).setCell' _ rfl).setCell' _ rfl).setCell' _ rfl).setCell' _ rfl).setCell' _ rfl).setCell' _ rfl).setCell' _ rfl).setCell' _ rfl)
theorem Blk.set9 {w : World} {g : Nat} {t : TypeId} {x0 x1 x2 x3 x4 x5 x6 x7 x8 : Value} (h : Blk w g t [x0, x1, x2, x3, x4, x5, x6, x7, x8]) (v0 v1 v2 v3 v4 v5 v6 v7 v8 : Value) : Blk (((((((((w.setCell ⟨g, 0, none⟩ v0).setCell ⟨g, 1, none⟩ v1).setCell ⟨g, 2, none⟩ v2).setCell ⟨g, 3, none⟩ v3).setCell ⟨g, 4, none⟩ v4).setCell ⟨g, 5, none⟩ v5).setCell ⟨g, 6, none⟩ v6).setCell ⟨g, 7, none⟩ v7).setCell ⟨g, 8, none⟩ v8) g t [v0, v1, v2, v3, v4, v5, v6, v7, v8] :=
  ((((((((h.set 0 v0).set 1 v1).set 2 v2).set 3 v3).set 4 v4).set 5 v5).set 6 v6).set 7 v7).set 8 v8
theorem OM.lastS (h : OM g pS pD pL again w n s sent done last wr) (hw : w.heap.size ≤ pL) (ytk : Nat) (yu : Int) (yr : Rq) (yV : Option Addr) (yk : Nat) (hy : SM.own wr ⟨ytk, yu, yr, yV, yk⟩) :
    OM g pS pD pL again w n s sent done ⟨ytk, yu, yr⟩ (((((((((wr.setCell ⟨pL, 0, none⟩ (.int .i64 (ytk : Nat))).setCell ⟨pL, 1, none⟩ (.int .i64 yu)).setCell ⟨pL, 2, none⟩ (.int .i64 yr.f)).setCell ⟨pL, 3, none⟩ (.int .i64 yr.a)).setCell ⟨pL, 4, none⟩ (.int .i64 yr.c)).setCell ⟨pL, 5, none⟩ (.slice yV yr.vs.length yk)).setCell ⟨pL, 6, none⟩ (.int .i64 yr.t)).setCell ⟨pL, 7, none⟩ (.int .i64 yr.an)).setCell ⟨pL, 8, none⟩ (.int .i64 yr.o)) := by
  obtain ⟨⟨m, z, h1, h2, h3, h4, h5, h6, h7, h8, h9, n1, n2, n3⟩, ha⟩ := h
  have hb := but_set9 wr pL (.int .i64 (ytk : Nat)) (.int .i64 yu) (.int .i64 yr.f) (.int .i64 yr.a) (.int .i64 yr.c) (.slice yV yr.vs.length yk) (.int .i64 yr.t) (.int .i64 yr.an) (.int .i64 yr.o)
  exact ⟨⟨m, ⟨ytk, yu, yr, yV, yk⟩, h1.beside hb n3 h7 (by decide), h2, h3, But.below h4 hb (fun i e => by omega) h4.size, h5.but hb (h5.ne h7 (by decide)), h6.but hb (h6.ne h7 (by decide)), Blk.set9 h7 _ _ _ _ _ _ _ _ _, hy.but hb (fun b' o' e' h' => own_ne hy h7 (by decide) e' h'), rfl, n1, n2, n3⟩, ha⟩
end
theorem cntF_le (done : Nat → Bool) : ∀ n, cntF done n ≤ n
  | 0 => Nat.le_refl _
  | n + 1 => by
    unfold cntF
    have := cntF_le done n
    split <;> omega
theorem cntF_succ (done : Nat → Bool) (n : Nat) : cntF done (n + 1) = cntF done n + (if done (n + 1) then 0 else 1) := rfl
theorem SRd1.but {S : Nat → Prop} {w w' : World} {O : Option Addr} {n : Nat} {rs : List SM} (h : SRd1 w O n rs) (b : But S w w') (hs : ∀ (bb : Nat) (oo : Unit) (ee : Unit), S bb → ∀ {cs : List Value}, Blk w bb 51 cs → True → False) (hv : ∀ (yy : SM), yy.own w → Off S yy.V) : SRd1 w' O n rs := by
  rcases h with h | ⟨r, g, rfl, e2, e3, h1, h2⟩
  · exact Or.inl h
  · exact Or.inr ⟨r, g, rfl, e2, e3, h1.but b (fun hc => hs g () () hc h1 trivial), h2.but b (hv r h2)⟩
theorem zero58 : Try.zeroCells58 = arr (arI fun _ => 0) := by kernel_rfl
theorem zero59 : Try.zeroCells59 = arr (arB fun _ => false) := by kernel_rfl
theorem on_start (x0 x1 x2 : Int) {w w1 : World} {m : ML} (h : mMay x0 x1 x2 = true) (a : MsW w.heap.size w1 m (mNew x0 x1 x2)) (n : m.n = 0) (b : Below w.heap.size w w1) :
    ON m.g w1.heap.size (w1.heap.size + 1) (w1.heap.size + 1 + 1) x1 w 0 0 0 (((w1.alloc (.cells Try.zeroCells58 58)).alloc (.cells Try.zeroCells59 59)).alloc (.cells #[.int .i64 0, .int .i64 0, .int .i64 0, .int .i64 0, .int .i64 0, .slice none 0 0, .int .i64 0, .int .i64 0, .int .i64 0] 51)) := by
  rw [zero58, zero59]
  have z1 := Blk.new w1 58 (arI fun _ => 0)
  have z2 := Blk.new (w1.alloc (.cells (arr (arI fun _ => 0)) 58)) 59 (arB fun _ => false)
  have z3 := Blk.new ((w1.alloc (.cells (arr (arI fun _ => 0)) 58)).alloc (.cells (arr (arB fun _ => false)) 59)) 51 (SM.vs ⟨0, 0, Rq.none, none, 0⟩)
  simp only [World.size_alloc] at z2 z3
  have bb : Below w1.heap.size w1 (((w1.alloc (.cells (arr (arI fun _ => 0)) 58)).alloc (.cells (arr (arB fun _ => false)) 59)).alloc (.cells #[.int .i64 0, .int .i64 0, .int .i64 0, .int .i64 0, .int .i64 0, .slice none 0 0, .int .i64 0, .int .i64 0, .int .i64 0] 51)) := (((Below.refl _ _).alloc (Nat.le_refl _) _).alloc (by simp) _).alloc (by simp; omega) _
  refine ⟨mNew x0 x1 x2, fun _ => 0, fun _ => false, ⟨0, 0, Rq.none⟩, ⟨⟨m, ⟨0, 0, Rq.none, none, 0⟩, a.keep bb, rfl, by omega, below_on b bb, (z1.al _).al _, z2.al _, z3, World.ownsRow_nil _ _ _ _, rfl, ?_, ?_, ?_⟩, rfl⟩, once_new x0 x1 x2 h _, rfl⟩
  · intro hc
    have := a.a.lt _ hc
    omega
  · intro hc
    have := a.a.lt _ hc
    omega
  · intro hc
    have := a.a.lt _ hc
    omega
end Go.Proofs.Ytfpfijggmfeejaa
