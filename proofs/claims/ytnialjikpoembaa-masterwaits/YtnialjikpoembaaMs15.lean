/-
  What is proved here: layer 7's read, and its awake (the document's examples) is true. No condition of its own.
-/
import Derived.Test.YtnialjikpoembaaMs12
import Derived.Test.YtnialjikpoembaaMs13
import Derived.Test.YtnialjikpoembaaMs14
namespace Go.Proofs.Ytnialjikpoembaa
set_option linter.unusedVariables false
set_option linter.unusedSimpArgs false
open Go.RowKit Go.Maps

def rdq : Rq := ⟨3, 0, 1, [], 0, 0, 0⟩
theorem rdq_may : rdq.may = true := by kernel_rfl
theorem read7 (w : World) : Calls Try.prog 24 #[] w fun e w' => e = .returned (.agg #[.int .i64 3, .int .i64 0, .int .i64 1, .slice none 0 0, .int .i64 0, .int .i64 0, .int .i64 0]) ∧ Below w.heap.size w w' := by
  go_enter Try.func24, Try.ntmps24
  go_wp2_with fail
  generalize hV : w.alloc _ = V
  obtain ⟨zV, bV⟩ := box1 w 37 [.int .i64 3, .int .i64 0, .int .i64 1, .slice none 0 0, .int .i64 0, .int .i64 0, .int .i64 0] V hV.symm
  (try simp only [Exit.inBlock, Exit.then])
  refine bodyPost_ret (results_cell rfl rfl zV Try.underlying37 rfl (by kernel_rfl)) rfl ?_
  exact ⟨rfl, bV⟩
/-- A master above B. -/
structure MsW (B : Nat) (w : World) (m : ML) (s : MSt) : Prop where
  a : MsA w m s
  ok : MOk s
  lo : ∀ i, m.S i → B ≤ i
theorem MsW.keep {B : Nat} {w w' : World} {m : ML} {s : MSt} (h : MsW B w m s) (b : Below w.heap.size w w') : MsW B w' m s := ⟨h.a.keep b, h.ok, h.lo⟩
theorem MsW.off {B : Nat} {w : World} {m : ML} {s : MSt} (h : MsW B w m s) {A : Option Addr} (hA : ∀ b o, A = some ⟨b, o, none⟩ → b < B) : Off m.S A := fun b o e hs => by have := hA b o e; have := h.lo b hs; omega
/-- What is below B is as it was. -/
theorem MsW.below {B : Nat} {v w w' : World} {m : ML} {s : MSt} (h : MsW B w m s) (hv : Below B v w) (hB : B ≤ w.heap.size) (b : But m.S w w') : Below B v w' := But.below hv b h.lo hB
theorem lo_on {B : Nat} {S S' : Nat → Prop} {w : World} (h : ∀ i, S i → B ≤ i) (hs : ∀ i, S' i → S i ∨ w.heap.size ≤ i) (hB : B ≤ w.heap.size) : ∀ i, S' i → B ≤ i := fun i hi => (hs i hi).elim (h i) (fun h => by omega)
theorem msNew_w (wa ag re : Int) (h : mMay wa ag re = true) (w : World) : Calls Try.prog 9 #[.int .i64 wa, .int .i64 ag, .int .i64 re] w fun e w' => ∃ m : ML, e = .returned (.tuple #[.pointer (some ⟨m.g, 0, none⟩), .int .i64 0]) ∧ MsW w.heap.size w' m (mNew wa ag re) ∧ m.n = 0 ∧ Below w.heap.size w w' :=
  (msNew_ok wa ag re h w).mono fun e w' ⟨m, h1, h2, h3, h4, h5⟩ => ⟨m, h1, ⟨h2, mOk_new wa ag re h, h4⟩, h3, h5⟩
theorem msAsk_w (B g : Nat) (m : ML) (s : MSt) (u : Int) (r : Rq) (A : Option Addr) (k : Nat) (v w : World) (h : MsW B w m s) (hr : Rd w A r.vs.length (iv r.vs)) (hl : r.vs.length ≤ 1000000) (hn : s.next ≤ 1000000) (hoff : Off m.S A) (hv : Below B v w) (hB : B ≤ w.heap.size) (hg : m.g = g) :
    Calls Try.prog 12 #[.pointer (some ⟨g, 0, none⟩), .int .i64 u, .agg #[.int .i64 r.f, .int .i64 r.a, .int .i64 r.c, .slice A r.vs.length k, .int .i64 r.t, .int .i64 r.an, .int .i64 r.o]] w fun e w' =>
      ∃ m' : ML, e = .returned (.tuple #[.int .i64 (askT s u r), .int .i64 (askE s u r)]) ∧ MsW B w' m' (askS s u r) ∧ m'.g = g ∧ m'.n = m.n ∧ Below B v w' ∧ But m.S w w' ∧ (∀ i, m'.S i → m.S i ∨ w.heap.size ≤ i) :=
  hg ▸ (msAsk_any m s u r A k w h.a hr hl hn hoff).mono fun e w' ⟨m', h1, h2, h3, h4, h5, h6⟩ => ⟨m', h1, ⟨h2, mOk_ask h.ok u r, lo_on h.lo h6 hB⟩, h3, h4, h.below hv hB h5, h5, h6⟩
/-- What Step answers, above B. -/
def RetStepW (B g : Nat) (m : ML) (R : List Wt × List Dn × Int × MSt) (v w : World) (e : Ending) (w' : World) : Prop :=
  ∃ (O P : Option Addr) (k l : Nat) (rs : List SM) (ds : List DM) (m' : ML), e = .returned (.tuple #[.slice O rs.length k, .slice P ds.length l, .int .i64 R.2.2.1]) ∧ rs.map SM.wt = R.1 ∧ SRd1 w' O rs.length rs ∧ ds.map DM.dn = R.2.1 ∧ DRd w' P ds.length ds ∧
    MsW B w' m' R.2.2.2 ∧ m'.g = g ∧ m'.n ≤ m.n + 1 ∧ Below B v w' ∧ (∀ b o, O = some ⟨b, o, none⟩ → ¬ m'.S b ∧ w.heap.size ≤ b) ∧ (∀ b o, P = some ⟨b, o, none⟩ → ¬ m'.S b ∧ w.heap.size ≤ b) ∧ But m.S w w' ∧ (∀ i, m'.S i → m.S i ∨ w.heap.size ≤ i)
theorem msStep_w (B g : Nat) (m : ML) (s : MSt) (now : Int) (v w : World) (h : MsW B w m s) (hw : now ≤ 9223372036854775807) (hm : m.n ≤ 1000000) (hv : Below B v w) (hB : B ≤ w.heap.size) (hg : m.g = g) :
    Calls Try.prog 14 #[.pointer (some ⟨g, 0, none⟩), .int .i64 now] w (RetStepW B g m (stepR s now) v w) :=
  hg ▸ (msStep_any m s now w h.a h.ok hw hm).mono fun e w' ⟨⟨O, P, k, l, rs, ds, m', h1, h2, h3, h4, h5, h6, h7, h8, h9, h10, h11, h12⟩⟩ => ⟨O, P, k, l, rs, ds, m', h1, h2, h3, h4, h5, ⟨h6, mOk_step h.ok now, lo_on h.lo h10 hB⟩, h7, h8, h.below hv hB h9, h11, h12, h9, h10⟩
/-- What Came answers, above B. -/
def RetCameW (B g : Nat) (m : ML) (R : List Dn × Int × MSt) (v w : World) (e : Ending) (w' : World) : Prop :=
  ∃ (P : Option Addr) (l : Nat) (ds : List DM) (m' : ML), e = .returned (.tuple #[.slice P ds.length l, .int .i64 R.2.1]) ∧ ds.map DM.dn = R.1 ∧ DRd w' P ds.length ds ∧ (∀ d ∈ ds, NewAt w d.V) ∧ MsW B w' m' R.2.2 ∧ m'.g = g ∧ m'.n = m.n ∧ Below B v w' ∧ (∀ b o, P = some ⟨b, o, none⟩ → ¬ m'.S b ∧ w.heap.size ≤ b) ∧ But m.S w w' ∧ (∀ i, m'.S i → m.S i ∨ w.heap.size ≤ i)
theorem msCame_w (B g : Nat) (m : ML) (s : MSt) (now u : Int) (A : Option Addr) (l d : Nat) (xs : List UInt8) (v w : World) (h : MsW B w m s) (hr : Rd w A l (bv xs)) (hd : l ≤ d) (hoff : Off m.S A) (hv : Below B v w) (hB : B ≤ w.heap.size) (hg : m.g = g) :
    Calls Try.prog 19 #[.pointer (some ⟨g, 0, none⟩), .int .i64 now, .int .i64 u, .slice A l d] w (RetCameW B g m (cameR s now u xs) v w) :=
  hg ▸ (msCame_any m s now u A l d xs w h.a h.ok hr hd hoff).mono fun e w' ⟨P, l, ds, m', h1, h2, h3, h3', h4, h5, h6, h7, h8, h9⟩ => ⟨P, l, ds, m', h1, h2, h3, h3', ⟨h4, mOk_came h.ok now u xs, lo_on h.lo h8 hB⟩, h5, h6, h.below hv hB h7, h9, h7, h8⟩

theorem msCount_w (B g : Nat) (m : ML) (s : MSt) (w : World) (h : MsW B w m s) (hg : m.g = g) : Calls Try.prog 21 #[.pointer (some ⟨g, 0, none⟩)] w fun e w' => e = .returned (.int .i64 (mCount s : Nat)) ∧ w = w' :=
  hg ▸ msCount m s w h.a (by have := h.ok.len; omega)
def ex7a : MSt := askS (mNew 10 1 50) 1 rdq
def ex7b : MSt := (stepR ex7a 0).2.2.2
theorem ex7_may : mMay 10 1 50 = true := by kernel_rfl
theorem ex7_ask : askT (mNew 10 1 50) 1 rdq = 1 ∧ askE (mNew 10 1 50) 1 rdq = 0 := ⟨by kernel_rfl, by kernel_rfl⟩
theorem ex7_step : (stepR ex7a 0).1 = [⟨1, 1, rdq⟩] ∧ (stepR ex7a 0).2.2.1 = 0 := ⟨by kernel_rfl, by kernel_rfl⟩
theorem ex7_came : (cameR ex7b 3 1 [3, 2, 0, 7]).1 = [⟨1, ⟨[7], 0⟩, false⟩] ∧ (cameR ex7b 3 1 [3, 2, 0, 7]).2.1 = 0 ∧ mCount (cameR ex7b 3 1 [3, 2, 0, 7]).2.2 = 0 := ⟨by kernel_rfl, by kernel_rfl, by kernel_rfl⟩
theorem sm_one {rs : List SM} {x : Wt} (h : rs.map SM.wt = [x]) : ∃ r, rs = [r] ∧ r.wt = x := by
  rcases rs with _ | ⟨r, _ | ⟨r', rs⟩⟩
  · simp at h
  · simp at h
    exact ⟨r, rfl, h⟩
  · simp at h
theorem dm_one {rs : List DM} {x : Dn} (h : rs.map DM.dn = [x]) : ∃ r, rs = [r] ∧ r.dn = x := by
  rcases rs with _ | ⟨r, _ | ⟨r', rs⟩⟩
  · simp at h
  · simp at h
    exact ⟨r, rfl, h⟩
  · simp at h
theorem SRd1.one {w : World} {O : Option Addr} {n : Nat} {r : SM} (h : SRd1 w O n [r]) : ∃ b, O = some ⟨b, 0, none⟩ ∧ Blk w b 51 r.vs ∧ r.own w := by
  rcases h with ⟨h, _⟩ | ⟨r', b, e1, _, e3, h1, h2⟩
  · cases h
  · cases e1
    exact ⟨b, e3, h1, h2⟩
theorem DRd.one {w : World} {O : Option Addr} {n : Nat} {d : DM} (h : DRd w O n [d]) : ∃ b, O = some ⟨b, 0, none⟩ ∧ Blk w b 63 d.vs ∧ d.is w := by
  rcases h with ⟨h, _⟩ | ⟨r', b, e1, _, e3, h1, h2⟩
  · cases h
  · cases e1
    exact ⟨b, e3, h1, h2⟩

set_option maxHeartbeats 2000000 in
set_option maxRecDepth 100000 in
theorem awake7_any (w : World) : Calls Try.prog 11 #[] w fun e w' => e = .returned (.bool true) ∧ Below w.heap.size w w' := by
  go_enter Try.func11, Try.ntmps11
  go_wp2_with fail
  refine (msNew_w 10 1 50 ex7_may w).mono ?_
  rintro e w1 ⟨m, rfl, a1, n1, b1⟩
  have A1 := hide a1
  have B1 := hide b1
  have HN := hide n1
  clear a1 b1 n1
  go_wp2_with fail
  refine (read7 w1).mono ?_
  rintro e w2 ⟨rfl, b2⟩
  have A2 := hide (A1.out.keep b2)
  have B2 := hide (below_on B1.out b2)
  clear b2
  go_wp2_with fail
  have hask := msAsk_w w.heap.size m.g m (mNew 10 1 50) 1 rdq none 0 w w2 A2.out (Rd.nil _ _) (by decide) (by decide) (Off.none_ _) B2.out B2.out.size rfl
  rw [ex7_ask.1, ex7_ask.2] at hask
  refine hask.mono ?_
  rintro e w3 ⟨m3, rfl, a3, g3, n3, b3, _, _⟩
  have A3 := hide a3
  have B3 := hide b3
  have HN3 : Hid (m3.n = 0) := hide (n3.trans HN.out)
  have G3 := hide g3
  clear a3 b3 n3 hask g3
  go_wp2_with fail
  refine (msStep_w w.heap.size m.g m3 ex7a 0 w w3 A3.out (by omega) (by have := HN3.out; omega) B3.out B3.out.size G3.out).mono ?_
  rintro e w4 ⟨O, P, k, l, rs, ds, m4, rfl, e1, r4, e2, d4, a4, g4, n4, b4, f4, _, _, _⟩
  rw [ex7_step.1] at e1
  rw [ex7_step.2]
  obtain ⟨y, rfl, ey⟩ := sm_one e1
  obtain ⟨bO, rfl, zO, _⟩ := r4.one
  have A4 := hide a4
  have B4 := hide b4
  have G4 := hide g4
  have EY := hide ey
  have ZO := hide zO
  have FO := hide (f4 bO 0 rfl).1
  clear a4 b4 g4 ey zO f4 e1 e2 d4 r4 n4
  go_wp2_with fail
  have b5 : Below w4.heap.size w4 (w4.alloc (.cells #[.int .u8 3, .int .u8 2, .int .u8 0, .int .u8 7] 5)) := (Below.refl _ _).alloc (Nat.le_refl _) _
  have r5 : Rd (w4.alloc (.cells #[.int .u8 3, .int .u8 2, .int .u8 0, .int .u8 7] 5)) (some ⟨w4.heap.size, 0, none⟩) 4 (bv [3, 2, 0, 7]) := (Blk.new w4 5 (bv [3, 2, 0, 7])).rd
  generalize w4.alloc (.cells #[.int .u8 3, .int .u8 2, .int .u8 0, .int .u8 7] 5) = W at *
  have HB5 := hide b5
  have hoff : Off m4.S (some ⟨w4.heap.size, 0, none⟩) := fun b o e hs => by
    injection e with e
    injection e with e _ _
    have := A4.out.a.lt b hs
    omega
  refine (msCame_w w.heap.size m.g m4 ex7b 3 1 (some ⟨w4.heap.size, 0, none⟩) 4 4 [3, 2, 0, 7] w W (A4.out.keep b5) r5 (by omega) hoff (below_on B4.out b5) (below_on B4.out b5).size G4.out).mono ?_
  rintro e w6 ⟨P6, l6, ds6, m6, rfl, e6, d6, _, a6, g6, n6, b6, _, u6, _⟩
  rw [ex7_came.1] at e6
  rw [ex7_came.2.1]
  obtain ⟨dd, rfl, ed⟩ := dm_one e6
  obtain ⟨bD, rfl, zD, iD⟩ := d6.one
  obtain ⟨dtk, dan, dlate, dV, dk⟩ := dd
  injection ed with ed1 ed2 ed3
  subst ed1 ed2 ed3
  have hv1 : Rd w6 dV 1 (iv [7]) := iD
  obtain ⟨bV, oV, rfl, _, hcV⟩ := hv1.2 (by omega)
  have v0 : w6.cell? ⟨bV, oV, none⟩ = some (.int .i64 7) := hcV 0 _ rfl
  have dc1 : w6.cell? ⟨bD, 1, none⟩ = some (.slice (some ⟨bV, oV, none⟩) 1 dk) := zD.cell 1
  have zO6 := (ZO.out.keep HB5.out).but u6 FO.out
  obtain ⟨ytk, yu, yr, yV, yk⟩ := y
  have eyu : yu = 1 := congrArg Wt.u EY.out
  subst eyu
  have sc1 : w6.cell? ⟨bO, 1, none⟩ = some (.int .i64 1) := zO6.cell 1
  have A6 := hide a6
  have B6 := hide b6
  have G6 := hide g6
  clear a6 b6 g6 n6 u6 d6 zD iD hv1 hcV zO6 b5 r5 hoff e6
  go_wp2_with fail
  have hcnt := msCount_w w.heap.size m.g m6 _ w6 A6.out G6.out
  rw [ex7_came.2.2] at hcnt
  refine hcnt.mono ?_
  rintro e w7 ⟨rfl, rfl⟩
  go_wp2
  go_ret
  exact ⟨rfl, B6.out⟩
end Go.Proofs.Ytnialjikpoembaa
