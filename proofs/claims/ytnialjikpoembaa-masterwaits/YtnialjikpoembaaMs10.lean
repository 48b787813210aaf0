/-
  What is proved here: what a master is when a request is out, or out once more; how master's Step answers ahead of any request that is out. No condition of its own.
-/
import Derived.Test.YtnialjikpoembaaMs9
namespace Go.Proofs.Ytnialjikpoembaa
set_option linter.unusedVariables false
set_option linter.unusedSimpArgs false
open Go.RowKit Go.Maps

theorem may_vs {r : Rq} (h : r.may = true) : r.vs.length ≤ 2000 := by
  obtain ⟨f, a, c, vs, t, an, o⟩ := r
  simp only [Rq.may, mayB] at h
  show vs.length ≤ 2000
  repeat' (split at h)
  all_goals first | (simp [readsB, oneB, manyB, masksB, swapsB, liesB] at h; first | omega | (obtain ⟨h1, _⟩ := h; omega) | (simp [h])) | cases h
/-- What was out is sent once more. -/
theorem MsA.againS {w w' : World} {m : ML} {s : MSt} (h : MsA w m s) {x : Wt} {t last : Int} {b : Nat} {y : SM} (hb : But (fun i => i = b) w w') (eo : m.o = some (b, y)) (ey : y.wt = x) (t' last' : Int) (hB : Blk w' b 80 (y.vs ++ [.int .i64 t', .int .i64 last'])) :
    MsA w' m { s with out := some (x, t'), last := last' } := by
  obtain ⟨n1, n2, n3⟩ := h.ne3 b y eo
  have hS : ∀ i, i = b → m.S i := fun i e => Or.inr (Or.inr (Or.inr ⟨y, by rw [e]; exact eo⟩))
  obtain ⟨_, _, ho⟩ := h.out.lay eo
  refine ⟨h.blk.but hb (fun e => n1 e.symm), h.line.but hb (fun b' o e h' => n3 b' o e h') (fun z hz b' o e h' => h.off (h.line.own z hz) b' o e (hS _ h')), h.wl, ?_, map_but h.mp hb (fun e => n2 e.symm), h.rests⟩
  show OutA w' m.o (some (x, t')) last'
  rw [eo]
  exact ⟨ey, hB, ho.but hb (fun b' o e h' => h.off ho b' o e (hS _ h'))⟩
/-- One is out. -/
theorem MsA.outed {w w' : World} {m : ML} {s : MSt} (h : MsA w m s) {p : Nat} {y : SM} {cs : List Value} (hb : But (fun i => i = m.g ∨ i = p) w w') (hp : ¬ m.S p) (hPw : Blk w p 80 cs) (t last : Int) (hblk : Blk w' m.g 73 (mcs { m with o := some (p, y) } s))
    (hP : Blk w' p 80 (y.vs ++ [.int .i64 t, .int .i64 last])) (hy : y.own w') : MsA w' { m with o := some (p, y) } { s with out := some (y.wt, t), last := last } := by
  refine ⟨hblk, h.line.but hb ?_ ?_, h.wl, ⟨rfl, hP, hy⟩, map_but h.mp hb ?_, h.rests⟩
  · rintro b' o e (rfl | rfl)
    · exact (h.ne2 _ o e).1 rfl
    · exact hp (Or.inr (Or.inr (Or.inl ⟨o, e⟩)))
  · rintro z hz b' o e (rfl | rfl)
    · exact h.off (h.line.own z hz) _ o e (Or.inl rfl)
    · exact own_ne (h.line.own z hz) hPw (by decide) e rfl
  · rintro (e | e)
    · exact h.ne1 e.symm
    · exact hp (Or.inr (Or.inl e.symm))

/-- What Step answers. -/
structure RetStep (m : ML) (s : MSt) (now : Int) (R : List Wt × List Dn × Int × MSt) (w : World) (e : Ending) (w' : World) : Prop where
  ret : ∃ (O P : Option Addr) (k l : Nat) (rs : List SM) (ds : List DM) (m' : ML), e = .returned (.tuple #[.slice O rs.length k, .slice P ds.length l, .int .i64 R.2.2.1]) ∧ rs.map SM.wt = R.1 ∧ SRd1 w' O rs.length rs ∧ ds.map DM.dn = R.2.1 ∧ DRd w' P ds.length ds ∧
    MsA w' m' R.2.2.2 ∧ m'.g = m.g ∧ m'.n ≤ m.n + 1 ∧ But m.S w w' ∧ (∀ i, m'.S i → m.S i ∨ w.heap.size ≤ i) ∧ (∀ b o, O = some ⟨b, o, none⟩ → ¬ m'.S b ∧ w.heap.size ≤ b) ∧ (∀ b o, P = some ⟨b, o, none⟩ → ¬ m'.S b ∧ w.heap.size ≤ b)

theorem msStep_bad (m : ML) (s : MSt) (now : Int) (w : World) (h : MsA w m s) (hk : MOk s) (hb : tickBad s now = true) :
    Calls Try.prog 14 #[.pointer (some ⟨m.g, 0, none⟩), .int .i64 now] w (RetStep m s now (stepR s now) w) := by
  rw [stepR_bad hb]
  have hlt : now < s.now := by
    have := hk.n0
    simp only [tickBad, Bool.or_eq_true, decide_eq_true_eq] at hb
    omega
  have HR := hide (msReach_bad m s now w h hlt)
  have H := hide h
  clear h hk hb hlt
  go_enter Try.func14, Try.ntmps14
  go_wp2_with fail
  refine HR.out.mono ?_
  rintro e w1 ⟨rfl, rfl⟩
  go_wp2
  go_ret3
  exact ⟨none, none, 0, 0, [], [], m, rfl, rfl, Or.inl ⟨rfl, rfl⟩, rfl, Or.inl ⟨rfl, rfl⟩, H.out, rfl, Nat.le_succ _, But.refl _ _, fun i h => Or.inl h, (fun _ _ e => by cases e), (fun _ _ e => by cases e)⟩

end Go.Proofs.Ytnialjikpoembaa
