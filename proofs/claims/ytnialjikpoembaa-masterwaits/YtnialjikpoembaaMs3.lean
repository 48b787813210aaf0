/-
  What is proved here: what master's New, Count, reach, silence, send and end return, and what becomes of the master. Condition: numbers as they come of the master's own (see each).
-/
import Derived.Test.YtnialjikpoembaaMs2
namespace Go.Proofs.Ytnialjikpoembaa
set_option linter.unusedVariables false
set_option linter.unusedSimpArgs false
open Go.RowKit Go.Maps

theorem msNew_no (wa ag re : Int) (h : mMay wa ag re = false) (w : World) : Calls Try.prog 9 #[.int .i64 wa, .int .i64 ag, .int .i64 re] w fun e w' => e = .returned (.tuple #[.pointer none, .int .i64 1]) ∧ w = w' := by
  simp only [mMay] at h
  by_cases h1 : 1 ≤ wa
  · have q1 : decide (wa < 1) = false := decide_eq_false (by omega)
    by_cases h2 : 0 ≤ ag
    · have q2 : decide (ag < 0) = false := decide_eq_false (by omega)
      by_cases h3 : ag ≤ 16
      · have q3 : decide (16 < ag) = false := decide_eq_false (by omega)
        have q4 : decide (re < 0) = true := by
          simp [h1, h2, h3] at h
          exact decide_eq_true h
        clear h h1 h2 h3
        go_enter Try.func9, Try.ntmps9
        go_wp2
        go_ret2
        exact ⟨rfl, rfl⟩
      · have q3 : decide (16 < ag) = true := decide_eq_true (by omega)
        clear h h1 h2 h3
        go_enter Try.func9, Try.ntmps9
        go_wp2
        go_ret2
        exact ⟨rfl, rfl⟩
    · have q2 : decide (ag < 0) = true := decide_eq_true (by omega)
      clear h h1 h2
      go_enter Try.func9, Try.ntmps9
      go_wp2
      go_ret2
      exact ⟨rfl, rfl⟩
  · have q1 : decide (wa < 1) = true := decide_eq_true (by omega)
    clear h h1
    go_enter Try.func9, Try.ntmps9
    go_wp2
    go_ret2
    exact ⟨rfl, rfl⟩

/-- A master that is new since w. -/
def RetMNew (wa ag re : Int) (w : World) (e : Ending) (w' : World) : Prop := ∃ m : ML, e = .returned (.tuple #[.pointer (some ⟨m.g, 0, none⟩), .int .i64 0]) ∧ MsA w' m (mNew wa ag re) ∧ m.n = 0 ∧ (∀ i, m.S i → w.heap.size ≤ i) ∧ Below w.heap.size w w'
theorem msNew_ok (wa ag re : Int) (h : mMay wa ag re = true) (w : World) : Calls Try.prog 9 #[.int .i64 wa, .int .i64 ag, .int .i64 re] w (RetMNew wa ag re w) := by
  simp only [mMay, Bool.and_eq_true, decide_eq_true_eq] at h
  obtain ⟨⟨⟨h1, h2⟩, h3⟩, h4⟩ := h
  have q1 : decide (wa < 1) = false := decide_eq_false (by omega)
  have q2 : decide (ag < 0) = false := decide_eq_false (by omega)
  have q3 : decide (16 < ag) = false := decide_eq_false (by omega)
  have q4 : decide (re < 0) = false := decide_eq_false (by omega)
  clear h1 h2 h3 h4
  have hmm := @run_makeMap Try.prog
  go_enter Try.func9, Try.ntmps9
  go_wp2
  go_ret2
  have hm := World.ownsMap_made w Try.prog 3 (plainElem (H := Unit) Try.prog 3)
  have hb : Below (w.alloc (.map #[] 0)).heap.size (w.alloc (.map #[] 0)) ((w.alloc (.map #[] 0)).alloc (.cells #[.int .i64 wa, .int .i64 ag, .int .i64 re, .int .i64 0, .int .i64 0, .slice none 0 0, .pointer none, .map (some w.heap.size)] 73)) := (Below.refl _ _).alloc (Nat.le_refl _) _
  have hB := Blk.new (w.alloc (.map #[] 0)) 73 [.int .i64 wa, .int .i64 ag, .int .i64 re, .int .i64 0, .int .i64 0, .slice none 0 0, .pointer none, .map (some w.heap.size)]
  have e1 : (w.alloc (.map #[] 0)).heap.size = w.heap.size + 1 := by simp
  rw [e1] at hB
  refine ⟨⟨w.heap.size + 1, w.heap.size, 0, .map [], none, 0, [], none⟩, rfl, ⟨hB, ⟨World.ownsRow_nil _ _ _ _, by simp⟩, rfl, trivial, map_but hm (But.ofBelow hb (fun _ => False)) (fun h => h), ?_⟩, rfl, ?_, below_on ((Below.refl _ _).alloc (Nat.le_refl _) _) hb⟩
  · intro u _ _
    exact ⟨fun h => by simp [has] at h, fun _ => Int.le_refl _⟩
  · rintro i (rfl | rfl | ⟨o, e⟩ | ⟨y, e⟩)
    · exact Nat.le_succ _
    · exact Nat.le_refl _
    · cases e
    · cases e

theorem msCount (m : ML) (s : MSt) (w : World) (h : MsA w m s) (hl : s.line.length ≤ 1000000) : Calls Try.prog 21 #[.pointer (some ⟨m.g, 0, none⟩)] w fun e w' => e = .returned (.int .i64 (mCount s : Nat)) ∧ w = w' := by
  obtain ⟨c0, c1, c2, c3, c4, c5, c6, c7⟩ := h.blk.eight
  have hw : m.ws.length = s.line.length := by rw [← h.wl, List.length_map]
  have hc : mCount s = m.ws.length + outN s.out := by rw [hw]; rfl
  rw [hc]
  have ho := h.out
  clear h c0 c1 c2 c3 c4 c7
  rcases out_cases s with e | ⟨x, t, e⟩
  · rw [e] at ho ⊢
    have eo := ho.none_
    rw [eo] at c6
    simp only [optP] at c6
    simp only [Go.Proofs.Ytnialjikpoembaa.outN, Nat.add_zero]
    clear ho hc hw e eo
    go_enter Try.func21, Try.ntmps21
    go_wp2
    go_ret
    exact ⟨rfl, rfl⟩
  · rw [e] at ho ⊢
    obtain ⟨b, y, eo, _⟩ := ho.some_
    rw [eo] at c6
    simp only [optP] at c6
    have hle : m.ws.length ≤ 1000000 := by omega
    clear ho hc hw e eo hl
    go_enter Try.func21, Try.ntmps21
    go_wp2
    go_ret
    exact ⟨by first | rfl | (congr 2; simp only [Go.Proofs.Ytnialjikpoembaa.outN]; rw [IntKind.wrap_i64]; omega), rfl⟩

theorem msReach_bad (m : ML) (s : MSt) (now : Int) (w : World) (h : MsA w m s) (hn : now < s.now) : Calls Try.prog 29 #[.pointer (some ⟨m.g, 0, none⟩), .int .i64 now] w fun e w' => e = .returned (.int .i64 1) ∧ w = w' := by
  obtain ⟨c0, c1, c2, c3, c4, c5, c6, c7⟩ := h.blk.eight
  have q := decide_eq_true hn
  clear h c0 c1 c2 c4 c5 c6 c7 hn
  go_enter Try.func29, Try.ntmps29
  go_wp2
  go_ret
  exact ⟨rfl, rfl⟩
theorem msReach_ok (m : ML) (s : MSt) (now : Int) (w : World) (h : MsA w m s) (hn : s.now ≤ now) : Calls Try.prog 29 #[.pointer (some ⟨m.g, 0, none⟩), .int .i64 now] w fun e w' => e = .returned (.int .i64 0) ∧ MsA w' m { s with now := now } ∧ But (fun i => i = m.g) w w' := by
  obtain ⟨c0, c1, c2, c3, c4, c5, c6, c7⟩ := h.blk.eight
  have q : decide (now < s.now) = false := decide_eq_false (by omega)
  have fz := h.blk.frozen
  have H := hide h
  have HN := hide hn
  clear h c0 c1 c2 c4 c5 c6 c7 hn
  go_enter Try.func29, Try.ntmps29
  go_wp2
  go_ret
  have hb : But (fun i => i = m.g) w (w.setCell ⟨m.g, 3, none⟩ (.int .i64 now)) := But.setCell w _ rfl
  exact ⟨rfl, H.out.turnG hb _ (H.out.blk.set 3 _) rfl rfl rfl (H.out.rests.tick now HN.out), hb⟩

theorem Blk.eleven {w : World} {g : Nat} {t : TypeId} {v0 v1 v2 v3 v4 v5 v6 v7 v8 v9 v10 : Value} (h : Blk w g t [v0, v1, v2, v3, v4, v5, v6, v7, v8, v9, v10]) :
    w.cell? ⟨g, 0, none⟩ = some v0 ∧ w.cell? ⟨g, 1, none⟩ = some v1 ∧ w.cell? ⟨g, 2, none⟩ = some v2 ∧ w.cell? ⟨g, 3, none⟩ = some v3 ∧ w.cell? ⟨g, 4, none⟩ = some v4 ∧ w.cell? ⟨g, 5, none⟩ = some v5 ∧ w.cell? ⟨g, 6, none⟩ = some v6 ∧ w.cell? ⟨g, 7, none⟩ = some v7 ∧ w.cell? ⟨g, 8, none⟩ = some v8 ∧ w.cell? ⟨g, 9, none⟩ = some v9 ∧ w.cell? ⟨g, 10, none⟩ = some v10 :=
  ⟨h.cell 0, h.cell 1, h.cell 2, h.cell 3, h.cell 4, h.cell 5, h.cell 6, h.cell 7, h.cell 8, h.cell 9, h.cell 10⟩

theorem msSilence (b : Nat) (y : SM) (t last now : Int) (w : World) (h : Blk w b 80 (y.vs ++ [.int .i64 t, .int .i64 last])) (h0 : 0 ≤ last) (h1 : last ≤ now) (h2 : now ≤ 9223372036854775807) :
    Calls Try.prog 30 #[.pointer (some ⟨b, 0, none⟩), .int .i64 now] w fun e w' => e = .returned (.int .i64 (now - last)) ∧ w = w' := by
  have c10 : w.cell? ⟨b, 10, none⟩ = some (.int .i64 last) := h.cell 10
  clear h
  have q : IntKind.i64.wrap (now - last) = now - last := by rw [IntKind.wrap_i64]; omega
  go_enter Try.func30, Try.ntmps30
  go_wp2
  go_ret
  refine ⟨?_, rfl⟩
  first | rfl | (rw [q])

end Go.Proofs.Ytnialjikpoembaa
