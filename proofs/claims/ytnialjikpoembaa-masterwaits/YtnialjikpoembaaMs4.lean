/-
  What is proved here: what master's send (of the request that is out) returns, and what becomes of it. Condition: it was sent at most a million times.
-/
import Derived.Test.YtnialjikpoembaaMs3
import Derived.Test.YtnialjikpoembaaBox2
namespace Go.Proofs.Ytnialjikpoembaa
set_option linter.unusedVariables false
set_option linter.unusedSimpArgs false
open Go.RowKit Go.Maps

/-- It is told once more. -/
def RetSend (b : Nat) (y : SM) (t now : Int) (w : World) (e : Ending) (w' : World) : Prop :=
  ∃ O z, e = .returned (.slice (some ⟨O, 0, none⟩) 1 1) ∧ Blk w' O 51 (SM.vs z) ∧ z.own w' ∧ z.wt = y.wt ∧ Blk w' b 80 (y.vs ++ [.int .i64 (t + 1), .int .i64 now]) ∧ But (fun i => i = b) w w' ∧ w.heap.size ≤ O
theorem Blk.set9_2 {w : World} {g : Nat} {t : TypeId} {x0 x1 x2 x3 x4 x5 x6 x7 x8 : Value} (h : Blk w g t [x0, x1, x2, x3, x4, x5, x6, x7, x8]) (v2 v3 v4 v5 v6 v7 v8 : Value) : Blk (((((((w.setCell ⟨g, 2, none⟩ v2).setCell ⟨g, 3, none⟩ v3).setCell ⟨g, 4, none⟩ v4).setCell ⟨g, 5, none⟩ v5).setCell ⟨g, 6, none⟩ v6).setCell ⟨g, 7, none⟩ v7).setCell ⟨g, 8, none⟩ v8) g t [x0, x1, v2, v3, v4, v5, v6, v7, v8] :=
  ((((((h.set 2 v2).set 3 v3).set 4 v4).set 5 v5).set 6 v6).set 7 v7).set 8 v8
theorem Blk.nine {w : World} {g : Nat} {t : TypeId} {v0 v1 v2 v3 v4 v5 v6 v7 v8 : Value} (h : Blk w g t [v0, v1, v2, v3, v4, v5, v6, v7, v8]) :
    w.cell? ⟨g, 0, none⟩ = some v0 ∧ w.cell? ⟨g, 1, none⟩ = some v1 ∧ w.cell? ⟨g, 2, none⟩ = some v2 ∧ w.cell? ⟨g, 3, none⟩ = some v3 ∧ w.cell? ⟨g, 4, none⟩ = some v4 ∧ w.cell? ⟨g, 5, none⟩ = some v5 ∧ w.cell? ⟨g, 6, none⟩ = some v6 ∧ w.cell? ⟨g, 7, none⟩ = some v7 ∧ w.cell? ⟨g, 8, none⟩ = some v8 :=
  ⟨h.cell 0, h.cell 1, h.cell 2, h.cell 3, h.cell 4, h.cell 5, h.cell 6, h.cell 7, h.cell 8⟩
theorem but_set7 (w : World) (g : Nat) (v2 v3 v4 v5 v6 v7 v8 : Value) : But (fun i => i = g) w (((((((w.setCell ⟨g, 2, none⟩ v2).setCell ⟨g, 3, none⟩ v3).setCell ⟨g, 4, none⟩ v4).setCell ⟨g, 5, none⟩ v5).setCell ⟨g, 6, none⟩ v6).setCell ⟨g, 7, none⟩ v7).setCell ⟨g, 8, none⟩ v8) :=
  ((((((((But.refl (fun i => i = g) w).setCell' _ rfl).setCell' _ rfl).setCell' _ rfl).setCell' _ rfl).setCell' _ rfl).setCell' _ rfl).setCell' _ rfl)
theorem msSend (b : Nat) (y : SM) (t last now : Int) (w : World) (h : Blk w b 80 (y.vs ++ [.int .i64 t, .int .i64 last])) (ho : y.own w) (h0 : 0 ≤ t) (h1 : t ≤ 1000000) (hl : y.r.vs.length ≤ 1000000) :
    Calls Try.prog 31 #[.pointer (some ⟨b, 0, none⟩), .int .i64 now] w (RetSend b y t now w) := by
  obtain ⟨tk, u, r, V, k⟩ := y
  obtain ⟨c0, c1, c2, c3, c4, c5, c6, c7, c8, c9, c10⟩ := Blk.eleven h
  simp only at c0 c1 c2 c3 c4 c5 c6 c7 c8 hl
  have fz := h.frozen
  have hlt := h.lt
  have q : IntKind.i64.wrap (t + 1) = t + 1 := by rw [IntKind.wrap_i64]; omega
  have H := hide h
  have HO := hide ho
  clear h ho h0 h1
  go_enter Try.func31, Try.ntmps31
  go_wp2_with fail
  have hB0 : Blk ((w.setCell ⟨b, 9, none⟩ (.int .i64 (t + 1))).setCell ⟨b, 10, none⟩ (.int .i64 now)) b 80 (SM.vs ⟨tk, u, r, V, k⟩ ++ [.int .i64 (t + 1), .int .i64 now]) := (H.out.set 9 _).set 10 _
  have hU0 : But (fun i => i = b) w ((w.setCell ⟨b, 9, none⟩ (.int .i64 (t + 1))).setCell ⟨b, 10, none⟩ (.int .i64 now)) := ((But.refl (fun i => i = b) w).setCell' _ rfl).setCell' _ rfl
  have hs0 : ((w.setCell ⟨b, 9, none⟩ (.int .i64 (t + 1))).setCell ⟨b, 10, none⟩ (.int .i64 now)).heap.size = w.heap.size := by simp
  have ho0 : SM.own ((w.setCell ⟨b, 9, none⟩ (.int .i64 (t + 1))).setCell ⟨b, 10, none⟩ (.int .i64 now)) ⟨tk, u, r, V, k⟩ := HO.out.but hU0 (fun b' o' e h' => own_ne HO.out H.out (by decide) e h')
  clear c0 c1 c2 c3 c4 c5 c6 c7 c8 c9 c10 fz q
  generalize (w.setCell ⟨b, 9, none⟩ (.int .i64 (t + 1))).setCell ⟨b, 10, none⟩ (.int .i64 now) = U0 at *
  generalize hU : U0.alloc _ = U
  obtain ⟨zU, bU⟩ := box1 U0 51 (SM.vs ⟨tk, u, r, V, k⟩) U hU.symm
  rw [hs0] at zU
  have hsU : U.heap.size = w.heap.size + 1 := by rw [← hU, ← hs0]; simp
  clear hU
  have HB0 := hide (hB0.keep bU)
  have HU0 := hide (hU0.on bU)
  have HS := hide hs0
  have HSU := hide hsU
  refine (copied_any r V k U (ho0.keep bU).is hl).mono ?_
  rintro e w2 ⟨C, ck, rfl, o2, n2, b2⟩
  have ZT := hide (zU.keep b2)
  have HB2 := hide (HB0.out.keep b2)
  have HU2 := hide (HU0.out.on b2)
  have O2 := hide o2
  have N2 := hide n2
  have hs2 : w.heap.size < w2.heap.size := ZT.out.lt
  have hl2 : U.heap.size ≤ w2.heap.size := b2.size
  clear zU bU hB0 hU0 ho0 hs0 hsU o2 n2 b2 H HO HB0
  obtain ⟨c0, c1, c2, c3, c4, c5, c6, c7, c8⟩ := ZT.out.nine
  have fz := ZT.out.frozen
  have hlt2 := ZT.out.lt
  simp only [arr, rqv]
  go_wp2_with fail
  go_ret
  have hb7 := but_set7 w2 w.heap.size (.int .i64 r.f) (.int .i64 r.a) (.int .i64 r.c) (.slice C r.vs.length ck) (.int .i64 r.t) (.int .i64 r.an) (.int .i64 r.o)
  have hsz : (((((((w2.setCell ⟨w.heap.size, 2, none⟩ (.int .i64 r.f)).setCell ⟨w.heap.size, 3, none⟩ (.int .i64 r.a)).setCell ⟨w.heap.size, 4, none⟩ (.int .i64 r.c)).setCell ⟨w.heap.size, 5, none⟩ (.slice C r.vs.length ck)).setCell ⟨w.heap.size, 6, none⟩ (.int .i64 r.t)).setCell ⟨w.heap.size, 7, none⟩ (.int .i64 r.an)).setCell ⟨w.heap.size, 8, none⟩ (.int .i64 r.o)).heap.size = w2.heap.size := by simp
  clear c0 c1 c2 c3 c4 c5 c6 c7 c8 fz
  generalize ((((((w2.setCell ⟨w.heap.size, 2, none⟩ (.int .i64 r.f)).setCell ⟨w.heap.size, 3, none⟩ (.int .i64 r.a)).setCell ⟨w.heap.size, 4, none⟩ (.int .i64 r.c)).setCell ⟨w.heap.size, 5, none⟩ (.slice C r.vs.length ck)).setCell ⟨w.heap.size, 6, none⟩ (.int .i64 r.t)).setCell ⟨w.heap.size, 7, none⟩ (.int .i64 r.an)).setCell ⟨w.heap.size, 8, none⟩ (.int .i64 r.o) = X at *
  generalize hY : X.alloc _ = Y
  obtain ⟨zY, bY⟩ := box1 X 51 (SM.vs ⟨tk, u, r, C, ck⟩) Y hY.symm
  rw [hsz] at zY
  have hn2 := N2.out
  have hsu := HSU.out
  refine ⟨w2.heap.size, ⟨tk, u, r, C, ck⟩, rfl, zY, ?_, rfl, (HB2.out.but hb7 (by omega)).keep bY, ?_, by omega⟩
  · have := own_but O2.out hb7 (fun b' o' e' h' => by have := hn2 b' o' e'; omega)
    exact SM.own.keep (s := ⟨tk, u, r, C, ck⟩) (own_baseN this (fun _ _ _ => Nat.zero_le _)) bY
  · exact ((HU2.out.wide (S' := fun i => i = b) (fun _ h => h)).trans hb7 (fun i hi h => by omega)).on bY

end Go.Proofs.Ytnialjikpoembaa
