/-
  What is proved here: what the index's Add returns and does. Conditions: texts of at most 65535 bytes; at most a million calls.
-/
import Derived.Test.YtfjafpbmgbnllaaGreatSp2
import Derived.Test.YtfjafpbmgbnllaaGreatTp6
import Derived.Test.YtfjafpbmgbnllaaGreatSr4
namespace Go.Proofs.YtfjafpbmgbnllaaGreat
set_option linter.unusedVariables false
set_option linter.unusedSimpArgs false
open Go.RowKit Go.Maps

/-- The index with its filters' sets turned, its wants not yet. -/
structure Mid (w0 w : World) (m : Px) (c f : List UInt8) (G' : List UInt8 → Option Nat) (tn' : Int) : Prop where
  blk : Blk w m.B 56 [.map (some m.gw), .map (some m.gf), .int .i64 tn']
  wm : ∃ D, OW w m.gw m.K D ∧ WIn D m.L
  fm : ∃ D, OF w m.gf (m.K + 1) D ∧ FIn D G'
  im : ∀ d g, G' d = some g → g ≠ m.gw ∧ g ≠ m.gf ∧ (∃ D, OI w g (m.K + 1) D ∧ ∀ f', has D (.string f') = (decide (d = c ∧ f' = f) || hadP m.L d f')) ∧ (d = c ∨ ∃ e ∈ m.L, e.c = d)
  al : (∃ g, G' c = some g) ∧ ∀ e ∈ m.L, ∃ g, G' e.c = some g
  inj : ∀ d d' g, G' d = some g → G' d' = some g → d = d'
  ap : m.gw ≠ m.gf
  gx : ∀ d g, G' d = some g → m.G d = some g ∨ w0.heap.size ≤ g
def MidS (m : Px) (G' : List UInt8 → Option Nat) (i : Nat) : Prop := i = m.B ∨ i = m.gw ∨ i = m.gf ∨ ∃ d, G' d = some i
section
variable {w0 w w' : World} {m : Px} {c f : List UInt8} {G' : List UInt8 → Option Nat} {tn' : Int}
theorem Mid.lt (h : Mid w0 w m c f G' tn') {i : Nat} (hi : MidS m G' i) : i < w.heap.size := by
  rcases hi with rfl | rfl | rfl | ⟨d, hd⟩
  · exact h.blk.lt
  · obtain ⟨D, hD, _⟩ := h.wm; exact hD.lt
  · obtain ⟨D, hD, _⟩ := h.fm; exact hD.lt
  · obtain ⟨_, _, ⟨D, hD, _⟩, _⟩ := h.im d i hd; exact hD.lt
theorem Mid.same (h : Mid w0 w m c f G' tn') (hs : ∀ i, MidS m G' i → w'.heap[i]? = w.heap[i]?) : Mid w0 w' m c f G' tn' := by
  refine ⟨(hs m.B (Or.inl rfl)).trans h.blk, ?_, ?_, fun d g hd => ?_, h.al, h.inj, h.ap, h.gx⟩
  · obtain ⟨D, hD, hi⟩ := h.wm
    exact ⟨D, map_same hD (hs m.gw (Or.inr (Or.inl rfl))), hi⟩
  · obtain ⟨D, hD, hi⟩ := h.fm
    exact ⟨D, map_same hD (hs m.gf (Or.inr (Or.inr (Or.inl rfl)))), hi⟩
  · obtain ⟨h1, h2, ⟨D, hD, hi⟩, h3⟩ := h.im d g hd
    exact ⟨h1, h2, ⟨D, map_same hD (hs g (Or.inr (Or.inr (Or.inr ⟨d, hd⟩)))), hi⟩, h3⟩
theorem Mid.keep (h : Mid w0 w m c f G' tn') (b : Below w.heap.size w w') : Mid w0 w' m c f G' tn' := h.same fun i hi => b.block i (h.lt hi)
theorem Mid.cell (h : Mid w0 w m c f G' tn') {g : Nat} {t : TypeId} {cs : List Value} (hB : Blk w g t cs) (hg : g ≠ m.B) (i : Nat) (v : Value) : Mid w0 (w.setCell ⟨g, i, none⟩ v) m c f G' tn' :=
  h.same fun j hj => Below.heap_setCell _ _ _ _ (fun e => by
    have e' : j = g := e
    subst e'
    rcases hj with rfl | rfl | rfl | ⟨d, hd⟩
    · exact hg rfl
    · obtain ⟨D, hD, _⟩ := h.wm; exact map_ne hD hB rfl
    · obtain ⟨D, hD, _⟩ := h.fm; exact map_ne hD hB rfl
    · obtain ⟨_, _, ⟨D, hD, _⟩, _⟩ := h.im d j hd; exact map_ne hD hB rfl)
theorem Mid.of_had (h : PxA w m) (hh : hadP m.L c f = true) : Mid w w m c f m.G m.tn := by
  obtain ⟨e, he, e1, e2⟩ := (hadP_iff _ _ _).1 hh
  refine ⟨h.blk, h.wm, ?_, fun d g hd => ?_, ⟨e1 ▸ h.al e he, h.al⟩, h.inj, h.ap, fun d g hd => Or.inl hd⟩
  · obtain ⟨D, hD, hi⟩ := h.fm
    exact ⟨D, hD.mono (Nat.le_succ _), hi⟩
  · obtain ⟨h1, h2, ⟨D, hD, hi⟩, h3⟩ := h.im d g hd
    refine ⟨h1, h2, ⟨D, hD.mono (Nat.le_succ _), fun f' => ?_⟩, Or.inr h3⟩
    rw [hi f']
    by_cases hx : d = c ∧ f' = f
    · rw [hx.1, hx.2, hh]; simp
    · simp [hx]
theorem Mid.of_enter {e : Ending} (h : PxA w m) (r : RetEn m c f w e w') : e = .returned (.int .i64 (m.tn + 1)) ∧ But m.S w w' ∧ ∃ G', Mid w w' m c f G' (m.tn + 1) := by
  obtain ⟨g, D, DI, he, hB, hF, hFI, hI, hh, hg, hb⟩ := r
  have hbS : But m.S w w' := hb.wide fun i hi => by
    rcases hi with rfl | rfl | hi
    · exact Or.inl rfl
    · exact Or.inr (Or.inr (Or.inl rfl))
    · exact Or.inr (Or.inr (Or.inr ⟨c, hi⟩))
  have hgl : ∀ d g', d ≠ c → m.G d = some g' → g' ≠ g ∧ w'.heap[g']? = w.heap[g']? := by
    intro d g' hd hg'
    have hlt := h.lt (Or.inr (Or.inr (Or.inr ⟨d, hg'⟩)))
    refine ⟨fun e => ?_, hb.block g' hlt fun hi => ?_⟩
    · subst e
      rcases hg with hg | ⟨_, hg⟩
      · exact hd (h.inj d c g' hg' hg)
      · omega
    · rcases hi with hi | hi | hi
      · exact h.ne_i hg' hi.symm
      · exact (h.im d g' hg').2.1 hi
      · exact hd (h.inj d c g' hg' hi)
  have hw : w'.heap[m.gw]? = w.heap[m.gw]? := by
    obtain ⟨D, hD, _⟩ := h.wm
    refine hb.block m.gw hD.lt fun hi => ?_
    rcases hi with hi | hi | hi
    · exact h.ne_w hi.symm
    · exact h.ap hi
    · exact (h.im c m.gw hi).1 rfl
  have hgn : g ≠ m.gw ∧ g ≠ m.gf := by
    rcases hg with hg | ⟨_, hg⟩
    · exact ⟨(h.im c g hg).1, (h.im c g hg).2.1⟩
    · have h1 := h.lt (Or.inr (Or.inl rfl))
      have h2 := h.lt (Or.inr (Or.inr (Or.inl rfl)))
      constructor <;> omega
  refine ⟨he, hbS, setG m.G c (some g), hB, ?_, ⟨D, hF, hFI⟩, fun d g' hd => ?_, ⟨⟨g, if_pos rfl⟩, fun e he => ?_⟩, fun d d' g' hd hd' => ?_, h.ap, fun d g' hd => ?_⟩
  · obtain ⟨D, hD, hi⟩ := h.wm
    exact ⟨D, map_same hD hw, hi⟩
  · unfold setG at hd
    by_cases hdc : d = c
    · subst hdc
      rw [if_pos rfl] at hd
      injection hd with hd
      subst hd
      exact ⟨hgn.1, hgn.2, ⟨DI, hI, fun f' => by rw [hh f']; simp⟩, Or.inl rfl⟩
    · rw [if_neg hdc] at hd
      obtain ⟨h1, h2, ⟨D2, hD2, hi2⟩, h3⟩ := h.im d g' hd
      exact ⟨h1, h2, ⟨D2, (map_same hD2 (hgl d g' hdc hd).2).mono (Nat.le_succ _), fun f' => by rw [hi2 f']; simp [hdc]⟩, Or.inr h3⟩
  · unfold setG
    by_cases hdc : e.c = c
    · exact ⟨g, if_pos hdc⟩
    · rw [if_neg hdc]
      exact h.al e he
  · unfold setG at hd hd'
    by_cases h1 : d = c <;> by_cases h2 : d' = c
    · rw [h1, h2]
    · rw [if_pos h1] at hd
      rw [if_neg h2] at hd'
      injection hd with hd
      exact absurd hd.symm (hgl d' g' h2 hd').1
    · rw [if_neg h1] at hd
      rw [if_pos h2] at hd'
      injection hd' with hd'
      exact absurd hd'.symm (hgl d g' h1 hd).1
    · rw [if_neg h1] at hd
      rw [if_neg h2] at hd'
      exact h.inj d d' g' hd hd'
  · unfold setG at hd
    by_cases hdc : d = c
    · subst hdc
      rw [if_pos rfl] at hd
      injection hd with hd
      subst hd
      rcases hg with hg | ⟨_, hg⟩
      · exact Or.inl hg
      · exact Or.inr hg
    · rw [if_neg hdc] at hd
      exact Or.inl hd
theorem Mid.done {X w5 : World} {D : DU} {q : Int} (h : Mid w0 X m c f G' tn') (ok : OkP m.L m.tn m.K) (ok' : OkP (addP m.L c f q (m.tn + 1)) tn' (m.K + 1)) (hc : c.length ≤ 65535) (hf : f.length ≤ 65535) (hD : OW X m.gw m.K D) (hi : WIn D m.L)
    (hu : OW w5 m.gw (m.K + 1) (D.put (mkL c f) (tmD q (trn m.L c f (m.tn + 1))))) (hg : X.grownBy w5 (some m.gw)) : PxA w5 ⟨m.B, m.gw, m.gf, G', addP m.L c f q (m.tn + 1), tn', m.K + 1⟩ := by
  have hs : ∀ i, i < X.heap.size → i ≠ m.gw → w5.heap[i]? = X.heap[i]? := fun i hl hne => hg.block i hl (fun e => hne (by injection e))
  obtain ⟨DF, hF, hFI⟩ := h.fm
  refine ⟨(hs m.B h.blk.lt (map_ne hD h.blk)).trans h.blk, ok', ⟨_, hu, hi.add ok hD.isMap hc hf q (m.tn + 1)⟩, ⟨DF, map_same hF (hs m.gf hF.lt (fun e => h.ap e.symm)), hFI⟩, fun d g hd => ?_, fun e he => ?_, h.inj, h.ap⟩
  · obtain ⟨h1, h2, ⟨D2, hD2, hi2⟩, h3⟩ := h.im d g hd
    refine ⟨h1, h2, ⟨D2, map_same hD2 (hs g hD2.lt h1), fun f' => ?_⟩, ?_⟩
    · rw [hi2 f']
      exact (hadP_addP ok c f q (m.tn + 1) d f').symm
    · rcases h3 with rfl | ⟨e, he, rfl⟩
      · obtain ⟨e, he, h4, _⟩ := addP_has m.L d f q (m.tn + 1)
        exact ⟨e, he, h4⟩
      · obtain ⟨e', he', h4, _⟩ := addP_old m.L c f q (m.tn + 1) he
        exact ⟨e', he', h4⟩
  · rcases addP_mem ok he with ⟨h1, _⟩ | rfl
    · exact h.al.2 e h1
    · exact h.al.1
end

/-- What Add answers. -/
def RetPA (m : Px) (c f : List UInt8) (q : Int) (w : World) (e : Ending) (w' : World) : Prop :=
  if filterL f = false then e = .returned (.tuple #[.bool false, .int .i64 121]) ∧ Below w.heap.size w w'
  else if q < 0 ∨ 2 < q then e = .returned (.tuple #[.bool false, .int .i64 1]) ∧ Below w.heap.size w w'
  else ∃ m', e = .returned (.tuple #[.bool (hadP m.L c f), .int .i64 0]) ∧ PxA w' m' ∧ m'.B = m.B ∧ ses m'.L = addE (ses m.L) c f q ∧ m'.K = m.K + 1 ∧ But m.S w w' ∧ ∀ i, m'.S i → m.S i ∨ w.heap.size ≤ i
set_option maxHeartbeats 4000000 in
set_option maxRecDepth 100000 in
theorem pAdd_any (m : Px) (c f : List UInt8) (q : Int) (w : World) (h : PxA w m) (hc : c.length ≤ 65535) (hf : f.length ≤ 65535) (hK : m.K ≤ 1000000) :
    Calls Tryz.prog 6 #[.pointer (some ⟨m.B, 0, none⟩), .string (str c), .agg #[.string (str f), .int .i64 q]] w (RetPA m c f q w) := by
  have H := hide h
  have hBl := h.blk.lt
  have PF := fun W => filter_any f (by omega) W
  have PE := hide fun (W : World) (h : PxA W m) => pEnter_any m c f W h hc hf hK
  unfold mkV at PE
  clear h
  go_enter Tryz.func6, Tryz.ntmps6
  go_upto_region 1 with fail
  generalize hW : w.alloc _ = W
  obtain ⟨x, hx, hB, bW, hsz⟩ := boxedS (cs := [.string (str f), .int .i64 q]) hW
  rw [hx]
  have bw : Below w.heap.size w W := by rw [hx]; exact bW
  have hgx : m.B < x := by omega
  have c4 := hB.cell 0
  have HB := hide hB
  have Hbw := hide bw
  clear hW hB bW bw
  have PF := PF W
  go_wp2_with fail
  refine PF.mono ?_
  rintro e V ⟨rfl, bV⟩
  have HB := hide (HB.out.keep bV)
  have Hbw := hide (below_on Hbw.out bV)
  have hVs := bV.size
  clear PF bV c4
  have c5 : V.cell? ⟨x, 1, none⟩ = some (.int .i64 q) := HB.out.cell 1
  cases hfl : filterL f with
  | false =>
    have Hf := hide hfl
    clear hfl
    have en : errN false 121 = 121 := rfl
    rw [en]
    go_wp2_with fail
    go_ret2
    unfold RetPA
    rw [if_pos Hf.out]
    exact ⟨rfl, Hbw.out⟩
  | true =>
  have Hf := hide hfl
  clear hfl
  have en : errN true 121 = 0 := rfl
  rw [en]
  by_cases hq : q < 0 ∨ 2 < q
  · have Hq := hide hq
    by_cases hq1 : q < 0
    · clear hq
      go_wp2_with fail
      go_ret2
      unfold RetPA
      rw [if_neg (by rw [Hf.out]; simp), if_pos Hq.out]
      exact ⟨rfl, Hbw.out⟩
    · have hq2 : 2 < q := by omega
      clear hq
      go_wp2_with fail
      go_ret2
      unfold RetPA
      rw [if_neg (by rw [Hf.out]; simp), if_pos Hq.out]
      exact ⟨rfl, Hbw.out⟩
  have Hq := hide hq
  have hq1 : ¬ q < 0 := fun h => hq (Or.inl h)
  have hq2 : ¬ 2 < q := fun h => hq (Or.inr h)
  clear hq
  have c50 : V.cell? ⟨x, 0, none⟩ = some (.string (str f)) := HB.out.cell 0
  have HR := hide (H.out.keep Hbw.out)
  go_wp2_with fail
  clear c5 c50
  generalize hY : V.alloc _ = Y
  obtain ⟨a, ha, hA, bY, hsY⟩ := boxedS (cs := [.string (str c), .string (str f)]) hY
  rw [ha]
  have bVY : Below V.heap.size V Y := by rw [ha]; exact bY
  have HR := hide (HR.out.keep bVY)
  have HB := hide (HB.out.keep bVY)
  have Hbw := hide (below_on Hbw.out bVY)
  have HA := hide hA
  have hxa : x < a ∧ m.B < a := ⟨by have := HB.out.lt; omega, by omega⟩
  clear hY bY bVY
  obtain ⟨Q, hQ⟩ : ∃ Q, qOf m.L c f = Q := ⟨_, rfl⟩
  obtain ⟨T, hT⟩ : ∃ T, trn m.L c f 0 = T := ⟨_, rfl⟩
  have hl : ∀ W, Sam [m.B, a, m.gw] Y W → (Instr.lookup 53 (.map (some m.gw)) (.agg #[.string (str c), .string (str f)]) true).run Tryz.prog W = .ok (.tuple #[.agg #[.int .i64 Q, .int .i64 T], .bool (hadP m.L c f)]) W := fun W b => by
    obtain ⟨D, hD, hi⟩ := HR.out.wm
    have := look_of (map_same hD (b m.gw (by simp))) hi HR.out.ok hc hf
    rw [hQ, hT] at this
    exact this
  have rA : ∀ W, Sam [m.B, a, m.gw] Y W → W.rangeAt a 0 [.string (str c), .string (str f)] := fun W b => (HA.out.sam b (by simp)).range
  have rB : ∀ W, Sam [m.B, a, m.gw] Y W → W.cell? ⟨m.B, 0, none⟩ = some (.map (some m.gw)) := fun W b => (HR.out.blk.sam b (by simp)).cell 0
  have SL : Hid (∀ i ∈ [m.B, a, m.gw], i < Y.heap.size) := hide (by
    intro i hi
    simp only [List.mem_cons, List.not_mem_nil, or_false] at hi
    rcases hi with rfl | rfl | rfl
    · exact HR.out.blk.lt
    · exact HA.out.lt
    · obtain ⟨D, hD, _⟩ := HR.out.wm; exact hD.lt)
  have hsd : Y.drew.heap.size = Y.heap.size := rfl
  obtain ⟨hd, hhd⟩ : ∃ hd, hadP m.L c f = hd := ⟨_, rfl⟩
  rw [hhd] at hl
  have Hhd := hide hhd
  have HQ := hide hQ
  have HTe := hide hT
  clear hhd hQ hT
  refine wp_region_held_drew (S := fun w' => Sam [m.B, a, m.gw] Y w') (by kernel_rfl) ?_ (fun hHeld => ?_)
  · exact Sam.drew _ _
  refine wpAnyH_take (i := 0) (oi := { dst := some 33, op := _, type := _, pos := _, after := _, guard := _ }) (v := ?v1x1) rfl (by kernel_rfl) (by kernel_rfl) (by kernel_rfl) (fun _ _ _ h => h) (Or.inl ⟨by rfl, ?hy1x1⟩) hHeld ?rest1x1
  case hy1x1 => (intro w hSw; go_simp <;> with_reducible rfl)
  try simp only [Act.put, List.setIfInBounds_toArray, List.set_cons_zero, List.set_cons_succ]
  refine wpAnyH_take (i := 1) (oi := { dst := some 34, op := _, type := _, pos := _, after := _, guard := _ }) (v := ?v1x2) rfl (by kernel_rfl) (by kernel_rfl) (by kernel_rfl) (fun _ _ _ h => h) (Or.inl ⟨by rfl, ?hy1x2⟩) hHeld ?rest1x2
  case hy1x2 => (intro w hSw; go_simp <;> with_reducible rfl)
  try simp only [Act.put, List.setIfInBounds_toArray, List.set_cons_zero, List.set_cons_succ]
  refine wpAnyH_take (i := 2) (oi := { dst := some 35, op := _, type := _, pos := _, after := _, guard := _ }) (v := ?v1x3) rfl (by kernel_rfl) (by kernel_rfl) (by kernel_rfl) (fun _ _ _ h => h) (Or.inl ⟨by rfl, ?hy1x3⟩) hHeld ?rest1x3
  case hy1x3 => (intro w hSw; go_simp <;> with_reducible rfl)
  try simp only [Act.put, List.setIfInBounds_toArray, List.set_cons_zero, List.set_cons_succ]
  refine wpAnyH_take (i := 3) (oi := { dst := some 36, op := _, type := _, pos := _, after := _, guard := _ }) (v := ?v1x4) rfl (by kernel_rfl) (by kernel_rfl) (by kernel_rfl) (fun _ _ _ h => h) (Or.inl ⟨by rfl, ?hy1x4⟩) hHeld ?rest1x4
  case hy1x4 => (intro w hSw; go_simp <;> with_reducible rfl)
  try simp only [Act.put, List.setIfInBounds_toArray, List.set_cons_zero, List.set_cons_succ]
  refine wpAnyH_take (i := 4) (oi := { dst := some 37, op := _, type := _, pos := _, after := _, guard := _ }) (v := ?v1x5) rfl (by kernel_rfl) (by kernel_rfl) (by kernel_rfl) (fun _ _ _ h => h) (Or.inl ⟨by rfl, ?hy1x5⟩) hHeld ?rest1x5
  case hy1x5 => (intro W hS; refine exec_loadS 59 (.tmp 9) ?_ a 0 [.string (str c), .string (str f)] ?_ (rA W hS) Tryz.underlying59 ?_ ?_; rfl; rfl; rfl; kernel_rfl)
  try simp only [Act.put, List.setIfInBounds_toArray, List.set_cons_zero, List.set_cons_succ]
  refine wpAnyH_take (i := 5) (oi := { dst := some 38, op := _, type := _, pos := _, after := _, guard := _ }) (v := ?v1x6) rfl (by kernel_rfl) (by kernel_rfl) (by kernel_rfl) (fun _ _ _ h => h) (Or.inl ⟨by rfl, ?hy1x6⟩) hHeld ?rest1x6
  case hy1x6 => (intro w hSw; go_simp <;> with_reducible rfl)
  try simp only [Act.put, List.setIfInBounds_toArray, List.set_cons_zero, List.set_cons_succ]
  refine wpAnyH_take (i := 6) (oi := { dst := some 32, op := _, type := _, pos := _, after := _, guard := _ }) (v := ?v1x7) rfl (by kernel_rfl) (by kernel_rfl) (by kernel_rfl) (fun _ _ _ h => h) (Or.inl ⟨by rfl, ?hy1x7⟩) hHeld ?rest1x7
  case hy1x7 => (intro w hSw; go_simp <;> with_reducible rfl)
  try simp only [Act.put, List.setIfInBounds_toArray, List.set_cons_zero, List.set_cons_succ]
  refine wpAnyH_take (i := 7) (oi := { dst := some 39, op := _, type := _, pos := _, after := _, guard := _ }) (v := ?v1x8) rfl (by kernel_rfl) (by kernel_rfl) (by kernel_rfl) (fun _ _ _ h => h) (Or.inl ⟨by rfl, ?hy1x8⟩) hHeld ?rest1x8
  case hy1x8 => (intro w hSw; go_simp <;> with_reducible rfl)
  try simp only [Act.put, List.setIfInBounds_toArray, List.set_cons_zero, List.set_cons_succ]
  refine wpAnyH_take (i := 8) (oi := { dst := some 40, op := _, type := _, pos := _, after := _, guard := _ }) (v := ?v1x9) rfl (by kernel_rfl) (by kernel_rfl) (by kernel_rfl) (fun _ _ _ h => h) (Or.inl ⟨by rfl, ?hy1x9⟩) hHeld ?rest1x9
  case hy1x9 => (intro w hSw; go_simp <;> with_reducible rfl)
  try simp only [Act.put, List.setIfInBounds_toArray, List.set_cons_zero, List.set_cons_succ]
  refine wpAnyH_ready (rs := [9]) (by kernel_rfl) (by simp) (AllReadyH.cons (o := { dst := some 10, op := _, type := _, pos := _, after := _, guard := _ }) rfl (fun K hK => ?_) AllReadyH.nil)
  go_simp
  go_wp2_with fail
  refine hK.out _ _ ?_ (fun hHeld => ?_)
  · exact Sam.below ((Below.refl _ _).alloc (Nat.le_refl _) _).drew SL.out
  clear hK K
  try simp only [Act.put, List.setIfInBounds_toArray, List.set_cons_zero, List.set_cons_succ]
  refine wpAnyH_ready (rs := [10]) (by kernel_rfl) (by simp) (AllReadyH.cons (o := { dst := none, op := _, type := _, pos := _, after := _, guard := _ }) rfl (fun K hK => ?_) AllReadyH.nil)
  go_simp
  go_wp2_with fail
  refine hK.out _ _ ?_ (fun hHeld => ?_)
  · exact Sam.below ((Below.refl _ _).alloc (Nat.le_refl _) _).drew SL.out
  clear hK K
  try simp only [Act.put, List.setIfInBounds_toArray, List.set_cons_zero, List.set_cons_succ]
  refine wpAnyH_take (i := 11) (oi := { dst := some 11, op := _, type := _, pos := _, after := _, guard := _ }) (v := ?v1x12) rfl (by kernel_rfl) (by kernel_rfl) (by kernel_rfl) (fun _ _ _ h => h) (Or.inl ⟨by rfl, ?hy1x12⟩) hHeld ?rest1x12
  case hy1x12 => (intro w hSw; go_simp <;> with_reducible rfl)
  try simp only [Act.put, List.setIfInBounds_toArray, List.set_cons_zero, List.set_cons_succ]
  refine wpAnyH_done (by kernel_rfl) ?_ _
  clear hl rA rB hHeld
  generalize hZ : Y.alloc _ = Z
  obtain ⟨t, ht, hT2, bZ, hsZ⟩ := boxedS (cs := [.int .i64 Q, .int .i64 T]) hZ
  have bYZ : Below Y.heap.size Y Z.drew := by rw [ht]; exact bZ.drew
  have hta : t = a + 1 := by omega
  rw [← hta]
  have hxt : x < t ∧ m.B < t ∧ a < t := by omega
  clear hta
  have HR := hide (HR.out.keep bYZ)
  have HB := hide (HB.out.keep bYZ)
  have Hbw := hide (below_on Hbw.out bYZ)
  have HA := hide (HA.out.keep bYZ)
  have HT : Hid (Blk Z.drew t 61 [.int .i64 Q, .int .i64 T]) := hide hT2
  have hto : Hid (∀ i, m.S i → i < t) := hide fun i hi => by have := H.out.lt hi; have := Hbw.out.size; have h7 := (Below.refl w.heap.size w).size; have := (hA.keep bYZ).lt; omega
  clear hZ bZ hT2 bYZ hsZ SL hsd hA
  have Hs := hide (show w.heap.size ≤ t by omega)
  generalize Z.drew = X at *
  have cx : X.cell? ⟨x, 1, none⟩ = some (.int .i64 q) := HB.out.cell 1
  have ct0 : X.cell? ⟨t, 0, none⟩ = some (.int .i64 Q) := HT.out.cell 0
  have ct1 : X.cell? ⟨t, 1, none⟩ = some (.int .i64 T) := HT.out.cell 1
  have cfr : ∀ i, X.frozen? ⟨t, i, none⟩ = false := HT.out.frozen
  have htl : t < X.heap.size := HT.out.lt
  have ca0 : X.cell? ⟨a, 0, none⟩ = some (.string (str c)) := HA.out.cell 0
  have ca1 : X.cell? ⟨a, 1, none⟩ = some (.string (str f)) := HA.out.cell 1
  cases hd with
  | true =>
    go_wp2_with fail
    clear cx ct0 ct1 cfr ca0 ca1
    have hset : But (fun i => i = t) X (X.setCell ⟨t, 0, none⟩ (.int .i64 q)) := But.setCell X _ rfl
    have HM2 := hide ((Mid.of_had HR.out Hhd.out).cell HT.out (by omega) 0 (.int .i64 q))
    have HA2 := hide (HA.out.but hset (by omega))
    have HT2 : Hid (Blk (X.setCell ⟨t, 0, none⟩ (.int .i64 q)) t 61 [.int .i64 q, .int .i64 T]) := hide (HT.out.set 0 _)
    have HX2 : Hid (But m.S w (X.setCell ⟨t, 0, none⟩ (.int .i64 q))) := hide ((But.ofBelow (But.below Hbw.out hset (fun i e => by have e' : i = t := e; omega) Hbw.out.size) _))
    have E2 : Hid (trn m.L c f (m.tn + 1) = T) := hide (by
      obtain ⟨e, he, rfl, rfl⟩ := (hadP_iff _ _ _).1 Hhd.out
      rw [← HTe.out, H.out.ok.trnE he, H.out.ok.trnE he])
    have OK2 := hide (H.out.ok.again (t := m.tn + 1) Hhd.out (by omega) (by omega))
    have HW : Hid (w.heap.size ≤ X.heap.size) := hide Hbw.out.size
    clear hset
    generalize X.setCell ⟨t, 0, none⟩ (.int .i64 q) = X2 at *
    have M2 := HM2.out
    have RB : ∀ W, Sam [m.B, a, t] X2 W → W.cell? ⟨m.B, 0, none⟩ = some (.map (some m.gw)) := fun W b => (M2.blk.sam b (by simp)).cell 0
    have RA : ∀ W, Sam [m.B, a, t] X2 W → W.rangeAt a 0 [.string (str c), .string (str f)] := fun W b => (HA2.out.sam b (by simp)).range
    have RT : ∀ W, Sam [m.B, a, t] X2 W → W.rangeAt t 0 [.int .i64 q, .int .i64 T] := fun W b => (HT2.out.sam b (by simp)).range
    obtain ⟨D, hD, hi⟩ := M2.wm
    have HD := hide hD
    have HI := hide hi
    have SL2 : Hid (∀ i ∈ [m.B, a, t], i < X2.heap.size ∧ i ≠ m.gw) := hide (by
      intro i hi
      simp only [List.mem_cons, List.not_mem_nil, or_false] at hi
      rcases hi with rfl | rfl | rfl
      · exact ⟨M2.blk.lt, map_ne hD M2.blk⟩
      · exact ⟨HA2.out.lt, map_ne hD HA2.out⟩
      · exact ⟨HT2.out.lt, map_ne hD HT2.out⟩)
    clear M2 hD hi
    refine wp_region_held_drew (S := fun w' => Sam [m.B, a, t] X2 w') (by kernel_rfl) ?_ (fun hHeld => ?_)
    · exact Sam.drew _ _
    refine wpAnyH_take (i := 0) (oi := { dst := some 50, op := _, type := _, pos := _, after := _, guard := _ }) (v := ?v2x1) rfl (by kernel_rfl) (by kernel_rfl) (by kernel_rfl) (fun _ _ _ h => h) (Or.inl ⟨by rfl, ?hy2x1⟩) hHeld ?rest2x1
    case hy2x1 => (intro w hSw; go_simp <;> with_reducible rfl)
    try simp only [Act.put, List.setIfInBounds_toArray, List.set_cons_zero, List.set_cons_succ]
    refine wpAnyH_take (i := 1) (oi := { dst := some 51, op := _, type := _, pos := _, after := _, guard := _ }) (v := ?v2x2) rfl (by kernel_rfl) (by kernel_rfl) (by kernel_rfl) (fun _ _ _ h => h) (Or.inl ⟨by rfl, ?hy2x2⟩) hHeld ?rest2x2
    case hy2x2 => (intro w hSw; go_simp <;> with_reducible rfl)
    try simp only [Act.put, List.setIfInBounds_toArray, List.set_cons_zero, List.set_cons_succ]
    refine wpAnyH_take (i := 2) (oi := { dst := some 52, op := _, type := _, pos := _, after := _, guard := _ }) (v := ?v2x3) rfl (by kernel_rfl) (by kernel_rfl) (by kernel_rfl) (fun _ _ _ h => h) (Or.inl ⟨by rfl, ?hy2x3⟩) hHeld ?rest2x3
    case hy2x3 => (intro w hSw; go_simp <;> with_reducible rfl)
    try simp only [Act.put, List.setIfInBounds_toArray, List.set_cons_zero, List.set_cons_succ]
    refine wpAnyH_take (i := 3) (oi := { dst := some 53, op := _, type := _, pos := _, after := _, guard := _ }) (v := ?v2x4) rfl (by kernel_rfl) (by kernel_rfl) (by kernel_rfl) (fun _ _ _ h => h) (Or.inl ⟨by rfl, ?hy2x4⟩) hHeld ?rest2x4
    case hy2x4 => (intro w hSw; go_simp <;> with_reducible rfl)
    try simp only [Act.put, List.setIfInBounds_toArray, List.set_cons_zero, List.set_cons_succ]
    refine wpAnyH_take (i := 4) (oi := { dst := some 54, op := _, type := _, pos := _, after := _, guard := _ }) (v := ?v2x5) rfl (by kernel_rfl) (by kernel_rfl) (by kernel_rfl) (fun _ _ _ h => h) (Or.inl ⟨by rfl, ?hy2x5⟩) hHeld ?rest2x5
    case hy2x5 => (intro W hS; refine exec_loadS 59 (.tmp 9) ?_ a 0 [.string (str c), .string (str f)] ?_ (RA W hS) Tryz.underlying59 ?_ ?_; rfl; rfl; rfl; kernel_rfl)
    try simp only [Act.put, List.setIfInBounds_toArray, List.set_cons_zero, List.set_cons_succ]
    refine wpAnyH_take (i := 5) (oi := { dst := some 55, op := _, type := _, pos := _, after := _, guard := _ }) (v := ?v2x6) rfl (by kernel_rfl) (by kernel_rfl) (by kernel_rfl) (fun _ _ _ h => h) (Or.inl ⟨by rfl, ?hy2x6⟩) hHeld ?rest2x6
    case hy2x6 => (intro W hS; refine exec_loadS 61 (.tmp 10) ?_ t 0 [.int .i64 q, .int .i64 T] ?_ (RT W hS) Tryz.underlying61 ?_ ?_; rfl; rfl; rfl; kernel_rfl)
    try simp only [Act.put, List.setIfInBounds_toArray, List.set_cons_zero, List.set_cons_succ]
    refine wpAnyH_ready (rs := [6]) (by kernel_rfl) (by simp) (AllReadyH.cons (o := { dst := none, op := _, type := _, pos := _, after := _, guard := _ }) rfl (fun K hK => ?_) AllReadyH.nil)
    rw [if_pos (by rfl)]
    refine op_update (.tmp 53) (.tmp 54) (.tmp 55) 53 rfl 59 61 mk_keyed Tryz.underlying53 RW m.gw m.K D (by rfl) (show X2.drew.ownsMap Tryz.prog 59 RW m.gw m.K D from HD.out) (by unfold maxLen; omega) (mkV c f) (tmV q T) (mkL c f) (by rfl) (by rfl) (mk_key' c f hc hf) (tmD q T) [] (RW_mk q T) ?_
    intro w5 hu5 hg5
    have HU5 := hide hu5
    have HG5 := hide hg5
    clear hu5 hg5
    refine hK.out _ _ ?_ (fun hHeld => ?_)
    · exact (Sam.drew _ _).grown HG5.out SL2.out
    clear hK K
    try simp only [Act.put, List.setIfInBounds_toArray, List.set_cons_zero, List.set_cons_succ]
    refine wpAnyH_done (by kernel_rfl) ?_ _
    clear RA RB RT hHeld
    go_wp2_with fail
    go_ret2
    have hg6 : X2.grownBy w5 (some m.gw) := ⟨HG5.out.os, HG5.out.tape, HG5.out.output, HG5.out.size, HG5.out.block⟩
    have hU6 : OW w5 m.gw (m.K + 1) (D.put (mkL c f) (tmD q (trn m.L c f (m.tn + 1)))) := by rw [E2.out]; exact HU5.out
    unfold RetPA
    rw [if_neg (by rw [Hf.out]; simp), if_neg Hq.out, Hhd.out]
    refine ⟨⟨m.B, m.gw, m.gf, m.G, addP m.L c f q (m.tn + 1), m.tn, m.K + 1⟩, rfl, HM2.out.done H.out.ok OK2.out hc hf HD.out HI.out hU6 hg6, rfl, ses_addP _ _ _ _ _, rfl, ?_, ?_⟩
    · exact HX2.out.trans (But.grown (S := fun i => i = m.gw) hg6 (fun k e => by injection e with e; exact e.symm)) (fun i _ e => Or.inr (Or.inl e))
    · rintro i (rfl | rfl | rfl | ⟨d, hd⟩)
      · exact Or.inl (Or.inl rfl)
      · exact Or.inl (Or.inr (Or.inl rfl))
      · exact Or.inl (Or.inr (Or.inr (Or.inl rfl)))
      · rcases HM2.out.gx d i hd with h | h
        · exact Or.inl (Or.inr (Or.inr (Or.inr ⟨d, h⟩)))
        · exact Or.inr (Nat.le_trans HW.out h)
  | false =>
    go_wp2_with fail
    refine (PE.out X HR.out).mono ?_
    rintro e w2 hr
    obtain ⟨rfl, hbut, G', hmid⟩ := Mid.of_enter HR.out hr
    clear hr cx ct0 ct1 ca0 ca1 cfr
    have hnS : ∀ i, x ≤ i → i < X.heap.size → ¬ m.S i := fun i h1 h2 hi => by have := H.out.lt hi; omega
    have hA2 := HA.out.but hbut (hnS a (by omega) (by omega))
    have hB2 := HB.out.but hbut (hnS x (by omega) (by omega))
    have hT2 := HT.out.but hbut (hnS t (by omega) (by omega))
    have HA2 := hide hA2
    have HB2 := hide hB2
    have HT2 := hide hT2
    have HMid := hide hmid
    have HBut := hide hbut
    have ct0 : w2.cell? ⟨t, 0, none⟩ = some (.int .i64 Q) := hT2.cell 0
    have ct1 : w2.cell? ⟨t, 1, none⟩ = some (.int .i64 T) := hT2.cell 1
    have cx : w2.cell? ⟨x, 1, none⟩ = some (.int .i64 q) := hB2.cell 1
    have cfr : ∀ i, w2.frozen? ⟨t, i, none⟩ = false := hT2.frozen
    have htl2 : t < w2.heap.size := hT2.lt
    clear hnS hA2 hB2 hT2 hmid hbut
    go_wp2_with fail
    clear ct0 ct1 cx cfr
    have hset1 : But (fun i => i = t) w2 (w2.setCell ⟨t, 1, none⟩ (.int .i64 (m.tn + 1))) := But.setCell w2 _ rfl
    have hM1 := HMid.out.cell HT2.out (by omega) 1 (.int .i64 (m.tn + 1))
    have hA1 := HA2.out.but hset1 (by omega)
    have hT1 : Blk (w2.setCell ⟨t, 1, none⟩ (.int .i64 (m.tn + 1))) t 61 [.int .i64 Q, .int .i64 (m.tn + 1)] := HT2.out.set 1 _
    generalize w2.setCell ⟨t, 1, none⟩ (.int .i64 (m.tn + 1)) = w4 at *
    have hset2 : But (fun i => i = t) w4 (w4.setCell ⟨t, 0, none⟩ (.int .i64 q)) := But.setCell w4 _ rfl
    have HM2 := hide (hM1.cell hT1 (by omega) 0 (.int .i64 q))
    have HT2 : Hid (Blk (w4.setCell ⟨t, 0, none⟩ (.int .i64 q)) t 61 [.int .i64 q, .int .i64 (m.tn + 1)]) := hide (hT1.set 0 _)
    have HA2 := hide (hA1.but hset2 (by omega))
    generalize w4.setCell ⟨t, 0, none⟩ (.int .i64 q) = X2 at *
    have HX2 : Hid (But m.S w X2) := hide (by
      have h1 : But m.S w w2 := But.after Hbw.out HBut.out
      have h2 : But (fun i => m.S i ∨ i = t) w X2 := ((h1.wide (S' := fun i => m.S i ∨ i = t) (fun i e => Or.inl e)).trans hset1 (fun i _ e => Or.inr e)).trans hset2 (fun i _ e => Or.inr e)
      exact ⟨h2.os, h2.tape, h2.output, h2.size, fun i hi hn => h2.block i hi (fun e => by
        rcases e with e | e
        · exact hn e
        · omega)⟩)
    have E2 : Hid (trn m.L c f (m.tn + 1) = m.tn + 1) := hide (trn_no Hhd.out _)
    have OK2 := hide (H.out.ok.new Hhd.out (by omega) (by omega) Hf.out hf hc)
    have HW : Hid (w.heap.size ≤ X.heap.size) := hide Hbw.out.size
    clear hset1 hset2 hM1 hA1 hT1
    have M2 := HM2.out
    have RB : ∀ W, Sam [m.B, a, t] X2 W → W.cell? ⟨m.B, 0, none⟩ = some (.map (some m.gw)) := fun W b => (M2.blk.sam b (by simp)).cell 0
    have RA : ∀ W, Sam [m.B, a, t] X2 W → W.rangeAt a 0 [.string (str c), .string (str f)] := fun W b => (HA2.out.sam b (by simp)).range
    have RT : ∀ W, Sam [m.B, a, t] X2 W → W.rangeAt t 0 [.int .i64 q, .int .i64 (m.tn + 1)] := fun W b => (HT2.out.sam b (by simp)).range
    obtain ⟨D, hD, hi⟩ := M2.wm
    have HD := hide hD
    have HI := hide hi
    have SL2 : Hid (∀ i ∈ [m.B, a, t], i < X2.heap.size ∧ i ≠ m.gw) := hide (by
      intro i hi
      simp only [List.mem_cons, List.not_mem_nil, or_false] at hi
      rcases hi with rfl | rfl | rfl
      · exact ⟨M2.blk.lt, map_ne hD M2.blk⟩
      · exact ⟨HA2.out.lt, map_ne hD HA2.out⟩
      · exact ⟨HT2.out.lt, map_ne hD HT2.out⟩)
    clear M2 hD hi
    refine wp_region_held_drew (S := fun w' => Sam [m.B, a, t] X2 w') (by kernel_rfl) ?_ (fun hHeld => ?_)
    · exact Sam.drew _ _
    refine wpAnyH_take (i := 0) (oi := { dst := some 50, op := _, type := _, pos := _, after := _, guard := _ }) (v := ?v3x1) rfl (by kernel_rfl) (by kernel_rfl) (by kernel_rfl) (fun _ _ _ h => h) (Or.inl ⟨by rfl, ?hy3x1⟩) hHeld ?rest3x1
    case hy3x1 => (intro w hSw; go_simp <;> with_reducible rfl)
    try simp only [Act.put, List.setIfInBounds_toArray, List.set_cons_zero, List.set_cons_succ]
    refine wpAnyH_take (i := 1) (oi := { dst := some 51, op := _, type := _, pos := _, after := _, guard := _ }) (v := ?v3x2) rfl (by kernel_rfl) (by kernel_rfl) (by kernel_rfl) (fun _ _ _ h => h) (Or.inl ⟨by rfl, ?hy3x2⟩) hHeld ?rest3x2
    case hy3x2 => (intro w hSw; go_simp <;> with_reducible rfl)
    try simp only [Act.put, List.setIfInBounds_toArray, List.set_cons_zero, List.set_cons_succ]
    refine wpAnyH_take (i := 2) (oi := { dst := some 52, op := _, type := _, pos := _, after := _, guard := _ }) (v := ?v3x3) rfl (by kernel_rfl) (by kernel_rfl) (by kernel_rfl) (fun _ _ _ h => h) (Or.inl ⟨by rfl, ?hy3x3⟩) hHeld ?rest3x3
    case hy3x3 => (intro w hSw; go_simp <;> with_reducible rfl)
    try simp only [Act.put, List.setIfInBounds_toArray, List.set_cons_zero, List.set_cons_succ]
    refine wpAnyH_take (i := 3) (oi := { dst := some 53, op := _, type := _, pos := _, after := _, guard := _ }) (v := ?v3x4) rfl (by kernel_rfl) (by kernel_rfl) (by kernel_rfl) (fun _ _ _ h => h) (Or.inl ⟨by rfl, ?hy3x4⟩) hHeld ?rest3x4
    case hy3x4 => (intro w hSw; go_simp <;> with_reducible rfl)
    try simp only [Act.put, List.setIfInBounds_toArray, List.set_cons_zero, List.set_cons_succ]
    refine wpAnyH_take (i := 4) (oi := { dst := some 54, op := _, type := _, pos := _, after := _, guard := _ }) (v := ?v3x5) rfl (by kernel_rfl) (by kernel_rfl) (by kernel_rfl) (fun _ _ _ h => h) (Or.inl ⟨by rfl, ?hy3x5⟩) hHeld ?rest3x5
    case hy3x5 => (intro W hS; refine exec_loadS 59 (.tmp 9) ?_ a 0 [.string (str c), .string (str f)] ?_ (RA W hS) Tryz.underlying59 ?_ ?_; rfl; rfl; rfl; kernel_rfl)
    try simp only [Act.put, List.setIfInBounds_toArray, List.set_cons_zero, List.set_cons_succ]
    refine wpAnyH_take (i := 5) (oi := { dst := some 55, op := _, type := _, pos := _, after := _, guard := _ }) (v := ?v3x6) rfl (by kernel_rfl) (by kernel_rfl) (by kernel_rfl) (fun _ _ _ h => h) (Or.inl ⟨by rfl, ?hy3x6⟩) hHeld ?rest3x6
    case hy3x6 => (intro W hS; refine exec_loadS 61 (.tmp 10) ?_ t 0 [.int .i64 q, .int .i64 (m.tn + 1)] ?_ (RT W hS) Tryz.underlying61 ?_ ?_; rfl; rfl; rfl; kernel_rfl)
    try simp only [Act.put, List.setIfInBounds_toArray, List.set_cons_zero, List.set_cons_succ]
    refine wpAnyH_ready (rs := [6]) (by kernel_rfl) (by simp) (AllReadyH.cons (o := { dst := none, op := _, type := _, pos := _, after := _, guard := _ }) rfl (fun K hK => ?_) AllReadyH.nil)
    rw [if_pos (by rfl)]
    refine op_update (.tmp 53) (.tmp 54) (.tmp 55) 53 rfl 59 61 mk_keyed Tryz.underlying53 RW m.gw m.K D (by rfl) (show X2.drew.ownsMap Tryz.prog 59 RW m.gw m.K D from HD.out) (by unfold maxLen; omega) (mkV c f) (tmV q (m.tn + 1)) (mkL c f) (by rfl) (by rfl) (mk_key' c f hc hf) (tmD q (m.tn + 1)) [] (RW_mk q (m.tn + 1)) ?_
    intro w5 hu5 hg5
    have HU5 := hide hu5
    have HG5 := hide hg5
    clear hu5 hg5
    refine hK.out _ _ ?_ (fun hHeld => ?_)
    · exact (Sam.drew _ _).grown HG5.out SL2.out
    clear hK K
    try simp only [Act.put, List.setIfInBounds_toArray, List.set_cons_zero, List.set_cons_succ]
    refine wpAnyH_done (by kernel_rfl) ?_ _
    clear RA RB RT hHeld
    go_wp2_with fail
    go_ret2
    have hg6 : X2.grownBy w5 (some m.gw) := ⟨HG5.out.os, HG5.out.tape, HG5.out.output, HG5.out.size, HG5.out.block⟩
    have hU6 : OW w5 m.gw (m.K + 1) (D.put (mkL c f) (tmD q (trn m.L c f (m.tn + 1)))) := by rw [E2.out]; exact HU5.out
    unfold RetPA
    rw [if_neg (by rw [Hf.out]; simp), if_neg Hq.out, Hhd.out]
    refine ⟨⟨m.B, m.gw, m.gf, G', addP m.L c f q (m.tn + 1), (m.tn + 1), m.K + 1⟩, rfl, HM2.out.done H.out.ok OK2.out hc hf HD.out HI.out hU6 hg6, rfl, ses_addP _ _ _ _ _, rfl, ?_, ?_⟩
    · exact HX2.out.trans (But.grown (S := fun i => i = m.gw) hg6 (fun k e => by injection e with e; exact e.symm)) (fun i _ e => Or.inr (Or.inl e))
    · rintro i (rfl | rfl | rfl | ⟨d, hd⟩)
      · exact Or.inl (Or.inl rfl)
      · exact Or.inl (Or.inr (Or.inl rfl))
      · exact Or.inl (Or.inr (Or.inr (Or.inl rfl)))
      · rcases HM2.out.gx d i hd with h | h
        · exact Or.inl (Or.inr (Or.inr (Or.inr ⟨d, h⟩)))
        · exact Or.inr (Nat.le_trans HW.out h)
end Go.Proofs.YtfjafpbmgbnllaaGreat
