/-
  What is proved here: what the sort of Of returns: a client's filters in the order in which they were added. Conditions: texts of at most 65535 bytes; at most a million calls.
-/
import Derived.Test.YtfjafpbmgbnllaaGreatSp6
import Derived.Sort.OwnSorted
namespace Go.Proofs.YtfjafpbmgbnllaaGreat
set_option linter.unusedVariables false
set_option linter.unusedSimpArgs false
open Go.RowKit Go.Maps Go.Shelf Go.Lib Go.Sort

/-- The closure of Of. -/
theorem of1_any (m : Px) (c x y : List UInt8) (b1 b2 : Nat) (W : World) (h : PxA W m) (hc : c.length ≤ 65535) (hx : x.length ≤ 65535) (hy : y.length ≤ 65535) (h1 : W.cell? ⟨b1, 0, none⟩ = some (.pointer (some ⟨m.B, 0, none⟩))) (h2 : W.cell? ⟨b2, 0, none⟩ = some (.string (str c))) :
    Calls Tryz.prog 34 #[.string (str x), .string (str y), .pointer (some ⟨b1, 0, none⟩), .pointer (some ⟨b2, 0, none⟩)] W fun e w' => e = .returned (.int .i64 (cmpI (trn m.L c x 0) (trn m.L c y 0))) ∧ w' = W.drew := by
  have hft := field_t
  obtain ⟨T1, hT1⟩ : ∃ T, trn m.L c x 0 = T := ⟨_, rfl⟩
  obtain ⟨T2, hT2⟩ : ∃ T, trn m.L c y 0 = T := ⟨_, rfl⟩
  obtain ⟨Q1, hQ1⟩ : ∃ T, qOf m.L c x = T := ⟨_, rfl⟩
  obtain ⟨Q2, hQ2⟩ : ∃ T, qOf m.L c y = T := ⟨_, rfl⟩
  have HC := hide (cmpN_any T1 T2 W.drew)
  have l1 : (Instr.lookup 53 (.map (some m.gw)) (.agg #[.string (str c), .string (str x)]) false).run Tryz.prog W.drew = .ok (.agg #[.int .i64 Q1, .int .i64 T1]) W.drew := by
    rw [← hT1, ← hQ1]
    exact (h.keep (Below.refl _ _).drew).look1 hc hx
  have l2 : (Instr.lookup 53 (.map (some m.gw)) (.agg #[.string (str c), .string (str y)]) false).run Tryz.prog W.drew = .ok (.agg #[.int .i64 Q2, .int .i64 T2]) W.drew := by
    rw [← hT2, ← hQ2]
    exact (h.keep (Below.refl _ _).drew).look1 hc hy
  have k0 : W.cell? ⟨m.B, 0, none⟩ = some (.map (some m.gw)) := h.blk.cell 0
  rw [hT1, hT2]
  clear h hT1 hT2 hQ1 hQ2
  go_enter Tryz.func34, Tryz.ntmps34
  go_wp2_with fail
  refine wp_region_held_drew (S := fun w' => w' = W.drew) (by kernel_rfl) ?_ (fun hHeld => ?_)
  · exact rfl
  refine wpAnyH_take (i := 0) (oi := { dst := some 7, op := _, type := _, pos := _, after := _, guard := _ }) (v := ?v1x1) rfl (by kernel_rfl) (by kernel_rfl) (by kernel_rfl) (fun _ _ _ h => h) (Or.inl ⟨by rfl, ?hy1x1⟩) hHeld ?rest1x1
  case hy1x1 => (intro w hSw; go_simp <;> with_reducible rfl)
  try simp only [Act.put, List.setIfInBounds_toArray, List.set_cons_zero, List.set_cons_succ]
  refine wpAnyH_take (i := 1) (oi := { dst := some 8, op := _, type := _, pos := _, after := _, guard := _ }) (v := ?v1x2) rfl (by kernel_rfl) (by kernel_rfl) (by kernel_rfl) (fun _ _ _ h => h) (Or.inl ⟨by rfl, ?hy1x2⟩) hHeld ?rest1x2
  case hy1x2 => (intro w hSw; go_simp <;> with_reducible rfl)
  try simp only [Act.put, List.setIfInBounds_toArray, List.set_cons_zero, List.set_cons_succ]
  refine wpAnyH_take (i := 2) (oi := { dst := some 9, op := _, type := _, pos := _, after := _, guard := _ }) (v := ?v1x3) rfl (by kernel_rfl) (by kernel_rfl) (by kernel_rfl) (fun _ _ _ h => h) (Or.inl ⟨by rfl, ?hy1x3⟩) hHeld ?rest1x3
  case hy1x3 => (intro w hSw; go_simp <;> with_reducible rfl)
  try simp only [Act.put, List.setIfInBounds_toArray, List.set_cons_zero, List.set_cons_succ]
  refine wpAnyH_take (i := 3) (oi := { dst := some 10, op := _, type := _, pos := _, after := _, guard := _ }) (v := ?v1x4) rfl (by kernel_rfl) (by kernel_rfl) (by kernel_rfl) (fun _ _ _ h => h) (Or.inl ⟨by rfl, ?hy1x4⟩) hHeld ?rest1x4
  case hy1x4 => (intro w hSw; go_simp <;> with_reducible rfl)
  try simp only [Act.put, List.setIfInBounds_toArray, List.set_cons_zero, List.set_cons_succ]
  refine wpAnyH_take (i := 4) (oi := { dst := some 11, op := _, type := _, pos := _, after := _, guard := _ }) (v := ?v1x5) rfl (by kernel_rfl) (by kernel_rfl) (by kernel_rfl) (fun _ _ _ h => h) (Or.inl ⟨by rfl, ?hy1x5⟩) hHeld ?rest1x5
  case hy1x5 => (intro w hSw; go_simp <;> with_reducible rfl)
  try simp only [Act.put, List.setIfInBounds_toArray, List.set_cons_zero, List.set_cons_succ]
  refine wpAnyH_take (i := 5) (oi := { dst := some 12, op := _, type := _, pos := _, after := _, guard := _ }) (v := ?v1x6) rfl (by kernel_rfl) (by kernel_rfl) (by kernel_rfl) (fun _ _ _ h => h) (Or.inl ⟨by rfl, ?hy1x6⟩) hHeld ?rest1x6
  case hy1x6 => (intro w hSw; go_simp <;> with_reducible rfl)
  try simp only [Act.put, List.setIfInBounds_toArray, List.set_cons_zero, List.set_cons_succ]
  refine wpAnyH_take (i := 6) (oi := { dst := some 13, op := _, type := _, pos := _, after := _, guard := _ }) (v := ?v1x7) rfl (by kernel_rfl) (by kernel_rfl) (by kernel_rfl) (fun _ _ _ h => h) (Or.inl ⟨by rfl, ?hy1x7⟩) hHeld ?rest1x7
  case hy1x7 => (intro w hSw; go_simp <;> with_reducible rfl)
  try simp only [Act.put, List.setIfInBounds_toArray, List.set_cons_zero, List.set_cons_succ]
  refine wpAnyH_take (i := 7) (oi := { dst := some 14, op := _, type := _, pos := _, after := _, guard := _ }) (v := ?v1x8) rfl (by kernel_rfl) (by kernel_rfl) (by kernel_rfl) (fun _ _ _ h => h) (Or.inl ⟨by rfl, ?hy1x8⟩) hHeld ?rest1x8
  case hy1x8 => (intro w hSw; go_simp <;> with_reducible rfl)
  try simp only [Act.put, List.setIfInBounds_toArray, List.set_cons_zero, List.set_cons_succ]
  refine wpAnyH_take (i := 8) (oi := { dst := some 15, op := _, type := _, pos := _, after := _, guard := _ }) (v := ?v1x9) rfl (by kernel_rfl) (by kernel_rfl) (by kernel_rfl) (fun _ _ _ h => h) (Or.inl ⟨by rfl, ?hy1x9⟩) hHeld ?rest1x9
  case hy1x9 => (intro w hSw; go_simp <;> with_reducible rfl)
  try simp only [Act.put, List.setIfInBounds_toArray, List.set_cons_zero, List.set_cons_succ]
  refine wpAnyH_take (i := 9) (oi := { dst := some 16, op := _, type := _, pos := _, after := _, guard := _ }) (v := ?v1x10) rfl (by kernel_rfl) (by kernel_rfl) (by kernel_rfl) (fun _ _ _ h => h) (Or.inl ⟨by rfl, ?hy1x10⟩) hHeld ?rest1x10
  case hy1x10 => (intro w hSw; go_simp <;> with_reducible rfl)
  try simp only [Act.put, List.setIfInBounds_toArray, List.set_cons_zero, List.set_cons_succ]
  refine wpAnyH_take (i := 10) (oi := { dst := some 17, op := _, type := _, pos := _, after := _, guard := _ }) (v := ?v1x11) rfl (by kernel_rfl) (by kernel_rfl) (by kernel_rfl) (fun _ _ _ h => h) (Or.inl ⟨by rfl, ?hy1x11⟩) hHeld ?rest1x11
  case hy1x11 => (intro w hSw; go_simp <;> with_reducible rfl)
  try simp only [Act.put, List.setIfInBounds_toArray, List.set_cons_zero, List.set_cons_succ]
  refine wpAnyH_take (i := 11) (oi := { dst := some 18, op := _, type := _, pos := _, after := _, guard := _ }) (v := ?v1x12) rfl (by kernel_rfl) (by kernel_rfl) (by kernel_rfl) (fun _ _ _ h => h) (Or.inl ⟨by rfl, ?hy1x12⟩) hHeld ?rest1x12
  case hy1x12 => (intro w hSw; go_simp <;> with_reducible rfl)
  try simp only [Act.put, List.setIfInBounds_toArray, List.set_cons_zero, List.set_cons_succ]
  refine wpAnyH_take (i := 12) (oi := { dst := some 19, op := _, type := _, pos := _, after := _, guard := _ }) (v := ?v1x13) rfl (by kernel_rfl) (by kernel_rfl) (by kernel_rfl) (fun _ _ _ h => h) (Or.inl ⟨by rfl, ?hy1x13⟩) hHeld ?rest1x13
  case hy1x13 => (intro w hSw; go_simp <;> with_reducible rfl)
  try simp only [Act.put, List.setIfInBounds_toArray, List.set_cons_zero, List.set_cons_succ]
  refine wpAnyH_take (i := 13) (oi := { dst := some 20, op := _, type := _, pos := _, after := _, guard := _ }) (v := ?v1x14) rfl (by kernel_rfl) (by kernel_rfl) (by kernel_rfl) (fun _ _ _ h => h) (Or.inl ⟨by rfl, ?hy1x14⟩) hHeld ?rest1x14
  case hy1x14 => (intro w hSw; go_simp <;> with_reducible rfl)
  try simp only [Act.put, List.setIfInBounds_toArray, List.set_cons_zero, List.set_cons_succ]
  refine wpAnyH_take (i := 14) (oi := { dst := some 21, op := _, type := _, pos := _, after := _, guard := _ }) (v := ?v1x15) rfl (by kernel_rfl) (by kernel_rfl) (by kernel_rfl) (fun _ _ _ h => h) (Or.inl ⟨by rfl, ?hy1x15⟩) hHeld ?rest1x15
  case hy1x15 => (intro w hSw; go_simp <;> with_reducible rfl)
  try simp only [Act.put, List.setIfInBounds_toArray, List.set_cons_zero, List.set_cons_succ]
  refine wpAnyH_take (i := 15) (oi := { dst := some 22, op := _, type := _, pos := _, after := _, guard := _ }) (v := ?v1x16) rfl (by kernel_rfl) (by kernel_rfl) (by kernel_rfl) (fun _ _ _ h => h) (Or.inl ⟨by rfl, ?hy1x16⟩) hHeld ?rest1x16
  case hy1x16 => (intro w hSw; go_simp <;> with_reducible rfl)
  try simp only [Act.put, List.setIfInBounds_toArray, List.set_cons_zero, List.set_cons_succ]
  refine wpAnyH_take (i := 16) (oi := { dst := some 23, op := _, type := _, pos := _, after := _, guard := _ }) (v := ?v1x17) rfl (by kernel_rfl) (by kernel_rfl) (by kernel_rfl) (fun _ _ _ h => h) (Or.inl ⟨by rfl, ?hy1x17⟩) hHeld ?rest1x17
  case hy1x17 => (intro w hSw; go_simp <;> with_reducible rfl)
  try simp only [Act.put, List.setIfInBounds_toArray, List.set_cons_zero, List.set_cons_succ]
  refine wpAnyH_take (i := 17) (oi := { dst := some 24, op := _, type := _, pos := _, after := _, guard := _ }) (v := ?v1x18) rfl (by kernel_rfl) (by kernel_rfl) (by kernel_rfl) (fun _ _ _ h => h) (Or.inl ⟨by rfl, ?hy1x18⟩) hHeld ?rest1x18
  case hy1x18 => (intro w hSw; go_simp <;> with_reducible rfl)
  try simp only [Act.put, List.setIfInBounds_toArray, List.set_cons_zero, List.set_cons_succ]
  refine wpAnyH_ready (rs := [18]) (by kernel_rfl) (by simp) (AllReadyH.cons (o := { dst := some 25, op := _, type := _, pos := _, after := _, guard := _ }) rfl (fun K hK => ?_) AllReadyH.nil)
  go_simp
  refine HC.out.mono ?_
  rintro e w5 ⟨rfl, rfl⟩
  go_wp2_with fail
  refine hK.out _ _ ?_ (fun hHeld => ?_)
  · exact rfl
  clear hK K
  try simp only [Act.put, List.setIfInBounds_toArray, List.set_cons_zero, List.set_cons_succ]
  refine wpAnyH_take (i := 19) (oi := { dst := some 6, op := _, type := _, pos := _, after := _, guard := _ }) (v := ?v1x20) rfl (by kernel_rfl) (by kernel_rfl) (by kernel_rfl) (fun _ _ _ h => h) (Or.inl ⟨by rfl, ?hy1x20⟩) hHeld ?rest1x20
  case hy1x20 => (intro w hSw; go_simp <;> with_reducible rfl)
  try simp only [Act.put, List.setIfInBounds_toArray, List.set_cons_zero, List.set_cons_succ]
  refine wpAnyH_done (by kernel_rfl) ?_ _
  go_wp2_with fail
  go_ret
  exact ⟨rfl, rfl⟩
/-- A text of at most 65535 bytes. -/
abbrev Tx := { x : List UInt8 // x.length ≤ 65535 }
instance : Inhabited Tx := ⟨⟨[], by simp⟩⟩
def encT (x : Tx) : Value := .string (str x.1)
def cfT (L : List PE) (c : List UInt8) (x y : Tx) : Int := cmpI (trn L c x.1 0) (trn L c y.1 0)
theorem cfT_lt (L : List PE) (c : List UInt8) (x y : Tx) : ltOf (cfT L c) x y = decide (trn L c x.1 0 < trn L c y.1 0) := cmpI_lt _ _
theorem swoT (L : List PE) (c : List UInt8) : SWO (ltOf (cfT L c)) where
  irrefl x := by rw [cfT_lt]; simp
  trans x y z h1 h2 := by rw [cfT_lt] at *; simp at *; omega
  ntrans x y z h1 h2 := by rw [cfT_lt] at *; simp at *; omega
theorem sortWorld_but {α : Type} [Inhabited α] (enc : α → Value) (w : World) (blk off n : Nat) (d : Array α) (os : Array Obj) : But (fun i => i = blk) w (sortWorld enc w blk off n d os) := by
  refine ⟨rfl, rfl, rfl, by simp [sortWorld], fun i hi hne => ?_⟩
  unfold sortWorld
  rw [heap_grow_old _ _ (by simpa using hi)]
  have : blk ≠ i := fun e => hne e.symm
  simp [putRow, mapBlock, Sort.ahead, Array.getElem?_modify, this]
def stVs (l : List (List UInt8)) : List Value := l.map fun x => .string (str x)
/-- What the sort leaves. -/
def RetSrt2 (base : Nat) (O : Option Addr) (n : Nat) (L : List PE) (c : List UInt8) (w w' : World) : Prop := Rd w' O n (stVs (fsOf L c)) ∧ Below base w w'
theorem sortS_any (m : Px) (c : List UInt8) (b1 b2 base : Nat) (O : Option Addr) (n ko : Nat) (ss : List (List UInt8)) (w : World) (h : PxA w m) (hc : c.length ≤ 65535) (hS : ∀ i, m.S i → i < base) (hb1 : b1 < base) (hb2 : b2 < base) (hb : base ≤ w.heap.size)
    (h1 : w.cell? ⟨b1, 0, none⟩ = some (.pointer (some ⟨m.B, 0, none⟩))) (h2 : w.cell? ⟨b2, 0, none⟩ = some (.string (str c))) (ho : w.ownsRow base 9 1 (.slice O n ko) n (stVs ss)) (hp : ss.Perm (fsOf m.L c)) (hn : ss.length = n) (hK : m.K ≤ 1000000) :
    Calls Tryz.prog 47 #[.slice O n ko, .func (.func 34) #[] #[.pointer (some ⟨b1, 0, none⟩), .pointer (some ⟨b2, 0, none⟩)]] w fun e w' => e = .returned (.tuple #[]) ∧ RetSrt2 base O n m.L c w w' := by
  have hlf : ∀ x ∈ ss, x.length ≤ 65535 := fun x hx => by
    obtain ⟨e, he, _, rfl⟩ := (hadP_iff _ _ _).1 ((fsOf_mem m.L c x).1 (hp.mem_iff.1 hx))
    exact (h.ok.ok e he).2.1
  have hnm : n ≤ 1000000 := by
    rw [← hn, hp.length_eq]
    have : (fsOf m.L c).length ≤ m.L.length := by unfold fsOf; rw [List.length_map]; exact List.length_filter_le _ _
    have := h.ok.len
    omega
  rcases ho.2 with ⟨hv, h0⟩ | ⟨g, cap, cur, hv, hg, hh, hcap, hmx, hs, ht⟩
  · injection hv with hA h1 h2
    subst hA h1 h2
    obtain rfl : ss = [] := List.length_eq_zero_iff.1 hn
    have hf : fsOf m.L c = [] := List.Perm.eq_nil hp.symm
    have hcon := AnyF.slices_SortFunc_none { sortStr0 with } none 0 (.func (.func 34) #[] #[.pointer (some ⟨b1, 0, none⟩), .pointer (some ⟨b2, 0, none⟩)]) w
    exact hcon.mono fun e w' ⟨he, hw⟩ => ⟨he, by subst hw; rw [hf]; exact Rd.nil _ _, by subst hw; exact Below.refl _ _⟩
  · injection hv with hA _ h2'
    subst hA h2'
    have hgl : g < w.heap.size := (Array.getElem?_eq_some_iff.1 hh).1
    have hd : ∃ d : Array Tx, d.toList.map (·.1) = ss := ⟨(ss.attach.map fun x => (⟨x.1, hlf x.1 x.2⟩ : Tx)).toArray, by simp⟩
    obtain ⟨d, hd⟩ := hd
    have hdn : d.size = n := by rw [← hn, ← hd]; simp
    have hH : Holds encT w g 0 d := by
      intro j hj
      refine ⟨?_, by simp [World.frozen?, hh]⟩
      have h1 : (stVs ss)[j]? = some (encT d[j]!) := by
        rw [getElem!_pos d j hj, ← hd]
        simp [stVs, encT, hj]
      rw [← ht, List.getElem?_take_of_lt (by omega)] at h1
      simp only [World.cell?, hh, Nat.zero_add]
      simp only [Option.isSome_none, Bool.false_eq_true, if_false]
      rw [← Array.getElem?_toList]
      exact h1
    have eg : ∀ args w, (callFunc 34 args).run Tryz.prog w = .ok (.enter 34 args) w := enters_of Tryz.func34 (by kernel_rfl) rfl
    have hcmp : CmpLays1 Tryz.prog 34 #[.pointer (some ⟨b1, 0, none⟩), .pointer (some ⟨b2, 0, none⟩)] encT (cfT m.L c) g 0 d.size w := fun mm os dk hdk x y => by
      have hb := sortWorld_but encT w g 0 mm dk os
      have hP := h.but hb (fun i hi e => by have := hS i hi; have e' : i = g := e; omega)
      have k1 := (World.cell?_of_block (w := w) (w' := sortWorld encT w g 0 mm dk os) (a := ⟨b1, 0, none⟩) (hb.block b1 (by omega) (fun e => by have e' : b1 = g := e; omega))).trans h1
      have k2 := (World.cell?_of_block (w := w) (w' := sortWorld encT w g 0 mm dk os) (a := ⟨b2, 0, none⟩) (hb.block b2 (by omega) (fun e => by have e' : b2 = g := e; omega))).trans h2
      exact (of1_any m c x.1 y.1 b1 b2 _ hP hc x.2 y.2 k1 k2).mono fun e w' ⟨he, hw⟩ => ⟨he, 1, #[], by rw [hw, grow_empty]; rfl⟩
    have hcon := Any.slices_SortFunc sortStr encT (fun _ => rfl) (cfT m.L c) (swoT m.L c) 34 #[.pointer (some ⟨b1, 0, none⟩), .pointer (some ⟨b2, 0, none⟩)] g 0 ko d w eg hcmp hH hgl (by omega)
    rw [hdn] at hcon
    refine Calls.mono hcon ?_
    rintro e w' ⟨he, d', k, os, hpm, hso, rfl⟩
    rw [← hdn] at hpm
    have hd' : d'.size = n := by rw [hpm.1, hdn]
    have hperm : (d'.toList.map (·.1)).Perm (fsOf m.L c) := ((perm_arr hpm).map _).trans (by rw [hd]; exact hp)
    have hfin : d'.toList.map (·.1) = fsOf m.L c := by
      refine rise_eq (fun x => trn m.L c x 0) hperm ?_ (h.ok.fsOf_rise c)
      rw [List.pairwise_map]
      exact (sorted_arr hd' hso).imp fun {a b} h => by rw [cfT_lt] at h; simpa using h
    have hW := holds_sortWorld encT w g 0 k d d' os hgl hH (by rw [hd', hdn])
    refine ⟨he, ⟨?_, fun _ => ⟨g, 0, rfl, Nat.lt_of_lt_of_le hgl (sortWorld_but encT w g 0 k d' os).size, fun i v hv => ?_⟩⟩, But.below (Below.refl base w) (sortWorld_but encT w g 0 k d' os) (fun i e => by have e' : i = g := e; omega) hb⟩
    · rw [← hfin]
      simp [stVs, hd']
    · rw [← hfin] at hv
      have hi : i < d'.size := by
        have := (List.getElem?_eq_some_iff.1 hv).1
        simpa [stVs] using this
      have h2 := (hW i hi).1
      rw [h2, ← hv, getElem!_pos d' i hi]
      simp [stVs, encT, hi]
/-- The sorted filters, behind maps.Keys. -/
theorem sorted_any (m : Px) (c : List UInt8) (b1 b2 Bm : Nat) (mb : Option Nat) (w : World) (h : PxA w m) (hc : c.length ≤ 65535) (hmb : mb = m.G c) (hb1 : b1 < w.heap.size) (hb2 : b2 < w.heap.size) (hBm : Bm < w.heap.size)
    (h1 : w.cell? ⟨b1, 0, none⟩ = some (.pointer (some ⟨m.B, 0, none⟩))) (h2 : w.cell? ⟨b2, 0, none⟩ = some (.string (str c))) (h3 : w.cell? ⟨Bm, 0, none⟩ = some (.map mb)) (hK : m.K ≤ 1000000) :
    Calls Tryz.prog 32 #[.func (.func 48) #[] #[.pointer (some ⟨Bm, 0, none⟩)], .func (.func 34) #[] #[.pointer (some ⟨b1, 0, none⟩), .pointer (some ⟨b2, 0, none⟩)]] w
      fun e w' => ∃ O k, e = .returned (.slice O (fsOf m.L c).length k) ∧ Rd w' O (fsOf m.L c).length (stVs (fsOf m.L c)) ∧ Below w.heap.size w w' := by
  have hseq : ∃ N, N ≤ 1000000 ∧ SeqGives Fence.wide 6 Tryz.prog 48 #[.pointer (some ⟨Bm, 0, none⟩)] encStr (fun ss : List (List UInt8) => ss.Perm (fsOf m.L c)) N w := by
    cases hg : m.G c with
    | none =>
      have hf : fsOf m.L c = [] := by
        cases hn : fsOf m.L c with
        | nil => rfl
        | cons a l =>
          obtain ⟨e, he, hec⟩ := fsOf_some (L := m.L) (c := c) (by rw [hn]; simp)
          obtain ⟨g, hg'⟩ := h.al e he
          rw [hec, hg] at hg'
          cases hg'
      refine ⟨0, by omega, ?_⟩
      have hs := AnyZ.keys_gives_nil (ρ := keysMark_ren) { keysMark with } Fence.wide 6 trivial rfl Bm w hBm (by rw [h3, hmb, hg])
      intro l J W hW hJ hY h0
      refine (hs l J W hW hJ hY h0).mono ?_
      rintro e W' ⟨hv, xs, rfl, hx⟩
      exact ⟨hv, [], by rw [hf], hx⟩
    | some g =>
      obtain ⟨_, _, ⟨D, hD, hI⟩, _⟩ := h.im c g hg
      refine ⟨Maps.size D, Nat.le_trans hD.size_le hK, ?_⟩
      have hs := AnyZ.keys_gives (ρ := keysMark_ren) { keysMark with } Fence.wide 6 trivial rfl (by omega) Bm g m.K D w hBm (by rw [h3, hmb, hg]) hD
      intro l J W hW hJ hY h0
      refine (hs l J W hW hJ hY h0).mono ?_
      rintro e W' ⟨hv, xs, hp, hx⟩
      exact ⟨hv, xs, hp.trans (hI.keys hD h.ok).symm, hx⟩
  obtain ⟨N, hN, hseq⟩ := hseq
  have eg : ∀ args w, (callFunc 48 args).run Tryz.prog w = .ok (.enter 48 args) w := enters_of Tryz.func48 (by kernel_rfl) rfl
  have hcol := callsIn_wide.1 (AnyZ.collect_in collectStr Fence.wide 8 trivial trivial rfl (by omega) 48 #[.pointer (some ⟨Bm, 0, none⟩)] trivial eg _ N (by unfold maxLen; omega) (by omega) w hseq)
  have HCol := hide hcol
  have H := hide h
  have HS := hide fun i hi => h.lt (i := i) hi
  clear hcol hseq eg h
  go_enter Tryz.func32, Tryz.ntmps32
  go_wp2_with fail
  refine HCol.out.mono ?_
  rintro e w2 ⟨v, ss, rfl, hp, ho, hnil, hb⟩
  have hv : ∃ O k, v = .slice O ss.length k := by
    rcases ho.2 with ⟨rfl, h0⟩ | ⟨g, cap, cur, rfl, _⟩
    · exact ⟨none, 0, by rw [h0]⟩
    · exact ⟨_, _, rfl⟩
  obtain ⟨O, k, rfl⟩ := hv
  have ho' : w2.ownsRow w.heap.size 9 1 (.slice O ss.length k) ss.length (stVs ss) := ho
  have hsrt := sortS_any m c b1 b2 w.heap.size O ss.length k ss w2 (H.out.keep hb) hc HS.out hb1 hb2 hb.size ((hb.cell (p := ⟨b1, 0, none⟩) hb1).trans h1) ((hb.cell (p := ⟨b2, 0, none⟩) hb2).trans h2) ho' hp rfl hK
  rw [hp.length_eq] at hsrt
  have HSrt := hide hsrt
  have HB := hide hb
  have hlen := hp.length_eq
  rw [hlen]
  clear hsrt hb ho ho' hp hnil hlen
  go_wp2_with fail
  refine HSrt.out.mono ?_
  rintro e w3 ⟨rfl, hr, hb3⟩
  have HR := hide hr
  have HB3 := hide hb3
  clear hr hb3
  go_wp2_with fail
  go_ret
  exact ⟨O, k, rfl, HR.out, HB.out.trans HB3.out⟩
end Go.Proofs.YtfjafpbmgbnllaaGreat
