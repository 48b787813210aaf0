/-
  What is proved here: what the document's own Find of layer 13 returns. Conditions: at most 65535 entries, whose filters are filters; a name that is not empty, of at most 65535 bytes.
-/
import Derived.Test.YtfjafpbmgbnllaaGreatSr4
import Derived.Test.YtfjafpbmgbnllaaGreatTr3
namespace Go.Proofs.YtfjafpbmgbnllaaGreat
set_option linter.unusedVariables false
set_option linter.unusedSimpArgs false
open Go.RowKit

def cutT (s : Nat) (A : Option Addr) (lo c : Nat) : Option Addr := if c = lo then A else A.map fun a => a.add (lo * s)
theorem run_tailT {P : Program} (t e : TypeId) (s : Nat) (ht : P.underlying t = some (.slice e)) (hs : (P.info? e).map (·.size) = some s) (A : Option Addr) (l c : Nat) (lo : Int) (lo' : Nat) (elo : lo = lo') (h1 : lo' ≤ l) (w : World) :
    (Instr.slice t (.slice A l c) (some (.int .i64 lo)) none none).run P w = .ok (.slice (cutT s A lo' c) (l - lo') (c - lo')) w := by
  subst elo
  obtain ⟨i, hi, hsz⟩ := Option.map_eq_some_iff.1 hs
  have a1 : (lo' : Int) ≤ (l : Int) := by omega
  simp [Instr.slice, run_underlying ht, Instr.sliceBounds, run_sliceBound, sizeOf, typeInfo, hi, hsz, cutT, a1]
theorem run_headT {P : Program} (t e : TypeId) (s : Nat) (ht : P.underlying t = some (.slice e)) (hs : (P.info? e).map (·.size) = some s) (A : Option Addr) (l c : Nat) (hi : Int) (h' : Nat) (eh : hi = h') (h1 : h' ≤ c) (w : World) :
    (Instr.slice t (.slice A l c) none (some (.int .i64 hi)) none).run P w = .ok (.slice A h' c) w := by
  subst eh
  obtain ⟨i, hi, hsz⟩ := Option.map_eq_some_iff.1 hs
  have a1 : (h' : Int) ≤ (c : Int) := by omega
  have hA : A.map (fun a => a.add 0) = A := by cases A <;> simp [Addr.add]
  simp [Instr.slice, run_underlying ht, Instr.sliceBounds, run_sliceBound, sizeOf, typeInfo, hi, hsz, a1, hA]
theorem twVs_take : ∀ (l : List (List UInt8 × Int)) (k : Nat), (twVs l).take (k * 2) = twVs (l.take k)
  | l, 0 => by simp [twVs]
  | [], k + 1 => by simp [twVs]
  | a :: l, k + 1 => by
    have := twVs_take l k
    show (twOne a ++ twVs l).take _ = twOne a ++ twVs (l.take k)
    rw [← this, show (k + 1) * 2 = (twOne a).length + k * 2 by simp [twOne]; omega, List.take_length_add_append]
theorem twVs_drop : ∀ (l : List (List UInt8 × Int)) (k : Nat), (twVs l).drop (k * 2) = twVs (l.drop k)
  | l, 0 => by simp
  | [], k + 1 => by simp [twVs]
  | a :: l, k + 1 => by
    have := twVs_drop l k
    show (twOne a ++ twVs l).drop _ = twVs (l.drop k)
    rw [← this, show (k + 1) * 2 = (twOne a).length + k * 2 by simp [twOne]; omega, List.drop_length_add_append]
theorem tw_head {w : World} {A : Option Addr} {l : List (List UInt8 × Int)} {m : Nat} (h : Rd w A (m * 2) (twVs l)) (k : Nat) (hk : k ≤ m) : Rd w A (k * 2) (twVs (l.take k)) := by
  have := h.cut 0 (k * 2) (m * 2) (by omega) (Nat.le_refl _)
  rwa [cutA_zero, List.drop_zero, twVs_take] at this
theorem tw_tail {w : World} {A : Option Addr} {l : List (List UInt8 × Int)} {m c : Nat} (h : Rd w A (m * 2) (twVs l)) (k : Nat) (hk : k ≤ m) (hc : m ≤ c) : Rd w (cutT 2 A k c) ((m - k) * 2) (twVs (l.drop k)) := by
  have hl : l.length = m := by have := h.1; rw [twVs_len] at this; omega
  by_cases he : k = m
  · rw [List.drop_of_length_le (by omega), show (m - k) * 2 = 0 by omega]
    exact Rd.nil _ _
  · have := h.tail (k * 2) (m * 2) (by omega) (Nat.le_refl _)
    rw [twVs_drop] at this
    unfold cutT
    unfold cutA at this
    rw [if_neg (by omega)] at this ⊢
    rwa [show (m - k) * 2 = m * 2 - k * 2 by omega]

/-- What Find answers. -/
def RetFi (es : List SE) (n : List UInt8) (w : World) (e : Ending) (w' : World) : Prop :=
  ∃ O ko, e = .returned (.slice O (findE es n).length ko) ∧ w'.ownsRow w.heap.size 69 2 (.slice O (findE es n).length ko) (findE es n).length (twVs (findE es n)) ∧ Below w.heap.size w w'
/-- The inner loop's state. -/
def FiS (w : World) (o : List (List UInt8 × Int)) (O : Option Addr) (m ko : Nat) (wr : World) : Prop := wr.ownsRow w.heap.size 69 2 (.slice O m ko) m (twVs o)

set_option maxHeartbeats 4000000 in
set_option maxRecDepth 100000 in
theorem rFind_any (g base : Nat) (es : List SE) (A : Option Addr) (k : Nat) (nm : List UInt8) (w : World) (h : RiA w g base es A k) (hn : es.length ≤ 65535) (hes : ∀ e ∈ es, filterL e.f = true ∧ e.f.length ≤ 65535) (hnm : nm.length ≤ 65535) (h0 : nm ≠ []) :
    Calls Tryz.prog 15 #[.pointer (some ⟨g, 0, none⟩), .string (str nm)] w (RetFi es nm w) := by
  have H := hide h
  have Hes := hide hes
  obtain ⟨n, hn1⟩ : ∃ n, es.length = n := ⟨_, rfl⟩
  have N := hide hn1
  rw [hn1] at hn
  clear h hn1 hes
  go_enter Tryz.func15, Tryz.ntmps15
  go_wp2_with fail
  go_loopw [5, 6] (fun ov iv_ wr => ∃ (i m : Nat) (O : Option Addr) (ko : Nat), i ≤ n ∧ iv_ = .int .i64 (i : Int) ∧ ov = .slice O m ko ∧ m = (findE (es.take i) nm).length ∧ m ≤ i ∧ FiS w (findE (es.take i) nm) O m ko wr ∧ Below w.heap.size w wr) (fun _ iv_ _ => n - (intOf iv_).toNat)
  case atStart => exact ⟨0, 0, none, 0, by omega, rfl, rfl, rfl, by omega, World.ownsRow_nil _ _ _ _, Below.refl _ _⟩
  case round =>
    obtain ⟨i, m, O, ko, hi, rfl, rfl, hm, hmi, hown, hbel⟩ := hrel
    have Hown := hide hown
    have HOx := hide (show ∀ b o, O = some ⟨b, o, none⟩ → w.heap.size ≤ b ∧ b < wr.heap.size from fun b o e => ⟨ownS_new hown b o e, ownS_lt hown b o e⟩)
    have Hb := hide hbel
    have HR := H.out.keep hbel
    have c0 := HR.cell
    rw [N.out] at c0
    by_cases hlt : i < n
    · have hl : i < es.length := by rw [N.out]; exact hlt
      obtain ⟨b, o, hA, hbl, hrg⟩ := HR.at_ hl
      have htk : es.take (i + 1) = es.take i ++ [es[i]] := (List.take_append_getElem hl).symm
      have hfe := Hes.out _ (List.getElem_mem hl)
      generalize es[i] = e at *
      obtain ⟨ec, ef, eq⟩ := e
      have hfs : findE (es.take (i + 1)) nm = wantE nm (findE (es.take i) nm) ⟨ec, ef, eq⟩ := by rw [htk, findE_snoc]
      have Hfs := hide hfs
      have PT := fun W => rTakes_any ef nm hfe.2 hnm hfe.1 h0 W
      have q1 : (i : Int) < (n : Int) := by omega
      have Hrg := hide hrg
      have Hm := hide hm
      clear hown hbel HR hl hrg hm htk hfe hfs
      subst hA
      go_upto_region 6 with (refine wpList_loadS rfl 65 (.tmp 24) rfl b (o + i * 3) [.string (str ec), .string (str ef), .int .i64 eq] rfl Hrg.out Tryz.underlying65 rfl (by kernel_rfl) ?_)
      generalize hW : wr.alloc _ = W
      obtain ⟨x, hx, hB, bW, hsz⟩ := boxedS (cs := [.string (str ec), .string (str ef), .int .i64 eq]) hW
      rw [hx]
      have bw : Below wr.heap.size wr W := by rw [hx]; exact bW
      have c1 := hB.cell 1
      have HB := hide hB
      have Hbw := hide bw
      have PT := PT W
      clear hW hB bW bw c0 hsz
      go_wp2_with fail
      refine PT.mono ?_
      rintro e V ⟨rfl, bV⟩
      have HB := hide (HB.out.keep bV)
      have Hbw := hide (below_on Hbw.out bV)
      have Hown := hide (ownS_keep Hown.out Hbw.out)
      clear PT bV c1
      cases hmt : matchL ef nm with
      | false =>
        have hst : findE (es.take (i + 1)) nm = findE (es.take i) nm := by rw [Hfs.out]; unfold wantE; rw [if_neg (by rw [hmt]; simp)]
        have Hst := hide hst
        clear hmt hst
        go_wp2_with fail
        exact ⟨⟨i + 1, m, O, ko, by omega, by go_num, rfl, by rw [Hst.out]; exact Hm.out, by omega, by rw [Hst.out]; exact Hown.out, below_on Hb.out Hbw.out⟩, by simp [intOf]; omega⟩
      | true =>
        have hst : findE (es.take (i + 1)) nm = wantIn ec eq (findE (es.take i) nm) := by rw [Hfs.out]; unfold wantE; rw [if_pos hmt]
        obtain ⟨l, hl⟩ : ∃ l, findE (es.take i) nm = l := ⟨_, rfl⟩
        rw [hl] at hst Hown Hm
        have hlm : l.length = m := Hm.out.symm
        have Hst := hide hst
        have Hlm := hide hlm
        have hcap := ownS_cap Hown.out
        clear hmt hst hl hlm Hfs Hrg
        go_wp2_with fail
        go_loopw [8] (fun av wr2 => ∃ t : Nat, t ≤ m ∧ av = .int .i64 (t : Int) ∧ (∀ j s, j < t → l[j]? = some s → Op.bytesLess s.1 ec = true) ∧ Below V.heap.size V wr2) (fun av _ => m - (intOf av).toNat)
        case atStart => exact ⟨0, by omega, rfl, fun j s hj => by omega, Below.refl _ _⟩
        case round =>
          obtain ⟨t, htm, rfl, hbf, hb2⟩ := hrel
          have Hbf := hide hbf
          have Hbr := hide hb2
          have HBx := hide (HB.out.keep hb2)
          have Hown2 := hide (ownS_keep Hown.out hb2)
          obtain ⟨X, hX⟩ : ∃ X, X = wr.drew.drew := ⟨_, rfl⟩
          have bX : Below wr.heap.size wr X := by rw [hX]; exact ((Below.refl _ _).drew).drew
          have HX := hide hX
          have BX := hide bX
          clear hbf hb2 hX bX
          have cw1 : ∀ v, Below wr.heap.size wr v → v.cell? ⟨x, 0, none⟩ = some (.string (str ec)) := fun v bv => (HBx.out.keep bv).cell 0
          by_cases ht : t < m
          · have hlt2 : t < l.length := by rw [Hlm.out]; exact ht
            obtain ⟨b2, o2, hO, hbl2, hrg2⟩ := tw_at (by rw [Hlm.out]; exact ownS_rd Hown2.out : Rd wr O (l.length * 2) (twVs l)) t hlt2
            have hrg2 := hrg2 t hlt2
            have hge : l[t]? = some l[t] := List.getElem?_eq_getElem hlt2
            generalize l[t] = s at *
            obtain ⟨d, p⟩ := s
            have cw0 : ∀ v, Below wr.heap.size wr v → v.cell? ⟨b2, o2 + t * 2, none⟩ = some (.string (str d)) := fun v bv => (bv.cell (p := ⟨b2, o2 + t * 2, none⟩) hbl2).trans (hrg2 0 _ rfl)
            have HO2 := hide hO
            have Hge := hide hge
            have q5 : (t : Int) < (m : Int) := by omega
            clear hrg2 hlt2 hge
            subst hO
            cases hbl3 : Op.bytesLess d ec with
            | true =>
              have Hbl := hide hbl3
              go_upto_region 8 with fail
              refine wp_region_held_drew (S := fun Z => Below wr.heap.size wr Z) (by kernel_rfl) ?_ (fun hHeld => ?_)
              · exact (Below.refl _ _).drew
              refine wpAnyH_take (i := 0) (oi := { dst := some 32, op := _, type := _, pos := _, after := _, guard := _ }) (v := ?v1x1) rfl (by kernel_rfl) (by kernel_rfl) (by kernel_rfl) (fun _ _ _ h => h) (Or.inl ⟨by rfl, ?hy1x1⟩) hHeld ?rest1x1
              case hy1x1 => (intro w hSw; go_simp <;> with_reducible rfl)
              try simp only [Act.put, List.setIfInBounds_toArray, List.set_cons_zero, List.set_cons_succ]
              refine wpAnyH_take (i := 1) (oi := { dst := some 33, op := _, type := _, pos := _, after := _, guard := _ }) (v := ?v1x2) rfl (by kernel_rfl) (by kernel_rfl) (by kernel_rfl) (fun _ _ _ h => h) (Or.inl ⟨by rfl, ?hy1x2⟩) hHeld ?rest1x2
              case hy1x2 => (intro w hSw; go_simp <;> with_reducible rfl)
              try simp only [Act.put, List.setIfInBounds_toArray, List.set_cons_zero, List.set_cons_succ]
              refine wpAnyH_take (i := 2) (oi := { dst := some 34, op := _, type := _, pos := _, after := _, guard := _ }) (v := ?v1x3) rfl (by kernel_rfl) (by kernel_rfl) (by kernel_rfl) (fun _ _ _ h => h) (Or.inl ⟨by rfl, ?hy1x3⟩) hHeld ?rest1x3
              case hy1x3 => (intro w hSw; go_simp <;> with_reducible rfl)
              try simp only [Act.put, List.setIfInBounds_toArray, List.set_cons_zero, List.set_cons_succ]
              refine wpAnyH_take (i := 3) (oi := { dst := some 35, op := _, type := _, pos := _, after := _, guard := _ }) (v := ?v1x4) rfl (by kernel_rfl) (by kernel_rfl) (by kernel_rfl) (fun _ _ _ h => h) (Or.inl ⟨by rfl, ?hy1x4⟩) hHeld ?rest1x4
              case hy1x4 => (intro w hSw; go_simp <;> with_reducible rfl)
              try simp only [Act.put, List.setIfInBounds_toArray, List.set_cons_zero, List.set_cons_succ]
              refine wpAnyH_take (i := 4) (oi := { dst := some 36, op := _, type := _, pos := _, after := _, guard := _ }) (v := ?v1x5) rfl (by kernel_rfl) (by kernel_rfl) (by kernel_rfl) (fun _ _ _ h => h) (Or.inl ⟨by rfl, ?hy1x5⟩) hHeld ?rest1x5
              case hy1x5 => (intro w hSw; go_simp <;> with_reducible rfl)
              try simp only [Act.put, List.setIfInBounds_toArray, List.set_cons_zero, List.set_cons_succ]
              refine wpAnyH_take (i := 5) (oi := { dst := some 37, op := _, type := _, pos := _, after := _, guard := _ }) (v := ?v1x6) rfl (by kernel_rfl) (by kernel_rfl) (by kernel_rfl) (fun _ _ _ h => h) (Or.inl ⟨by rfl, ?hy1x6⟩) hHeld ?rest1x6
              case hy1x6 => (intro w hSw; go_simp <;> with_reducible rfl)
              try simp only [Act.put, List.setIfInBounds_toArray, List.set_cons_zero, List.set_cons_succ]
              refine wpAnyH_take (i := 6) (oi := { dst := some 38, op := _, type := _, pos := _, after := _, guard := _ }) (v := ?v1x7) rfl (by kernel_rfl) (by kernel_rfl) (by kernel_rfl) (fun _ _ _ h => h) (Or.inl ⟨by rfl, ?hy1x7⟩) hHeld ?rest1x7
              case hy1x7 => (intro w hSw; go_simp <;> with_reducible rfl)
              try simp only [Act.put, List.setIfInBounds_toArray, List.set_cons_zero, List.set_cons_succ]
              refine wpAnyH_take (i := 7) (oi := { dst := some 39, op := _, type := _, pos := _, after := _, guard := _ }) (v := ?v1x8) rfl (by kernel_rfl) (by kernel_rfl) (by kernel_rfl) (fun _ _ _ h => h) (Or.inl ⟨by rfl, ?hy1x8⟩) hHeld ?rest1x8
              case hy1x8 => (intro w hSw; go_simp <;> with_reducible rfl)
              try simp only [Act.put, List.setIfInBounds_toArray, List.set_cons_zero, List.set_cons_succ]
              refine wpAnyH_take (i := 8) (oi := { dst := some 40, op := _, type := _, pos := _, after := _, guard := _ }) (v := ?v1x9) rfl (by kernel_rfl) (by kernel_rfl) (by kernel_rfl) (fun _ _ _ h => h) (Or.inl ⟨by rfl, ?hy1x9⟩) hHeld ?rest1x9
              case hy1x9 => (intro w hSw; go_simp <;> with_reducible rfl)
              try simp only [Act.put, List.setIfInBounds_toArray, List.set_cons_zero, List.set_cons_succ]
              refine wpAnyH_take (i := 9) (oi := { dst := some 41, op := _, type := _, pos := _, after := _, guard := _ }) (v := ?v1x10) rfl (by kernel_rfl) (by kernel_rfl) (by kernel_rfl) (fun _ _ _ h => h) (Or.inl ⟨by rfl, ?hy1x10⟩) hHeld ?rest1x10
              case hy1x10 => (intro w hSw; go_simp <;> with_reducible rfl)
              try simp only [Act.put, List.setIfInBounds_toArray, List.set_cons_zero, List.set_cons_succ]
              refine wpAnyH_take (i := 10) (oi := { dst := some 42, op := _, type := _, pos := _, after := _, guard := _ }) (v := ?v1x11) rfl (by kernel_rfl) (by kernel_rfl) (by kernel_rfl) (fun _ _ _ h => h) (Or.inl ⟨by rfl, ?hy1x11⟩) hHeld ?rest1x11
              case hy1x11 => (intro w hSw; go_simp <;> with_reducible rfl)
              try simp only [Act.put, List.setIfInBounds_toArray, List.set_cons_zero, List.set_cons_succ]
              refine wpAnyH_take (i := 11) (oi := { dst := some 43, op := _, type := _, pos := _, after := _, guard := _ }) (v := ?v1x12) rfl (by kernel_rfl) (by kernel_rfl) (by kernel_rfl) (fun _ _ _ h => h) (Or.inl ⟨by rfl, ?hy1x12⟩) hHeld ?rest1x12
              case hy1x12 => (intro w hSw; go_simp <;> with_reducible rfl)
              try simp only [Act.put, List.setIfInBounds_toArray, List.set_cons_zero, List.set_cons_succ]
              refine wpAnyH_take (i := 12) (oi := { dst := some 44, op := _, type := _, pos := _, after := _, guard := _ }) (v := ?v1x13) rfl (by kernel_rfl) (by kernel_rfl) (by kernel_rfl) (fun _ _ _ h => h) (Or.inl ⟨by rfl, ?hy1x13⟩) hHeld ?rest1x13
              case hy1x13 => (intro w hSw; go_simp <;> with_reducible rfl)
              try simp only [Act.put, List.setIfInBounds_toArray, List.set_cons_zero, List.set_cons_succ]
              refine wpAnyH_take (i := 13) (oi := { dst := some 45, op := _, type := _, pos := _, after := _, guard := _ }) (v := ?v1x14) rfl (by kernel_rfl) (by kernel_rfl) (by kernel_rfl) (fun _ _ _ h => h) (Or.inl ⟨by rfl, ?hy1x14⟩) hHeld ?rest1x14
              case hy1x14 => (intro w hSw; go_simp <;> with_reducible rfl)
              try simp only [Act.put, List.setIfInBounds_toArray, List.set_cons_zero, List.set_cons_succ]
              refine wpAnyH_done (by kernel_rfl) ?_ _
              have hbel := below_on Hbr.out hHeld
              clear cw0 cw1 hbl3
              go_wp2_with fail
              exact ⟨⟨t + 1, by omega, by go_num, fun j s hj hjs => by
                by_cases hjt : j = t
                · subst hjt
                  rw [Hge.out] at hjs
                  injection hjs with hjs
                  subst hjs
                  exact Hbl.out
                · exact Hbf.out j s (by omega) hjs, hbel⟩, by simp [intOf]; omega⟩
            | false =>
              have hwi := wantIn_at ec eq l t (by rw [Hlm.out]; exact htm) Hbf.out (fun s hs => by rw [Hge.out] at hs; injection hs with hs; subst hs; exact hbl3)
              rw [Hge.out] at hwi
              simp only at hwi
              by_cases hd : d = ec
              · subst hd
                rw [if_pos rfl] at hwi
                have Hwi := hide hwi
                have q6 : (d == d) = true := by simp
                clear hwi
                go_upto_region 8 with fail
                refine wp_region_held_drew (S := fun Z => Below wr.heap.size wr Z) (by kernel_rfl) ?_ (fun hHeld => ?_)
                · exact (Below.refl _ _).drew
                refine wpAnyH_take (i := 0) (oi := { dst := some 32, op := _, type := _, pos := _, after := _, guard := _ }) (v := ?v2x1) rfl (by kernel_rfl) (by kernel_rfl) (by kernel_rfl) (fun _ _ _ h => h) (Or.inl ⟨by rfl, ?hy2x1⟩) hHeld ?rest2x1
                case hy2x1 => (intro w hSw; go_simp <;> with_reducible rfl)
                try simp only [Act.put, List.setIfInBounds_toArray, List.set_cons_zero, List.set_cons_succ]
                refine wpAnyH_take (i := 1) (oi := { dst := some 33, op := _, type := _, pos := _, after := _, guard := _ }) (v := ?v2x2) rfl (by kernel_rfl) (by kernel_rfl) (by kernel_rfl) (fun _ _ _ h => h) (Or.inl ⟨by rfl, ?hy2x2⟩) hHeld ?rest2x2
                case hy2x2 => (intro w hSw; go_simp <;> with_reducible rfl)
                try simp only [Act.put, List.setIfInBounds_toArray, List.set_cons_zero, List.set_cons_succ]
                refine wpAnyH_take (i := 2) (oi := { dst := some 34, op := _, type := _, pos := _, after := _, guard := _ }) (v := ?v2x3) rfl (by kernel_rfl) (by kernel_rfl) (by kernel_rfl) (fun _ _ _ h => h) (Or.inl ⟨by rfl, ?hy2x3⟩) hHeld ?rest2x3
                case hy2x3 => (intro w hSw; go_simp <;> with_reducible rfl)
                try simp only [Act.put, List.setIfInBounds_toArray, List.set_cons_zero, List.set_cons_succ]
                refine wpAnyH_take (i := 3) (oi := { dst := some 35, op := _, type := _, pos := _, after := _, guard := _ }) (v := ?v2x4) rfl (by kernel_rfl) (by kernel_rfl) (by kernel_rfl) (fun _ _ _ h => h) (Or.inl ⟨by rfl, ?hy2x4⟩) hHeld ?rest2x4
                case hy2x4 => (intro w hSw; go_simp <;> with_reducible rfl)
                try simp only [Act.put, List.setIfInBounds_toArray, List.set_cons_zero, List.set_cons_succ]
                refine wpAnyH_take (i := 4) (oi := { dst := some 36, op := _, type := _, pos := _, after := _, guard := _ }) (v := ?v2x5) rfl (by kernel_rfl) (by kernel_rfl) (by kernel_rfl) (fun _ _ _ h => h) (Or.inl ⟨by rfl, ?hy2x5⟩) hHeld ?rest2x5
                case hy2x5 => (intro w hSw; go_simp <;> with_reducible rfl)
                try simp only [Act.put, List.setIfInBounds_toArray, List.set_cons_zero, List.set_cons_succ]
                refine wpAnyH_take (i := 5) (oi := { dst := some 37, op := _, type := _, pos := _, after := _, guard := _ }) (v := ?v2x6) rfl (by kernel_rfl) (by kernel_rfl) (by kernel_rfl) (fun _ _ _ h => h) (Or.inl ⟨by rfl, ?hy2x6⟩) hHeld ?rest2x6
                case hy2x6 => (intro w hSw; go_simp <;> with_reducible rfl)
                try simp only [Act.put, List.setIfInBounds_toArray, List.set_cons_zero, List.set_cons_succ]
                refine wpAnyH_take (i := 6) (oi := { dst := some 38, op := _, type := _, pos := _, after := _, guard := _ }) (v := ?v2x7) rfl (by kernel_rfl) (by kernel_rfl) (by kernel_rfl) (fun _ _ _ h => h) (Or.inl ⟨by rfl, ?hy2x7⟩) hHeld ?rest2x7
                case hy2x7 => (intro w hSw; go_simp <;> with_reducible rfl)
                try simp only [Act.put, List.setIfInBounds_toArray, List.set_cons_zero, List.set_cons_succ]
                refine wpAnyH_take (i := 7) (oi := { dst := some 39, op := _, type := _, pos := _, after := _, guard := _ }) (v := ?v2x8) rfl (by kernel_rfl) (by kernel_rfl) (by kernel_rfl) (fun _ _ _ h => h) (Or.inl ⟨by rfl, ?hy2x8⟩) hHeld ?rest2x8
                case hy2x8 => (intro w hSw; go_simp <;> with_reducible rfl)
                try simp only [Act.put, List.setIfInBounds_toArray, List.set_cons_zero, List.set_cons_succ]
                refine wpAnyH_take (i := 8) (oi := { dst := some 40, op := _, type := _, pos := _, after := _, guard := _ }) (v := ?v2x9) rfl (by kernel_rfl) (by kernel_rfl) (by kernel_rfl) (fun _ _ _ h => h) (Or.inl ⟨by rfl, ?hy2x9⟩) hHeld ?rest2x9
                case hy2x9 => (intro w hSw; go_simp <;> with_reducible rfl)
                try simp only [Act.put, List.setIfInBounds_toArray, List.set_cons_zero, List.set_cons_succ]
                refine wpAnyH_take (i := 9) (oi := { dst := some 41, op := _, type := _, pos := _, after := _, guard := _ }) (v := ?v2x10) rfl (by kernel_rfl) (by kernel_rfl) (by kernel_rfl) (fun _ _ _ h => h) (Or.inl ⟨by rfl, ?hy2x10⟩) hHeld ?rest2x10
                case hy2x10 => (intro w hSw; go_simp <;> with_reducible rfl)
                try simp only [Act.put, List.setIfInBounds_toArray, List.set_cons_zero, List.set_cons_succ]
                refine wpAnyH_take (i := 10) (oi := { dst := some 42, op := _, type := _, pos := _, after := _, guard := _ }) (v := ?v2x11) rfl (by kernel_rfl) (by kernel_rfl) (by kernel_rfl) (fun _ _ _ h => h) (Or.inl ⟨by rfl, ?hy2x11⟩) hHeld ?rest2x11
                case hy2x11 => (intro w hSw; go_simp <;> with_reducible rfl)
                try simp only [Act.put, List.setIfInBounds_toArray, List.set_cons_zero, List.set_cons_succ]
                refine wpAnyH_take (i := 11) (oi := { dst := some 43, op := _, type := _, pos := _, after := _, guard := _ }) (v := ?v2x12) rfl (by kernel_rfl) (by kernel_rfl) (by kernel_rfl) (fun _ _ _ h => h) (Or.inl ⟨by rfl, ?hy2x12⟩) hHeld ?rest2x12
                case hy2x12 => (intro w hSw; go_simp <;> with_reducible rfl)
                try simp only [Act.put, List.setIfInBounds_toArray, List.set_cons_zero, List.set_cons_succ]
                refine wpAnyH_take (i := 12) (oi := { dst := some 44, op := _, type := _, pos := _, after := _, guard := _ }) (v := ?v2x13) rfl (by kernel_rfl) (by kernel_rfl) (by kernel_rfl) (fun _ _ _ h => h) (Or.inl ⟨by rfl, ?hy2x13⟩) hHeld ?rest2x13
                case hy2x13 => (intro w hSw; go_simp <;> with_reducible rfl)
                try simp only [Act.put, List.setIfInBounds_toArray, List.set_cons_zero, List.set_cons_succ]
                refine wpAnyH_take (i := 13) (oi := { dst := some 45, op := _, type := _, pos := _, after := _, guard := _ }) (v := ?v2x14) rfl (by kernel_rfl) (by kernel_rfl) (by kernel_rfl) (fun _ _ _ h => h) (Or.inl ⟨by rfl, ?hy2x14⟩) hHeld ?rest2x14
                case hy2x14 => (intro w hSw; go_simp <;> with_reducible rfl)
                try simp only [Act.put, List.setIfInBounds_toArray, List.set_cons_zero, List.set_cons_succ]
                refine wpAnyH_done (by kernel_rfl) ?_ _
                clear hHeld hbl3
                go_upto_region 10 with fail
                refine wp_region_held_drew (S := fun Z => Below wr.heap.size wr Z) (by kernel_rfl) ?_ (fun hHeld => ?_)
                · exact ((Below.refl _ _).drew).drew
                refine wpAnyH_take (i := 0) (oi := { dst := some 48, op := _, type := _, pos := _, after := _, guard := _ }) (v := ?v3x1) rfl (by kernel_rfl) (by kernel_rfl) (by kernel_rfl) (fun _ _ _ h => h) (Or.inl ⟨by rfl, ?hy3x1⟩) hHeld ?rest3x1
                case hy3x1 => (intro w hSw; go_simp <;> with_reducible rfl)
                try simp only [Act.put, List.setIfInBounds_toArray, List.set_cons_zero, List.set_cons_succ]
                refine wpAnyH_take (i := 1) (oi := { dst := some 49, op := _, type := _, pos := _, after := _, guard := _ }) (v := ?v3x2) rfl (by kernel_rfl) (by kernel_rfl) (by kernel_rfl) (fun _ _ _ h => h) (Or.inl ⟨by rfl, ?hy3x2⟩) hHeld ?rest3x2
                case hy3x2 => (intro w hSw; go_simp <;> with_reducible rfl)
                try simp only [Act.put, List.setIfInBounds_toArray, List.set_cons_zero, List.set_cons_succ]
                refine wpAnyH_take (i := 2) (oi := { dst := some 50, op := _, type := _, pos := _, after := _, guard := _ }) (v := ?v3x3) rfl (by kernel_rfl) (by kernel_rfl) (by kernel_rfl) (fun _ _ _ h => h) (Or.inl ⟨by rfl, ?hy3x3⟩) hHeld ?rest3x3
                case hy3x3 => (intro w hSw; go_simp <;> with_reducible rfl)
                try simp only [Act.put, List.setIfInBounds_toArray, List.set_cons_zero, List.set_cons_succ]
                refine wpAnyH_take (i := 3) (oi := { dst := some 51, op := _, type := _, pos := _, after := _, guard := _ }) (v := ?v3x4) rfl (by kernel_rfl) (by kernel_rfl) (by kernel_rfl) (fun _ _ _ h => h) (Or.inl ⟨by rfl, ?hy3x4⟩) hHeld ?rest3x4
                case hy3x4 => (intro w hSw; go_simp <;> with_reducible rfl)
                try simp only [Act.put, List.setIfInBounds_toArray, List.set_cons_zero, List.set_cons_succ]
                refine wpAnyH_take (i := 4) (oi := { dst := some 52, op := _, type := _, pos := _, after := _, guard := _ }) (v := ?v3x5) rfl (by kernel_rfl) (by kernel_rfl) (by kernel_rfl) (fun _ _ _ h => h) (Or.inl ⟨by rfl, ?hy3x5⟩) hHeld ?rest3x5
                case hy3x5 => (intro w hSw; go_simp <;> with_reducible rfl)
                try simp only [Act.put, List.setIfInBounds_toArray, List.set_cons_zero, List.set_cons_succ]
                refine wpAnyH_take (i := 5) (oi := { dst := some 53, op := _, type := _, pos := _, after := _, guard := _ }) (v := ?v3x6) rfl (by kernel_rfl) (by kernel_rfl) (by kernel_rfl) (fun _ _ _ h => h) (Or.inl ⟨by rfl, ?hy3x6⟩) hHeld ?rest3x6
                case hy3x6 => (intro w hSw; go_simp <;> with_reducible rfl)
                try simp only [Act.put, List.setIfInBounds_toArray, List.set_cons_zero, List.set_cons_succ]
                refine wpAnyH_take (i := 6) (oi := { dst := some 54, op := _, type := _, pos := _, after := _, guard := _ }) (v := ?v3x7) rfl (by kernel_rfl) (by kernel_rfl) (by kernel_rfl) (fun _ _ _ h => h) (Or.inl ⟨by rfl, ?hy3x7⟩) hHeld ?rest3x7
                case hy3x7 => (intro w hSw; go_simp <;> with_reducible rfl)
                try simp only [Act.put, List.setIfInBounds_toArray, List.set_cons_zero, List.set_cons_succ]
                refine wpAnyH_take (i := 7) (oi := { dst := some 55, op := _, type := _, pos := _, after := _, guard := _ }) (v := ?v3x8) rfl (by kernel_rfl) (by kernel_rfl) (by kernel_rfl) (fun _ _ _ h => h) (Or.inl ⟨by rfl, ?hy3x8⟩) hHeld ?rest3x8
                case hy3x8 => (intro w hSw; go_simp <;> with_reducible rfl)
                try simp only [Act.put, List.setIfInBounds_toArray, List.set_cons_zero, List.set_cons_succ]
                refine wpAnyH_take (i := 8) (oi := { dst := some 56, op := _, type := _, pos := _, after := _, guard := _ }) (v := ?v3x9) rfl (by kernel_rfl) (by kernel_rfl) (by kernel_rfl) (fun _ _ _ h => h) (Or.inl ⟨by rfl, ?hy3x9⟩) hHeld ?rest3x9
                case hy3x9 => (intro w hSw; go_simp <;> with_reducible rfl)
                try simp only [Act.put, List.setIfInBounds_toArray, List.set_cons_zero, List.set_cons_succ]
                refine wpAnyH_take (i := 9) (oi := { dst := some 57, op := _, type := _, pos := _, after := _, guard := _ }) (v := ?v3x10) rfl (by kernel_rfl) (by kernel_rfl) (by kernel_rfl) (fun _ _ _ h => h) (Or.inl ⟨by rfl, ?hy3x10⟩) hHeld ?rest3x10
                case hy3x10 => (intro w hSw; go_simp <;> with_reducible rfl)
                try simp only [Act.put, List.setIfInBounds_toArray, List.set_cons_zero, List.set_cons_succ]
                refine wpAnyH_take (i := 10) (oi := { dst := some 58, op := _, type := _, pos := _, after := _, guard := _ }) (v := ?v3x11) rfl (by kernel_rfl) (by kernel_rfl) (by kernel_rfl) (fun _ _ _ h => h) (Or.inl ⟨by rfl, ?hy3x11⟩) hHeld ?rest3x11
                case hy3x11 => (intro w hSw; go_simp <;> with_reducible rfl)
                try simp only [Act.put, List.setIfInBounds_toArray, List.set_cons_zero, List.set_cons_succ]
                refine wpAnyH_take (i := 11) (oi := { dst := some 59, op := _, type := _, pos := _, after := _, guard := _ }) (v := ?v3x12) rfl (by kernel_rfl) (by kernel_rfl) (by kernel_rfl) (fun _ _ _ h => h) (Or.inl ⟨by rfl, ?hy3x12⟩) hHeld ?rest3x12
                case hy3x12 => (intro w hSw; go_simp <;> with_reducible rfl)
                try simp only [Act.put, List.setIfInBounds_toArray, List.set_cons_zero, List.set_cons_succ]
                refine wpAnyH_take (i := 12) (oi := { dst := some 60, op := _, type := _, pos := _, after := _, guard := _ }) (v := ?v3x13) rfl (by kernel_rfl) (by kernel_rfl) (by kernel_rfl) (fun _ _ _ h => h) (Or.inl ⟨by rfl, ?hy3x13⟩) hHeld ?rest3x13
                case hy3x13 => (intro w hSw; go_simp <;> with_reducible rfl)
                try simp only [Act.put, List.setIfInBounds_toArray, List.set_cons_zero, List.set_cons_succ]
                refine wpAnyH_take (i := 13) (oi := { dst := some 61, op := _, type := _, pos := _, after := _, guard := _ }) (v := ?v3x14) rfl (by kernel_rfl) (by kernel_rfl) (by kernel_rfl) (fun _ _ _ h => h) (Or.inl ⟨by rfl, ?hy3x14⟩) hHeld ?rest3x14
                case hy3x14 => (intro w hSw; go_simp <;> with_reducible rfl)
                try simp only [Act.put, List.setIfInBounds_toArray, List.set_cons_zero, List.set_cons_succ]
                refine wpAnyH_done (by kernel_rfl) ?_ _
                clear hHeld cw0 cw1
                rw [← HX.out]
                have hO1 := HOx.out b2 o2 rfl
                have hwb := hO1.1
                have hxb : x ≠ b2 := by have := hO1.2; omega
                have HOX := hide (ownS_keep Hown2.out BX.out)
                have HBX := hide (HBx.out.keep BX.out)
                have cx0 : ∀ v, But (fun j => j = b2) X v → v.cell? ⟨x, 2, none⟩ = some (.int .i64 eq) := fun v bv => (HBX.out.but bv hxb).cell 2
                have cq : X.drew.cell? ⟨b2, o2 + t * 2 + 1, none⟩ = some (.int .i64 p) := by
                  obtain ⟨b3, o3, e3, _, hr3⟩ := tw_at (by rw [Hlm.out]; exact ownS_rd (ownS_keep HOX.out ((Below.refl _ _).drew)) : Rd X.drew (some ⟨b2, o2, none⟩) (l.length * 2) (twVs l)) t (by rw [Hlm.out]; exact ht)
                  injection e3 with e3
                  injection e3 with e3 e4
                  subst e3 e4
                  have h5 := hr3 t (by rw [Hlm.out]; exact ht) 1 (.int .i64 p) (by
                    have h6 := (List.getElem?_eq_some_iff.1 Hge.out).2
                    rw [h6]
                    rfl)
                  exact h5
                have fr : X.drew.frozen? ⟨b2, o2 + t * 2 + 1, none⟩ = false := ownS_frozen (ownS_keep HOX.out ((Below.refl _ _).drew)) rfl _
                clear hO1
                by_cases hmx : p < eq
                · have q9 : decide (eq > p) = true := by simpa using hmx
                  go_upto_region 11 with fail
                  refine wp_region_held_drew (S := fun Z => But (fun j => j = b2) X Z) (by kernel_rfl) ?_ (fun hHeld => ?_)
                  · exact But.ofBelow ((Below.refl _ _).drew) _
                  refine wpAnyH_take (i := 0) (oi := { dst := some 62, op := _, type := _, pos := _, after := _, guard := _ }) (v := ?v4x1) rfl (by kernel_rfl) (by kernel_rfl) (by kernel_rfl) (fun _ _ _ h => h) (Or.inl ⟨by rfl, ?hy4x1⟩) hHeld ?rest4x1
                  case hy4x1 => (intro w hSw; go_simp <;> with_reducible rfl)
                  try simp only [Act.put, List.setIfInBounds_toArray, List.set_cons_zero, List.set_cons_succ]
                  refine wpAnyH_take (i := 1) (oi := { dst := some 63, op := _, type := _, pos := _, after := _, guard := _ }) (v := ?v4x2) rfl (by kernel_rfl) (by kernel_rfl) (by kernel_rfl) (fun _ _ _ h => h) (Or.inl ⟨by rfl, ?hy4x2⟩) hHeld ?rest4x2
                  case hy4x2 => (intro w hSw; go_simp <;> with_reducible rfl)
                  try simp only [Act.put, List.setIfInBounds_toArray, List.set_cons_zero, List.set_cons_succ]
                  refine wpAnyH_take (i := 2) (oi := { dst := some 64, op := _, type := _, pos := _, after := _, guard := _ }) (v := ?v4x3) rfl (by kernel_rfl) (by kernel_rfl) (by kernel_rfl) (fun _ _ _ h => h) (Or.inl ⟨by rfl, ?hy4x3⟩) hHeld ?rest4x3
                  case hy4x3 => (intro w hSw; go_simp <;> with_reducible rfl)
                  try simp only [Act.put, List.setIfInBounds_toArray, List.set_cons_zero, List.set_cons_succ]
                  refine wpAnyH_take (i := 3) (oi := { dst := some 65, op := _, type := _, pos := _, after := _, guard := _ }) (v := ?v4x4) rfl (by kernel_rfl) (by kernel_rfl) (by kernel_rfl) (fun _ _ _ h => h) (Or.inl ⟨by rfl, ?hy4x4⟩) hHeld ?rest4x4
                  case hy4x4 => (intro w hSw; go_simp <;> with_reducible rfl)
                  try simp only [Act.put, List.setIfInBounds_toArray, List.set_cons_zero, List.set_cons_succ]
                  refine wpAnyH_take (i := 4) (oi := { dst := some 66, op := _, type := _, pos := _, after := _, guard := _ }) (v := ?v4x5) rfl (by kernel_rfl) (by kernel_rfl) (by kernel_rfl) (fun _ _ _ h => h) (Or.inl ⟨by rfl, ?hy4x5⟩) hHeld ?rest4x5
                  case hy4x5 => (intro w hSw; go_simp <;> with_reducible rfl)
                  try simp only [Act.put, List.setIfInBounds_toArray, List.set_cons_zero, List.set_cons_succ]
                  refine wpAnyH_take (i := 5) (oi := { dst := some 67, op := _, type := _, pos := _, after := _, guard := _ }) (v := ?v4x6) rfl (by kernel_rfl) (by kernel_rfl) (by kernel_rfl) (fun _ _ _ h => h) (Or.inl ⟨by rfl, ?hy4x6⟩) hHeld ?rest4x6
                  case hy4x6 => (intro w hSw; go_simp <;> with_reducible rfl)
                  try simp only [Act.put, List.setIfInBounds_toArray, List.set_cons_zero, List.set_cons_succ]
                  refine wpAnyH_take (i := 7) (oi := { dst := some 69, op := _, type := _, pos := _, after := _, guard := _ }) (v := ?v4x7) rfl (by kernel_rfl) (by kernel_rfl) (by kernel_rfl) (fun _ _ _ h => h) (Or.inl ⟨by rfl, ?hy4x7⟩) hHeld ?rest4x7
                  case hy4x7 => (intro w hSw; go_simp <;> with_reducible rfl)
                  try simp only [Act.put, List.setIfInBounds_toArray, List.set_cons_zero, List.set_cons_succ]
                  refine wpAnyH_take (i := 8) (oi := { dst := some 70, op := _, type := _, pos := _, after := _, guard := _ }) (v := ?v4x8) rfl (by kernel_rfl) (by kernel_rfl) (by kernel_rfl) (fun _ _ _ h => h) (Or.inl ⟨by rfl, ?hy4x8⟩) hHeld ?rest4x8
                  case hy4x8 => (intro w hSw; go_simp <;> with_reducible rfl)
                  try simp only [Act.put, List.setIfInBounds_toArray, List.set_cons_zero, List.set_cons_succ]
                  refine wpAnyH_take (i := 9) (oi := { dst := some 71, op := _, type := _, pos := _, after := _, guard := _ }) (v := ?v4x9) rfl (by kernel_rfl) (by kernel_rfl) (by kernel_rfl) (fun _ _ _ h => h) (Or.inl ⟨by rfl, ?hy4x9⟩) hHeld ?rest4x9
                  case hy4x9 => (intro w hSw; go_simp <;> with_reducible rfl)
                  try simp only [Act.put, List.setIfInBounds_toArray, List.set_cons_zero, List.set_cons_succ]
                  refine wpAnyH_ready (rs := [6]) (by kernel_rfl) (by simp) (AllReadyH.cons (o := { dst := some 68, op := _, type := _, pos := _, after := _, guard := _ }) rfl (fun K hK => ?_) AllReadyH.nil)
                  go_simp
                  go_wp2_with fail
                  refine hK.out _ _ ?_ (fun hHeld => ?_)
                  · exact hHeld
                  clear hK K
                  try simp only [Act.put, List.setIfInBounds_toArray, List.set_cons_zero, List.set_cons_succ]
                  refine wpAnyH_take (i := 10) (oi := { dst := some 72, op := _, type := _, pos := _, after := _, guard := _ }) (v := ?v4x11) rfl (by kernel_rfl) (by kernel_rfl) (by kernel_rfl) (fun _ _ _ h => h) (Or.inl ⟨by rfl, ?hy4x11⟩) hHeld ?rest4x11
                  case hy4x11 => (intro w hSw; go_simp <;> with_reducible rfl)
                  try simp only [Act.put, List.setIfInBounds_toArray, List.set_cons_zero, List.set_cons_succ]
                  refine wpAnyH_take (i := 11) (oi := { dst := some 73, op := _, type := _, pos := _, after := _, guard := _ }) (v := ?v4x12) rfl (by kernel_rfl) (by kernel_rfl) (by kernel_rfl) (fun _ _ _ h => h) (Or.inl ⟨by rfl, ?hy4x12⟩) hHeld ?rest4x12
                  case hy4x12 => (intro w hSw; go_simp <;> with_reducible rfl)
                  try simp only [Act.put, List.setIfInBounds_toArray, List.set_cons_zero, List.set_cons_succ]
                  refine wpAnyH_take (i := 12) (oi := { dst := some 74, op := _, type := _, pos := _, after := _, guard := _ }) (v := ?v4x13) rfl (by kernel_rfl) (by kernel_rfl) (by kernel_rfl) (fun _ _ _ h => h) (Or.inl ⟨by rfl, ?hy4x13⟩) hHeld ?rest4x13
                  case hy4x13 => (intro w hSw; go_simp <;> with_reducible rfl)
                  try simp only [Act.put, List.setIfInBounds_toArray, List.set_cons_zero, List.set_cons_succ]
                  refine wpAnyH_ready (rs := [13]) (by kernel_rfl) (by simp) (AllReadyH.cons (o := { dst := none, op := _, type := _, pos := _, after := _, guard := _ }) rfl (fun K hK => ?_) AllReadyH.nil)
                  go_simp
                  go_wp2_with fail
                  refine hK.out _ _ ?_ (fun hHeld => ?_)
                  · exact hHeld.setCell' _ rfl
                  clear hK K
                  try simp only [Act.put, List.setIfInBounds_toArray, List.set_cons_zero, List.set_cons_succ]
                  refine wpAnyH_done (by kernel_rfl) ?_ _
                  clear cx0 cq fr
                  go_wp2_with fail
                  refine ⟨⟨i + 1, m, some ⟨b2, o2, none⟩, ko, by omega, by go_num, rfl, ?_, by omega, ?_, ?_⟩, by simp [intOf]; omega⟩
                  · rw [Hst.out, Hwi.out, List.length_set, Hlm.out]
                  · have ho := ownS_set HOX.out rfl (t * 2 + 1) (by omega) (.int .i64 (max p eq))
                    rw [twVs_set l t d p _ Hge.out] at ho
                    rw [Hst.out, Hwi.out]
                    unfold FiS
                    first
                      | (rw [show max p eq = eq by omega] at ho ⊢
                         exact ownS_keep ho ((Below.refl _ _).drew))
                      | (rw [show max p eq = p by omega] at ho ⊢
                         exact ownS_keep ho ((Below.refl _ _).drew))
                  · have hB : Below w.heap.size w X := below_on Hb.out (below_on Hbw.out (below_on Hbr.out BX.out))
                    exact (But.below hB (But.setCell (S := fun j => j = b2) X _ rfl) (fun j e => by have h7 : j = b2 := e; omega) hB.size).drew
                · have q9 : decide (eq > p) = false := by simpa using hmx
                  go_upto_region 11 with fail
                  refine wp_region_held_drew (S := fun Z => But (fun j => j = b2) X Z) (by kernel_rfl) ?_ (fun hHeld => ?_)
                  · exact But.ofBelow ((Below.refl _ _).drew) _
                  refine wpAnyH_take (i := 0) (oi := { dst := some 62, op := _, type := _, pos := _, after := _, guard := _ }) (v := ?v5x1) rfl (by kernel_rfl) (by kernel_rfl) (by kernel_rfl) (fun _ _ _ h => h) (Or.inl ⟨by rfl, ?hy5x1⟩) hHeld ?rest5x1
                  case hy5x1 => (intro w hSw; go_simp <;> with_reducible rfl)
                  try simp only [Act.put, List.setIfInBounds_toArray, List.set_cons_zero, List.set_cons_succ]
                  refine wpAnyH_take (i := 1) (oi := { dst := some 63, op := _, type := _, pos := _, after := _, guard := _ }) (v := ?v5x2) rfl (by kernel_rfl) (by kernel_rfl) (by kernel_rfl) (fun _ _ _ h => h) (Or.inl ⟨by rfl, ?hy5x2⟩) hHeld ?rest5x2
                  case hy5x2 => (intro w hSw; go_simp <;> with_reducible rfl)
                  try simp only [Act.put, List.setIfInBounds_toArray, List.set_cons_zero, List.set_cons_succ]
                  refine wpAnyH_take (i := 2) (oi := { dst := some 64, op := _, type := _, pos := _, after := _, guard := _ }) (v := ?v5x3) rfl (by kernel_rfl) (by kernel_rfl) (by kernel_rfl) (fun _ _ _ h => h) (Or.inl ⟨by rfl, ?hy5x3⟩) hHeld ?rest5x3
                  case hy5x3 => (intro w hSw; go_simp <;> with_reducible rfl)
                  try simp only [Act.put, List.setIfInBounds_toArray, List.set_cons_zero, List.set_cons_succ]
                  refine wpAnyH_take (i := 3) (oi := { dst := some 65, op := _, type := _, pos := _, after := _, guard := _ }) (v := ?v5x4) rfl (by kernel_rfl) (by kernel_rfl) (by kernel_rfl) (fun _ _ _ h => h) (Or.inl ⟨by rfl, ?hy5x4⟩) hHeld ?rest5x4
                  case hy5x4 => (intro w hSw; go_simp <;> with_reducible rfl)
                  try simp only [Act.put, List.setIfInBounds_toArray, List.set_cons_zero, List.set_cons_succ]
                  refine wpAnyH_take (i := 4) (oi := { dst := some 66, op := _, type := _, pos := _, after := _, guard := _ }) (v := ?v5x5) rfl (by kernel_rfl) (by kernel_rfl) (by kernel_rfl) (fun _ _ _ h => h) (Or.inl ⟨by rfl, ?hy5x5⟩) hHeld ?rest5x5
                  case hy5x5 => (intro w hSw; go_simp <;> with_reducible rfl)
                  try simp only [Act.put, List.setIfInBounds_toArray, List.set_cons_zero, List.set_cons_succ]
                  refine wpAnyH_take (i := 5) (oi := { dst := some 67, op := _, type := _, pos := _, after := _, guard := _ }) (v := ?v5x6) rfl (by kernel_rfl) (by kernel_rfl) (by kernel_rfl) (fun _ _ _ h => h) (Or.inl ⟨by rfl, ?hy5x6⟩) hHeld ?rest5x6
                  case hy5x6 => (intro w hSw; go_simp <;> with_reducible rfl)
                  try simp only [Act.put, List.setIfInBounds_toArray, List.set_cons_zero, List.set_cons_succ]
                  refine wpAnyH_take (i := 7) (oi := { dst := some 69, op := _, type := _, pos := _, after := _, guard := _ }) (v := ?v5x7) rfl (by kernel_rfl) (by kernel_rfl) (by kernel_rfl) (fun _ _ _ h => h) (Or.inl ⟨by rfl, ?hy5x7⟩) hHeld ?rest5x7
                  case hy5x7 => (intro w hSw; go_simp <;> with_reducible rfl)
                  try simp only [Act.put, List.setIfInBounds_toArray, List.set_cons_zero, List.set_cons_succ]
                  refine wpAnyH_take (i := 8) (oi := { dst := some 70, op := _, type := _, pos := _, after := _, guard := _ }) (v := ?v5x8) rfl (by kernel_rfl) (by kernel_rfl) (by kernel_rfl) (fun _ _ _ h => h) (Or.inl ⟨by rfl, ?hy5x8⟩) hHeld ?rest5x8
                  case hy5x8 => (intro w hSw; go_simp <;> with_reducible rfl)
                  try simp only [Act.put, List.setIfInBounds_toArray, List.set_cons_zero, List.set_cons_succ]
                  refine wpAnyH_take (i := 9) (oi := { dst := some 71, op := _, type := _, pos := _, after := _, guard := _ }) (v := ?v5x9) rfl (by kernel_rfl) (by kernel_rfl) (by kernel_rfl) (fun _ _ _ h => h) (Or.inl ⟨by rfl, ?hy5x9⟩) hHeld ?rest5x9
                  case hy5x9 => (intro w hSw; go_simp <;> with_reducible rfl)
                  try simp only [Act.put, List.setIfInBounds_toArray, List.set_cons_zero, List.set_cons_succ]
                  refine wpAnyH_ready (rs := [6]) (by kernel_rfl) (by simp) (AllReadyH.cons (o := { dst := some 68, op := _, type := _, pos := _, after := _, guard := _ }) rfl (fun K hK => ?_) AllReadyH.nil)
                  go_simp
                  go_wp2_with fail
                  refine hK.out _ _ ?_ (fun hHeld => ?_)
                  · exact hHeld
                  clear hK K
                  try simp only [Act.put, List.setIfInBounds_toArray, List.set_cons_zero, List.set_cons_succ]
                  refine wpAnyH_take (i := 10) (oi := { dst := some 72, op := _, type := _, pos := _, after := _, guard := _ }) (v := ?v5x11) rfl (by kernel_rfl) (by kernel_rfl) (by kernel_rfl) (fun _ _ _ h => h) (Or.inl ⟨by rfl, ?hy5x11⟩) hHeld ?rest5x11
                  case hy5x11 => (intro w hSw; go_simp <;> with_reducible rfl)
                  try simp only [Act.put, List.setIfInBounds_toArray, List.set_cons_zero, List.set_cons_succ]
                  refine wpAnyH_take (i := 11) (oi := { dst := some 73, op := _, type := _, pos := _, after := _, guard := _ }) (v := ?v5x12) rfl (by kernel_rfl) (by kernel_rfl) (by kernel_rfl) (fun _ _ _ h => h) (Or.inl ⟨by rfl, ?hy5x12⟩) hHeld ?rest5x12
                  case hy5x12 => (intro w hSw; go_simp <;> with_reducible rfl)
                  try simp only [Act.put, List.setIfInBounds_toArray, List.set_cons_zero, List.set_cons_succ]
                  refine wpAnyH_take (i := 12) (oi := { dst := some 74, op := _, type := _, pos := _, after := _, guard := _ }) (v := ?v5x13) rfl (by kernel_rfl) (by kernel_rfl) (by kernel_rfl) (fun _ _ _ h => h) (Or.inl ⟨by rfl, ?hy5x13⟩) hHeld ?rest5x13
                  case hy5x13 => (intro w hSw; go_simp <;> with_reducible rfl)
                  try simp only [Act.put, List.setIfInBounds_toArray, List.set_cons_zero, List.set_cons_succ]
                  refine wpAnyH_ready (rs := [13]) (by kernel_rfl) (by simp) (AllReadyH.cons (o := { dst := none, op := _, type := _, pos := _, after := _, guard := _ }) rfl (fun K hK => ?_) AllReadyH.nil)
                  go_simp
                  go_wp2_with fail
                  refine hK.out _ _ ?_ (fun hHeld => ?_)
                  · exact hHeld.setCell' _ rfl
                  clear hK K
                  try simp only [Act.put, List.setIfInBounds_toArray, List.set_cons_zero, List.set_cons_succ]
                  refine wpAnyH_done (by kernel_rfl) ?_ _
                  clear cx0 cq fr
                  go_wp2_with fail
                  refine ⟨⟨i + 1, m, some ⟨b2, o2, none⟩, ko, by omega, by go_num, rfl, ?_, by omega, ?_, ?_⟩, by simp [intOf]; omega⟩
                  · rw [Hst.out, Hwi.out, List.length_set, Hlm.out]
                  · have ho := ownS_set HOX.out rfl (t * 2 + 1) (by omega) (.int .i64 (max p eq))
                    rw [twVs_set l t d p _ Hge.out] at ho
                    rw [Hst.out, Hwi.out]
                    unfold FiS
                    first
                      | (rw [show max p eq = eq by omega] at ho ⊢
                         exact ownS_keep ho ((Below.refl _ _).drew))
                      | (rw [show max p eq = p by omega] at ho ⊢
                         exact ownS_keep ho ((Below.refl _ _).drew))
                  · have hB : Below w.heap.size w X := below_on Hb.out (below_on Hbw.out (below_on Hbr.out BX.out))
                    exact (But.below hB (But.setCell (S := fun j => j = b2) X _ rfl) (fun j e => by have h7 : j = b2 := e; omega) hB.size).drew
              · rw [if_neg hd] at hwi
                have Hwi := hide hwi
                have q6 : (d == ec) = false := by simpa using hd
                clear hwi
                go_upto_region 8 with fail
                refine wp_region_held_drew (S := fun Z => Below wr.heap.size wr Z) (by kernel_rfl) ?_ (fun hHeld => ?_)
                · exact (Below.refl _ _).drew
                refine wpAnyH_take (i := 0) (oi := { dst := some 32, op := _, type := _, pos := _, after := _, guard := _ }) (v := ?v6x1) rfl (by kernel_rfl) (by kernel_rfl) (by kernel_rfl) (fun _ _ _ h => h) (Or.inl ⟨by rfl, ?hy6x1⟩) hHeld ?rest6x1
                case hy6x1 => (intro w hSw; go_simp <;> with_reducible rfl)
                try simp only [Act.put, List.setIfInBounds_toArray, List.set_cons_zero, List.set_cons_succ]
                refine wpAnyH_take (i := 1) (oi := { dst := some 33, op := _, type := _, pos := _, after := _, guard := _ }) (v := ?v6x2) rfl (by kernel_rfl) (by kernel_rfl) (by kernel_rfl) (fun _ _ _ h => h) (Or.inl ⟨by rfl, ?hy6x2⟩) hHeld ?rest6x2
                case hy6x2 => (intro w hSw; go_simp <;> with_reducible rfl)
                try simp only [Act.put, List.setIfInBounds_toArray, List.set_cons_zero, List.set_cons_succ]
                refine wpAnyH_take (i := 2) (oi := { dst := some 34, op := _, type := _, pos := _, after := _, guard := _ }) (v := ?v6x3) rfl (by kernel_rfl) (by kernel_rfl) (by kernel_rfl) (fun _ _ _ h => h) (Or.inl ⟨by rfl, ?hy6x3⟩) hHeld ?rest6x3
                case hy6x3 => (intro w hSw; go_simp <;> with_reducible rfl)
                try simp only [Act.put, List.setIfInBounds_toArray, List.set_cons_zero, List.set_cons_succ]
                refine wpAnyH_take (i := 3) (oi := { dst := some 35, op := _, type := _, pos := _, after := _, guard := _ }) (v := ?v6x4) rfl (by kernel_rfl) (by kernel_rfl) (by kernel_rfl) (fun _ _ _ h => h) (Or.inl ⟨by rfl, ?hy6x4⟩) hHeld ?rest6x4
                case hy6x4 => (intro w hSw; go_simp <;> with_reducible rfl)
                try simp only [Act.put, List.setIfInBounds_toArray, List.set_cons_zero, List.set_cons_succ]
                refine wpAnyH_take (i := 4) (oi := { dst := some 36, op := _, type := _, pos := _, after := _, guard := _ }) (v := ?v6x5) rfl (by kernel_rfl) (by kernel_rfl) (by kernel_rfl) (fun _ _ _ h => h) (Or.inl ⟨by rfl, ?hy6x5⟩) hHeld ?rest6x5
                case hy6x5 => (intro w hSw; go_simp <;> with_reducible rfl)
                try simp only [Act.put, List.setIfInBounds_toArray, List.set_cons_zero, List.set_cons_succ]
                refine wpAnyH_take (i := 5) (oi := { dst := some 37, op := _, type := _, pos := _, after := _, guard := _ }) (v := ?v6x6) rfl (by kernel_rfl) (by kernel_rfl) (by kernel_rfl) (fun _ _ _ h => h) (Or.inl ⟨by rfl, ?hy6x6⟩) hHeld ?rest6x6
                case hy6x6 => (intro w hSw; go_simp <;> with_reducible rfl)
                try simp only [Act.put, List.setIfInBounds_toArray, List.set_cons_zero, List.set_cons_succ]
                refine wpAnyH_take (i := 6) (oi := { dst := some 38, op := _, type := _, pos := _, after := _, guard := _ }) (v := ?v6x7) rfl (by kernel_rfl) (by kernel_rfl) (by kernel_rfl) (fun _ _ _ h => h) (Or.inl ⟨by rfl, ?hy6x7⟩) hHeld ?rest6x7
                case hy6x7 => (intro w hSw; go_simp <;> with_reducible rfl)
                try simp only [Act.put, List.setIfInBounds_toArray, List.set_cons_zero, List.set_cons_succ]
                refine wpAnyH_take (i := 7) (oi := { dst := some 39, op := _, type := _, pos := _, after := _, guard := _ }) (v := ?v6x8) rfl (by kernel_rfl) (by kernel_rfl) (by kernel_rfl) (fun _ _ _ h => h) (Or.inl ⟨by rfl, ?hy6x8⟩) hHeld ?rest6x8
                case hy6x8 => (intro w hSw; go_simp <;> with_reducible rfl)
                try simp only [Act.put, List.setIfInBounds_toArray, List.set_cons_zero, List.set_cons_succ]
                refine wpAnyH_take (i := 8) (oi := { dst := some 40, op := _, type := _, pos := _, after := _, guard := _ }) (v := ?v6x9) rfl (by kernel_rfl) (by kernel_rfl) (by kernel_rfl) (fun _ _ _ h => h) (Or.inl ⟨by rfl, ?hy6x9⟩) hHeld ?rest6x9
                case hy6x9 => (intro w hSw; go_simp <;> with_reducible rfl)
                try simp only [Act.put, List.setIfInBounds_toArray, List.set_cons_zero, List.set_cons_succ]
                refine wpAnyH_take (i := 9) (oi := { dst := some 41, op := _, type := _, pos := _, after := _, guard := _ }) (v := ?v6x10) rfl (by kernel_rfl) (by kernel_rfl) (by kernel_rfl) (fun _ _ _ h => h) (Or.inl ⟨by rfl, ?hy6x10⟩) hHeld ?rest6x10
                case hy6x10 => (intro w hSw; go_simp <;> with_reducible rfl)
                try simp only [Act.put, List.setIfInBounds_toArray, List.set_cons_zero, List.set_cons_succ]
                refine wpAnyH_take (i := 10) (oi := { dst := some 42, op := _, type := _, pos := _, after := _, guard := _ }) (v := ?v6x11) rfl (by kernel_rfl) (by kernel_rfl) (by kernel_rfl) (fun _ _ _ h => h) (Or.inl ⟨by rfl, ?hy6x11⟩) hHeld ?rest6x11
                case hy6x11 => (intro w hSw; go_simp <;> with_reducible rfl)
                try simp only [Act.put, List.setIfInBounds_toArray, List.set_cons_zero, List.set_cons_succ]
                refine wpAnyH_take (i := 11) (oi := { dst := some 43, op := _, type := _, pos := _, after := _, guard := _ }) (v := ?v6x12) rfl (by kernel_rfl) (by kernel_rfl) (by kernel_rfl) (fun _ _ _ h => h) (Or.inl ⟨by rfl, ?hy6x12⟩) hHeld ?rest6x12
                case hy6x12 => (intro w hSw; go_simp <;> with_reducible rfl)
                try simp only [Act.put, List.setIfInBounds_toArray, List.set_cons_zero, List.set_cons_succ]
                refine wpAnyH_take (i := 12) (oi := { dst := some 44, op := _, type := _, pos := _, after := _, guard := _ }) (v := ?v6x13) rfl (by kernel_rfl) (by kernel_rfl) (by kernel_rfl) (fun _ _ _ h => h) (Or.inl ⟨by rfl, ?hy6x13⟩) hHeld ?rest6x13
                case hy6x13 => (intro w hSw; go_simp <;> with_reducible rfl)
                try simp only [Act.put, List.setIfInBounds_toArray, List.set_cons_zero, List.set_cons_succ]
                refine wpAnyH_take (i := 13) (oi := { dst := some 45, op := _, type := _, pos := _, after := _, guard := _ }) (v := ?v6x14) rfl (by kernel_rfl) (by kernel_rfl) (by kernel_rfl) (fun _ _ _ h => h) (Or.inl ⟨by rfl, ?hy6x14⟩) hHeld ?rest6x14
                case hy6x14 => (intro w hSw; go_simp <;> with_reducible rfl)
                try simp only [Act.put, List.setIfInBounds_toArray, List.set_cons_zero, List.set_cons_succ]
                refine wpAnyH_done (by kernel_rfl) ?_ _
                clear hHeld hbl3
                go_upto_region 10 with fail
                refine wp_region_held_drew (S := fun Z => Below wr.heap.size wr Z) (by kernel_rfl) ?_ (fun hHeld => ?_)
                · exact ((Below.refl _ _).drew).drew
                refine wpAnyH_take (i := 0) (oi := { dst := some 48, op := _, type := _, pos := _, after := _, guard := _ }) (v := ?v7x1) rfl (by kernel_rfl) (by kernel_rfl) (by kernel_rfl) (fun _ _ _ h => h) (Or.inl ⟨by rfl, ?hy7x1⟩) hHeld ?rest7x1
                case hy7x1 => (intro w hSw; go_simp <;> with_reducible rfl)
                try simp only [Act.put, List.setIfInBounds_toArray, List.set_cons_zero, List.set_cons_succ]
                refine wpAnyH_take (i := 1) (oi := { dst := some 49, op := _, type := _, pos := _, after := _, guard := _ }) (v := ?v7x2) rfl (by kernel_rfl) (by kernel_rfl) (by kernel_rfl) (fun _ _ _ h => h) (Or.inl ⟨by rfl, ?hy7x2⟩) hHeld ?rest7x2
                case hy7x2 => (intro w hSw; go_simp <;> with_reducible rfl)
                try simp only [Act.put, List.setIfInBounds_toArray, List.set_cons_zero, List.set_cons_succ]
                refine wpAnyH_take (i := 2) (oi := { dst := some 50, op := _, type := _, pos := _, after := _, guard := _ }) (v := ?v7x3) rfl (by kernel_rfl) (by kernel_rfl) (by kernel_rfl) (fun _ _ _ h => h) (Or.inl ⟨by rfl, ?hy7x3⟩) hHeld ?rest7x3
                case hy7x3 => (intro w hSw; go_simp <;> with_reducible rfl)
                try simp only [Act.put, List.setIfInBounds_toArray, List.set_cons_zero, List.set_cons_succ]
                refine wpAnyH_take (i := 3) (oi := { dst := some 51, op := _, type := _, pos := _, after := _, guard := _ }) (v := ?v7x4) rfl (by kernel_rfl) (by kernel_rfl) (by kernel_rfl) (fun _ _ _ h => h) (Or.inl ⟨by rfl, ?hy7x4⟩) hHeld ?rest7x4
                case hy7x4 => (intro w hSw; go_simp <;> with_reducible rfl)
                try simp only [Act.put, List.setIfInBounds_toArray, List.set_cons_zero, List.set_cons_succ]
                refine wpAnyH_take (i := 4) (oi := { dst := some 52, op := _, type := _, pos := _, after := _, guard := _ }) (v := ?v7x5) rfl (by kernel_rfl) (by kernel_rfl) (by kernel_rfl) (fun _ _ _ h => h) (Or.inl ⟨by rfl, ?hy7x5⟩) hHeld ?rest7x5
                case hy7x5 => (intro w hSw; go_simp <;> with_reducible rfl)
                try simp only [Act.put, List.setIfInBounds_toArray, List.set_cons_zero, List.set_cons_succ]
                refine wpAnyH_take (i := 5) (oi := { dst := some 53, op := _, type := _, pos := _, after := _, guard := _ }) (v := ?v7x6) rfl (by kernel_rfl) (by kernel_rfl) (by kernel_rfl) (fun _ _ _ h => h) (Or.inl ⟨by rfl, ?hy7x6⟩) hHeld ?rest7x6
                case hy7x6 => (intro w hSw; go_simp <;> with_reducible rfl)
                try simp only [Act.put, List.setIfInBounds_toArray, List.set_cons_zero, List.set_cons_succ]
                refine wpAnyH_take (i := 6) (oi := { dst := some 54, op := _, type := _, pos := _, after := _, guard := _ }) (v := ?v7x7) rfl (by kernel_rfl) (by kernel_rfl) (by kernel_rfl) (fun _ _ _ h => h) (Or.inl ⟨by rfl, ?hy7x7⟩) hHeld ?rest7x7
                case hy7x7 => (intro w hSw; go_simp <;> with_reducible rfl)
                try simp only [Act.put, List.setIfInBounds_toArray, List.set_cons_zero, List.set_cons_succ]
                refine wpAnyH_take (i := 7) (oi := { dst := some 55, op := _, type := _, pos := _, after := _, guard := _ }) (v := ?v7x8) rfl (by kernel_rfl) (by kernel_rfl) (by kernel_rfl) (fun _ _ _ h => h) (Or.inl ⟨by rfl, ?hy7x8⟩) hHeld ?rest7x8
                case hy7x8 => (intro w hSw; go_simp <;> with_reducible rfl)
                try simp only [Act.put, List.setIfInBounds_toArray, List.set_cons_zero, List.set_cons_succ]
                refine wpAnyH_take (i := 8) (oi := { dst := some 56, op := _, type := _, pos := _, after := _, guard := _ }) (v := ?v7x9) rfl (by kernel_rfl) (by kernel_rfl) (by kernel_rfl) (fun _ _ _ h => h) (Or.inl ⟨by rfl, ?hy7x9⟩) hHeld ?rest7x9
                case hy7x9 => (intro w hSw; go_simp <;> with_reducible rfl)
                try simp only [Act.put, List.setIfInBounds_toArray, List.set_cons_zero, List.set_cons_succ]
                refine wpAnyH_take (i := 9) (oi := { dst := some 57, op := _, type := _, pos := _, after := _, guard := _ }) (v := ?v7x10) rfl (by kernel_rfl) (by kernel_rfl) (by kernel_rfl) (fun _ _ _ h => h) (Or.inl ⟨by rfl, ?hy7x10⟩) hHeld ?rest7x10
                case hy7x10 => (intro w hSw; go_simp <;> with_reducible rfl)
                try simp only [Act.put, List.setIfInBounds_toArray, List.set_cons_zero, List.set_cons_succ]
                refine wpAnyH_take (i := 10) (oi := { dst := some 58, op := _, type := _, pos := _, after := _, guard := _ }) (v := ?v7x11) rfl (by kernel_rfl) (by kernel_rfl) (by kernel_rfl) (fun _ _ _ h => h) (Or.inl ⟨by rfl, ?hy7x11⟩) hHeld ?rest7x11
                case hy7x11 => (intro w hSw; go_simp <;> with_reducible rfl)
                try simp only [Act.put, List.setIfInBounds_toArray, List.set_cons_zero, List.set_cons_succ]
                refine wpAnyH_take (i := 11) (oi := { dst := some 59, op := _, type := _, pos := _, after := _, guard := _ }) (v := ?v7x12) rfl (by kernel_rfl) (by kernel_rfl) (by kernel_rfl) (fun _ _ _ h => h) (Or.inl ⟨by rfl, ?hy7x12⟩) hHeld ?rest7x12
                case hy7x12 => (intro w hSw; go_simp <;> with_reducible rfl)
                try simp only [Act.put, List.setIfInBounds_toArray, List.set_cons_zero, List.set_cons_succ]
                refine wpAnyH_take (i := 12) (oi := { dst := some 60, op := _, type := _, pos := _, after := _, guard := _ }) (v := ?v7x13) rfl (by kernel_rfl) (by kernel_rfl) (by kernel_rfl) (fun _ _ _ h => h) (Or.inl ⟨by rfl, ?hy7x13⟩) hHeld ?rest7x13
                case hy7x13 => (intro w hSw; go_simp <;> with_reducible rfl)
                try simp only [Act.put, List.setIfInBounds_toArray, List.set_cons_zero, List.set_cons_succ]
                refine wpAnyH_take (i := 13) (oi := { dst := some 61, op := _, type := _, pos := _, after := _, guard := _ }) (v := ?v7x14) rfl (by kernel_rfl) (by kernel_rfl) (by kernel_rfl) (fun _ _ _ h => h) (Or.inl ⟨by rfl, ?hy7x14⟩) hHeld ?rest7x14
                case hy7x14 => (intro w hSw; go_simp <;> with_reducible rfl)
                try simp only [Act.put, List.setIfInBounds_toArray, List.set_cons_zero, List.set_cons_succ]
                refine wpAnyH_done (by kernel_rfl) ?_ _
                clear hHeld cw0 cw1 q6
                obtain ⟨O, hOe⟩ : ∃ O, (some ⟨b2, o2, none⟩ : Option Addr) = O := ⟨_, rfl⟩
                rw [hOe] at Hown2 ⊢
                clear hOe
                rw [← HX.out]
                have Hx := hide (HBx.out.keep BX.out)
                have HO := hide (ownS_keep Hown2.out BX.out)
                have g0 : X.cell? ⟨x, 0, none⟩ = some (.string (str ec)) := Hx.out.cell 0
                have g1 : X.cell? ⟨x, 2, none⟩ = some (.int .i64 eq) := Hx.out.cell 2
                have hsl1 := fun W => run_headT (P := Tryz.prog) 41 69 2 Tryz.underlying41 (by kernel_rfl) O m ko (t : Int) t rfl (by omega) W
                have hsl2 := fun W => run_tailT (P := Tryz.prog) 41 69 2 Tryz.underlying41 (by kernel_rfl) O m ko (t : Int) t rfl htm W
                have hwX : w.heap.size ≤ X.heap.size := by have := Hb.out.size; have := Hbw.out.size; have := Hbr.out.size; have := BX.out.size; omega
                go_wp2_with (first
                  | (at_builtin; refine wpList_appS rfl (.tmp 75) (.tmp 78) 41 rfl 69 _ 2 24 Tryz.underlying41 want_info13 rfl (by omega) w.heap.size none 0 0 [] rfl (World.ownsRow_nil _ _ _ _) O t ko (twVs (l.take t)) rfl (tw_head (ownS_rd HO.out) t htm) (twVs_one _) (by unfold maxLen; omega) (by omega) hwX ?_; intro A1 k1 w1 o1 b1 h1; rw [Nat.zero_add, List.nil_append] at o1; (have x1 : Below X.heap.size X w1 := But.below (Below.refl _ _) b1 (fun i ⟨o, e⟩ => by cases e) (Nat.le_refl _)); have O1 := hide o1; have X1 := hide x1; (have H1 : Hid (∀ i, SoE A1 i → X.heap.size ≤ i) := hide (fun i ⟨o, e⟩ => by rcases h1 with h1 | h1; rw [h1] at e; cases e; exact h1 i o e)); (have g0 : w1.cell? ⟨x, 0, none⟩ = some (.string (str ec)) := (Hx.out.keep x1).cell 0); (have g1 : w1.cell? ⟨x, 2, none⟩ = some (.int .i64 eq) := (Hx.out.keep x1).cell 2); clear o1 b1 h1 x1)
                  | (refine wpList_bsS rfl 41 69 (.tmp 86) rfl Tryz.underlying41 2 (by omega) (by omega) (by kernel_rfl) (arr (twOne (ec, eq))) rfl rfl ?_)
                  | (at_builtin; refine wpList_appS rfl (.tmp 80) (.tmp 87) 41 rfl 69 _ 2 24 Tryz.underlying41 want_info13 rfl (by omega) w.heap.size A1 t k1 (twVs (l.take t)) rfl (ownS_keep O1.out ((Below.refl _ _).alloc (Nat.le_refl _) _)) _ 1 1 (twOne (ec, eq)) rfl (Blk.new w1 69 (twOne (ec, eq))).rd (by simpa [twVs] using twVs_one [(ec, eq)]) (by unfold maxLen; omega) (by omega) (by have := X1.out.size; simp; omega) ?_; intro A2 k2 w2 o2 b2 h2; (have x2 : Below X.heap.size X w2 := But.below (below_on X1.out ((Below.refl _ _).alloc (Nat.le_refl _) (.cells (arr (twOne (ec, eq))) 69))) b2 (fun i e => H1.out i e) (by have := X1.out.size; simp; omega)); have O2 := hide o2; have X2 := hide x2; (have H2 : Hid (∀ i, SoE A2 i → X.heap.size ≤ i) := hide (fun i ⟨o, e⟩ => by rcases h2 with h2 | h2; exact H1.out i ⟨o, by rw [← h2]; exact e⟩; have h3 : w1.heap.size ≤ i := Nat.le_trans (by simp) (h2 i o e); have := X1.out.size; omega)); clear o2 b2 h2 x2)
                  | (at_builtin; refine wpList_appS rfl (.tmp 89) (.tmp 92) 41 rfl 69 _ 2 24 Tryz.underlying41 want_info13 rfl (by omega) w.heap.size A2 (t + 1) k2 (twVs (l.take t) ++ twOne (ec, eq)) rfl O2.out (cutT 2 O t ko) (m - t) (ko - t) (twVs (l.drop t)) rfl (tw_tail ((ownS_rd HO.out).keep X2.out) t htm hcap) (twVs_one _) (by unfold maxLen; omega) (by omega) (by have := X2.out.size; omega) ?_; intro A3 k3 w3 o3 b3 h3; (have x3 : Below X.heap.size X w3 := But.below X2.out b3 (fun i e => H2.out i e) X2.out.size); have O3 := hide o3; have X3 := hide x3; clear o3 b3 h3 x3))
                refine ⟨⟨i + 1, t + 1 + (m - t), A3, k3, by omega, by go_num, rfl, ?_, by omega, ?_, below_on Hb.out (below_on Hbw.out (below_on Hbr.out (below_on BX.out X3.out)))⟩, by simp [intOf]; omega⟩
                · rw [Hst.out, Hwi.out, List.length_append, List.length_cons, List.length_take, List.length_drop, Hlm.out]; omega
                · rw [Hst.out, Hwi.out]
                  unfold FiS
                  have h4 := O3.out
                  rw [show twVs (l.take t ++ (ec, eq) :: l.drop t) = twVs (l.take t) ++ twOne (ec, eq) ++ twVs (l.drop t) by rw [twVs_app, List.append_assoc]; rfl]
                  exact h4
          · have hte : t = m := by omega
            have q5 : ¬ (t : Int) < (m : Int) := by omega
            have hn0 : l[t]? = none := List.getElem?_eq_none (by rw [Hlm.out]; omega)
            have hwi := wantIn_at ec eq l t (by rw [Hlm.out]; exact htm) Hbf.out (fun s hs => by rw [hn0] at hs; cases hs)
            rw [hn0] at hwi
            simp only at hwi
            have Hwi : Hid (wantIn ec eq l = l.take t ++ (ec, eq) :: l.drop t) := hide (by rw [hwi, List.take_of_length_le (by rw [Hlm.out]; omega), List.drop_of_length_le (by rw [Hlm.out]; omega)])
            clear hwi hn0 hte
            go_upto_region 8 with fail
            refine wp_region_held_drew (S := fun Z => Below wr.heap.size wr Z) (by kernel_rfl) ?_ (fun hHeld => ?_)
            · exact (Below.refl _ _).drew
            refine wpAnyH_take (i := 0) (oi := { dst := some 32, op := _, type := _, pos := _, after := _, guard := _ }) (v := ?v8x1) rfl (by kernel_rfl) (by kernel_rfl) (by kernel_rfl) (fun _ _ _ h => h) (Or.inl ⟨by rfl, ?hy8x1⟩) hHeld ?rest8x1
            case hy8x1 => (intro w hSw; go_simp <;> with_reducible rfl)
            try simp only [Act.put, List.setIfInBounds_toArray, List.set_cons_zero, List.set_cons_succ]
            refine wpAnyH_take (i := 1) (oi := { dst := some 33, op := _, type := _, pos := _, after := _, guard := _ }) (v := ?v8x2) rfl (by kernel_rfl) (by kernel_rfl) (by kernel_rfl) (fun _ _ _ h => h) (Or.inl ⟨by rfl, ?hy8x2⟩) hHeld ?rest8x2
            case hy8x2 => (intro w hSw; go_simp <;> with_reducible rfl)
            try simp only [Act.put, List.setIfInBounds_toArray, List.set_cons_zero, List.set_cons_succ]
            refine wpAnyH_take (i := 2) (oi := { dst := some 34, op := _, type := _, pos := _, after := _, guard := _ }) (v := ?v8x3) rfl (by kernel_rfl) (by kernel_rfl) (by kernel_rfl) (fun _ _ _ h => h) (Or.inl ⟨by rfl, ?hy8x3⟩) hHeld ?rest8x3
            case hy8x3 => (intro w hSw; go_simp <;> with_reducible rfl)
            try simp only [Act.put, List.setIfInBounds_toArray, List.set_cons_zero, List.set_cons_succ]
            refine wpAnyH_take (i := 3) (oi := { dst := some 35, op := _, type := _, pos := _, after := _, guard := _ }) (v := ?v8x4) rfl (by kernel_rfl) (by kernel_rfl) (by kernel_rfl) (fun _ _ _ h => h) (Or.inl ⟨by rfl, ?hy8x4⟩) hHeld ?rest8x4
            case hy8x4 => (intro w hSw; go_simp <;> with_reducible rfl)
            try simp only [Act.put, List.setIfInBounds_toArray, List.set_cons_zero, List.set_cons_succ]
            refine wpAnyH_take (i := 4) (oi := { dst := some 36, op := _, type := _, pos := _, after := _, guard := _ }) (v := ?v8x5) rfl (by kernel_rfl) (by kernel_rfl) (by kernel_rfl) (fun _ _ _ h => h) (Or.inl ⟨by rfl, ?hy8x5⟩) hHeld ?rest8x5
            case hy8x5 => (intro w hSw; go_simp <;> with_reducible rfl)
            try simp only [Act.put, List.setIfInBounds_toArray, List.set_cons_zero, List.set_cons_succ]
            refine wpAnyH_take (i := 5) (oi := { dst := some 37, op := _, type := _, pos := _, after := _, guard := _ }) (v := undef) rfl (by kernel_rfl) (by kernel_rfl) (by kernel_rfl) (fun _ _ _ h => h) (Or.inr ⟨by rfl, rfl⟩) hHeld ?_
            try simp only [Act.put, List.setIfInBounds_toArray, List.set_cons_zero, List.set_cons_succ]
            refine wpAnyH_take (i := 6) (oi := { dst := some 38, op := _, type := _, pos := _, after := _, guard := _ }) (v := undef) rfl (by kernel_rfl) (by kernel_rfl) (by kernel_rfl) (fun _ _ _ h => h) (Or.inr ⟨by rfl, rfl⟩) hHeld ?_
            try simp only [Act.put, List.setIfInBounds_toArray, List.set_cons_zero, List.set_cons_succ]
            refine wpAnyH_take (i := 7) (oi := { dst := some 39, op := _, type := _, pos := _, after := _, guard := _ }) (v := undef) rfl (by kernel_rfl) (by kernel_rfl) (by kernel_rfl) (fun _ _ _ h => h) (Or.inr ⟨by rfl, rfl⟩) hHeld ?_
            try simp only [Act.put, List.setIfInBounds_toArray, List.set_cons_zero, List.set_cons_succ]
            refine wpAnyH_take (i := 8) (oi := { dst := some 40, op := _, type := _, pos := _, after := _, guard := _ }) (v := undef) rfl (by kernel_rfl) (by kernel_rfl) (by kernel_rfl) (fun _ _ _ h => h) (Or.inr ⟨by rfl, rfl⟩) hHeld ?_
            try simp only [Act.put, List.setIfInBounds_toArray, List.set_cons_zero, List.set_cons_succ]
            refine wpAnyH_take (i := 9) (oi := { dst := some 41, op := _, type := _, pos := _, after := _, guard := _ }) (v := undef) rfl (by kernel_rfl) (by kernel_rfl) (by kernel_rfl) (fun _ _ _ h => h) (Or.inr ⟨by rfl, rfl⟩) hHeld ?_
            try simp only [Act.put, List.setIfInBounds_toArray, List.set_cons_zero, List.set_cons_succ]
            refine wpAnyH_take (i := 10) (oi := { dst := some 42, op := _, type := _, pos := _, after := _, guard := _ }) (v := undef) rfl (by kernel_rfl) (by kernel_rfl) (by kernel_rfl) (fun _ _ _ h => h) (Or.inr ⟨by rfl, rfl⟩) hHeld ?_
            try simp only [Act.put, List.setIfInBounds_toArray, List.set_cons_zero, List.set_cons_succ]
            refine wpAnyH_take (i := 11) (oi := { dst := some 43, op := _, type := _, pos := _, after := _, guard := _ }) (v := undef) rfl (by kernel_rfl) (by kernel_rfl) (by kernel_rfl) (fun _ _ _ h => h) (Or.inr ⟨by rfl, rfl⟩) hHeld ?_
            try simp only [Act.put, List.setIfInBounds_toArray, List.set_cons_zero, List.set_cons_succ]
            refine wpAnyH_take (i := 12) (oi := { dst := some 44, op := _, type := _, pos := _, after := _, guard := _ }) (v := undef) rfl (by kernel_rfl) (by kernel_rfl) (by kernel_rfl) (fun _ _ _ h => h) (Or.inr ⟨by rfl, rfl⟩) hHeld ?_
            try simp only [Act.put, List.setIfInBounds_toArray, List.set_cons_zero, List.set_cons_succ]
            refine wpAnyH_take (i := 13) (oi := { dst := some 45, op := _, type := _, pos := _, after := _, guard := _ }) (v := ?v8x14) rfl (by kernel_rfl) (by kernel_rfl) (by kernel_rfl) (fun _ _ _ h => h) (Or.inl ⟨by rfl, ?hy8x14⟩) hHeld ?rest8x14
            case hy8x14 => (intro w hSw; go_simp <;> with_reducible rfl)
            try simp only [Act.put, List.setIfInBounds_toArray, List.set_cons_zero, List.set_cons_succ]
            refine wpAnyH_done (by kernel_rfl) ?_ _
            clear hHeld
            go_upto_region 10 with fail
            refine wp_region_held_drew (S := fun Z => Below wr.heap.size wr Z) (by kernel_rfl) ?_ (fun hHeld => ?_)
            · exact ((Below.refl _ _).drew).drew
            refine wpAnyH_take (i := 0) (oi := { dst := some 48, op := _, type := _, pos := _, after := _, guard := _ }) (v := ?v9x1) rfl (by kernel_rfl) (by kernel_rfl) (by kernel_rfl) (fun _ _ _ h => h) (Or.inl ⟨by rfl, ?hy9x1⟩) hHeld ?rest9x1
            case hy9x1 => (intro w hSw; go_simp <;> with_reducible rfl)
            try simp only [Act.put, List.setIfInBounds_toArray, List.set_cons_zero, List.set_cons_succ]
            refine wpAnyH_take (i := 1) (oi := { dst := some 49, op := _, type := _, pos := _, after := _, guard := _ }) (v := ?v9x2) rfl (by kernel_rfl) (by kernel_rfl) (by kernel_rfl) (fun _ _ _ h => h) (Or.inl ⟨by rfl, ?hy9x2⟩) hHeld ?rest9x2
            case hy9x2 => (intro w hSw; go_simp <;> with_reducible rfl)
            try simp only [Act.put, List.setIfInBounds_toArray, List.set_cons_zero, List.set_cons_succ]
            refine wpAnyH_take (i := 2) (oi := { dst := some 50, op := _, type := _, pos := _, after := _, guard := _ }) (v := ?v9x3) rfl (by kernel_rfl) (by kernel_rfl) (by kernel_rfl) (fun _ _ _ h => h) (Or.inl ⟨by rfl, ?hy9x3⟩) hHeld ?rest9x3
            case hy9x3 => (intro w hSw; go_simp <;> with_reducible rfl)
            try simp only [Act.put, List.setIfInBounds_toArray, List.set_cons_zero, List.set_cons_succ]
            refine wpAnyH_take (i := 3) (oi := { dst := some 51, op := _, type := _, pos := _, after := _, guard := _ }) (v := ?v9x4) rfl (by kernel_rfl) (by kernel_rfl) (by kernel_rfl) (fun _ _ _ h => h) (Or.inl ⟨by rfl, ?hy9x4⟩) hHeld ?rest9x4
            case hy9x4 => (intro w hSw; go_simp <;> with_reducible rfl)
            try simp only [Act.put, List.setIfInBounds_toArray, List.set_cons_zero, List.set_cons_succ]
            refine wpAnyH_take (i := 4) (oi := { dst := some 52, op := _, type := _, pos := _, after := _, guard := _ }) (v := ?v9x5) rfl (by kernel_rfl) (by kernel_rfl) (by kernel_rfl) (fun _ _ _ h => h) (Or.inl ⟨by rfl, ?hy9x5⟩) hHeld ?rest9x5
            case hy9x5 => (intro w hSw; go_simp <;> with_reducible rfl)
            try simp only [Act.put, List.setIfInBounds_toArray, List.set_cons_zero, List.set_cons_succ]
            refine wpAnyH_take (i := 5) (oi := { dst := some 53, op := _, type := _, pos := _, after := _, guard := _ }) (v := undef) rfl (by kernel_rfl) (by kernel_rfl) (by kernel_rfl) (fun _ _ _ h => h) (Or.inr ⟨by rfl, rfl⟩) hHeld ?_
            try simp only [Act.put, List.setIfInBounds_toArray, List.set_cons_zero, List.set_cons_succ]
            refine wpAnyH_take (i := 6) (oi := { dst := some 54, op := _, type := _, pos := _, after := _, guard := _ }) (v := undef) rfl (by kernel_rfl) (by kernel_rfl) (by kernel_rfl) (fun _ _ _ h => h) (Or.inr ⟨by rfl, rfl⟩) hHeld ?_
            try simp only [Act.put, List.setIfInBounds_toArray, List.set_cons_zero, List.set_cons_succ]
            refine wpAnyH_take (i := 7) (oi := { dst := some 55, op := _, type := _, pos := _, after := _, guard := _ }) (v := undef) rfl (by kernel_rfl) (by kernel_rfl) (by kernel_rfl) (fun _ _ _ h => h) (Or.inr ⟨by rfl, rfl⟩) hHeld ?_
            try simp only [Act.put, List.setIfInBounds_toArray, List.set_cons_zero, List.set_cons_succ]
            refine wpAnyH_take (i := 8) (oi := { dst := some 56, op := _, type := _, pos := _, after := _, guard := _ }) (v := undef) rfl (by kernel_rfl) (by kernel_rfl) (by kernel_rfl) (fun _ _ _ h => h) (Or.inr ⟨by rfl, rfl⟩) hHeld ?_
            try simp only [Act.put, List.setIfInBounds_toArray, List.set_cons_zero, List.set_cons_succ]
            refine wpAnyH_take (i := 9) (oi := { dst := some 57, op := _, type := _, pos := _, after := _, guard := _ }) (v := undef) rfl (by kernel_rfl) (by kernel_rfl) (by kernel_rfl) (fun _ _ _ h => h) (Or.inr ⟨by rfl, rfl⟩) hHeld ?_
            try simp only [Act.put, List.setIfInBounds_toArray, List.set_cons_zero, List.set_cons_succ]
            refine wpAnyH_take (i := 10) (oi := { dst := some 58, op := _, type := _, pos := _, after := _, guard := _ }) (v := undef) rfl (by kernel_rfl) (by kernel_rfl) (by kernel_rfl) (fun _ _ _ h => h) (Or.inr ⟨by rfl, rfl⟩) hHeld ?_
            try simp only [Act.put, List.setIfInBounds_toArray, List.set_cons_zero, List.set_cons_succ]
            refine wpAnyH_take (i := 11) (oi := { dst := some 59, op := _, type := _, pos := _, after := _, guard := _ }) (v := undef) rfl (by kernel_rfl) (by kernel_rfl) (by kernel_rfl) (fun _ _ _ h => h) (Or.inr ⟨by rfl, rfl⟩) hHeld ?_
            try simp only [Act.put, List.setIfInBounds_toArray, List.set_cons_zero, List.set_cons_succ]
            refine wpAnyH_take (i := 12) (oi := { dst := some 60, op := _, type := _, pos := _, after := _, guard := _ }) (v := undef) rfl (by kernel_rfl) (by kernel_rfl) (by kernel_rfl) (fun _ _ _ h => h) (Or.inr ⟨by rfl, rfl⟩) hHeld ?_
            try simp only [Act.put, List.setIfInBounds_toArray, List.set_cons_zero, List.set_cons_succ]
            refine wpAnyH_take (i := 13) (oi := { dst := some 61, op := _, type := _, pos := _, after := _, guard := _ }) (v := ?v9x14) rfl (by kernel_rfl) (by kernel_rfl) (by kernel_rfl) (fun _ _ _ h => h) (Or.inl ⟨by rfl, ?hy9x14⟩) hHeld ?rest9x14
            case hy9x14 => (intro w hSw; go_simp <;> with_reducible rfl)
            try simp only [Act.put, List.setIfInBounds_toArray, List.set_cons_zero, List.set_cons_succ]
            refine wpAnyH_done (by kernel_rfl) ?_ _
            clear hHeld cw1
            rw [← HX.out]
            have Hx := hide (HBx.out.keep BX.out)
            have HO := hide (ownS_keep Hown2.out BX.out)
            have g0 : X.cell? ⟨x, 0, none⟩ = some (.string (str ec)) := Hx.out.cell 0
            have g1 : X.cell? ⟨x, 2, none⟩ = some (.int .i64 eq) := Hx.out.cell 2
            have hsl1 := fun W => run_headT (P := Tryz.prog) 41 69 2 Tryz.underlying41 (by kernel_rfl) O m ko (t : Int) t rfl (by omega) W
            have hsl2 := fun W => run_tailT (P := Tryz.prog) 41 69 2 Tryz.underlying41 (by kernel_rfl) O m ko (t : Int) t rfl htm W
            have hwX : w.heap.size ≤ X.heap.size := by have := Hb.out.size; have := Hbw.out.size; have := Hbr.out.size; have := BX.out.size; omega
            go_wp2_with (first
              | (at_builtin; refine wpList_appS rfl (.tmp 75) (.tmp 78) 41 rfl 69 _ 2 24 Tryz.underlying41 want_info13 rfl (by omega) w.heap.size none 0 0 [] rfl (World.ownsRow_nil _ _ _ _) O t ko (twVs (l.take t)) rfl (tw_head (ownS_rd HO.out) t htm) (twVs_one _) (by unfold maxLen; omega) (by omega) hwX ?_; intro A1 k1 w1 o1 b1 h1; rw [Nat.zero_add, List.nil_append] at o1; (have x1 : Below X.heap.size X w1 := But.below (Below.refl _ _) b1 (fun i ⟨o, e⟩ => by cases e) (Nat.le_refl _)); have O1 := hide o1; have X1 := hide x1; (have H1 : Hid (∀ i, SoE A1 i → X.heap.size ≤ i) := hide (fun i ⟨o, e⟩ => by rcases h1 with h1 | h1; rw [h1] at e; cases e; exact h1 i o e)); (have g0 : w1.cell? ⟨x, 0, none⟩ = some (.string (str ec)) := (Hx.out.keep x1).cell 0); (have g1 : w1.cell? ⟨x, 2, none⟩ = some (.int .i64 eq) := (Hx.out.keep x1).cell 2); clear o1 b1 h1 x1)
              | (refine wpList_bsS rfl 41 69 (.tmp 86) rfl Tryz.underlying41 2 (by omega) (by omega) (by kernel_rfl) (arr (twOne (ec, eq))) rfl rfl ?_)
              | (at_builtin; refine wpList_appS rfl (.tmp 80) (.tmp 87) 41 rfl 69 _ 2 24 Tryz.underlying41 want_info13 rfl (by omega) w.heap.size A1 t k1 (twVs (l.take t)) rfl (ownS_keep O1.out ((Below.refl _ _).alloc (Nat.le_refl _) _)) _ 1 1 (twOne (ec, eq)) rfl (Blk.new w1 69 (twOne (ec, eq))).rd (by simpa [twVs] using twVs_one [(ec, eq)]) (by unfold maxLen; omega) (by omega) (by have := X1.out.size; simp; omega) ?_; intro A2 k2 w2 o2 b2 h2; (have x2 : Below X.heap.size X w2 := But.below (below_on X1.out ((Below.refl _ _).alloc (Nat.le_refl _) (.cells (arr (twOne (ec, eq))) 69))) b2 (fun i e => H1.out i e) (by have := X1.out.size; simp; omega)); have O2 := hide o2; have X2 := hide x2; (have H2 : Hid (∀ i, SoE A2 i → X.heap.size ≤ i) := hide (fun i ⟨o, e⟩ => by rcases h2 with h2 | h2; exact H1.out i ⟨o, by rw [← h2]; exact e⟩; have h3 : w1.heap.size ≤ i := Nat.le_trans (by simp) (h2 i o e); have := X1.out.size; omega)); clear o2 b2 h2 x2)
              | (at_builtin; refine wpList_appS rfl (.tmp 89) (.tmp 92) 41 rfl 69 _ 2 24 Tryz.underlying41 want_info13 rfl (by omega) w.heap.size A2 (t + 1) k2 (twVs (l.take t) ++ twOne (ec, eq)) rfl O2.out (cutT 2 O t ko) (m - t) (ko - t) (twVs (l.drop t)) rfl (tw_tail ((ownS_rd HO.out).keep X2.out) t htm hcap) (twVs_one _) (by unfold maxLen; omega) (by omega) (by have := X2.out.size; omega) ?_; intro A3 k3 w3 o3 b3 h3; (have x3 : Below X.heap.size X w3 := But.below X2.out b3 (fun i e => H2.out i e) X2.out.size); have O3 := hide o3; have X3 := hide x3; clear o3 b3 h3 x3))
            refine ⟨⟨i + 1, t + 1 + (m - t), A3, k3, by omega, by go_num, rfl, ?_, by omega, ?_, below_on Hb.out (below_on Hbw.out (below_on Hbr.out (below_on BX.out X3.out)))⟩, by simp [intOf]; omega⟩
            · rw [Hst.out, Hwi.out, List.length_append, List.length_cons, List.length_take, List.length_drop, Hlm.out]; omega
            · rw [Hst.out, Hwi.out]
              unfold FiS
              have h4 := O3.out
              rw [show twVs (l.take t ++ (ec, eq) :: l.drop t) = twVs (l.take t) ++ twOne (ec, eq) ++ twVs (l.drop t) by rw [twVs_app, List.append_assoc]; rfl]
              exact h4
    · obtain rfl : i = n := by omega
      have q1 : ¬ (i : Int) < (i : Int) := by omega
      have ht : es.take i = es := List.take_of_length_le (by rw [N.out]; exact Nat.le_refl _)
      rw [ht] at hm Hown
      subst hm
      clear hown hbel HR ht
      go_wp2_with fail
      go_ret
      exact ⟨O, ko, rfl, Hown.out, Hb.out⟩

end Go.Proofs.YtfjafpbmgbnllaaGreat
