/-
  What is proved here: what the document's own Do of layer 4 does for requests that read. Conditions: a slave that lies in memory, its rows words; a request that may be, its values elsewhere.
-/
import Derived.Test.YtohiblldhdglgaaRef4f
namespace Go.Proofs.Ytohiblldhdglgaa
set_option linter.unusedVariables false
set_option linter.unusedSimpArgs false
open Go.RowKit

theorem SlA.keepB {tS : TypeId} {lo hi B : Nat} {w w' : World} {g : Nat} {b : Nat → Nat} {R : Nat → List Int} (h : SlA tS lo hi w g b R) (k : Below B w w') (hB : hi ≤ B) : SlA tS lo hi w' g b R :=
  ⟨(k.block g (by have := h.gh; omega)).trans h.str, fun j hj => (k.block (b j) (by have := h.bl j hj; omega)).trans (h.row j hj), h.gl, h.gh, h.bl, h.ap, Nat.le_trans h.hi k.size⟩
theorem Oth.onB {lo hi B : Nat} {w w' w'' : World} (h : Oth lo hi w w') (k : Below B w' w'') (hB : w.heap.size ≤ B) : Oth lo hi w w'' :=
  ⟨k.os.trans h.os, k.tape.trans h.tape, k.output.trans h.output, Nat.le_trans h.size k.size, fun i hi ho => (k.block i (by omega)).trans (h.block i hi ho)⟩
theorem Blk.keepL {w w' : World} {g B : Nat} {t : TypeId} {cs : List Value} (h : Blk w g t cs) (hb : Below B w w') (hg : g < B) : Blk w' g t cs := (hb.block g hg).trans h
theorem own_new {w : World} {base : Nat} {e : TypeId} {A : Option Addr} {n c : Nat} {xs : List Value} (h : w.ownsRow base e 1 (.slice A n c) n xs) (b' o' : Nat) (eA : A = some ⟨b', o', none⟩) : base ≤ b' := by
  rcases h.2 with ⟨hv, _⟩ | ⟨g, cap, cur, hv, hg, _⟩
  · injection hv with hA _ _
    rw [eA] at hA
    cases hA
  · injection hv with hA _ _
    rw [eA] at hA
    injection hA with hA
    injection hA with h1 _ _
    omega
theorem own_oth {w : World} {base : Nat} {e : TypeId} {A : Option Addr} {n c : Nat} {xs : List Value} (h : w.ownsRow base e 1 (.slice A n c) n xs) {G : Nat} (hG : G < base) (i : Nat) (v : Value) : (w.setCell ⟨G, i, none⟩ v).ownsRow base e 1 (.slice A n c) n xs := by
  refine ⟨h.1, ?_⟩
  rcases h.2 with h2 | ⟨g, cap, cur, hv, hg, hh, r⟩
  · exact .inl h2
  · refine .inr ⟨g, cap, cur, hv, hg, ?_, r⟩
    have : Blk (w.setCell ⟨G, i, none⟩ v) g e cur.toList := Blk.oth (w := w) (t := e) (cs := cur.toList) (by simpa [Blk, arr] using hh) (by omega) i v
    simpa [Blk, arr] using this

/-- While values are read. -/
structure RL (lo hi g : Nat) (b : Nat → Nat) (R : Nat → List Int) (w : World) (q : List Value) (G base : Nat) (X : List Int) (j : Nat) (C : Option Addr) (m : Nat) (wr : World) : Prop where
  box : Blk wr G 38 [.slice C j m, .int .i64 0]
  own : wr.ownsRow base 3 1 (.slice C j m) j (iv (X.take j))
  sl : SlA 50 lo hi wr g b R
  oth : Oth lo hi w wr
  req : Blk wr w.heap.size 34 q
  res : Blk wr (w.heap.size + 1) 38 [.slice none 0 0, .int .i64 0]
  sz : base ≤ wr.heap.size

theorem RL.next {lo hi g : Nat} {b : Nat → Nat} {R : Nat → List Int} {w : World} {q : List Value} {G base : Nat} {X : List Int} {j : Nat} {C : Option Addr} {m : Nat} {wr : World} (h : RL lo hi g b R w q G base X j C m wr) (hG : G < base) (hw : w.heap.size + 1 < G) (hhi : hi ≤ w.heap.size) {U : World} (bU : Below base wr U)
    {C' : Option Addr} {m' : Nat} (own : U.ownsRow base 3 1 (.slice C' (j + 1) m') (j + 1) (iv (X.take (j + 1)))) : RL lo hi g b R w q G base X (j + 1) C' m' (U.setCell ⟨G, 0, none⟩ (.slice C' (j + 1) m')) :=
  ⟨(h.box.keepL bU hG).set 0 _, own_oth own hG _ _, (h.sl.keepB bU (by omega)).out (Oth.setCell (g := G) _ _) (Or.inl (by omega)), (h.oth.onB bU (by omega)).setNew (by omega), (h.req.keepL bU (by omega)).oth (by omega) _ _, (h.res.keepL bU (by omega)).oth (by omega) _ _, by have := h.sz; have := bU.size; simp [World.setCell]; omega⟩

theorem RetRDo.yes {lo hi g : Nat} {b : Nat → Nat} {R : Nat → List Int} {f a c : Int} {vs : List Int} {t an o : Int} {w w' : World} (hG : goesB R f a c vs.length t = true) (C : Option Addr) (m cnt : Nat) (hl : (valsL (nextR R f a vs t an o) f a c).length = cnt) (hm : cnt ≤ m) (hr : Rd w' C cnt (iv (valsL (nextR R f a vs t an o) f a c))) (hC : NewA w C)
    (h : SlA 50 lo hi w' g b (nextR R f a vs t an o)) (ho : Oth lo hi w w') : RetRDo lo hi g b R f a c vs t an o w (.returned (.agg #[.slice C cnt m, .int .i64 0])) w' := by
  unfold RetRDo
  rw [show doC R f a c vs.length t = 0 by simp [doC, hG], show doR R f a c vs t an o = nextR R f a vs t an o by simp [doR, hG], show doV R f a c vs t an o = valsL (nextR R f a vs t an o) f a c by simp [doV, hG], hl]
  exact ⟨C, m, rfl, hm, hr, hC, h, ho⟩


set_option maxRecDepth 100000 in
set_option maxHeartbeats 4000000 in
theorem rDo_r (lo hi g : Nat) (b : Nat → Nat) (R : Nat → List Int) (kk : Nat) (hkk : kk < 4) (a c t an o : Int) (A : Option Addr) (k : Nat) (vs : List Int) (w : World) (h : SlA 50 lo hi w g b R) (hw : wellR R) (hv : Rd w A 0 (iv vs)) (hM : mayB ((kk : Int) + 1) a c vs t an o = true) :
    Calls Try.prog 14 #[.pointer (some ⟨g, 0, none⟩), .agg #[.int .i64 ((kk : Int) + 1), .int .i64 a, .int .i64 c, .slice A 0 k, .int .i64 t, .int .i64 an, .int .i64 o]] w (RetRDo lo hi g b R ((kk : Int) + 1) a c vs t an o w) := by
  have hl : vs.length = 0 := by rw [← iv_length]; exact hv.1
  have HL := hide hl
  have ha := may_addr hM
  have hc := (may_count hM).1 (by omega)
  obtain ⟨at_, rfl⟩ : ∃ m : Nat, a = (m : Int) := ⟨a.toNat, by omega⟩
  obtain ⟨cnt, rfl⟩ : ∃ m : Nat, c = (m : Int) := ⟨c.toNat, by omega⟩
  have hat : at_ ≤ 65535 := by omega
  have hcn : 1 ≤ cnt ∧ cnt ≤ 2000 := by omega
  have hG : goesB R ((kk : Int) + 1) (at_ : Int) (cnt : Int) ((vs.length : Nat) : Int) t = hasB R ((kk : Int) + 1) ((at_ : Int) + (cnt : Int) - 1) 1 := by
    rw [has_end R _ _ _ (by omega) (by omega)]
    unfold goesB
    have e1 : rdS ((kk : Int) + 1) (at_ : Int) (cnt : Int) = ((kk : Int) + 1, (at_ : Int), (cnt : Int)) := by unfold rdS; rw [if_pos (by omega)]
    have e2 : wrS ((kk : Int) + 1) (at_ : Int) ((vs.length : Nat) : Int) t = (0, 0, 0) := by unfold wrS; rw [if_neg (by omega), if_neg (by omega), if_neg (by omega), if_neg (by omega)]
    rw [e1, e2]
    simp only [hasB_zero, Bool.and_true]
  have HN : Hid (nextR R ((kk : Int) + 1) (at_ : Int) vs t an o = R) := by
    show _ = _
    unfold nextR
    rw [if_neg (by omega), if_neg (by omega), if_neg (by omega)]
  have HVL : Hid (valsL R ((kk : Int) + 1) (at_ : Int) (cnt : Int) = ((R kk).drop at_).take cnt) := by
    show _ = _
    unfold valsL
    have e1 : rdS ((kk : Int) + 1) (at_ : Int) (cnt : Int) = ((kk : Int) + 1, (at_ : Int), (cnt : Int)) := by unfold rdS; rw [if_pos (by omega)]
    rw [e1]
    simp only [rowL_kind R kk hkk, Int.toNat_natCast]
  have H1 := hide h
  have hhi := h.hi
  have t5 : (((kk : Int) + 1) == 5) = false := ne_beq (by omega)
  have t15 : (((kk : Int) + 1) == 15) = false := ne_beq (by omega)
  have t6 : (((kk : Int) + 1) == 6) = false := ne_beq (by omega)
  have t16 : (((kk : Int) + 1) == 16) = false := ne_beq (by omega)
  have t22 : (((kk : Int) + 1) == 22) = false := ne_beq (by omega)
  have t23 : (((kk : Int) + 1) == 23) = false := ne_beq (by omega)
  have kk4 : (kk : Int) < 4 := by omega
  have tp : decide (0 < (kk : Int) + 1) = true := decide_eq_true (by omega)
  have HHn := hide (fun W (h : SlA 50 lo hi W g b R) => rHas_any lo hi g b R ((kk : Int) + 1) ((at_ : Int) + (cnt : Int) - 1) W h)
  cases hB : hasB R ((kk : Int) + 1) ((at_ : Int) + (cnt : Int) - 1) 1
  · rw [hB] at hG HHn
    have HG := hide hG
    clear hG hB h hv hM hl
    go_enter Try.func14, Try.ntmps14
    go_wp2_with fail
    generalize hV : (w.alloc (.cells #[.int .i64 ((kk : Int) + 1), .int .i64 (at_ : Int), .int .i64 (cnt : Int), .slice A 0 k, .int .i64 t, .int .i64 an, .int .i64 o] 34)).alloc (.cells #[.slice none 0 0, .int .i64 0] 38) = V
    obtain ⟨hB1, hB2, hBel, hsz⟩ := two_boxes w [.int .i64 ((kk : Int) + 1), .int .i64 (at_ : Int), .int .i64 (cnt : Int), .slice A 0 k, .int .i64 t, .int .i64 an, .int .i64 o] [.slice none 0 0, .int .i64 0] 34 38 V hV.symm
    clear hV
    have J1 := hide hB2
    have L1 := hide hBel
    have S1 := hide (H1.out.keep hBel)
    clear hB1 hB2 hBel hsz
    refine (HHn.out _ S1.out).mono ?_
    rintro e w1 ⟨rfl, rfl⟩
    obtain ⟨j0, j1⟩ := J1.out.two
    have jf := J1.out.frozen
    have hz := J1.out.lt
    go_wp2_with fail
    (try simp only [Exit.inBlock, Exit.then])
    refine bodyPost_ret (results_cell (a := 4) rfl rfl (J1.out.set2 (.slice none 0 0) (.int .i64 2)) Try.underlying38 rfl (by kernel_rfl)) rfl ?_
    refine RetRDo.no HG.out (S1.out.out ((Oth.setCell (g := w.heap.size + 1) _ _).trans (Oth.setCell _ _)) (Or.inl (by omega))) ?_
    exact ((Oth.ofBelow L1.out lo hi).setNew (by omega)).setNew (by omega)
  · rw [hB] at hG HHn
    have hy := hasB_yes hB
    rw [rowL_kind R kk hkk] at hy
    have hfit : at_ + cnt ≤ (R kk).length := by omega
    have HG := hide hG
    clear hG hB h hv hM hl hy
    go_enter Try.func14, Try.ntmps14
    go_wp2_with fail
    generalize hV : (w.alloc (.cells #[.int .i64 ((kk : Int) + 1), .int .i64 (at_ : Int), .int .i64 (cnt : Int), .slice A 0 k, .int .i64 t, .int .i64 an, .int .i64 o] 34)).alloc (.cells #[.slice none 0 0, .int .i64 0] 38) = V
    obtain ⟨hB1, hB2, hBel, hsz⟩ := two_boxes w [.int .i64 ((kk : Int) + 1), .int .i64 (at_ : Int), .int .i64 (cnt : Int), .slice A 0 k, .int .i64 t, .int .i64 an, .int .i64 o] [.slice none 0 0, .int .i64 0] 34 38 V hV.symm
    clear hV
    have K2 := hide hB1
    have J2 := hide hB2
    have O2 := hide (Oth.ofBelow hBel lo hi)
    have S2 := hide (H1.out.keep hBel)
    clear hB1 hB2 hBel hsz
    refine (HHn.out _ S2.out).mono ?_
    rintro e w1 ⟨rfl, rfl⟩
    go_wp2_with fail
    have q0 : decide (0 < (cnt : Int)) = true := by simp; omega
    have HX := hide (show (((R kk).drop at_).take cnt).length = cnt by simp; omega)
    generalize hV : V.alloc _ = V3
    have hRL : RL lo hi g b R w [.int .i64 ((kk : Int) + 1), .int .i64 (at_ : Int), .int .i64 (cnt : Int), .slice A 0 k, .int .i64 t, .int .i64 an, .int .i64 o] V.heap.size (V.heap.size + 1) (((R kk).drop at_).take cnt) 0 none 0 V3 := by
      obtain ⟨zV, bV⟩ := box2 V _ _ _ V3 hV.symm
      exact ⟨zV, World.ownsRow_nil _ _ _ _, S2.out.keep bV, O2.out.on bV, K2.out.keep bV, J2.out.keep bV, zV.lt⟩
    have HRL := hide hRL
    have GW := hide (show w.heap.size + 1 < V.heap.size from J2.out.lt)
    generalize V.heap.size = G at *
    clear hV hRL
    go_loopw [10] (fun x wr => ∃ (j : Nat) (C : Option Addr) (m : Nat), j ≤ cnt ∧ x = .int .i64 (j : Int) ∧ RL lo hi g b R w [.int .i64 ((kk : Int) + 1), .int .i64 (at_ : Int), .int .i64 (cnt : Int), .slice A 0 k, .int .i64 t, .int .i64 an, .int .i64 o] G (G + 1) (((R kk).drop at_).take cnt) j C m wr) (fun x _ => cnt - (intOf x).toNat)
    case atStart => exact ⟨0, none, 0, by omega, rfl, HRL.out⟩
    case round =>
      obtain ⟨j, C, m, hj, rfl, hrl⟩ := hrel
      have HR := hide hrl
      have HFT := hide (show at_ + cnt ≤ (R kk).length by omega)
      have hLR : (R kk).length ≤ 65536 := (hw kk hkk).1
      clear hrl HRL
      by_cases hlj : j < cnt
      · have q : (j : Int) < (cnt : Int) := by omega
        have hlt : at_ + j < (R kk).length := by have := HFT.out; omega
        have c9 : wr.cell? ⟨G, 0, none⟩ = some (.slice C j m) := HR.out.box.cell 0
        have glt : G < wr.heap.size := HR.out.box.lt
        have cg : ∀ w', Below G wr w' → w'.cell? ⟨g, kk, none⟩ = some (.slice (some ⟨b kk, 0, none⟩) (R kk).length (R kk).length) := fun w' bl => (HR.out.sl.keepB bl (by have := GW.out; omega)).cellk kk (by omega)
        have ck : ∀ w', Below G wr w' → w'.cell? ⟨w.heap.size, 1, none⟩ = some (.int .i64 (at_ : Int)) := fun w' bl => (HR.out.req.keepL bl (by have := GW.out; omega)).cell 1
        have cv : ∀ w', Below G wr w' → w'.cell? ⟨b kk, at_ + j, none⟩ = some (.int .i64 ((R kk)[at_ + j])) := fun w' bl => by rw [((HR.out.sl.keepB bl (by have := GW.out; omega)).row kk (by omega)).cell]; exact iv_get _ _ _
        have Htk : Hid (iv ((((R kk).drop at_).take cnt).take (j + 1)) = iv ((((R kk).drop at_).take cnt).take j) ++ [.int .i64 ((R kk)[at_ + j])]) := by
          show _ = _
          have hlX : j < (((R kk).drop at_).take cnt).length := by rw [HX.out]; exact hlj
          rw [List.take_succ_eq_append_getElem hlX, iv_append]
          congr 1
          simp [iv]
        generalize (R kk)[at_ + j] = y at *
        have e1 : IntKind.i64.wrap (kk : Int) = (kk : Int) := wrap_nat kk (by omega)
        have e2 : IntKind.i64.wrap ((at_ : Int) + (j : Int)) = (at_ : Int) + (j : Int) := by rw [IntKind.wrap_i64]; omega
        have e3 : (at_ : Int) + (j : Int) < ((R kk).length : Int) := by omega
        have e4 : 0 ≤ (at_ : Int) + (j : Int) := by omega
        have e5 : ((at_ : Int) + (j : Int)).toNat = at_ + j := by omega
        obtain ⟨k0, k1, k2, k3, k4, k5, k6⟩ := HR.out.req.seven
        go_wp2_with fail
        clear k0 k1 k2 k3 k4 k5 k6
        have hcj : j ≤ 65536 := by omega
        clear hlt q
        refine wp_region_held_drew (S := fun w' => Below G wr w') (by kernel_rfl) ?_ (fun hHeld => ?_)
        · exact (Below.refl _ _).drew
        refine wpAnyH_take (i := 0) (oi := { dst := some 96, op := _, type := _, pos := _, after := _, guard := _ }) (v := ?v1x1) rfl (by kernel_rfl) (by kernel_rfl) (by kernel_rfl) (fun _ _ _ h => h) (Or.inl ⟨by rfl, ?hy1x1⟩) hHeld ?rest1x1
        case hy1x1 => (intro w hSw; go_simp <;> with_reducible rfl)
        try simp only [Act.put, List.setIfInBounds_toArray, List.set_cons_zero, List.set_cons_succ]
        refine wpAnyH_take (i := 2) (oi := { dst := some 98, op := _, type := _, pos := _, after := _, guard := _ }) (v := ?v1x2) rfl (by kernel_rfl) (by kernel_rfl) (by kernel_rfl) (fun _ _ _ h => h) (Or.inl ⟨by rfl, ?hy1x2⟩) hHeld ?rest1x2
        case hy1x2 => (intro w hSw; go_simp <;> with_reducible rfl)
        try simp only [Act.put, List.setIfInBounds_toArray, List.set_cons_zero, List.set_cons_succ]
        refine wpAnyH_take (i := 3) (oi := { dst := some 99, op := _, type := _, pos := _, after := _, guard := _ }) (v := ?v1x3) rfl (by kernel_rfl) (by kernel_rfl) (by kernel_rfl) (fun _ _ _ h => h) (Or.inl ⟨by rfl, ?hy1x3⟩) hHeld ?rest1x3
        case hy1x3 => (intro w hSw; go_simp <;> with_reducible rfl)
        try simp only [Act.put, List.setIfInBounds_toArray, List.set_cons_zero, List.set_cons_succ]
        refine wpAnyH_take (i := 4) (oi := { dst := some 100, op := _, type := _, pos := _, after := _, guard := _ }) (v := ?v1x4) rfl (by kernel_rfl) (by kernel_rfl) (by kernel_rfl) (fun _ _ _ h => h) (Or.inl ⟨by rfl, ?hy1x4⟩) hHeld ?rest1x4
        case hy1x4 => (intro w hSw; go_simp <;> with_reducible rfl)
        try simp only [Act.put, List.setIfInBounds_toArray, List.set_cons_zero, List.set_cons_succ]
        refine wpAnyH_take (i := 5) (oi := { dst := some 101, op := _, type := _, pos := _, after := _, guard := _ }) (v := ?v1x5) rfl (by kernel_rfl) (by kernel_rfl) (by kernel_rfl) (fun _ _ _ h => h) (Or.inl ⟨by rfl, ?hy1x5⟩) hHeld ?rest1x5
        case hy1x5 => (intro w hSw; go_simp <;> with_reducible rfl)
        try simp only [Act.put, List.setIfInBounds_toArray, List.set_cons_zero, List.set_cons_succ]
        refine wpAnyH_take (i := 6) (oi := { dst := some 102, op := _, type := _, pos := _, after := _, guard := _ }) (v := ?v1x6) rfl (by kernel_rfl) (by kernel_rfl) (by kernel_rfl) (fun _ _ _ h => h) (Or.inl ⟨by rfl, ?hy1x6⟩) hHeld ?rest1x6
        case hy1x6 => (intro w hSw; go_simp <;> with_reducible rfl)
        try simp only [Act.put, List.setIfInBounds_toArray, List.set_cons_zero, List.set_cons_succ]
        refine wpAnyH_take (i := 7) (oi := { dst := some 103, op := _, type := _, pos := _, after := _, guard := _ }) (v := ?v1x7) rfl (by kernel_rfl) (by kernel_rfl) (by kernel_rfl) (fun _ _ _ h => h) (Or.inl ⟨by rfl, ?hy1x7⟩) hHeld ?rest1x7
        case hy1x7 => (intro w hSw; go_simp <;> with_reducible rfl)
        try simp only [Act.put, List.setIfInBounds_toArray, List.set_cons_zero, List.set_cons_succ]
        refine wpAnyH_take (i := 8) (oi := { dst := some 104, op := _, type := _, pos := _, after := _, guard := _ }) (v := ?v1x8) rfl (by kernel_rfl) (by kernel_rfl) (by kernel_rfl) (fun _ _ _ h => h) (Or.inl ⟨by rfl, ?hy1x8⟩) hHeld ?rest1x8
        case hy1x8 => (intro w hSw; go_simp <;> with_reducible rfl)
        try simp only [Act.put, List.setIfInBounds_toArray, List.set_cons_zero, List.set_cons_succ]
        refine wpAnyH_take (i := 9) (oi := { dst := some 105, op := _, type := _, pos := _, after := _, guard := _ }) (v := ?v1x9) rfl (by kernel_rfl) (by kernel_rfl) (by kernel_rfl) (fun _ _ _ h => h) (Or.inl ⟨by rfl, ?hy1x9⟩) hHeld ?rest1x9
        case hy1x9 => (intro w hSw; go_simp <;> with_reducible rfl)
        try simp only [Act.put, List.setIfInBounds_toArray, List.set_cons_zero, List.set_cons_succ]
        refine wpAnyH_take (i := 10) (oi := { dst := some 106, op := _, type := _, pos := _, after := _, guard := _ }) (v := ?v1x10) rfl (by kernel_rfl) (by kernel_rfl) (by kernel_rfl) (fun _ _ _ h => h) (Or.inl ⟨by rfl, ?hy1x10⟩) hHeld ?rest1x10
        case hy1x10 => (intro w hSw; go_simp <;> with_reducible rfl)
        try simp only [Act.put, List.setIfInBounds_toArray, List.set_cons_zero, List.set_cons_succ]
        refine wpAnyH_take (i := 11) (oi := { dst := some 107, op := _, type := _, pos := _, after := _, guard := _ }) (v := ?v1x11) rfl (by kernel_rfl) (by kernel_rfl) (by kernel_rfl) (fun _ _ _ h => h) (Or.inl ⟨by rfl, ?hy1x11⟩) hHeld ?rest1x11
        case hy1x11 => (intro w hSw; go_simp <;> with_reducible rfl)
        try simp only [Act.put, List.setIfInBounds_toArray, List.set_cons_zero, List.set_cons_succ]
        refine wpAnyH_take (i := 12) (oi := { dst := some 108, op := _, type := _, pos := _, after := _, guard := _ }) (v := ?v1x12) rfl (by kernel_rfl) (by kernel_rfl) (by kernel_rfl) (fun _ _ _ h => h) (Or.inl ⟨by rfl, ?hy1x12⟩) hHeld ?rest1x12
        case hy1x12 => (intro w hSw; go_simp <;> with_reducible rfl)
        try simp only [Act.put, List.setIfInBounds_toArray, List.set_cons_zero, List.set_cons_succ]
        refine wpAnyH_take (i := 13) (oi := { dst := some 109, op := _, type := _, pos := _, after := _, guard := _ }) (v := ?v1x13) rfl (by kernel_rfl) (by kernel_rfl) (by kernel_rfl) (fun _ _ _ h => h) (Or.inl ⟨by rfl, ?hy1x13⟩) hHeld ?rest1x13
        case hy1x13 => (intro w hSw; go_simp <;> with_reducible rfl)
        try simp only [Act.put, List.setIfInBounds_toArray, List.set_cons_zero, List.set_cons_succ]
        refine wpAnyH_take (i := 14) (oi := { dst := some 110, op := _, type := _, pos := _, after := _, guard := _ }) (v := ?v1x14) rfl (by kernel_rfl) (by kernel_rfl) (by kernel_rfl) (fun _ _ _ h => h) (Or.inl ⟨by rfl, ?hy1x14⟩) hHeld ?rest1x14
        case hy1x14 => (intro w hSw; go_simp <;> with_reducible rfl)
        try simp only [Act.put, List.setIfInBounds_toArray, List.set_cons_zero, List.set_cons_succ]
        refine wpAnyH_ready (rs := [1, 15]) (by kernel_rfl) (by simp) (AllReadyH.cons (o := { dst := some 97, op := _, type := _, pos := _, after := _, guard := _ }) rfl (fun K hK => ?way1x15x1) (AllReadyH.cons (o := { dst := some 111, op := _, type := _, pos := _, after := _, guard := _ }) rfl (fun K hK => ?way1x15x15) AllReadyH.nil))
        case' way1x15x1 =>
          go_simp
          go_wp2_with fail
          refine hK.out _ _ ?_ (fun hHeld => ?_)
          · exact hHeld
          clear hK K
          try simp only [Act.put, List.setIfInBounds_toArray, List.set_cons_zero, List.set_cons_succ]
          refine wpAnyH_ready (rs := [15]) (by kernel_rfl) (by simp) (AllReadyH.cons (o := { dst := some 111, op := _, type := _, pos := _, after := _, guard := _ }) rfl (fun K hK => ?_) AllReadyH.nil)
          go_simp
          go_wp2_with fail
          refine hK.out _ _ ?_ (fun hHeld => ?_)
          · exact hHeld.alloc (by have := HR.out.sz; simp; omega) _
          clear hK K
          try simp only [Act.put, List.setIfInBounds_toArray, List.set_cons_zero, List.set_cons_succ]
          refine wpAnyH_ready (rs := [16]) (by kernel_rfl) (by simp) (AllReadyH.cons (o := { dst := some 112, op := _, type := _, pos := _, after := _, guard := _ }) rfl (fun K hK => ?_) AllReadyH.nil)
          rw [if_pos (by rfl)]
          refine op_app (.tmp 97) (.tmp 111) 32 rfl 3 _ _ Try.underlying32 int_info rfl (G + 1) C j m _ rfl (World.ownsRow.alloc (w := wr.drew) HR.out.own _) _ 1 1 [.int .i64 y] rfl (rd_one _ _ _) (by intro u hu; simp at hu; subst hu; rfl) (by unfold maxLen; omega) (by omega) (by have := HR.out.sz; simp; omega) ?_
          intro A3 c3 w3 o3 g3 b3
          rw [← Htk.out] at o3
          have O3 := hide o3
          have B3 : Hid (Below (G + 1) wr w3) := hide ((((Below.refl _ _).drew).alloc HR.out.sz _).trans b3)
          have cz := (HR.out.box.keepL B3.out (by omega)).cell 0
          have cf := (HR.out.box.keepL B3.out (by omega)).frozen 0
          clear o3 g3 b3
          refine hK.out _ _ ?_ (fun hHeld => ?_)
          · exact B3.out.mono (Nat.le_succ _)
          clear hK K
          try simp only [Act.put, List.setIfInBounds_toArray, List.set_cons_zero, List.set_cons_succ]
          refine wpAnyH_take (i := 17) (oi := { dst := some 113, op := _, type := _, pos := _, after := _, guard := _ }) (v := ?v1x18) rfl (by kernel_rfl) (by kernel_rfl) (by kernel_rfl) (fun _ _ _ h => h) (Or.inl ⟨by rfl, ?hy1x18⟩) hHeld ?rest1x18
          case hy1x18 => (intro w hSw; go_simp <;> with_reducible rfl)
          try simp only [Act.put, List.setIfInBounds_toArray, List.set_cons_zero, List.set_cons_succ]
          refine wpAnyH_ready (rs := [18]) (by kernel_rfl) (by simp) (AllReadyH.cons (o := { dst := none, op := _, type := _, pos := _, after := _, guard := _ }) rfl (fun K hK => ?_) AllReadyH.nil)
          go_simp
          go_wp2_with fail
          refine hK.out _ _ ?_ (fun hHeld => ?_)
          · exact hHeld.setCell (Nat.le_refl _) _
          clear hK K
          try simp only [Act.put, List.setIfInBounds_toArray, List.set_cons_zero, List.set_cons_succ]
          refine wpAnyH_done (by kernel_rfl) ?_ _
        case' way1x15x15 =>
          go_simp
          go_wp2_with fail
          refine hK.out _ _ ?_ (fun hHeld => ?_)
          · exact hHeld.alloc (by have := HR.out.sz; simp; omega) _
          clear hK K
          try simp only [Act.put, List.setIfInBounds_toArray, List.set_cons_zero, List.set_cons_succ]
          refine wpAnyH_ready (rs := [1]) (by kernel_rfl) (by simp) (AllReadyH.cons (o := { dst := some 97, op := _, type := _, pos := _, after := _, guard := _ }) rfl (fun K hK => ?_) AllReadyH.nil)
          go_simp
          go_wp2_with fail
          refine hK.out _ _ ?_ (fun hHeld => ?_)
          · exact hHeld
          clear hK K
          try simp only [Act.put, List.setIfInBounds_toArray, List.set_cons_zero, List.set_cons_succ]
          refine wpAnyH_ready (rs := [16]) (by kernel_rfl) (by simp) (AllReadyH.cons (o := { dst := some 112, op := _, type := _, pos := _, after := _, guard := _ }) rfl (fun K hK => ?_) AllReadyH.nil)
          rw [if_pos (by rfl)]
          refine op_app (.tmp 97) (.tmp 111) 32 rfl 3 _ _ Try.underlying32 int_info rfl (G + 1) C j m _ rfl (World.ownsRow.alloc (w := wr.drew) HR.out.own _) _ 1 1 [.int .i64 y] rfl (rd_one _ _ _) (by intro u hu; simp at hu; subst hu; rfl) (by unfold maxLen; omega) (by omega) (by have := HR.out.sz; simp; omega) ?_
          intro A3 c3 w3 o3 g3 b3
          rw [← Htk.out] at o3
          have O3 := hide o3
          have B3 : Hid (Below (G + 1) wr w3) := hide ((((Below.refl _ _).drew).alloc HR.out.sz _).trans b3)
          have cz := (HR.out.box.keepL B3.out (by omega)).cell 0
          have cf := (HR.out.box.keepL B3.out (by omega)).frozen 0
          clear o3 g3 b3
          refine hK.out _ _ ?_ (fun hHeld => ?_)
          · exact B3.out.mono (Nat.le_succ _)
          clear hK K
          try simp only [Act.put, List.setIfInBounds_toArray, List.set_cons_zero, List.set_cons_succ]
          refine wpAnyH_take (i := 17) (oi := { dst := some 113, op := _, type := _, pos := _, after := _, guard := _ }) (v := ?v1x22) rfl (by kernel_rfl) (by kernel_rfl) (by kernel_rfl) (fun _ _ _ h => h) (Or.inl ⟨by rfl, ?hy1x22⟩) hHeld ?rest1x22
          case hy1x22 => (intro w hSw; go_simp <;> with_reducible rfl)
          try simp only [Act.put, List.setIfInBounds_toArray, List.set_cons_zero, List.set_cons_succ]
          refine wpAnyH_ready (rs := [18]) (by kernel_rfl) (by simp) (AllReadyH.cons (o := { dst := none, op := _, type := _, pos := _, after := _, guard := _ }) rfl (fun K hK => ?_) AllReadyH.nil)
          go_simp
          go_wp2_with fail
          refine hK.out _ _ ?_ (fun hHeld => ?_)
          · exact hHeld.setCell (Nat.le_refl _) _
          clear hK K
          try simp only [Act.put, List.setIfInBounds_toArray, List.set_cons_zero, List.set_cons_succ]
          refine wpAnyH_done (by kernel_rfl) ?_ _
        all_goals
          go_wp2_with fail
          go_roundw
          case rel => exact ⟨j + 1, A3, c3, by omega, by go_num, HR.out.next (by omega) GW.out hhi B3.out O3.out⟩
          case measure => simp [intOf]; omega
      · obtain rfl : j = cnt := by omega
        have q : ¬ (j : Int) < (j : Int) := by omega
        obtain ⟨k0, k1, k2, k3, k4, k5, k6⟩ := HR.out.req.seven
        obtain ⟨j0, j1⟩ := HR.out.res.two
        obtain ⟨z0, z1⟩ := HR.out.box.two
        have jf := HR.out.res.frozen
        have hz := HR.out.res.lt
        have hne := GW.out
        have hrd := own_rd HR.out.own
        rw [List.take_of_length_le (by rw [HX.out]; exact Nat.le_refl _)] at hrd
        have HRD := hide hrd
        clear hrd
        go_wp2_with fail
        (try simp only [Exit.inBlock, Exit.then])
        refine bodyPost_ret (results_cell (a := 4) rfl rfl (HR.out.res.set2 (.slice C j m) (.int .i64 0)) Try.underlying38 rfl (by kernel_rfl)) rfl ?_
        refine RetRDo.yes HG.out C m j (by rw [HN.out, HVL.out]; exact HX.out) (own_cap HR.out.own) ?_ ?_ ?_ ?_
        · rw [HN.out, HVL.out]
          exact HRD.out.set2 (fun b' o' e' => by have := own_new HR.out.own b' o' e'; omega) _ _
        · exact fun b' o' e' => by have := own_new HR.out.own b' o' e'; omega
        · rw [HN.out]
          exact HR.out.sl.out ((Oth.setCell (g := w.heap.size + 1) (i := 0) wr (.slice C j m)).trans (Oth.setCell (i := 1) _ (.int .i64 0))) (Or.inl (by omega))
        · exact (HR.out.oth.setNew (by omega)).setNew (by omega)

end Go.Proofs.Ytohiblldhdglgaa
