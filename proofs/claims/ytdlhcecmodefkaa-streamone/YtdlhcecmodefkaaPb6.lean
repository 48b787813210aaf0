/-
  What is proved here: what the program's Bytes of package packet returns. Conditions: strings of at most 65535 bytes; at most 65535 codes, filters.
-/
import Derived.Test.YtdlhcecmodefkaaPb4
import Derived.Test.YtdlhcecmodefkaaPq13
import Derived.Test.YtdlhcecmodefkaaVt3
namespace Go.Proofs.Ytdlhcecmodefkaa
set_option linter.unusedVariables false
set_option linter.unusedSimpArgs false
open Go.RowKit

/-- make([]T, 0, n), T of one cell. -/
theorem run_mkZ {P : Program} (t e : TypeId) (z : Value) (bytes : Nat) (ht : P.underlying t = some (.slice e)) (hinfo : (P.info? e).map (fun i => (i.zero, i.size, i.bytes)) = some (some z, 1, bytes)) (hz1 : z.cells = #[z])
    (n : Nat) (hbytes : bytes * n ≤ 281474976710656) (h63 : n ≤ 9223372036854775807) (ni : Int) (hni : ni = (n : Int)) (w : World) :
    (Instr.makeSlice t (.int .i64 0) (.int .i64 ni)).run P w = .ok (.slice (some ⟨w.heap.size, 0, none⟩) 0 n) (w.alloc (.cells (arr (List.replicate n z)) e)) := by
  subst hni
  obtain ⟨i, hi, hzz⟩ := Option.map_eq_some_iff.1 hinfo
  simp only [Prod.mk.injEq] at hzz
  obtain ⟨hz, hs, hb⟩ := hzz
  have hb' : ((bytes * n : Nat) : Int) ≤ 281474976710656 := by omega
  rw [Int.natCast_mul] at hb'
  have hr := run_make (P := P) w t e i z ht hi hz .i64 .i64 0 n (by omega) (by omega) (by rw [hb]; exact hb') (by omega)
  rw [hs, hz1, Nat.mul_one, madeCells_one, Int.toNat_natCast] at hr
  exact hr
theorem own_madeZ (w : World) (base : Nat) (hb : base ≤ w.heap.size) (e : TypeId) (z : Value) (n : Nat) (hn : n ≤ maxLen) : (w.alloc (.cells (arr (List.replicate n z)) e)).ownsRow base e 1 (.slice (some ⟨w.heap.size, 0, none⟩) 0 n) 0 [] :=
  ⟨rfl, .inr ⟨w.heap.size, n, arr (List.replicate n z), rfl, hb, Blk.new w e _, Nat.zero_le _, hn, by rw [arr_size]; simp, by simp⟩⟩
theorem op_loadP {P : Program} {w : World} {o : Oper} {a : Act} {K : Act → World → Prop} {Q : Exit → Act → World → Prop} (ty : TypeId) (x : Operand) (ho : o.op = .load ty x) (g : Nat) (t : TypeId) (p : Pk) (C : Option Addr) (nc kc : Nat) (S : Option Addr) (ns ks : Nat)
    (hx : a.eval x = .pointer (some ⟨g, 0, none⟩)) (hB : Blk w g t (pkVs p C nc kc S ns ks)) {d : TypeDesc} (hu : P.underlying ty = some d) (hd : d.isRow = true) (hi : (P.info? ty).map (·.size) = some 18)
    (h : K (a.put o.dst (pkA p C nc kc S ns ks)) w) : Oper.wp P o a w K Q := by
  have hr := run_loadAt_mid (P := P) w g 0 ty (pkVs p C nc kc S ns ks) d hB.range hu hd hi
  unfold Oper.wp execOp
  simp only [ho, hx, Sem.run_bind, hr, Result.andThen_ok]
  exact h
/-- What Bytes returns. -/
def ByPost (p : Pk) (w : World) (e : Ending) (w' : World) : Prop := if mayP p = true
  then ∃ A c, e = .returned (.tuple #[.slice A (layP p).length c, .int .i64 0]) ∧ w'.ownsRow w.heap.size 5 1 (.slice A (layP p).length c) (layP p).length (bv (layP p)) ∧ Below w.heap.size w w'
  else e = .returned (.tuple #[.slice none 0 0, .int .i64 1]) ∧ Below w.heap.size w w'

set_option maxRecDepth 100000 in
set_option maxHeartbeats 4000000 in
theorem bytes_any (p : Pk) (C : Option Addr) (nc kc : Nat) (S : Option Addr) (ns ks : Nat) (w : World) (hM : PkM w p C nc kc S ns ks) (hs : PkS p) : Calls Try.prog 12 #[pkA p C nc kc S ns ks] w (ByPost p w) := by
  obtain ⟨q, hq⟩ : ∃ q, p = q := ⟨_, rfl⟩
  rw [hq] at hM hs
  have hBP : ByPost p w = ByPost q w := by rw [hq]
  rw [hBP]
  clear hBP
  have Hq := hide hq
  have HM := hide (show ∀ W, Below w.heap.size w W → PkM W q C nc kc S ns ks from fun W b => hM.keep b)
  have Hs := hide hs
  have HC := hide (show 0 < nc → ∀ i, SoA C i → i < w.heap.size from fun h0 i ⟨o, e⟩ => by
    obtain ⟨b', o', e', hl, -⟩ := hM.2.2.1.at_ h0
    rw [e] at e'
    injection e' with e'
    injection e' with e1
    omega)
  have HSb := hide (show 0 < ns → ∀ i, SoA S i → i < w.heap.size from fun h0 i ⟨o, e⟩ => by
    obtain ⟨b', o', e', hl, -⟩ := hM.2.2.2.2.2.at_ (k := 0) (by omega)
    rw [e] at e'
    injection e' with e'
    injection e' with e1
    omega)
  obtain ⟨ty, dup, id, topic, payload, qos, retain, client, clean, alive, hasWill, hasUser, hasPass, user, pass, present, codes, subs⟩ := p
  have hty : q.ty = ty := by rw [← hq]
  clear hq hM hs
  simp only [pkA]
  go_enter Try.func12, Try.ntmps12
  go_upto_region 1 with fail
  generalize hW : w.alloc _ = W
  obtain ⟨g, hg, hB, bW, -⟩ := boxedP (p := ⟨ty, dup, id, topic, payload, qos, retain, client, clean, alive, hasWill, hasUser, hasPass, user, pass, present, codes, subs⟩) hW
  have bw : Below w.heap.size w W := by rw [hg]; exact bW
  have hgw : w.heap.size ≤ g := by omega
  rw [hg]
  have HB := hide (show Blk W g 27 (pkVs q C nc kc S ns ks) from by rw [← Hq.out]; exact hB)
  have PC := check_any q C nc kc S ns ks W (HM.out W bw) Hs.out
  have BW := hide bw
  clear hW hg hB bW bw
  refine wp_region_lit ?_
  refine wpList_loadP rfl 27 (.tmp 1) rfl g 27 q C nc kc S ns ks rfl HB.out Try.underlying27 rfl (by kernel_rfl) ?_
  go_wp2_with fail
  refine PC.mono ?_
  rintro e w1 ⟨rfl, b1⟩
  have HB := hide (HB.out.keep b1)
  have BW := hide (below_on BW.out b1)
  clear b1 PC
  by_cases hm : mayP q = true
  case neg =>
    rw [if_neg hm]
    have Hm := hide hm
    clear hm
    go_wp2_with fail
    go_ret2
    exact (show ByPost q w _ _ from by unfold ByPost; rw [if_neg Hm.out]; exact ⟨rfl, BW.out⟩)
  case pos =>
  rw [if_pos hm]
  obtain ⟨hr, hu, hok, hlen⟩ := mayP_parts hm
  obtain ⟨hfirst, hfl16⟩ := lay_first hm
  have hfit : fitB q = true := by
    have := hm
    rw [mayP_fit, Bool.and_eq_true] at this
    exact this.1
  have hrem := remain_fit q hfit
  have PR := remain_any q C nc kc S ns ks w1 (HM.out w1 BW.out) Hs.out
  rw [← hrem] at PR
  obtain ⟨L, hL⟩ : ∃ L, (bodyP q).length = L := ⟨_, rfl⟩
  rw [hL] at PR hlen
  have HL := hide hL
  have HP := hide (show ∀ A c w', w'.ownsRow w.heap.size 5 1 (.slice A (1 + dgL L + L) c) (1 + dgL L + L) (bv (layP q)) → Below w.heap.size w w' → ByPost q w (.returned (.tuple #[.slice A (1 + dgL L + L) c, .int .i64 0])) w' from fun A c w' o b => by
    unfold ByPost
    rw [if_pos hm]
    have hl : (layP q).length = 1 + dgL L + L := by rw [lay_len, HL.out, dg_length _ hlen]
    rw [hl]
    exact ⟨A, c, rfl, o, b⟩)
  have hqos : (q.ty = 3 → 0 ≤ q.qos) ∧ (q.ty = 3 → q.qos ≤ 3) := ⟨fun h => (fit_i3 hfit h).1.1, fun h => by have := (fit_i3 hfit h).1.2; omega⟩
  obtain ⟨t, rfl⟩ : ∃ t : Nat, ty = (t : Int) := ⟨ty.toNat, by rw [hty] at hr; omega⟩
  have ht14 : t ≤ 14 := by rw [hty] at hr; omega
  have hlay : layP q = UInt8.ofNat (16 * t + flagsP q) :: (dg L ++ bodyP q) := by unfold layP; rw [hty, Int.toNat_natCast, HL.out]
  have HLay := hide hlay
  have Hfit := hide hfit
  have Hqos := hide hqos
  generalize hF : flagsP q = F at *
  have HF := hide hF
  have hd4 := dgL_le L
  clear hr hu hok hm hrem hL hfit hqos hlay hF hfirst
  go_upto_region 5 with (refine wpList_loadP rfl 27 (.tmp 1) rfl g 27 q C nc kc S ns ks rfl HB.out Try.underlying27 rfl (by kernel_rfl) ?_)
  refine PR.mono ?_
  rintro e w2 ⟨rfl, b2⟩
  have HB := hide (HB.out.keep b2)
  have BW := hide (below_on BW.out b2)
  clear b2 PR
  go_wp2_with fail
  refine (vput_ok L hlen w2).mono ?_
  rintro e w3 ⟨D, kd, rfl, hkd, hD, b3⟩
  have HB := hide (HB.out.keep b3)
  have BW := hide (below_on BW.out b3)
  have HD := hide hD
  clear b3 hkd hD
  obtain ⟨dl, hdl⟩ : ∃ dl, dgL L = dl := ⟨_, rfl⟩
  rw [hdl] at HD hd4 ⊢
  rw [hdl] at HP
  have Hdl := hide hdl
  clear hdl
  have hmk := fun V => run_mkZ (P := Try.prog) 31 5 (.int .u8 0) 1 Try.underlying31 u8_info rfl (1 + dl + L) (by omega) (by omega) (1 + (dl : Int) + (L : Int)) (by omega) V
  go_wp2_with fail
  clear hmk
  obtain ⟨z, hz⟩ : ∃ z, w3.heap.size = z := ⟨_, rfl⟩
  obtain ⟨V, hV⟩ : ∃ V, w3.alloc (.cells (arr (List.replicate (1 + dl + L) (Value.int .u8 0))) 5) = V := ⟨_, rfl⟩
  have bV : Below w3.heap.size w3 V := by rw [← hV]; exact (Below.refl _ _).alloc (Nat.le_refl _) _
  have hO : V.ownsRow w.heap.size 5 1 (.slice (some ⟨z, 0, none⟩) 0 (1 + dl + L)) 0 (bv []) := by rw [← hV, ← hz]; exact own_madeZ w3 w.heap.size BW.out.size 5 (.int .u8 0) (1 + dl + L) (by unfold maxLen; omega)
  rw [hV, hz]
  have hgz : g < z := by rw [← hz]; exact HB.out.lt
  have HD3 := HD
  have HD := hide (HD.out.keep bV)
  have HB := hide (HB.out.keep bV)
  have BW := hide (below_on BW.out bV)
  have hT := Trk.start hO BW.out.size
  have hgA : ¬ SoA (some ⟨z, 0, none⟩) g := fun ⟨o, e⟩ => by injection e with e; injection e with e1; omega
  have hDA : Off (SoA (some ⟨z, 0, none⟩)) D := fun b o e ⟨o', e'⟩ => by
    obtain ⟨b', o'', e2, hl, -⟩ := HD3.out.at_ (k := 0) (by omega)
    rw [e] at e2
    injection e2 with e2
    injection e2 with e3
    injection e' with e'
    injection e' with e4
    omega
  have HT := hide hT
  have c0 : V.cell? ⟨g, 0, none⟩ = some (.int .i64 (t : Int)) := by rw [← hty]; exact (Blk.p18 HB.out).1
  obtain ⟨M, hM⟩ : ∃ M, 16 * t + F = M := ⟨_, rfl⟩
  have hM256 : M < 256 := by omega
  have v1 : IntKind.i64.wrap ((t : Int) * 16) = (t : Int) * 16 := by rw [IntKind.wrap_i64]; omega
  have v2 : IntKind.i64.wrap ((t : Int) * 16 + (F : Int)) = (M : Int) := by rw [IntKind.wrap_i64]; omega
  have v3 : IntKind.u8.wrap (M : Int) = (M : Int) := by rw [IntKind.wrap_u8]; omega
  have hbz : bv [UInt8.ofNat M] = [.int .u8 (M : Int)] := by rw [bv_cons, u8cell hM256]; rfl
  rw [hM] at HLay
  have PF := fun Z => flags_p q C nc kc S ns ks Z Hqos.out.1 Hqos.out.2
  rw [HF.out] at PF
  have Hz := hide hz
  have hVb : w.heap.size ≤ V.heap.size := BW.out.size
  clear hV bV hT hO hM hz
  refine wp_region_held_drew (S := fun Z => Z.cell? ⟨g, 0, none⟩ = some (.int .i64 (t : Int))) (by kernel_rfl) ?_ (fun hHeld => ?_)
  · exact c0
  refine wpAnyH_take (i := 0) (oi := { dst := some 27, op := _, type := _, pos := _, after := _, guard := _ }) (v := ?v1x1) rfl (by kernel_rfl) (by kernel_rfl) (by kernel_rfl) (fun _ _ _ h => h) (Or.inl ⟨by rfl, ?hy1x1⟩) hHeld ?rest1x1
  case hy1x1 => (intro w hSw; go_simp <;> with_reducible rfl)
  try simp only [Act.put, List.setIfInBounds_toArray, List.set_cons_zero, List.set_cons_succ]
  refine wpAnyH_take (i := 1) (oi := { dst := some 28, op := _, type := _, pos := _, after := _, guard := _ }) (v := ?v1x2) rfl (by kernel_rfl) (by kernel_rfl) (by kernel_rfl) (fun _ _ _ h => h) (Or.inl ⟨by rfl, ?hy1x2⟩) hHeld ?rest1x2
  case hy1x2 => (intro w hSw; go_simp <;> with_reducible rfl)
  try simp only [Act.put, List.setIfInBounds_toArray, List.set_cons_zero, List.set_cons_succ]
  refine wpAnyH_take (i := 2) (oi := { dst := some 29, op := _, type := _, pos := _, after := _, guard := _ }) (v := ?v1x3) rfl (by kernel_rfl) (by kernel_rfl) (by kernel_rfl) (fun _ _ _ h => h) (Or.inl ⟨by rfl, ?hy1x3⟩) hHeld ?rest1x3
  case hy1x3 => (intro w hSw; go_simp <;> with_reducible rfl)
  try simp only [Act.put, List.setIfInBounds_toArray, List.set_cons_zero, List.set_cons_succ]
  refine wpAnyH_take (i := 3) (oi := { dst := some 30, op := _, type := _, pos := _, after := _, guard := _ }) (v := ?v1x4) rfl (by kernel_rfl) (by kernel_rfl) (by kernel_rfl) (fun _ _ _ h => h) (Or.inl ⟨by rfl, ?hy1x4⟩) hHeld ?rest1x4
  case hy1x4 => (intro w hSw; go_simp <;> with_reducible rfl)
  try simp only [Act.put, List.setIfInBounds_toArray, List.set_cons_zero, List.set_cons_succ]
  refine wpAnyH_ready (rs := [4]) (by kernel_rfl) (by simp) (AllReadyH.cons (o := { dst := some 31, op := _, type := _, pos := _, after := _, guard := _ }) rfl (fun K hK => ?_) AllReadyH.nil)
  rw [if_pos (by rfl)]
  refine op_loadP 27 (.tmp 1) rfl g 27 q C nc kc S ns ks rfl (show Blk V.drew g _ _ from HB.out) Try.underlying27 rfl (by kernel_rfl) ?_
  refine hK.out _ _ ?_ (fun hHeld => ?_)
  · exact hHeld
  clear hK K
  try simp only [Act.put, List.setIfInBounds_toArray, List.set_cons_zero, List.set_cons_succ]
  refine wpAnyH_ready (rs := [5]) (by kernel_rfl) (by simp) (AllReadyH.cons (o := { dst := some 32, op := _, type := _, pos := _, after := _, guard := _ }) rfl (fun K hK => ?_) AllReadyH.nil)
  go_simp
  refine (PF _).mono ?_
  rintro e w5 ⟨rfl, b5⟩
  replace b5 : Below V.heap.size V w5 := below_unN (n := 1) b5
  have HB5 := hide (HB.out.keep b5)
  have HT5 := hide (HT.out.keep b5)
  have HD5 := hide (HD.out.keep b5)
  have hb5 : w.heap.size ≤ w5.heap.size := Nat.le_trans hVb b5.size
  have HV5 := hide (below_on BW.out b5)
  have c5 : w5.cell? ⟨g, 0, none⟩ = some (.int .i64 (t : Int)) := by rw [← hty]; exact (Blk.p18 HB5.out).1
  have hal := fun ob => ((Below.refl w5.heap.size w5).alloc (Nat.le_refl _) ob)
  go_wp2_with fail
  refine hK.out _ _ ?_ (fun hHeld => ?_)
  · exact c5
  clear hK K
  try simp only [Act.put, List.setIfInBounds_toArray, List.set_cons_zero, List.set_cons_succ]
  refine wpAnyH_take (i := 6) (oi := { dst := some 33, op := _, type := _, pos := _, after := _, guard := _ }) (v := ?v1x7) rfl (by kernel_rfl) (by kernel_rfl) (by kernel_rfl) (fun _ _ _ h => h) (Or.inl ⟨by rfl, ?hy1x7⟩) hHeld ?rest1x7
  case hy1x7 => (intro w hSw; go_simp <;> with_reducible rfl)
  try simp only [Act.put, List.setIfInBounds_toArray, List.set_cons_zero, List.set_cons_succ]
  refine wpAnyH_take (i := 7) (oi := { dst := some 34, op := _, type := _, pos := _, after := _, guard := _ }) (v := ?v1x8) rfl (by kernel_rfl) (by kernel_rfl) (by kernel_rfl) (fun _ _ _ h => h) (Or.inl ⟨by rfl, ?hy1x8⟩) hHeld ?rest1x8
  case hy1x8 => (intro w hSw; go_simp <;> with_reducible rfl)
  try simp only [Act.put, List.setIfInBounds_toArray, List.set_cons_zero, List.set_cons_succ]
  refine wpAnyH_ready (rs := [8]) (by kernel_rfl) (by simp) (AllReadyH.cons (o := { dst := some 35, op := _, type := _, pos := _, after := _, guard := _ }) rfl (fun K hK => ?_) AllReadyH.nil)
  go_simp
  go_wp2_with fail
  refine hK.out _ _ ?_ (fun hHeld => ?_)
  · exact ((hal _).cell (p := ⟨g, 0, none⟩) HB5.out.lt).trans c5
  clear hK K
  try simp only [Act.put, List.setIfInBounds_toArray, List.set_cons_zero, List.set_cons_succ]
  refine wpAnyH_ready (rs := [9]) (by kernel_rfl) (by simp) (AllReadyH.cons (o := { dst := some 36, op := _, type := _, pos := _, after := _, guard := _ }) rfl (fun K hK => ?_) AllReadyH.nil)
  rw [if_pos (by rfl)]
  refine op_app2 (.tmp 27) (.tmp 35) 31 rfl 5 _ _ Try.underlying31 u8_info rfl w.heap.size (some ⟨z, 0, none⟩) 0 (1 + dl + L) (bv []) rfl (own_keep HT5.out.own (hal _)) (some ⟨w5.heap.size, 0, none⟩) 1 1 [.int .u8 (M : Int)] rfl (rd_one w5 5 _) (by intro u hu; simp at hu; subst hu; rfl) (by unfold maxLen; omega) (by omega) (Nat.le_trans hb5 (by simp)) ?_
  intro A6 c6 w6 o6 b6 h6
  have hT6 := (HT5.out.keep (hal _)).step (ys := [UInt8.ofNat M]) (by rw [hbz]; exact o6) b6 h6
  have HB6 := HB.out.but hT6.but hgA
  have c6' : w6.cell? ⟨g, 0, none⟩ = some (.int .i64 (t : Int)) := by rw [← hty]; exact (Blk.p18 HB6).1
  have HD6 := hide (HD.out.but hT6.but hDA)
  have HT6 := hide hT6
  have HB6 := hide HB6
  clear o6 b6 h6 hT6
  refine hK.out _ _ ?_ (fun hHeld => ?_)
  · exact c6'
  clear hK K
  try simp only [Act.put, List.setIfInBounds_toArray, List.set_cons_zero, List.set_cons_succ]
  refine wpAnyH_take (i := 10) (oi := { dst := some 8, op := _, type := _, pos := _, after := _, guard := _ }) (v := ?v1x11) rfl (by kernel_rfl) (by kernel_rfl) (by kernel_rfl) (fun _ _ _ h => h) (Or.inl ⟨by rfl, ?hy1x11⟩) hHeld ?rest1x11
  case hy1x11 => (intro w hSw; go_simp <;> with_reducible rfl)
  try simp only [Act.put, List.setIfInBounds_toArray, List.set_cons_zero, List.set_cons_succ]
  refine wpAnyH_done (by kernel_rfl) ?_ _
  clear hHeld c6' hgA hDA v1 v2 v3 PF
  have hb6 := HT6.out.base
  go_upto_region 9 with (at_builtin; refine wpList_app2 rfl (.tmp 37) (.tmp 38) 31 rfl 5 _ _ Try.underlying31 u8_info rfl w.heap.size A6 1 c6 (bv [UInt8.ofNat M]) rfl HT6.out.own D dl kd (bv (dg L)) rfl HD6.out (bv_one _) (by unfold maxLen; omega) (by omega) hb6 ?_; intro A7 c7 w7 o7 b7 h7; rw [← bv_append] at o7)
  have hT7 := HT6.out.step o7 b7 h7
  have hgA2 : ¬ SoA (some ⟨z, 0, none⟩) g := fun ⟨o, e⟩ => by injection e with e; injection e with e1; omega
  have HB7 := hide (HB.out.but hT7.but hgA2)
  have bw7 : Below w.heap.size w w7 := But.below BW.out hT7.but (fun i ⟨o, e⟩ => by injection e with e; injection e with e1; have := Hz.out; omega) BW.out.size
  have PB := behind_any w.heap.size A7 (1 + dl) c7 (1 + dl + L) (UInt8.ofNat M :: dg L) q C nc kc S ns ks w7 Hfit.out (HM.out w7 bw7) Hs.out hT7.own hT7.base (by omega) HC.out HSb.out (by rw [HL.out])
  have HW7 := hide bw7
  clear o7 b7 h7 hT7 bw7 hgA2
  refine wp_region_lit ?_
  refine wpList_mv rfl (.tmp 8) rfl ?_
  refine wpList_loadP rfl 27 (.tmp 1) rfl g 27 q C nc kc S ns ks rfl HB7.out Try.underlying27 rfl (by kernel_rfl) ?_
  go_wp2_with fail
  refine PB.mono ?_
  rintro e w8 ⟨A8, c8, rfl, o8, b8⟩
  have hF : ByPost q w (.returned (.tuple #[.slice A8 (1 + dl + L) c8, .int .i64 0])) w8 := HP.out A8 c8 w8 (by rw [HLay.out]; exact o8) (HW7.out.trans b8)
  have HFin := hide hF
  clear hF o8 b8 PB
  go_wp2_with fail
  go_ret2
  exact HFin.out

end Go.Proofs.Ytdlhcecmodefkaa
