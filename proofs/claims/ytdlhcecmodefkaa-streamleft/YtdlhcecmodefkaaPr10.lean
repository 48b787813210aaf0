/-
  What is proved here: what the program's 'read' of package packet returns, whether its reader gives up or not. Condition: at most 65535 bytes. ALSO: what the program's Parse of package packet returns. Condition: at most 65535 bytes.
-/
import Derived.Test.YtdlhcecmodefkaaPr6
import Derived.Defers
import Derived.Recover
import Derived.Laws.Pointers
import Derived.Test.YtdlhcecmodefkaaVt2
import Derived.Test.YtdlhcecmodefkaaPrMath
import Derived.Test.YtdlhcecmodefkaaPq13
namespace Go.Proofs.Ytdlhcecmodefkaa
set_option linter.unusedVariables false
set_option linter.unusedSimpArgs false
open Go.RowKit

theorem ta_hit (X : TypeId) (w : World) : (Instr.typeAssert (.iface 90 (.int .i64 100)) X 90 true).run Try.prog w = .ok (.tuple #[.int .i64 100, .bool true]) w := by
  simp [Instr.typeAssert, go_sem, Try.underlying90]
theorem ta_nil (X : TypeId) (w : World) : (Instr.typeAssert .nilIface X 90 true).run Try.prog w = .ok (.tuple #[.int .i64 0, .bool false]) w := by
  simp [Instr.typeAssert, go_sem, Try.underlying90]

theorem catch_gave (p : Addr) (x : Int) (older : List PanicEntry) (w : World) (hc : w.cell? p = some (.int .i64 x)) (hz : w.frozen? p = false) :
    CallsD Try.prog 74 #[.pointer (some p)] (.panicking ({ v := .iface 90 (.int .i64 100), recovered := false } :: older)) w fun e u' w' =>
      e = .returned (.tuple #[]) ∧ u' = .panicking ({ v := .iface 90 (.int .i64 100), recovered := true } :: older) ∧ w' = w.setCell p (.int .i64 100) := by
  refine callsD_of_wpS Try.func74 rfl fun c₀ cs hu => ?_
  apply wpS_seq
  apply wpS_region
  simp [wpOpsS, go_sem, recoverD, hu, Try.ntmps74, Exit.thenS, ta_hit]
  apply wpS_seq
  apply wpS_region
  simp [wpOpsS, go_sem, Exit.thenS, Array.replicate]
  refine wpS_cond (t := true) (by simp [Act.eval]) ?_
  simp only [if_true]
  apply wpS_region
  simp [wpOpsS, go_sem, hc, hz, bodyPostS, results, Try.results74]
theorem catch_idle (p : Addr) (w : World) :
    CallsD Try.prog 74 #[.pointer (some p)] .returning w fun e u' w' => e = .returned (.tuple #[]) ∧ u' = .returning ∧ w' = w := by
  refine callsD_of_wpS Try.func74 rfl fun c₀ cs hu => ?_
  apply wpS_seq
  apply wpS_region
  simp [wpOpsS, go_sem, recoverD, hu, Try.ntmps74, Exit.thenS, ta_nil]
  apply wpS_seq
  apply wpS_region
  simp [wpOpsS, go_sem, Exit.thenS, Array.replicate]
  refine wpS_cond (t := false) (by simp [Act.eval]) ?_
  simp only [Bool.false_eq_true, if_false]
  refine wpS_of_wp (wp_skip ?_)
  cases c₀
  simp_all [bodyPostS, results, Try.results74]

/-- Two results that are variables of their own: a packet and a number. -/
theorem results_cells2 {P : Program} {fn : Func} {a b : Tmp} {t u : TypeId} (h : fn.results = #[.cell a t, .cell b u]) {tmps : Array Value} {w : World} {g : Nat} {bt : TypeId} {cs : List Value} {q : Addr} {x : Value} (ha : tmps.getD a undef = .pointer (some ⟨g, 0, none⟩)) (hb : tmps.getD b undef = .pointer (some q)) (hB : Blk w g bt cs)
    {d : TypeDesc} (hu : P.underlying t = some d) (hd : d.isRow = true) (hi : (P.info? t).map (·.size) = some cs.length) (hag : ∀ W, (isAgg u).run P W = .ok false W) (hx : w.cell? q = some x) : (results fn tmps).run P w = .ok (.tuple #[.agg cs.toArray, x]) w := by
  have hl := run_loadVar_mid (P := P) w g 0 t cs d hB.range hu hd hi
  rw [Array.getD_eq_getD_getElem?] at ha hb
  have hl2 : (loadVar u q).run P w = .ok x w := by simp [loadVar, hag, go_sem, hx]
  simp [results, h, ha, hb, asAddr, hl, hl2]

/-- What 'read' returns. -/
def RdPost (o : Option Pk) (w : World) (e : Ending) (w' : World) : Prop := match o with
  | none => e = .returned (.tuple #[pkA (zeroP 0) none 0 0 none 0 0, .int .i64 100]) ∧ Below w.heap.size w w'
  | some p => ∃ C nc kc S ns ks, e = .returned (.tuple #[pkA p C nc kc S ns ks, .int .i64 0]) ∧ NewAt w C ∧ NewAt w S ∧ PkM w' p C nc kc S ns ks ∧ Below w.heap.size w w'

set_option maxRecDepth 100000 in
set_option maxHeartbeats 4000000 in
theorem pkRead_any (A : Option Addr) (n k : Nat) (xs : List UInt8) (w : World) (hR : Rd w A n (bv xs)) (hx : xs.length = n) (hk : n ≤ k) (h65 : n ≤ 65535) : Calls Try.prog 40 #[.slice A n k] w (RdPost (readQ xs) w) := by
  have hmf : ∀ (fn : Fn) (first cap : Array Value) (w : World), (Instr.makeFunc fn first cap).run Try.prog w = .ok (.func fn first cap) w := fun _ _ _ _ => rfl
  go_enter_defers Try.func40, Try.ntmps40
  go_wp2_with fail
  obtain ⟨W, hW⟩ : ∃ W, ((w.alloc (.cells (arr (pkVs (zeroP 0) none 0 0 none 0 0)) 27)).alloc (.cells #[.int .i64 0] 29)).alloc (.cells #[.slice A n k, .int .i64 0] 94) = W := ⟨_, rfl⟩
  have bW : Below w.heap.size w W := by rw [← hW]; exact (((Below.refl _ _).alloc (Nat.le_refl _) _).alloc (by simp) _).alloc (by simp; omega) _
  have zA : Blk W w.heap.size 27 (pkVs (zeroP 0) none 0 0 none 0 0) := by rw [← hW]; exact ((Blk.new w 27 _).al _).al _
  have zB : Blk W (w.heap.size + 1) 29 [.int .i64 0] := by
    rw [← hW]
    have := Blk.new (w.alloc (.cells (arr (pkVs (zeroP 0) none 0 0 none 0 0)) 27)) 29 [.int .i64 0]
    rw [World.size_alloc] at this
    exact this.al _
  have zC : Blk W (w.heap.size + 1 + 1) 94 [.slice A n k, .int .i64 0] := by
    rw [← hW]
    have := Blk.new ((w.alloc (.cells (arr (pkVs (zeroP 0) none 0 0 none 0 0)) 27)).alloc (.cells #[.int .i64 0] 29)) 94 [.slice A n k, .int .i64 0]
    rw [World.size_alloc, World.size_alloc] at this
    exact this
  have hWz : W.heap.size = w.heap.size + 1 + 1 + 1 := by rw [← hW]; simp
  have hw2 : (((w.alloc (.cells #[.int .i64 0, .bool false, .int .i64 0, .string ⟨#[]⟩, .string ⟨#[]⟩, .int .i64 0, .bool false, .string ⟨#[]⟩, .bool false, .int .i64 0, .bool false, .bool false, .bool false, .string ⟨#[]⟩, .string ⟨#[]⟩, .bool false, .slice none 0 0, .slice none 0 0] 27)).alloc (.cells #[.int .i64 0] 29)).alloc (.cells #[.slice A n k, .int .i64 0] 94)) = W := hW
  rw [hw2]
  clear hw2 hW
  obtain ⟨gA, hgA⟩ : ∃ gA, w.heap.size = gA := ⟨_, rfl⟩
  rw [hgA] at zA zB zC hWz bW ⊢
  obtain ⟨gB, hgB⟩ : ∃ gB, gA + 1 = gB := ⟨_, rfl⟩
  rw [hgB] at zB zC hWz ⊢
  obtain ⟨gC, hgC⟩ : ∃ gC, gB + 1 = gC := ⟨_, rfl⟩
  rw [hgC] at zC hWz ⊢
  have nAB : ¬ gA = gB := by omega
  have nAC : ¬ gA = gC := by omega
  have nBC : ¬ gB = gC := by omega
  obtain ⟨v, hv⟩ : ∃ v : Bs, v = ⟨W, fun i => i = gC ∨ W.heap.size ≤ i, fun i h => .inr h⟩ := ⟨_, rfl⟩
  have hb : RrB v xs A n k := ⟨hx, hk, h65, by subst hv; exact hR.keep (by rw [hgA]; exact bW), fun h0 b o e h => by
    obtain ⟨b', o', e', hl, -⟩ := hR.2 h0
    subst hv
    rw [e] at e'
    injection e' with e'
    injection e' with e1
    rcases h with h | h <;> omega⟩
  have hS : RrS v xs A n k gC xs W := ⟨0, zC, by omega, rfl, by subst hv; exact .inl rfl, by subst hv; exact But.refl _ _⟩
  have PK := rrPacket_any v xs A n k gC W hb hS
  have hkeep : ∀ w1, But v.S v.v w1 → Blk w1 gA 27 (pkVs (zeroP 0) none 0 0 none 0 0) ∧ Blk w1 gB 29 [.int .i64 0] ∧ Below gA w w1 := by
    intro w1 h1
    subst hv
    refine ⟨zA.but h1 ?_, zB.but h1 ?_, But.below bW h1 ?_ (by omega)⟩
    · rintro (h | h)
      · exact nAC h
      · omega
    · rintro (h | h)
      · exact nBC h
      · omega
    · rintro i (h | h) <;> omega
  have HK := hide hkeep
  have hAB : gA ≤ gB := by omega
  have hwv : w.heap.size ≤ v.v.heap.size := by subst hv; simp only; omega
  have hAv : gA < v.v.heap.size := by subst hv; exact zA.lt
  have hBv : gB < v.v.heap.size := by subst hv; exact zB.lt
  have HgA := hide hgA
  clear hv hb hS zA zB zC bW hR hkeep hgA hgB hgC nAC nBC hWz
  refine PK.mono ?_
  cases hq : readQ xs with
  | none =>
    rintro e w1 ⟨rfl, hv1⟩
    obtain ⟨zA, zB, b1⟩ := HK.out w1 hv1
    go_wp2_with fail
    refine leaves_cons (f := 74) (args := #[.pointer (some ⟨gB, 0, none⟩)]) (by simp) (by simp [go_sem]) ?_
    refine (catch_gave ⟨gB, 0, none⟩ 0 [] _ (zB.cell 0) (zB.frozen 0)).mono ?_
    rintro e u' w'' ⟨rfl, rfl, rfl⟩
    have hr := results_cells2 (P := Try.prog) (fn := Try.f40) rfl (tmps := #[.slice A n k, undef, .pointer (some ⟨gA, 0, none⟩), .pointer (some ⟨gB, 0, none⟩), .pointer (some ⟨gC, 0, none⟩), .func (.func 74) #[] #[.pointer (some ⟨gB, 0, none⟩)], .slice A n k, .agg #[.slice A n k, .int .i64 0], .pointer (some ⟨gC, 0, none⟩), .pointer (some ⟨gC, 0, none⟩), undef]) rfl rfl (Blk.oth zA (fun e => nAB e.symm) 0 (.int .i64 100)) Try.underlying27 rfl (by kernel_rfl) agg_err ((Blk.set zB 0 (.int .i64 100)).cell 0)
    refine (show ∃ v, (results Try.f40 _).run Try.prog _ = .ok v _ ∧ RdPost none w (.returned v) _ from ⟨_, hr, rfl, ?_⟩)
    rw [HgA.out]
    exact b1.setCell (p := ⟨gB, 0, none⟩) hAB _
  | some p =>
    rintro e w1 ⟨C, nc, kc, S, ns, ks, rfl, hNC, hNS, hM, hv1⟩
    obtain ⟨zA, zB, b1⟩ := HK.out w1 hv1
    have ZA := hide zA
    have ZB := hide zB
    clear zA zB
    go_upto_region 99 with (refine wpList_storeQ rfl 27 (.tmp 2) (.tmp 10) rfl gA 27 (zeroP 0) none 0 0 none 0 0 p C nc kc S ns ks rfl rfl ZA.out (by kernel_rfl) ?_; intro V bV BV; have zB := ZB.out.but BV (fun e => nAB e.symm); have cB := zB.cell 0; have fB := zB.frozen 0; have ZB := hide zB; clear zB)
    refine leaves_cons (f := 74) (args := #[.pointer (some ⟨gB, 0, none⟩)]) (by simp) (by simp [go_sem]) ?_
    refine (catch_idle ⟨gB, 0, none⟩ _).mono ?_
    rintro e u' w'' ⟨rfl, rfl, rfl⟩
    have hr := results_cells2 (P := Try.prog) (fn := Try.f40) rfl (tmps := #[.slice A n k, undef, .pointer (some ⟨gA, 0, none⟩), .pointer (some ⟨gB, 0, none⟩), .pointer (some ⟨gC, 0, none⟩), .func (.func 74) #[] #[.pointer (some ⟨gB, 0, none⟩)], .slice A n k, .agg #[.slice A n k, .int .i64 0], .pointer (some ⟨gC, 0, none⟩), .pointer (some ⟨gC, 0, none⟩), pkA p C nc kc S ns ks]) rfl rfl (Blk.oth bV (fun e => nAB e.symm) 0 (.int .i64 0)) Try.underlying27 rfl (by kernel_rfl) agg_err ((Blk.set ZB.out 0 (.int .i64 0)).cell 0)
    refine (show ∃ v, (results Try.f40 _).run Try.prog _ = .ok v _ ∧ RdPost (readQ xs) w (.returned v) _ from ⟨_, hr, ?_⟩)
    rw [hq]
    obtain ⟨m1, m2, m3, m4, m5, m6⟩ := hM
    have hC : ∀ i, i < v.v.heap.size → Off (fun j => j = i) C := fun i hi b o e h => by have := hNC b o e; have h' : b = i := h; omega
    have hS : ∀ i, i < v.v.heap.size → Off (fun j => j = i) S := fun i hi b o e h => by have := hNS b o e; have h' : b = i := h; omega
    have hBB : But (fun i => i = gB) V (V.setCell ⟨gB, 0, none⟩ (.int .i64 0)) := But.setCell V _ rfl
    refine ⟨C, nc, kc, S, ns, ks, rfl, hNC.old hwv, hNS.old hwv, ⟨m1, m2, (m3.but BV (hC gA hAv)).but hBB (hC gB hBv), m4, m5, (m6.but BV (hS gA hAv)).but hBB (hS gB hBv)⟩, ?_⟩
    rw [HgA.out]
    exact (But.below b1 BV (fun i e => by omega) (by have := b1.size; have := HgA.out; omega)).setCell (p := ⟨gB, 0, none⟩) hAB _

end Go.Proofs.Ytdlhcecmodefkaa

namespace Go.Proofs.Ytdlhcecmodefkaa
set_option linter.unusedVariables false
set_option linter.unusedSimpArgs false
open Go.RowKit

/-- What Parse returns. -/
def PsPost (o : Option Pk) (w : World) (e : Ending) (w' : World) : Prop := match o with
  | none => e = .returned (.tuple #[pkA (zeroP 0) none 0 0 none 0 0, .int .i64 100]) ∧ Below w.heap.size w w'
  | some p => ∃ C nc kc S ns ks, e = .returned (.tuple #[pkA p C nc kc S ns ks, .int .i64 0]) ∧ NewAt w C ∧ NewAt w S ∧ PkM w' p C nc kc S ns ks ∧ Below w.heap.size w w'

set_option maxRecDepth 100000 in
set_option maxHeartbeats 4000000 in
theorem parse_any (A : Option Addr) (n k : Nat) (xs : List UInt8) (w : World) (hR : Rd w A n (bv xs)) (hx : xs.length = n) (hk : n ≤ k) (h65 : n ≤ 65535) : Calls Try.prog 16 #[.slice A n k] w (PsPost (readP xs) w) := by
  rw [← parseQ_eq]
  obtain ⟨O, hO⟩ : ∃ O, parseQ xs = O := ⟨_, rfl⟩
  rw [hO]
  unfold parseQ at hO
  have HO := hide hO
  have PR := fun W (b : Below w.heap.size w W) => pkRead_any A n k xs W (hR.keep b) hx hk h65
  have HS := hide (fun p (h : readQ xs = some p) => readQ_short (by omega) h)
  clear hO hR hx hk h65
  go_enter Try.func16, Try.ntmps16
  go_wp2_with fail
  generalize hW : w.alloc _ = W
  obtain ⟨gr, hgr, hB, bW, -⟩ := boxedP (p := zeroP 0) (C := none) (nc := 0) (kc := 0) (S := none) (ns := 0) (ks := 0) hW
  rw [hgr]
  have Hg := hide hgr
  have HZ := hide hB
  have BW := hide bW
  have P := PR W (by rw [hgr]; exact bW)
  clear hW hgr hB bW PR
  refine P.mono ?_
  clear P
  cases hq : readQ xs with
  | none =>
    have h0 : O = none := by rw [← HO.out, hq]
    have H0 := hide h0
    clear h0
    rintro e w1 ⟨rfl, b1⟩
    have HZ := hide (HZ.out.keep b1)
    have BW := hide (BW.out.trans (b1.mono (by have := BW.out.size; have := Hg.out; have := HZ.out.lt; omega)))
    clear b1
    go_upto_region 2 with (refine wpList_storeQ rfl 27 (.tmp 4) (.tmp 9) rfl w1.heap.size 27 (zeroP 0) none 0 0 none 0 0 (zeroP 0) none 0 0 none 0 0 rfl rfl (Blk.new w1 27 (pkVs (zeroP 0) none 0 0 none 0 0)) (by kernel_rfl) ?_; intro V bV BV)
    have hz1 : Below w1.heap.size w1 V := But.below ((Below.refl _ _).alloc (Nat.le_refl _) _) BV (fun i e => by omega) (by simp)
    have HZ := hide (HZ.out.keep hz1)
    have BW := hide (BW.out.trans (hz1.mono (by have := BW.out.size; have := Hg.out; omega)))
    clear hz1 bV BV
    go_upto_region 99 with (refine wpList_storeQ rfl 27 (.tmp 2) (.tmp 18) rfl gr 27 (zeroP 0) none 0 0 none 0 0 (zeroP 0) none 0 0 none 0 0 rfl rfl HZ.out (by kernel_rfl) ?_; intro V2 bV2 BV2)
    refine bodyPost_ret (results_cell_tmp rfl rfl bV2 Try.underlying27 rfl (by kernel_rfl)) rfl ?_
    rw [H0.out]
    exact ⟨rfl, by rw [Hg.out]; exact But.below BW.out BV2 (fun i e => by omega) (by have := BW.out.size; have := Hg.out; omega)⟩
  | some p =>
    have hS := HS.out p hq
    have hO : O = if mayP p = true then some p else none := by rw [← HO.out, hq]
    have HO2 := hide hO
    clear hO HO
    rintro e w1 ⟨C, nc, kc, S, ns, ks, rfl, hNC, hNS, hM, b1⟩
    have HC := hide (show Off (fun j => j = gr) C from fun b o e h => by have h1 := hNC b o e; have h2 := HZ.out.lt; have h3 : b = gr := h; omega)
    have HSS := hide (show Off (fun j => j = gr) S from fun b o e h => by have h1 := hNS b o e; have h2 := HZ.out.lt; have h3 : b = gr := h; omega)
    have HN := hide (And.intro (hNC.old (by have := BW.out.size; have := Hg.out; omega)) (hNS.old (by have := BW.out.size; have := Hg.out; omega)) : NewAt w C ∧ NewAt w S)
    have HZ := hide (HZ.out.keep b1)
    have BW := hide (BW.out.trans (b1.mono (by have := BW.out.size; have := Hg.out; have := HZ.out.lt; omega)))
    have HM := hide hM
    have hgl : gr < w1.heap.size := HZ.out.lt
    clear b1 hM hNC hNS
    go_upto_region 2 with (refine wpList_storeQ rfl 27 (.tmp 4) (.tmp 9) rfl w1.heap.size 27 (zeroP 0) none 0 0 none 0 0 p C nc kc S ns ks rfl rfl (Blk.new w1 27 (pkVs (zeroP 0) none 0 0 none 0 0)) (by kernel_rfl) ?_; intro V bV BV)
    have hz1 : Below w1.heap.size w1 V := But.below ((Below.refl _ _).alloc (Nat.le_refl _) _) BV (fun i e => by omega) (by simp)
    have HZ := hide (HZ.out.keep hz1)
    have BW := hide (BW.out.trans (hz1.mono (by have := BW.out.size; have := Hg.out; omega)))
    have hM := HM.out.keep hz1
    have PC := check_any p C nc kc S ns ks V hM hS
    have HM := hide hM
    obtain ⟨gp, hgp⟩ : ∃ gp, w1.heap.size = gp := ⟨_, rfl⟩
    rw [hgp] at bV ⊢
    have HP := hide bV
    have hrp : ¬ gr = gp := by omega
    clear hz1 bV BV hM hgp
    go_upto_region 3 with (refine wpList_loadPg (by rfl) 27 (.tmp 4) rfl gp 27 p C nc kc S ns ks rfl HP.out Try.underlying27 rfl (by kernel_rfl) ?_)
    refine PC.mono ?_
    rintro e w2 ⟨rfl, b2⟩
    have HZ := hide (HZ.out.keep b2)
    have HP := hide (HP.out.keep b2)
    have HM := hide (HM.out.keep b2)
    have BW := hide (BW.out.trans (b2.mono (by have := BW.out.size; have := Hg.out; omega)))
    clear b2 PC
    by_cases hm : mayP p = true
    · rw [if_pos hm]
      have h0 : O = some p := by rw [HO2.out, if_pos hm]
      have H0 := hide h0
      clear h0 hm
      go_upto_region 4 with fail
      refine wp_region_lit ?_
      refine wpList_loadP rfl 27 (.tmp 4) rfl gp 27 p C nc kc S ns ks rfl HP.out Try.underlying27 rfl (by kernel_rfl) ?_
      refine wpList_storeQ rfl 27 (.tmp 2) (.tmp 19) rfl gr 27 (zeroP 0) none 0 0 none 0 0 p C nc kc S ns ks rfl rfl HZ.out (by kernel_rfl) ?_
      intro V2 bV2 BV2
      go_wp2_with fail
      refine bodyPost_ret (results_cell_tmp rfl rfl bV2 Try.underlying27 rfl (by kernel_rfl)) rfl ?_
      rw [H0.out]
      obtain ⟨m1, m2, m3, m4, m5, m6⟩ := HM.out
      exact ⟨C, nc, kc, S, ns, ks, rfl, HN.out.1, HN.out.2, ⟨m1, m2, m3.but BV2 HC.out, m4, m5, m6.but BV2 HSS.out⟩, by rw [Hg.out]; exact But.below BW.out BV2 (fun i e => by omega) (by have := BW.out.size; have := Hg.out; omega)⟩
    · rw [if_neg hm]
      have h0 : O = none := by rw [HO2.out, if_neg hm]
      have H0 := hide h0
      clear h0 hm
      go_upto_region 99 with (refine wpList_storeQ rfl 27 (.tmp 2) (.tmp 18) rfl gr 27 (zeroP 0) none 0 0 none 0 0 (zeroP 0) none 0 0 none 0 0 rfl rfl HZ.out (by kernel_rfl) ?_; intro V2 bV2 BV2)
      refine bodyPost_ret (results_cell_tmp rfl rfl bV2 Try.underlying27 rfl (by kernel_rfl)) rfl ?_
      rw [H0.out]
      exact ⟨rfl, by rw [Hg.out]; exact But.below BW.out BV2 (fun i e => by omega) (by have := BW.out.size; have := Hg.out; omega)⟩

end Go.Proofs.Ytdlhcecmodefkaa
