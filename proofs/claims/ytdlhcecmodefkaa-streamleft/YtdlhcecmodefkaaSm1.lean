/-
  What is proved here: what stream's size and first return. Condition: at most 65535 bytes.
-/
import Derived.Test.YtdlhcecmodefkaaStMath
import Derived.Test.YtdlhcecmodefkaaPr10
namespace Go.Proofs.Ytdlhcecmodefkaa
set_option linter.unusedVariables false
set_option linter.unusedSimpArgs false
open Go.RowKit

theorem results_cell_tmp2 {P : Program} {fn : Func} {a b c : Tmp} {t : TypeId} (h : fn.results = #[.cell a t, .tmp b, .tmp c]) {tmps : Array Value} {w : World} {g : Nat} {bt : TypeId} {cs : List Value} (ha : tmps.getD a undef = .pointer (some ⟨g, 0, none⟩)) (hB : Blk w g bt cs)
    {d : TypeDesc} (hu : P.underlying t = some d) (hd : d.isRow = true) (hi : (P.info? t).map (·.size) = some cs.length) : (results fn tmps).run P w = .ok (.tuple #[.agg cs.toArray, tmps.getD b undef, tmps.getD c undef]) w := by
  rw [Array.getD_eq_getD_getElem?] at ha
  simp [results, h, ha, asAddr, run_loadVar_mid w g 0 t cs d hB.range hu hd hi]

/-- What size answers. -/
def szN11 (xs : List UInt8) : Nat := if (atR xs 1).2.2 = 0 then (atR xs 1).2.1 + (atR xs 1).1 else 0
def szE11 (xs : List UInt8) : Int := if (atR xs 1).2.2 = 4 then 100 else ((atR xs 1).2.2 : Nat)

theorem size11_any (A : Option Addr) (n k : Nat) (xs : List UInt8) (w : World) (hR : Rd w A n (bv xs)) (hx : xs.length = n) (hk : n ≤ k) (h65 : n ≤ 65535) : Calls Try.prog 95 #[.slice A n k] w fun e w' => e = .returned (.tuple #[.int .i64 (szN11 xs : Nat), .int .i64 (szE11 xs)]) ∧ Below w.heap.size w w' := by
  have P := vat_any A n k 1 xs w hR hk (by unfold maxLen; omega) hx
  have hN := hide (show szN11 xs = (if (atR xs 1).2.2 = 0 then (atR xs 1).2.1 + (atR xs 1).1 else 0) from rfl)
  have hE := hide (show szE11 xs = (if (atR xs 1).2.2 = 4 then 100 else (((atR xs 1).2.2 : Nat) : Int)) from rfl)
  have hb : (atR xs 1).2.2 = 0 → (atR xs 1).1 ≤ 268435455 ∧ (atR xs 1).2.1 ≤ 5 := fun h0 => by
    obtain ⟨j, _, h4, _, hk, hl⟩ := atR_putQ xs 1 h0
    omega
  have he := atR_err xs
  generalize szN11 xs = N at *
  generalize szE11 xs = E at *
  generalize (atR xs 1).1 = a at *
  generalize (atR xs 1).2.1 = b at *
  generalize (atR xs 1).2.2 = c at *
  clear hR hx
  go_enter Try.func95, Try.ntmps95
  go_wp2_with fail
  refine P.mono ?_
  rintro e w1 ⟨rfl, b1⟩
  have HB := hide b1
  have Hb := hide hb
  clear P b1 hb
  rcases he with rfl | rfl | rfl
  · have hab := Hb.out rfl
    have v1 : IntKind.i64.wrap ((b : Int) + (a : Int)) = ((b + a : Nat) : Int) := by rw [IntKind.wrap_i64]; omega
    go_wp2_with fail
    go_ret2
    have e1 : N = b + a := by have := hN.out; simpa using this
    have e2 : E = 0 := by have := hE.out; simpa using this
    subst e1 e2
    exact ⟨rfl, HB.out⟩
  · go_wp2_with fail
    go_ret2
    have e1 : N = 0 := by have := hN.out; simpa using this
    have e2 : E = 100 := by have := hE.out; simpa using this
    subst e1 e2
    exact ⟨rfl, HB.out⟩
  · go_wp2_with fail
    go_ret2
    have e1 : N = 0 := by have := hN.out; simpa using this
    have e2 : E = 7 := by have := hE.out; simpa using this
    subst e1 e2
    exact ⟨rfl, HB.out⟩

theorem Rd.upto' {w : World} {A : Option Addr} {n : Nat} {xs : List UInt8} (h : Rd w A n (bv xs)) (N : Nat) (hN : N ≤ n) : Rd w A N (bv (xs.take N)) := by
  have := h.upto N n hN (Nat.le_refl _)
  simpa using this
/-- What first answers: the packet, how many bytes it has, the error. -/
def FsPost (nx : Nx Pk) (sc : Int) (w : World) (e : Ending) (w' : World) : Prop := ∃ (p : Pk) (C : Option Addr) (nc kc : Nat) (S : Option Addr) (ns ks : Nat) (n : Nat) (er : Int),
  e = .returned (.tuple #[pkA p C nc kc S ns ks, .int .i64 (n : Nat), .int .i64 er]) ∧ PkM w' p C nc kc S ns ks ∧ NewAt w C ∧ NewAt w S ∧ Below w.heap.size w w' ∧
  match nx with
  | .wait => er = 7
  | .bad => er = sc
  | .cut q m => er = 0 ∧ p = q ∧ n = m
theorem zeroM (w : World) : PkM w (zeroP 0) none 0 0 none 0 0 := ⟨rfl, Nat.le_refl _, Rd.nil _ _, rfl, Nat.le_refl _, Rd.nil _ _⟩

set_option maxRecDepth 100000 in
set_option maxHeartbeats 4000000 in
theorem first11_any (A : Option Addr) (n k most : Nat) (xs : List UInt8) (w : World) (hR : Rd w A n (bv xs)) (hx : xs.length = n) (hk : n ≤ k) (h65 : n ≤ 65535) (hm : most ≤ 268435460) : Calls Try.prog 76 #[.slice A n k, .int .i64 (most : Nat)] w (FsPost (stNx most xs) (stC most xs) w) := by
  have P := hide fun W hW => size11_any A n k xs W hW hx hk h65
  have HR := hide (fun (W : World) (b : Below w.heap.size w W) => hR.keep b)
  have hor := stNx_or most xs
  obtain ⟨T, hT⟩ : ∃ T, atR xs 1 = T := ⟨_, rfl⟩
  have hj : (atR xs 1).2.2 = 0 → (atR xs 1).1 ≤ 268435455 ∧ (atR xs 1).2.1 ≤ 5 := fun h0 => by
    obtain ⟨j, _, h4, _, hk, hl⟩ := atR_putQ xs 1 h0
    omega
  unfold szN11 szE11 at P
  rw [hT] at P hor hj
  obtain ⟨a, b, c⟩ := T
  simp only at P hor hj
  generalize stNx most xs = nx at *
  generalize stC most xs = sc at *
  have Hx := hide hx
  clear hR hT hx
  go_enter Try.func76, Try.ntmps76
  go_upto_region 1 with fail
  generalize hW : w.alloc _ = W
  obtain ⟨g, hg, hB, bW, -⟩ := boxedP (p := zeroP 0) (C := none) (nc := 0) (kc := 0) (S := none) (ns := 0) (ks := 0) hW
  have bw : Below w.heap.size w W := by rw [hg]; exact bW
  have hgw : w.heap.size ≤ g := by omega
  rw [hg]
  have HB := hide hB
  have BW := hide bw
  have P := P.out W (HR.out W bw)
  clear hW hg hB bW bw
  have Hor := hide hor
  have Hj := hide hj
  clear hor hj
  go_wp2_with fail
  refine P.mono ?_
  rintro e w1 ⟨rfl, b1⟩
  have HB := hide (HB.out.keep b1)
  have BW := hide (below_on BW.out b1)
  clear b1 P
  rcases Hor.out with ⟨h0, e1, e2⟩ | ⟨h0, e1⟩ | ⟨h0, hlt, e1, e2⟩ | ⟨h0, hlt, hlx, e1⟩ | ⟨h0, hlt, hlx, hr, e1, e2⟩ | ⟨q, h0, hlt, hlx, hr, e1⟩
  · have Hn := hide e1
    have Hs := hide e2
    subst h0
    clear Hor Hj e1 e2
    go_upto_region 99 with (refine wpList_storeQ rfl 27 (.tmp 4) (.tmp 17) rfl g 27 (zeroP 0) none 0 0 none 0 0 (zeroP 0) none 0 0 none 0 0 rfl rfl HB.out (by kernel_rfl) ?_; intro V2 bV2 BV2)
    refine bodyPost_ret (results_cell_tmp2 rfl rfl bV2 Try.underlying27 rfl (by kernel_rfl)) rfl ?_
    refine ⟨zeroP 0, none, 0, 0, none, 0, 0, 0, _, rfl, zeroM _, NewAt.nil _, NewAt.nil _, But.below BW.out BV2 (fun i e => by omega) BW.out.size, ?_⟩
    rw [Hn.out]
    all_goals exact Hs.out.symm
  · have Hn := hide e1
    subst h0
    clear Hor Hj e1
    go_upto_region 99 with (refine wpList_storeQ rfl 27 (.tmp 4) (.tmp 17) rfl g 27 (zeroP 0) none 0 0 none 0 0 (zeroP 0) none 0 0 none 0 0 rfl rfl HB.out (by kernel_rfl) ?_; intro V2 bV2 BV2)
    refine bodyPost_ret (results_cell_tmp2 rfl rfl bV2 Try.underlying27 rfl (by kernel_rfl)) rfl ?_
    refine ⟨zeroP 0, none, 0, 0, none, 0, 0, 0, _, rfl, zeroM _, NewAt.nil _, NewAt.nil _, But.below BW.out BV2 (fun i e => by omega) BW.out.size, ?_⟩
    rw [Hn.out]
    all_goals exact rfl
  · have Hn := hide e1
    have Hs := hide e2
    subst h0
    have hab := Hj.out rfl
    have q1 : (most : Int) < ((b + a : Nat) : Int) := by omega
    clear Hor Hj e1 e2
    go_upto_region 99 with (refine wpList_storeQ rfl 27 (.tmp 4) (.tmp 22) rfl g 27 (zeroP 0) none 0 0 none 0 0 (zeroP 0) none 0 0 none 0 0 rfl rfl HB.out (by kernel_rfl) ?_; intro V2 bV2 BV2)
    refine bodyPost_ret (results_cell_tmp2 rfl rfl bV2 Try.underlying27 rfl (by kernel_rfl)) rfl ?_
    refine ⟨zeroP 0, none, 0, 0, none, 0, 0, 0, _, rfl, zeroM _, NewAt.nil _, NewAt.nil _, But.below BW.out BV2 (fun i e => by omega) BW.out.size, ?_⟩
    rw [Hn.out]
    all_goals exact Hs.out.symm
  · have Hn := hide e1
    subst h0
    have hab := Hj.out rfl
    have q1 : ¬ (most : Int) < ((b + a : Nat) : Int) := by omega
    have q2 : (n : Int) < ((b + a : Nat) : Int) := by have := Hx.out; omega
    clear Hor Hj e1
    go_upto_region 99 with (refine wpList_storeQ rfl 27 (.tmp 4) (.tmp 27) rfl g 27 (zeroP 0) none 0 0 none 0 0 (zeroP 0) none 0 0 none 0 0 rfl rfl HB.out (by kernel_rfl) ?_; intro V2 bV2 BV2)
    refine bodyPost_ret (results_cell_tmp2 rfl rfl bV2 Try.underlying27 rfl (by kernel_rfl)) rfl ?_
    refine ⟨zeroP 0, none, 0, 0, none, 0, 0, 0, _, rfl, zeroM _, NewAt.nil _, NewAt.nil _, But.below BW.out BV2 (fun i e => by omega) BW.out.size, ?_⟩
    rw [Hn.out]
    all_goals exact rfl
  · have Hn := hide e1
    have Hs := hide e2
    subst h0
    have hab := Hj.out rfl
    obtain ⟨N, hN⟩ : ∃ N, b + a = N := ⟨_, rfl⟩
    rw [hN] at hlt hlx hr
    have hNn : N ≤ n := by have := Hx.out; omega
    have PP := parse_any A N k (xs.take N) w1 ((HR.out w1 BW.out).upto' N hNn) (by rw [List.length_take]; have := Hx.out; omega) (by omega) (by omega)
    rw [hr] at PP
    have PP : Calls Try.prog 16 #[.slice A N k] w1 (fun e w' => e = .returned (.tuple #[pkA (zeroP 0) none 0 0 none 0 0, .int .i64 100]) ∧ Below w1.heap.size w1 w') := PP
    have hsl := fun W => run_slTo (P := Try.prog) 31 5 Try.underlying31 u8_size A n k (N : Int) N rfl (by omega) W
    have q1 : ¬ (most : Int) < (N : Int) := by omega
    have q2 : ¬ (n : Int) < (N : Int) := by omega
    rw [if_pos rfl, hN]
    clear Hor Hj e1 e2 hr hN
    go_wp2_with fail
    refine PP.mono ?_
    rintro e w2 ⟨rfl, b2⟩
    have HB := hide (HB.out.keep b2)
    have BW := hide (below_on BW.out b2)
    clear b2 PP
    go_upto_region 9 with (refine wpList_storeQ rfl 27 (.tmp 9) (.tmp 33) rfl w2.heap.size 27 (zeroP 0) none 0 0 none 0 0 (zeroP 0) none 0 0 none 0 0 rfl rfl (Blk.new w2 27 (pkVs (zeroP 0) none 0 0 none 0 0)) (by kernel_rfl) ?_; intro V bV BV)
    have bWV : Below w2.heap.size w2 V := But.below ((Below.refl _ _).alloc (Nat.le_refl _) _) BV (fun i e => by omega) (by simp)
    have HB := hide (HB.out.keep bWV)
    have BW := hide (below_on BW.out bWV)
    have HV := hide bV
    clear bV BV bWV
    go_upto_region 99 with (first
      | (refine wpList_loadP rfl 27 (.tmp 9) rfl w2.heap.size 27 (zeroP 0) none 0 0 none 0 0 rfl HV.out Try.underlying27 rfl (by kernel_rfl) ?_)
      | (refine wpList_storeQ rfl 27 (.tmp 4) (.tmp 35) rfl g 27 (zeroP 0) none 0 0 none 0 0 (zeroP 0) none 0 0 none 0 0 rfl rfl HB.out (by kernel_rfl) ?_; intro V2 bV2 BV2))
    refine bodyPost_ret (results_cell_tmp2 rfl rfl bV2 Try.underlying27 rfl (by kernel_rfl)) rfl ?_
    refine ⟨zeroP 0, none, 0, 0, none, 0, 0, N, 100, rfl, zeroM _, NewAt.nil _, NewAt.nil _, But.below BW.out BV2 (fun i e => by omega) BW.out.size, ?_⟩
    rw [Hn.out]
    exact Hs.out.symm
  · have Hn := hide e1
    subst h0
    have hab := Hj.out rfl
    obtain ⟨N, hN⟩ : ∃ N, b + a = N := ⟨_, rfl⟩
    rw [hN] at hlt hlx hr Hn
    have hNn : N ≤ n := by have := Hx.out; omega
    have PP := parse_any A N k (xs.take N) w1 ((HR.out w1 BW.out).upto' N hNn) (by rw [List.length_take]; have := Hx.out; omega) (by omega) (by omega)
    rw [hr] at PP
    have PP : Calls Try.prog 16 #[.slice A N k] w1 (fun e w' => ∃ C nc kc S ns ks, e = .returned (.tuple #[pkA q C nc kc S ns ks, .int .i64 0]) ∧ NewAt w1 C ∧ NewAt w1 S ∧ PkM w' q C nc kc S ns ks ∧ Below w1.heap.size w1 w') := PP
    have hsl := fun W => run_slTo (P := Try.prog) 31 5 Try.underlying31 u8_size A n k (N : Int) N rfl (by omega) W
    have q1 : ¬ (most : Int) < (N : Int) := by omega
    have q2 : ¬ (n : Int) < (N : Int) := by omega
    rw [if_pos rfl, hN]
    clear Hor Hj e1 hr hN
    go_wp2_with fail
    refine PP.mono ?_
    rintro e w2 ⟨C, nc, kc, S, ns, ks, rfl, hNC, hNS, hM, b2⟩
    have HC := hide (show Off (fun j => j = g) C from fun b o e h => by have h1 := hNC b o e; have h2 := HB.out.lt; have h3 : b = g := h; omega)
    have HSS := hide (show Off (fun j => j = g) S from fun b o e h => by have h1 := hNS b o e; have h2 := HB.out.lt; have h3 : b = g := h; omega)
    have HN := hide (And.intro (hNC.old BW.out.size) (hNS.old BW.out.size) : NewAt w C ∧ NewAt w S)
    have HB := hide (HB.out.keep b2)
    have BW := hide (below_on BW.out b2)
    have HM := hide hM
    clear b2 PP hM hNC hNS
    go_upto_region 9 with (refine wpList_storeQ rfl 27 (.tmp 9) (.tmp 33) rfl w2.heap.size 27 (zeroP 0) none 0 0 none 0 0 q C nc kc S ns ks rfl rfl (Blk.new w2 27 (pkVs (zeroP 0) none 0 0 none 0 0)) (by kernel_rfl) ?_; intro V bV BV)
    have bWV : Below w2.heap.size w2 V := But.below ((Below.refl _ _).alloc (Nat.le_refl _) _) BV (fun i e => by omega) (by simp)
    have HB := hide (HB.out.keep bWV)
    have BW := hide (below_on BW.out bWV)
    have HM := hide (HM.out.keep bWV)
    have HV := hide bV
    clear bV BV bWV
    go_upto_region 99 with (first
      | (refine wpList_loadP rfl 27 (.tmp 9) rfl w2.heap.size 27 q C nc kc S ns ks rfl HV.out Try.underlying27 rfl (by kernel_rfl) ?_)
      | (refine wpList_storeQ rfl 27 (.tmp 4) (.tmp 35) rfl g 27 (zeroP 0) none 0 0 none 0 0 q C nc kc S ns ks rfl rfl HB.out (by kernel_rfl) ?_; intro V2 bV2 BV2))
    refine bodyPost_ret (results_cell_tmp2 rfl rfl bV2 Try.underlying27 rfl (by kernel_rfl)) rfl ?_
    obtain ⟨m1, m2, m3, m4, m5, m6⟩ := HM.out
    refine ⟨q, C, nc, kc, S, ns, ks, N, 0, rfl, ⟨m1, m2, m3.but BV2 HC.out, m4, m5, m6.but BV2 HSS.out⟩, HN.out.1, HN.out.2, But.below BW.out BV2 (fun i e => by omega) BW.out.size, ?_⟩
    rw [Hn.out]
    exact ⟨rfl, rfl, rfl⟩

end Go.Proofs.Ytdlhcecmodefkaa
