/-
  What is proved here: what the document's own All of layer 11 returns: the packets of all bytes, how many bytes are in none, and what broke them. Condition: at most 65535 bytes. ALSO: the law StreamFeeds returns true for every number and all rows of bytes, and writes nothing that was there. No condition but the form's own reach.
-/
import Derived.Test.YtdlhcecmodefkaaStMath
import Derived.Test.YtdlhcecmodefkaaPk17
import Derived.Deep.DeepCutAuto
namespace Go.Proofs.Ytdlhcecmodefkaa
set_option linter.unusedVariables false
set_option linter.unusedSimpArgs false
open Go.RowKit

/-- What All answers. -/
def RetAll11 (most : Nat) (xs : List UInt8) (w : World) (e : Ending) (w' : World) : Prop :=
  ∃ O ok rs, e = .returned (.tuple #[.slice O rs.length ok, .int .i64 ((lfP most xs).length : Nat), .int .i64 (erP most xs)]) ∧ rs.map PkRow.p = toP most xs ∧ PRd w' O rs ∧ NewAt w O ∧ (∀ r ∈ rs, r.new w) ∧ rs.length ≤ ok ∧ Below w.heap.size w w'

set_option maxRecDepth 100000 in
set_option maxHeartbeats 4000000 in
theorem all11_any (most : Nat) (hm : most ≤ 268435460) (C : Option Addr) (n c : Nat) (xs : List UInt8) (w : World) (hr : Rd w C n (bv xs)) (hc : n ≤ c) (hn : n ≤ 65535) :
    Calls Try.prog 24 #[.int .i64 (most : Nat), .slice C n c] w (RetAll11 most xs w) := by
  go_enter Try.func24, Try.ntmps24
  go_wp2
  go_loopw [1, 7] (fun v tv wr => ∃ D dn dk ys O ok rs, v = .slice D dn dk ∧ tv = .slice O (List.length rs) ok ∧ CutSt11 most C n c xs w D dn dk ys O ok rs wr) (fun v _ _ => slLen11 v)
  case atStart => exact ⟨C, n, c, xs, none, 0, [], rfl, rfl, ⟨hc, hr, InB11.refl _, rfl, rfl, by simp, World.ownsRow_nil _ _ _ _, by simp, fun _ => ⟨rfl, rfl, rfl⟩, Below.refl _ _⟩⟩
  case round =>
    obtain ⟨D, dn, dk, ys, O, ok, rs, rfl, rfl, st⟩ := hrel
    have hl := st.len
    have hcap := st.cap
    have hfew := st.few
    have St := hide st
    clear hr st
    by_cases h0 : dn = 0
    · subst h0
      have hy : ys = [] := List.eq_nil_of_length_eq_zero hl
      subst hy
      obtain ⟨f1, f2, f3, f4⟩ := St.out.wait (stCuts most).nil
      have F1 := hide f1
      have F2 := hide f2
      have F3 := hide f3
      have Hl := hide hl
      clear f1 f2 f3 f4 hl
      go_wp2_with fail
      go_ret3
      refine ⟨O, ok, rs, ?_, F1.out, St.out.prd (Below.refl _ _), St.out.new, fun r hr => (St.out.rows r hr).2.1, ownS_cap St.out.own, below_on St.out.bel (Below.refl _ _)⟩
      rw [F2.out, F3.out, Hl.out]
      rfl
    have q0 : (0 : Int) < (dn : Int) := by omega
    have PA := rvAt_any D dn dk 1 ys wr (St.out.rd.keep St.out.bel) (by unfold maxLen; omega) hl (by omega)
    have hor := stNx_or most ys
    have hj : (atR ys 1).2.2 = 0 → (atR ys 1).1 ≤ 268435455 ∧ (atR ys 1).2.1 ≤ 5 := fun h0 => by
      obtain ⟨j, _, h4, _, hk, hl⟩ := atR_putQ ys 1 h0
      omega
    obtain ⟨T, hT⟩ : ∃ T, atR ys 1 = T := ⟨_, rfl⟩
    rw [hT] at PA hor hj
    obtain ⟨a, b, e⟩ := T
    simp only at PA hor hj
    clear hT h0
    have Hl := hide hl
    rcases hor with ⟨h0, e1, e2⟩ | ⟨h0, e1⟩ | ⟨h0, hlt, e1, e2⟩ | ⟨h0, hlt, hlx, e1⟩ | ⟨h0, hlt, hlx, hr, e1, e2⟩ | ⟨p, h0, hlt, hlx, hr, e1⟩
    · subst h0
      obtain ⟨f1, f2, f3, f4⟩ := St.out.bad e1
      rw [e2] at f3
      have F1 := hide f1
      have F2 := hide f2
      have F3 := hide f3
      clear f1 f2 f3 f4 hl e1 e2 hj
      go_wp2_with fail
      refine PA.mono ?_
      rintro e w1 ⟨rfl, qn, rfl⟩
      have B1 : Below wr.heap.size wr (wr.drewN qn) := below_drewN (Below.refl _ _) qn
      clear PA
      go_wp2_with fail
      go_ret3
      refine ⟨O, ok, rs, ?_, F1.out, St.out.prd B1, St.out.new, fun r hr => (St.out.rows r hr).2.1, ownS_cap St.out.own, below_on St.out.bel B1⟩
      rw [F2.out, F3.out]
      rfl
    · subst h0
      obtain ⟨f1, f2, f3, f4⟩ := St.out.wait e1
      have F1 := hide f1
      have F2 := hide f2
      have F3 := hide f3
      clear f1 f2 f3 f4 hl e1 hj
      go_wp2_with fail
      refine PA.mono ?_
      rintro e w1 ⟨rfl, qn, rfl⟩
      have B1 : Below wr.heap.size wr (wr.drewN qn) := below_drewN (Below.refl _ _) qn
      clear PA
      go_wp2_with fail
      go_ret3
      refine ⟨O, ok, rs, ?_, F1.out, St.out.prd B1, St.out.new, fun r hr => (St.out.rows r hr).2.1, ownS_cap St.out.own, below_on St.out.bel B1⟩
      rw [F2.out, F3.out, Hl.out]
      rfl
    · subst h0
      have hab := hj rfl
      obtain ⟨N, hN⟩ : ∃ N, b + a = N := ⟨_, rfl⟩
      rw [hN] at hlt
      have v1 : IntKind.i64.wrap ((b : Int) + (a : Int)) = (N : Int) := by rw [IntKind.wrap_i64]; omega
      have q1 : (most : Int) < (N : Int) := by omega
      obtain ⟨f1, f2, f3, f4⟩ := St.out.bad e1
      rw [e2] at f3
      have F1 := hide f1
      have F2 := hide f2
      have F3 := hide f3
      clear f1 f2 f3 f4 hl e1 e2 hj hN
      go_wp2_with fail
      refine PA.mono ?_
      rintro e w1 ⟨rfl, qn, rfl⟩
      have B1 : Below wr.heap.size wr (wr.drewN qn) := below_drewN (Below.refl _ _) qn
      clear PA
      go_wp2_with fail
      go_ret3
      refine ⟨O, ok, rs, ?_, F1.out, St.out.prd B1, St.out.new, fun r hr => (St.out.rows r hr).2.1, ownS_cap St.out.own, below_on St.out.bel B1⟩
      rw [F2.out, F3.out]
      rfl
    · subst h0
      have hab := hj rfl
      obtain ⟨N, hN⟩ : ∃ N, b + a = N := ⟨_, rfl⟩
      rw [hN] at hlt hlx
      have v1 : IntKind.i64.wrap ((b : Int) + (a : Int)) = (N : Int) := by rw [IntKind.wrap_i64]; omega
      have q1 : ¬ (most : Int) < (N : Int) := by omega
      have q2 : (dn : Int) < (N : Int) := by omega
      obtain ⟨f1, f2, f3, f4⟩ := St.out.wait e1
      have F1 := hide f1
      have F2 := hide f2
      have F3 := hide f3
      clear f1 f2 f3 f4 hl e1 hj hN
      go_wp2_with fail
      refine PA.mono ?_
      rintro e w1 ⟨rfl, qn, rfl⟩
      have B1 : Below wr.heap.size wr (wr.drewN qn) := below_drewN (Below.refl _ _) qn
      clear PA
      go_wp2_with fail
      go_ret3
      refine ⟨O, ok, rs, ?_, F1.out, St.out.prd B1, St.out.new, fun r hr => (St.out.rows r hr).2.1, ownS_cap St.out.own, below_on St.out.bel B1⟩
      rw [F2.out, F3.out, Hl.out]
      rfl
    · subst h0
      have hab := hj rfl
      obtain ⟨N, hN⟩ : ∃ N, b + a = N := ⟨_, rfl⟩
      rw [hN] at hlt hlx hr
      have v1 : IntKind.i64.wrap ((b : Int) + (a : Int)) = (N : Int) := by rw [IntKind.wrap_i64]; omega
      have q1 : ¬ (most : Int) < (N : Int) := by omega
      have q2 : ¬ (dn : Int) < (N : Int) := by omega
      have hNd : N ≤ dn := by omega
      have hsl := fun W => run_slTo (P := Try.prog) 31 5 Try.underlying31 u8_size D dn dk (N : Int) N rfl (by omega) W
      have PP := fun (W : World) (hb : Below w.heap.size w W) => rparse_any D N dk (ys.take N) W ((St.out.rd.keep hb).upto' N hNd) (by rw [List.length_take]; omega) (by omega) (by omega)
      rw [hr] at PP
      have PP := hide (show ∀ (W : World), Below w.heap.size w W → Calls Try.prog 17 #[.slice D N dk] W fun e w' => e = .returned (.tuple #[pkA (zeroP 0) none 0 0 none 0 0, .bool false]) ∧ Below W.heap.size W w' from PP)
      obtain ⟨f1, f2, f3, f4⟩ := St.out.bad e1
      rw [e2] at f3
      have F1 := hide f1
      have F2 := hide f2
      have F3 := hide f3
      clear f1 f2 f3 f4 hl e1 e2 hj hN hr
      go_wp2_with fail
      refine PA.mono ?_
      rintro e w1 ⟨rfl, qn, rfl⟩
      have B1 : Below wr.heap.size wr (wr.drewN qn) := below_drewN (Below.refl _ _) qn
      clear PA
      go_wp2_with fail
      refine (PP.out _ (below_on St.out.bel B1)).mono ?_
      rintro e w2 ⟨rfl, b2⟩
      have B1 := below_on B1 b2
      clear b2 PP
      go_upto_region 11 with (refine wpList_storeQ rfl 27 (.tmp 11) (.tmp 46) rfl w2.heap.size 27 (zeroP 0) none 0 0 none 0 0 (zeroP 0) none 0 0 none 0 0 rfl rfl (Blk.new w2 27 (pkVs (zeroP 0) none 0 0 none 0 0)) (by kernel_rfl) ?_; intro V bV BV)
      have bWV : Below w2.heap.size w2 V := But.below ((Below.refl _ _).alloc (Nat.le_refl _) _) BV (fun i e => by omega) (by simp)
      have B1 := below_on B1 bWV
      clear bV BV bWV
      go_wp2_with fail
      go_ret3
      refine ⟨O, ok, rs, ?_, F1.out, St.out.prd B1, St.out.new, fun r hr => (St.out.rows r hr).2.1, ownS_cap St.out.own, below_on St.out.bel B1⟩
      rw [F2.out, F3.out]
      rfl
    · subst h0
      have hab := hj rfl
      obtain ⟨N, hN⟩ : ∃ N, b + a = N := ⟨_, rfl⟩
      rw [hN] at hlt hlx hr e1
      have v1 : IntKind.i64.wrap ((b : Int) + (a : Int)) = (N : Int) := by rw [IntKind.wrap_i64]; omega
      have q1 : ¬ (most : Int) < (N : Int) := by omega
      have q2 : ¬ (dn : Int) < (N : Int) := by omega
      have hNd : N ≤ dn := by omega
      have hN0 : 0 < N := ((stCuts most).pos _ _ _ e1).1
      have hsl := fun W => run_slTo (P := Try.prog) 31 5 Try.underlying31 u8_size D dn dk (N : Int) N rfl (by omega) W
      have hsl2 := fun W => run_slTail (P := Try.prog) 31 5 Try.underlying31 u8_size D dn dk (N : Int) N rfl (by omega) W
      have PP := fun (W : World) (hb : Below w.heap.size w W) => rparse_any D N dk (ys.take N) W ((St.out.rd.keep hb).upto' N hNd) (by rw [List.length_take]; omega) (by omega) (by omega)
      rw [hr] at PP
      have PP := hide (show ∀ (W : World), Below w.heap.size w W → Calls Try.prog 17 #[.slice D N dk] W fun e w' => ∃ C nc kc S ns ks, e = .returned (.tuple #[pkA p C nc kc S ns ks, .bool true]) ∧ NewAt W C ∧ NewAt W S ∧ PkM w' p C nc kc S ns ks ∧ Below W.heap.size W w' from PP)
      have HN := hide e1
      clear hl e1 hj hN hr
      go_wp2_with fail
      refine PA.mono ?_
      rintro e w1 ⟨rfl, qn, rfl⟩
      have B1 : Below wr.heap.size wr (wr.drewN qn) := below_drewN (Below.refl _ _) qn
      clear PA
      go_wp2_with fail
      refine (PP.out _ (below_on St.out.bel B1)).mono ?_
      rintro e w2 ⟨C1, nc, kc, S1, ns, ks, rfl, hNC, hNS, hM, b2⟩
      have hB1 := B1.size
      have HNN := hide (And.intro (hNC.old hB1) (hNS.old hB1) : NewAt wr C1 ∧ NewAt wr S1)
      have B1 := hide (below_on B1 b2)
      have HM := hide hM
      clear b2 PP hNC hNS hM
      go_upto_region 11 with (refine wpList_storeQ rfl 27 (.tmp 11) (.tmp 46) rfl w2.heap.size 27 (zeroP 0) none 0 0 none 0 0 p C1 nc kc S1 ns ks rfl rfl (Blk.new w2 27 (pkVs (zeroP 0) none 0 0 none 0 0)) (by kernel_rfl) ?_; intro V bV BV)
      have bWV : Below w2.heap.size w2 V := But.below ((Below.refl _ _).alloc (Nat.le_refl _) _) BV (fun i e => by omega) (by simp)
      have B1 := hide (below_on B1.out bWV)
      have HM := hide (HM.out.keep bWV)
      have HV := hide bV
      obtain ⟨h, hh⟩ : ∃ h, w2.heap.size = h := ⟨_, rfl⟩
      rw [hh] at HV ⊢
      clear bV BV bWV hh
      have O2 := hide (ownS_keep St.out.own B1.out)
      have HS := hide (fun w3 b3 hr3 hrn O' ok' w' => St.out.step ⟨p, C1, nc, kc, S1, ns, ks⟩ N HN.out w3 b3 hr3 hrn O' ok' w')
      have hbw : w.heap.size ≤ V.heap.size := Nat.le_trans St.out.bel.size B1.out.size
      have hrs : rs.length ≤ 65535 := by omega
      go_wp2_with (first
        | (refine wpList_loadP rfl 27 (.tmp 11) rfl h 27 p C1 nc kc S1 ns ks rfl HV.out Try.underlying27 rfl (by kernel_rfl) ?_)
        | (refine wpList_bs1 rfl 46 27 (.tmp 52) rfl Try.underlying46 18 (by omega) (by omega) (by kernel_rfl) (arr (PkRow.vs ⟨p, C1, nc, kc, S1, ns, ks⟩)) rfl rfl ?_)
        | (at_builtin; refine wpList_appS rfl (.tmp 51) (.tmp 53) 46 rfl 27 _ 18 200 Try.underlying46 pkt_info rfl (by omega) w.heap.size O rs.length ok (prVs rs) rfl (ownS_keep O2.out ((Below.refl _ _).alloc (Nat.le_refl _) _)) _ 1 1 (PkRow.vs ⟨p, C1, nc, kc, S1, ns, ks⟩) rfl ((Blk.new V 27 (PkRow.vs ⟨p, C1, nc, kc, S1, ns, ks⟩)).rd) (PkRow.one _) (by unfold maxLen; omega) (by omega) (Nat.le_trans hbw (by simp)) ?_; intro A4 c4 w4 o4 b4 h4))
      have bal : Below wr.heap.size wr (V.alloc (.cells (arr (PkRow.vs ⟨p, C1, nc, kc, S1, ns, ks⟩)) 27)) := below_on B1.out ((Below.refl _ _).alloc (Nat.le_refl _) _)
      have st4 := HS.out _ bal (PkM.keep HM.out ((Below.refl _ _).alloc (Nat.le_refl _) _)) HNN.out A4 c4 w4 o4 b4 h4
      exact ⟨⟨_, _, _, _, _, _, _, rfl, by rw [List.length_append]; rfl, st4⟩, by simp only [slLen11]; omega⟩

end Go.Proofs.Ytdlhcecmodefkaa

namespace Go.Proofs.Ytdlhcecmodefkaa
set_option linter.unusedVariables false
set_option linter.unusedSimpArgs false
open Go.RowKit

theorem both_own11 (A B : Option Addr) (n m c d : Nat) (xs ys : List UInt8) (w : World) (h1 : Rd w A n (bv xs)) (h2 : Rd w B m (bv ys)) (hn : n ≤ 200000) (hm : m ≤ 200000) :
    Calls Try.prog 23 #[.slice A n c, .slice B m d] w (RetOwn 5 (n + m) (bv (xs ++ ys)) w) := by
  go_enter Try.func23, Try.ntmps23
  go_wp2_with (first
    | (at_builtin; refine wpList_app rfl (.tmp 6) (.tmp 7) 31 rfl 5 _ _ Try.underlying31 u8_info rfl w.heap.size none 0 0 [] rfl (World.ownsRow_nil _ _ _ _) A n c (bv xs) rfl h1 (bv_one _) (by unfold maxLen; omega) (by omega) (Nat.le_refl _) ?_; intro A1 c1 w1 o1 g1 b1; rw [Nat.zero_add, List.nil_append] at o1)
    | (at_builtin; refine wpList_app rfl (.tmp 9) (.tmp 10) 31 rfl 5 _ _ Try.underlying31 u8_info rfl w.heap.size A1 n c1 (bv xs) rfl o1 B m d (bv ys) rfl (h2.keep b1) (bv_one _) (by unfold maxLen; omega) (by omega) b1.size ?_; intro A2 c2 w2 o2 g2 b2; rw [← bv_append] at o2))
  go_ret
  exact ⟨A2, c2, rfl, o2, b1.trans b2⟩
/-- Where x[lo:] begins, an element of s cells. -/
def cutA11 (s : Nat) (A : Option Addr) (lo c : Nat) : Option Addr := if c = lo then A else A.map fun a => a.add (lo * s)
theorem run_slTail11 {P : Program} (t e : TypeId) (s : Nat) (ht : P.underlying t = some (.slice e)) (hs : (P.info? e).map (·.size) = some s) (A : Option Addr) (l c : Nat) (lo : Int) (lo' : Nat) (elo : lo = lo') (h1 : lo' ≤ l) (w : World) :
    (Instr.slice t (.slice A l c) (some (.int .i64 lo)) none none).run P w = .ok (.slice (cutA11 s A lo' c) (l - lo') (c - lo')) w := by
  subst elo
  obtain ⟨i, hi, hsz⟩ := Option.map_eq_some_iff.1 hs
  have a1 : (lo' : Int) ≤ (l : Int) := by omega
  simp [Instr.slice, run_underlying ht, Instr.sliceBounds, run_sliceBound, sizeOf, typeInfo, hi, hsz, cutA11, a1]
theorem prVs_drop : ∀ (rs : List PkRow) (lo : Nat), (prVs rs).drop (lo * 18) = prVs (rs.drop lo)
  | rs, 0 => by simp
  | [], lo + 1 => by simp [prVs]
  | r :: rs, lo + 1 => by
    rw [show (lo + 1) * 18 = 18 + lo * 18 by omega, ← List.drop_drop]
    show ((r.vs ++ prVs rs).drop 18).drop (lo * 18) = prVs (rs.drop lo)
    rw [show (r.vs ++ prVs rs).drop 18 = prVs rs from rfl]
    exact prVs_drop rs lo
theorem PRd.tail {w : World} {O : Option Addr} {rs : List PkRow} (h : PRd w O rs) (lo c : Nat) (hn : lo ≤ rs.length) (hc : rs.length ≤ c) : PRd w (cutA11 18 O lo c) (rs.drop lo) := by
  refine ⟨?_, fun r hr => h.2 r (List.mem_of_mem_drop hr)⟩
  refine ⟨by rw [prVs_len], fun h0 => ?_⟩
  rw [List.length_drop] at h0
  obtain ⟨b, o, rfl, hb, hc2⟩ := h.1.at_ (k := 0) (by omega)
  unfold cutA11
  rw [if_neg (by omega), Option.map_some, add_at]
  refine ⟨b, o + lo * 18, rfl, hb, fun i v hv => ?_⟩
  rw [← prVs_drop, List.getElem?_drop] at hv
  rw [Nat.add_assoc]
  exact hc2 _ _ hv
/-- What it is broken by. -/
def bfP (most : Nat) (xs : List UInt8) : Option Int := if brP most xs then some (erP most xs) else none
theorem bf_parts (most : Nat) (X ys : List UInt8) (h : brP most X = false) : bfP most (X ++ ys) = fdF11 most (lfP most X) none ys := by
  have hc := cutAll_parts (stCuts most) X ys
  have hb' : (cutAll (stNx most) X).2.2 = false := h
  have e0 : lfP most X = (cutAll (stNx most) X).2.1 := by unfold lfP; rw [h]; rfl
  rw [hb', ← e0] at hc
  simp only [Bool.false_eq_true, if_false] at hc
  have e1 : brP most (X ++ ys) = brP most (lfP most X ++ ys) := by unfold brP; rw [hc]
  have e2 : erP most (X ++ ys) = erP most (lfP most X ++ ys) := by unfold erP; rw [e1, hc]
  unfold bfP fdF11
  rw [e1, e2]

/-- What the law's loop keeps. -/
structure FS11 (most : Nat) (w : World) (g : Nat) (X : List UInt8) (C : Option Addr) (kC : Nat) (A : Option Addr) (k : Nat) (wr : World) : Prop where
  rd : Rd wr C X.length (bv X)
  cap : X.length ≤ kC
  clt : ∀ b o, C = some ⟨b, o, none⟩ → b < wr.heap.size ∧ b ≠ g ∧ ¬ SoB A b
  st : StA11 wr g most A k (lfP most X) (bfP most X)
  few : X.length ≤ 5000
  bel : Below w.heap.size w wr
  gnew : w.heap.size ≤ g
  anew : ∀ i, SoB A i → w.heap.size ≤ i

theorem own_emptyB11 (w : World) : (w.alloc (.cells #[] 5)).ownsRow w.heap.size 5 1 (.slice (some ⟨w.heap.size, 0, none⟩) 0 0) 0 [] := (Blk.new w 5 []).own (Nat.le_refl _) 0 rfl (by decide)
theorem pkt_size11 : (Try.prog.info? 27).map (·.size) = some 18 := by kernel_rfl

set_option maxHeartbeats 4000000 in
set_option maxRecDepth 100000 in
theorem feeds11_walk (most_ : Int) (B : Option Addr) (len cap : Nat) (rs : List RowE) (w : World) (hB : RRd w B len rs) (hlm : len ≤ maxLen) (hz : ∀ x ∈ rs, x.xs.length ≤ x.k ∧ x.xs.length ≤ reachBytes) :
    Calls Try.prog 5 #[.int .i64 most_, .slice B len cap] w fun e w' => e = .returned (.bool true) ∧ Below w.heap.size w w' := by
  have HB := hide hB
  have HL := hide hB.len
  have HZ := hide hz
  clear hB hz
  by_cases h200 : 200 < len
  · have q : (200 : Int) < (len : Int) := by omega
    go_enter Try.func5, Try.ntmps5
    go_wp2
    go_ret
    exact ⟨rfl, Below.refl _ _⟩
  have q200 : ¬ (200 : Int) < (len : Int) := by omega
  by_cases hm : most_ < 2 ∨ 268435460 < most_
  · have PN := fun W => new11_no most_ W hm
    rcases hm with hm | hm
    · go_enter Try.func5, Try.ntmps5
      go_wp2_with fail
      refine (PN w).mono ?_
      rintro e w1 ⟨rfl, rfl⟩
      clear PN
      go_wp2_with fail
      refine (awake11_any _).mono ?_
      rintro e w1 ⟨rfl, b1⟩
      go_wp2_with fail
      go_ret
      exact ⟨rfl, b1⟩
    · have hm2 : ¬ most_ < 2 := by omega
      go_enter Try.func5, Try.ntmps5
      go_wp2_with fail
      refine (PN w).mono ?_
      rintro e w1 ⟨rfl, rfl⟩
      clear PN
      go_wp2_with fail
      refine (awake11_any _).mono ?_
      rintro e w1 ⟨rfl, b1⟩
      go_wp2_with fail
      go_ret
      exact ⟨rfl, b1⟩
  obtain ⟨most, rfl⟩ := Int.eq_ofNat_of_zero_le (show 0 ≤ most_ by omega)
  have hmo : most ≤ 268435460 := by omega
  have qm1 : ¬ (most : Int) < 2 := by omega
  have qm2 : ¬ (268435460 : Int) < (most : Int) := by omega
  have PN := new11_any most w (by omega)
  clear hm
  go_enter Try.func5, Try.ntmps5
  go_wp2_with fail
  refine PN.mono ?_
  rintro e w1 ⟨g, rfl, hg, s1, b1⟩
  have S1 := hide s1
  have B1 := hide b1
  have hg1 := s1.str.lt
  clear s1 b1 PN
  go_wp2_with fail
  go_loopw [7, 8, 9, 10] (fun av tv bv_ iv_ wr => ∃ (X : List UInt8) (C : Option Addr) (kC : Nat) (A : Option Addr) (k i : Nat), i ≤ len ∧ av = .slice C X.length kC ∧ tv = .int .i64 ((toP most X).length : Nat) ∧ bv_ = .int .i64 (erP most X) ∧ iv_ = .int .i64 (i : Int) ∧ FS11 most w g X C kC A k wr) (fun _ _ _ iv_ _ => len - (intOf iv_).toNat)
  case atStart =>
    have hc : cutAll (stNx most) [] = ([], [], false) := cutAll_wait _ (stCuts most) (stCuts most).nil
    have e1 : lfP most [] = [] := by unfold lfP brP; rw [hc]; rfl
    have e2 : bfP most [] = none := by unfold bfP brP; rw [hc]; rfl
    have e3 : erP most [] = 0 := by unfold erP brP; rw [hc]; rfl
    have e4 : toP most [] = [] := by unfold toP; rw [hc]
    exact ⟨[], none, 0, none, 0, 0, Nat.zero_le _, rfl, by rw [e4]; rfl, by rw [e3], rfl, ⟨Rd.nil _ _, Nat.le_refl _, (fun _ _ e => by cases e), by rw [e1, e2]; exact S1.out, by simp, B1.out, hg, fun i ⟨o, e⟩ => by cases e⟩⟩
  case round =>
    obtain ⟨X, C, kC, A, k, i, hi, rfl, rfl, rfl, rfl, fs⟩ := hrel
    have Fs := hide fs
    have hgr := fs.st.str.lt
    by_cases hlt : i < len
    · obtain ⟨b, o, r, rfl, hbl, hr, hc, hir⟩ := HB.out.at_ hlt
      have hfx := fs.few
      have hrk := (HZ.out r (List.mem_of_getElem? hr)).1
      obtain ⟨rA, rk, ys⟩ := r
      simp only [RowE.v, RowE.is] at hc hir
      simp only at hrk
      have HI := hide hir
      have HC := hide hc
      have hc1 := (fs.bel.cell (p := ⟨b, o + i, none⟩) hbl).trans hc
      have hblr : b < wr.heap.size := Nat.lt_of_lt_of_le hbl fs.bel.size
      have q1 : (i : Int) < (len : Int) := by omega
      clear fs hr hir
      obtain ⟨m, hm⟩ : ∃ m, ys.length = m := ⟨_, rfl⟩
      have Hm := hide hm
      rw [hm] at HI HC hrk hc1
      clear hm hc
      by_cases h1000 : 1000 < m
      · have q2 : (1000 : Int) < (m : Int) := by omega
        go_wp2_with fail
        go_ret
        exact ⟨rfl, Fs.out.bel⟩
      have q2 : ¬ (1000 : Int) < (m : Int) := by omega
      by_cases h4000 : 4000 < X.length
      · have q3 : (4000 : Int) < (X.length : Int) := by omega
        go_wp2_with fail
        go_ret
        exact ⟨rfl, Fs.out.bel⟩
      have q3 : ¬ (4000 : Int) < (X.length : Int) := by omega
      go_upto_region 17 with (at_builtin; refine wpList_app rfl (.tmp 64) (.tmp 68) 31 rfl 5 _ _ Try.underlying31 u8_info rfl wr.heap.size (some ⟨wr.heap.size, 0, none⟩) 0 0 [] rfl (own_emptyB11 wr) rA m rk (bv ys) rfl ((HI.out.keep Fs.out.bel).keep ((Below.refl _ _).alloc (Nat.le_refl _) _)) (bv_one _) (by unfold maxLen; omega) (by omega) (by simp) ?_; intro A8 c8 w2 o2 g2 b2; rw [Nat.zero_add, List.nil_append] at o2; have O8 := hide o2; have B8 := hide (((Below.refl _ _).alloc (Nat.le_refl _) _).trans b2 : Below wr.heap.size wr w2); clear o2 g2 b2)
      have S2 := hide (Fs.out.st.keep B8.out)
      have n8 := own_newAt O8.out
      have l8 := own_lt O8.out
      have hlf := lfP_len most X
      have hz2 := B8.out.size
      have hwz := Fs.out.bel.size
      have HAw : Hid (∀ i, SoB A i → w.heap.size ≤ i ∧ i < wr.heap.size) := hide fun i ⟨o, e⟩ => ⟨Fs.out.anew i ⟨o, e⟩, own_lt Fs.out.st.own i o e⟩
      have Hgn := hide Fs.out.gnew
      go_wp2_with fail
      refine (feed11_any g most hmo A k (lfP most X) (bfP most X) A8 m c8 ys w2 S2.out (own_rd O8.out) (by omega)).mono ?_
      rintro e w3 ⟨O, ok, ns, A', k', rfl, t3, r3, n3, m3, s3, a3, -, -, b3⟩
      have hz3 := b3.size
      have S3 := hide s3
      have T3 := hide t3
      have R3 := hide r3
      have B3 := hide (But.below (below_on Fs.out.bel B8.out) b3 (fun i e => by
        rcases e with e | e
        · have := Hgn.out; omega
        · exact (HAw.out i e).1) (below_on Fs.out.bel B8.out).size)
      have RC3 := hide ((Fs.out.rd.keep B8.out).but b3 (fun x o' e hx => by
        have h1 := Fs.out.clt x o' e
        rcases hx with hx | hx
        · exact h1.2.1 hx
        · exact h1.2.2 hx))
      have off8 : Off (fun i => i = g ∨ SoB A i) A8 := fun x o' e hx => by
        have := n8 x o' e
        rcases hx with hx | hx
        · omega
        · have := (HAw.out x hx).2; omega
      have R8 := hide ((own_rd O8.out).but b3 off8)
      have O3 := hide (own_but O8.out b3 off8)
      have aA : ∀ x o', A' = some ⟨x, o', none⟩ → ∀ o'', A8 ≠ some ⟨x, o'', none⟩ := by
        intro x o' e o'' e'
        rcases a3 with rfl | a3
        · have := (HAw.out x ⟨o', e⟩).2
          have := n8 x o'' e'
          omega
        · have := a3 x o' e
          have := l8 x o'' e'
          omega
      have HAn : Hid (∀ i, SoB A' i → w.heap.size ≤ i) := hide fun i ⟨o', e⟩ => by
        rcases a3 with rfl | a3
        · exact (HAw.out i ⟨o', e⟩).1
        · have := a3 i o' e; omega
      have HAl : Hid (∀ i, SoB A' i → i < w3.heap.size) := hide fun i ⟨o', e⟩ => own_lt s3.own i o' e
      have HCA : Hid (∀ x o', C = some ⟨x, o', none⟩ → ¬ SoB A' x) := hide fun x o' e hx => by
        have h1 := Fs.out.clt x o' e
        rcases a3 with rfl | a3
        · exact h1.2.2 hx
        · obtain ⟨o2, e2⟩ := hx
          have := a3 x o2 e2
          omega
      have cw : ∀ v, v = w3.drew → v.cell? ⟨b, o + i, none⟩ = some (.slice rA m rk) := by rintro v rfl; exact (B3.out.cell (p := ⟨b, o + i, none⟩) hbl).trans HC.out
      have bD : Below w3.heap.size w3 w3.drew := (Below.refl _ _).drew
      have d1 := fun c => rdStr (R8.out.keep bD) c
      have d2 := fun c => rdStr (HI.out.keep (below_on B3.out bD)) c
      clear t3 r3 n3 m3 s3 b3 a3 off8
      go_wp2_with fail
      refine wp_region_held_drew (S := fun w' => w' = w3.drew) (by kernel_rfl) ?_ (fun hHeld => ?_)
      · rfl
      refine wpAnyH_take (i := 0) (oi := { dst := some 76, op := _, type := _, pos := _, after := _, guard := _ }) (v := ?v1x1) rfl (by kernel_rfl) (by kernel_rfl) (by kernel_rfl) (fun _ _ _ h => h) (Or.inl ⟨by rfl, ?hy1x1⟩) hHeld ?rest1x1
      case hy1x1 => (intro w hSw; go_simp <;> with_reducible rfl)
      try simp only [Act.put, List.setIfInBounds_toArray, List.set_cons_zero, List.set_cons_succ]
      refine wpAnyH_take (i := 1) (oi := { dst := some 77, op := _, type := _, pos := _, after := _, guard := _ }) (v := ?v1x2) rfl (by kernel_rfl) (by kernel_rfl) (by kernel_rfl) (fun _ _ _ h => h) (Or.inl ⟨by rfl, ?hy1x2⟩) hHeld ?rest1x2
      case hy1x2 => (intro w hSw; go_simp <;> with_reducible rfl)
      try simp only [Act.put, List.setIfInBounds_toArray, List.set_cons_zero, List.set_cons_succ]
      refine wpAnyH_take (i := 2) (oi := { dst := some 78, op := _, type := _, pos := _, after := _, guard := _ }) (v := ?v1x3) rfl (by kernel_rfl) (by kernel_rfl) (by kernel_rfl) (fun _ _ _ h => h) (Or.inl ⟨by rfl, ?hy1x3⟩) hHeld ?rest1x3
      case hy1x3 => (intro w hSw; go_simp <;> with_reducible rfl)
      try simp only [Act.put, List.setIfInBounds_toArray, List.set_cons_zero, List.set_cons_succ]
      refine wpAnyH_take (i := 3) (oi := { dst := some 79, op := _, type := _, pos := _, after := _, guard := _ }) (v := ?v1x4) rfl (by kernel_rfl) (by kernel_rfl) (by kernel_rfl) (fun _ _ _ h => h) (Or.inl ⟨by rfl, ?hy1x4⟩) hHeld ?rest1x4
      case hy1x4 => (intro w hSw; go_simp <;> with_reducible rfl)
      try simp only [Act.put, List.setIfInBounds_toArray, List.set_cons_zero, List.set_cons_succ]
      refine wpAnyH_take (i := 4) (oi := { dst := some 80, op := _, type := _, pos := _, after := _, guard := _ }) (v := ?v1x5) rfl (by kernel_rfl) (by kernel_rfl) (by kernel_rfl) (fun _ _ _ h => h) (Or.inl ⟨by rfl, ?hy1x5⟩) hHeld ?rest1x5
      case hy1x5 => (intro w hSw; go_simp <;> with_reducible rfl)
      try simp only [Act.put, List.setIfInBounds_toArray, List.set_cons_zero, List.set_cons_succ]
      refine wpAnyH_take (i := 5) (oi := { dst := some 81, op := _, type := _, pos := _, after := _, guard := _ }) (v := ?v1x6) rfl (by kernel_rfl) (by kernel_rfl) (by kernel_rfl) (fun _ _ _ h => h) (Or.inl ⟨by rfl, ?hy1x6⟩) hHeld ?rest1x6
      case hy1x6 => (intro w hSw; go_simp <;> with_reducible rfl)
      try simp only [Act.put, List.setIfInBounds_toArray, List.set_cons_zero, List.set_cons_succ]
      refine wpAnyH_take (i := 6) (oi := { dst := some 82, op := _, type := _, pos := _, after := _, guard := _ }) (v := ?v1x7) rfl (by kernel_rfl) (by kernel_rfl) (by kernel_rfl) (fun _ _ _ h => h) (Or.inl ⟨by rfl, ?hy1x7⟩) hHeld ?rest1x7
      case hy1x7 => (intro w hSw; go_simp <;> with_reducible rfl)
      try simp only [Act.put, List.setIfInBounds_toArray, List.set_cons_zero, List.set_cons_succ]
      refine wpAnyH_take (i := 7) (oi := { dst := some 83, op := _, type := _, pos := _, after := _, guard := _ }) (v := ?v1x8) rfl (by kernel_rfl) (by kernel_rfl) (by kernel_rfl) (fun _ _ _ h => h) (Or.inl ⟨by rfl, ?hy1x8⟩) hHeld ?rest1x8
      case hy1x8 => (intro w hSw; go_simp <;> with_reducible rfl)
      try simp only [Act.put, List.setIfInBounds_toArray, List.set_cons_zero, List.set_cons_succ]
      refine wpAnyH_done (by kernel_rfl) ?_ _
      clear cw d1 d2
      have S4 := hide (S3.out.keep bD)
      have R4 := hide (R3.out.keep bD)
      have RC4 := hide (RC3.out.keep bD)
      have O4 := hide (own_keep O3.out bD)
      have B4 := hide (below_on B3.out bD)
      have hz4 := bD.size
      clear bD S3 R3 RC3 R8 O3 B3 hHeld
      generalize w3.drew = V at *
      have c4 := (B4.out.cell (p := ⟨b, o + i, none⟩) hbl).trans HC.out
      cases hbr : brP most X with
      | true =>
        have e0 : bfP most X = some (erP most X) := by unfold bfP; rw [hbr]; rfl
        have e1 : fdE11 most (lfP most X) (bfP most X) ys = erP most X := by rw [e0]; rfl
        have e2 : fdT11 most (lfP most X) (bfP most X) ys = [] := by rw [e0]; rfl
        have e5 : lfP most X = [] := by unfold lfP; rw [hbr]; rfl
        have e3 : fdL11 most (lfP most X) (bfP most X) ys = [] := by rw [e0, e5]; rfl
        have e4 : fdF11 most (lfP most X) (bfP most X) ys = some (erP most X) := by rw [e0]; rfl
        have hE : erP most X = 100 ∨ erP most X = 101 := by unfold erP; rw [hbr]; exact stC_or _ _
        rw [e2] at T3
        rw [e3, e4] at S4
        rw [e1]
        obtain rfl := List.map_eq_nil_iff.1 T3.out
        have He0 := hide e0
        have He5 := hide e5
        clear e0 e1 e2 e3 e4 e5 hbr
        rcases hE with hE | hE
        · skip
          rw [hE]
          have HE := hide hE
          clear hE
          go_wp2_with (go_at_call 22; refine (left11_any g most A' k' [] _ V S4.out).mono ?_; rintro e w5 ⟨rfl, rfl⟩)
          refine ⟨⟨X, C, kC, A', k', i + 1, by omega, rfl, rfl, by rw [HE.out], by go_num, ⟨RC4.out, Fs.out.cap, ?_, ?_, Fs.out.few, B4.out, Hgn.out, HAn.out⟩⟩, by simp [intOf]; omega⟩
          · intro x o' e
            have := Fs.out.clt x o' e
            exact ⟨by omega, this.2.1, HCA.out x o' e⟩
          · rw [He5.out, He0.out]
            exact S4.out
        · skip
          rw [hE]
          have HE := hide hE
          clear hE
          go_wp2_with (go_at_call 22; refine (left11_any g most A' k' [] _ V S4.out).mono ?_; rintro e w5 ⟨rfl, rfl⟩)
          refine ⟨⟨X, C, kC, A', k', i + 1, by omega, rfl, rfl, by rw [HE.out], by go_num, ⟨RC4.out, Fs.out.cap, ?_, ?_, Fs.out.few, B4.out, Hgn.out, HAn.out⟩⟩, by simp [intOf]; omega⟩
          · intro x o' e
            have := Fs.out.clt x o' e
            exact ⟨by omega, this.2.1, HCA.out x o' e⟩
          · rw [He5.out, He0.out]
            exact S4.out
      | false =>
        have e0 : bfP most X = none := by unfold bfP; rw [hbr]; rfl
        have eE : erP most X = 0 := by unfold erP; rw [hbr]; rfl
        have p1 : toP most (X ++ ys) = toP most X ++ fdT11 most (lfP most X) (bfP most X) ys := (fd_parts11 most X ys).1
        have p2 : erP most (X ++ ys) = fdE11 most (lfP most X) (bfP most X) ys := (fd_parts11 most X ys).2.1
        have p3 : lfP most (X ++ ys) = fdL11 most (lfP most X) (bfP most X) ys := (fd_parts11 most X ys).2.2.1
        have p4 : bfP most (X ++ ys) = fdF11 most (lfP most X) (bfP most X) ys := by rw [e0]; exact bf_parts most X ys hbr
        rw [← p3, ← p4] at S4
        rw [← p2, eE]
        have hZl : (X ++ ys).length = X.length + m := by rw [List.length_append, Hm.out]
        have hp1l : (toP most (X ++ ys)).length = (toP most X).length + ns.length := by
          rw [p1, List.length_append, ← T3.out, List.length_map]
        have P1 := hide p1
        have HZl := hide hZl
        clear p1 p2 p3 p4 hbr e0 eE
        go_wp2_with fail
        refine (both_own11 C rA X.length m kC rk X ys V RC4.out (HI.out.keep B4.out) (by omega) (by omega)).mono ?_
        rintro e w5 ⟨C2, k2, rfl, o5, b5⟩
        have O5 := hide o5
        have B5 := hide b5
        have hz5 := b5.size
        clear o5 b5
        go_wp2_with fail
        refine (all11_any most hmo C2 (X.length + m) k2 (X ++ ys) w5 (own_rd O5.out) (own_cap O5.out) (by omega)).mono ?_
        rintro e w6 ⟨O6, k6, ws, rfl, t6, r6, -, -, l6, b6⟩
        have hwl : ws.length = (toP most (X ++ ys)).length := by rw [← t6, List.length_map]
        have hT : (toP most X).length ≤ ws.length := by omega
        have hsame : ns.map PkRow.p = (ws.drop (toP most X).length).map PkRow.p := by
          rw [List.map_drop, t6, P1.out, List.drop_left]
          exact T3.out
        have htl : (toP most (X ++ ys)).length ≤ 5000 := by
          have h1 := lfP_len most (X ++ ys)
          omega
        have hsl := fun W => run_slTail11 (P := Try.prog) 46 27 18 Try.underlying46 pkt_size11 O6 ws.length k6 ((toP most X).length : Int) (toP most X).length rfl hT W
        have HT6 := hide (r6.tail (toP most X).length k6 hT l6)
        have B6 := hide b6
        have Bv := hide (below_on B5.out b6)
        have HS := hide hsame
        have Hwl := hide hwl
        have hsh := toP_short most (X ++ ys) (by omega)
        have TS1 := hide (show ∀ r ∈ ns, PkT r.p from fun r hr => by
          have hs := hsh r.p (by rw [P1.out, ← T3.out]; exact List.mem_append_right _ (List.mem_map_of_mem hr))
          exact ⟨hs.2.2.2.2.2.1, hs.2.2.2.2.2.2.1⟩)
        have TS2 := hide (show ∀ r ∈ ws.drop (toP most X).length, PkT r.p from fun r hr => by
          have hs := hsh r.p (by rw [← t6]; exact List.mem_map_of_mem (List.mem_of_mem_drop hr))
          exact ⟨hs.2.2.2.2.2.1, hs.2.2.2.2.2.2.1⟩)
        have PR := fun W (b : Below w6.heap.size w6 W) => rows11_any O (cutA11 18 O6 (toP most X).length k6) ok (k6 - (toP most X).length) ns (ws.drop (toP most X).length) W ((R4.out.keep Bv.out).keep b) (HT6.out.keep b) TS1.out TS2.out (by omega) (by rw [List.length_drop]; omega)
        rw [decide_eq_true HS.out, List.length_drop] at PR
        have hz6 := b6.size
        have hor : erP most (X ++ ys) = 0 ∨ erP most (X ++ ys) = 100 ∨ erP most (X ++ ys) = 101 := by
          unfold erP
          split
          · exact Or.inr (stC_or _ _)
          · exact Or.inl rfl
        clear t6 r6 b6 l6 hsame hwl hp1l htl TS1 TS2 hsh HT6 P1 T3
        generalize hTX : (toP most X).length = tX at *
        generalize hZ : X ++ ys = Z at *
        generalize hLL : lfP most Z = LZ at *
        rcases hor with hE | hE | hE
        · have HEz := hide hE
          clear hE
          rw [HEz.out]
          go_wp2_with (go_at_call 25; refine (PR w6 (Below.refl _ _)).mono ?_; rintro e w7 ⟨rfl, b7⟩; have B7 := hide (below_on Bv.out b7); have B67 := hide (below_on B6.out b7); clear b7)
          refine (left11_any g most A' k' LZ _ w7 (S4.out.keep B7.out)).mono ?_
          rintro e w8 ⟨rfl, rfl⟩
          have O7 := hide (own_keep O4.out B7.out)
          have S7 := hide (S4.out.keep B7.out)
          have RC7 := hide ((own_rd O5.out).keep B67.out)
          have z7 := B7.out.size
          have z67 := B67.out.size
          have F7 : Hid (∀ wx, But (fun x => ∃ o, A8 = some ⟨x, o, none⟩) w7 wx → FS11 most w g Z C2 k2 A' k' wx) := by
            refine hide ?_
            intro wx hbx
            have hzx := hbx.size
            refine ⟨?_, ?_, ?_, ?_, ?_, ?_, Fs.out.gnew, HAn.out⟩
            · rw [HZl.out]
              exact RC7.out.but hbx (fun x o e ⟨o', e'⟩ => by have := own_newAt O5.out x o e; have := l8 x o' e'; omega)
            · rw [HZl.out]
              exact own_cap O5.out
            · intro x o e
              have h1 := own_lt O5.out x o e
              have h2 := own_newAt O5.out x o e
              exact ⟨by omega, by omega, fun h3 => by have := HAl.out x h3; omega⟩
            · rw [hLL]
              exact S7.out.but hbx (fun ⟨o, e⟩ => by have := n8 g o e; omega) (fun x o e ⟨o', e'⟩ => aA x o e o' e')
            · rw [HZl.out]
              omega
            · exact But.below (below_on B4.out B7.out) hbx (fun x ⟨o, e⟩ => by have := n8 x o e; omega) (below_on B4.out B7.out).size
          have HA8 : Hid (0 < m → ∃ G rest, A8 = some ⟨G, 0, none⟩ ∧ Blk w7 G 5 (bv ys ++ rest)) := by
            refine hide ?_
            intro h0
            obtain ⟨G, rest, e, _, hB⟩ := own_blk O7.out h0
            exact ⟨G, rest, e, hB⟩
          have hyl := Hm.out
          have Hyl := hide hyl
          clear hyl hTX hZ hLL RC7 S7 S4 R4 RC4 HS n8 l8 aA hlf hz2 hz3 hz4 hz5 hz6 z7 z67 hsl c4 PR hwz
          go_wp2_with fail
          obtain ⟨w9, rfl⟩ : ∃ w9, w9 = wr := ⟨_, rfl⟩
          go_loopw [17] (fun kv wx => ∃ (j : Nat) (cs : List Value), j ≤ m ∧ kv = .int .i64 (j : Int) ∧ (∀ G, A8 = some ⟨G, 0, none⟩ → 0 < m → Blk wx G 5 cs ∧ m ≤ cs.length) ∧ But (fun x => ∃ o, A8 = some ⟨x, o, none⟩) w7 wx) (fun kv _ => m - (intOf kv).toNat)
          case atStart =>
            by_cases h0 : 0 < m
            · obtain ⟨G, rest, e, hB⟩ := HA8.out h0
              refine ⟨0, bv ys ++ rest, Nat.zero_le _, rfl, fun G' e' _ => ?_, But.refl _ _⟩
              rw [e] at e'
              injection e' with e'
              injection e' with e1 _ _
              subst e1
              exact ⟨hB, by rw [List.length_append, bv_length, Hyl.out]; omega⟩
            · exact ⟨0, [], Nat.zero_le _, rfl, fun _ _ h => absurd h h0, But.refl _ _⟩
          case round =>
            obtain ⟨j, cs, hj, rfl, hcs, hbut⟩ := hrel
            have Hbut := hide hbut
            by_cases hjm : j < m
            · obtain ⟨G, rest, rfl, _⟩ := HA8.out (by omega)
              obtain ⟨hBk, hcl⟩ := hcs G rfl (by omega)
              have HBk := hide hBk
              have c9 : wr.cell? ⟨G, j, none⟩ = some cs[j] := by rw [hBk.cell, List.getElem?_eq_getElem]
              have f9 := hBk.frozen j
              have q9 : (j : Int) < (m : Int) := by omega
              clear hcs hBk hbut
              go_wp2_with fail
              refine ⟨⟨j + 1, cs.set j (.int .u8 7), by omega, by go_num, fun G' e' _ => ?_, Hbut.out.setCell' _ ⟨0, rfl⟩⟩, by simp [intOf]; omega⟩
              injection e' with e'
              injection e' with e1 _ _
              subst e1
              exact ⟨HBk.out.set j _, by rw [List.length_set]; exact hcl⟩
            · obtain rfl : j = m := by omega
              have q9 : ¬ (j : Int) < (j : Int) := by omega
              clear hcs hbut
              go_wp2_with fail
              exact ⟨⟨Z, C2, k2, A', k', i + 1, by omega, by rw [HZl.out], by rw [Hwl.out], by rw [HEz.out], by go_num, F7.out wr Hbut.out⟩, by simp [intOf]; omega⟩
        · have HEz := hide hE
          clear hE
          rw [HEz.out]
          go_wp2_with (go_at_call 25; refine (PR w6 (Below.refl _ _)).mono ?_; rintro e w7 ⟨rfl, b7⟩; have B7 := hide (below_on Bv.out b7); have B67 := hide (below_on B6.out b7); clear b7)
          refine (left11_any g most A' k' LZ _ w7 (S4.out.keep B7.out)).mono ?_
          rintro e w8 ⟨rfl, rfl⟩
          have O7 := hide (own_keep O4.out B7.out)
          have S7 := hide (S4.out.keep B7.out)
          have RC7 := hide ((own_rd O5.out).keep B67.out)
          have z7 := B7.out.size
          have z67 := B67.out.size
          have F7 : Hid (∀ wx, But (fun x => ∃ o, A8 = some ⟨x, o, none⟩) w7 wx → FS11 most w g Z C2 k2 A' k' wx) := by
            refine hide ?_
            intro wx hbx
            have hzx := hbx.size
            refine ⟨?_, ?_, ?_, ?_, ?_, ?_, Fs.out.gnew, HAn.out⟩
            · rw [HZl.out]
              exact RC7.out.but hbx (fun x o e ⟨o', e'⟩ => by have := own_newAt O5.out x o e; have := l8 x o' e'; omega)
            · rw [HZl.out]
              exact own_cap O5.out
            · intro x o e
              have h1 := own_lt O5.out x o e
              have h2 := own_newAt O5.out x o e
              exact ⟨by omega, by omega, fun h3 => by have := HAl.out x h3; omega⟩
            · rw [hLL]
              exact S7.out.but hbx (fun ⟨o, e⟩ => by have := n8 g o e; omega) (fun x o e ⟨o', e'⟩ => aA x o e o' e')
            · rw [HZl.out]
              omega
            · exact But.below (below_on B4.out B7.out) hbx (fun x ⟨o, e⟩ => by have := n8 x o e; omega) (below_on B4.out B7.out).size
          have HA8 : Hid (0 < m → ∃ G rest, A8 = some ⟨G, 0, none⟩ ∧ Blk w7 G 5 (bv ys ++ rest)) := by
            refine hide ?_
            intro h0
            obtain ⟨G, rest, e, _, hB⟩ := own_blk O7.out h0
            exact ⟨G, rest, e, hB⟩
          have hyl := Hm.out
          have Hyl := hide hyl
          clear hyl hTX hZ hLL RC7 S7 S4 R4 RC4 HS n8 l8 aA hlf hz2 hz3 hz4 hz5 hz6 z7 z67 hsl c4 PR hwz
          go_wp2_with fail
          obtain ⟨w9, rfl⟩ : ∃ w9, w9 = wr := ⟨_, rfl⟩
          go_loopw [17] (fun kv wx => ∃ (j : Nat) (cs : List Value), j ≤ m ∧ kv = .int .i64 (j : Int) ∧ (∀ G, A8 = some ⟨G, 0, none⟩ → 0 < m → Blk wx G 5 cs ∧ m ≤ cs.length) ∧ But (fun x => ∃ o, A8 = some ⟨x, o, none⟩) w7 wx) (fun kv _ => m - (intOf kv).toNat)
          case atStart =>
            by_cases h0 : 0 < m
            · obtain ⟨G, rest, e, hB⟩ := HA8.out h0
              refine ⟨0, bv ys ++ rest, Nat.zero_le _, rfl, fun G' e' _ => ?_, But.refl _ _⟩
              rw [e] at e'
              injection e' with e'
              injection e' with e1 _ _
              subst e1
              exact ⟨hB, by rw [List.length_append, bv_length, Hyl.out]; omega⟩
            · exact ⟨0, [], Nat.zero_le _, rfl, fun _ _ h => absurd h h0, But.refl _ _⟩
          case round =>
            obtain ⟨j, cs, hj, rfl, hcs, hbut⟩ := hrel
            have Hbut := hide hbut
            by_cases hjm : j < m
            · obtain ⟨G, rest, rfl, _⟩ := HA8.out (by omega)
              obtain ⟨hBk, hcl⟩ := hcs G rfl (by omega)
              have HBk := hide hBk
              have c9 : wr.cell? ⟨G, j, none⟩ = some cs[j] := by rw [hBk.cell, List.getElem?_eq_getElem]
              have f9 := hBk.frozen j
              have q9 : (j : Int) < (m : Int) := by omega
              clear hcs hBk hbut
              go_wp2_with fail
              refine ⟨⟨j + 1, cs.set j (.int .u8 7), by omega, by go_num, fun G' e' _ => ?_, Hbut.out.setCell' _ ⟨0, rfl⟩⟩, by simp [intOf]; omega⟩
              injection e' with e'
              injection e' with e1 _ _
              subst e1
              exact ⟨HBk.out.set j _, by rw [List.length_set]; exact hcl⟩
            · obtain rfl : j = m := by omega
              have q9 : ¬ (j : Int) < (j : Int) := by omega
              clear hcs hbut
              go_wp2_with fail
              exact ⟨⟨Z, C2, k2, A', k', i + 1, by omega, by rw [HZl.out], by rw [Hwl.out], by rw [HEz.out], by go_num, F7.out wr Hbut.out⟩, by simp [intOf]; omega⟩
        · have HEz := hide hE
          clear hE
          rw [HEz.out]
          go_wp2_with (go_at_call 25; refine (PR w6 (Below.refl _ _)).mono ?_; rintro e w7 ⟨rfl, b7⟩; have B7 := hide (below_on Bv.out b7); have B67 := hide (below_on B6.out b7); clear b7)
          refine (left11_any g most A' k' LZ _ w7 (S4.out.keep B7.out)).mono ?_
          rintro e w8 ⟨rfl, rfl⟩
          have O7 := hide (own_keep O4.out B7.out)
          have S7 := hide (S4.out.keep B7.out)
          have RC7 := hide ((own_rd O5.out).keep B67.out)
          have z7 := B7.out.size
          have z67 := B67.out.size
          have F7 : Hid (∀ wx, But (fun x => ∃ o, A8 = some ⟨x, o, none⟩) w7 wx → FS11 most w g Z C2 k2 A' k' wx) := by
            refine hide ?_
            intro wx hbx
            have hzx := hbx.size
            refine ⟨?_, ?_, ?_, ?_, ?_, ?_, Fs.out.gnew, HAn.out⟩
            · rw [HZl.out]
              exact RC7.out.but hbx (fun x o e ⟨o', e'⟩ => by have := own_newAt O5.out x o e; have := l8 x o' e'; omega)
            · rw [HZl.out]
              exact own_cap O5.out
            · intro x o e
              have h1 := own_lt O5.out x o e
              have h2 := own_newAt O5.out x o e
              exact ⟨by omega, by omega, fun h3 => by have := HAl.out x h3; omega⟩
            · rw [hLL]
              exact S7.out.but hbx (fun ⟨o, e⟩ => by have := n8 g o e; omega) (fun x o e ⟨o', e'⟩ => aA x o e o' e')
            · rw [HZl.out]
              omega
            · exact But.below (below_on B4.out B7.out) hbx (fun x ⟨o, e⟩ => by have := n8 x o e; omega) (below_on B4.out B7.out).size
          have HA8 : Hid (0 < m → ∃ G rest, A8 = some ⟨G, 0, none⟩ ∧ Blk w7 G 5 (bv ys ++ rest)) := by
            refine hide ?_
            intro h0
            obtain ⟨G, rest, e, _, hB⟩ := own_blk O7.out h0
            exact ⟨G, rest, e, hB⟩
          have hyl := Hm.out
          have Hyl := hide hyl
          clear hyl hTX hZ hLL RC7 S7 S4 R4 RC4 HS n8 l8 aA hlf hz2 hz3 hz4 hz5 hz6 z7 z67 hsl c4 PR hwz
          go_wp2_with fail
          obtain ⟨w9, rfl⟩ : ∃ w9, w9 = wr := ⟨_, rfl⟩
          go_loopw [17] (fun kv wx => ∃ (j : Nat) (cs : List Value), j ≤ m ∧ kv = .int .i64 (j : Int) ∧ (∀ G, A8 = some ⟨G, 0, none⟩ → 0 < m → Blk wx G 5 cs ∧ m ≤ cs.length) ∧ But (fun x => ∃ o, A8 = some ⟨x, o, none⟩) w7 wx) (fun kv _ => m - (intOf kv).toNat)
          case atStart =>
            by_cases h0 : 0 < m
            · obtain ⟨G, rest, e, hB⟩ := HA8.out h0
              refine ⟨0, bv ys ++ rest, Nat.zero_le _, rfl, fun G' e' _ => ?_, But.refl _ _⟩
              rw [e] at e'
              injection e' with e'
              injection e' with e1 _ _
              subst e1
              exact ⟨hB, by rw [List.length_append, bv_length, Hyl.out]; omega⟩
            · exact ⟨0, [], Nat.zero_le _, rfl, fun _ _ h => absurd h h0, But.refl _ _⟩
          case round =>
            obtain ⟨j, cs, hj, rfl, hcs, hbut⟩ := hrel
            have Hbut := hide hbut
            by_cases hjm : j < m
            · obtain ⟨G, rest, rfl, _⟩ := HA8.out (by omega)
              obtain ⟨hBk, hcl⟩ := hcs G rfl (by omega)
              have HBk := hide hBk
              have c9 : wr.cell? ⟨G, j, none⟩ = some cs[j] := by rw [hBk.cell, List.getElem?_eq_getElem]
              have f9 := hBk.frozen j
              have q9 : (j : Int) < (m : Int) := by omega
              clear hcs hBk hbut
              go_wp2_with fail
              refine ⟨⟨j + 1, cs.set j (.int .u8 7), by omega, by go_num, fun G' e' _ => ?_, Hbut.out.setCell' _ ⟨0, rfl⟩⟩, by simp [intOf]; omega⟩
              injection e' with e'
              injection e' with e1 _ _
              subst e1
              exact ⟨HBk.out.set j _, by rw [List.length_set]; exact hcl⟩
            · obtain rfl : j = m := by omega
              have q9 : ¬ (j : Int) < (j : Int) := by omega
              clear hcs hbut
              go_wp2_with fail
              exact ⟨⟨Z, C2, k2, A', k', i + 1, by omega, by rw [HZl.out], by rw [Hwl.out], by rw [HEz.out], by go_num, F7.out wr Hbut.out⟩, by simp [intOf]; omega⟩
    · obtain rfl : i = len := by omega
      have q1 : ¬ (i : Int) < (i : Int) := by omega
      clear fs
      go_wp2_with fail
      refine (awake11_any _).mono ?_
      rintro e w2 ⟨rfl, b2⟩
      go_wp2_with fail
      go_ret
      exact ⟨rfl, below_on Fs.out.bel b2⟩

end Go.Proofs.Ytdlhcecmodefkaa
