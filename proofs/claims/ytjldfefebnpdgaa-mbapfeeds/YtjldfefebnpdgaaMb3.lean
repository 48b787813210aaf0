/-
  What is proved here: what mbap's adu and joined return. Condition: lengths up to some hundred thousand.
-/
import Derived.Test.YtjldfefebnpdgaaMb2
import Derived.StillTailTactics
namespace Go.Proofs.Ytjldfefebnpdgaa
set_option linter.unusedVariables false
set_option linter.unusedSimpArgs false
open Go.RowKit

theorem Blk.set3 {w : World} {g : Nat} {t : TypeId} {x0 x1 x2 : Value} (h : Blk w g t [x0, x1, x2]) (v0 v1 v2 : Value) : Blk (((w.setCell ⟨g, 0, none⟩ v0).setCell ⟨g, 1, none⟩ v1).setCell ⟨g, 2, none⟩ v2) g t [v0, v1, v2] := ((h.set 0 v0).set 1 v1).set 2 v2

/-- adu. -/
theorem madu_any (A : Option Addr) (n k : Nat) (xs : List UInt8) (w : World) (hr : Rd w A n (bv xs)) (h8 : 8 ≤ n) (hn : n ≤ 1000000) (hk : n ≤ k) :
    Calls Try.prog 30 #[.slice A n k] w fun e w' => e = .returned (.agg #[.int .i64 (wordN xs 0 : Nat), .int .i64 (byteAt xs 6 : Nat), .slice (cutA A 7 k) (n - 7) (k - 7)]) ∧ Below w.heap.size w w' := by
  have hx : xs.length = n := by rw [← bv_length]; exact hr.1
  obtain ⟨x0, g0, b0⟩ := get_byteAt xs 0 (by omega)
  obtain ⟨x1, g1, b1⟩ := get_byteAt xs 1 (by omega)
  have HA := hide (fun (W : World) (h : Rd W A n (bv xs)) => atI A n k 0 0 rfl xs W h (by omega) (by unfold maxLen; omega) x0 x1 g0 g1 (wordN xs 0 : Nat) (by show ((256 * byteAt xs 0 + byteAt xs 1 : Nat) : Int) = _; rw [← b0, ← b1]; omega))
  obtain ⟨b, o, rfl, hbl, hc⟩ := hr.at_ (k := 6) (by omega)
  have cx : w.cell? ⟨b, o + 6, none⟩ = some (.int .u8 (byteAt xs 6 : Nat)) := by
    obtain ⟨x6, g6, b6⟩ := get_byteAt xs 6 (by omega)
    rw [← b6]
    exact hc 6 _ (by simp [bv, g6])
  have hb6 := byteAt_lt xs 6
  have HR := hide hr
  have hsl := fun W => run_slTail (P := Try.prog) 22 5 Try.underlying22 u8_size (some ⟨b, o, none⟩) n k 7 7 rfl (by omega) W
  generalize byteAt xs 6 = y at *
  clear g0 g1 b0 b1 hr hc hx
  go_enter Try.func30, Try.ntmps30
  go_wp2_with fail
  generalize hW : w.alloc _ = W
  have hBel : Below w.heap.size w W := by subst hW; exact (Below.refl _ _).alloc (Nat.le_refl _) _
  have hB0 : Blk W w.heap.size 24 [.int .i64 0, .int .i64 0, .slice none 0 0] := by subst hW; exact Blk.new _ _ _
  clear hW
  refine (HA.out W (HR.out.keep hBel)).mono ?_
  rintro e w1 ⟨rfl, nq, rfl⟩
  have hB1 : Blk (W.drewN nq) w.heap.size 24 [.int .i64 0, .int .i64 0, .slice none 0 0] := hB0
  have hBl1 : Below w.heap.size w (W.drewN nq) := below_drewN hBel nq
  clear hB0 hBel HR HA
  generalize W.drewN nq = U at *
  have cU : U.cell? ⟨b, o + 6, none⟩ = some (.int .u8 (y : Int)) := (hBl1.cell (p := ⟨b, o + 6, none⟩) hbl).trans cx
  obtain ⟨k0, k1, k2⟩ := hB1.three
  have kf := hB1.frozen
  have HB1 := hide hB1
  have HBl := hide hBl1
  have hl7 : (6 : Int) < (n : Int) := by omega
  have qy : IntKind.i64.wrap (y : Int) = (y : Int) := wrap_nat y (by omega)
  clear hB1 hBl1 cx
  go_wp2_with fail
  refine wp_region_still_tail 8 (by kernel_rfl) (by kernel_rfl) ?_
  simp only [List.take_succ_cons, List.take_zero, List.drop_succ_cons, List.drop_zero]
  repeat still_step
  refine wpStill_nil ?_
  change wpList _ _ _ _ _ U.drew
  go_wp2_with fail
  (try simp only [Exit.inBlock, Exit.then])
  refine bodyPost_ret (results_cell rfl rfl (HB1.out.set3 _ _ _) Try.underlying24 rfl (by kernel_rfl)) rfl ?_
  exact ⟨rfl, (((HBl.out.setCell (Nat.le_refl _) _).setCell (Nat.le_refl _) _).setCell (Nat.le_refl _) _).drew⟩

/-- make([]T, 0, n), T of one cell. -/
theorem run_mk0 {P : Program} (t e : TypeId) (z : Value) (bytes : Nat) (ht : P.underlying t = some (.slice e)) (hinfo : (P.info? e).map (fun i => (i.zero, i.size, i.bytes)) = some (some z, 1, bytes)) (hz1 : z.cells = #[z])
    (n : Nat) (hbytes : bytes * n ≤ 281474976710656) (h63 : n ≤ 9223372036854775807) (ni : Int) (hni : ni = (n : Int)) (w : World) :
    (Instr.makeSlice t (.int .i64 0) (.int .i64 ni)).run P w = .ok (.slice (some ⟨w.heap.size, 0, none⟩) 0 n) (w.alloc (.cells (arr (List.replicate n z)) e)) := by
  subst hni
  obtain ⟨i, hi, hzz⟩ := Option.map_eq_some_iff.1 hinfo
  simp only [Prod.mk.injEq] at hzz
  obtain ⟨hz, hs, hb⟩ := hzz
  have hb' : ((bytes * n : Nat) : Int) ≤ 281474976710656 := by omega
  rw [Int.natCast_mul] at hb'
  have hr := run_make (P := P) w t e i z ht hi hz .i64 .i64 0 n (by omega) (by omega) (by rw [hb]; exact hb') (by omega)
  rw [hs, hz1, Nat.mul_one, madeCells_one, Int.toNat_natCast] at hr
  exact hr
theorem own_made (w : World) (e : TypeId) (z : Value) (n : Nat) (hn : n ≤ maxLen) : (w.alloc (.cells (arr (List.replicate n z)) e)).ownsRow w.heap.size e 1 (.slice (some ⟨w.heap.size, 0, none⟩) 0 n) 0 [] :=
  ⟨rfl, .inr ⟨w.heap.size, n, arr (List.replicate n z), rfl, Nat.le_refl _, Blk.new w e _, Nat.zero_le _, hn, by rw [arr_size]; simp, by simp⟩⟩

/-- joined: in memory of its own. -/
theorem mjoin_any (A B : Option Addr) (n m c d : Nat) (xs ys : List UInt8) (w : World) (h1 : Rd w A n (bv xs)) (h2 : Rd w B m (bv ys)) (hn : n + m ≤ 1000000) :
    Calls Try.prog 25 #[.slice A n c, .slice B m d] w (RetOwn 5 (n + m) (bv (xs ++ ys)) w) := by
  have q1 : IntKind.i64.wrap ((n : Int) + (m : Int)) = (n : Int) + (m : Int) := by rw [IntKind.wrap_i64]; omega
  have hmk := fun W => run_mk0 (P := Try.prog) 22 5 (.int .u8 0) 1 Try.underlying22 u8_info rfl (n + m) (by omega) (by omega) ((n : Int) + (m : Int)) (by omega) W
  have H1 := hide h1
  have H2 := hide h2
  clear h1 h2
  go_enter Try.func25, Try.ntmps25
  go_wp2_with (first
    | (at_builtin; refine wpList_app rfl (.tmp 12) (.tmp 13) 22 rfl 5 _ _ Try.underlying22 u8_info rfl w.heap.size _ 0 (n + m) [] rfl (own_made w 5 _ (n + m) (by unfold maxLen; omega)) A n c (bv xs) rfl (H1.out.keep ((Below.refl _ _).alloc (Nat.le_refl _) _)) (bv_one _) (by unfold maxLen; omega) (by omega) (by simp) ?_; intro A1 c1 w1 o1 g1 b1; rw [Nat.zero_add, List.nil_append] at o1; have O1 := hide o1; have B1 := hide (((Below.refl _ _).alloc (Nat.le_refl _) _).trans b1 : Below w.heap.size w w1); clear o1 g1 b1)
    | (at_builtin; refine wpList_app rfl (.tmp 15) (.tmp 16) 22 rfl 5 _ _ Try.underlying22 u8_info rfl w.heap.size A1 n c1 (bv xs) rfl O1.out B m d (bv ys) rfl (H2.out.keep B1.out) (bv_one _) (by unfold maxLen; omega) (by omega) B1.out.size ?_; intro A2 c2 w2 o2 g2 b2; rw [← bv_append] at o2; have O2 := hide o2; have B2 := hide (B1.out.trans b2); clear o2 g2 b2))
  go_ret
  exact ⟨A2, c2, rfl, O2.out, B2.out⟩

end Go.Proofs.Ytjldfefebnpdgaa
