/-
  What is proved here: the chapter's examples of layer 10, asked by 'awake', come out true in every world. No condition.
-/
import Derived.Test.YtdlhcecmodefkaaPb4
import Derived.Test.YtdlhcecmodefkaaPr6
import Derived.Lib.SlBytesConst
namespace Go.Proofs.Ytdlhcecmodefkaa
set_option linter.unusedVariables false
set_option linter.unusedSimpArgs false
open Go.RowKit

def exP : Pk := ⟨3, false, 10, [97], [104, 105], 1, false, [], false, 0, false, false, false, [], [], false, [], []⟩
def exC : Pk := ⟨1, false, 0, [], [], 0, false, [97], true, 60, false, false, false, [], [], false, [], []⟩
theorem exP_may : mayP exP = true := by decide
theorem exP_lay : layP exP = [50, 7, 0, 1, 97, 0, 10, 104, 105] := by
  have h : (bodyP exP).length = 7 := by decide
  unfold layP
  rw [h, dg_small (by omega)]
  decide
theorem ex_a : readP [192, 0] = some (zeroP 12) := by rw [← parseQ_eq]; decide
theorem ex_b : readP [193, 0] = none := by rw [← parseQ_eq]; decide
theorem ex_c : readP [16, 13, 0, 4, 77, 81, 84, 84, 4, 2, 0, 60, 0, 1, 97] = some exC := by rw [← parseQ_eq]; decide
theorem exP_short : PkS exP := by simp [PkS, exP]
theorem pkM0 (w : World) (p : Pk) (h1 : p.codes = []) (h2 : p.subs = []) : PkM w p none 0 0 none 0 0 := by
  refine ⟨by rw [h1]; rfl, Nat.le_refl _, by rw [h1]; exact Rd.nil _ _, by rw [h2]; rfl, Nat.le_refl _, by rw [h2]; exact Rd.nil _ _⟩

/-- Bytes that lie in a new block are read. -/
theorem parse_new (xs : List UInt8) (o : Option Pk) (ho : readP xs = o) (h65 : xs.length ≤ 65535) (n : Nat) (hn : xs.length = n) (w : World) (g : Nat) (hB : Blk w g 5 (bv xs)) : Calls Try.prog 16 #[.slice (some ⟨g, 0, none⟩) n n] w (PsPost o w) := by
  have hr := hB.rd
  rw [bv_length, hn] at hr
  rw [← ho]
  exact parse_any _ n n xs w hr hn (Nat.le_refl _) (by omega)

theorem rd_marked (w : World) (e : TypeId) (cs : List Value) (fr : Nat × Nat) : Rd (w.alloc (.cells (arr cs) e fr)) (some ⟨w.heap.size, 0, none⟩) cs.length cs :=
  ⟨rfl, fun _ => ⟨w.heap.size, 0, rfl, by simp, fun i v hv => by
    have hh : (w.alloc (.cells (arr cs) e fr)).heap[w.heap.size]? = some (.cells (arr cs) e fr) := by
      show (w.heap.push _)[w.heap.size]? = _
      simp
    unfold World.cell?
    simp only [hh, Nat.zero_add]
    rw [arr_get]
    exact hv⟩⟩

set_option maxRecDepth 100000 in
set_option maxHeartbeats 4000000 in
theorem awake_any (w : World) : Calls Try.prog 14 #[] w fun e w' => e = .returned (.bool true) ∧ Below w.heap.size w w' := by
  have P1 := bytes_any exP none 0 0 none 0 0 w (pkM0 w exP rfl rfl) exP_short
  have P1 : Calls Try.prog 12 #[pkA exP none 0 0 none 0 0] w fun e w' => ∃ A c, e = .returned (.tuple #[.slice A 9 c, .int .i64 0]) ∧ w'.ownsRow w.heap.size 5 1 (.slice A 9 c) 9 (bv [50, 7, 0, 1, 97, 0, 10, 104, 105]) ∧ Below w.heap.size w w' := by
    refine P1.mono fun e w' h => ?_
    unfold ByPost at h
    rw [if_pos exP_may, exP_lay] at h
    exact h
  go_enter Try.func14, Try.ntmps14
  go_wp2_with fail
  refine P1.mono ?_
  rintro e w1 ⟨A, c, rfl, o1, b1⟩
  have HA := hide (own_rd o1)
  have B1 := hide b1
  clear o1 b1 P1
  go_wp2_with fail
  generalize hV : w1.alloc _ = V
  have hz : w1.alloc (.cells (arr (bv [192, 0])) 5) = V := hV
  have hB : Blk V w1.heap.size 5 (bv [192, 0]) := by rw [← hz]; exact Blk.new w1 5 _
  have bV : Below w1.heap.size w1 V := by rw [← hz]; exact (Below.refl _ _).alloc (Nat.le_refl _) _
  have HA := hide (HA.out.keep bV)
  have B1 := hide (below_on B1.out bV)
  have P := parse_new [192, 0] _ ex_a (by decide) 2 rfl V _ hB
  have bV2 := bV
  clear hV hz hB bV
  refine P.mono ?_
  rintro e w2 ⟨C, nc, kc, S, ns, ks, rfl, -, -, -, b2⟩
  have HA := hide (HA.out.keep b2)
  have B1 := hide (below_on B1.out b2)
  clear P b2
  go_upto_region 3 with (refine wpList_storeQ rfl 27 (.tmp 3) (.tmp 18) rfl w2.heap.size 27 (zeroP 0) none 0 0 none 0 0 (zeroP 12) C nc kc S ns ks rfl rfl (Blk.new w2 27 (pkVs (zeroP 0) none 0 0 none 0 0)) (by kernel_rfl) ?_; intro W2 bV BV)
  have bW2 : Below w2.heap.size w2 W2 := But.below ((Below.refl _ _).alloc (Nat.le_refl _) _) BV (fun i e => by omega) (by simp)
  have HP2 := hide bV
  have HA := hide (HA.out.keep bW2)
  have B1 := hide (below_on B1.out bW2)
  obtain ⟨g2, hg2⟩ : ∃ g2, w2.heap.size = g2 := ⟨_, rfl⟩
  rw [hg2] at HP2 ⊢
  clear bV BV bW2 hg2
  go_wp2_with fail
  generalize hV : W2.alloc _ = V
  have hz : W2.alloc (.cells (arr (bv [193, 0])) 5) = V := hV
  have hB : Blk V W2.heap.size 5 (bv [193, 0]) := by rw [← hz]; exact Blk.new W2 5 _
  have bV : Below W2.heap.size W2 V := by rw [← hz]; exact (Below.refl _ _).alloc (Nat.le_refl _) _
  have HA := hide (HA.out.keep bV)
  have B1 := hide (below_on B1.out bV)
  have P := parse_new [193, 0] _ ex_b (by decide) 2 rfl V _ hB
  have bV2 := bV
  clear hV hz hB bV
  refine P.mono ?_
  rintro e w3 ⟨rfl, b3⟩
  have HA := hide (HA.out.keep b3)
  have B1 := hide (below_on B1.out b3)
  have hgl : g2 < W2.heap.size := HP2.out.lt
  have HP2 := hide (HP2.out.keep (by
    have h1 : Below W2.heap.size W2 V := bV2
    exact below_on h1 b3))
  clear P b3
  go_upto_region 4 with (refine wpList_storeQ rfl 27 (.tmp 5) (.tmp 23) rfl w3.heap.size 27 (zeroP 0) none 0 0 none 0 0 (zeroP 0) none 0 0 none 0 0 rfl rfl (Blk.new w3 27 (pkVs (zeroP 0) none 0 0 none 0 0)) (by kernel_rfl) ?_; intro W3 bV BV)
  have bW3 : Below w3.heap.size w3 W3 := But.below ((Below.refl _ _).alloc (Nat.le_refl _) _) BV (fun i e => by omega) (by simp)
  have HP2 := hide (HP2.out.keep bW3)
  have HA := hide (HA.out.keep bW3)
  have B1 := hide (below_on B1.out bW3)
  clear bV BV bW3
  have hcv := fun C => Lib.run_convert_bytes_const (P := Try.prog) W3 31 5 C 15 15 Try.underlying31 Try.underlying5
  go_wp2_with fail
  generalize hV : W3.alloc _ = V
  have hz : W3.alloc (.cells (arr (bv [16, 13, 0, 4, 77, 81, 84, 84, 4, 2, 0, 60, 0, 1, 97])) 5 (15, 16)) = V := hV
  have hRd : Rd V (some ⟨W3.heap.size, 0, none⟩) 15 (bv [16, 13, 0, 4, 77, 81, 84, 84, 4, 2, 0, 60, 0, 1, 97]) := by rw [← hz]; exact rd_marked W3 5 (bv [16, 13, 0, 4, 77, 81, 84, 84, 4, 2, 0, 60, 0, 1, 97]) (15, 16)
  have bV2 : Below W3.heap.size W3 V := by rw [← hz]; exact (Below.refl _ _).alloc (Nat.le_refl _) _
  have HA := hide (HA.out.keep bV2)
  have B1 := hide (below_on B1.out bV2)
  have P : Calls Try.prog 16 #[.slice (some ⟨W3.heap.size, 0, none⟩) 15 15] V (PsPost (some exC) V) := by
    rw [← ex_c]
    exact parse_any _ 15 15 _ V hRd rfl (Nat.le_refl _) (by omega)
  clear hV hz hRd hcv
  refine P.mono ?_
  rintro e w4 ⟨C4, nc4, kc4, S4, ns4, ks4, rfl, -, -, -, b4⟩
  have HA := hide (HA.out.keep b4)
  have B1 := hide (below_on B1.out b4)
  have HP2 := hide (HP2.out.keep (below_on bV2 b4))
  clear P b4
  go_upto_region 5 with (refine wpList_storeQ rfl 27 (.tmp 7) (.tmp 29) rfl w4.heap.size 27 (zeroP 0) none 0 0 none 0 0 exC C4 nc4 kc4 S4 ns4 ks4 rfl rfl (Blk.new w4 27 (pkVs (zeroP 0) none 0 0 none 0 0)) (by kernel_rfl) ?_; intro W4 bV BV)
  have bW4 : Below w4.heap.size w4 W4 := But.below ((Below.refl _ _).alloc (Nat.le_refl _) _) BV (fun i e => by omega) (by simp)
  have hP2 := HP2.out.keep bW4
  have hA := HA.out.keep bW4
  have B1 := hide (below_on B1.out bW4)
  have hcs := fun q => rdStr (hA.drewN q) c
  have hcs0 := rdStr hA c
  obtain ⟨d0, -⟩ := Blk.p18 hP2
  obtain ⟨-, -, -, -, -, -, -, k7, k8, k9, -, -, -, -, -, -, -, -⟩ := Blk.p18 bV
  obtain ⟨g4, hg4⟩ : ∃ g4, w4.heap.size = g4 := ⟨_, rfl⟩
  rw [hg4] at k7 k8 k9 ⊢
  have k7' : W4.cell? ⟨g4, 7, none⟩ = some (.string (str [97])) := k7
  have k8' : W4.cell? ⟨g4, 8, none⟩ = some (.bool true) := k8
  have k9' : W4.cell? ⟨g4, 9, none⟩ = some (.int .i64 60) := k9
  have d0' : W4.cell? ⟨g2, 0, none⟩ = some (.int .i64 12) := d0
  clear bV BV bW4 hP2 hA k7 k8 k9 d0 hg4 HP2 HA hgl
  go_wp2_with fail
  go_ret
  exact ⟨by first | rfl | simp, B1.out⟩

end Go.Proofs.Ytdlhcecmodefkaa
