/-
  What is proved here: what pdu's put, counted, packed, unpacked, wordAt and wordsFrom return. Conditions: lengths up to some thousand. ALSO: what pdu's packed, unpacked, wordAt and wordsFrom return. Conditions: lengths up to some thousand.
-/
import Derived.Test.YtfpfijggmfeejaaPduDef
namespace Go.Proofs.Ytfpfijggmfeejaa
set_option linter.unusedVariables false
set_option linter.unusedSimpArgs false
open Go.RowKit

theorem Rd.grown {w w' : World} {row : Option Nat} {B : Option Addr} {m : Nat} {ys : List Value} (h : Rd w B m ys) (hg : w.grownBy w' row) (hne : ∀ b o, B = some ⟨b, o, none⟩ → 0 < m → some b ≠ row) : Rd w' B m ys :=
  ⟨h.1, fun hm => by
    obtain ⟨b, o, e, hl, hc⟩ := h.2 hm
    have hk := hg.block b hl (hne b o e hm)
    refine ⟨b, o, e, Nat.lt_of_lt_of_le hl hg.size, fun i v hv => ?_⟩
    have := hc i v hv
    unfold World.cell? at this ⊢
    simpa only [hk] using this⟩

theorem putL_take (vs : List Int) (k : Nat) (h : k < vs.length) : putL (vs.take (k + 1)) = putL (vs.take k) ++ word vs[k].toNat := by
  rw [putL, List.take_succ_eq_append_getElem h, List.flatMap_append]
  simp [putL]
theorem upToB_get (vs : List Int) (top : Int) (h : upToB vs top = true) (k : Nat) (hk : k < vs.length) : 0 ≤ vs[k] ∧ vs[k] ≤ top := by
  have := List.all_eq_true.1 h vs[k] (List.getElem_mem hk)
  simpa using this

/-- put: words behind bytes, in a new block. -/
theorem pput_any (A B : Option Addr) (l c m d : Nat) (xs : List UInt8) (vs : List Int) (w : World) (h : Rd w A l (bv xs)) (h2 : Rd w B m (iv vs)) (hv : upToB vs 65535 = true) (hl : l ≤ 1000) (hm : m ≤ 5000) (hm1 : 0 < m) :
    Calls Try.prog 72 #[.slice A l c, .slice B m d] w (RetOwn 5 (l + 2 * m) (bv (xs ++ putL vs)) w) := by
  have hvl : vs.length = m := by rw [← iv_length]; exact h2.1
  have Hvl := hide hvl
  have Hv := hide hv
  clear hvl hv
  go_enter Try.func72, Try.ntmps72
  go_wp2
  go_loopw [0, 9] (fun v i wr => ∃ (k : Nat) (C : Option Addr) (kk : Nat), k ≤ m ∧ i = .int .i64 (k : Int) ∧ v = .slice C (l + 2 * k) kk ∧ Rd wr C (l + 2 * k) (bv (xs ++ putL (vs.take k))) ∧ (0 < k → wr.ownsRow w.heap.size 5 1 (.slice C (l + 2 * k) kk) (l + 2 * k) (bv (xs ++ putL (vs.take k)))) ∧ Below w.heap.size w wr) (fun _ i _ => m - (intOf i).toNat)
  case atStart => exact ⟨0, A, c, by omega, rfl, rfl, by simpa [putL] using h, fun h0 => absurd h0 (Nat.lt_irrefl 0), Below.refl _ _⟩
  case round =>
    obtain ⟨k, C, kk, hk, rfl, rfl, hrd, hown, hbel⟩ := hrel
    by_cases hlt : k < m
    · obtain ⟨b, o, rfl, hbl, hc⟩ := h2.at_ hlt
      have hlt' : k < vs.length := by rw [Hvl.out]; exact hlt
      have c0 := hc k _ (iv_get vs k hlt')
      have cA : wr.cell? ⟨b, o + k, none⟩ = some (.int .i64 vs[k]) := (hbel.cell (p := ⟨b, o + k, none⟩) hbl).trans c0
      have hw := upToB_get vs 65535 Hv.out k hlt'
      have Htk := hide (putL_take vs k hlt')
      have q : (k : Int) < (m : Int) := by omega
      generalize vs[k] = z at *
      obtain ⟨zn, rfl⟩ := Int.eq_ofNat_of_zero_le hw.1
      have HP := hide (fun N hN => putI C (l + 2 * k) kk (zn : Int) zn N rfl hN (xs ++ putL (vs.take k)) wr hrd (by omega) (by omega))
      have Hbel := hide hbel
      have hln : (bv (xs ++ putL (vs.take k))).length = l + 2 * k := hrd.1
      have Hln := hide hln
      clear hc c0 hown hrd hbel h h2 hln
      go_wp2_with fail
      refine (HP.out (l + 2 * (k + 1)) (by omega)).mono ?_
      rintro e w1 ⟨rfl, k1, b1⟩
      rw [List.append_assoc, ← show putL (vs.take (k + 1)) = putL (vs.take k) ++ word zn from Htk.out] at k1
      have hlen : (bv (xs ++ putL (vs.take (k + 1)))).length = l + 2 * (k + 1) := by
        have e1 : putL (vs.take (k + 1)) = putL (vs.take k) ++ word zn := Htk.out
        have e2 := Hln.out
        rw [bv_length] at e2 ⊢
        rw [e1, ← List.append_assoc, List.length_append, e2]
        simp [word]
        omega
      have o1 := k1.own (Hbel.out.size) (l + 2 * (k + 1)) hlen (by unfold maxLen; omega)
      have b2 := below_on Hbel.out b1
      have r1 := own_rd o1
      have Ho := hide o1
      have Hr := hide r1
      have Hb2 := hide b2
      clear o1 r1 b2 b1 k1 hlen
      go_wp2
      exact ⟨⟨k + 1, _, _, by omega, by go_num, rfl, Hr.out, fun _ => Ho.out, Hb2.out⟩, by simp [intOf]; omega⟩
    · obtain rfl : k = m := by omega
      have ho := hown hm1
      rw [List.take_of_length_le (Nat.le_of_eq Hvl.out)] at ho
      have Ho := hide ho
      have Hbel := hide hbel
      clear hown ho hrd hbel h h2
      go_wp2
      go_ret
      exact ⟨C, kk, rfl, Ho.out, Hbel.out⟩

/-- counted: how many bytes follow, and these. -/
theorem pcounted_any (base g mid l c m d : Nat) (B : Option Addr) (xs ys : List UInt8) (w : World) (hown : w.ownsRow base 5 1 (.slice (some ⟨g, 0, none⟩) l c) l (bv xs)) (hg : g < mid)
    (h2 : Rd w B m (bv ys)) (hmid : ∀ b o, B = some ⟨b, o, none⟩ → 0 < m → mid ≤ b) (hl : l ≤ 1000) (hm : m ≤ 255) (hbase : base ≤ w.heap.size) :
    Calls Try.prog 70 #[.slice (some ⟨g, 0, none⟩) l c, .slice B m d] w fun e w' => ∃ C k, e = .returned (.slice C (l + 1 + m) k) ∧ w'.ownsRow base 5 1 (.slice C (l + 1 + m) k) (l + 1 + m) (bv (xs ++ cntL ys)) ∧ Below base w w' := by
  have hy : ys.length = m := by rw [← bv_length]; exact h2.1
  have Hfin : Hid (bv (xs ++ cntL ys) = bv xs ++ [.int .u8 (m : Int)] ++ bv ys) := by
    show _ = _
    rw [cntL, hy, bv_append, List.append_assoc]
    congr 1
    rw [← bv_byte m (by omega)]
    rfl
  have hb1 : Below w.heap.size w (w.alloc (.cells #[.int .u8 (m : Int)] 5)) := (Below.refl _ _).alloc (Nat.le_refl _) _
  have Hown := hide (own_keep hown hb1)
  have H2 := hide (h2.keep hb1)
  have Hb1 := hide ((Below.refl base w).alloc hbase (.cells #[.int .u8 (m : Int)] 5))
  have Hmid := hide hmid
  have qm : (m : Int) % 256 = m := by omega
  clear hown h2 hb1 hmid hy
  go_enter Try.func70, Try.ntmps70
  go_wp2_with (first
    | (at_builtin; refine wpList_app rfl (.tmp 5) (.tmp 9) 38 rfl 5 _ _ Try.underlying38 u8_info rfl base _ l c _ rfl Hown.out _ 1 1 [_] rfl (rd_one _ _ _) (by intro u hu; simp at hu; subst hu; rfl) (by unfold maxLen; omega) (by omega) (by simp; omega) ?_
       intro A3 c3 w3 o3 g3 b3
       have r3 := H2.out.grown g3 (fun b o e h0 => by have := Hmid.out b o e h0; simp [Value.ownBlock]; omega)
       have Hb3 := hide (Hb1.out.trans b3)
       clear b3 g3 Hown Hmid Hb1 H2
       have hb3 : base ≤ w3.heap.size := Nat.le_trans hbase Hb3.out.size)
    | (at_builtin; refine wpList_app rfl (.tmp 11) (.tmp 12) 38 rfl 5 _ _ Try.underlying38 u8_info rfl base _ (l + 1) c3 _ rfl o3 _ m d _ rfl r3 (bv_one _) (by unfold maxLen; omega) (by omega) hb3 ?_
       intro A4 c4 w4 o4 g4 b4
       rw [← Hfin.out] at o4
       have Ho := hide o4
       have Hb := hide (Hb3.out.trans b4)
       clear o4 b4 g4 r3 o3 Hb3))
  go_ret
  exact ⟨A4, c4, rfl, Ho.out, Hb.out⟩

end Go.Proofs.Ytfpfijggmfeejaa

namespace Go.Proofs.Ytfpfijggmfeejaa
set_option linter.unusedVariables false
set_option linter.unusedSimpArgs false
open Go.RowKit

theorem packed_any (A : Option Addr) (n c m : Nat) (xs : List Int) (w : World) (h : Rd w A n (iv xs)) (hn : n ≤ 100000) (hb : bitsB xs = true) (hm : m = (n + 7) / 8) :
    Calls Try.prog 71 #[.slice A n c] w fun e w' => e = .returned (.slice (some ⟨w.heap.size, 0, none⟩) m m) ∧ Blk w' w.heap.size 5 (bv (packL xs)) ∧ Below w.heap.size w w' := by
  have hl : xs.length = n := by rw [← iv_length]; exact h.1
  have HP := hide (pack_ok A n c m xs w h hn hb (by omega) (by omega))
  have Hp : Hid (packL xs = pkTo xs m n) := by show _ = _; rw [packL, hl, hm]
  clear h hl hb hm
  go_enter Try.func71, Try.ntmps71
  go_wp2_with fail
  refine HP.out.mono ?_
  rintro e w1 ⟨rfl, k1, b1⟩
  rw [← Hp.out] at k1
  have K1 := hide k1
  have B1 := hide b1
  clear k1 b1
  go_wp2
  go_ret
  exact ⟨rfl, K1.out, B1.out⟩

theorem wAt_in (xs : List UInt8) (i : Nat) (x y : UInt8) (hx : xs[i]? = some x) (hy : xs[i + 1]? = some y) : wAt xs i = 256 * x.toNat + y.toNat := by
  have h1 := (List.getElem?_eq_some_iff.1 hy).1
  rw [wAt, if_pos (by omega), hx, hy]
  rfl
theorem wAt_out (xs : List UInt8) (i : Nat) (h : xs.length < i + 2) : wAt xs i = 0 := by rw [wAt, if_neg (by omega)]

theorem wordAt_any (A : Option Addr) (l c i : Nat) (ii : Int) (hii : ii = (i : Int)) (xs : List UInt8) (w : World) (h : Rd w A l (bv xs)) (hl : l ≤ 1000000) (hi : i ≤ 1000000) :
    Calls Try.prog 79 #[.slice A l c, .int .i64 ii] w fun e w' => e = .returned (.int .i64 (wAt xs i)) ∧ ∃ nq, w' = w.drewN nq := by
  subst hii
  have hxl : xs.length = l := by rw [← bv_length]; exact h.1
  by_cases hin : i + 2 ≤ l
  · obtain ⟨x, hx⟩ : ∃ x, xs[i]? = some x := ⟨xs[i], List.getElem?_eq_getElem (by omega)⟩
    obtain ⟨y, hy⟩ : ∃ y, xs[i + 1]? = some y := ⟨xs[i + 1], List.getElem?_eq_getElem (by omega)⟩
    have HA := hide (at_ok A l c i xs w h hin (by unfold maxLen; omega) x y hx hy)
    rw [wAt_in xs i x y hx hy]
    clear hx hy h
    go_enter Try.func79, Try.ntmps79
    go_wp2_with fail
    refine HA.out.mono ?_
    rintro e w1 ⟨rfl, nq, rfl⟩
    go_wp2
    go_ret
    exact ⟨rfl, nq, rfl⟩
  · have HA := hide (at_more A l c i w (by omega) (by omega) (by unfold maxLen; omega))
    rw [wAt_out xs i (by omega)]
    clear h
    go_enter Try.func79, Try.ntmps79
    go_wp2_with fail
    refine HA.out.mono ?_
    rintro e w1 ⟨rfl, rfl⟩
    go_wp2
    go_ret
    exact ⟨rfl, 0, rfl⟩

/-- j words from i on. -/
def wordsTo (xs : List UInt8) (i j : Nat) : List Int := (List.range j).map fun q => wAt xs (i + 2 * q)
theorem wordsTo_succ (xs : List UInt8) (i j : Nat) : wordsTo xs i (j + 1) = wordsTo xs i j ++ [wAt xs (i + 2 * j)] := by simp [wordsTo, List.range_succ]
theorem wAt_drop (xs : List UInt8) (i k : Nat) : wAt (xs.drop i) k = wAt xs (i + k) := by
  unfold wAt
  by_cases h : i + k + 2 ≤ xs.length
  · rw [if_pos h, if_pos (by simp; omega)]
    simp [List.getElem?_drop, Nat.add_assoc]
  · rw [if_neg h, if_neg (by simp; omega)]
theorem wordsL_range : ∀ (n : Nat) (xs : List UInt8), xs.length ≤ n → wordsL xs = wordsTo xs 0 (xs.length / 2)
  | _, [], _ => rfl
  | _, [x], _ => by simp [wordsL, wordsTo]
  | 0, x :: y :: r, h => absurd h (by simp)
  | n + 1, x :: y :: r, h => by
    have ih := wordsL_range n r (by simp at h; omega)
    rw [wordsL, ih]
    have e : (x :: y :: r).length / 2 = r.length / 2 + 1 := by simp only [List.length_cons]; omega
    rw [e, wordsTo, wordsTo, List.range_succ_eq_map, List.map_cons, List.map_map]
    congr 1
    apply List.map_congr_left
    intro q _
    have := wAt_drop (x :: y :: r) 2 (0 + 2 * q)
    simp only [List.drop_succ_cons, List.drop_zero] at this
    rw [this]
    show wAt _ _ = wAt _ (0 + 2 * (q + 1))
    congr 1
    omega
theorem wordsL_drop (xs : List UInt8) (i : Nat) : wordsL (xs.drop i) = wordsTo xs i ((xs.length - i) / 2) := by
  rw [wordsL_range _ _ (Nat.le_refl _), List.length_drop, wordsTo, wordsTo]
  apply List.map_congr_left
  intro q _
  rw [wAt_drop, Nat.zero_add]

theorem wordsFrom_any (A : Option Addr) (l c i0 : Nat) (ii : Int) (hii : ii = (i0 : Int)) (xs : List UInt8) (w : World) (h : Rd w A l (bv xs)) (hl : l ≤ 100000) (hi : i0 ≤ 100) (m : Nat) (hm : m = (l - i0) / 2) :
    Calls Try.prog 68 #[.slice A l c, .int .i64 ii] w (RetOwn 3 m (iv (wordsL (xs.drop i0))) w) := by
  subst hii
  have hxl : xs.length = l := by rw [← bv_length]; exact h.1
  rw [wordsL_drop, hxl, ← hm]
  go_enter Try.func68, Try.ntmps68
  go_wp2
  go_loopw [1, 5] (fun i v wr => ∃ (j : Nat) (C : Option Addr) (k : Nat), j ≤ m ∧ i = .int .i64 ((i0 + 2 * j : Nat) : Int) ∧ v = .slice C j k ∧ wr.ownsRow w.heap.size 3 1 (.slice C j k) j (iv (wordsTo xs i0 j)) ∧ Below w.heap.size w wr) (fun i _ _ => l + 200 - (intOf i).toNat)
  case atStart => exact ⟨0, none, 0, by omega, rfl, rfl, World.ownsRow_nil _ _ _ _, Below.refl _ _⟩
  case round =>
    obtain ⟨j, C, k, hj, rfl, rfl, hown, hbel⟩ := hrel
    by_cases hlt : j < m
    · have q1 : decide ((i0 : Int) + 2 * j + 2 ≤ l) = true := by simp; omega
      have HW := hide (fun ii (hii : ii = ((i0 + 2 * j : Nat) : Int)) => wordAt_any A l c (i0 + 2 * j) ii hii xs wr (h.keep hbel) (by omega) (by omega))
      have Hs := hide (wordsTo_succ xs i0 j)
      have Hown := hide hown
      have Hbel := hide hbel
      clear hown hbel h
      generalize wAt xs (i0 + 2 * j) = z at *
      go_wp2_with fail
      refine (HW.out _ (by omega)).mono ?_
      rintro e w1 ⟨rfl, nq, rfl⟩
      have ho : (wr.drewN nq).ownsRow w.heap.size 3 1 (.slice C j k) j (iv (wordsTo xs i0 j)) := Hown.out
      have hb : Below w.heap.size w (wr.drewN nq) := below_drewN Hbel.out nq
      have Ho := hide (ho.alloc (.cells #[.int .i64 z] 3))
      have Hb := hide (hb.alloc hb.size (.cells #[.int .i64 z] 3))
      clear ho hb Hown Hbel HW
      go_wp2_with (at_builtin; refine wpList_app rfl (.tmp 13) (.tmp 17) 35 rfl 3 _ _ Try.underlying35 int_info rfl w.heap.size C j k _ rfl Ho.out _ 1 1 [_] rfl (rd_one _ _ _) (by intro u hu; simp at hu; subst hu; rfl) (by unfold maxLen; omega) (by omega) Hb.out.size ?_; intro A3 c3 w3 o3 g3 b3; rw [show iv (wordsTo xs i0 j) ++ [Value.int .i64 z] = iv (wordsTo xs i0 (j + 1)) from by rw [Hs.out, iv_append]; rfl] at o3)
      exact ⟨⟨j + 1, A3, c3, by omega, by go_num, rfl, o3, Hb.out.trans b3⟩, by simp [intOf]; omega⟩
    · obtain rfl : j = m := by omega
      have q1 : decide ((i0 : Int) + 2 * j + 2 ≤ l) = false := by simp; omega
      have Hown := hide hown
      have Hbel := hide hbel
      clear hown hbel h
      go_wp2
      go_ret
      exact ⟨C, k, rfl, Hown.out, Hbel.out⟩

/-- A slice in new memory is handed back. -/
def RetNew (n : Nat) (vs : List Value) (w : World) (e : Ending) (w' : World) : Prop := ∃ C k, e = .returned (.slice C n k) ∧ n ≤ k ∧ Rd w' C n vs ∧ Below w.heap.size w w' ∧ ∀ b o, C = some ⟨b, o, none⟩ → w.heap.size ≤ b
theorem RetOwn.new {e : TypeId} {n : Nat} {vs : List Value} {w : World} {x : Ending} {w' : World} (h : RetOwn e n vs w x w') : RetNew n vs w x w' := by
  obtain ⟨C, k, h1, h2, h3⟩ := h
  refine ⟨C, k, h1, own_cap h2, own_rd h2, h3, fun b o hC => ?_⟩
  subst hC
  rcases h2.2 with ⟨hv, _⟩ | ⟨g, cap, cur, hv, hg, _⟩
  · cases hv
  · injection hv with hA
    injection hA with hA
    injection hA with hA
    omega

theorem bitsL_length_le (b : List UInt8) (n : Nat) : (bitsL b n).length ≤ n := by
  unfold bitsL
  split
  · rw [unpackL_length]; exact Nat.le_refl _
  · simp

theorem unpacked_any (A : Option Addr) (l c i n : Nat) (ii ni : Int) (hii : ii = (i : Int)) (hni : ni = (n : Int)) (xs : List UInt8) (w : World) (h : Rd w A l (bv xs)) (hc : l ≤ c) (hl : l ≤ 100000) (hi : i ≤ 100) (hn : n ≤ 100000) :
    Calls Try.prog 67 #[.slice A l c, .int .i64 ii, .int .i64 ni] w (RetNew (bitsL (xs.drop i) n).length (iv (bitsL (xs.drop i) n)) w) := by
  subst hii hni
  have hxl : xs.length = l := by rw [← bv_length]; exact h.1
  rcases Nat.lt_or_ge l i with hil | hil
  · have q1 : (l : Int) < (i : Int) := by omega
    rw [show xs.drop i = xs.drop l from by rw [List.drop_eq_nil_of_le (by omega), List.drop_eq_nil_of_le (by omega)]]
    have hsl := fun W => run_slTail (P := Try.prog) 38 5 Try.underlying38 u8_size A l c (l : Int) l rfl (Nat.le_refl l) W
    have ht := h.tail l c (Nat.le_refl l) hc
    rw [bv_drop] at ht
    rw [Nat.sub_self] at ht; simp only [Nat.sub_self] at hsl
    by_cases hin : n ≤ 8 * 0
    · have HU := hide (unpack_ok _ 0 (c - l) n (xs.drop l) w ht hin (by omega))
      rw [show bitsL (xs.drop l) n = unpackL (xs.drop l) n from by rw [bitsL, if_pos (by rw [List.length_drop]; omega)], unpackL_length]
      clear h ht hin hil
      go_enter Try.func67, Try.ntmps67
      go_wp2_with fail
      refine HU.out.mono ?_
      rintro e w1 ⟨rfl, k1, b1⟩
      have hrd := k1.reads (Below.refl _ _) n (by rw [iv_length, unpackL_length])
      have R1 := hide hrd
      have B1 := hide b1
      clear k1 b1 hrd
      go_wp2
      go_ret
      exact ⟨_, _, rfl, Nat.le_refl _, R1.out, B1.out, fun b o e => by injection e with e; injection e with e; exact Nat.le_of_eq e⟩
    · have HU := hide (unpack_more (cutA A l c) 0 (c - l) n w (by unfold maxLen; omega) (by omega))
      rw [show bitsL (xs.drop l) n = [] from by rw [bitsL, if_neg (by rw [List.length_drop]; omega)]]
      clear h ht hin hil
      go_enter Try.func67, Try.ntmps67
      go_wp2_with fail
      refine HU.out.mono ?_
      rintro e w1 ⟨rfl, rfl⟩
      go_wp2
      go_ret
      exact ⟨_, _, rfl, Nat.le_refl _, Rd.nil _ _, Below.refl _ _, fun b o e => by cases e⟩
  · have q1 : ¬ (l : Int) < (i : Int) := by omega
    have q2 : (i : Int) ≤ (l : Int) := by omega
    have hsl := fun W => run_slTail (P := Try.prog) 38 5 Try.underlying38 u8_size A l c (i : Int) i rfl hil W
    have ht := h.tail i c hil hc
    rw [bv_drop] at ht
    skip
    by_cases hin : n ≤ 8 * (l - i)
    · have HU := hide (unpack_ok _ (l - i) (c - i) n (xs.drop i) w ht hin (by omega))
      rw [show bitsL (xs.drop i) n = unpackL (xs.drop i) n from by rw [bitsL, if_pos (by rw [List.length_drop]; omega)], unpackL_length]
      clear h ht hin hil
      go_enter Try.func67, Try.ntmps67
      go_wp2_with fail
      refine HU.out.mono ?_
      rintro e w1 ⟨rfl, k1, b1⟩
      have hrd := k1.reads (Below.refl _ _) n (by rw [iv_length, unpackL_length])
      have R1 := hide hrd
      have B1 := hide b1
      clear k1 b1 hrd
      go_wp2
      go_ret
      exact ⟨_, _, rfl, Nat.le_refl _, R1.out, B1.out, fun b o e => by injection e with e; injection e with e; exact Nat.le_of_eq e⟩
    · have HU := hide (unpack_more (cutA A i c) (l - i) (c - i) n w (by unfold maxLen; omega) (by omega))
      rw [show bitsL (xs.drop i) n = [] from by rw [bitsL, if_neg (by rw [List.length_drop]; omega)]]
      clear h ht hin hil
      go_enter Try.func67, Try.ntmps67
      go_wp2_with fail
      refine HU.out.mono ?_
      rintro e w1 ⟨rfl, rfl⟩
      go_wp2
      go_ret
      exact ⟨_, _, rfl, Nat.le_refl _, Rd.nil _ _, Below.refl _ _, fun b o e => by cases e⟩

end Go.Proofs.Ytfpfijggmfeejaa
