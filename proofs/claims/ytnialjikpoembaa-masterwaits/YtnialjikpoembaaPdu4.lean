/-
  What is proved here: what pdu's put, counted, packed, unpacked, wordAt and wordsFrom return. Conditions: lengths up to some thousand.
-/
import Derived.Test.YtnialjikpoembaaPduDef
namespace Go.Proofs.Ytnialjikpoembaa
set_option linter.unusedVariables false
set_option linter.unusedSimpArgs false
open Go.RowKit

theorem Rd.grown {w w' : World} {row : Option Nat} {B : Option Addr} {m : Nat} {ys : List Value} (h : Rd w B m ys) (hg : w.grownBy w' row) (hne : ∀ b o, B = some ⟨b, o, none⟩ → 0 < m → some b ≠ row) : Rd w' B m ys :=
  ⟨h.1, fun hm => by
    obtain ⟨b, o, e, hl, hc⟩ := h.2 hm
    have hk := hg.block b hl (hne b o e hm)
    refine ⟨b, o, e, Nat.lt_of_lt_of_le hl hg.size, fun i v hv => ?_⟩
    have := hc i v hv
    unfold World.cell? at this ⊢
    simpa only [hk] using this⟩

theorem putL_take (vs : List Int) (k : Nat) (h : k < vs.length) : putL (vs.take (k + 1)) = putL (vs.take k) ++ word vs[k].toNat := by
  rw [putL, List.take_succ_eq_append_getElem h, List.flatMap_append]
  simp [putL]
theorem upToB_get (vs : List Int) (top : Int) (h : upToB vs top = true) (k : Nat) (hk : k < vs.length) : 0 ≤ vs[k] ∧ vs[k] ≤ top := by
  have := List.all_eq_true.1 h vs[k] (List.getElem_mem hk)
  simpa using this

/-- put: words behind bytes, in a new block. -/
theorem pput_any (A B : Option Addr) (l c m d : Nat) (xs : List UInt8) (vs : List Int) (w : World) (h : Rd w A l (bv xs)) (h2 : Rd w B m (iv vs)) (hv : upToB vs 65535 = true) (hl : l ≤ 1000) (hm : m ≤ 5000) (hm1 : 0 < m) :
    Calls Try.prog 75 #[.slice A l c, .slice B m d] w (RetOwn 5 (l + 2 * m) (bv (xs ++ putL vs)) w) := by
  have hvl : vs.length = m := by rw [← iv_length]; exact h2.1
  have Hvl := hide hvl
  have Hv := hide hv
  clear hvl hv
  go_enter Try.func75, Try.ntmps75
  go_wp2
  go_loopw [0, 9] (fun v i wr => ∃ (k : Nat) (C : Option Addr) (kk : Nat), k ≤ m ∧ i = .int .i64 (k : Int) ∧ v = .slice C (l + 2 * k) kk ∧ Rd wr C (l + 2 * k) (bv (xs ++ putL (vs.take k))) ∧ (0 < k → wr.ownsRow w.heap.size 5 1 (.slice C (l + 2 * k) kk) (l + 2 * k) (bv (xs ++ putL (vs.take k)))) ∧ Below w.heap.size w wr) (fun _ i _ => m - (intOf i).toNat)
  case atStart => exact ⟨0, A, c, by omega, rfl, rfl, by simpa [putL] using h, fun h0 => absurd h0 (Nat.lt_irrefl 0), Below.refl _ _⟩
  case round =>
    obtain ⟨k, C, kk, hk, rfl, rfl, hrd, hown, hbel⟩ := hrel
    by_cases hlt : k < m
    · obtain ⟨b, o, rfl, hbl, hc⟩ := h2.at_ hlt
      have hlt' : k < vs.length := by rw [Hvl.out]; exact hlt
      have c0 := hc k _ (iv_get vs k hlt')
      have cA : wr.cell? ⟨b, o + k, none⟩ = some (.int .i64 vs[k]) := (hbel.cell (p := ⟨b, o + k, none⟩) hbl).trans c0
      have hw := upToB_get vs 65535 Hv.out k hlt'
      have Htk := hide (putL_take vs k hlt')
      have q : (k : Int) < (m : Int) := by omega
      generalize vs[k] = z at *
      obtain ⟨zn, rfl⟩ := Int.eq_ofNat_of_zero_le hw.1
      have HP := hide (fun N hN => putI C (l + 2 * k) kk (zn : Int) zn N rfl hN (xs ++ putL (vs.take k)) wr hrd (by omega) (by omega))
      have Hbel := hide hbel
      have hln : (bv (xs ++ putL (vs.take k))).length = l + 2 * k := hrd.1
      have Hln := hide hln
      clear hc c0 hown hrd hbel h h2 hln
      go_wp2_with fail
      refine (HP.out (l + 2 * (k + 1)) (by omega)).mono ?_
      rintro e w1 ⟨rfl, k1, b1⟩
      rw [List.append_assoc, ← show putL (vs.take (k + 1)) = putL (vs.take k) ++ word zn from Htk.out] at k1
      have hlen : (bv (xs ++ putL (vs.take (k + 1)))).length = l + 2 * (k + 1) := by
        have e1 : putL (vs.take (k + 1)) = putL (vs.take k) ++ word zn := Htk.out
        have e2 := Hln.out
        rw [bv_length] at e2 ⊢
        rw [e1, ← List.append_assoc, List.length_append, e2]
        simp [word]
        omega
      have o1 := k1.own (Hbel.out.size) (l + 2 * (k + 1)) hlen (by unfold maxLen; omega)
      have b2 := below_on Hbel.out b1
      have r1 := own_rd o1
      have Ho := hide o1
      have Hr := hide r1
      have Hb2 := hide b2
      clear o1 r1 b2 b1 k1 hlen
      go_wp2
      exact ⟨⟨k + 1, _, _, by omega, by go_num, rfl, Hr.out, fun _ => Ho.out, Hb2.out⟩, by simp [intOf]; omega⟩
    · obtain rfl : k = m := by omega
      have ho := hown hm1
      rw [List.take_of_length_le (Nat.le_of_eq Hvl.out)] at ho
      have Ho := hide ho
      have Hbel := hide hbel
      clear hown ho hrd hbel h h2
      go_wp2
      go_ret
      exact ⟨C, kk, rfl, Ho.out, Hbel.out⟩

/-- counted: how many bytes follow, and these. -/
theorem pcounted_any (base g mid l c m d : Nat) (B : Option Addr) (xs ys : List UInt8) (w : World) (hown : w.ownsRow base 5 1 (.slice (some ⟨g, 0, none⟩) l c) l (bv xs)) (hg : g < mid)
    (h2 : Rd w B m (bv ys)) (hmid : ∀ b o, B = some ⟨b, o, none⟩ → 0 < m → mid ≤ b) (hl : l ≤ 1000) (hm : m ≤ 255) (hbase : base ≤ w.heap.size) :
    Calls Try.prog 73 #[.slice (some ⟨g, 0, none⟩) l c, .slice B m d] w fun e w' => ∃ C k, e = .returned (.slice C (l + 1 + m) k) ∧ w'.ownsRow base 5 1 (.slice C (l + 1 + m) k) (l + 1 + m) (bv (xs ++ cntL ys)) ∧ Below base w w' := by
  have hy : ys.length = m := by rw [← bv_length]; exact h2.1
  have Hfin : Hid (bv (xs ++ cntL ys) = bv xs ++ [.int .u8 (m : Int)] ++ bv ys) := by
    show _ = _
    rw [cntL, hy, bv_append, List.append_assoc]
    congr 1
    rw [← bv_byte m (by omega)]
    rfl
  have hb1 : Below w.heap.size w (w.alloc (.cells #[.int .u8 (m : Int)] 5)) := (Below.refl _ _).alloc (Nat.le_refl _) _
  have Hown := hide (own_keep hown hb1)
  have H2 := hide (h2.keep hb1)
  have Hb1 := hide ((Below.refl base w).alloc hbase (.cells #[.int .u8 (m : Int)] 5))
  have Hmid := hide hmid
  have qm : (m : Int) % 256 = m := by omega
  clear hown h2 hb1 hmid hy
  go_enter Try.func73, Try.ntmps73
  go_wp2_with (first
    | (at_builtin; refine wpList_app rfl (.tmp 5) (.tmp 9) 38 rfl 5 _ _ Try.underlying38 u8_info rfl base _ l c _ rfl Hown.out _ 1 1 [_] rfl (rd_one _ _ _) (by intro u hu; simp at hu; subst hu; rfl) (by unfold maxLen; omega) (by omega) (by simp; omega) ?_
       intro A3 c3 w3 o3 g3 b3
       have r3 := H2.out.grown g3 (fun b o e h0 => by have := Hmid.out b o e h0; simp [Value.ownBlock]; omega)
       have Hb3 := hide (Hb1.out.trans b3)
       clear b3 g3 Hown Hmid Hb1 H2
       have hb3 : base ≤ w3.heap.size := Nat.le_trans hbase Hb3.out.size)
    | (at_builtin; refine wpList_app rfl (.tmp 11) (.tmp 12) 38 rfl 5 _ _ Try.underlying38 u8_info rfl base _ (l + 1) c3 _ rfl o3 _ m d _ rfl r3 (bv_one _) (by unfold maxLen; omega) (by omega) hb3 ?_
       intro A4 c4 w4 o4 g4 b4
       rw [← Hfin.out] at o4
       have Ho := hide o4
       have Hb := hide (Hb3.out.trans b4)
       clear o4 b4 g4 r3 o3 Hb3))
  go_ret
  exact ⟨A4, c4, rfl, Ho.out, Hb.out⟩

end Go.Proofs.Ytnialjikpoembaa
