/-
  What is proved here: what the document's own write and mask of layer 4 do. Conditions: a slave that lies in memory, its rows words; what is written lies elsewhere, and fits; words.
-/
import Derived.Test.YtohiblldhdglgaaRef4b
import Derived.Test.YtohiblldhdglgaaReads4a
namespace Go.Proofs.Ytohiblldhdglgaa
set_option linter.unusedVariables false
set_option linter.unusedSimpArgs false
open Go.RowKit

/-- The slice lies outside. -/
def OutA (lo hi : Nat) (A : Option Addr) : Prop := ∀ b o, A = some ⟨b, o, none⟩ → b < lo ∨ hi ≤ b

set_option maxHeartbeats 1000000 in
theorem rWrite_any (lo hi g : Nat) (b : Nat → Nat) (R : Nat → List Int) (k at_ : Nat) (hk : k < 4) (A : Option Addr) (n c : Nat) (us : List Int) (w : World) (h : SlA 50 lo hi w g b R) (hr : Rd w A n (iv us)) (hA : OutA lo hi A) (hf : at_ + n ≤ (R k).length) (hR : (R k).length ≤ 65536) :
    Calls Try.prog 33 #[.pointer (some ⟨g, 0, none⟩), .int .i64 ((k : Int) + 1), .int .i64 (at_ : Int), .slice A n c] w fun e w' =>
      e = .returned (.tuple #[]) ∧ SlA 50 lo hi w' g b (upd R k (over (R k) at_ us)) ∧ Oth lo hi w w' := by
  have hl : us.length = n := by rw [← iv_length]; exact hr.1
  have HL := hide hl
  have H1 := hide h
  have HR := hide hr
  have HF := hide hf
  have HO := hide hA
  have k0 : 0 ≤ (k : Int) := by omega
  have k4 : (k : Int) < 4 := by omega
  clear h hr hl hA
  go_enter Try.func33, Try.ntmps33
  go_wp2
  go_loopw [8] (fun x wr => ∃ j : Nat, j ≤ n ∧ x = .int .i64 (j : Int) ∧ SlA 50 lo hi wr g b (upd R k (over (R k) at_ (us.take j))) ∧ Oth lo hi w wr) (fun x _ => n - (intOf x).toNat)
  case atStart => exact ⟨0, by omega, rfl, by rw [List.take_zero, over_nil, upd_self]; exact H1.out, Oth.refl _ _ _⟩
  case round =>
    obtain ⟨j, hj, rfl, hs, ho⟩ := hrel
    have S := hide hs
    have O := hide ho
    clear hs ho
    by_cases hlj : j < n
    · have hlj' : j < us.length := by rw [HL.out]; exact hlj
      have q : (j : Int) < (n : Int) := by omega
      have el : (upd R k (over (R k) at_ (us.take j)) k).length = (R k).length := by
        rw [upd_same, over_length _ _ _ (by simp; omega)]
      have hli2 : at_ + j < (upd R k (over (R k) at_ (us.take j)) k).length := by rw [el]; omega
      have c0 : wr.cell? ⟨g, k, none⟩ = some (.slice (some ⟨b k, 0, none⟩) (R k).length (R k).length) := by
        have := S.out.cellk k hk
        rwa [el] at this
      have hrr := HR.out.out O.out HO.out
      obtain ⟨ba, oa, rfl, hbl, hc⟩ := hrr.at_ hlj
      have ca : wr.cell? ⟨ba, oa + j, none⟩ = some (.int .i64 us[j]) := hc j _ (iv_get us j hlj')
      have c1 : wr.cell? ⟨b k, at_ + j, none⟩ = some (.int .i64 ((upd R k (over (R k) at_ (us.take j)) k)[at_ + j])) := by rw [(S.out.row k hk).cell]; exact iv_get _ _ _
      have cf := (S.out.row k hk).frozen (at_ + j)
      generalize (upd R k (over (R k) at_ (us.take j)) k)[at_ + j] = y0 at c1
      have o1 : Oth (b k) (b k + 1) wr (wr.setCell ⟨b k, at_ + j, none⟩ (.int .i64 us[j])) := Oth.setCell wr _
      have k9 := (S.out.row k hk).set (at_ + j) (.int .i64 us[j])
      rw [iv_over1 _ _ _ hli2] at k9
      have hs := S.out.set k hk _ (over_length _ _ _ hli2) o1 k9
      rw [upd_upd, upd_same, over_step _ _ _ (by rw [HL.out]; exact HF.out) j hlj'] at hs
      have HS := hide hs
      have HO2 := hide (O.out.trans (S.out.wide k hk o1))
      clear hs o1 k9 el hli2 hc hrr hbl
      generalize us[j] = y at *
      have e1 : IntKind.i64.wrap (k : Int) = (k : Int) := wrap_nat k (by omega)
      have e2 : IntKind.i64.wrap ((at_ : Int) + (j : Int)) = (at_ : Int) + (j : Int) := by rw [IntKind.wrap_i64]; omega
      have e3 : (at_ : Int) + (j : Int) < ((R k).length : Int) := by omega
      have e4 : 0 ≤ (at_ : Int) + (j : Int) := by omega
      go_wp2_with fail
      refine wp_region_still_tail 14 (by kernel_rfl) (by kernel_rfl) ?_
      simp only [List.take_succ_cons, List.take_zero, List.drop_succ_cons, List.drop_zero]
      repeat still_step
      refine wpStill_nil ?_
      change wpList _ _ _ _ _ wr.drew
      go_wp2_with fail
      have bD : ∀ W : World, Below W.heap.size W W.drew := fun W => (Below.refl _ _).drew
      exact ⟨⟨j + 1, by omega, by go_num, HS.out.keep (bD _), HO2.out.on (bD _)⟩, by simp [intOf]; omega⟩
    · obtain rfl : j = n := by omega
      have q : ¬ (j : Int) < (j : Int) := by omega
      have hs := S.out
      rw [List.take_of_length_le (by rw [HL.out]; exact Nat.le_refl _)] at hs
      have HS := hide hs
      clear hs
      go_wp2
      go_end0
      exact ⟨rfl, HS.out, O.out⟩

/-! ### mask -/
/-- A word as two bytes. -/
def two16 (x : Nat) : List UInt8 := [UInt8.ofNat (x % 256), UInt8.ofNat (x / 256)]
theorem two16_bit (x : Nat) (hx : x ≤ 65535) (i : Nat) (hi : i < 16) : bitOf ((two16 x)[i / 8]?.getD 0) (i % 8) = ((x / 2 ^ i % 2 : Nat) : Int) := by
  have h : ∀ i, i < 16 → ((two16 x)[i / 8]?.getD 0).toNat / 2 ^ (i % 8) % 2 = x / 2 ^ i % 2 := by
    intro i hi
    have a1 : (UInt8.ofNat (x % 256)).toNat = x % 256 := by rw [UInt8.toNat_ofNat']; exact Nat.mod_eq_of_lt (by omega)
    have a2 : (UInt8.ofNat (x / 256)).toNat = x / 256 := by rw [UInt8.toNat_ofNat']; exact Nat.mod_eq_of_lt (by omega)
    by_cases h8 : i < 8
    · have e1 : i / 8 = 0 := by omega
      have e2 : i % 8 = i := by omega
      rw [e1, e2]
      simp only [two16, List.getElem?_cons_zero, Option.getD_some, a1]
      have := Nat.testBit_mod_two_pow x 8 i
      rw [show (2 : Nat) ^ 8 = 256 from rfl] at this
      have t1 := Nat.testBit_eq_decide_div_mod_eq (x := x % 256) (i := i)
      have t2 := Nat.testBit_eq_decide_div_mod_eq (x := x) (i := i)
      rw [t1, t2, decide_eq_true h8, Bool.true_and, decide_eq_decide] at this
      have m1 := Nat.mod_two_eq_zero_or_one (x % 256 / 2 ^ i)
      have m2 := Nat.mod_two_eq_zero_or_one (x / 2 ^ i)
      omega
    · have e1 : i / 8 = 1 := by omega
      have e2 : i = (i % 8) + 8 := by omega
      rw [e1]
      simp only [two16, List.getElem?_cons_succ, List.getElem?_cons_zero, Option.getD_some, a2]
      generalize i % 8 = t at *
      rw [e2, Nat.pow_add, Nat.mul_comm, ← Nat.div_div_eq_div_mul]
  unfold bitOf
  rw [h i hi]
theorem two16_get (x : Nat) (hx : x ≤ 65535) (i : Nat) (hi : i < 16) : (unpackL (two16 x) 16)[i]? = some ((x / 2 ^ i % 2 : Nat) : Int) := by
  unfold unpackL
  rw [List.getElem?_map, List.getElem?_range hi]
  simp only [Option.map_some]
  rw [two16_bit x hx i hi]
theorem mask_bit (x an o : Nat) (i : Nat) (hi : i < 16) (ha : an ≤ 65535) :
    (((x &&& an) ||| (o &&& (65535 - an))) / 2 ^ i % 2 : Nat) = (an / 2 ^ i % 2) * (x / 2 ^ i % 2) + (1 - an / 2 ^ i % 2) * (o / 2 ^ i % 2) := by
  have h2 : (65535 - an).testBit i = (decide (i < 16) && !an.testBit i) := by
    have := Nat.testBit_two_pow_sub_succ (x := an) (n := 16) (by omega) i
    rw [← this]
    congr 1
    omega
  have h1 : ((x &&& an) ||| (o &&& (65535 - an))).testBit i = ((x.testBit i && an.testBit i) || (o.testBit i && !an.testBit i)) := by
    rw [Nat.testBit_or, Nat.testBit_and, Nat.testBit_and, h2, decide_eq_true hi, Bool.true_and]
  simp only [Nat.testBit_eq_decide_div_mod_eq] at h1
  have m1 := Nat.mod_two_eq_zero_or_one (((x &&& an) ||| (o &&& (65535 - an))) / 2 ^ i)
  have m2 := Nat.mod_two_eq_zero_or_one (x / 2 ^ i)
  have m3 := Nat.mod_two_eq_zero_or_one (an / 2 ^ i)
  have m4 := Nat.mod_two_eq_zero_or_one (o / 2 ^ i)
  generalize ((x &&& an) ||| (o &&& (65535 - an))) / 2 ^ i % 2 = p at *
  generalize x / 2 ^ i % 2 = q at *
  generalize an / 2 ^ i % 2 = r at *
  generalize o / 2 ^ i % 2 = s at *
  rcases m1 with rfl | rfl <;> rcases m2 with rfl | rfl <;> rcases m3 with rfl | rfl <;> rcases m4 with rfl | rfl <;> simp at h1 ⊢
theorem mask_lt (x an o : Nat) (hx : x ≤ 65535) (ho : o ≤ 65535) : ((x &&& an) ||| (o &&& (65535 - an))) < 2 ^ 16 := by
  have l1 : x &&& an < 2 ^ 16 := Nat.lt_of_le_of_lt Nat.and_le_left (by omega)
  have l2 : o &&& (65535 - an) < 2 ^ 16 := Nat.lt_of_le_of_lt Nat.and_le_left (by omega)
  exact Nat.or_lt_two_pow l1 l2

end Go.Proofs.Ytohiblldhdglgaa
