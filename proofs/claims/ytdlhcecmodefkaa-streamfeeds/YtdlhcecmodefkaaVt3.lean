/-
  What is proved here: the contracts of package varint for plain callers; the document's own Is, Put, At of layer 8; the chapter's examples come out true. Conditions: slices of at most 2^62 bytes where they are read.
-/
import Derived.Test.YtdlhcecmodefkaaVt2
namespace Go.Proofs.Ytdlhcecmodefkaa
set_option linter.unusedVariables false
set_option linter.unusedSimpArgs false
open Go.RowKit

theorem vput_no (n : Int) (hn : isLen n = false) (w : World) : Calls Try.prog 28 #[.int .i64 n] w fun e w' => e = .returned (.tuple #[.slice none 0 0, .int .i64 1]) ∧ w = w' :=
  callsIn_wide.1 (put_no_in Fence.wide 3 trivial trivial rfl (by omega) n hn w)
theorem vput_ok (n : Nat) (hn : n ≤ 268435455) (w : World) : Calls Try.prog 28 #[.int .i64 (n : Int)] w fun e w' => ∃ C c, e = .returned (.tuple #[.slice C (dgL n) c, .int .i64 0]) ∧ dgL n ≤ c ∧ Rd w' C (dgL n) (bv (dg n)) ∧ Below w.heap.size w w' :=
  callsIn_wide.1 (put_ok_in Fence.wide 3 trivial trivial trivial trivial rfl (by omega) n hn w)
theorem vat_neg (A : Option Addr) (l c : Nat) (i : Int) (hi : i < 0) (w : World) : Calls Try.prog 104 #[.slice A l c, .int .i64 i] w fun e w' => e = .returned (.tuple #[.int .i64 0, .int .i64 0, .int .i64 1]) ∧ Below w.heap.size w w' :=
  callsIn_wide.1 (vat_neg_in Fence.wide 3 trivial rfl A l c i hi w)
theorem vat_any (A : Option Addr) (l c i : Nat) (xs : List UInt8) (w : World) (hA : Rd w A l (bv xs)) (hlc : l ≤ c) (hlm : l ≤ maxLen) (hxs : xs.length = l) :
    Calls Try.prog 104 #[.slice A l c, .int .i64 (i : Int)] w fun e w' => e = .returned (.tuple #[.int .i64 (atR xs i).1, .int .i64 (atR xs i).2.1, .int .i64 (atR xs i).2.2]) ∧ Below w.heap.size w w' :=
  callsIn_wide.1 (vat_in Fence.wide 3 trivial trivial trivial rfl (by omega) A l c i xs w hA hlc hlm hxs)

theorem rvIs_any (n : Int) (w : World) : Calls Try.prog 36 #[.int .i64 n] w fun e w' => e = .returned (.bool (isLen n)) ∧ w = w' := by
  by_cases h0 : 0 ≤ n
  · by_cases h1 : n ≤ 268435455
    · rw [show isLen n = true by simp [isLen, h0, h1]]
      go_enter Try.func36, Try.ntmps36
      go_wp2
      go_ret
      exact ⟨rfl, rfl⟩
    · rw [show isLen n = false by simp [isLen, h1]]
      go_enter Try.func36, Try.ntmps36
      go_wp2
      go_ret
      exact ⟨rfl, rfl⟩
  · rw [show isLen n = false by simp [isLen, h0]]
    go_enter Try.func36, Try.ntmps36
    go_wp2
    go_ret
    exact ⟨rfl, rfl⟩

set_option maxHeartbeats 2000000 in
theorem rvPut_any (n : Nat) (hn : n ≤ 268435455) (w : World) : Calls Try.prog 39 #[.int .i64 (n : Int)] w fun e w' => ∃ C c, e = .returned (.slice C (dgL n) c) ∧ dgL n ≤ c ∧ Rd w' C (dgL n) (bv (dg n)) ∧ Below w.heap.size w w' := by
  go_enter Try.func39, Try.ntmps39
  have hnil : w.ownsRow w.heap.size 5 1 (.slice none 0 0) 0 [] := World.ownsRow_nil _ _ _ _
  have Hlen := hide (dg_length n hn)
  have HL := hide (dgL_le n)
  go_wp2_with fail
  go_loopw [0, 3] (fun p v wr => ∃ (pre : List UInt8) (r k : Nat) (C : Option Addr) (c : Nat), p = .int .i64 (r : Int) ∧ v = .slice C k c ∧ pre.length = k ∧ dg n = pre ++ dg r ∧ r ≤ n ∧ wr.ownsRow w.heap.size 5 1 (.slice C k c) k (bv pre) ∧ Below w.heap.size w wr) (fun p _ _ => (intOf p).toNat)
  case atStart => exact ⟨[], n, 0, none, 0, rfl, rfl, rfl, rfl, Nat.le_refl _, hnil, Below.refl _ _⟩
  case round =>
    obtain ⟨pre, r, k, C, c, rfl, rfl, hk, hx, hr, hown, hB⟩ := hrel
    have Hx := hide hx
    have Hk := hide hk
    have HB := hide hB
    have Hr := hide hr
    have hk4 : k ≤ 4 := by have h1 := HL.out; rw [← Hlen.out, hx, List.length_append] at h1; omega
    have hrn : r ≤ 268435455 := by omega
    clear hx hk hB hr
    by_cases h1 : r < 128
    · have q : ¬ (128 : Int) ≤ (r : Int) := by omega
      go_wp2_with (at_builtin; refine wpList_app rfl (.tmp 15) (.tmp 18) 31 rfl 5 _ _ Try.underlying31 u8_info rfl w.heap.size C k c (bv pre) rfl (hown.alloc _) (some ⟨wr.heap.size, 0, none⟩) 1 1 [.int .u8 (r : Int)] rfl (rd_one _ _ _) (by simp [Value.oneCell']) (by unfold maxLen; omega) (by omega) (by have := HB.out.size; simp; omega) ?_; intro A1 c1 w1 o1 g1 b1)
      have hx := Hx.out
      rw [dg_small (n := r) h1] at hx
      have hbv : bv pre ++ [Value.int .u8 (r : Int)] = bv (dg n) := by rw [hx, bv_append]; congr 1; simp [bv]; omega
      have hkn : k + 1 = dgL n := by rw [← Hlen.out, hx, List.length_append, Hk.out]; rfl
      rw [hbv] at o1
      go_ret
      refine ⟨A1, c1, by rw [hkn]; rfl, ?_, ?_, HB.out.trans (((Below.refl _ _).alloc HB.out.size _).trans b1)⟩
      · rw [← hkn]; exact own_cap o1
      · rw [← hkn]; exact own_rd o1
    · have q : (128 : Int) ≤ (r : Int) := by omega
      go_wp2_with (at_builtin; refine wpList_app rfl (.tmp 6) (.tmp 11) 31 rfl 5 _ _ Try.underlying31 u8_info rfl w.heap.size C k c (bv pre) rfl (hown.alloc _) (some ⟨wr.heap.size, 0, none⟩) 1 1 [.int .u8 ((r : Int) % 128 + 128)] rfl (rd_one _ _ _) (by simp [Value.oneCell']) (by unfold maxLen; omega) (by omega) (by have := HB.out.size; simp; omega) ?_; intro A1 c1 w1 o1 g1 b1)
      have hx := Hx.out
      rw [dg_great (n := r) (by omega)] at hx
      have hbv : bv pre ++ [Value.int .u8 ((r : Int) % 128 + 128)] = bv (pre ++ [UInt8.ofNat (r % 128 + 128)]) := by rw [bv_append]; congr 1; simp [bv]; omega
      rw [hbv] at o1
      refine ⟨⟨pre ++ [UInt8.ofNat (r % 128 + 128)], r / 128, k + 1, A1, c1, by go_num, rfl, by simp [Hk.out], by rw [hx]; simp, by have := Hr.out; omega, o1, HB.out.trans (((Below.refl _ _).alloc HB.out.size _).trans b1)⟩, by simp [intOf]; omega⟩

end Go.Proofs.Ytdlhcecmodefkaa
