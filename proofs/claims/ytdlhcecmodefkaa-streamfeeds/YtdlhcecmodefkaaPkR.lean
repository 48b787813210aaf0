/-
  What is proved here: the document's own reader of layer 10 (Read.byte1, word, text), digit and flag. Condition: at most 2^40 bytes.
-/
import Derived.Test.YtdlhcecmodefkaaPkMath
import Derived.Test.YtdlhcecmodefkaaMem5
import Derived.Test.YtdlhcecmodefkaaInfo
import Derived.Test.YtdlhcecmodefkaaStructs
import Derived.LoopTactic
import Derived.WalkMore
namespace Go.Proofs.Ytdlhcecmodefkaa
set_option linter.unusedVariables false
set_option linter.unusedSimpArgs false
open Go.RowKit

/-- A reader in memory. -/
def RdA (w : World) (g : Nat) (s : Rdr) : Prop := ∃ (A : Option Addr) (k : Nat), Blk w g 71 [.slice A s.1.length k, .bool s.2] ∧ s.1.length ≤ k ∧ Rd w A s.1.length (bv s.1)
/-- What a call of the reader leaves. -/
def AftR (g : Nat) (w w' : World) : Prop := But (fun i => i = g) w w' ∧ KeepB w w'
theorem AftR.trans {g : Nat} {w w' w'' : World} (h : AftR g w w') (k : AftR g w' w'') : AftR g w w'' := ⟨h.1.trans k.1 (fun _ _ e => e), h.2.trans k.2⟩
theorem AftR.refl (g : Nat) (w : World) : AftR g w w := ⟨But.refl _ _, fun _ _ _ h => h⟩
theorem AftR.below {g B : Nat} {v w w' : World} (h : Below B v w) (k : AftR g w w') (hB : B ≤ g) (hw : B ≤ w.heap.size) : Below B v w' := But.below h k.1 (fun i e => by omega) hw

theorem rB_nil (b : Bool) : rB ([], b) = (0, ([], true)) := rfl
theorem rB_cons (c : UInt8) (t : List UInt8) (b : Bool) : rB (c :: t, b) = (c.toNat, (t, b)) := rfl

theorem rdB_any (g : Nat) (s : Rdr) (w : World) (h : RdA w g s) (hl : s.1.length ≤ 1099511627776) : Calls Try.prog 44 #[.pointer (some ⟨g, 0, none⟩)] w fun e w' =>
    e = .returned (.int .i64 ((rB s).1 : Int)) ∧ RdA w' g (rB s).2 ∧ AftR g w w' := by
  obtain ⟨xs, bad⟩ := s
  obtain ⟨A, k, hB, hk, hR⟩ := h
  have c0 := hB.cell 0
  have c1 := hB.cell 1
  have f0 := hB.frozen
  simp only [List.getElem?_cons_zero, List.getElem?_cons_succ] at c0 c1
  have HB := hide hB
  have HR := hide hR
  clear hB hR
  cases xs with
  | nil =>
    simp only [List.length_nil] at c0 hk hl
    go_enter Try.func44, Try.ntmps44
    go_wp2_with fail
    go_ret
    refine ⟨rfl, ⟨A, k, HB.out.set 1 (.bool true), hk, HR.out.u8set (HB.out.cell 1) (fun _ e => by cases e) _⟩, But.setCell w _ rfl, fun _ _ _ hr => hr.u8set (HB.out.cell 1) (fun _ e => by cases e) _⟩
  | cons c t =>
    obtain ⟨n, hn⟩ : ∃ n, t.length = n := ⟨_, rfl⟩
    have hn1 : (c :: t).length = n + 1 := by rw [List.length_cons, hn]
    simp only [hn1] at c0 hk hl
    obtain ⟨b, o, hA, hbl, hc⟩ := HR.out.at_ (k := 0) (by simp)
    subst hA
    have c2 : w.cell? ⟨b, o, none⟩ = some (.int .u8 c.toNat) := hc 0 _ rfl
    have hc8 := c.toNat_lt
    have hsl := fun W => run_slTail (P := Try.prog) 31 5 Try.underlying31 u8_size (some ⟨b, o, none⟩) (n + 1) k 1 1 rfl (by omega) W
    rw [Nat.add_sub_cancel] at hsl
    have r2 := HR.out.tail 1 k (by simp) (by rw [hn1]; exact hk)
    rw [bv_drop, hn1, Nat.add_sub_cancel, List.drop_succ_cons, List.drop_zero] at r2
    have R2 := hide r2
    have Hn := hide hn
    rw [rB_cons]
    simp only
    obtain ⟨X, hX⟩ : ∃ X, c.toNat = X := ⟨_, rfl⟩
    rw [hX] at c2 hc8 ⊢
    clear hc r2 hX hn hn1
    go_enter Try.func44, Try.ntmps44
    go_wp2_with fail
    go_ret
    refine ⟨rfl, ⟨cutA (some ⟨b, o, none⟩) 1 k, k - 1, ?_, ?_, ?_⟩, But.setCell w _ rfl, fun _ _ _ hr => hr.u8set (HB.out.cell 0) (fun _ e => by cases e) _⟩
    · simp only [Hn.out]; exact HB.out.set 0 _
    · simp only [Hn.out]; omega
    · simp only [Hn.out]; exact R2.out.u8set (HB.out.cell 0) (fun _ e => by cases e) _

theorem rdW_any (g : Nat) (s : Rdr) (w : World) (h : RdA w g s) (hl : s.1.length ≤ 1099511627776) : Calls Try.prog 46 #[.pointer (some ⟨g, 0, none⟩)] w fun e w' =>
    e = .returned (.int .i64 ((rW s).1 : Int)) ∧ RdA w' g (rW s).2 ∧ AftR g w w' := by
  have hb : ∀ s : Rdr, (rB s).1 < 256 := fun s => by
    obtain ⟨xs, b⟩ := s
    cases xs with
    | nil => simp [rB]
    | cons c t => exact c.toNat_lt
  have hle : ∀ s : Rdr, (rB s).2.1.length ≤ s.1.length := fun s => by
    obtain ⟨xs, b⟩ := s
    cases xs with
    | nil => simp [rB]
    | cons c t => simp [rB]
  have P1 := hide (rdB_any g s w h hl)
  have P2 := fun W hW => hide (rdB_any g (rB s).2 W hW (Nat.le_trans (hle s) hl))
  have b1 := hb s
  have b2 := hb (rB s).2
  have E := hide (show ((rW s).1 : Int) = 256 * ((rB s).1 : Int) + ((rB (rB s).2).1 : Int) by unfold rW; simp)
  have E2 := hide (show (rW s).2 = (rB (rB s).2).2 from rfl)
  clear hb hle h
  generalize (rB s).1 = X at *
  generalize (rB (rB s).2).1 = Y at *
  go_enter Try.func46, Try.ntmps46
  go_wp2_with fail
  refine P1.out.mono ?_
  rintro e w1 ⟨rfl, h1, a1⟩
  have H1 := hide h1
  have A1 := hide a1
  clear h1 a1
  go_wp2_with fail
  refine (P2 w1 H1.out).out.mono ?_
  rintro e w2 ⟨rfl, h2, a2⟩
  have H2 := hide h2
  have A2 := hide a2
  clear h2 a2 P2
  go_wp2_with fail
  go_ret
  exact ⟨by rw [E.out]; rfl, by rw [E2.out]; exact H2.out, A1.out.trans A2.out⟩

theorem rW_le (s : Rdr) : (rW s).2.1.length ≤ s.1.length ∧ (rW s).1 < 65536 := by
  obtain ⟨xs, b⟩ := s
  match xs with
  | [] => simp [rW, rB]
  | [c] => have := c.toNat_lt; simp [rW, rB]; omega
  | c :: d :: t => have := c.toNat_lt; have := d.toNat_lt; simp [rW, rB]; omega
theorem rT_le (s : Rdr) : (rT s).2.1.length ≤ s.1.length ∧ (rT s).1.length ≤ 65535 := by
  have := rW_le s
  unfold rT
  split
  · exact ⟨this.1, by simp⟩
  · simp
    omega

theorem rdT_any (g : Nat) (s : Rdr) (w : World) (h : RdA w g s) (hl : s.1.length ≤ 1099511627776) : Calls Try.prog 45 #[.pointer (some ⟨g, 0, none⟩)] w fun e w' =>
    e = .returned (.string (str (rT s).1)) ∧ RdA w' g (rT s).2 ∧ AftR g w w' := by
  have hw := rW_le s
  have P1 := hide (rdW_any g s w h hl)
  have E : rT s = if (rW s).2.1.length < (rW s).1 then ([], ((rW s).2.1, true)) else ((rW s).2.1.take (rW s).1, ((rW s).2.1.drop (rW s).1, (rW s).2.2)) := rfl
  rw [E]
  clear E h
  generalize (rW s).1 = n at *
  generalize (rW s).2 = z at *
  obtain ⟨ys, bad⟩ := z
  simp only at hw ⊢
  obtain ⟨m, hm⟩ : ∃ m, ys.length = m := ⟨_, rfl⟩
  rw [hm] at hw ⊢
  have Hm := hide hm
  clear hm
  by_cases hmn : m < n
  · have q1 : (m : Int) < (n : Int) := by omega
    rw [if_pos hmn]
    go_enter Try.func45, Try.ntmps45
    go_wp2_with fail
    refine P1.out.mono ?_
    rintro e w1 ⟨rfl, ⟨A, k, hB, hk, hR⟩, a1⟩
    simp only [Hm.out] at hB hk hR
    have c0 := hB.cell 0
    have c1 := hB.cell 1
    have f0 := hB.frozen
    simp only [List.getElem?_cons_zero, List.getElem?_cons_succ] at c0 c1
    have HB := hide hB
    have HR := hide hR
    have A1 := hide a1
    clear hB hR a1 P1
    go_wp2_with fail
    go_ret
    refine ⟨rfl, ⟨A, k, by simp only [Hm.out]; exact HB.out.set 1 (.bool true), by simp only [Hm.out]; exact hk, by simp only [Hm.out]; exact HR.out.u8set (HB.out.cell 1) (fun _ e => by cases e) _⟩, A1.out.trans ⟨But.setCell w1 _ rfl, fun _ _ _ hr => hr.u8set (HB.out.cell 1) (fun _ e => by cases e) _⟩⟩
  · have q1 : ¬ (m : Int) < (n : Int) := by omega
    rw [if_neg hmn]
    obtain ⟨tk, htk⟩ : ∃ tk, ys.take n = tk := ⟨_, rfl⟩
    obtain ⟨dr, hdr⟩ : ∃ dr, ys.drop n = dr := ⟨_, rfl⟩
    have Hd := hide (show dr.length = m - n by rw [← hdr, List.length_drop, Hm.out])
    have Htk := hide htk
    have Hdr := hide hdr
    simp only [htk, hdr]
    clear htk hdr
    go_enter Try.func45, Try.ntmps45
    go_wp2_with fail
    refine P1.out.mono ?_
    rintro e w1 ⟨rfl, ⟨A, k, hB, hk, hR⟩, a1⟩
    simp only [Hm.out] at hB hk hR
    have c0 := hB.cell 0
    have c1 := hB.cell 1
    have f0 := hB.frozen
    simp only [List.getElem?_cons_zero, List.getElem?_cons_succ] at c0 c1
    have HB := hide hB
    have HR := hide hR
    have A1 := hide a1
    clear hB hR a1 P1
    have hs1 := fun W => run_slTo (P := Try.prog) 31 5 Try.underlying31 u8_size A m k (n : Int) n rfl (by omega) W
    have hs2 := fun W => run_slTail (P := Try.prog) 31 5 Try.underlying31 u8_size A m k (n : Int) n rfl (by omega) W
    have r1 := HR.out.upto n k (by omega) hk
    rw [Htk.out] at r1
    have hcs := rdStr r1 k
    have r2 := HR.out.tail n k (by omega) hk
    rw [bv_drop, Hdr.out] at r2
    have R2 := hide r2
    clear r1 r2
    go_wp2_with fail
    go_ret
    refine ⟨rfl, ⟨cutA A n k, k - n, ?_, ?_, ?_⟩, A1.out.trans ⟨But.setCell w1 _ rfl, fun _ _ _ hr => hr.u8set (HB.out.cell 0) (fun _ e => by cases e) _⟩⟩
    · simp only [Hd.out]; exact HB.out.set 0 _
    · simp only [Hd.out]; omega
    · simp only [Hd.out]; exact R2.out.u8set (HB.out.cell 0) (fun _ e => by cases e) _

theorem digit_any (n W : Nat) (hW : 1 ≤ W) (hW2 : W ≤ 256) (hn : n ≤ 255) (w : World) : Calls Try.prog 43 #[.int .i64 (n : Int), .int .i64 (W : Int)] w fun e w' => e = .returned (.bool (digB n W)) ∧ w = w' := by
  have hq : ∃ q : Nat, (n : Int) / (W : Int) = (q : Int) ∧ n / W = q ∧ q ≤ 255 := ⟨n / W, by simp, rfl, Nat.le_trans (Nat.div_le_self _ _) hn⟩
  obtain ⟨q, hq1, hq2, hq3⟩ := hq
  unfold digB
  rw [hq2]
  have hW0 : ¬ (W : Int) = 0 := by omega
  by_cases h1 : q % 2 = 1
  · rw [decide_eq_true h1]
    have q1 : (((q : Int) % 2) == 1) = true := by simp; omega
    clear hq2 h1
    go_enter Try.func43, Try.ntmps43
    go_wp2_with fail
    go_ret
    exact ⟨rfl, rfl⟩
  · rw [decide_eq_false h1]
    have q1 : (((q : Int) % 2) == 1) = false := by simp; omega
    clear hq2 h1
    go_enter Try.func43, Try.ntmps43
    go_wp2_with fail
    go_ret
    exact ⟨rfl, rfl⟩
theorem flag_any (b : Bool) (n : Nat) (w : World) : Calls Try.prog 73 #[.bool b, .int .i64 (n : Int)] w fun e w' => e = .returned (.int .i64 (flagB b n : Int)) ∧ w = w' := by
  cases b with
  | true =>
    go_enter Try.func73, Try.ntmps73
    go_wp2_with fail
    go_ret
    exact ⟨rfl, rfl⟩
  | false =>
    go_enter Try.func73, Try.ntmps73
    go_wp2_with fail
    go_ret
    exact ⟨rfl, rfl⟩

end Go.Proofs.Ytdlhcecmodefkaa
