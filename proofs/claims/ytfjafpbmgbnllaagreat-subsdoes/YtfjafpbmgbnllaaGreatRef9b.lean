/-
  What is proved here: what the document's own Points and Text of layer 9 return. Conditions: texts of at most 70000 bytes; lists of at most 1000 ints.
-/
import Derived.Test.YtfjafpbmgbnllaaGreatRef9
namespace Go.Proofs.YtfjafpbmgbnllaaGreat
set_option linter.unusedVariables false
set_option linter.unusedSimpArgs false
open Go.RowKit

/-- The document's Points: what comes out. -/
def RetRP (xs : List UInt8) (w : World) (e : Ending) (w' : World) : Prop :=
  (ptsU xs = none ∧ e = .returned (.tuple #[.slice none 0 0, .bool false]) ∧ Below w.heap.size w w') ∨
  ∃ ps A c, ptsU xs = some ps ∧ e = .returned (.tuple #[.slice A ps.length c, .bool true]) ∧ ps.length ≤ c ∧ Rd w' A ps.length (iv (nts ps)) ∧ Below w.heap.size w w'

set_option maxRecDepth 100000 in
set_option maxHeartbeats 2000000 in
theorem rPoints_any (s : ByteArray) (n : Nat) (hs : s.data.toList.length = n) (hn : n ≤ 65535) (w : World) : Calls Tryz.prog 45 #[.string s] w (RetRP s.data.toList w) := by
  obtain ⟨xs, rfl⟩ : ∃ xs, s = str xs := ⟨_, (str_of s).symm⟩
  rw [str_data] at hs
  rw [str_data]
  have HU := hide (ptsU_small xs (by omega))
  have Hs := hide hs
  have hnil : w.ownsRow w.heap.size 3 1 (.slice none 0 0) 0 [] := World.ownsRow_nil _ _ _ _
  have q0 : ¬ (65535 : Int) < (n : Int) := by omega
  go_enter Tryz.func45, Tryz.ntmps45
  go_wp2_with fail
  have h00 : ptsL xs = (ptsL xs).map ([] ++ ·) := by simp
  clear hs
  go_loopw [0, 4] (fun t o wr => ∃ (ys : List UInt8) (m k : Nat) (C : Option Addr) (d : Nat) (ps : List Nat), t = .string (str ys) ∧ o = .slice C k d ∧ ys.length = m ∧ ps.length = k ∧ k + m ≤ n ∧ ptsL xs = (ptsL ys).map (ps ++ ·) ∧
    wr.ownsRow w.heap.size 3 1 (.slice C k d) k (iv (nts ps)) ∧ Below w.heap.size w wr) (fun t _ _ => match t with | .string s => s.size | _ => 0)
  case atStart => exact ⟨xs, n, 0, none, 0, [], rfl, rfl, Hs.out, rfl, by omega, h00, hnil, Below.refl _ _⟩
  case round =>
    obtain ⟨ys, m, k, C, d, ps, rfl, rfl, hm, hk, hkm, hpt, hown, hB⟩ := hrel
    have HB := hide hB
    have Hk := hide hk
    have Hm := hide hm
    have Hpt := hide hpt
    have Hown := hide hown
    clear hB hk hpt hown h00 hnil
    by_cases h0 : 0 < m
    · have q1 : (0 : Int) < (m : Int) := by omega
      go_wp2_with fail
      refine (rFirst_any ys m hm h0 (by omega) wr).mono ?_
      rintro e w1 ⟨f, rfl, hf, b1⟩
      have Hb1 := hide b1
      clear b1
      rcases hf with ⟨rfl, hnone⟩ | ⟨hp, hpre⟩
      · have Hno := hide (ptsL_none (xs := ys) (by intro e; rw [e] at hm; simp at hm; omega) hnone)
        clear hnone
        go_wp2_with fail
        go_ret2
        exact .inl ⟨by rw [HU.out, Hpt.out, Hno.out]; rfl, rfl, below_on HB.out Hb1.out⟩
      · have hfb := (isPt_iff f).1 hp
        obtain ⟨rest, rfl⟩ := hpre
        obtain ⟨Z, hZ⟩ : ∃ Z, (enc f).length = Z := ⟨_, rfl⟩
        have hZ4 : 1 ≤ Z := by rw [← hZ]; exact enc_pos f
        have hdr := str_drop (enc f ++ rest) Z m hm
        have hZm : Z + rest.length = m := by rw [← hm, List.length_append, hZ]
        rw [← hZ, List.drop_left, hZ] at hdr
        have Hnx := hide (show ptsL xs = (ptsL rest).map ((ps ++ [f]) ++ ·) by rw [Hpt.out, ptsL_enc f hp]; cases ptsL rest <;> simp)
        have HZm := hide hZm
        have qf : ((f : Int) == 0) = false := by simp; omega
        have q2 : (Z : Int) ≤ (m : Int) := by omega
        have Hown1 := hide (own_keep Hown.out Hb1.out)
        have hsz1 : w.heap.size ≤ w1.heap.size := Nat.le_trans HB.out.size Hb1.out.size
        have HB1 := hide (below_on HB.out Hb1.out)
        generalize enc f ++ rest = ys at *
        have hf2 := hfb.2.1
        have hkb : k ≤ 65535 := by omega
        clear hp hfb hZm
        go_wp2_with (first
          | (at_builtin; refine wpList_app rfl (.tmp 16) (.tmp 18) 90 rfl 3 _ _ Tryz.underlying90 int_info rfl w.heap.size C k d (iv (nts ps)) rfl (Hown1.out.alloc _) (some ⟨w1.heap.size, 0, none⟩) 1 1 [.int .i64 (f : Int)] rfl (rd_one _ _ _) (by simp [Value.oneCell']) (by unfold maxLen; omega) (by omega) (by simp; omega) ?_; intro A1 c1 w2 o1 g1 b2)
          | (go_at_call 67; refine (rBytes_any f hf2 _).mono ?_; rintro e w3 ⟨rfl, b3⟩))
        have hl2 : rest.length + Z = m := by have := HZm.out; omega
        have hb2 : Below w.heap.size w w2 := HB1.out.trans (((Below.refl _ _).alloc hsz1 _).trans b2)
        refine ⟨⟨rest, rest.length, k + 1, A1, c1, ps ++ [f], rfl, rfl, rfl, by simp [Hk.out], by omega, Hnx.out, ?_, below_on hb2 b3⟩, ?_⟩
        · rw [nts_append, iv_append]; exact own_keep o1 b3
        · simp; omega
    · have q1 : ¬ (0 : Int) < (m : Int) := by omega
      have hy : ys = [] := List.eq_nil_of_length_eq_zero (by omega)
      go_wp2_with fail
      go_ret2
      refine .inr ⟨ps, C, d, by rw [HU.out, Hpt.out, hy, ptsL_nil]; simp, by rw [Hk.out]; rfl, by rw [Hk.out]; exact own_cap Hown.out, by rw [Hk.out]; exact own_rd Hown.out, HB.out⟩

end Go.Proofs.YtfjafpbmgbnllaaGreat
