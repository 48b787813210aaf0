/-
  What is proved here: the program's 'texts', 'connectSize' of package packet. Condition: strings of at most 65535 bytes.
-/
import Derived.Test.YtkgidimaiedocaaPkLd
import Derived.Test.YtkgidimaiedocaaPq1
import Derived.Test.YtkgidimaiedocaaMem5
import Derived.LoopTactic
import Derived.WalkMore
namespace Go.Proofs.Ytkgidimaiedocaa
set_option linter.unusedVariables false
set_option linter.unusedSimpArgs false
open Go.RowKit

/-- Texts as cells. -/
def tv (l : List (List UInt8)) : List Value := l.map fun s => .string (str s)
theorem tv_length (l : List (List UInt8)) : (tv l).length = l.length := by simp [tv]
theorem tv_append (l m : List (List UInt8)) : tv (l ++ m) = tv l ++ tv m := by simp [tv]
theorem tv_get (l : List (List UInt8)) (i : Nat) (h : i < l.length) : (tv l)[i]? = some (.string (str l[i])) := by simp [tv, h]
theorem tv_one (l : List (List UInt8)) : ∀ u ∈ tv l, u.oneCell' = true := by
  intro u hu
  simp only [tv, List.mem_map] at hu
  obtain ⟨s, _, rfl⟩ := hu
  rfl
theorem string_info : (Try.prog.info? 9).map (fun i => (i.zero, i.size, i.bytes)) = some (some (.string ByteArray.empty), 1, 16) := by kernel_rfl
theorem Blk.keepZ {w w' : World} {g B : Nat} {t : TypeId} {cs : List Value} (h : Blk w g t cs) (b : Below B w w') (hg : g < B) : Blk w' g t cs := (b.block g hg).trans h
/-- The texts that a Connect ends with. -/
def textsP (p : Pk) : List (List UInt8) := [p.client] ++ (if p.hasWill = true then [p.topic, p.payload] else []) ++ (if p.hasUser = true then [p.user] else []) ++ (if p.hasPass = true then [p.pass] else [])
theorem textsP_len (p : Pk) : (textsP p).length ≤ 5 := by
  unfold textsP
  simp only [List.length_append, List.length_cons, List.length_nil]
  split <;> split <;> split <;> simp

/-- A new row of texts. -/
def RetTx (T : List (List UInt8)) (w : World) (e : Ending) (w' : World) : Prop := ∃ A k, e = .returned (.slice A T.length k) ∧ NewAt w A ∧ Rd w' A T.length (tv T) ∧ Below w.heap.size w w'

set_option maxRecDepth 100000 in
set_option maxHeartbeats 4000000 in
theorem texts_any (p : Pk) (C : Option Addr) (nc kc : Nat) (S : Option Addr) (ns ks : Nat) (w : World) : Calls Try.prog 80 #[pkA p C nc kc S ns ks] w (RetTx (textsP p) w) := by
  have HT := hide (show textsP p = [p.client] ++ (if p.hasWill = true then [p.topic, p.payload] else []) ++ (if p.hasUser = true then [p.user] else []) ++ (if p.hasPass = true then [p.pass] else []) from rfl)
  generalize textsP p = T at *
  obtain ⟨ty, dup, id, topic, payload, qos, retain, client, clean, alive, hasWill, hasUser, hasPass, user, pass, present, codes, subs⟩ := p
  simp only [pkA] at HT ⊢
  go_enter Try.func80, Try.ntmps80
  go_upto_region 1 with fail
  generalize hW : w.alloc _ = W
  obtain ⟨g, hg, hB, bW, hWs⟩ := boxedP (p := ⟨ty, dup, id, topic, payload, qos, retain, client, clean, alive, hasWill, hasUser, hasPass, user, pass, present, codes, subs⟩) hW
  rw [hg]
  have Hg := hide hg
  obtain ⟨z, hz⟩ : ∃ z, W.heap.size = z := ⟨_, rfl⟩
  have HB := hide hB
  have hgz : g < z := by omega
  have c7 := (Blk.p18 hB).2.2.2.2.2.2.2.1
  have hB1 : Blk (W.alloc (.cells #[.string (str client)] 9)) z 9 (tv [client]) := by rw [← hz]; exact Blk.new W 9 _
  have HB1 := hide hB1
  have HX := hide (show Below z W (W.alloc (.cells #[.string (str client)] 9)) from by rw [← hz]; exact (Below.refl _ _).alloc (Nat.le_refl _) _)
  have Hz := hide hz
  have BW := hide bW
  clear hW hg hB bW hWs hB1 hz
  go_upto_region 2 with fail
  generalize hX : W.alloc _ = X
  rw [Hz.out]
  have HX := hide (show Below z W X from by rw [← hX]; exact HX.out)
  have HO := hide (show X.ownsRow z 9 1 (.slice (some ⟨z, 0, none⟩) 1 1) 1 (tv [client]) from by rw [← hX]; exact HB1.out.own (Nat.le_refl _) 1 rfl (by decide))
  have hzX : z ≤ X.heap.size := by have := HX.out.size; have := Hz.out; omega
  clear hX c7 HB1 Hz
  obtain ⟨-, -, -, c3, c4, -, -, c7, -, -, c10, c11, c12, c13, c14, -, -, -⟩ := (HB.out.keepZ HX.out hgz).p18
  go_upto_if 8 with fail
  cases hasWill with
  | false =>
    go_upto_if 19 with fail
    cases hasUser with
    | false =>
      go_upto_if 26 with fail
      cases hasPass with
      | false =>
        go_wp2_with fail
        go_ret
        have hT : T = [client] := by rw [HT.out]; simp
        rw [hT]
        exact ⟨_, _, rfl, (fun b o e => by have h1 := ownS_new HO.out b o e; have h2 := Hg.out; omega), own_rd HO.out, by rw [Hg.out]; exact BW.out.trans (HX.out.mono (Nat.le_of_lt hgz))⟩
      | true =>
        go_upto_region 8 with (at_builtin; refine wpList_app rfl (.tmp 27) (.tmp 30) 49 rfl 9 _ _ Try.underlying49 string_info rfl z (some ⟨z, 0, none⟩) 1 1 (tv [client]) rfl (own_keep HO.out ((Below.refl _ _).alloc (Nat.le_refl _) _)) (some ⟨X.heap.size, 0, none⟩) 1 1 (tv [pass]) rfl (Blk.new X 9 (tv [pass])).rd (tv_one _) (by unfold maxLen; omega) (by omega) (Nat.le_trans hzX (by simp)) ?_; intro A1 k1 X1 o2 g2 b2; have HX := hide (HX.out.trans (((Below.refl _ _).alloc hzX _).trans b2)); have HO := hide (show X1.ownsRow z 9 1 (.slice A1 2 k1) 2 (tv ([client] ++ [pass])) from by rw [tv_append]; exact o2); have hzX := Nat.le_trans hzX (((Below.refl z X).alloc hzX (.cells (arr (tv [pass])) 9)).trans b2).size; clear o2 g2 b2 c3 c4 c7 c10 c11 c12 c13 c14; obtain ⟨-, -, -, c3, c4, -, -, c7, -, -, c10, c11, c12, c13, c14, -, -, -⟩ := (HB.out.keepZ HX.out hgz).p18)
        go_wp2_with fail
        go_ret
        have hT : T = ([client] ++ [pass]) := by rw [HT.out]; simp
        rw [hT]
        exact ⟨_, _, rfl, (fun b o e => by have h1 := ownS_new HO.out b o e; have h2 := Hg.out; omega), own_rd HO.out, by rw [Hg.out]; exact BW.out.trans (HX.out.mono (Nat.le_of_lt hgz))⟩
    | true =>
      go_upto_if 26 with (at_builtin; refine wpList_app rfl (.tmp 20) (.tmp 23) 49 rfl 9 _ _ Try.underlying49 string_info rfl z (some ⟨z, 0, none⟩) 1 1 (tv [client]) rfl (own_keep HO.out ((Below.refl _ _).alloc (Nat.le_refl _) _)) (some ⟨X.heap.size, 0, none⟩) 1 1 (tv [user]) rfl (Blk.new X 9 (tv [user])).rd (tv_one _) (by unfold maxLen; omega) (by omega) (Nat.le_trans hzX (by simp)) ?_; intro A1 k1 X1 o2 g2 b2; have HX := hide (HX.out.trans (((Below.refl _ _).alloc hzX _).trans b2)); have HO := hide (show X1.ownsRow z 9 1 (.slice A1 2 k1) 2 (tv ([client] ++ [user])) from by rw [tv_append]; exact o2); have hzX := Nat.le_trans hzX (((Below.refl z X).alloc hzX (.cells (arr (tv [user])) 9)).trans b2).size; clear o2 g2 b2 c3 c4 c7 c10 c11 c12 c13 c14; obtain ⟨-, -, -, c3, c4, -, -, c7, -, -, c10, c11, c12, c13, c14, -, -, -⟩ := (HB.out.keepZ HX.out hgz).p18)
      cases hasPass with
      | false =>
        go_wp2_with fail
        go_ret
        have hT : T = ([client] ++ [user]) := by rw [HT.out]; simp
        rw [hT]
        exact ⟨_, _, rfl, (fun b o e => by have h1 := ownS_new HO.out b o e; have h2 := Hg.out; omega), own_rd HO.out, by rw [Hg.out]; exact BW.out.trans (HX.out.mono (Nat.le_of_lt hgz))⟩
      | true =>
        go_upto_region 8 with (at_builtin; refine wpList_app rfl (.tmp 27) (.tmp 30) 49 rfl 9 _ _ Try.underlying49 string_info rfl z A1 2 k1 (tv ([client] ++ [user])) rfl (own_keep HO.out ((Below.refl _ _).alloc (Nat.le_refl _) _)) (some ⟨X1.heap.size, 0, none⟩) 1 1 (tv [pass]) rfl (Blk.new X1 9 (tv [pass])).rd (tv_one _) (by unfold maxLen; omega) (by omega) (Nat.le_trans hzX (by simp)) ?_; intro A2 k2 X2 o2 g2 b2; have HX := hide (HX.out.trans (((Below.refl _ _).alloc hzX _).trans b2)); have HO := hide (show X2.ownsRow z 9 1 (.slice A2 3 k2) 3 (tv (([client] ++ [user]) ++ [pass])) from by rw [tv_append]; exact o2); have hzX := Nat.le_trans hzX (((Below.refl z X1).alloc hzX (.cells (arr (tv [pass])) 9)).trans b2).size; clear o2 g2 b2 c3 c4 c7 c10 c11 c12 c13 c14; obtain ⟨-, -, -, c3, c4, -, -, c7, -, -, c10, c11, c12, c13, c14, -, -, -⟩ := (HB.out.keepZ HX.out hgz).p18)
        go_wp2_with fail
        go_ret
        have hT : T = (([client] ++ [user]) ++ [pass]) := by rw [HT.out]; simp
        rw [hT]
        exact ⟨_, _, rfl, (fun b o e => by have h1 := ownS_new HO.out b o e; have h2 := Hg.out; omega), own_rd HO.out, by rw [Hg.out]; exact BW.out.trans (HX.out.mono (Nat.le_of_lt hgz))⟩
  | true =>
    go_upto_if 19 with (at_builtin; refine wpList_app rfl (.tmp 9) (.tmp 16) 49 rfl 9 _ _ Try.underlying49 string_info rfl z (some ⟨z, 0, none⟩) 1 1 (tv [client]) rfl (own_keep HO.out ((Below.refl _ _).alloc (Nat.le_refl _) _)) (some ⟨X.heap.size, 0, none⟩) 2 2 (tv [topic, payload]) rfl (Blk.new X 9 (tv [topic, payload])).rd (tv_one _) (by unfold maxLen; omega) (by omega) (Nat.le_trans hzX (by simp)) ?_; intro A1 k1 X1 o2 g2 b2; have HX := hide (HX.out.trans (((Below.refl _ _).alloc hzX _).trans b2)); have HO := hide (show X1.ownsRow z 9 1 (.slice A1 3 k1) 3 (tv ([client] ++ [topic, payload])) from by rw [tv_append]; exact o2); have hzX := Nat.le_trans hzX (((Below.refl z X).alloc hzX (.cells (arr (tv [topic, payload])) 9)).trans b2).size; clear o2 g2 b2 c3 c4 c7 c10 c11 c12 c13 c14; obtain ⟨-, -, -, c3, c4, -, -, c7, -, -, c10, c11, c12, c13, c14, -, -, -⟩ := (HB.out.keepZ HX.out hgz).p18)
    cases hasUser with
    | false =>
      go_upto_if 26 with fail
      cases hasPass with
      | false =>
        go_wp2_with fail
        go_ret
        have hT : T = ([client] ++ [topic, payload]) := by rw [HT.out]; simp
        rw [hT]
        exact ⟨_, _, rfl, (fun b o e => by have h1 := ownS_new HO.out b o e; have h2 := Hg.out; omega), own_rd HO.out, by rw [Hg.out]; exact BW.out.trans (HX.out.mono (Nat.le_of_lt hgz))⟩
      | true =>
        go_upto_region 8 with (at_builtin; refine wpList_app rfl (.tmp 27) (.tmp 30) 49 rfl 9 _ _ Try.underlying49 string_info rfl z A1 3 k1 (tv ([client] ++ [topic, payload])) rfl (own_keep HO.out ((Below.refl _ _).alloc (Nat.le_refl _) _)) (some ⟨X1.heap.size, 0, none⟩) 1 1 (tv [pass]) rfl (Blk.new X1 9 (tv [pass])).rd (tv_one _) (by unfold maxLen; omega) (by omega) (Nat.le_trans hzX (by simp)) ?_; intro A2 k2 X2 o2 g2 b2; have HX := hide (HX.out.trans (((Below.refl _ _).alloc hzX _).trans b2)); have HO := hide (show X2.ownsRow z 9 1 (.slice A2 4 k2) 4 (tv (([client] ++ [topic, payload]) ++ [pass])) from by rw [tv_append]; exact o2); have hzX := Nat.le_trans hzX (((Below.refl z X1).alloc hzX (.cells (arr (tv [pass])) 9)).trans b2).size; clear o2 g2 b2 c3 c4 c7 c10 c11 c12 c13 c14; obtain ⟨-, -, -, c3, c4, -, -, c7, -, -, c10, c11, c12, c13, c14, -, -, -⟩ := (HB.out.keepZ HX.out hgz).p18)
        go_wp2_with fail
        go_ret
        have hT : T = (([client] ++ [topic, payload]) ++ [pass]) := by rw [HT.out]; simp
        rw [hT]
        exact ⟨_, _, rfl, (fun b o e => by have h1 := ownS_new HO.out b o e; have h2 := Hg.out; omega), own_rd HO.out, by rw [Hg.out]; exact BW.out.trans (HX.out.mono (Nat.le_of_lt hgz))⟩
    | true =>
      go_upto_if 26 with (at_builtin; refine wpList_app rfl (.tmp 20) (.tmp 23) 49 rfl 9 _ _ Try.underlying49 string_info rfl z A1 3 k1 (tv ([client] ++ [topic, payload])) rfl (own_keep HO.out ((Below.refl _ _).alloc (Nat.le_refl _) _)) (some ⟨X1.heap.size, 0, none⟩) 1 1 (tv [user]) rfl (Blk.new X1 9 (tv [user])).rd (tv_one _) (by unfold maxLen; omega) (by omega) (Nat.le_trans hzX (by simp)) ?_; intro A2 k2 X2 o2 g2 b2; have HX := hide (HX.out.trans (((Below.refl _ _).alloc hzX _).trans b2)); have HO := hide (show X2.ownsRow z 9 1 (.slice A2 4 k2) 4 (tv (([client] ++ [topic, payload]) ++ [user])) from by rw [tv_append]; exact o2); have hzX := Nat.le_trans hzX (((Below.refl z X1).alloc hzX (.cells (arr (tv [user])) 9)).trans b2).size; clear o2 g2 b2 c3 c4 c7 c10 c11 c12 c13 c14; obtain ⟨-, -, -, c3, c4, -, -, c7, -, -, c10, c11, c12, c13, c14, -, -, -⟩ := (HB.out.keepZ HX.out hgz).p18)
      cases hasPass with
      | false =>
        go_wp2_with fail
        go_ret
        have hT : T = (([client] ++ [topic, payload]) ++ [user]) := by rw [HT.out]; simp
        rw [hT]
        exact ⟨_, _, rfl, (fun b o e => by have h1 := ownS_new HO.out b o e; have h2 := Hg.out; omega), own_rd HO.out, by rw [Hg.out]; exact BW.out.trans (HX.out.mono (Nat.le_of_lt hgz))⟩
      | true =>
        go_upto_region 8 with (at_builtin; refine wpList_app rfl (.tmp 27) (.tmp 30) 49 rfl 9 _ _ Try.underlying49 string_info rfl z A2 4 k2 (tv (([client] ++ [topic, payload]) ++ [user])) rfl (own_keep HO.out ((Below.refl _ _).alloc (Nat.le_refl _) _)) (some ⟨X2.heap.size, 0, none⟩) 1 1 (tv [pass]) rfl (Blk.new X2 9 (tv [pass])).rd (tv_one _) (by unfold maxLen; omega) (by omega) (Nat.le_trans hzX (by simp)) ?_; intro A3 k3 X3 o2 g2 b2; have HX := hide (HX.out.trans (((Below.refl _ _).alloc hzX _).trans b2)); have HO := hide (show X3.ownsRow z 9 1 (.slice A3 5 k3) 5 (tv ((([client] ++ [topic, payload]) ++ [user]) ++ [pass])) from by rw [tv_append]; exact o2); have hzX := Nat.le_trans hzX (((Below.refl z X2).alloc hzX (.cells (arr (tv [pass])) 9)).trans b2).size; clear o2 g2 b2 c3 c4 c7 c10 c11 c12 c13 c14; obtain ⟨-, -, -, c3, c4, -, -, c7, -, -, c10, c11, c12, c13, c14, -, -, -⟩ := (HB.out.keepZ HX.out hgz).p18)
        go_wp2_with fail
        go_ret
        have hT : T = ((([client] ++ [topic, payload]) ++ [user]) ++ [pass]) := by rw [HT.out]; simp
        rw [hT]
        exact ⟨_, _, rfl, (fun b o e => by have h1 := ownS_new HO.out b o e; have h2 := Hg.out; omega), own_rd HO.out, by rw [Hg.out]; exact BW.out.trans (HX.out.mono (Nat.le_of_lt hgz))⟩

end Go.Proofs.Ytkgidimaiedocaa
