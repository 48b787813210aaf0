/-
  What is proved here: what pdu's layAnswer and AnswerBytes return, of any answer that may be.
-/
import Derived.Test.YtfpfijggmfeejaaPdu8
namespace Go.Proofs.Ytfpfijggmfeejaa
set_option linter.unusedVariables false
set_option linter.unusedSimpArgs false
open Go.RowKit
theorem layAns_15 (a c t an o : Int) (A B : Option Addr) (n k m d : Nat) (w : World) (ha : 0 ≤ a) (ha' : a ≤ 65535) (hc : 0 ≤ c) (hc' : c ≤ 65535) :
    Calls Try.prog 54 #[.agg #[.int .i64 15, .int .i64 a, .int .i64 c, .slice A n k, .int .i64 t, .int .i64 an, .int .i64 o], .agg #[.slice B m d, .int .i64 0]] w (RetOwn 5 5 (bv ([15] ++ putL [a, c])) w) := by
  have hl : upToB [a, c] 65535 = true := by simp [upToB]; omega
  have HP := hide (fun G W hG hr => pput_lit (w.heap.size + 2) G 1 2 [15] [a, c] W hG hr rfl hl (by omega) (by omega) (by omega))
  have HW := hide (three_new w [.int .i64 15, .int .i64 a, .int .i64 c, .slice A n k, .int .i64 t, .int .i64 an, .int .i64 o] [.slice B m d, .int .i64 0] 37 61 5 (.int .u8 15) _ rfl)
  clear hl
  go_enter Try.func54, Try.ntmps54
  go_wp2_with fail
  obtain ⟨_, _, hB3, hBel, hsz⟩ := HW.out
  refine (HP.out _ _ (by simp) hB3.rd).mono ?_
  rintro e w1 ⟨C, k1, rfl, o1, b1⟩
  have O1 := hide (own_base o1 hBel.size)
  have B1 := hide (below_on hBel b1)
  clear o1 b1 hBel hsz hB3
  go_wp2
  go_ret
  exact ⟨C, k1, rfl, O1.out, B1.out⟩
theorem layAns_16 (a c t an o : Int) (A B : Option Addr) (n k m d : Nat) (w : World) (ha : 0 ≤ a) (ha' : a ≤ 65535) (hc : 0 ≤ c) (hc' : c ≤ 65535) :
    Calls Try.prog 54 #[.agg #[.int .i64 16, .int .i64 a, .int .i64 c, .slice A n k, .int .i64 t, .int .i64 an, .int .i64 o], .agg #[.slice B m d, .int .i64 0]] w (RetOwn 5 5 (bv ([16] ++ putL [a, c])) w) := by
  have hl : upToB [a, c] 65535 = true := by simp [upToB]; omega
  have HP := hide (fun G W hG hr => pput_lit (w.heap.size + 2) G 1 2 [16] [a, c] W hG hr rfl hl (by omega) (by omega) (by omega))
  have HW := hide (three_new w [.int .i64 16, .int .i64 a, .int .i64 c, .slice A n k, .int .i64 t, .int .i64 an, .int .i64 o] [.slice B m d, .int .i64 0] 37 61 5 (.int .u8 16) _ rfl)
  clear hl
  go_enter Try.func54, Try.ntmps54
  go_wp2_with fail
  obtain ⟨_, _, hB3, hBel, hsz⟩ := HW.out
  refine (HP.out _ _ (by simp) hB3.rd).mono ?_
  rintro e w1 ⟨C, k1, rfl, o1, b1⟩
  have O1 := hide (own_base o1 hBel.size)
  have B1 := hide (below_on hBel b1)
  clear o1 b1 hBel hsz hB3
  go_wp2
  go_ret
  exact ⟨C, k1, rfl, O1.out, B1.out⟩

theorem layAns_5 (a c t an o : Int) (A B : Option Addr) (n k m d : Nat) (vs : List Int) (w : World) (h : Rd w A n (iv vs)) (hm : mayB 5 a c vs t an o = true) :
    Calls Try.prog 54 #[.agg #[.int .i64 5, .int .i64 a, .int .i64 c, .slice A n k, .int .i64 t, .int .i64 an, .int .i64 o], .agg #[.slice B m d, .int .i64 0]] w (RetOwn 5 (layL 5 a c vs t an o).length (bv (layL 5 a c vs t an o)) w) := by
  have HL := hide (fun W (b : Below w.heap.size w W) => lay_any 5 a c t an o A n k vs W (h.keep b) hm)
  clear h hm
  generalize layL 5 a c vs t an o = L at *
  generalize L.length = nL at *
  have HW := hide (three_new w [.int .i64 5, .int .i64 a, .int .i64 c, .slice A n k, .int .i64 t, .int .i64 an, .int .i64 o] [.slice B m d, .int .i64 0] 37 61 5 (.int .u8 5) _ rfl)
  go_enter Try.func54, Try.ntmps54
  go_wp2_with fail
  obtain ⟨_, _, _, hBel, _⟩ := HW.out
  refine (HL.out _ hBel).mono ?_
  rintro e w2 ⟨C, kC, rfl, o2, b3⟩
  have B3 := hide (below_on hBel b3)
  have O2 := hide (own_base o2 hBel.size)
  clear o2 b3 hBel
  go_wp2
  go_ret
  exact ⟨C, kC, rfl, O2.out, B3.out⟩
theorem layAns_6 (a c t an o : Int) (A B : Option Addr) (n k m d : Nat) (vs : List Int) (w : World) (h : Rd w A n (iv vs)) (hm : mayB 6 a c vs t an o = true) :
    Calls Try.prog 54 #[.agg #[.int .i64 6, .int .i64 a, .int .i64 c, .slice A n k, .int .i64 t, .int .i64 an, .int .i64 o], .agg #[.slice B m d, .int .i64 0]] w (RetOwn 5 (layL 6 a c vs t an o).length (bv (layL 6 a c vs t an o)) w) := by
  have HL := hide (fun W (b : Below w.heap.size w W) => lay_any 6 a c t an o A n k vs W (h.keep b) hm)
  clear h hm
  generalize layL 6 a c vs t an o = L at *
  generalize L.length = nL at *
  have HW := hide (three_new w [.int .i64 6, .int .i64 a, .int .i64 c, .slice A n k, .int .i64 t, .int .i64 an, .int .i64 o] [.slice B m d, .int .i64 0] 37 61 5 (.int .u8 6) _ rfl)
  go_enter Try.func54, Try.ntmps54
  go_wp2_with fail
  obtain ⟨_, _, _, hBel, _⟩ := HW.out
  refine (HL.out _ hBel).mono ?_
  rintro e w2 ⟨C, kC, rfl, o2, b3⟩
  have B3 := hide (below_on hBel b3)
  have O2 := hide (own_base o2 hBel.size)
  clear o2 b3 hBel
  go_wp2
  go_ret
  exact ⟨C, kC, rfl, O2.out, B3.out⟩
theorem layAns_22 (a c t an o : Int) (A B : Option Addr) (n k m d : Nat) (vs : List Int) (w : World) (h : Rd w A n (iv vs)) (hm : mayB 22 a c vs t an o = true) :
    Calls Try.prog 54 #[.agg #[.int .i64 22, .int .i64 a, .int .i64 c, .slice A n k, .int .i64 t, .int .i64 an, .int .i64 o], .agg #[.slice B m d, .int .i64 0]] w (RetOwn 5 (layL 22 a c vs t an o).length (bv (layL 22 a c vs t an o)) w) := by
  have HL := hide (fun W (b : Below w.heap.size w W) => lay_any 22 a c t an o A n k vs W (h.keep b) hm)
  clear h hm
  generalize layL 22 a c vs t an o = L at *
  generalize L.length = nL at *
  have HW := hide (three_new w [.int .i64 22, .int .i64 a, .int .i64 c, .slice A n k, .int .i64 t, .int .i64 an, .int .i64 o] [.slice B m d, .int .i64 0] 37 61 5 (.int .u8 22) _ rfl)
  go_enter Try.func54, Try.ntmps54
  go_wp2_with fail
  obtain ⟨_, _, _, hBel, _⟩ := HW.out
  refine (HL.out _ hBel).mono ?_
  rintro e w2 ⟨C, kC, rfl, o2, b3⟩
  have B3 := hide (below_on hBel b3)
  have O2 := hide (own_base o2 hBel.size)
  clear o2 b3 hBel
  go_wp2
  go_ret
  exact ⟨C, kC, rfl, O2.out, B3.out⟩

theorem layAns_code (f a c t an o code : Int) (A B : Option Addr) (n k m d : Nat) (w : World) (hf : 1 ≤ f) (hf' : f ≤ 23) (hc0 : code ≠ 0) (hc : 1 ≤ code) (hc' : code ≤ 255) :
    Calls Try.prog 54 #[.agg #[.int .i64 f, .int .i64 a, .int .i64 c, .slice A n k, .int .i64 t, .int .i64 an, .int .i64 o], .agg #[.slice B m d, .int .i64 code]] w (RetOwn 5 2 (bv [UInt8.ofNat (f + 128).toNat, UInt8.ofNat code.toNat]) w) := by
  have q1 : (code != 0) = true := ne_bne hc0
  have q2 : (f + 128) % 256 = f + 128 := by omega
  have q3 : code % 256 = code := by omega
  have Hv : Hid (bv [UInt8.ofNat (f + 128).toNat, UInt8.ofNat code.toNat] = [.int .u8 (f + 128), .int .u8 code]) := by
    show _ = _
    simp only [bv, List.map_cons, List.map_nil, UInt8.toNat_ofNat']
    congr 1
    · congr 1; omega
    · congr 1; congr 1; omega
  clear hc0
  go_enter Try.func54, Try.ntmps54
  go_wp2
  go_ret
  have h3 := Blk.new ((w.alloc (.cells #[.int .i64 f, .int .i64 a, .int .i64 c, .slice A n k, .int .i64 t, .int .i64 an, .int .i64 o] 37)).alloc (.cells #[.slice B m d, .int .i64 code] 61)) 5 [.int .u8 (f + 128), .int .u8 code]
  simp only [World.size_alloc] at h3
  refine ⟨_, 2, rfl, ?_, (((Below.refl _ _).alloc (Nat.le_refl _) _).alloc (by simp) _).alloc (by simp; omega) _⟩
  rw [Hv.out]
  exact h3.own (by omega) 2 rfl (by decide)

theorem layAns_any (f a c t an o code : Int) (A B : Option Addr) (n k m d : Nat) (vs us : List Int) (w : World) (h : Rd w A n (iv vs)) (h2 : Rd w B m (iv us)) (hm : mayB f a c vs t an o = true) (hx : ansMayB f c code us = true) :
    Calls Try.prog 54 #[.agg #[.int .i64 f, .int .i64 a, .int .i64 c, .slice A n k, .int .i64 t, .int .i64 an, .int .i64 o], .agg #[.slice B m d, .int .i64 code]] w (RetOwn 5 (ansL f a c vs t an o code us).length (bv (ansL f a c vs t an o code us)) w) := by
  have hl : us.length = m := by rw [← iv_length]; exact h2.1
  have hvl : vs.length = n := by rw [← iv_length]; exact h.1
  have hc := may_count hm
  have hf := may_func hm
  have hLL := lay_length hm
  rw [ans_length hm hx, hl, hvl]
  rcases ans_cases hm hx with ⟨h0, h1, h3, rfl⟩ | ⟨rfl, hf2, h1, h3⟩ | ⟨rfl, hf2, h1, h3⟩ | ⟨rfl, hf2, rfl⟩ | ⟨rfl, hf2, rfl⟩
  · have e1 : sizeOfAn f code n m = 2 := by simp [sizeOfAn, h0]
    have e2 : ansL f a c vs t an o code [] = [UInt8.ofNat (f + 128).toNat, UInt8.ofNat code.toNat] := by simp [ansL, h0]
    rw [e1, e2]
    exact layAns_code f a c t an o code A B n k m d w (by omega) (by omega) h0 h1 h3
  · rcases hf2 with rfl | rfl
    · exact (layAns_1 a c t an o A B n k m d _ us w h2 h3 (by omega) rfl).mono fun _ _ h => h
    · exact (layAns_2 a c t an o A B n k m d _ us w h2 h3 (by omega) rfl).mono fun _ _ h => h
  · rcases hf2 with rfl | rfl | rfl
    · exact (layAns_3 a c t an o A B n k m d us w h2 h3 (by omega) (by omega)).mono fun _ _ h => h
    · exact (layAns_4 a c t an o A B n k m d us w h2 h3 (by omega) (by omega)).mono fun _ _ h => h
    · exact (layAns_23 a c t an o A B n k m d us w h2 h3 (by omega) (by omega)).mono fun _ _ h => h
  · rcases hf2 with rfl | rfl
    · exact (layAns_15 a c t an o A B n k m d w (by omega) (by omega) (by omega) (by omega)).mono fun _ _ h => h
    · exact (layAns_16 a c t an o A B n k m d w (by omega) (by omega) (by omega) (by omega)).mono fun _ _ h => h
  · rcases hf2 with rfl | rfl | rfl
    · exact (layAns_5 a c t an o A B n k m d vs w h hm).mono fun _ _ h => h.to (by rw [hLL, hvl]; rfl) rfl
    · exact (layAns_6 a c t an o A B n k m d vs w h hm).mono fun _ _ h => h.to (by rw [hLL, hvl]; rfl) rfl
    · exact (layAns_22 a c t an o A B n k m d vs w h hm).mono fun _ _ h => h.to (by rw [hLL, hvl]; rfl) rfl

end Go.Proofs.Ytfpfijggmfeejaa
