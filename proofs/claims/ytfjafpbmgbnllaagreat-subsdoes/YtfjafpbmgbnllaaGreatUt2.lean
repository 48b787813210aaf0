/-
  What is proved here: what the functions of package utf return that go through bytes (walk with either of its two takers; Is; Points) and that lay points down (Text). Conditions: none for texts; lists of at most 2^40 ints.
-/
import Derived.Test.YtfjafpbmgbnllaaGreatUt1
import Derived.RangeFuncNested
import Derived.RangeFuncBox
import Derived.WalkMore
namespace Go.Proofs.YtfjafpbmgbnllaaGreat
set_option linter.unusedVariables false
set_option linter.unusedSimpArgs false
open Go.RowKit

/-- Whole blocks of bytes are as they were. -/
def KeepU (W W' : World) : Prop := ∀ (g : Nat) (cs : Array Value) (fl : Nat × Nat), W.heap[g]? = some (.cells cs 5 fl) → W'.heap[g]? = some (.cells cs 5 fl)
theorem KeepU.refl (W : World) : KeepU W W := fun _ _ _ h => h
theorem KeepU.trans {A B C : World} (h : KeepU A B) (k : KeepU B C) : KeepU A C := fun g cs fl e => k g cs fl (h g cs fl e)
theorem KeepU.grown {W W' : World} {row : Option Nat} (hg : W.grownBy W' row) (h : ∀ r, row = some r → ∃ cs t fl, W.heap[r]? = some (.cells cs t fl) ∧ t ≠ 5) : KeepU W W' := by
  intro g cs fl e
  have hlt : g < W.heap.size := (Array.getElem?_eq_some_iff.1 e).1
  refine (hg.block g hlt fun e' => ?_).trans e
  obtain ⟨cs', t, fl', e2, ht⟩ := h g e'.symm
  rw [e] at e2
  simp only [Option.some.injEq, Obj.cells.injEq] at e2
  exact ht e2.2.1.symm
theorem KeepU.ofBelow {W W' : World} (b : Below W.heap.size W W') : KeepU W W' := fun g cs fl e => (b.block g (Array.getElem?_eq_some_iff.1 e).1).trans e

/-- A block of bytes that begins with xs. -/
def BytesAt (W : World) (g : Nat) (xs : List UInt8) : Prop := ∃ (cs : Array Value) (fl : Nat × Nat), W.heap[g]? = some (.cells cs 5 fl) ∧ ∀ (i : Nat) (v : Value), (bv xs)[i]? = some v → cs[i]? = some v
theorem BytesAt.keep {W W' : World} {g : Nat} {xs : List UInt8} (h : BytesAt W g xs) (k : KeepU W W') : BytesAt W' g xs := by
  obtain ⟨cs, fl, h1, h2⟩ := h
  exact ⟨cs, fl, k g cs fl h1, h2⟩
theorem BytesAt.cell {W : World} {g : Nat} {xs : List UInt8} (h : BytesAt W g xs) (i : Nat) (hi : i < xs.length) : W.cell? ⟨g, i, none⟩ = some (.int .u8 xs[i].toNat) := by
  obtain ⟨cs, fl, h1, h2⟩ := h
  unfold World.cell?
  simp only [h1]
  exact h2 i _ (bv_get xs i hi)

/-- []byte(s): a block of bytes of its own. -/
theorem run_toBsU {P : Program} (w : World) (src dst : TypeId) (s : ByteArray) (hs : P.underlying src = some .string) (hd : P.underlying dst = some (.slice 5)) (he : P.underlying 5 = some (.int .u8)) :
    ∃ c W, (convert src dst (.string s)).run P w = .ok (.slice (some ⟨w.heap.size, 0, none⟩) s.size c) W ∧ BytesAt W w.heap.size s.data.toList ∧ Below w.heap.size w W ∧ s.size ≤ c ∧ w.heap.size < W.heap.size := by
  refine ⟨_, _, run_bytes_of_string w src dst 5 s hs hd he, ⟨bytesRow s (grownCap w s.size 0 5), ((bytesRow s (grownCap w s.size 0 5)).size, (bytesRow s (grownCap w s.size 0 5)).size + 1), ?_, fun i v hv => ?_⟩, ?_, grownCap_ge w _ _ _, by simp⟩
  · show (w.heap.push _)[w.heap.size]? = _
    simp
  · have hi : i < s.size := by
      have := (List.getElem?_eq_some_iff.1 hv).1
      rw [bv_length, Array.length_toList] at this
      exact this
    rw [bytesRow, Array.getElem?_append_left (by simpa using hi)]
    rw [bv, List.getElem?_map] at hv
    rw [Array.getElem?_map, ← Array.getElem?_toList]
    exact hv
  · exact ((Below.refl _ _).drew).alloc (Nat.le_refl _) _
theorem wpList_toBsU {P : Program} {w : World} {ops : Array Oper} {rest : List Oper} {o : Oper} {a : Act} {Q : Exit → Act → World → Prop} (hgd : o.guard = none) (x : Operand) (src dst : TypeId) (ho : o.op = .convert src dst x)
    (s : ByteArray) (hx : a.eval x = .string s) (hs : P.underlying src = some .string) (hd : P.underlying dst = some (.slice 5)) (he : P.underlying 5 = some (.int .u8))
    (h : ∀ c W, BytesAt W w.heap.size s.data.toList → Below w.heap.size w W → s.size ≤ c → w.heap.size < W.heap.size → wpList P ops Q rest (a.put o.dst (.slice (some ⟨w.heap.size, 0, none⟩) s.size c)) W) : wpList P ops Q (o :: rest) a w := by
  refine wpList_plain hgd fun K hK => ?_
  obtain ⟨c, W, hrun, h2, h3, h4, h5⟩ := run_toBsU (P := P) w src dst s hs hd he
  unfold Oper.wp execOp
  simp only [ho, Sem.run_bind, hx, hrun, Result.andThen_ok]
  exact hK _ _ (h c W h2 h3 h4 h5)

/-- Numbers as ints. -/
def nts (ps : List Nat) : List Int := ps.map Int.ofNat
theorem nts_length (ps : List Nat) : (nts ps).length = ps.length := by simp [nts]
theorem nts_append (ps qs : List Nat) : nts (ps ++ qs) = nts ps ++ nts qs := by simp [nts]

/-- The box holds the points that were taken. -/
def JP (base B : Nat) (ps : List Nat) (W : World) : Prop := ∃ (A : Option Addr) (c : Nat), Boxed W B 90 (.slice A ps.length c) ∧ W.ownsRow base 3 1 (.slice A ps.length c) ps.length (iv (nts ps))
def JI (_base _B : Nat) (_ps : List Nat) (_W : World) : Prop := True

theorem is1_any (base B : Nat) (ps : List Nat) (p : Nat) (W : World) : Calls Tryz.prog 71 #[.int .i64 (p : Int)] W fun e W' => (∃ r, e = .returned r) ∧ JI base B (ps ++ [p]) W' ∧ Below base W W' ∧ KeepU W W' := by
  go_enter Tryz.func71, Tryz.ntmps71
  go_wp2
  go_end0
  exact ⟨⟨_, rfl⟩, trivial, Below.refl _ _, KeepU.refl _⟩

/-- What is read of a point is so great. -/
def okS (p l : Nat) : Prop := (l = 0 ∧ p ≤ 4194303) ∨ (l = 1 ∧ p ≤ 65535) ∨ (l = 2 ∧ p ≤ 1023) ∨ (l = 3 ∧ p ≤ 15)
theorem okS_first (c : Nat) (h : c < 256) : okS (fdig c) (fsz c - 1) ∧ 1 ≤ fsz c ∧ fsz c ≤ 4 := by
  unfold okS fdig fsz
  by_cases h1 : c < 128
  · rw [if_pos h1, if_pos (show c < 192 by omega)]; omega
  by_cases h2 : c < 192
  · rw [if_neg h1, if_pos h2, if_pos h2]; omega
  by_cases h3 : c < 224
  · rw [if_neg h1, if_neg h2, if_pos h3, if_neg h2, if_pos h3]; omega
  by_cases h4 : c < 240
  · rw [if_neg h1, if_neg h2, if_neg h3, if_pos h4, if_neg h2, if_neg h3, if_pos h4]; omega
  · rw [if_neg h1, if_neg h2, if_neg h3, if_neg h4, if_neg h2, if_neg h3, if_neg h4]; omega
theorem okS_rest {p l c : Nat} (h : okS p l) (h0 : 0 < l) (h2 : c < 192) : okS (p * 64 + (c - 128)) (l - 1) := by
  unfold okS at h ⊢
  omega

/-- The points of a text of at most 65535 bytes; none: it is no string. -/
def ptsU (xs : List UInt8) : Option (List Nat) := if xs.length ≤ 65535 then ptsL xs else none



set_option maxRecDepth 100000 in
set_option maxHeartbeats 4000000 in
theorem walkI_any (xs : List UInt8) (n : Nat) (hx : xs.length = n) (base B : Nat) (w : World) (hJ : JI base B [] w) (hbase : base ≤ w.heap.size) :
    Calls Tryz.prog 70 #[.string (str xs), .func (.func 71) #[] #[]] w fun e w' => ∃ r, e = .returned (.bool r) ∧ ((r = false ∧ ptsU xs = none) ∨ ∃ ps, r = true ∧ ptsU xs = some ps ∧ JI base B ps w') ∧ Below base w w' := by
  have hsz : (str xs).size = n := by rw [str_size, hx]
  by_cases hn : n ≤ 65535
  · have q0 : ¬ (65535 : Int) < (n : Int) := by omega
    have HU := hide (show ptsU xs = ptsL xs by unfold ptsU; rw [if_pos (by omega)])
    go_enter Tryz.func70, Tryz.ntmps70
    go_wp2
    go_step3
    go_wp2
    go_step3
    go_wp2_with (refine wpList_toBsU rfl (.tmp 14) 9 121 rfl (str xs) rfl Tryz.underlying9 Tryz.underlying121 Tryz.underlying5 ?_; rw [hsz]; intro c1 w1 r1 b1 hc1 _; rw [str_data] at r1)
    have Hx := hide hx
    have Hsz := hide hsz
    have hJ1 : JI base B [] w1 := trivial
    have HB1 := hide (b1.mono hbase)
    obtain ⟨g, hg⟩ : ∃ g, w.heap.size = g := ⟨_, rfl⟩
    rw [hg] at r1
    rw [hg]
    have hbase1 : base ≤ w1.heap.size := Nat.le_trans hbase b1.size
    clear b1 hx hsz hg
    have hgo0 : ptsL xs = (goP 0 0 0 (xs.drop 0)).map ([] ++ ·) := by simp [ptsL]
    go_loopw [5, 6, 7, 8, 17] (fun p s l t i wr => ∃ (P S L T I : Nat) (ps : List Nat), p = .int .i64 (P : Int) ∧ s = .int .i64 (S : Int) ∧ l = .int .i64 (L : Int) ∧ t = .int .i64 (T : Int) ∧ i = .int .i64 (I : Int) ∧ I ≤ n ∧
      ptsL xs = (goP P S L (xs.drop I)).map (ps ++ ·) ∧ okS P L ∧ S ≤ 4 ∧ (L = 0 → T = I) ∧ (0 < L → T < I) ∧ ps.length ≤ I ∧ JI base B ps wr ∧ Below base w wr ∧ BytesAt wr g xs) (fun _ _ _ _ i _ => n - (intOf i).toNat)
    case atStart => exact ⟨0, 0, 0, 0, 0, [], rfl, rfl, rfl, rfl, rfl, by omega, hgo0, .inl ⟨rfl, by omega⟩, by omega, fun _ => rfl, fun h => absurd h (by omega), by simp, hJ1, HB1.out, r1⟩
    case round =>
      obtain ⟨P, S, L, T, I, ps, rfl, rfl, rfl, rfl, rfl, hI, hgo, hok, hS4, hT0, hT1, hps, hJ, hB, hby⟩ := hrel
      have HB := hide hB
      have Hby := hide hby
      have Hps := hide hps
      have hbr : base ≤ wr.heap.size := Nat.le_trans hbase hB.size
      have Hbr := hide hbr
      clear hbr
      clear hB hby hps hbase1 r1 hgo0 hJ1
      by_cases hlt : I < n
      · have q1 : (I : Int) < (n : Int) := by omega
        have hlt' : I < xs.length := by rw [Hx.out]; exact hlt
        have c0 := Hby.out.cell I hlt'
        have hX := xs[I].toNat_lt
        have hd : xs.drop I = xs[I] :: xs.drop (I + 1) := List.drop_eq_getElem_cons hlt'
        rw [hd] at hgo
        generalize xs[I] = x at *
        obtain ⟨X, hXe⟩ : ∃ X, x.toNat = X := ⟨_, rfl⟩
        rw [hXe] at c0 hX
        by_cases hL : L = 0
        · subst hL
          rw [goP_first, hXe] at hgo
          obtain rfl := (hT0 rfl).symm
          have ⟨o1, o2, o3⟩ := okS_first X (by omega)
          obtain ⟨P1, hP1⟩ : ∃ P1, fdig X = P1 := ⟨_, rfl⟩
          obtain ⟨S1, hS1⟩ : ∃ S1, fsz X = S1 := ⟨_, rfl⟩
          have F1 := first_any X (by omega)
          rw [hP1, hS1] at F1 hgo
          rw [hP1, hS1] at o1
          rw [hS1] at o2 o3
          obtain ⟨L1, hL1⟩ : ∃ L1, S1 - 1 = L1 := ⟨_, rfl⟩
          rw [hL1] at hgo o1
          have qL : (S1 : Int) - 1 = (L1 : Int) := by omega
          have qT : ((I : Int) == (xs.length : Int)) = false := by rw [Hx.out]; simp; omega
          have Hgo := hide hgo
          have Hok := hide o1
          have Hs4 := hide (show S1 ≤ 4 from o3)
          clear hgo o1 hP1 hS1 hd hXe hok hT0 hT1 hL1 hS4
          by_cases h0 : L1 = 0
          · have q2 : ¬ (0 : Int) < ((L1 : Nat) : Int) := by omega
            have q2' : ((L1 : Nat) : Int) ≤ 0 := by omega
            cases hp : isPt ((P1 : Nat) : Int) with
            | false =>
              have hnone : ptsL xs = none := by rw [Hgo.out, h0, finP_no (by rw [hp]; simp)]; rfl
              have Hnone := hide hnone
              clear hnone
              go_wp2_with (first | (go_at_call 89; refine (F1 _).mono ?_; rintro e w' ⟨rfl, rfl⟩) | (go_at_call 91; refine (isPoint_any _ _).mono ?_; rintro e w' ⟨rfl, rfl⟩; rw [hp]))
              try rw [Exit.noGoto_ret]
              go_ret
              exact ⟨_, rfl, .inl ⟨rfl, by rw [HU.out, Hnone.out]⟩, HB.out⟩
            | true =>
              obtain ⟨Z, hZ⟩ : ∃ Z, szP P1 = Z := ⟨_, rfl⟩
              have S0 := sizeOf_any P1
              rw [hZ] at S0
              by_cases hz : Z = S1
              · have q3 : ((Z : Int) != ((S1 : Nat) : Int)) = false := by simp; omega
                have Hnx : Hid (ptsL xs = (goP P1 S1 L1 (xs.drop (I + 1))).map ((ps ++ [P1]) ++ ·)) := by
                  refine hide ?_
                  rw [Hgo.out, h0, finP_ok hp (hZ.trans hz)]
                  cases goP P1 S1 0 (xs.drop (I + 1)) <;> simp
                have Hpl : Hid (ps.length ≤ 100000) := by
                  refine hide ?_
                  have := Hps.out
                  omega
                have H0 := hide h0
                clear hZ hz h0
                go_wp2_with (first
                  | (go_at_call 89; refine (F1 _).mono ?_; rintro e w' ⟨rfl, rfl⟩)
                  | (go_at_call 91; refine (isPoint_any _ _).mono ?_; rintro e w' ⟨rfl, rfl⟩; rw [hp])
                  | (go_at_call 92; refine (S0 _).mono ?_; rintro e w' ⟨rfl, rfl⟩)
                  | (go_at_call 71; refine (is1_any base B ps P1 _).mono ?_; rintro e w3 ⟨⟨r3, rfl⟩, hJ3, b3, k3⟩))
                refine ⟨⟨P1, S1, L1, I + 1, I + 1, ps ++ [P1], by first | rfl | go_num, by first | rfl | go_num, by first | rfl | go_num, by go_num, by go_num, by omega, Hnx.out, Hok.out, Hs4.out, fun _ => rfl, fun h => absurd H0.out (by omega), by have := Hps.out; simp; omega, hJ3, HB.out.trans b3, Hby.out.keep k3⟩, by simp [intOf]; omega⟩
              · have q3 : ((Z : Int) != ((S1 : Nat) : Int)) = true := by rw [bne_iff_ne]; omega
                have hnone : ptsL xs = none := by rw [Hgo.out, h0, finP_no (by rw [hZ]; exact fun h => hz h.2)]; rfl
                have Hnone := hide hnone
                clear hnone hZ hz
                go_wp2_with (first
                  | (go_at_call 89; refine (F1 _).mono ?_; rintro e w' ⟨rfl, rfl⟩)
                  | (go_at_call 91; refine (isPoint_any _ _).mono ?_; rintro e w' ⟨rfl, rfl⟩; rw [hp])
                  | (go_at_call 92; refine (S0 _).mono ?_; rintro e w' ⟨rfl, rfl⟩))
                try rw [Exit.noGoto_ret]
                go_ret
                exact ⟨_, rfl, .inl ⟨rfl, by rw [HU.out, Hnone.out]⟩, HB.out⟩
          · have q2 : (0 : Int) < ((L1 : Nat) : Int) := by omega
            have Hnx : Hid (ptsL xs = (goP P1 S1 L1 (xs.drop (I + 1))).map (ps ++ ·)) := by
              refine hide ?_
              rw [Hgo.out, finP_go (by omega)]
            go_wp2_with (first | (go_at_call 89; refine (F1 _).mono ?_; rintro e w' ⟨rfl, rfl⟩) | fail)
            refine ⟨⟨P1, S1, L1, I, I + 1, ps, by first | rfl | go_num, by first | rfl | go_num, by first | rfl | go_num, rfl, by go_num, by omega, Hnx.out, Hok.out, Hs4.out, fun h => absurd h h0, fun _ => by omega, by have := Hps.out; omega, hJ, HB.out, Hby.out⟩, by simp [intOf]; omega⟩
        · have q4 : ((L : Int) == 0) = false := by simp; omega
          have Hs4 := hide hS4
          have hTn : T < I := hT1 (by omega)
          by_cases hgn : 128 ≤ X ∧ X < 192
          · rw [goP_rest _ _ _ _ _ (by omega) (by omega) (by omega), hXe] at hgo
            have o1 := okS_rest hok (by omega) hgn.2
            have hdn : decide (128 ≤ X ∧ X < 192) = true := by rw [decide_eq_true_eq]; exact hgn
            have hP65 : P ≤ 65535 := by unfold okS at hok; omega
            have qX : (128 : Int) ≤ (X : Int) := by omega
            have qX2 : (X : Int) < 192 := by omega
            obtain ⟨P1, hP1⟩ : ∃ P1, P * 64 + (X - 128) = P1 := ⟨_, rfl⟩
            obtain ⟨L1, hL1⟩ : ∃ L1, L - 1 = L1 := ⟨_, rfl⟩
            rw [hP1, hL1] at hgo o1
            have qL : (L : Int) - 1 = (L1 : Int) := by omega
            have qP : (P : Int) * 64 + ((X : Int) - 128) = (P1 : Int) := by omega
            have qT : ((T : Int) == (xs.length : Int)) = false := by rw [Hx.out]; simp; omega
            have hL3 : L ≤ 3 := by unfold okS at hok; omega
            have Hgo := hide hgo
            have Hok := hide o1
            clear hgo o1 hP1 hd hXe hok hT0 hT1 hL1 hgn hS4
            by_cases h0 : L1 = 0
            · have q2 : ¬ (0 : Int) < ((L1 : Nat) : Int) := by omega
              have q2' : ((L1 : Nat) : Int) ≤ 0 := by omega
              cases hp : isPt ((P1 : Nat) : Int) with
              | false =>
                have hnone : ptsL xs = none := by rw [Hgo.out, h0, finP_no (by rw [hp]; simp)]; rfl
                have Hnone := hide hnone
                clear hnone
                go_wp2_with (first | (go_at_call 90; refine (goesOn_any X _).mono ?_; rintro e w' ⟨rfl, rfl⟩; rw [hdn]) | (go_at_call 91; refine (isPoint_any _ _).mono ?_; rintro e w' ⟨rfl, rfl⟩; rw [hp]))
                try rw [Exit.noGoto_ret]
                go_ret
                exact ⟨_, rfl, .inl ⟨rfl, by rw [HU.out, Hnone.out]⟩, HB.out⟩
              | true =>
                obtain ⟨Z, hZ⟩ : ∃ Z, szP P1 = Z := ⟨_, rfl⟩
                have S0 := sizeOf_any P1
                rw [hZ] at S0
                by_cases hz : Z = S
                · have q3 : ((Z : Int) != ((S : Nat) : Int)) = false := by simp; omega
                  have Hnx : Hid (ptsL xs = (goP P1 S L1 (xs.drop (I + 1))).map ((ps ++ [P1]) ++ ·)) := by
                    refine hide ?_
                    rw [Hgo.out, h0, finP_ok hp (hZ.trans hz)]
                    cases goP P1 S 0 (xs.drop (I + 1)) <;> simp
                  have Hpl : Hid (ps.length ≤ 100000) := by
                    refine hide ?_
                    have := Hps.out
                    omega
                  have H0 := hide h0
                  clear hZ hz h0
                  go_wp2_with (first
                    | (go_at_call 90; refine (goesOn_any X _).mono ?_; rintro e w' ⟨rfl, rfl⟩; rw [hdn])
                    | (go_at_call 91; refine (isPoint_any _ _).mono ?_; rintro e w' ⟨rfl, rfl⟩; rw [hp])
                    | (go_at_call 92; refine (S0 _).mono ?_; rintro e w' ⟨rfl, rfl⟩)
                    | (go_at_call 71; refine (is1_any base B ps P1 _).mono ?_; rintro e w3 ⟨⟨r3, rfl⟩, hJ3, b3, k3⟩))
                  refine ⟨⟨P1, S, L1, I + 1, I + 1, ps ++ [P1], by first | rfl | go_num, by first | rfl | go_num, by first | rfl | go_num, by go_num, by go_num, by omega, Hnx.out, Hok.out, Hs4.out, fun _ => rfl, fun h => absurd H0.out (by omega), by have := Hps.out; simp; omega, hJ3, HB.out.trans b3, Hby.out.keep k3⟩, by simp [intOf]; omega⟩
                · have q3 : ((Z : Int) != ((S : Nat) : Int)) = true := by rw [bne_iff_ne]; omega
                  have hnone : ptsL xs = none := by rw [Hgo.out, h0, finP_no (by rw [hZ]; exact fun h => hz h.2)]; rfl
                  have Hnone := hide hnone
                  clear hnone hZ hz
                  go_wp2_with (first
                    | (go_at_call 90; refine (goesOn_any X _).mono ?_; rintro e w' ⟨rfl, rfl⟩; rw [hdn])
                    | (go_at_call 91; refine (isPoint_any _ _).mono ?_; rintro e w' ⟨rfl, rfl⟩; rw [hp])
                    | (go_at_call 92; refine (S0 _).mono ?_; rintro e w' ⟨rfl, rfl⟩))
                  try rw [Exit.noGoto_ret]
                  go_ret
                  exact ⟨_, rfl, .inl ⟨rfl, by rw [HU.out, Hnone.out]⟩, HB.out⟩
            · have q2 : (0 : Int) < ((L1 : Nat) : Int) := by omega
              have Hnx : Hid (ptsL xs = (goP P1 S L1 (xs.drop (I + 1))).map (ps ++ ·)) := by
                refine hide ?_
                rw [Hgo.out, finP_go (by omega)]
              go_wp2_with (first | (go_at_call 90; refine (goesOn_any X _).mono ?_; rintro e w' ⟨rfl, rfl⟩; rw [hdn]) | fail)
              refine ⟨⟨P1, S, L1, T, I + 1, ps, by first | rfl | go_num, by first | rfl | go_num, by first | rfl | go_num, rfl, by go_num, by omega, Hnx.out, Hok.out, Hs4.out, fun h => absurd h h0, fun _ => by omega, by have := Hps.out; omega, hJ, HB.out, Hby.out⟩, by simp [intOf]; omega⟩
          · rw [goP_bad _ _ _ _ _ (by omega) (by rw [hXe]; exact hgn)] at hgo
            have hdn : decide (128 ≤ X ∧ X < 192) = false := by rw [decide_eq_false_iff_not]; exact hgn
            have qT : ((T : Int) == (xs.length : Int)) = false := by rw [Hx.out]; simp; omega
            have Hgo := hide hgo
            clear hgo hd hXe hok hT0 hT1 hgn
            go_wp2_with (go_at_call 90; refine (goesOn_any X _).mono ?_; rintro e w' ⟨rfl, rfl⟩; rw [hdn])
            try rw [Exit.noGoto_ret]
            go_ret
            exact ⟨_, rfl, .inl ⟨rfl, by rw [HU.out, Hgo.out]; rfl⟩, HB.out⟩
      · obtain rfl : I = n := by omega
        rw [List.drop_eq_nil_of_le (by rw [Hx.out]; exact Nat.le_refl _)] at hgo
        have q1 : ¬ (I : Int) < (I : Int) := by omega
        by_cases hL : L = 0
        · subst hL
          obtain rfl := (hT0 rfl).symm
          have Hgo := hide hgo
          clear hgo hok hT0 hT1
          go_wp2_with fail
          try rw [Exit.noGoto_ret]
          go_ret
          exact ⟨_, rfl, .inr ⟨ps, by rw [Hx.out]; simp, by rw [HU.out, Hgo.out]; simp [goP], hJ⟩, HB.out⟩
        · have qT : ((T : Int) == (xs.length : Int)) = false := by rw [Hx.out]; have := hT1 (by omega); simp; omega
          have Hgo := hide (show ptsL xs = none by rw [hgo, goP, if_neg hL]; rfl)
          clear hgo hok hT0 hT1
          go_wp2_with fail
          try rw [Exit.noGoto_ret]
          go_ret
          exact ⟨_, rfl, .inl ⟨rfl, by rw [HU.out, Hgo.out]⟩, HB.out⟩
  · have q0 : (65535 : Int) < (n : Int) := by omega
    have HU := hide (show ptsU xs = none by unfold ptsU; rw [if_neg (by omega)])
    go_enter Tryz.func70, Tryz.ntmps70
    go_wp2
    go_step3
    go_wp2
    try rw [Exit.noGoto_ret]
    go_ret
    exact ⟨_, rfl, .inl ⟨rfl, HU.out⟩, Below.refl _ _⟩

theorem JP.keep {base B : Nat} {ps : List Nat} {w w' : World} (h : JP base B ps w) (b : Below w.heap.size w w') : JP base B ps w' := by
  obtain ⟨A, c, h1, h2⟩ := h
  exact ⟨A, c, (b.block B h1.lt).trans h1, own_keep h2 b⟩

end Go.Proofs.YtfjafpbmgbnllaaGreat
