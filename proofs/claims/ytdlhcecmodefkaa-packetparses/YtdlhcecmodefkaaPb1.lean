/-
  What is proved here: rows of bytes that are added to (Trk), and the program's 'addWord', 'addText', 'behindPublish' of package packet. Condition: at most 2^40 bytes; strings of at most 65535 bytes. ALSO: the program's 'behindPublish', 'behindCodes' of package packet. Conditions: strings of at most 65535 bytes; at most 65535 codes. ALSO: the program's 'behindNames' of package packet. Conditions: strings of at most 65535 bytes; at most 65535 filters.
-/
import Derived.Test.YtdlhcecmodefkaaPq4
import Derived.Test.YtdlhcecmodefkaaPkLd
import Derived.Test.YtdlhcecmodefkaaWire
import Derived.Test.YtdlhcecmodefkaaMem5
import Derived.Lib.AppendStr
import Derived.LoopTactic
import Derived.Test.YtdlhcecmodefkaaInfo
namespace Go.Proofs.Ytdlhcecmodefkaa
set_option linter.unusedVariables false
set_option linter.unusedSimpArgs false
open Go.RowKit

/-- The blocks of a slice. -/
abbrev SoA (A : Option Addr) : Nat → Prop := fun i => ∃ o, A = some ⟨i, o, none⟩
/-- A row of bytes of the caller's own that came in as A, returned with ys. -/
def RetApp (base : Nat) (A : Option Addr) (N : Nat) (ys : List UInt8) (w : World) (e : Ending) (w' : World) : Prop :=
  ∃ A' c', e = .returned (.slice A' N c') ∧ w'.ownsRow base 5 1 (.slice A' N c') N (bv ys) ∧ But (SoA A) w w' ∧ (A' = A ∨ NewAt w A')
/-- A row that was A0 in w0 and has grown. -/
structure Trk (base : Nat) (w0 : World) (A0 : Option Addr) (A : Option Addr) (c n : Nat) (xs : List UInt8) (w : World) : Prop where
  own : w.ownsRow base 5 1 (.slice A n c) n (bv xs)
  but : But (SoA A0) w0 w
  wh : A = A0 ∨ NewAt w0 A
  base : base ≤ w.heap.size
theorem Trk.start {base : Nat} {w : World} {A : Option Addr} {c n : Nat} {xs : List UInt8} (h : w.ownsRow base 5 1 (.slice A n c) n (bv xs)) (hb : base ≤ w.heap.size) : Trk base w A A c n xs w := ⟨h, But.refl _ _, .inl rfl, hb⟩
theorem Trk.step {base : Nat} {w0 w w' : World} {A0 A A' : Option Addr} {c c' n N : Nat} {xs ys : List UInt8} (h : Trk base w0 A0 A c n xs w) (o : w'.ownsRow base 5 1 (.slice A' N c') N (bv ys)) (b : But (SoA A) w w') (k : A' = A ∨ NewAt w A') : Trk base w0 A0 A' c' N ys w' :=
  ⟨o, h.but.trans b (fun i hi hs => by
    rcases h.wh with e | e
    · rw [← e]; exact hs
    · obtain ⟨o', e'⟩ := hs
      have := e i o' e'
      omega),
   by
    rcases k with k | k
    · rw [k]; exact h.wh
    · exact .inr (k.old h.but.size),
   Nat.le_trans h.base b.size⟩
theorem Trk.keep {base : Nat} {w0 w w' : World} {A0 A : Option Addr} {c n : Nat} {xs : List UInt8} (h : Trk base w0 A0 A c n xs w) (b : Below w.heap.size w w') : Trk base w0 A0 A c n xs w' :=
  ⟨own_keep h.own b, h.but.on b, h.wh, Nat.le_trans h.base b.size⟩
theorem Trk.ret {base : Nat} {w0 w w1 : World} {A0 A : Option Addr} {c n : Nat} {xs : List UInt8} (h : Trk base w1 A0 A c n xs w) (b : Below w0.heap.size w0 w1) : RetApp base A0 n xs w0 (.returned (.slice A n c)) w :=
  ⟨A, c, rfl, h.own, But.after b h.but, by
    rcases h.wh with e | e
    · exact .inl e
    · exact .inr (e.old b.size)⟩
theorem wordI_length (n : Int) : (wordI n).length = 2 := rfl

set_option maxHeartbeats 1000000 in
theorem addWord_any (base : Nat) (A : Option Addr) (n c N : Nat) (xs : List UInt8) (w : World) (d : Int) (h : w.ownsRow base 5 1 (.slice A n c) n (bv xs)) (hN : n + 2 = N) (hl : N ≤ 1099511627776) (hb : base ≤ w.heap.size) (h0 : 0 ≤ d) (h1 : d ≤ 65535) : Calls Try.prog 67 #[.slice A n c, .int .i64 d] w (RetApp base A N (xs ++ wordI d) w) := by
  subst hN
  obtain ⟨k, rfl⟩ : ∃ k : Nat, d = (k : Int) := ⟨d.toNat, by omega⟩
  have P := putI none 0 0 (k : Int) k 2 rfl rfl [] w (Rd.nil _ _) (by omega) (by omega)
  have ew : wordI (k : Int) = word k := by unfold wordI; rw [Int.toNat_natCast]
  rw [ew]
  clear ew
  go_enter Try.func67, Try.ntmps67
  go_wp2_with fail
  refine P.mono ?_
  rintro e w1 ⟨rfl, k1, b1⟩
  have hr : Rd w1 (some ⟨w.heap.size, 0, none⟩) 2 (bv (word k)) := k1.rd
  have ho := own_keep h b1
  have hbw := Nat.le_trans hb b1.size
  clear k1 P
  go_wp2_with (at_builtin; refine wpList_app2 rfl (.tmp 12) (.tmp 13) 31 rfl 5 _ _ Try.underlying31 u8_info rfl base A n c (bv xs) rfl ho (some ⟨w.heap.size, 0, none⟩) 2 2 (bv (word k)) rfl hr (bv_one _) (by unfold maxLen; omega) (by omega) hbw ?_; intro A2 c2 w2 o2 b2 h2; rw [← bv_append] at o2)
  go_ret
  exact ((Trk.start h hb).keep b1 |>.step o2 b2 h2).ret (Below.refl _ _)

set_option maxHeartbeats 1000000 in
theorem addText_any (base : Nat) (A : Option Addr) (n c m N : Nat) (xs s : List UInt8) (w : World) (h : w.ownsRow base 5 1 (.slice A n c) n (bv xs)) (hs : s.length = m) (hN : n + (2 + m) = N) (hl : N ≤ 1099511627776) (hb : base ≤ w.heap.size) (h1 : m ≤ 65535) : Calls Try.prog 86 #[.slice A n c, .string (str s)] w (RetApp base A N (xs ++ textL s) w) := by
  subst hN
  have P := putTextI none 0 0 m (2 + m) (by omega) [] (str s) w (Rd.nil _ _) (by omega) (by rw [str_size]; exact hs) h1
  rw [str_data] at P
  have et : textL s = word m ++ s := by unfold textL; rw [hs]
  rw [et]
  have hlen : (bv ([] ++ (word m ++ s))).length = 2 + m := by rw [bv_length]; simp [word, hs]; omega
  clear et
  go_enter Try.func86, Try.ntmps86
  go_wp2_with fail
  refine P.mono ?_
  rintro e w1 ⟨rfl, k1, b1⟩
  have hr := k1.rd
  rw [hlen, List.nil_append] at hr
  have ho := own_keep h b1
  have hbw := Nat.le_trans hb b1.size
  clear k1 P hlen
  go_wp2_with (at_builtin; refine wpList_app2 rfl (.tmp 12) (.tmp 13) 31 rfl 5 _ _ Try.underlying31 u8_info rfl base A n c (bv xs) rfl ho (some ⟨w.heap.size, 0, none⟩) (2 + m) (2 + m) (bv (word m ++ s)) rfl hr (bv_one _) (by unfold maxLen; omega) (by omega) hbw ?_; intro A2 c2 w2 o2 b2 h2; rw [← bv_append] at o2)
  go_ret
  exact ((Trk.start h hb).keep b1 |>.step o2 b2 h2).ret (Below.refl _ _)

end Go.Proofs.Ytdlhcecmodefkaa

namespace Go.Proofs.Ytdlhcecmodefkaa
set_option linter.unusedVariables false
set_option linter.unusedSimpArgs false
open Go.RowKit

/-- A row of the caller's own, returned with ys. -/
def RetFin (base : Nat) (N : Nat) (ys : List UInt8) (w : World) (e : Ending) (w' : World) : Prop :=
  ∃ A' c', e = .returned (.slice A' N c') ∧ w'.ownsRow base 5 1 (.slice A' N c') N (bv ys) ∧ Below base w w'
theorem Trk.fin {base : Nat} {w0 w w1 : World} {A0 A : Option Addr} {c n : Nat} {xs : List UInt8} (h : Trk base w1 A0 A c n xs w) (b : Below w0.heap.size w0 w1) (hA : ∀ i, SoA A0 i → base ≤ i) (hb : base ≤ w0.heap.size) : RetFin base n xs w0 (.returned (.slice A n c)) w :=
  ⟨A, c, rfl, h.own, But.below (b.mono hb) h.but hA (Nat.le_trans hb b.size)⟩
theorem u8i : ∃ i, Try.prog.info? 5 = some i ∧ i.zero = some (.int .u8 0) ∧ i.size = 1 ∧ i.bytes = 1 := by
  obtain ⟨i, hi, hz⟩ := Option.map_eq_some_iff.1 u8_info
  simp only [Prod.mk.injEq] at hz
  exact ⟨i, hi, hz.1, hz.2.1, hz.2.2⟩
theorem strCells_bv (xs : List UInt8) : Lib.strCells (str xs) = bv xs := by
  unfold Lib.strCells bv
  rw [str_data]
theorem own_nslice {w : World} {base n : Nat} {xs : List Value} {v : Value} (h : w.ownsRow base 5 1 v n xs) : ∃ A c, v = .slice A n c := by
  rcases h.2 with ⟨rfl, rfl⟩ | ⟨g, cap, cur, rfl, -⟩
  · exact ⟨none, 0, rfl⟩
  · exact ⟨_, _, rfl⟩

set_option maxRecDepth 100000 in
set_option maxHeartbeats 2000000 in
theorem behindPublish_any (base : Nat) (A : Option Addr) (n c N : Nat) (xs : List UInt8) (p : Pk) (C : Option Addr) (nc kc : Nat) (S : Option Addr) (ns ks : Nat) (w : World) (h : w.ownsRow base 5 1 (.slice A n c) n (bv xs)) (hb : base ≤ w.heap.size) (hn : n ≤ 1000000) (h1 : p.topic.length ≤ 65535) (h2 : p.payload.length ≤ 65535) (h3 : 0 < p.qos → 0 ≤ p.id ∧ p.id ≤ 65535)
    (hN : n + (textL p.topic ++ (if 0 < p.qos then wordI p.id else []) ++ p.payload).length = N) : Calls Try.prog 64 #[.slice A n c, pkA p C nc kc S ns ks] w (RetFin base N (xs ++ (textL p.topic ++ (if 0 < p.qos then wordI p.id else []) ++ p.payload)) w) := by
  have hAl := own_lt h
  have hAb := ownS_new h
  obtain ⟨i0, hi, hz0, hz1, hz2⟩ := u8i
  obtain ⟨Y, hY⟩ : ∃ Y, textL p.topic ++ (if 0 < p.qos then wordI p.id else []) ++ p.payload = Y := ⟨_, rfl⟩
  rw [hY] at hN ⊢
  have HY := hide hY
  clear hY
  obtain ⟨ty, dup, id, topic, payload, qos, retain, client, clean, alive, hasWill, hasUser, hasPass, user, pass, present, codes, subs⟩ := p
  simp only [pkA] at h1 h2 h3 HY ⊢
  obtain ⟨lt, hlt⟩ : ∃ lt, topic.length = lt := ⟨_, rfl⟩
  obtain ⟨lp, hlp⟩ : ∃ lp, payload.length = lp := ⟨_, rfl⟩
  rw [hlt] at h1
  rw [hlp] at h2
  go_enter Try.func64, Try.ntmps64
  go_upto_region 1 with fail
  generalize hW : w.alloc _ = W
  obtain ⟨g, hg, hB, bW, -⟩ := boxedP (p := ⟨ty, dup, id, topic, payload, qos, retain, client, clean, alive, hasWill, hasUser, hasPass, user, pass, present, codes, subs⟩) hW
  have hT := Trk.start (own_keep h (by rw [hg]; exact bW)) (Nat.le_trans hb bW.size)
  have hgA : ¬ SoA A g := fun ⟨o, e⟩ => by have := hAl _ _ e; omega
  have bw : Below w.heap.size w W := by rw [hg]; exact bW
  rw [hg]
  have HB := hide hB
  have c3 := (Blk.p18 hB).2.2.2.1
  clear hW bW hB h
  go_wp2_with fail
  refine (addText_any base A n c lt (n + (2 + lt)) xs topic W hT.own hlt rfl (by omega) hT.base h1).mono ?_
  rintro e w1 ⟨A1, k1, rfl, o1, b1, q1⟩
  have hT := hT.step o1 b1 q1
  have HB1 := HB.out.but hT.but hgA
  have c2 := (Blk.p18 HB1).2.2.1
  have c4 := (Blk.p18 HB1).2.2.2.2.1
  have c5 := (Blk.p18 HB1).2.2.2.2.2.1
  clear o1 b1 q1 c3
  have hsz : (str payload).size = lp := by rw [str_size, hlp]
  by_cases h0 : 0 < qos
  · have q0 : qos > 0 := h0
    go_wp2_with fail
    refine (addWord_any base A1 (n + (2 + lt)) k1 (n + (2 + lt) + 2) (xs ++ textL topic) w1 id hT.own rfl (by omega) hT.base (h3 h0).1 (h3 h0).2).mono ?_
    rintro e w2 ⟨A2, k2, rfl, o2, b2, q2⟩
    have hT := hT.step o2 b2 q2
    have HB2 := HB.out.but hT.but hgA
    have c4 := (Blk.p18 HB2).2.2.2.2.1
    clear o2 b2 q2 c2 c5 HB1 HB2
    go_wp2_with (at_builtin; refine Lib.wpList_append_own_string _ rfl (.tmp 18) (.tmp 21) 31 9 rfl base 5 i0 Try.underlying31 Try.underlying9 hi hz0 hz1 hz2 _ (n + (2 + lt) + 2) _ rfl hT.own (str payload) rfl (by rw [hsz]; unfold maxLen; omega) (by rw [hsz]; omega) hT.base ?_; intro v2 w2 o2 b2 h2; rw [hsz, strCells_bv, ← bv_append] at o2)
    go_ret
    obtain ⟨A2, c2, rfl⟩ := own_nslice o2
    have hNN : N = (n + (2 + lt) + 2) + lp := by rw [← hN, ← HY.out]; simp [textL_len, hlt, hlp, wordI_length, h0]; omega
    have hYY : xs ++ Y = (xs ++ textL topic ++ wordI id) ++ payload := by rw [← HY.out]; simp [h0]
    rw [hNN, hYY]
    have hb2 : Below base _ w2 := (Below.refl base _).grown b2 hT.base (fun k hk => (hT.own.lt k hk).1)
    exact ⟨A2, c2, rfl, o2, (But.below (bw.mono hb) hT.but (fun i ⟨o, e⟩ => hAb i o e) (Nat.le_trans hb bw.size)).trans hb2⟩
  · have q0 : ¬ qos > 0 := h0
    clear HB1
    go_wp2_with (at_builtin; refine Lib.wpList_append_own_string _ rfl (.tmp 18) (.tmp 21) 31 9 rfl base 5 i0 Try.underlying31 Try.underlying9 hi hz0 hz1 hz2 _ (n + (2 + lt)) _ rfl hT.own (str payload) rfl (by rw [hsz]; unfold maxLen; omega) (by rw [hsz]; omega) hT.base ?_; intro v2 w2 o2 b2 h2; rw [hsz, strCells_bv, ← bv_append] at o2)
    go_ret
    obtain ⟨A2, c2, rfl⟩ := own_nslice o2
    have hNN : N = (n + (2 + lt)) + lp := by rw [← hN, ← HY.out]; simp [textL_len, hlt, hlp, wordI_length, (if_neg (show ¬ (0 < qos) by omega) : (if 0 < qos then wordI id else []) = [])]; omega
    have hYY : xs ++ Y = (xs ++ textL topic) ++ payload := by rw [← HY.out]; simp [(if_neg (show ¬ (0 < qos) by omega) : (if 0 < qos then wordI id else []) = [])]
    rw [hNN, hYY]
    have hb2 : Below base _ w2 := (Below.refl base _).grown b2 hT.base (fun k hk => (hT.own.lt k hk).1)
    exact ⟨A2, c2, rfl, o2, (But.below (bw.mono hb) hT.but (fun i ⟨o, e⟩ => hAb i o e) (Nat.le_trans hb bw.size)).trans hb2⟩

set_option maxRecDepth 100000 in
set_option maxHeartbeats 2000000 in
theorem behindCodes_any (base : Nat) (A : Option Addr) (n c N : Nat) (xs : List UInt8) (p : Pk) (C : Option Addr) (nc kc : Nat) (S : Option Addr) (ns ks : Nat) (w : World) (hM : PkM w p C nc kc S ns ks) (h : w.ownsRow base 5 1 (.slice A n c) n (bv xs)) (hb : base ≤ w.heap.size) (hn : n ≤ 1000000) (hCb : 0 < nc → ∀ i, SoA C i → i < base) (h65 : nc ≤ 65535) (hcs : ∀ z ∈ p.codes, 0 ≤ z ∧ z ≤ 255) (h3 : 0 ≤ p.id ∧ p.id ≤ 65535)
    (hN : n + 2 + nc = N) : Calls Try.prog 66 #[.slice A n c, pkA p C nc kc S ns ks] w (RetFin base N (xs ++ wordI p.id ++ p.codes.map byteI) w) := by
  obtain ⟨m1, -, mR, -, -, -⟩ := hM
  have hAl := own_lt h
  have hAb := ownS_new h
  have HN := hide hN
  obtain ⟨ty, dup, id, topic, payload, qos, retain, client, clean, alive, hasWill, hasUser, hasPass, user, pass, present, codes, subs⟩ := p
  simp only [pkA] at m1 mR hcs h3 ⊢
  go_enter Try.func66, Try.ntmps66
  go_upto_region 1 with fail
  generalize hW : w.alloc _ = W
  obtain ⟨g, hg, hB, bW, -⟩ := boxedP (p := ⟨ty, dup, id, topic, payload, qos, retain, client, clean, alive, hasWill, hasUser, hasPass, user, pass, present, codes, subs⟩) hW
  have hT := Trk.start (own_keep h (by rw [hg]; exact bW)) (Nat.le_trans hb bW.size)
  have hgA : ¬ SoA A g := fun ⟨o, e⟩ => by have := hAl _ _ e; omega
  have bw : Below w.heap.size w W := by rw [hg]; exact bW
  rw [hg]
  have HB := hide hB
  have c2 := (Blk.p18 hB).2.2.1
  have HR := hide (mR.keep bw)
  have HM1 := hide m1
  have Hcs := hide hcs
  have Hbw := hide bw
  clear hW bW hB h hN mR hcs bw
  go_wp2_with fail
  refine (addWord_any base A n c (n + 2) xs W id hT.own rfl (by omega) hT.base h3.1 h3.2).mono ?_
  rintro e w1 ⟨A1, k1, rfl, o1, b1, q1⟩
  have hT := hT.step o1 b1 q1
  have HB1 := HB.out.but hT.but hgA
  have c16 := (Blk.p18 HB1).2.2.2.2.2.2.2.2.2.2.2.2.2.2.2.2.1
  clear o1 b1 q1 c2
  have HT := hide hT
  clear hT HB1
  go_wp2_with fail
  go_loopw [0, 14] (fun v i wr => ∃ (k : Nat) (A2 : Option Addr) (c2 : Nat), i = .int .i64 (k : Int) ∧ k ≤ nc ∧ v = .slice A2 (n + 2 + k) c2 ∧ Trk base W A A2 c2 (n + 2 + k) (xs ++ wordI id ++ (codes.take k).map byteI) wr) (fun _ i _ => nc - (intOf i).toNat)
  case atStart => exact ⟨0, A1, k1, rfl, by omega, rfl, by simpa using HT.out⟩
  case round =>
    obtain ⟨k, A2, c2, rfl, hk, rfl, hT⟩ := hrel
    by_cases hlt : k < nc
    · have q1 : (k : Int) < (nc : Int) := by omega
      have hlt' : k < codes.length := by rw [HM1.out]; exact hlt
      obtain ⟨b, o, rfl, hbl, hcell⟩ := HR.out.at_ hlt
      have hbA : ¬ SoA A b := fun ⟨o', e'⟩ => by have h1 := hCb (by omega) b ⟨o, rfl⟩; have h2 := hAb _ _ e'; omega
      have cA : wr.cell? ⟨b, o + k, none⟩ = some (.int .i64 codes[k]) := (World.cell?_of_block (w := W) (hT.but.block b hbl hbA)).trans (hcell k _ (iv_get codes k hlt'))
      have htk : codes.take (k + 1) = codes.take k ++ [codes[k]] := (List.take_append_getElem hlt').symm
      have hz := Hcs.out codes[k] (List.getElem_mem hlt')
      generalize codes[k] = z at *
      obtain ⟨z, rfl⟩ : ∃ y : Nat, z = (y : Int) := ⟨z.toNat, by omega⟩
      have Htk := hide htk
      have wz : IntKind.u8.wrap (z : Int) = (z : Int) := by rw [IntKind.wrap_u8]; omega
      have hbz : bv [byteI (z : Int)] = [.int .u8 (z : Int)] := by rw [bv_cons]; unfold byteI; rw [Int.toNat_natCast, u8cell (by omega)]; rfl
      have HT := hide hT
      have hTb := hT.base
      clear hcell hlt' htk hbl hbA hT
      go_wp2_with (at_builtin; refine wpList_app2 rfl (.tmp 18) (.tmp 21) 31 rfl 5 _ _ Try.underlying31 u8_info rfl base A2 (n + 2 + k) c2 _ rfl (own_keep HT.out.own ((Below.refl _ _).alloc (Nat.le_refl _) _)) (some ⟨wr.heap.size, 0, none⟩) 1 1 [.int .u8 (z : Int)] rfl (rd_one wr 5 _) (by intro u hu; simp at hu; subst hu; rfl) (by unfold maxLen; omega) (by omega) (Nat.le_trans hTb (by simp)) ?_; intro A3 c3 w3 o3 b3 h3')
      have hT3 : Trk base W A A3 c3 (n + 2 + k + 1) (xs ++ wordI id ++ (codes.take (k + 1)).map byteI) w3 := by
        refine (HT.out.keep ((Below.refl _ _).alloc (Nat.le_refl _) _)).step ?_ b3 h3'
        rw [Htk.out, List.map_append, ← List.append_assoc, bv_append]
        rw [← hbz] at o3
        exact o3
      exact ⟨⟨k + 1, A3, c3, by go_num, by omega, rfl, hT3⟩, by simp [intOf]; omega⟩
    · obtain rfl : k = nc := by omega
      have q1 : ¬ (k : Int) < (k : Int) := by omega
      have HT := hide hT
      clear hT
      have hfull : codes.take k = codes := List.take_of_length_le (by rw [HM1.out]; exact Nat.le_refl _)
      go_wp2_with fail
      go_ret
      have hT := HT.out
      rw [hfull] at hT
      have := hT.fin Hbw.out (fun i ⟨o, e⟩ => hAb i o e) hb
      rw [HN.out, List.append_assoc] at this
      rw [← List.append_assoc]
      rw [← List.append_assoc] at this
      have hn2 : n + 2 + k = N := HN.out
      subst hn2
      exact this

end Go.Proofs.Ytdlhcecmodefkaa

namespace Go.Proofs.Ytdlhcecmodefkaa
set_option linter.unusedVariables false
set_option linter.unusedSimpArgs false
open Go.RowKit

theorem subL_len (t : Int) (s : List UInt8 × Int) (h : s.1.length ≤ 65535) : (subL t s).length ≤ 65538 := by
  unfold subL
  rw [List.length_append, textL_len]
  split <;> simp <;> omega
theorem flat_len (t : Int) : ∀ (l : List (List UInt8 × Int)), (∀ s ∈ l, s.1.length ≤ 65535) → (l.flatMap (subL t)).length ≤ l.length * 65538
  | [], _ => by simp
  | s :: l, h => by
    have h1 := subL_len t s (h s (by simp))
    have h2 := flat_len t l (fun t ht => h t (by simp [ht]))
    rw [List.flatMap_cons, List.length_append, List.length_cons]
    omega

set_option maxRecDepth 100000 in
set_option maxHeartbeats 4000000 in
theorem behindNames_any (base : Nat) (A : Option Addr) (n c N : Nat) (xs : List UInt8) (p : Pk) (C : Option Addr) (nc kc : Nat) (S : Option Addr) (ns ks : Nat) (w : World) (hM : PkM w p C nc kc S ns ks) (h : w.ownsRow base 5 1 (.slice A n c) n (bv xs)) (hb : base ≤ w.heap.size) (hn : n ≤ 1000000) (hSb : 0 < ns → ∀ i, SoA S i → i < base) (h65 : ns ≤ 65535) (hss : ∀ s ∈ p.subs, s.1.length ≤ 65535) (hqs : ∀ s ∈ p.subs, 0 ≤ s.2 ∧ s.2 ≤ 255) (h3 : 0 ≤ p.id ∧ p.id ≤ 65535)
    (hN : n + 2 + (p.subs.flatMap (subL p.ty)).length = N) : Calls Try.prog 65 #[.slice A n c, pkA p C nc kc S ns ks] w (RetFin base N (xs ++ wordI p.id ++ p.subs.flatMap (subL p.ty)) w) := by
  obtain ⟨-, -, -, m1, -, mR⟩ := hM
  have hAl := own_lt h
  have hAb := ownS_new h
  have HN := hide hN
  obtain ⟨ty, dup, id, topic, payload, qos, retain, client, clean, alive, hasWill, hasUser, hasPass, user, pass, present, codes, subs⟩ := p
  simp only [pkA] at m1 mR hss hqs h3 HN ⊢
  go_enter Try.func65, Try.ntmps65
  go_upto_region 1 with fail
  generalize hW : w.alloc _ = W
  obtain ⟨g, hg, hB, bW, -⟩ := boxedP (p := ⟨ty, dup, id, topic, payload, qos, retain, client, clean, alive, hasWill, hasUser, hasPass, user, pass, present, codes, subs⟩) hW
  have hT := Trk.start (own_keep h (by rw [hg]; exact bW)) (Nat.le_trans hb bW.size)
  have hgA : ¬ SoA A g := fun ⟨o, e⟩ => by have := hAl _ _ e; omega
  have bw : Below w.heap.size w W := by rw [hg]; exact bW
  rw [hg]
  have HB := hide hB
  have c2 := (Blk.p18 hB).2.2.1
  have HR := hide (mR.keep bw)
  have HM1 := hide m1
  have Hss := hide hss
  have Hqs := hide hqs
  have Hbw := hide bw
  clear hW bW hB h hN mR hss hqs bw
  go_wp2_with fail
  refine (addWord_any base A n c (n + 2) xs W id hT.own rfl (by omega) hT.base h3.1 h3.2).mono ?_
  rintro e w1 ⟨A1, k1, rfl, o1, b1, q1⟩
  have hT := hT.step o1 b1 q1
  have HB1 := HB.out.but hT.but hgA
  have c17 := (Blk.p18 HB1).2.2.2.2.2.2.2.2.2.2.2.2.2.2.2.2.2
  clear o1 b1 q1 c2
  have HT := hide hT
  clear hT HB1
  go_wp2_with fail
  clear c17
  go_loopw [0, 14] (fun v i wr => ∃ (k : Nat) (A2 : Option Addr) (c2 m : Nat), i = .int .i64 (k : Int) ∧ k ≤ ns ∧ m = n + 2 + ((subs.take k).flatMap (subL ty)).length ∧ v = .slice A2 m c2 ∧ Trk base W A A2 c2 m (xs ++ wordI id ++ (subs.take k).flatMap (subL ty)) wr) (fun _ i _ => ns - (intOf i).toNat)
  case atStart => exact ⟨0, A1, k1, n + 2, rfl, by omega, by simp, rfl, by simpa using HT.out⟩
  case round =>
    obtain ⟨k, A2, c2, m, rfl, hk, hm, rfl, hT⟩ := hrel
    by_cases hlt : k < ns
    · have q1 : (k : Int) < (ns : Int) := by omega
      have hlt' : k < subs.length := by rw [HM1.out]; exact hlt
      obtain ⟨b, o, rfl, hbl, hcell⟩ := HR.out.at_ (k := k * 2) (by omega)
      obtain ⟨g0, g1⟩ := subVs_get subs k hlt'
      have hbA : ¬ SoA A b := fun ⟨o', e'⟩ => by have h1 := hSb (by omega) b ⟨o, rfl⟩; have h2 := hAb _ _ e'; omega
      have cA : wr.cell? ⟨b, o + k * 2, none⟩ = some (.string (str subs[k].1)) := (World.cell?_of_block (w := W) (hT.but.block b hbl hbA)).trans (hcell _ _ g0)
      have cB : wr.cell? ⟨b, o + k * 2 + 1, none⟩ = some (.int .i64 subs[k].2) := (World.cell?_of_block (w := W) (hT.but.block b hbl hbA)).trans (hcell _ _ g1)
      have htk : subs.take (k + 1) = subs.take k ++ [subs[k]] := (List.take_append_getElem hlt').symm
      have hz := Hqs.out subs[k] (List.getElem_mem hlt')
      have hl := Hss.out subs[k] (List.getElem_mem hlt')
      have hfl := flat_len ty (subs.take k) (fun s hs => Hss.out s (List.mem_of_mem_take hs))
      have hlk : (subs.take k).length = k := by rw [List.length_take]; omega
      rw [hlk] at hfl
      generalize subs[k] = s at *
      obtain ⟨f, z⟩ := s
      simp only at cA cB hz hl
      have Htk := hide htk
      generalize hFk : (subs.take k).flatMap (subL ty) = Fk at *
      obtain ⟨z, rfl⟩ : ∃ y : Nat, z = (y : Int) := ⟨z.toNat, by omega⟩
      have hF2 : (subs.take (k + 1)).flatMap (subL ty) = Fk ++ subL ty (f, (z : Int)) := by rw [Htk.out, List.flatMap_append, hFk]; simp
      have wz : IntKind.u8.wrap (z : Int) = (z : Int) := by rw [IntKind.wrap_u8]; omega
      have hbz : bv [byteI (z : Int)] = [.int .u8 (z : Int)] := by rw [bv_cons]; unfold byteI; rw [Int.toNat_natCast, u8cell (by omega)]; rfl
      have hml : m ≤ 5000000000 := by omega
      have HF2 := hide hF2
      have HFl := hide (show m = n + 2 + Fk.length from hm)
      have hT := hT
      have hTb := hT.base
      obtain ⟨lf, hlf⟩ : ∃ lf, f.length = lf := ⟨_, rfl⟩
      rw [hlf] at hl
      have Hlf := hide hlf
      have HT := hide hT
      clear hcell hlt' htk hbl hbA hT hfl hlk hF2 hFk hm g0 g1 hlf
      go_wp2_with fail
      generalize hV : wr.alloc _ = V
      have bV : Below wr.heap.size wr V := by rw [← hV]; exact (Below.refl _ _).alloc (Nat.le_refl _) _
      have zV : Blk V wr.heap.size 59 [.string (str f), .int .i64 (z : Int)] := by rw [← hV]; exact Blk.new wr 59 _
      have hT := HT.out.keep bV
      have hgs : ¬ SoA A2 wr.heap.size := fun ⟨o', e'⟩ => by have := own_lt HT.out.own _ _ e'; omega
      have hggs : g < wr.heap.size := by have := (HB.out.but HT.out.but hgA).lt; exact this
      obtain ⟨gs, hgs2⟩ : ∃ gs, wr.heap.size = gs := ⟨_, rfl⟩
      rw [hgs2] at zV hgs hggs ⊢
      clear hV bV hgs2 cA cB
      refine (addText_any base A2 m c2 lf (m + (2 + lf)) (xs ++ wordI id ++ Fk) f V hT.own Hlf.out rfl (by omega) hT.base hl).mono ?_
      rintro e w3 ⟨A3, k3, rfl, o3, b3, q3⟩
      have zV3 := zV.but b3 hgs
      have hT := hT.step o3 b3 q3
      have HB3 := HB.out.but hT.but hgA
      have c0 := (Blk.p18 HB3).1
      have z1 := zV3.cell 1
      simp only [List.getElem?_cons_zero, List.getElem?_cons_succ] at z1
      have hTb3 := hT.base
      have HT := hide hT
      clear o3 b3 q3 zV zV3 HB3 hT
      by_cases h8 : ty = 8
      · have hs8 : subL ty (f, (z : Int)) = textL f ++ [byteI (z : Int)] := by unfold subL; rw [if_pos h8]
        have qt : (ty == 8) = true := by simp [h8]
        clear h8
        go_wp2_with (at_builtin; refine wpList_app2 rfl (.tmp 25) (.tmp 29) 31 rfl 5 _ _ Try.underlying31 u8_info rfl base A3 (m + (2 + lf)) k3 _ rfl (own_keep HT.out.own ((Below.refl _ _).alloc (Nat.le_refl _) _)) (some ⟨w3.heap.size, 0, none⟩) 1 1 [.int .u8 (z : Int)] rfl (rd_one w3 5 _) (by intro u hu; simp at hu; subst hu; rfl) (by unfold maxLen; omega) (by omega) (Nat.le_trans hTb3 (by simp)) ?_; intro A4 c4 w4 o4 b4 h4')
        have hT4 : Trk base W A A4 c4 (m + (2 + lf) + 1) (xs ++ wordI id ++ (subs.take (k + 1)).flatMap (subL ty)) w4 := by
          refine (HT.out.keep ((Below.refl _ _).alloc (Nat.le_refl _) _)).step ?_ b4 h4'
          rw [HF2.out, hs8]
          rw [← hbz, ← bv_append] at o4
          simp only [List.append_assoc] at o4 ⊢
          exact o4
        exact ⟨⟨k + 1, A4, c4, m + (2 + lf) + 1, by go_num, by omega, by rw [HF2.out, hs8, HFl.out]; simp [textL_len, Hlf.out]; omega, rfl, hT4⟩, by simp [intOf]; omega⟩
      · have hs8 : subL ty (f, (z : Int)) = textL f := by unfold subL; rw [if_neg h8]; simp
        have qt : (ty == 8) = false := by simp [h8]
        clear h8
        go_wp2_with fail
        have hT4 : Trk base W A A3 k3 (m + (2 + lf)) (xs ++ wordI id ++ (subs.take (k + 1)).flatMap (subL ty)) w3 := by
          rw [HF2.out, hs8]
          have := HT.out
          simp only [List.append_assoc] at this ⊢
          exact this
        exact ⟨⟨k + 1, A3, k3, m + (2 + lf), by go_num, by omega, by rw [HF2.out, hs8, HFl.out]; simp [textL_len, Hlf.out]; omega, rfl, hT4⟩, by simp [intOf]; omega⟩
    · obtain rfl : k = ns := by omega
      have q1 : ¬ (k : Int) < (k : Int) := by omega
      have hfull : subs.take k = subs := List.take_of_length_le (by rw [HM1.out]; exact Nat.le_refl _)
      rw [hfull] at hm hT
      have hmN : m = N := by rw [hm]; exact HN.out
      have hF := hT.fin Hbw.out (fun i ⟨o, e⟩ => hAb i o e) hb
      have HF := hide hF
      subst hmN
      clear hT hF hm hfull
      go_wp2_with fail
      go_ret
      have := HF.out
      simp only [List.append_assoc] at this ⊢
      exact this

end Go.Proofs.Ytdlhcecmodefkaa
